import PyProof.Rows.All
import Wide.All
import KE.KDictOf
import KE.KFromBytes
import KE.KIntText
import KE.KNestM
import Wide.FinOn
import Lean
import PyProof.EqAt
import PyProof.EqKinds
import PyProof.TupleCall
import PyProof.NeData
import PyProof.ZipIter
import PyProof.WalksEnum
import PyProof.Rows.SetFrom
import PyProof.StrLawsTight
import PyProof.StrLawsChain
import PyProof.StrCalls2
import PyProof.ListStr
import PyProof.Rows.StrOrd
import KE.KRevIter
import PyProof.ExcInit
import PyProof.InstStoreFacts
import PyProof.ExcArgs
import PyProof.ExcAttrAll.ValueError
import PyProof.NsDelKeeps
import PyProof.RulesAs
import OpenK.KCls
import PyProof.Rows.TupAssign
import PyProof.StrLawsIn
import KE.KDictSum
import PyProof.DictWalks
import PyProof.Rows.CountFlat
import KE.KTryMore
import KE.KxWritten
import KE.KStrOpen
import KE.KSortTup
import KE.KNest
import PyProof.FString5
import KE.KDictList
import PySem.Challenge.RW_turnleaf_k95_whole_marks_kept
open PySem renaming Addr->δ,Value->ε,Shared->μ,wpAny->ν,wpAny_bind->π,model->Ϧ,Stmt->ϧ,Expr->Ϩ,Heap->ϫ,World->Ϭ,Program->Ϯ,wpAny_pure->ϯ,sizeLine->ϰ,sizeLine_eq->ϱ,Around->ϳ,starEach->abo,compareOp->ad7,wpAny_mono->aef,wpAny_holding->af6,wpAny_truthy_bool->ahw,wpAny_field->ahQ,Scope->ahU,FuncData->ah2,wpAny_newObj_type->aiL,wpAny_Call_Name_kw->ajK,wpAny_passesOwn->akl,codeAny_mono->akq,wpAny_pyIter_list->akt,PassesOwn->akX,SetTable->ak2,tupleKind_room_in1->alh,wpAny_setField_rec->alo,ExceptHandler->alD,wpAny_seqItems->amG,wpAny_attempt->amX,codeAny_builtin->am1,typeIs_str->am3,call_meets->am4,swapsWith->am6,wpAny_callSpecial?_slot->am7,NameKind->ang,Builtin->anh,wpAny_nextOf_list_item->ani
open PySem.W renaming Frag->ϩ,findIn->afc,specialIn->ah1,mg_of->ajF,emptyDict->ak7,hasDictIn->alZ,kia_one->amg,keepIn->amY,mroIn->am2,instObj->ano,plainGet->anu,typeIn->anC,kitOne->anD,takesIn->anK,readsIn->anR,findCls->anS,plainOver->anV,codeIn->anW,takerIn->aof,callWith_K->aoj,clsIn->aok,methodCall_KW->aol,any_some->aoq,looks_findIn->aou,plainGet_of->aoC,isFn->aoD,fnOf->aoE,exmOne->aoF,cellsFrom_some->aoR,lookIn->ao3,InstAt->ao4,methodObj->ao5,makesIn->ao6,nsIn->apg,findObj->apr,excIn->apv,subIn->apw
open PySem.Str renaming ofString->Ϫ,join->aeM,empty->akO,length->anM
open Nat renaming le_refl->ϭ,lt_of_lt_of_le->abM,ne_of_lt->adv,le_trans->aeO,lt_of_le_of_lt->afZ,zero_le->agn,add_le_add_left->aiv,lt_irrefl->aiE,min_eq_left->ajr,le_add_right->aj9,ne_of_gt->alY,le_of_eq->al5,min_le_right->amZ,zero_add->am5,le_succ->ank,lt_succ_of_lt->anl,le_of_lt->anp,sub_zero->anE,min_eq_right->an8,le_of_ble_eq_true->aoe,mul_le_mul_right->aos,toDigits_ne_nil->aox,lt_succ_self->aoQ,le_of_not_lt->aoT,min_le_left->ao7,toDigits->aps,sub_self->apt,add_zero->apu
open List renaming mem_cons->ϲ,getElem?_eq_getElem->aah,getElem?_eq_some_iff->aai,length_map->aav,mem_of_getElem?->aaM,size_toArray->aa8,getElem?_map->abD,length_append->abK,mem_singleton->acN,getD_eq_getElem?_getD->acO,length_cons->acV,all_eq_true->acX,mem_map->adw,mem_cons_of_mem->adP,mem_append->adU,find?_cons->adZ,map_cons->ad4,mem_of_mem_drop->ael,mem_cons_self->aex,length_drop->aeB,mem_append_right->aeC,mem_of_mem_take->aeR,range->aeZ,toArray->ae0,length_singleton->afe,map_map->afC,drop_eq_getElem_cons->afE,length_take->afM,lookup_cons->agB,getElem_mem->agJ,not_mem_nil->ahh,take_of_length_le->ahv,length_filter_le->ahW,mem_filter->ahZ,lookup->ais,mem_append_left->aiM,length->aji,map_congr_left->ajx,getElem?_append_left->akE,ne_nil_of_length_eq_add_one->akL,foldl_cons->akW,any_cons->ale,filter_cons->alx,any_eq_true->aly,replicate->alB,getElem?_set_self->alI,drop_eq_nil_of_le->alJ,dropLast_concat_getLast->alL,pairwise_cons->alX,nodup_cons->aml,forIn_cons->amn,getElem?_concat_length->amr,take_append_drop->amA,countP_le_length->amF,append_assoc->amK,getElem?_append_right->amM,drop_zero->amW,take_length->am0,mem_filterMap->am8,append_nil->am9,length_eq_zero_iff->anc,sum_cons->anf,forIn_nil->anm,getElem?_eq_none->anq,getElem?_set_ne->ant,filterMap_cons->anv,map_append->anx,exists_cons_of_ne_nil->anA,getElem?_drop->anF,filter_append->anG,mem_range->anH,pairwise_iff_getElem->anI,append_eq_append_iff->anJ,getElem?_take_of_lt->anL,length_range->anO,nodup_append->anP,take_add_one->anQ,pairwise_map->anT,mapM_toArray->anU,all_cons->anZ,map_id->an5,append_cancel_left->an6,drop_length->an9,drop_of_length_le->aob,range_succ_eq_map->aod,of_mem_zip->aog,length_replicate->aoh,length_nil->aoi,nil_append->aoo,getElem?_reverse->aop,forall_mem_cons->aor,pairwise_append->aot,drop_drop->aov,getElem_of_mem->aow,filter_sublist->aoy,length_pos_iff->aoA,contains_cons->aoG,zip_cons_cons->aoJ,foldl_append->aoK,reverse_perm->aoL,all_map->aoO,getElem_inj->aoP,zipIdx_cons->aoW,cons_append->aoY,ext_getElem->aoZ,all_toArray->ao1,nodup_range->ao2,zipIdx_nil->ao8,range_succ->apa,not_lt->apb,filter_map->apc,filter_nil->apd,lt_irrefl->ape,map->api,lt_trans->apj,map_drop->apk,map_take->apl,map_nil->apo
open PySem.Heap renaming get?_push_of_some->ϴ,get?_push_size->abb,lt_size->abL,get?_update_other->ac2,get?_update_self->agk,size_push->aiO,SameBut->akp,get?_none_of_le->amP,size_after_update->aoa,get?_update_ne->aoz,get?_push_ne->aoM,size_update->ao0,IsList->ao9
open Bool renaming false_ne_true->aaN,and_eq_true->aa2,eq_iff_iff->ahR,eq_false_iff->aiP,true_and->alf,false_and->amV,false_eq_true->ana,or_eq_true->anb,or_false->anY,false_or->an0,not_eq_true->aoV,decide_or->apf,true_or->apn
open Int renaming eq_ofNat_of_zero_le->acf,emod_lt_of_pos->alN,emod_nonneg->ane,toNat_natCast->anj,toNat_of_nonneg->anz,add_emod->aom,mul_emod->aon,emod_emod->aoH,emod_eq_of_lt->aoN,zero_add->apq
open Option renaming map_eq_some_iff->aiq,isSome_iff_exists->akT,isSome_map->anN,bind_some->an7,map_eq_none_iff->aoc,getD_none->aoS,getD_some->aoU
open Array renaming getElem?_setIfInBounds_ne->aiu,length_toList->aja,getElem?_eq_none->aj4,getElem?_eq_some_iff->aj5,getElem?_toList->anr,toList_append->anw,perm_iff_toList_perm->anB,find?_toList->aoB,forIn_toList->aoI,toList_inj->aoX,getD->aph,toList->apm
set_option maxHeartbeats 4000000
set_option Elab.async false
set_option linter.all false
set_option compiler.extract_closed false
set_option maxRecDepth 100000
local macro_rules | `(tactic| walk_at "sc") => `(tactic| exact ⟨rfl, rfl, rfl, by decide +kernel, rfl, by decide +kernel, by decide +kernel⟩)
local macro_rules | `(tactic| omega) => `(tactic| lia)
open Lean Parser.Tactic in
local macro_rules(kind:=Lean.Parser.Tactic.tacticLet__)|s=>do
 let rec g:Nat->Term->MacroM (TSyntax `rcasesPat)
  |0,_=>Macro.throwUnsupported
  |n+1,s=>do match s with
   |`(#[$x,*])=>let y<-x.getElems.mapM λz=>do let z<-g n z;`(rcasesPatLo|$z:rcasesPat)
                `(rcasesPat|⟨$y,*⟩)
   |`(_)=>`(rcasesPat|_)
   |`($i:ident)=>`(rcasesPat|$i:ident)
   |_=>Macro.throwUnsupported
 match s with
 |`(tactic|let $p:term:=$e)=>do
  let q<-g 9 p
  `(tactic|obtain $q:rcasesPat:=$e)
 |_=>return(s.setKind ``tacticHave__).setArg 0 (mkAtom "have")
local macro_rules|`(#[$x,*])=>`(⟨$x,*⟩)
local macro_rules|`(#v[$x,*])=>`(List.toArray [$x,*])
local macro_rules|`(tactic|show $e)=>`(tactic|refine $e)
local macro_rules|`(tactic|lk)=>`(tactic|walk_at "ex")
local macro_rules|`(tactic|cbv)=>`(tactic|walk_at "go")
local macro_rules|`(tactic|f_are)=>`(tactic|walk_at "e")
local macro_rules|`(tactic|f_tup)=>`(tactic|walk_at "s")
local macro_rules|`(tactic|k_go)=>`(tactic|walk_at "A")
local macro_rules|`(tactic|room)=>`(tactic|walk_at "sc")
local macro_rules|`(tactic|w_up)=>`(tactic|walk_at "c")
local macro_rules|`(tactic|f_len)=>`(tactic|walk_at "n")
local macro_rules|`(())=>`(by omega)
local macro_rules|`(tactic|fin2)=>`(tactic|decide+kernel)
namespace _L
open PySem PySem.Spec PyProof.Rows
abbrev Key:=Sum Int Str
def pA:Key->ε->Bool
 |.inl k,v=>Value.isInt k v
 |.inr x,v=>Value.isStrOf x v
def adO(w:Ϭ):Key->Int
 |.inl k=>hashInt k
 |.inr x=>hashStr w x
theorem iR:∀{k:Key}{v:ε},pA k v=true->(∃i t,k=Sum.inl i/\v=Value.int i t)\/(∃x t,k=Sum.inr x/\v=Value.str x t)
 |.inl i,v,h=>by
   let#[t,e]:=Value.isInt_shape (k:=i) (v:=v) h;show .inl #[i,t,rfl,e]
 |.inr x,v,h=>by
   let#[t,e]:=Value.isStrOf_shape (x:=x) (v:=v) h;show .inr #[x,t,rfl,e]
theorem agN(i:Int)(t:Tok):pA (.inl i) (.int i t)=true:=by simp[pA,Value.isInt]
theorem Ye(x:Str)(t:Tok):pA (.inr x) (.str x t)=true:=by simp[pA,Value.isStrOf]
theorem aaF(a b:Int):decide ((Sum.inl a:Key)=Sum.inl b)=(a==b):=by
 by_cases e:a=b
 .subst e;simp
 .let h:¬(Sum.inl a:Key)=Sum.inl b:=λq=>e (Sum.inl.inj q)
  rw[decide_eq_false h];show(beq_eq_false_iff_ne.mpr e).symm
theorem adN(a b:Str):decide ((Sum.inr a:Key)=Sum.inr b)=decide (a=b):=by
 by_cases e:a=b
 .subst e;simp
 .let h:¬(Sum.inr a:Key)=Sum.inr b:=λq=>e (Sum.inr.inj q)
  rw[decide_eq_false h,decide_eq_false e]
theorem ZQ(a:Int)(b:Str):decide ((Sum.inl a:Key)=Sum.inr b)=false:=decide_eq_false (λq=>nomatch q)
theorem aiN(a:Str)(b:Int):decide ((Sum.inr a:Key)=Sum.inl b)=false:=decide_eq_false (λq=>nomatch q)
def cP(prog:Ϯ)(w:Ϭ):PySem.KeyKind prog w Key where
 is:=pA
 hash:=adO w
 inj:=λv a b g f=>by
  obtain⟨i,t,rfl,rfl⟩|⟨x,t,rfl,rfl⟩:=iR g
  .obtain⟨j,u,rfl,e⟩|⟨y,u,rfl,e⟩:=iR f
   .injection e with e1 _;rw[e1]
   .show nomatch e
  .obtain⟨j,u,rfl,e⟩|⟨y,u,rfl,e⟩:=iR f
   .show nomatch e
   .injection e with e1 _;rw[e1]
 byValue:=λk v h=>by
  obtain⟨i,t,rfl,rfl⟩|⟨x,t,rfl,rfl⟩:=iR h<;>rfl
 pyHash:=λc h=>by
  obtain⟨i,t,rfl,rfl⟩|⟨x,t,rfl,rfl⟩:=iR c
  .show wpAny_pyHash_int h
  .show wpAny_pyHash_str h
 eqBool:=λl c h=>by
  obtain⟨i,t,rfl,rfl⟩|⟨x,t,rfl,rfl⟩:=iR l
  .obtain⟨j,u,rfl,rfl⟩|⟨y,u,rfl,rfl⟩:=iR c
   .rw[aaF]at h;show wpAny_eqBool_int h
   .rw[ZQ]at h;show SeqAt.EqAt.int_str i t y u _ _ _ _ h
  .obtain⟨j,u,rfl,rfl⟩|⟨y,u,rfl,rfl⟩:=iR c
   .rw[aiN]at h;show SeqAt.EqAt.str_int x t j u _ _ _ _ h
   .rw[adN]at h;show wpAny_eqBool_str h
 «strs» :=λk x t v h=>by
  obtain⟨i,u,rfl,e⟩|⟨y,u,rfl,e⟩:=iR h
  .show nomatch e
  .injection e with e1 _
   subst e1;cases v<;>rfl
theorem aaH(prog:Ϯ)(w:Ϭ)(i:Int)(t:Tok):(cP prog w).is (.inl i) (.int i t)=true:=agN i t
theorem aem(prog:Ϯ)(w:Ϭ)(x:Str)(t:Tok):(cP prog w).is (.inr x) (.str x t)=true:=Ye x t
inductive V where
 |non|bl (b:Bool)|int (i:Int)|str (x:Str)|byt (b:Array UInt8)|flt (b:UInt64)|ref (a:δ)|ty (n:String)
 deriving DecidableEq
def RelV:V->ε->Prop
 |.non,u=>u=Value.none
 |.bl b,u=>u=Value.bool b
 |.int i,u=>∃t,u=Value.int i t
 |.str x,u=>∃t,u=Value.str x t
 |.byt b,u=>∃t,u=Value.bytes b t
 |.flt b,u=>∃t,u=Value.float b t
 |.ref a,u=>u=Value.ref a
 |.ty n,u=>u=Value.type n
abbrev Vals:List V->List ε->Prop:=Paired RelV
theorem Vals.length{xs:List V}{us:List ε}(r:Vals xs us):xs.length=us.length:=Paired.length r
theorem Vals.get:∀{xs:List V}{us:List ε}{i:Nat}{x:V},Vals xs us->xs[i]?=some x->∃u,us[i]?=some u/\RelV x u
 |_,_,_,_,.nil,e=>by simp at e
 |_,_,0,_,.cons r _,e=>by simp at e;subst e;show#[_,rfl,r]
 |_,_,i+1,x,.cons _ t,e=>by
  let#[u,h1,h2]:=Vals.get (i:=i) (x:=x) t (by simpa using e);show#[u,by simpa using h1,h2]
theorem Vals.append:∀{xs ys:List V}{us ws:List ε},Vals xs us->Vals ys ws->Vals (xs++ys) (us++ws)
 |_,_,_,_,.nil,s=>s
 |_,_,_,_,.cons r t,s=>.cons r (Vals.append t s)
theorem Vals.take:∀{xs:List V}{us:List ε}(n:Nat),Vals xs us->Vals (xs.take n) (us.take n)
 |_,_,0,_=>.nil
 |_,_,_+1,.nil=>.nil
 |_,_,n+1,.cons r t=>.cons r (Vals.take n t)
theorem Vals.drop:∀{xs:List V}{us:List ε}(n:Nat),Vals xs us->Vals (xs.drop n) (us.drop n)
 |_,_,0,r=>r
 |_,_,_+1,.nil=>.nil
 |_,_,n+1,.cons _ t=>Vals.drop n t
def bZ:Option V->Option ε->Prop
 |some v,some u=>RelV v u
 |none,none=>True
 |_,_=>False
def KV{κ:Type}:List (κ×V)->List (κ×ε)->Prop:=Paired λ(p:κ×V)(q:κ×ε)=>p.1=q.1/\RelV p.2 q.2
def kV:Key->V
 |.inl i=>.int i
 |.inr x=>.str x
inductive HO where
 |lst (xs:List V)
 |tup (xs:List V)
 |dK (Ϸ:List (Key×V))|dT (Ϸ:List (List Key×V))
 |set (S:Int->Bool) (n:Nat)
 |ins (C dx:δ) (fs:List (Str×V))
 |own (x:δ)
 |xd (fs:List (Str×V))
 |met (f x:δ)
 |rng (lo hi:Int)
 |frz (o:Obj) (u:HO)
 |tbl (ps:Array ε)
 |ext (φ:ϫ->Prop)
theorem Ζ{n:Nat}(h:n.ble 1000=true:=by rfl):n<=ϰ:=aeO (aoe h) (by rw[ϱ];decide)
abbrev Hp:=δ->Option HO
def upd(H:Hp)(a:δ)(o:HO):Hp:=λb=>if b=a then some o else H b
theorem υ{H:Hp}{a:δ}{o:HO}:upd H a o a=some o:=by unfold upd;rw[if_pos rfl]
theorem ο{H:Hp}{a b:δ}{o:HO}(h:b≠a):upd H a o b=H b:=by unfold upd;rw[if_neg h]
theorem afT{H:Hp}{a b:δ}{o u:HO}(h:H a=some o)(h':H b=some u)(d:o≠u):a≠b:=by
 intro e;subst e;rw[h]at h';show d (Option.some.inj h')
theorem Ϗ{H:Hp}{a b:δ}{o:HO}(h:H a=some o)(h':H b=none):a≠b:=by
 intro e;subst e;rw[h]at h';cases h'
section
variable(P:Ϯ)(w:Ϭ)
def ϕ(H:Hp)(h:ϫ)(a:δ):HO->Prop
 |.lst xs=>xs.length<=ϰ/\∃(e:List ε)(n:Nat),Vals xs e/\h.get? a=some {cls:=.type "list",data:=.seq e.toArray n}
 |.tup xs=>xs.length<=ϰ/\∃e:List ε,Vals xs e/\IsTup h a e.toArray
 |.dK Ϸ=>Ϸ.length<=ϰ/\(a==sysModules)=false/\∃vs,KV Ϸ vs/\h.DictOf (cP P w) a vs
 |.dT Ϸ=>Ϸ.length<=ϰ/\(a==sysModules)=false/\∃xs:List (List Key×δ×ε),
   Paired (λ(p:List Key×V)(q:List Key×δ×ε)=>p.1=q.1/\H q.2.1=some (.tup (p.1.map kV))/\RelV p.2 q.2.2) Ϸ xs/\
   ∃o es ep,h.get? a=some o/\o.ExactDict/\o.data=.dict es ep/\es.toList=xs.map (entryOfKey (tupleKind (cP P w)))/\(xs.map (·.1)).Nodup
 |.set S n=>h.SetOf (intKind P w) a S n
 |.ins C dx fs=>H dx=some (.own a)/\fs.length<=1000/\dx≠a/\h.get? a=some (ano C dx)/\
   ∃mA,h.Ns1 dx mA/\(∀f,bZ (fs.lookup f) (mA f))/\PySem.Within mA (fs.map (·.1))
 |.own _=>∃o,h.get? a=some o
 |.xd fs=>∃mA,h.Ns1 a mA/\∀f,bZ (fs.lookup f) (mA f)
 |.rng lo hi=>∃t u v,h.get? a=some {cls:=.type "range",data:=.fields #v[.int lo t,.int hi u,.int 1 v]}
 |.frz o u=>h.get? a=some o/\ϕ H h a u
 |.tbl ps=>∃g:Array ε,h.get? a=some {cls:=.none,data:=.fields g}/\TriplesOk g.toList/\∀(p:Pos)(i:ε),codeAmong p g.toList=some i->∃c oc u q t vs t',i=.ref c/\codeAmong p ps.toList=some (.str q t)/\H c=some (.frz oc u)/\oc.data=.fields vs/\vs[1]?=some (.str q t')
 |.met f x=>h.get? a=some (ao5 (.ref f) (.ref x))
 |.ext φ=>φ h/\(∃o,h.get? a=some o)/\∀h1 h2:ϫ,φ h1->(∀o,h1.get? a=some o->h2.get? a=some o)->φ h2
def Ϣ(H:Hp)(h:ϫ):=∀a o,H a=some o->ϕ P w H h a o
end
section
variable{P:Ϯ}{w:Ϭ}{H H':Hp}{h h':ϫ}{a:δ}{o:HO}
theorem ϕ.there(x:ϕ P w H h a o):∃ob,h.get? a=some ob:=by
 cases o with
 |lst xs=>let#[_,_,_,_,e]:=x;show#[_,e]
 |tup xs=>let#[_,_,_,ob,e,_]:=x;show#[_,e]
 |dK Ϸ=>let#[_,_,_,_,o,_,_,e,_]:=x;show#[_,e]
 |dT Ϸ=>let#[_,_,_,_,o,_,_,e,_]:=x;show#[_,e]
 |set S n=>let#[o,_,_,_,e,_]:=x;show#[_,e]
 |ins C dx fs=>let#[_,_,_,e,_]:=x;show#[_,e]
 |own y=>let#[_,e]:=x;show#[_,e]
 |xd fs=>let#[_,#[_,_,_,e,_],_]:=x;show#[_,e]
 |rng lo hi=>let#[_,_,_,e]:=x;show#[_,e]
 |frz ob u=>let#[e,_]:=x;show#[_,e]
 |tbl ps=>let#[_,e,_]:=x;show#[_,e]
 |met f y=>show#[_,(show h.get? a=some _ from x)]
 |ext φ=>let#[_,#[_,e],_]:=x;show#[_,e]
theorem ϕ.lt(x:ϕ P w H h a o):a<h.objs.size:=by
 let#[_,e]:=x.there;show abL e
theorem Paired.mapP{α β:Type}{F G:α->β->Prop}:∀{c:List α}{e:List β},Paired F c e->(∀a b,F a b->G a b)->Paired G c e
 |_,_,.nil,_=>.nil
 |_,_,.cons r t,f=>.cons (f _ _ r) (Paired.mapP t f)
theorem ϕ.stay(x:ϕ P w H h a o)(k:∀b u,(b=a\/H b=some (.own a))->h.get? b=some u->h'.get? b=some u)(l:∀b,H b=some (.own a)->H' b=some (.own a))(m:∀b xs,H b=some (.tup xs)->H' b=some (.tup xs))(s:∀b g u,H b=some (.frz g u)->H' b=some (.frz g u):=by show λ_ _ _ q=>q):ϕ P w H' h' a o:=by
 induction o with
 |lst xs=>let#[z,i,n,r,e]:=x;show#[z,i,n,r,k _ _ (.inl rfl) e]
 |tup xs=>let#[z,i,r,g,e,c]:=x;show#[z,i,r,g,k _ _ (.inl rfl) e,c]
 |dK Ϸ=>let#[z,y,vs,r,g,es,ep,e,c]:=x;show#[z,y,vs,r,g,es,ep,k _ _ (.inl rfl) e,c]
 |dT Ϸ=>
  let#[z,y,xs,r,g,es,ep,e,c]:=x;show#[z,y,xs,Paired.mapP r λp q z=>#[z.1,m _ _ z.2.1,z.2.2],g,es,ep,k _ _ (.inl rfl) e,c]
 |set S n=>let#[g,es,ep,t,e,c]:=x;show#[g,es,ep,t,k _ _ (.inl rfl) e,c]
 |ins C dx fs=>
  let#[d,z,ne,e,mA,#[od,es,ep,j,c],r]:=x;show#[l _ d,z,ne,k _ _ (.inl rfl) e,mA,#[od,es,ep,k _ _ (.inr d) j,c],r]
 |own y=>let#[g,e]:=x;show#[g,k _ _ (.inl rfl) e]
 |xd fs=>let#[mA,#[od,es,ep,e,c],r]:=x;show#[mA,#[od,es,ep,k _ _ (.inl rfl) e,c],r]
 |rng lo hi=>let#[t,u,v,e]:=x;show#[t,u,v,k _ _ (.inl rfl) e]
 |frz g u B=>let#[e,q]:=x;show#[k _ _ (.inl rfl) e,B q]
 |tbl ps=>
  let#[D,e,tr,z]:=x;show#[D,k _ _ (.inl rfl) e,tr,λp E F=>?_];let#[c,oc,u,q,t,vs,t',e1,j,G,I]:=z p E F;show#[c,oc,u,q,t,vs,t',e1,j,s _ _ _ G,I]
 |met f y=>
  let e:h.get? a=some (ao5 (.ref f) (.ref y)):=x;show h'.get? a=some (ao5 (.ref f) (.ref y));show k a _ (.inl rfl) e
 |ext φ=>let#[p,#[o,e],st]:=x;show#[st _ _ p λo q=>k _ _ (.inl rfl) q,#[o,k _ _ (.inl rfl) e],st]
theorem Ϣ.lt(x:Ϣ P w H h)(e:H a=some o):a<h.objs.size:=(x a o e).lt
theorem Ϣ.fresh(x:Ϣ P w H h)(e:h.objs.size<=a):H a=none:=by
 cases q:H a with
 |none=>rfl
 |some u=>show absurd (abM (x.lt q) e) (aiE _)
theorem Ϣ.kept(x:Ϣ P w H h)(k:∀b u,h.get? b=some u->h'.get? b=some u):Ϣ P w H h':=λa o e=>
 (x a o e).stay (λb u _ q=>k b u q) (λ_ q=>q) λ_ _ q=>q
theorem Ϣ.laid(x:Ϣ P w H h)(k:∀b u,h.get? b=some u->h'.get? b=some u)(j:h.objs.size<=a)(f:ϕ P w (upd H a o) h' a o):Ϣ P w (upd H a o) h':=λb u e=>by
 let g:=x.fresh j;by_cases i:b=a
 .subst i;rw[υ]at e;cases e;show f
 .rw[ο i]at e;show(x b u e).stay (λc v _ q=>k c v q) (λc q=>by rw[ο (Ϗ q g)];show q) (λc xs q=>by rw[ο (Ϗ q g)];show q) λc l v q=>by rw[ο (Ϗ q g)];show q
end
def Rd(H:Hp)(a:δ)(u:HO):Prop:=H a=some u\/∃o,H a=some (.frz o u)
theorem Rd.ok{P:Ϯ}{w:Ϭ}{H:Hp}{h:ϫ}{a:δ}{u:HO}(r:Rd H a u)(x:Ϣ P w H h):ϕ P w H h a u:=by
 obtain r|⟨o,r⟩:=r
 .show x a u r
 .let#[_,q]:=x a _ r;show q
def sW:Option HO->Prop
 |some (.lst _)=>True
 |some (.dK _)=>True
 |some (.dT _)=>True
 |some (.set _ _)=>True
 |some (.ins _ _ _)=>True
 |some (.ext _)=>True
 |_=>False
section
variable{P:Ϯ}{w:Ϭ}{H:Hp}{h h':ϫ}{x e:δ}{o':HO}
theorem Ϣ.write(ok:Ϣ P w H h)(g:sW (H x))(n:e=x\/H e=some (.own x))(k:∀b u,b≠e->h.get? b=some u->h'.get? b=some u)(l:∃u,h'.get? e=some u)(m:ϕ P w (upd H x o') h' x o'):Ϣ P w (upd H x o') h':=λb u q=>by
 let f:∀c y,H c=some (.own y)->c≠x:=λc y r z=>by subst z;rw[r]at g;show g
 let i:∀c xs,H c=some (.tup xs)->c≠x:=λc xs r z=>by subst z;rw[r]at g;show g
 by_cases j:b=x
 .subst j;rw[υ]at q;cases q;show m
 .rw[ο j]at q;by_cases a:b=e
  .let o:H b=some (.own x):=by
    obtain z|z:=n
    .show absurd (a.trans z) j
    .rw[a];show z
   rw[q]at o;cases o;let#[v,p]:=l;show#[v,by rw[a];show p]
  .show(ok b u q).stay (λc v hc r=>k c v ?_ r) (λc r=>by rw[ο (f c b r)];show r) (λc xs r=>by rw[ο (i c xs r)];show r) λc s v r=>by rw[ο (λz=>by subst z;rw[r]at g;show g)];show r
   obtain rfl|hc:=hc
   .show a
   .rintro rfl
    obtain z|z:=n
    .show f c b hc z
    .rw[hc]at z;cases z;show j rfl
end
structure Un(fs ex:List δ)(H H':Hp)(h h':ϫ):Prop where
 keep:∀b o,h.get? b=some o->H b=none->b∉fs->b∉ex->h'.get? b=some o
 slot:∀b o,h.get? b=some o->H b=none->b∈fs->b∉ex->∃sl,h'.get? b=some {o with slots:=sl}
 free:∀b o,h.get? b=some o->H b=none->b∉ex->H' b=none
 there:∀b o,h.get? b=some o->b∉ex->∃o',h'.get? b=some o'
 tups:∀b xs,H b=some (.tup xs)->H' b=some (.tup xs)
 frzs:∀b o u,H b=some (.frz o u)->H' b=some (.frz o u)
 tbls:∀b ps,H b=some (.tbl ps)->∃more,H' b=some (.tbl (ps++more))
section
variable{fs fs' ex ex':List δ}{H H1 H2:Hp}{h h1 h2 h':ϫ}{a x e:δ}{o:HO}
theorem Un.any(u:Un fs ex H H1 h h1){b:δ}{a:Obj}(q:h.get? b=some a)(n:H b=none)(c:b∉ex):∃sl,h1.get? b=some {a with slots:=sl}:=by
 by_cases e:b∈fs
 .show u.slot b a q n e c
 .show#[a.slots,u.keep b a q n e c]
theorem Un.kept(k:∀b u,h.get? b=some u->h'.get? b=some u):Un fs ex H H h h':=
 #[λb a q _ _ _=>k b a q,λb a q _ _ _=>#[a.slots,k b a q],λ_ _ _ n _=>n,λb a q _=>#[a,k b a q],λ_ _ q=>q,λ_ _ _ q=>q,λ_ ps q=>#[#v[],by rw[q];simp]]
theorem Un.refl:Un fs ex H H h h:=Un.kept λ_ _ q=>q
theorem Un.laid(k:∀b u,h.get? b=some u->h'.get? b=some u)(e:h.objs.size<=a)(c:H a=none):Un fs ex H (upd H a o) h h' where
 keep:=λb u q _ _ _=>k b u q
 slot:=λb u q _ _ _=>#[u.slots,k b u q]
 free:=λb u q n _=>by rw[ο (adv (abM (abL q) e))];show n
 there:=λb u q _=>#[u,k b u q]
 tups:=λb xs q=>by rw[ο (Ϗ q c)];show q
 frzs:=λb u xs q=>by rw[ο (Ϗ q c)];show q
 tbls:=λb ps q=>#[#v[],by rw[ο (Ϗ q c),q];simp]
theorem Un.write(c:sW (H x))(l:e=x\/H e=some (.own x))(k:∀b u,b≠e->h.get? b=some u->h'.get? b=some u)(f:∃u,h'.get? e=some u):Un fs ex H (upd H x o) h h':=by
 let i:∀b,H b=none->b≠x:=λb n z=>by subst z;rw[n]at c;show c
 let j:∀b,H b=none->b≠e:=λb n z=>by
  subst z;obtain r|r:=l
  .show i b n r
  .rw[n]at r;cases r
 let g:∀b u,H b=some u->¬sW (some u)->b≠x:=λb u q nm z=>by subst z;rw[q]at c;show nm c
 show#[λb u q n _ _=>k b u (j b n) q,λb u q n _ _=>#[u.slots,k b u (j b n) q],λb u q n _=>by rw[ο (i b n)];show n,λb u q _=>?_,
  λb xs q=>by rw[ο (g b _ q λz=>z)];show q,λb u xs q=>by rw[ο (g b _ q λz=>z)];show q,λb ps q=>#[#v[],by rw[ο (g b _ q λz=>z),q];simp]]
 by_cases a:b=e
 .subst a;show f
 .show#[u,k b u a q]
end
def jx(h:ϫ)(H:Hp):List δ:=(aeZ h.objs.size).filter λa=>(H a).isSome
def jf(h:ϫ)(H:Hp):ϫ:=W.hideAll h (jx h H)
theorem Xy(h:ϫ)(H:Hp):(jf h H).objs.size=h.objs.size:=W.hideAll_size _ _
theorem afp{h:ϫ}{H:Hp}{b:δ}{o:Obj}(e:h.get? b=some o)(n:H b=none):(jf h H).get? b=some o:=
 W.hideAll_get _ e λa=>by
  let q:(H b).isSome=true:=(ahZ.mp a).2;rw[n]at q;simp at q
theorem ab0{h:ϫ}{H:Hp}{b:δ}{o:Obj}(e:(jf h H).get? b=some o):h.get? b=some o/\H b=none:=by
 let a:h.get? b=some o:=W.of_hideAll (jx h H) e;show#[a,?_];cases q:H b with
 |none=>rfl
 |some x=>
  let c:b∈jx h H:=ahZ.mpr #[anH.mpr (abL a),by simp[q]];let z:(jf h H).get? b=none:=W.hideAll_none (jx h H) c;rw[z]at e;cases e
def Xe(g h:ϫ)(L:δ):List (δ×Obj):=(aeZ h.objs.size).filterMap λa=>if a=L\/(g.get? a).isSome=true then none else(h.get? a).map λo=>(a,o)
def rest(g h:ϫ)(L d:δ):List (δ×Obj):=(Xe g h L).filter λp=>decide (p.1≠d)
structure Mod(K:ϩ)(mg:Str->Option ε)(base:ϫ):Prop where
 kin:K.In base
 glob:base.Ns mainGlobals mg
 blt:∃mb,base.Ns builtinsNs mb/\∀x:Str,x≠"__name__"->mb x=bootBuiltins x
 nolimit:base.NoLimit
structure Cx where
 prog:Ϯ
 w:Ϭ
 K:ϩ
 mg:Str->Option ε
 base:ϫ
 A:ϳ
 N:List Str
 s₀:μ
 H₀:Hp
 env:Env
 outer:List Env
 stack:List Env
 ex:List δ
 fn:Str->Bool
 calm:Bool
 pn:List (δ×Obj)
 xe:ε->μ->Prop
def cQ(l:List Env):List δ:=l.filterMap (·.frame)
abbrev Cx.fs(X:Cx):List δ:=cQ X.outer
def pB(sc:ahU)(x:Str):Prop:=sc.names.lookup x=some .local\/sc.names.lookup x=some .cell\/sc.names.lookup x=some .free
def Loc(sc:ahU)(x:Str):Prop:=sc.names.lookup x=some .local\/sc.names.lookup x=some .cell
def Look(env:Env)(h:ϫ)(m:Str->Option ε)(x:Str)(u:ε):Prop:=
 (env.kindOf x=some .local/\m x=some u)\/((env.kindOf x=some .cell\/env.kindOf x=some .free)/\∃c,env.cells.lookup x=some c/\h.IsCell c (some u))
structure Cx.Ok(X:Cx):Prop where
 mod:Mod X.K X.mg X.base
 kind:X.env.scope.kind=.function
 glob:X.env.globals=mainGlobals
 blt:X.env.builtins=builtinsNs
 above:X.s₀.heap.objs.size<=X.env.locals
 inj:∀x y c,X.env.cells.lookup x=some c->X.env.cells.lookup y=some c->x=y
 has:∀x,(X.env.kindOf x=some .cell\/X.env.kindOf x=some .free)->∃c,X.env.cells.lookup x=some c
 cab:∀x c,X.fn x=true->X.env.cells.lookup x=some c->X.s₀.heap.objs.size<=c
 hd:X.calm=true->X.A.handled=none
 frames:X.A.frames=some X.stack
 stk:X.stack=X.outer\/(X.stack=X.env::X.outer/\X.env.frame=some X.env.locals)
 exf:∀b∈X.ex,b≠X.env.locals/\∀x c,X.env.cells.lookup x=some c->c≠b
 bs:∀b o,X.base.get? b=some o->X.s₀.heap.get? b=some o/\X.H₀ b=none
 bsz:X.base.objs.size<=X.s₀.heap.objs.size
 noex:∀b o,X.base.get? b=some o->b∉X.ex
 exfs:∀b∈X.ex,b∉X.fs
 funs:X.s₀.heap.FunFrames X.base X.outer
 frf:∀b∈X.fs,X.H₀ b=none
structure Inv(X:Cx)(ϵ:List (δ×Obj))(σ:List (Option V))(H:Hp)(s:μ):Prop where
 ok:X.Ok
 os:s.os=X.s₀.os
 bare:AllBare s.gens
 base:Un X.fs X.ex X.H₀ H X.s₀.heap s.heap
 loc:∃m,s.heap.Ns X.env.locals m/\∀(i:Nat)(x:Str)(v:V),X.N[i]?=some x->σ[i]?=some (some v)->pB X.env.scope x->∃u,RelV v u/\Look X.env s.heap m x u
 cell:∀x c,X.env.cells.lookup x=some c->∃v,s.heap.IsCell c v
 free:H X.env.locals=none
 freeC:∀x c,X.env.cells.lookup x=some c->H c=none
 pin:∀p∈X.pn++ϵ,s.heap.get? p.1=some p.2/\H p.1=none/\p.1≠X.env.locals/\p.1∉X.fs/\∀v,p.2.data≠.cell v
 hok:Ϣ X.prog X.w H s.heap
 len:σ.length=X.N.length
section
variable{X:Cx}{ϵ:List (δ×Obj)}{σ:List (Option V)}{H H':Hp}{s:μ}{h':ϫ}
theorem Cx.Ok.nofr(ok:X.Ok){b:δ}{o:Obj}(e:X.base.get? b=some o):b∉X.fs:=λa=>by
 have:=(ok.funs.mem a).1;rw[e]at this;cases this
theorem Inv.bs(I:Inv X ϵ σ H s):∀b o,X.base.get? b=some o->s.heap.get? b=some o/\H b=none:=λb o e=>
 #[I.base.keep b o (I.ok.bs b o e).1 (I.ok.bs b o e).2 (I.ok.nofr e) (I.ok.noex b o e),I.base.free b o (I.ok.bs b o e).1 (I.ok.bs b o e).2 (I.ok.noex b o e)]
theorem Inv.bk(I:Inv X ϵ σ H s):∀b o,X.base.get? b=some o->s.heap.get? b=some o:=λb o e=>(I.bs b o e).1
theorem Inv.mod(I:Inv X ϵ σ H s):Mod X.K X.mg X.base:=I.ok.mod
theorem Inv.kIn(I:Inv X ϵ σ H s):X.K.In s.heap:=I.ok.mod.kin.keeps I.bk
theorem Inv.nolimit(I:Inv X ϵ σ H s):s.heap.NoLimit:=I.ok.mod.nolimit.keeps I.bk
theorem Inv.lt(I:Inv X ϵ σ H s):X.env.locals<s.heap.objs.size:=let⟨_,hn,_⟩:=I.loc;hn.lt
theorem Inv.sz(I:Inv X ϵ σ H s):X.s₀.heap.objs.size<=s.heap.objs.size:=aeO I.ok.above (anp I.lt)
theorem Inv.nofs(I:Inv X ϵ σ H s){a:δ}(h:s.heap.objs.size<=a):a∉X.fs:=λc=>by
 let#[_,o,e,_]:=I.ok.funs.mem c;show absurd (abM (abL e) (aeO I.sz h)) (aiE _)
theorem Inv.cne(I:Inv X ϵ σ H s):∀x c,X.env.cells.lookup x=some c->c≠X.env.locals:=λx c e z=>by
 let#[v,o,g,hd]:=I.cell x c e;let#[m,#[o',es,ep,a,f,_],_]:=I.loc;rw[z,a]at g;cases g;rw[f]at hd;cases hd
theorem Inv.funs(I:Inv X ϵ σ H s):s.heap.FunFrames X.base X.outer:=by
 let all:∀(l:List Env),(∀b∈cQ l,b∈X.fs)->X.s₀.heap.FunFrames X.base l->s.heap.FunFrames X.base l:=by
  intro l;induction l with
  |nil=>intro _ _;trivial
  |cons env r g=>
   intro hs i;let#[j,#[L,o,a,m,n,hd],p]:=i;let c:L∈X.fs:=hs L (by unfold cQ;rw[anv,a];show aex);let#[sl,e]:=I.base.slot L o n (I.ok.frf L c) c λz=>I.ok.exfs L z c
   show#[j,#[L,_,a,m,e,hd],g (λb f=>hs b (by unfold cQ;rw[anv,a];show adP _ f)) p]
 show all X.outer (λ_ f=>f) I.ok.funs
theorem Inv.stack(I:Inv X ϵ σ H s):s.heap.FunFrames X.base X.stack:=by
 obtain e|⟨e,a⟩:=I.ok.stk
 .rw[e];show I.funs
 .rw[e];let#[m,c,_]:=I.loc;show .cons (by rw[I.ok.kind];decide) a c ?_ I.funs;show amP (aeO I.ok.bsz I.ok.above)
theorem Inv.stkSub(I:Inv X ϵ σ H s):∀b∈cQ X.stack,b∈X.env.locals::X.fs:=λb a=>by
 obtain e|⟨e,c⟩:=I.ok.stk
 .rw[e]at a;show adP _ a
 .rw[e]at a;unfold cQ at a;rw[anv,c]at a;show a
theorem Inv.stkFree(I:Inv X ϵ σ H s):∀b∈cQ X.stack,H b=none:=λb hb=>by
 rcases ϲ.mp (I.stkSub b hb)with e|hb
 .rw[e];show I.free
 .let#[_,o,a,_]:=I.ok.funs.mem hb;show I.base.free b o a (I.ok.frf b hb) λz=>I.ok.exfs b z hb
theorem Inv.step{g':Array GenState}{t':Nat}{d':Drawn}{ch:List δ}(I:Inv X ϵ σ H s)(f:∀b∈ch,(b∈X.ex\/X.s₀.heap.get? b=none)/\b≠X.env.locals/\(∀x c,X.env.cells.lookup x=some c->c≠b)/\∀p∈X.pn++ϵ,p.1≠b)(keep:∀b o,b≠X.env.locals->b∉X.fs->b∉ch->s.heap.get? b=some o->H b=none->h'.get? b=some o)(slot:∀b o,b≠X.env.locals->b∈X.fs->b∉ch->s.heap.get? b=some o->H b=none->∃sl,h'.get? b=some {o with slots:=sl})(free:∀b o,b∉ch->s.heap.get? b=some o->H b=none->H' b=none)(there:∀b o,b∉ch->s.heap.get? b=some o->∃o',h'.get? b=some o')(tups:∀b xs,H b=some (.tup xs)->H' b=some (.tup xs))(frzs:∀b o u,H b=some (.frz o u)->H' b=some (.frz o u))(tbls:∀b ps,H b=some (.tbl ps)->∃D,H' b=some (.tbl (ps++D)))(ns:∀m,s.heap.Ns X.env.locals m->h'.Ns X.env.locals m)(hok:Ϣ X.prog X.w H' h')(O:AllBare g'):Inv X ϵ σ H' {s with heap:=h',gens:=g',drawn:=d',toks:=t'}:=by
 let E:∀b o,X.s₀.heap.get? b=some o->b≠X.env.locals:=λb o e=>adv (abM (abL e) I.ok.above)
 let y:∀b o,X.s₀.heap.get? b=some o->b∉X.ex->b∉ch:=λb o e a B=>by
  rcases(f b B).1 with z|z
  .show a z
  .rw[e]at z;cases z
 let g:∀x c,X.env.cells.lookup x=some c->∀v,s.heap.IsCell c v->h'.IsCell c v:=λx c e v ⟨o,C,hd⟩=>by
  let j:c∉ch:=λz=>(f c z).2.2.1 x c e rfl
  by_cases J:c∈X.fs
  .let#[sl,q]:=slot c o (I.cne x c e) J j C (I.freeC x c e);show#[_,q,hd]
  .show#[o,keep c o (I.cne x c e) J j C (I.freeC x c e),hd]
 show#[I.ok,I.os,O,#[λb o e n B a=>?_,λb o e n B a=>?_,λb o e n a=>?_,λb o e a=>?_,λb xs e=>tups b xs (I.base.tups b xs e),λb o xs e=>frzs b o xs (I.base.frzs b o xs e),λb ps e=>?_],?_,λx c e=>?_,?_,λx c e=>?_,λp L=>?_,hok,I.len]
 .show keep b o (E b o e) B (y b o e a) (I.base.keep b o e n B a) (I.base.free b o e n a)
 .let#[sl,e1]:=I.base.slot b o e n B a;let#[G,F]:=slot b _ (E b o e) B (y b o e a) e1 (I.base.free b o e n a);show#[G,F]
 .let#[o',e1]:=I.base.there b o e a;show free b o' (y b o e a) e1 (I.base.free b o e n a)
 .let#[o',e1]:=I.base.there b o e a;show there b o' (y b o e a) e1
 .let#[P,e1]:=I.base.tbls b ps e;let#[Q,F]:=tbls b _ e1;show#[P++Q,by rw[F,Array.append_assoc]]
 .let#[m,R,S]:=I.loc;show#[m,ns m R,λi x v e1 F T=>?_];let#[u,r,l]:=S i x v e1 F T;show#[u,r,?_];obtain l|⟨k,c,e,z⟩:=l
  .show .inl l
  .show .inr #[k,c,e,g x c e _ z]
 .let#[v,z]:=I.cell x c e;show#[v,g x c e v z]
 .let#[m,#[o,_,_,C,_],_]:=I.loc;show free _ o (λz=>(f _ z).2.1 rfl) C I.free
 .let#[v,o,C,hd]:=I.cell x c e;show free c o (λz=>(f c z).2.2.1 x c e rfl) C (I.freeC x c e)
 .let#[e,n,ne,M,d]:=I.pin p L;let j:p.1∉ch:=λz=>(f p.1 z).2.2.2 p L rfl
  show#[keep p.1 p.2 ne M j e n,free p.1 p.2 j e n,ne,M,d]
theorem Inv.un{t':Nat}(I:Inv X ϵ σ H s)(u:Un X.fs [] H H' s.heap h')(hok:Ϣ X.prog X.w H' h'):Inv X ϵ σ H' {s with heap:=h',toks:=t'}:=by
 let#[m,#[o,es,ep,i,r],_]:=id I.loc;let#[sl,j]:=u.any i I.free (by simp);show I.step (g':=s.gens) (d':=s.drawn) (ch:=[]) (λ_ z=>nomatch z) (λb o _ c _ e n=>u.keep b o e n c (by simp)) (λb o _ c _ e n=>u.slot b o e n c (by simp)) (λb o _ e n=>u.free b o e n (by simp)) (λb o _ e=>u.there b o e (by simp)) u.tups u.frzs u.tbls (λm' l=>by
  let#[o',f,g,a,p]:=l;rw[i]at a;cases a;show#[_,f,g,j,p]) hok I.bare
theorem Inv.call{g':Array GenState}{t':Nat}{d':Drawn}{ch:List δ}(I:Inv X ϵ σ H s)(u:Un (cQ X.stack) ch H H' s.heap h')(hok:Ϣ X.prog X.w H' h')(v:AllBare g')(f:∀b∈ch,(b∈X.ex\/X.s₀.heap.get? b=none)/\b≠X.env.locals/\(∀x c,X.env.cells.lookup x=some c->c≠b)/\∀p∈X.pn++ϵ,p.1≠b):Inv X ϵ σ H' {s with heap:=h',gens:=g',drawn:=d',toks:=t'}:=by
 let#[m,#[o,es,ep,q,r],_]:=id I.loc;let#[sl,i]:=u.any q I.free λz=>(f _ z).2.1 rfl
 show I.step (ch:=ch) f (λb o i y a e n=>u.keep b o e n (λz=>(ϲ.mp (I.stkSub b z)).elim i y) a) (λb o _ _ a e n=>u.any e n a) (λb o a e n=>u.free b o e n a) (λb o a e=>u.there b o e a) u.tups u.frzs u.tbls (λm' B=>by
  let#[o',j,l,g,C]:=B;rw[q]at g;cases g;show#[_,j,l,i,C]) hok v
theorem Inv.turned{t':Nat}{it:δ}(I:Inv X ϵ σ H s)(k:∀b o,b≠it->s.heap.get? b=some o->h'.get? b=some o)(i:H it=none)(g:it≠X.env.locals)(h1:it∈X.ex\/X.s₀.heap.get? it=none)(h2:∀x c,X.env.cells.lookup x=some c->c≠it)(j:∀p∈X.pn++ϵ,p.1≠it):Inv X ϵ σ H {s with heap:=h',toks:=t'}:=by
 let f:∀b u,H b=some u->b≠it:=λb u e z=>by rw[z,i]at e;cases e
 show I.step (g':=s.gens) (d':=s.drawn) (ch:=[it]) (λb l=>?_) (λb o _ _ a e _=>k b o (λz=>a (by simp[z])) e) (λb o _ _ a e _=>#[o.slots,k b o (λz=>a (by simp[z])) e]) (λ_ _ _ _ n=>n)
  (λb o a e=>#[o,k b o (λz=>a (by simp[z])) e]) (λ_ _ e=>e) (λ_ _ _ e=>e) (λb ps e=>#[#v[],by rw[e];simp]) (λm y=>?_) (λb u e=>?_) I.bare
 .let e:b=it:=by simpa using l
  subst e;show#[h1,g,h2,j]
 .let#[o,es,ep,B,r]:=y;show#[o,es,ep,k _ o (Ne.symm g) B,r]
 .show(I.hok b u e).stay (λc v a q=>k c v ?_ q) (λ_ q=>q) λ_ _ q=>q
  obtain z|z:=a
  .rw[z];show f b u e
  .show f c _ z
theorem Inv.tok(I:Inv X ϵ σ H s)(t:Nat):Inv X ϵ σ H {s with toks:=t}:=I.un (h':=s.heap) (t':=t) Un.refl I.hok
theorem Inv.kept{t':Nat}(I:Inv X ϵ σ H s)(k:∀b u,s.heap.get? b=some u->h'.get? b=some u):Inv X ϵ σ H {s with heap:=h',toks:=t'}:=I.un (Un.kept k) (I.hok.kept k)
theorem Inv.laid{a:δ}{o:HO}{t':Nat}(I:Inv X ϵ σ H s)(k:∀b u,s.heap.get? b=some u->h'.get? b=some u)(c:s.heap.objs.size<=a)(e:ϕ X.prog X.w (upd H a o) h' a o):Inv X ϵ σ (upd H a o) {s with heap:=h',toks:=t'}:=I.un (Un.laid k c (I.hok.fresh c)) (I.hok.laid k c e)
theorem Inv.write{x e:δ}{o:HO}{t':Nat}(I:Inv X ϵ σ H s)(f:sW (H x))(g:e=x\/H e=some (.own x))(k:∀b u,b≠e->s.heap.get? b=some u->h'.get? b=some u)(a:∃u,h'.get? e=some u)(c:ϕ X.prog X.w (upd H x o) h' x o):Inv X ϵ σ (upd H x o) {s with heap:=h',toks:=t'}:=I.un (Un.write f g k a) (I.hok.write f g k a c)
theorem Inv.weak{σ':List (Option V)}(I:Inv X ϵ σ H s)(a:σ'.length=σ.length)(w:∀(i:Nat) v,σ'[i]?=some (some v)->σ[i]?=some (some v)):Inv X ϵ σ' H s:=
 #[I.ok,I.os,I.bare,I.base,let⟨m,hn,hl'⟩:=I.loc;#[m,hn,λi x v e1 c e=>hl' i x v e1 (w i v c) e],I.cell,I.free,I.freeC,I.pin,I.hok,a.trans I.len]
theorem Inv.pins_of{pins':List (δ×Obj)}(I:Inv X ϵ σ H s)(h:∀p∈pins',s.heap.get? p.1=some p.2/\H p.1=none/\p.1≠X.env.locals/\p.1∉X.fs/\∀v,p.2.data≠.cell v):Inv X pins' σ H s:=
 #[I.ok,I.os,I.bare,I.base,I.loc,I.cell,I.free,I.freeC,λp a=>(adU.mp a).elim (λz=>I.pin p (aiM _ z)) (h p),I.hok,I.len]
theorem G5{N:List Str}(c:N.Nodup){i j:Nat}{x:Str}(a:N[i]?=some x)(b:N[j]?=some x):i=j:=by
 let#[h1,e1]:=aai.mp a;let#[h2,e]:=aai.mp b;show(aoP c).mp (e1.trans e.symm)
theorem oO{M:Model}{A:ϳ}{E:ε->μ->Prop}{i:Nat}{x:Str}{v:V}{u:ε}{Q:Unit->μ->Prop}(I:Inv X ϵ σ H s)(hN:X.N.Nodup)(hi:X.N[i]?=some x)(g:Loc X.env.scope x)(r:RelV v u)(h:∀s',Inv X ϵ (σ.set i (some v)) H s'->(∃a,akp a s.heap s'.heap/\(a=X.env.locals\/X.env.cells.lookup x=some a))->Q PUnit.unit s')(hf:X.fn x=true\/X.env.scope.names.lookup x=some .local:=by first|show .inl rfl|show .inr rfl|assumption):ν M A (storeName X.env x u) Q E s:=by
 let#[m,U,hl]:=id I.loc;let J:(X.env.scope.kind==.class||(X.env.scope.kind==.module&&X.env.locals !=X.env.globals))=false:=by rw[I.ok.kind];rfl
 let C:i<σ.length:=by rw[I.len];show(aai.mp hi).1
 let cne:=I.cne;let f:∀{a:δ}{h':ϫ},(∃o,s.heap.get? a=some o/\H a=none)->akp a s.heap h'->Ϣ X.prog X.w H h':=λ{a h'} ha hs b ob e=>by
  let#[_,_,l]:=ha;show(I.hok b ob e).stay (λc S hc q=>(hs.2 c ?_).trans q) (λ_ q=>q) λ_ _ q=>q
  rintro rfl
  obtain rfl|hc:=hc
  .rw[l]at e;cases e
  .rw[l]at hc;cases hc
 obtain hk|hk:=g
 .show wpAny_storeName_local hk U (λh' W hs=>?_) J;let#[oL,_,_,Y,_]:=id U;show h _ #[I.ok,I.os,I.bare,#[λb o e n D g=>?_,λb o e n D g=>?_,I.base.free,λb o e g=>?_,I.base.tups,I.base.frzs,I.base.tbls],#[_,W,λj y Z e1 B e3=>?_],λy c e=>?_,I.free,I.freeC,λp hp=>?_,f #[oL,Y,I.free] hs,by simpa using I.len] #[_,hs,.inl rfl]
  .show(hs.2 b (adv (abM (abL e) I.ok.above))).trans (I.base.keep b o e n D g)
  .let#[sl,e1]:=I.base.slot b o e n D g;show#[sl,(hs.2 b (adv (abM (abL e) I.ok.above))).trans e1]
  .let#[o',e1]:=I.base.there b o e g;show#[o',(hs.2 b (adv (abM (abL e) I.ok.above))).trans e1]
  .by_cases F:j=i
   .subst F;rw[hi]at e1;cases e1;rw[alI C]at B;cases B;show#[u,r,.inl #[hk,by simp]]
   .rw[ant (Ne.symm F)]at B;let#[u',r',q]:=hl j y Z e1 B e3;show#[u',r',?_];obtain⟨k,e⟩|⟨k,c,e,z⟩:=q
    .show .inl #[k,?_];have:y≠x:=λe=>F (G5 hN e1 (e▸hi))
     simp[this,e]
    .show .inr #[k,c,e,z.sameBut hs (cne y c e)]
  .let#[S,z]:=I.cell y c e;show#[S,z.sameBut hs (cne y c e)]
  .let#[e,n,ne,nf,d]:=I.pin p hp;show#[(hs.2 p.1 ne).trans e,n,ne,nf,d]
 .let G:X.fn x=true:=by
   obtain z|z:=hf
   .show z
   .rw[z]at hk;cases hk
  let#[c,hc]:=I.ok.has x (.inl hk);let#[S,z]:=I.cell x c hc;show wpAny_storeName_cell I.ok.kind hk hc z (λh' L hs=>?_);let#[oc,O,P]:=id z;show h {s with heap:=h'} #[I.ok,I.os,I.bare,#[λb o e n D g=>?_,λb o e n D g=>?_,I.base.free,λb o e g=>?_,I.base.tups,I.base.frzs,I.base.tbls],#[m,U.sameBut hs (Ne.symm (cne x c hc)),λj y Z e1 B e3=>?_],λy T e=>?_,I.free,I.freeC,λp hp=>?_,f #[oc,O,I.freeC x c hc] hs,by simpa using I.len] #[c,hs,.inr hc]
  .show(hs.2 b (adv (abM (abL e) (I.ok.cab x c G hc)))).trans (I.base.keep b o e n D g)
  .let#[sl,e1]:=I.base.slot b o e n D g;show#[sl,(hs.2 b (adv (abM (abL e) (I.ok.cab x c G hc)))).trans e1]
  .let#[o',e1]:=I.base.there b o e g;show#[o',(hs.2 b (adv (abM (abL e) (I.ok.cab x c G hc)))).trans e1]
  .by_cases F:j=i
   .subst F;rw[hi]at e1;cases e1;rw[alI C]at B;cases B;show#[u,r,.inr #[.inl hk,c,hc,L]]
   .rw[ant (Ne.symm F)]at B;let#[u',r',q]:=hl j y Z e1 B e3;show#[u',r',?_];obtain q|⟨k,T,e,z'⟩:=q
    .show .inl q
    .show .inr #[k,T,e,z'.sameBut hs ?_]
     rintro rfl
     show F (G5 hN e1 (I.ok.inj _ _ _ e hc▸hi))
  .by_cases R:T=c
   .subst R;show#[_,L]
   .let#[w2,z2]:=I.cell y T e;show#[w2,z2.sameBut hs R]
  .let#[e,n,ne,nf,d]:=I.pin p hp;show#[(hs.2 p.1 ?_).trans e,n,ne,nf,d];intro q;rw[q,O]at e;let q':oc=p.2:=Option.some.inj e;show d S (by rw[<-q'];show P)
theorem Wb{M:Model}{A:ϳ}{E:ε->μ->Prop}{i:Nat}{x:Str}{v:V}{u:ε}{Q:Unit->μ->Prop}(I:Inv X ϵ σ H s)(a:X.N.Nodup)(hi:X.N[i]?=some x)(c:Loc X.env.scope x)(r:RelV v u)(h:∀s',Inv X ϵ (σ.set i (some v)) H s'->Q PUnit.unit s')(e:X.fn x=true\/X.env.scope.names.lookup x=some .local:=by first|show .inl rfl|show .inr rfl|assumption):ν M A (storeName X.env x u) Q E s:=
 oO I a hi c r (λs' f _=>h s' f) e
theorem Inv.call'{s':μ}{ch:List δ}(I:Inv X ϵ σ H s)(f:s'.os=s.os)(u:Un (cQ X.stack) ch H H' s.heap s'.heap)(hok:Ϣ X.prog X.w H' s'.heap)(g:AllBare s'.gens)(a:∀b∈ch,(b∈X.ex\/X.s₀.heap.get? b=none)/\b≠X.env.locals/\(∀x c,X.env.cells.lookup x=some c->c≠b)/\∀p∈X.pn++ϵ,p.1≠b):Inv X ϵ σ H' s':=by
 let#[h',g',d',t',o']:=s';let e:o'=s.os:=f;subst e;show I.call (g':=g') (t':=t') (d':=d') u hok g a
end
abbrev XK:=ε->Option δ×Bool->Hp->Prop
abbrev St:=List (Option V)
abbrev VK:=V->Hp->Prop
abbrev TE:=St->Hp->VK->Prop
abbrev TT:=St->Hp->(Bool->Hp->Prop)->Prop
abbrev TA:=St->Hp->(List V->Hp->Prop)->Prop
structure Ends where
 nx:St->Hp->Prop
 rt:VK
 bk:St->Hp->Prop:=λ_ _=>False
 ct:St->Hp->Prop:=λ_ _=>False
abbrev TS:=Ends->St->Hp->Prop
def EP(X:Cx)(ϵ:List (δ×Obj))(σ:St)(Q:VK)(u:ε)(s':μ):=∃v H',Inv X ϵ σ H' s'/\RelV v u/\Q v H'
def TP(X:Cx)(ϵ:List (δ×Obj))(σ:St)(Q:Bool->Hp->Prop)(b:Bool)(s':μ):=∃H',Inv X ϵ σ H' s'/\Q b H'
def AP(X:Cx)(ϵ:List (δ×Obj))(σ:St)(Q:List V->Hp->Prop)(us:List ε)(s':μ):=∃vs H',Inv X ϵ σ H' s'/\Vals vs us/\Q vs H'
def SP(X:Cx)(ϵ:List (δ×Obj))(D:Ends)(f:Flow)(s':μ):Prop:=
 match f with
 |.next=>∃σ' H',Inv X ϵ σ' H' s'/\D.nx σ' H'
 |.brk=>∃σ' H',Inv X ϵ σ' H' s'/\D.bk σ' H'
 |.cont=>∃σ' H',Inv X ϵ σ' H' s'/\D.ct σ' H'
 |.ret u=>∃v σ' H',Inv X ϵ σ' H' s'/\RelV v u/\D.rt v H'
def PE(X:Cx)(e:Ϩ)(t:TE):Prop:=
 ∀(ϵ:List (δ×Obj))(s:μ)(σ:St)(H:Hp)(Q:VK),Inv X ϵ σ H s->t σ H Q->ν (Ϧ X.prog X.w) X.A (eval e X.env) (EP X ϵ σ Q) X.xe s
def PT(X:Cx)(e:Ϩ)(t:TT):Prop:=
 ∀(ϵ:List (δ×Obj))(s:μ)(σ:St)(H:Hp)(Q:Bool->Hp->Prop),Inv X ϵ σ H s->t σ H Q->ν (Ϧ X.prog X.w) X.A (isTrue e X.env (eval e X.env)) (TP X ϵ σ Q) X.xe s
def PW(X:Cx)(e:Ϩ)(t:TT):Prop:=
 ∀(a:Sem ε)(ϵ:List (δ×Obj))(s:μ)(σ:St)(H:Hp)(Q:Bool->Hp->Prop),Inv X ϵ σ H s->t σ H Q->ν (Ϧ X.prog X.w) X.A (isTrue e X.env a) (TP X ϵ σ Q) X.xe s
theorem PW.pt{X:Cx}{e:Ϩ}{t:TT}(h:PW X e t):PT X e t:=h _
def PS(X:Cx)(st:ϧ)(t:TS):Prop:=
 ∀(ϵ:List (δ×Obj))(s:μ)(σ:St)(H:Hp)(D:Ends),Inv X ϵ σ H s->t D σ H->ν (Ϧ X.prog X.w) X.A (exec st X.env) (SP X ϵ D) X.xe s
def Bq(X:Cx)(st:List ϧ)(t:TS):Prop:=
 ∀(ϵ:List (δ×Obj))(s:μ)(σ:St)(H:Hp)(D:Ends),Inv X ϵ σ H s->t D σ H->ν (Ϧ X.prog X.w) X.A (execs st X.env) (SP X ϵ D) X.xe s
theorem χ{α:Type}{t:Sem α}{Q c:α->μ->Prop}{M:Model}{A:ϳ}{E:ε->μ->Prop}{s:μ}(h:ν M A t Q E s)(e:∀a s,Q a s->c a s):ν M A t c E s:=aef h e λ_ _ x=>x
section
variable{X:Cx}
def ajN(i:Nat):TE:=λσ H Q=>∃v,σ[i]?=some (some v)/\Q v H
def tC(v:V):TE:=λ_ H Q=>Q v H
theorem aaL{i:Nat}{x:Str}{pos:Pos}(j:X.N[i]?=some x)(n:pB X.env.scope x)(hd:(x==("__debug__":Str))=false:=by decide)(f:(x==("__classdict__":Str))=false:=by decide):PE X (.Name x pos) (ajN i):=by
 intro ϵ s σ H Q I h;let#[v,e,h]:=h;let#[m,o,p]:=I.loc;let#[u,r,l]:=p i x v j e n;let fin:EP X ϵ σ Q u s:=#[v,H,I,r,h];obtain⟨hk,q⟩|⟨hk,c,g,a⟩:=l
 .show wpAny_Name (wpAny_loadName_local I.ok.kind hk o q fin) hd
 .obtain hk|hk:=hk
  .show wpAny_Name (wpAny_loadName_cell I.ok.kind hk g a fin) hd
  .show wpAny_Name (wpAny_loadName_free I.ok.kind hk g a fin f) hd
def Gl(X:Cx)(x:Str):Prop:=X.env.kindOf x=some .globalImplicit
theorem pO{E:ε->μ->Prop}{ϵ:List (δ×Obj)}{s:μ}{σ:St}{H:Hp}{x:Str}{u:ε}{pos:Pos}{Q:ε->μ->Prop}(I:Inv X ϵ σ H s)(a:Gl X x)(c:X.mg x=some u)(h:Q u s)(hd:(x==("__debug__":Str))=false:=by decide):ν (Ϧ X.prog X.w) X.A (eval (.Name x pos) X.env) Q E s:=
 Calls.Name_function_global I.ok.kind a (Calls.loadGlobal_global (by rw[I.ok.glob];show I.mod.glob.keeps I.bk) c h) hd
theorem jh{E:ε->μ->Prop}{ϵ:List (δ×Obj)}{s:μ}{σ:St}{H:Hp}{x:Str}{u:ε}{pos:Pos}{Q:ε->μ->Prop}(I:Inv X ϵ σ H s)(a:Gl X x)(c:X.mg x=none)(e:bootBuiltins x=some u)(h:Q u s)(f:x≠"__name__":=by decide)(hd:(x==("__debug__":Str))=false:=by decide):ν (Ϧ X.prog X.w) X.A (eval (.Name x pos) X.env) Q E s:=by
 let#[mb,h1,h2]:=I.mod.blt;show Calls.Name_function_global I.ok.kind a (Calls.loadGlobal_builtin (by rw[I.ok.glob];show I.mod.glob.keeps I.bk) c (by rw[I.ok.blt];show h1.keeps I.bk) ((h2 x f).trans e) h) hd
theorem Qq{x:Str}{v:V}{u:ε}{pos:Pos}(a:Gl X x)(c:X.mg x=some u)(r:RelV v u)(hd:(x==("__debug__":Str))=false:=by decide):PE X (.Name x pos) (tC v):=
 λ_ _ _ H _ I h=>pO I a c #[v,H,I,r,h] hd
variable{a b:Ϩ}{ta tb:TE}{pos:Pos}
def tB(t:TE):TT:=λσ H Q=>t σ H λx H1=>∃c,x=.bl c/\Q c H1
variable{tA tB':TT}{rest:List Ϩ}
end
def η(K:ϩ)(H:Hp)(a:δ)(xs:List V):Prop:=
 Rd H a (.lst xs)\/
  ∃(o:Obj)(c:Array ε)(n:Nat),K.lookup a=some o/\o.cls=.type "list"/\o.dict=none/\o.data=.seq c n/\c.size<=ϰ/\Vals xs c.toList
def ρ(K:ϩ)(H:Hp)(a:δ)(xs:List V):Prop:=
 Rd H a (.tup xs)\/
  ∃(o:Obj)(c:Array ε)(n:Nat),K.lookup a=some o/\o.cls=.type "tuple"/\o.data=.seq c n/\c.size<=ϰ/\Vals xs c.toList
def acT:ε->Option V
 |.none=>some .non
 |.bool b=>some (.bl b)
 |.int i _=>some (.int i)
 |.str x _=>some (.str x)
 |.bytes b _=>some (.byt b)
 |.float b _=>some (.flt b)
 |.ref a=>some (.ref a)
 |.type n=>some (.ty n)
 |_=>none
theorem RelV.abs{x:V}{u:ε}(r:RelV x u):acT u=some x:=by
 cases x with
 |non=>cases r;rfl
 |bl _=>cases r;rfl
 |int _=>let#[t,rfl]:=r;rfl
 |str _=>let#[t,rfl]:=r;rfl
 |byt _=>let#[t,rfl]:=r;rfl
 |flt _=>let#[t,rfl]:=r;rfl
 |ref _=>cases r;rfl
 |ty _=>cases r;rfl
theorem RelV.inj{x y:V}{u:ε}(r:RelV x u)(q:RelV y u):x=y:=Option.some.inj (r.abs.symm.trans q.abs)
theorem Vals.inj{xs ys:List V}{us:List ε}(h:Vals xs us)(g:Vals ys us):xs=ys:=by
 induction h generalizing ys with
 |nil=>cases g;rfl
 |cons r t a=>cases g with|cons c t'=>rw[r.inj c,a t']
section
variable{X:Cx}{ϵ:List (δ×Obj)}{σ:St}{H:Hp}{s:μ}{a:δ}{xs ys:List V}
theorem η.of{K:ϩ}(h:H a=some (.lst xs)):η K H a xs:=.inl (.inl h)
theorem ρ.of{K:ϩ}(h:H a=some (.tup xs)):ρ K H a xs:=.inl (.inl h)
theorem Inv.list(I:Inv X ϵ σ H s)(h:η X.K H a xs):∃c:List ε,Vals xs c/\PlainL s.heap a c.toArray/\xs.length<=ϰ:=by
 obtain h|⟨o,c,n,f,g,hd,hs,i,r⟩:=h
 .let#[z,c,n,r,e]:=h.ok I.hok;show#[c,r,#[_,n,e,rfl,rfl,rfl],z]
 .show#[c.toList,r,#[o,n,I.kIn a o f,g,hd,by simpa using hs],?_];let e:=r.length;simp only[aja]at e;omega
theorem Inv.tuple(I:Inv X ϵ σ H s)(h:ρ X.K H a xs):∃c:List ε,Vals xs c/\IsTup s.heap a c.toArray/\xs.length<=ϰ:=by
 obtain h|⟨o,c,n,f,g,hs,i,r⟩:=h
 .let#[z,c,r,p]:=h.ok I.hok;show#[c,r,p,z]
 .show#[c.toList,r,#[o,I.kIn a o f,g,n,by simpa using hs],?_];let e:=r.length;simp only[aja]at e;omega
theorem Inv.list_inj(I:Inv X ϵ σ H s)(h:η X.K H a xs)(h':η X.K H a ys):xs=ys:=by
 let#[f,r,#[o,n,e,_,_,d],_]:=I.list h;let#[its',g,#[o',j,c,_,_,d'],_]:=I.list h';rw[e]at c;cases c;rw[d]at d';injection d' with i _
 have:f=its':=by simpa using congrArg apm i
 subst this;show r.inj g
theorem Inv.tuple_inj(I:Inv X ϵ σ H s)(h:ρ X.K H a xs)(h':ρ X.K H a ys):xs=ys:=by
 let#[f,r,#[o,e,_,n,d],_]:=I.tuple h;let#[its',g,#[o',c,_,j,d'],_]:=I.tuple h';rw[e]at c;cases c;rw[d]at d';injection d' with i _
 have:f=its':=by simpa using congrArg apm i
 subst this;show r.inj g
end
section
variable{X:Cx}{ϵ:List (δ×Obj)}{σ:St}{H:Hp}{s:μ}{E:ε->μ->Prop}
end
section
variable{X:Cx}{st:ϧ}{rest:List ϧ}{t u:TS}{e:Ϩ}{te:TE}{pos:Pos}
theorem Inv.quiet{ϵ:List (δ×Obj)}{σ:St}{H:Hp}{s:μ}(I:Inv X ϵ σ H s):interactive X.env=false:=by simp[interactive,I.ok.kind]
end
abbrev TG:=V->St->Hp->(St->Hp->Prop)->Prop
section
variable{X:Cx}{pos:Pos}
end
section
variable{X:Cx}{pos:Pos}
def ahA(c:TT)(tb:TS):TS:=λD σ H=>∃W:Nat->St->Hp->Prop,(∃m,W m σ H)/\∀m σ H,W m σ H->
 c σ H λb H1=>if b=true then ∃N:St->Hp->Prop,(∀σ' H',N σ' H'->∃m',m'<m/\W m' σ' H')/\tb {D with nx:=N,ct:=N,bk:=D.nx} σ H1 else D.nx σ H1
theorem ajd{c:Ϩ}{body:List ϧ}{tc:TT}{tb:TS}(q:akX (Ϧ X.prog X.w) X.A X.env X.xe)(y:PT X c tc)(z:Bq X body tb):PS X (.While c body [] pos) (ahA tc tb):=by
 intro ϵ s σ H D I h;let#[W,#[B,C],turn]:=h;show wpAny_While (codeAny_whileLoop (λn s'=>∃σ' H',Inv X ϵ σ' H' s'/\W n σ' H') ?_ B #[σ,H,I,C])
 rintro n E ⟨e,H1,F,G⟩
 show akl q (χ (y ϵ E e H1 _ F (turn n e H1 G)) λb J L=>?_);let#[H2,u,i]:=L;cases b with
 |true=>
  let#[N,x,i]:=i;rw[if_pos rfl];show akl q (χ (z ϵ J e H2 _ u i) λf M j=>?_);cases f with
  |next=>
   let#[a,g,l,m]:=j;let#[m',o,p]:=x a g m;show#[m',o,a,g,l,p]
  |cont=>
   let#[a,g,l,m]:=j;let#[m',o,p]:=x a g m;show#[m',o,a,g,l,p]
  |brk=>show j
  |ret v=>show j
 |false=>
  rw[if_neg aaN];show wpAny_execs_nil #[e,H2,u,i]
end
structure It where
 go:Nat->Hp->Prop
 yld:Nat->Hp->V->Hp->Prop
 stop:Nat->Hp->Prop
def bC(X:Cx)(ϵ:List (δ×Obj))(H:Hp)(b:δ):Prop:=
 H b=none/\b≠X.env.locals/\b∉X.fs/\(b∈X.ex\/X.s₀.heap.get? b=none)/\(∀x c,X.env.cells.lookup x=some c->c≠b)/\∀p∈X.pn++ϵ,p.1≠b
theorem Inv.fpOk{X:Cx}{ϵ:List (δ×Obj)}{σ:St}{H H':Hp}{s:μ}{b:δ}(I:Inv X ϵ σ H s)(a:s.heap.objs.size<=b)(f:H' b=none):bC X ϵ H' b:=by
 show#[f,alY (abM I.lt a),I.nofs a,.inr (amP (aeO I.sz a)),λx c e z=>?_,λp g z=>?_]
 .let#[v,q]:=I.cell x c e;show absurd (abM q.lt (by rw[z];show a)) (aiE _)
 .show absurd (abM (abL (I.pin p g).1) (by rw[z];show a)) (aiE _)
structure Turn(P:Ϯ)(w:Ϭ)(K:ϩ)(tg:Ϩ)(J:It)(fp:List δ)(it:δ)(tn:Nat->ϫ->Prop):Prop where
 mem:it∈fp
 obj:∀i h,tn i h->∀b∈fp,∃o,h.get? b=some o/\∀v,o.data≠.cell v
 keep:∀i h h',tn i h->(∀b∈fp,∀o,h.get? b=some o->h'.get? b=some o)->tn i h'
 item:∀(X:Cx),X.prog=P->X.w=w->X.K=K->X.calm=true->∀(i:Nat)(ϵ:List (δ×Obj))(s:μ)(σ:St)(H:Hp)(E:ε->μ->Prop),Inv X ϵ σ H s->(∀b∈fp,bC X ϵ H b)->tn i s.heap->J.go i H->
  ν (Ϧ P w) X.A (pyNext (.ref it)) (λr s1=>∃u,r=some u/\
   ν (Ϧ P w) X.A (letOwnedTupleGo tg (.ref it) u) (λ_ s2=>∃x H',Inv X ϵ σ H' s2/\RelV x u/\J.yld i H x H'/\tn (i+1) s2.heap/\∀b∈fp,H' b=none) E s1) E s
 done:∀(X:Cx),X.prog=P->X.w=w->X.K=K->X.calm=true->∀(i:Nat)(ϵ:List (δ×Obj))(s:μ)(σ:St)(H:Hp)(E:ε->μ->Prop),Inv X ϵ σ H s->(∀b∈fp,bC X ϵ H b)->tn i s.heap->J.stop i H->
  ν (Ϧ P w) X.A (pyNext (.ref it)) (λr s1=>r=none/\Inv X ϵ σ H s1) E s
 self:∀(A:ϳ)(i:Nat)(s:μ)(Q:ε->μ->Prop)(E:ε->μ->Prop),tn i s.heap->Q (.ref it) s->ν (Ϧ P w) A (pyIter (.ref it)) Q E s
abbrev TI:=St->Hp->(It->Hp->Prop)->Prop
def vy(X:Cx)(ϵ:List (δ×Obj))(σ:St)(tg:Ϩ)(R:It->Hp->Prop)(a:ε)(c:μ):Prop:=
 ∃(it:δ)(fp:List δ)(e:Nat->ϫ->Prop)(J:It)(H':Hp),a=.ref it/\Inv X ϵ σ H' c/\Turn X.prog X.w X.K tg J fp it e/\e 0 c.heap/\(∀b∈fp,bC X ϵ H' b)/\R J H'
def PI(X:Cx)(tg iter:Ϩ)(a:TI):Prop:=
 ∀(ϵ:List (δ×Obj))(s:μ)(σ:St)(H:Hp)(R:It->Hp->Prop),Inv X ϵ σ H s->a σ H R->
  ν (Ϧ X.prog X.w) X.A (eval iter X.env) (λv c=>ν (Ϧ X.prog X.w) X.A (pyIter v) (vy X ϵ σ tg R) X.xe c) X.xe s
theorem t8{M:Model}{A:ϳ}{E:ε->μ->Prop}{s:μ}{tg:Ϩ}{it:δ}{u:ε}{o:Obj}{n:String}{vs:Array ε}{Q:Unit->μ->Prop}(c:s.heap.get? it=some o)(e:o.cls=.type n)(hd:o.data=.fields vs)(f:["enumerate","zip","dict_itemiterator","dict_reverseitemiterator","odict_iterator","itertools.zip_longest","itertools.pairwise"].contains n=false)(a:Q PUnit.unit s):ν M A (letOwnedTupleGo tg (.ref it) u) Q E s:=by
 unfold letOwnedTupleGo;cases tg<;>first
  |show ϯ a
  |(cases u<;>first
   |show ϯ a
   |(show π (wpAny_load c ?_)
     rw[e,hd];show ν M A (if(["enumerate","zip","dict_itemiterator","dict_reverseitemiterator","odict_iterator","itertools.zip_longest","itertools.pairwise"].contains n&&vs[0]?==some (rawInt _))=true then _ else _) Q E s;rw[if_neg (by intro h;rw[f,amV]at h;cases h)];show ϯ a))
def jC(K:ϩ)(a:δ):It:=
 #[λi H=>∃xs x,η K H a xs/\xs[i]?=some x,λi H x H'=>H'=H/\∀xs,η K H a xs->xs[i]?=some x,λi H=>∃xs,η K H a xs/\xs.length<=i]
def oW(K:ϩ)(a:δ):It:=
 #[λi H=>∃xs x,ρ K H a xs/\xs[i]?=some x,λi H x H'=>H'=H/\∀xs,ρ K H a xs->xs[i]?=some x,λi H=>∃xs,ρ K H a xs/\xs.length<=i]
def kY(lo:Int)(n:Nat):It:=#[λi _=>i<n,λi H x H'=>H'=H/\x=.int (lo+i),λi _=>n<=i]
theorem Yg{P:Ϯ}{w:Ϭ}{K:ϩ}{tg:Ϩ}(a it:δ):Turn P w K tg (jC K a) [it] it (λi h=>h.IsListIter it a i)where
 mem:=by simp
 obj:=λi h st b f=>by
  let e:b=it:=by simpa using f
  subst e;let#[o,e,c,d]:=st;show#[o,e,λv z=>by rw[d]at z;cases z]
 keep:=λi h h' st k=>st.at λo e=>k it (by simp) o e
 item:=by
  intro X m n q M i ϵ s σ H E I j st y;subst m n q;let#[xs,x,l,B]:=y;let#[O,C,p,Q]:=I.list l;let#[u,R,S]:=C.get B;let#[D,F,T,G,J,L]:=j it (by simp);show wpAny_pyNext_list_item st p.isList (x:=u) (by simpa using R) λh' g U=>?_
  let W:Inv X ϵ σ H {s with heap:=h'}:=I.turned (t':=s.toks) (λb o f e=>(U.2 b f).trans e) D F G J L;let#[o,e,c,d]:=id g;show#[u,rfl,t8 (s:={s with heap:=h'}) e c d (by decide) #[x,H,W,S,#[rfl,λys Y=>by rw[I.list_inj Y l];show B],g,λb f=>(j b f).1]]
 done:=by
  intro X m n q M i ϵ s σ H E I j st y;subst m n q;let#[xs,l,B]:=y;let#[O,C,p,Q]:=I.list l;let#[D,F,T,G,J,L]:=j it (by simp);let hl:=C.length;show wpAny_pyNext_list_end (I.ok.hd M) st p.isList (by simp;omega) λh' Z=>#[rfl,I.turned (t':=s.toks) (λb o f e=>Z b o f e) D F G J L]
 self:=λ_ _ _ _ _ st h=>wpAny_pyIter_listiter st h
theorem Zz{P:Ϯ}{w:Ϭ}{K:ϩ}{tg:Ϩ}(a it:δ):Turn P w K tg (oW K a) [it] it (λi h=>h.IsTupleIter it a i)where
 mem:=by simp
 obj:=λi h st b f=>by
  let e:b=it:=by simpa using f
  subst e;let#[o,e,c,d]:=st;show#[o,e,λv z=>by rw[d]at z;cases z]
 keep:=λi h h' st k=>st.at λo e=>k it (by simp) o e
 item:=by
  intro X m n q O i ϵ s σ H E I j st y;subst m n q;let#[xs,x,l,B]:=y;let#[C,D,p,Q]:=I.tuple l;let#[u,R,S]:=D.get B;let#[F,G,T,J,L,M]:=j it (by simp);show wpAny_pyNext_tuple_item st (show s.heap.IsTuple a C.toArray from p) (x:=u) (by simpa using R) λh' g U=>?_
  let W:Inv X ϵ σ H {s with heap:=h'}:=I.turned (t':=s.toks) (λb o f e=>(U.2 b f).trans e) F G J L M;let#[o,e,c,d]:=id g;show#[u,rfl,t8 (s:={s with heap:=h'}) e c d (by decide) #[x,H,W,S,#[rfl,λys Y=>by rw[I.tuple_inj Y l];show B],g,λb f=>(j b f).1]]
 done:=by
  intro X m n q O i ϵ s σ H E I j st y;subst m n q;let#[xs,l,B]:=y;let#[C,D,p,Q]:=I.tuple l;let#[F,G,T,J,L,M]:=j it (by simp);let hl:=D.length;show wpAny_pyNext_tuple_end (I.ok.hd O) st (show s.heap.IsTuple a C.toArray from p) (by simp;omega) λh' Z=>#[rfl,I.turned (t':=s.toks) (λb o f e=>Z b o f e) F G J L M]
 self:=λ_ _ _ _ _ st h=>wpAny_pyIter_tupleiter st h
theorem YB{P:Ϯ}{w:Ϭ}{K:PySem.W.Frag}{tg:Ϩ}(it:δ)(lo:Int)(n:Nat):Turn P w K tg (kY lo n) [it] it (λi h=>IsRangeIter h it (lo+(i:Nat)*1) ((n:Int)-(i:Nat)) 1)where
 mem:=by simp
 obj:=λi h st b a=>by
  let e:b=it:=by simpa using a
  subst e;show#[_,st,λv z=>by
   let z':Data.fields _=Data.cell v:=z;cases z']
 keep:=λi h h' st k=>k it (by simp) _ st
 item:=by
  intro X g j l m i ϵ s σ H E I f st p;subst g j l;let#[q,u,C,x,y,B]:=f it (by simp);let W:=Walks.range (prog:=X.prog) (w:=X.w) (I.ok.hd m) it lo 1 n;show W.item i s _ _ p st λv h' tk D c kk=>?_
  let#[t,rfl]:=D;let F:Inv X ϵ σ H {s with heap:=h',toks:=tk}:=I.turned (λb o a e=>kk b o (by simpa using a) e) q u x y B;show#[_,rfl,t8 (s:={s with heap:=h',toks:=tk}) (n:="range_iterator") c rfl rfl (by decide) #[.int (lo+i),H,F,#[t,?_],#[rfl,rfl],c,λb a=>(f b a).1]];rw[Int.mul_one]
 done:=by
  intro X g j l m i ϵ s σ H E I f st p;subst g j l;let#[q,u,C,x,y,B]:=f it (by simp);show wpAny_pyNext_range_end (I.ok.hd m) st (by have:n<=i:=p;omega) λh' G=>#[rfl,I.turned (t':=s.toks) (λb o a e=>G b o a e) q u x y B]
 self:=λ_ _ _ _ _ st h=>wpAny_pyIter_rangeiter st h
section
variable{X:Cx}{tg:Ϩ}
theorem aeu{ϵ:List (δ×Obj)}{σ:St}{H:Hp}{s:μ}{R:It->Hp->Prop}{E:ε->μ->Prop}{lo hi:Int}{t u v:Tok}{tk:Nat}(I:Inv X ϵ σ H s)(h1: -(2^62)<=lo)(h2:lo<2^62)(c: -(2^62)<=hi)(f:hi<2^62)(q:R (kY lo (hi-lo).toNat) H):ν (Ϧ X.prog X.w) X.A (pyIter (.ref s.heap.objs.size)) (vy X ϵ σ tg R) E {s with heap:=s.heap.push {cls:=.type "range",data:=.fields #v[.int lo t,.int hi u,.int 1 v]},toks:=tk}:=by
 show wpAny_pyIter_range (IsRange.new ..) (small_one h1 h2 c f) ?_;let a:Inv X ϵ σ H {s with heap:=s.heap.push {cls:=.type "range",data:=.fields #v[.int lo t,.int hi u,.int 1 v]},toks:=tk}:=I.kept λb o e=>ϴ _ e
 show#[(s.heap.push {cls:=.type "range",data:=.fields #v[.int lo t,.int hi u,.int 1 v]}).objs.size,[(s.heap.push {cls:=.type "range",data:=.fields #v[.int lo t,.int hi u,.int 1 v]}).objs.size],_,_,H,rfl,
  a.kept (t':=tk) λb o e=>ϴ _ e,YB _ lo (hi-lo).toNat,?_,λb g=>?_,q]
 .let e1:lo+((0:Nat):Int)*1=lo:=by simp
  let i:(((hi-lo).toNat:Nat):Int)-((0:Nat):Int)=Builtin.Range.rangeSize lo hi 1:=by rw[rangeSize_one];split <;>omega
  show IsRangeIter _ _ (lo+((0:Nat):Int)*1) ((((hi-lo).toNat:Nat):Int)-((0:Nat):Int)) 1;rw[e1,i];show abb _ rfl
 .let e:b=(s.heap.push {cls:=.type "range",data:=.fields #v[.int lo t,.int hi u,.int 1 v]}).objs.size:=by simpa using g
  subst e;show a.fpOk (ϭ _) (a.hok.fresh (ϭ _))
def gq(fp:List δ)(h:ϫ):List (δ×Obj):=fp.filterMap λb=>(h.get? b).map λo=>(b,o)
theorem uB{fp:List δ}{h:ϫ}{b:δ}{o:Obj}(a:b∈fp)(e:h.get? b=some o):(b,o)∈gq fp h:=am8.mpr #[b,a,by rw[e];rfl]
theorem af4{fp:List δ}{h:ϫ}{p:δ×Obj}(a:p∈gq fp h):p.1∈fp/\h.get? p.1=some p.2:=by
 let#[b,c,e]:=am8.mp a;cases q:h.get? b with
 |none=>rw[q]at e;cases e
 |some o=>
  rw[q]at e;let f:(b,o)=p:=Option.some.inj e;subst f;show#[c,q]
theorem Inv.pinned{ϵ:List (δ×Obj)}{σ:St}{H:Hp}{s:μ}{fp:List δ}(I:Inv X ϵ σ H s)(f:∀b∈fp,bC X ϵ H b)(g:∀b∈fp,∃o,s.heap.get? b=some o/\∀v,o.data≠.cell v):Inv X (ϵ++gq fp s.heap) σ H s:=
 I.pins_of λp i=>(adU.mp i).elim (λz=>I.pin p (aeC _ z)) λz=>by
  let#[a,e]:=af4 z;let#[j,l,m,_]:=f p.1 a;let#[o,c,d]:=g p.1 a;rw[e]at c;cases c;show#[e,j,l,m,d]
theorem Inv.unpinned{ϵ pl:List (δ×Obj)}{σ:St}{H:Hp}{s:μ}(I:Inv X (ϵ++pl) σ H s):Inv X ϵ σ H s:=I.pins_of λp a=>I.pin p (aeC _ (aiM _ a))
end
theorem ahH{K:PySem.W.Frag}{a:δ}{xs:List V}{g:TG}{tb:TS}{D:Ends}{σ:St}{H:Hp}(c:Nat->St->Hp->Prop)(l:c 0 σ H)(n:∀i σ H,i<=xs.length->c i σ H->η K H a xs)(hs:∀i x σ H,xs[i]?=some x->c i σ H->g x σ H λf H2=>tb {D with nx:=c (i+1),ct:=c (i+1),bk:=D.nx} f H2)(hd:∀σ H,c xs.length σ H->D.nx σ H):∃W:Nat->Nat->St->Hp->Prop,(∃m,W 0 m σ H)/\∀i m σ H,W i m σ H->
   ((jC K a).stop i H/\D.nx σ H)\/((jC K a).go i H/\∃N:St->Hp->Prop,(∀σ' H',N σ' H'->∃m',m'<m/\W (i+1) m' σ' H')/\∀x H',(jC K a).yld i H x H'->g x σ H' λf H2=>tb {D with nx:=N,ct:=N,bk:=D.nx} f H2):=by
 show#[λi m σ H=>m=xs.length-i/\i<=xs.length/\c i σ H,#[xs.length,by simp,agn _,l],?_]
 rintro i m σ H ⟨rfl,hi,p⟩
 let q:=n i σ H hi p;by_cases j:i<xs.length
 .show .inr #[#[xs,xs[i],q,by simp[j]],c (i+1),λσ' H' p'=>#[xs.length-(i+1),(),rfl,j,p'],λx H' y=>?_];let#[e,y]:=y;subst e;show hs i x σ _ (y xs q) p
 .let e:i=xs.length:=()
  subst e;show .inl #[#[xs,q,ϭ _],hd σ H p]
theorem adW{K:PySem.W.Frag}{a:δ}{xs:List V}{g:TG}{tb:TS}{D:Ends}{σ:St}{H:Hp}(c:Nat->St->Hp->Prop)(l:c 0 σ H)(n:∀i σ H,i<=xs.length->c i σ H->ρ K H a xs)(hs:∀i x σ H,xs[i]?=some x->c i σ H->g x σ H λf H2=>tb {D with nx:=c (i+1),ct:=c (i+1),bk:=D.nx} f H2)(hd:∀σ H,c xs.length σ H->D.nx σ H):∃W:Nat->Nat->St->Hp->Prop,(∃m,W 0 m σ H)/\∀i m σ H,W i m σ H->
   ((oW K a).stop i H/\D.nx σ H)\/((oW K a).go i H/\∃N:St->Hp->Prop,(∀σ' H',N σ' H'->∃m',m'<m/\W (i+1) m' σ' H')/\∀x H',(oW K a).yld i H x H'->g x σ H' λf H2=>tb {D with nx:=N,ct:=N,bk:=D.nx} f H2):=by
 show#[λi m σ H=>m=xs.length-i/\i<=xs.length/\c i σ H,#[xs.length,by simp,agn _,l],?_]
 rintro i m σ H ⟨rfl,hi,p⟩
 let q:=n i σ H hi p;by_cases j:i<xs.length
 .show .inr #[#[xs,xs[i],q,by simp[j]],c (i+1),λσ' H' p'=>#[xs.length-(i+1),(),rfl,j,p'],λx H' y=>?_];let#[e,y]:=y;subst e;show hs i x σ _ (y xs q) p
 .let e:i=xs.length:=()
  subst e;show .inl #[#[xs,q,ϭ _],hd σ H p]
theorem aeb{lo:Int}{n:Nat}{g:TG}{tb:TS}{D:Ends}{σ:St}{H:Hp}(a:Nat->St->Hp->Prop)(j:a 0 σ H)(hs:∀i σ H,i<n->a i σ H->g (.int (lo+i)) σ H λc H2=>tb {D with nx:=a (i+1),ct:=a (i+1),bk:=D.nx} c H2)(hd:∀σ H,a n σ H->D.nx σ H):∃W:Nat->Nat->St->Hp->Prop,(∃m,W 0 m σ H)/\∀i m σ H,W i m σ H->
   ((kY lo n).stop i H/\D.nx σ H)\/((kY lo n).go i H/\∃N:St->Hp->Prop,(∀σ' H',N σ' H'->∃m',m'<m/\W (i+1) m' σ' H')/\∀x H',(kY lo n).yld i H x H'->g x σ H' λc H2=>tb {D with nx:=N,ct:=N,bk:=D.nx} c H2):=by
 show#[λi m σ H=>m=n-i/\i<=n/\a i σ H,#[n,by simp,agn _,j],?_]
 rintro i m σ H ⟨rfl,hi,p⟩
 by_cases f:i<n
 .show .inr #[f,a (i+1),λσ' H' p'=>#[n-(i+1),(),rfl,f,p'],λx H' y=>?_];let#[e,y]:=y;subst e y;show hs i σ _ f p
 .let e:i=n:=()
  subst e;show .inl #[ϭ _,hd σ H p]
abbrev R2:=V->V->Hp->VK->Prop
def aP(X:Cx)(f:ε->ε->Sem ε)(r:R2):Prop:=
 ∀(ϵ:List (δ×Obj))(s:μ)(σ:St)(H:Hp)(x y:V)(v u:ε)(Q:VK),Inv X ϵ σ H s->RelV x v->RelV y u->r x y H Q->
  ν (Ϧ X.prog X.w) X.A (f v u) (EP X ϵ σ Q) X.xe s
def yg(X:Cx)(f:ε->Sem ε)(r:V->Hp->VK->Prop):Prop:=
 ∀(ϵ:List (δ×Obj))(s:μ)(σ:St)(H:Hp)(x:V)(v:ε)(Q:VK),Inv X ϵ σ H s->RelV x v->r x H Q->
  ν (Ϧ X.prog X.w) X.A (f v) (EP X ϵ σ Q) X.xe s
def iz(X:Cx)(f:ε)(r:List V->Hp->VK->Prop):Prop:=
 ∀(ϵ:List (δ×Obj))(s:μ)(σ:St)(H:Hp)(xs:List V)(us:List ε)(Q:VK),Inv X ϵ σ H s->Vals xs us->r xs H Q->
  ν (Ϧ X.prog X.w) X.A (call f us) (EP X ϵ σ Q) X.xe s
def Zh(X:Cx)(r:V->Hp->(Bool->Hp->Prop)->Prop):Prop:=
 ∀(ϵ:List (δ×Obj))(s:μ)(σ:St)(H:Hp)(x:V)(v:ε)(Q:Bool->Hp->Prop),Inv X ϵ σ H s->RelV x v->r x H Q->
  ν (Ϧ X.prog X.w) X.A (truthy v) (TP X ϵ σ Q) X.xe s
def rI(C:Int->Int->Prop)(g:Int->Int->V):R2:=λx y H Q=>∃i j,x=.int i/\y=.int j/\C i j/\Q (g i j) H
def j7(g:Int->Int->V):R2:=λx y H Q=>∃i j,x=.int i/\y=.int j/\Q (g i j) H
def rU(g:Int->V):V->Hp->VK->Prop:=λx H Q=>∃i,x=.int i/\Q (g i) H
section
variable{X:Cx}{a b c:Ϩ}{ta tb tc:TE}{pos:Pos}
theorem zR(j:PE X a ta)(l:PE X b tb){ϵ:List (δ×Obj)}{s:μ}{σ:St}{H:Hp}{R:V->V->Hp->Prop}(I:Inv X ϵ σ H s)(h:ta σ H λx H1=>tb σ H1 λy H2=>R x y H2){Q:ε->μ->Prop}{f:ε->ε->Sem ε}(m:∀v u g x y H2,Inv X ϵ σ H2 g->RelV x v->RelV y u->R x y H2->ν (Ϧ X.prog X.w) X.A (f v u) Q X.xe g):ν (Ϧ X.prog X.w) X.A (eval a X.env) (λv c=>ν (Ϧ X.prog X.w) X.A (eval b X.env) (λu e=>ν (Ϧ X.prog X.w) X.A (f v u) Q X.xe e) X.xe c) X.xe s:=by
 show χ (j ϵ s σ H _ I h) λv n i=>?_
 let#[x,H1,o,p,q]:=i;show χ (l ϵ n σ H1 _ o q) λu g i=>?_
 let#[y,H2,z,B,C]:=i;show m v u g x y H2 z p B C
theorem Gd{f:ε->ε->Sem ε}{C:Int->Int->Prop}{g:Int->Int->Int}(rule:∀(i j:Int)(t u:Tok)(s:μ)(Q:ε->μ->Prop)(E:ε->μ->Prop),C i j->Q (.int (g i j) s.toks) {s with toks:=s.toks+1}->ν (Ϧ X.prog X.w) X.A (f (.int i t) (.int j u)) Q E s):aP X f (rI C λi j=>.int (g i j)):=by
 intro ϵ s σ H x y v u Q I rx ry h;let#[i,j,rfl,rfl,a,q]:=h;let#[t,rfl]:=rx;let#[t',rfl]:=ry;show rule i j t t' s _ _ a #[.int (g i j),H,I.tok _,#[_,rfl],q]
theorem Rt{f:ε->ε->Sem ε}{g:Int->Int->Int}(rule:∀(i j:Int)(t u:Tok)(s:μ)(Q:ε->μ->Prop)(E:ε->μ->Prop),Q (.int (g i j) s.toks) {s with toks:=s.toks+1}->ν (Ϧ X.prog X.w) X.A (f (.int i t) (.int j u)) Q E s):aP X f (j7 λi j=>.int (g i j)):=by
 intro ϵ s σ H x y v u Q I rx ry h;let#[i,j,rfl,rfl,q]:=h;let#[t,rfl]:=rx;let#[t',rfl]:=ry;show rule i j t t' s _ _ #[.int (g i j),H,I.tok _,#[_,rfl],q]
theorem vW{f:ε->ε->Sem ε}{g:Int->Int->Bool}(rule:∀(i j:Int)(t u:Tok)(s:μ)(Q:ε->μ->Prop)(E:ε->μ->Prop),Q (.bool (g i j)) s->ν (Ϧ X.prog X.w) X.A (f (.int i t) (.int j u)) Q E s):aP X f (j7 λi j=>.bl (g i j)):=by
 intro ϵ s σ H x y v u Q I rx ry h;let#[i,j,rfl,rfl,q]:=h;let#[t,rfl]:=rx;let#[t',rfl]:=ry;show rule i j t t' s _ _ #[.bl (g i j),H,I,rfl,q]
def U5(i j:Int):Prop:=0<j/\j<1073741824
def wO(i j:Int):Prop:=(-(2^64)<i/\i<2^64)\/(-(2^64)<j/\j<2^64)
theorem wO.ok{i j:Int}(h:wO i j):IntMulOk i j:=by
 obtain⟨h1,h2⟩|⟨h1,h2⟩:=h
 .show .of_left (intBits_le_64 h1 h2)
 .show .of_right (intBits_le_64 h1 h2)
theorem ajv:aP X (binaryOp .Add) (j7 λi j=>.int (i+j)):=Rt λ_ _ _ _ _ _ _ q=>add_int q
theorem ajT:aP X (binaryOp .Sub) (j7 λi j=>.int (i-j)):=Rt λ_ _ _ _ _ _ _ q=>sub_int q
theorem ah7:aP X (binaryOp .Mult) (rI wO λi j=>.int (i*j)):=Gd λ_ _ _ _ _ _ _ a q=>mul_int q a.ok
theorem agU:aP X (binaryOp .FloorDiv) (rI U5 λi j=>.int (i / j)):=Gd λi j _ _ _ _ _ a q=>by
 let h1:(0:Int)<j:=a.1;let h2:j<1073741824:=a.2;show floordiv_int () (by rw[Int.fdiv_eq_ediv_of_nonneg i ()];show q) (.inl (PyProof.noPylong_small ()))
theorem Xh:aP X (binaryOp .Mod) (rI (λ_ j=>0<j) λi j=>.int (i % j)):=Gd λi j _ _ _ _ _ a q=>by
 let h1:(0:Int)<j:=a;show mod_int' () (by rw[Int.fmod_eq_emod_of_nonneg i ()];show q)
theorem unI{f:ε->Sem ε}{g:Int->Int}(rule:∀(i:Int)(t:Tok)(s:μ)(Q:ε->μ->Prop)(E:ε->μ->Prop),Q (.int (g i) s.toks) {s with toks:=s.toks+1}->ν (Ϧ X.prog X.w) X.A (f (.int i t)) Q E s):yg X f (rU λi=>.int (g i)):=by
 intro ϵ s σ H x v Q I rx h;let#[i,rfl,q]:=h;let#[t,rfl]:=rx;show rule i t s _ _ #[.int (g i),H,I.tok _,#[_,rfl],q]
theorem abV:yg X (unaryOp .USub) (rU λi=>.int (-i)):=unI λ_ _ _ _ _ q=>neg_int q
end
def qm:V->V->Bool
 |.non,.non=>true|.non,.int _=>true|.int _,.non=>true|.non,.bl _=>true|.bl _,.non=>true|.non,.str _=>true|.str _,.non=>true
 |.int _,.int _=>true|.bl _,.bl _=>true|.str _,.str _=>true|.byt _,.byt _=>true
 |.int _,.str _=>true|.str _,.int _=>true|.bl _,.str _=>true|.str _,.bl _=>true
 |_,_=>false
def rEq:R2:=λx y H Q=>qm x y=true/\Q (.bl (decide (x=y))) H
def rNe:R2:=λx y H Q=>qm x y=true/\Q (.bl (!decide (x=y))) H
theorem Uo{i j:Int}:decide (V.int i=V.int j)=(i==j):=by
 rw[ahR];simp
theorem Wy{i j:Bool}:decide (V.bl i=V.bl j)=(i==j):=by
 rw[ahR];simp
theorem V0{i j:Str}:decide (V.str i=V.str j)=(i==j):=by
 rw[ahR];simp
theorem R9{i j:Array UInt8}:decide (V.byt i=V.byt j)=(i.toList==j.toList):=by
 rw[ahR];cases i;cases j;simp
section
variable{X:Cx}{a b c:Ϩ}{ta tb tc:TE}{pos:Pos}
theorem Ϟ{ϵ:List (δ×Obj)}{σ:St}{H:Hp}{s:μ}{Q:VK}{k k':Bool}(I:Inv X ϵ σ H s)(q:Q (.bl k) H)(e:k=k'):EP X ϵ σ Q (.bool k') s:=by
 subst e;show#[.bl k,H,I,rfl,q]
theorem afj:aP X (ad7 .Eq) rEq:=by
 intro ϵ s σ H x y v u Q I rx ry h;let#[hs,q]:=h;cases x with
 |non=>
  cases rx;cases y with
  |non=>cases ry;show PySem.EqNone.eq_none_none (Ϟ I q (by simp))
  |bl j=>cases ry;show PySem.EqNone.eq_none_bool (Ϟ I q (by simp))
  |int j=>let#[t',rfl]:=ry;show PySem.EqNone.eq_none_int (Ϟ I q (by simp))
  |str j=>let#[t',rfl]:=ry;show PySem.EqNone.eq_none_str (Ϟ I q (by simp))
  |_=>show absurd (show false=true from hs) aaN
 |bl i=>
  cases rx;cases y with
  |non=>cases ry;show PySem.EqNone.eq_bool_none (Ϟ I q (by simp))
  |bl j=>cases ry;show eq_bool (Ϟ I q Wy)
  |str j=>let#[t',rfl]:=ry;show PySem.EqMixed.eq_bool_str (Ϟ I q (by simp))
  |_=>show absurd (show false=true from hs) aaN
 |int i=>
  let#[t,rfl]:=rx;cases y with
  |non=>cases ry;show PySem.EqNone.eq_int_none (Ϟ I q (by simp))
  |int j=>let#[t',rfl]:=ry;show eq_int (Ϟ I q Uo)
  |str j=>let#[t',rfl]:=ry;show PySem.EqMixed.eq_int_str (Ϟ I q (by simp))
  |_=>show absurd (show false=true from hs) aaN
 |str i=>
  let#[t,rfl]:=rx;cases y with
  |non=>cases ry;show PySem.EqNone.eq_str_none (Ϟ I q (by simp))
  |bl j=>cases ry;show PySem.EqMixed.eq_str_bool (Ϟ I q (by simp))
  |int j=>let#[t',rfl]:=ry;show PySem.EqMixed.eq_str_int (Ϟ I q (by simp))
  |str j=>let#[t',rfl]:=ry;show eq_str (Ϟ I q V0)
  |_=>show absurd (show false=true from hs) aaN
 |byt i=>
  let#[t,rfl]:=rx;cases y with
  |byt j=>let#[t',rfl]:=ry;show W.eq_bytes (Ϟ I q R9)
  |_=>show absurd (show false=true from hs) aaN
 |_=>cases y<;>show absurd (show false=true from hs) aaN
theorem aa3:aP X (ad7 .NotEq) rNe:=by
 intro ϵ s σ H x y v u Q I rx ry h;let#[hs,q]:=h;cases x with
 |non=>
  cases rx;cases y with
  |non=>cases ry;show PySem.EqNone.ne_none_none (Ϟ I q (by simp))
  |bl j=>cases ry;show PySem.EqNone.ne_none_bool (Ϟ I q (by simp))
  |int j=>let#[t',rfl]:=ry;show PySem.EqNone.ne_none_int (Ϟ I q (by simp))
  |str j=>let#[t',rfl]:=ry;show PySem.EqNone.ne_none_str (Ϟ I q (by simp))
  |_=>show absurd (show false=true from hs) aaN
 |bl i=>
  cases rx;cases y with
  |non=>cases ry;show PySem.EqNone.ne_bool_none (Ϟ I q (by simp))
  |bl j=>cases ry;show ne_bool (Ϟ I q (congrArg not Wy))
  |str j=>let#[t',rfl]:=ry;show PySem.EqMixed.ne_bool_str (Ϟ I q (by simp))
  |_=>show absurd (show false=true from hs) aaN
 |int i=>
  let#[t,rfl]:=rx;cases y with
  |non=>cases ry;show PySem.EqNone.ne_int_none (Ϟ I q (by simp))
  |int j=>let#[t',rfl]:=ry;show ne_int (Ϟ I q (congrArg not Uo))
  |str j=>let#[t',rfl]:=ry;show PySem.EqMixed.ne_int_str (Ϟ I q (by simp))
  |_=>show absurd (show false=true from hs) aaN
 |str i=>
  let#[t,rfl]:=rx;cases y with
  |non=>cases ry;show PySem.EqNone.ne_str_none (Ϟ I q (by simp))
  |bl j=>cases ry;show PySem.EqMixed.ne_str_bool (Ϟ I q (by simp))
  |int j=>let#[t',rfl]:=ry;show PySem.EqMixed.ne_str_int (Ϟ I q (by simp))
  |str j=>let#[t',rfl]:=ry;show ne_str (Ϟ I q (congrArg not V0))
  |_=>show absurd (show false=true from hs) aaN
 |byt i=>
  let#[t,rfl]:=rx;cases y with
  |byt j=>let#[t',rfl]:=ry;show W.ne_bytes (Ϟ I q (congrArg not R9))
  |_=>show absurd (show false=true from hs) aaN
 |_=>cases y<;>show absurd (show false=true from hs) aaN
theorem aco:aP X (ad7 .Lt) (j7 λi j=>.bl (decide (i<j))):=vW λ_ _ _ _ _ _ _ q=>lt_int q
theorem Xz:aP X (ad7 .LtE) (j7 λi j=>.bl (decide (i<=j))):=vW λ_ _ _ _ _ _ _ q=>le_int q
theorem acp:aP X (ad7 .Gt) (j7 λi j=>.bl (decide (j<i))):=vW λ_ _ _ _ _ _ _ q=>gt_int q
theorem ajC:aP X (ad7 .GtE) (j7 λi j=>.bl (decide (j<=i))):=vW λ_ _ _ _ _ _ _ q=>ge_int q
theorem ahn:aP X (ad7 .Lt) (λx y H Q=>∃i j,x=.str i/\y=.str j/\Q (.bl (decide (i.cps.toList<j.cps.toList))) H):=by
 intro ϵ s σ H x y v u Q I rx ry h;let#[i,j,rfl,rfl,q]:=h;let#[t,rfl]:=rx;let#[t',rfl]:=ry;show lt_str (Ϟ I q rfl)
theorem aax:aP X (ad7 .In) (λx y H Q=>∃i j,x=.str i/\y=.str j/\Q (.bl (!(Builtin.Str.occurrences j i 0 j.length 1).isEmpty)) H):=by
 intro ϵ s σ H x y v u Q I rx ry h;let#[i,j,rfl,rfl,q]:=h;let#[t,rfl]:=rx;let#[t',rfl]:=ry;show in_str (Ϟ I q rfl)
theorem aiS:aP X (ad7 .Is) (λx y H Q=>y=.non/\Q (.bl (decide (x=.non))) H):=by
 intro ϵ s σ H x y v u Q I rx ry h;let#[rfl,q]:=h;cases ry;show is_none_gen (Ϟ I q ?_);cases x<;>first
  |(cases rx;rfl)
  |(let#[t,rfl]:=rx;rfl)
theorem acn:aP X (ad7 .IsNot) (λx y H Q=>y=.non/\Q (.bl (!decide (x=.non))) H):=by
 intro ϵ s σ H x y v u Q I rx ry h;let#[rfl,q]:=h;cases ry;show isnot_none_gen (Ϟ I q ?_);cases x<;>first
  |(cases rx;rfl)
  |(let#[t,rfl]:=rx;rfl)
theorem JP(b:Ϩ){op:CmpOp}(h:op≠ .In:=by decide)(h2:op≠ .NotIn:=by decide):behindInMarks op b=false:=by
 let e1:(op==CmpOp.In)=false:=by cases op<;>first|rfl|show absurd rfl h
 let a:(op==CmpOp.NotIn)=false:=by cases op<;>first|rfl|show absurd rfl h2
 cases b<;>simp[behindInMarks,e1,a]
def GJ(K:ϩ)(x:V)(H:Hp)(k:Bool):Prop:=
 match x with
 |.non=>k=false
 |.bl b=>k=b
 |.int i=>k=(i !=0)
 |.str y=>y.length<=ϰ/\k=((y.length:Int) !=0)
 |.byt y=>y.size<=ϰ/\k=((y.size:Int) !=0)
 |.ref p=>(∃xs,η K H p xs/\k= !xs.isEmpty)\/(∃xs,ρ K H p xs/\k= !xs.isEmpty)\/∃Ϸ,H p=some (.dK Ϸ)/\k= !Ϸ.isEmpty
 |_=>False
theorem aaO{κ:Type}{Ϸ:List (κ×V)}{vs:List (κ×ε)}(r:KV Ϸ vs):(!vs.isEmpty)= !Ϸ.isEmpty:=by
 cases r<;>rfl
theorem Pr{xs:List V}{a:List ε}(r:Vals xs a):(!a.toArray.isEmpty)= !xs.isEmpty:=by
 cases r<;>simp
theorem pK:(ϰ:Nat)<2^63:=by rw[ϱ];decide
theorem abm:Zh X (λx H Q=>∃k,GJ X.K x H k/\Q k H):=by
 intro ϵ s σ H x v Q I rx h;let#[k,e,q]:=h;let o:=pK;let hs:ϰ=16777216:=ϱ;cases x with
 |non=>
  cases rx;let a:k=false:=e;subst a;show truthy_none #[H,I,q]
 |bl b=>
  cases rx;let a:k=b:=e;subst a;show ahw #[H,I,q]
 |int i=>
  let#[t,rfl]:=rx;let a:k=(i !=0):=e;subst a;show PySem.P.truthy_int #[H,I,q]
 |str y=>
  let#[t,rfl]:=rx;obtain⟨j,a⟩:y.length<=ϰ/\k=((y.length:Int) !=0):=e;subst a;show PySem.P.truthy_str () #[H,I.tok _,q]
 |byt y=>
  let#[t,rfl]:=rx;obtain⟨j,a⟩:y.size<=ϰ/\k=((y.size:Int) !=0):=e;subst a;show W.truthy_bytes () #[H,I.tok _,q]
 |ref p=>
  cases rx;let a:(∃xs,η X.K H p xs/\k= !xs.isEmpty)\/(∃xs,ρ X.K H p xs/\k= !xs.isEmpty)\/∃Ϸ,H p=some (.dK Ϸ)/\k= !Ϸ.isEmpty:=e;obtain⟨xs,f,a⟩|⟨xs,f,a⟩|⟨Ϸ,f,a⟩:=a
  .subst a;let#[l,r,pl,g]:=I.list f;let c:=r.length;show wpAny_truthy_list pl.isList (by simp only[aa8];omega) #[H,I.tok _,by rw[Pr r];show q]
  .subst a;let#[l,r,pl,g]:=I.tuple f;let c:=r.length;show truthy_tuple pl (by simp only[aa8];omega) #[H,I.tok _,by rw[Pr r];show q]
  .subst a;obtain⟨g,n,vs,r,m⟩:Ϸ.length<=ϰ/\(p==sysModules)=false/\∃vs,KV Ϸ vs/\s.heap.DictOf (cP X.prog X.w) p vs:=I.hok p _ f;let c:Ϸ.length=vs.length:=Paired.length r;show wpAny_truthy_dict n m () #[H,I.tok _,by rw[aaO r];show q]
 |_=>show(show False from e).elim
theorem afX:aP X (binaryOp .Add) (λx y H Q=>∃i j,x=.str i/\y=.str j/\i.length+j.length<=ϰ/\Q (.str (i++j)) H):=by
 intro ϵ s σ H x y v u Q I rx ry h;let#[i,j,rfl,rfl,a,q]:=h;let#[t,rfl]:=rx;let#[t',rfl]:=ry;show add_str (λt' tk=>#[.str (i++j),H,I.tok _,#[_,rfl],q]) a
theorem vals1{x:V}{us:List ε}(r:Vals [x] us):∃u,us=[u]/\RelV x u:=by
 cases r with
 |cons a c=>cases c;show#[_,rfl,a]
theorem vals2{x y:V}{us:List ε}(r:Vals [x,y] us):∃u w',us=[u,w']/\RelV x u/\RelV y w':=by
 cases r with
 |cons a c=>
  cases c with
  |cons e f=>cases f;show#[_,_,rfl,a,e]
theorem ahm(c:X.calm=true):iz X (.builtin "max") (λxs H Q=>∃i j,xs=[.int i,.int j]/\Q (.int (if j>i then j else i)) H):=by
 intro ϵ s σ H xs us Q I r h;let#[i,j,rfl,q]:=h;let#[u,e,rfl,#[t,rfl],#[t',rfl]]:=vals2 r;show max_two_ints (I.ok.hd c) λh' tk k=>#[_,H,I.kept k,?_,q]
 by_cases a:j>i
 .rw[if_pos a,if_pos a];show#[_,rfl]
 .rw[if_neg a,if_neg a];show#[_,rfl]
theorem ac4(c:X.calm=true):iz X (.builtin "min") (λxs H Q=>∃i j,xs=[.int i,.int j]/\Q (.int (if j<i then j else i)) H):=by
 intro ϵ s σ H xs us Q I r h;let#[i,j,rfl,q]:=h;let#[u,e,rfl,#[t,rfl],#[t',rfl]]:=vals2 r;show min_two_ints (I.ok.hd c) λh' tk k=>#[_,H,I.kept k,?_,q]
 by_cases a:j<i
 .rw[if_pos a,if_pos a];show#[_,rfl]
 .rw[if_neg a,if_neg a];show#[_,rfl]
theorem aa5:iz X (.type "str") (λxs H Q=>∃i,xs=[.int i]/\i.natAbs.log2<1920/\Q (.str (toString i)) H):=by
 intro ϵ s σ H xs us Q I r h;let#[i,rfl,a,q]:=h;let#[u,rfl,t,rfl]:=vals1 r;show PySem.P.str_of_int a #[.str _,H,I.tok _,#[_,rfl],q]
end
structure mY(h:ϫ)(x dx C:δ)(mA:Str->Option ε):Prop where
 obj:h.get? x=some (ano C dx)
 ns:h.Ns1 dx mA
 ne:dx≠x
theorem Oo{h:ϫ}{dx:δ}{mA:Str->Option ε}(n:h.Ns1 dx mA):∃od,h.get? dx=some od/\∀name,ao3 name od=some (mA name):=by
 let#[o,es,ep,f,hd,g,_,i]:=n;show#[o,f,λname=>?_];let e:=i name;unfold nsFind findBy at e;rw[<-aoB]at e;unfold ao3;rw[hd];dsimp only;split
 .rename_i y q;rw[q]at e;show congrArg some e
 .rename_i q;rw[q]at e;let a:es.toList.any (·.refKey)=false:=by
   rw[List.any_eq_false];intro y j;let#[z,t,c]:=g y (Array.mem_toList_iff.mp j);simp[DictEntry.refKey,c]
  let l:¬es.toList.any (·.refKey)=true:=by rw[a];show aaN
  rw[if_neg l];show congrArg some e
theorem mY.look{h:ϫ}{x dx C:δ}{mA:Str->Option ε}(I:mY h x dx C mA):∃od,ao4 h x (ano C dx) C (some od)/\∀name,ao3 name od=some (mA name):=
 let⟨od,ho,hl⟩:=Oo I.ns
 #[od,#[I.obj,rfl,rfl,ho],hl]
section
variable{prog:Ϯ}{w:Ϭ}{A:ϳ}{E:ε->μ->Prop}{s:μ}{K:ϩ}{x dx C f:δ}{mA:Str->Option ε}{name:Str}{v:ε}
theorem get_map{a:Bool}{Q:ε->μ->Prop}(X:K.In s.heap)(I:mY s.heap x dx C mA)(e:anu K C name=true)(hh:alZ K C=true)(f:afc K (.ref C) name=some none)(g:mA name=some v)(c:W.handedIn v=true)(h:Q v {s with toks:=s.toks+1}):ν (Ϧ prog w) A (getAttr (.ref x) name a) Q E s:=by
 let#[od,J,i]:=I.look;show W.get_value X J (aoC e).1 (W.findObj_own hh f rfl (by rw[i,g])) c h
theorem ZG{pl:Sem Bool}{Q:ε×List ε->μ->Prop}(X:K.In s.heap)(I:mY s.heap x dx C mA)(a:anu K C name=true)(c:afc K (.ref C) name=some (some (.ref f)))(e:aoD K (.ref f)=true)(g:mA name=none)(h:Q (.ref f,[.ref x]) s):ν (Ϧ prog w) A (getMethod (.ref x) name pl) Q E s:=by
 let#[od,J,i]:=I.look;show W.method_fn X J (aoC a).1 (aoC a).2 c (beq_iff_eq.mp e) (by show(ao3 name od).map (·.isSome)=some false;rw[i,g];rfl) h
theorem ahC{ns:List Str}{Q:Unit->μ->Prop}(X:K.In s.heap)(I:mY s.heap x dx C mA)(hs:afc K (.ref C) "__setattr__"=some (some (.builtin "object.__setattr__")))(l:anV K C=true)(m:aof K C name=some none)(hh:alZ K C=true)(n:PySem.Within mA ns)(hsz:ns.length<=ϰ)(h:∀h',mY h' x dx C (λy=>if y=name then some v else mA y)->akp dx s.heap h'->Q PUnit.unit {s with heap:=h',toks:=s.toks+2}):ν (Ϧ prog w) A (setAttr (.ref x) name v) Q E s:=by
 let#[od,J,z]:=I.look;show W.set_plain X J hs (W.osa_open (s:={s with toks:=s.toks+1}) (r:=none) X J l m λb=>?_);let#[cd,o,f]:=aoq hh;let p:s.heap.get? x=some #[.ref C,some dx,.plain, #v[]]:=I.obj;show π (ϯ (π (π (wpAny_loadPart p (π (W.Looks.here (s:={s with toks:=s.toks+1}) (W.looks_clsIn X o) ?_))))));rw[f];show ϯ (a:=some dx) (π (ϯ (π ?_)));show wpAny_nsSet1 (s:={s with toks:=s.toks+1}) I.ns λh' c e=>?_
 let#[B,q,u,g,i,j]:=c.count (PySem.Within.cons name v n);show π (wpAny_lookBehind g (by rw[i];show pastItsLine_dict (aeO j (by rw[acV];omega))) ?_);show ϯ (h _ #[(e.2 _ (Ne.symm I.ne)).trans I.obj,c,I.ne] e)
theorem ZC{R:Result->μ->Prop}{vs:List ε}{kw:List (Str×ε)}(X:K.In s.heap)(a:ao6 K C=true)(hi:afc K (.ref C) "__init__"=some (some (.ref f)))(c:anC K (.ref f)=some (.type "function"))(h:codeAny (Ϧ prog w) (A.under (.builtin "type.__call__" #[.ref C::vs,kw])) (.call (.ref f) #[.ref (s.heap.objs.size+1)::vs,kw]) (W.InitBack (s.heap.objs.size+1) R)
   {s with heap:=(s.heap.push ak7).push (ano C s.heap.objs.size)}):codeAny (Ϧ prog w) A (.call (.ref C) #[vs,kw]) R s:=by
 let#[hh,g,d,t,os]:=s;show W.make_core (W.makes_of X a) (aou X hi) (λself=>W.bind_fn X self c) (.inl rfl) h
end
def ϡ(f:Str)(v:V):List (Str×V)->List (Str×V)
 |[]=>[(f,v)]
 |(g,x)::r=>if g=f then(g,v)::r else(g,x)::ϡ f v r
theorem LC(f g:Str)(v:V):∀fs:List (Str×V),(ϡ f v fs).lookup g=if g=f then some v else fs.lookup g
 |[]=>by
  show ais g [(f,v)]=_;by_cases h:g=f
  .let a:(g==f)=true:=beq_iff_eq.mpr h;simp only[ais,a,if_pos h]
  .let a:(g==f)=false:=beq_eq_false_iff_ne.mpr h;simp only[ais,a,if_neg h]
 |(k,x)::r=>by
  let i:=LC f g v r;rw[show ϡ f v ((k,x)::r)=(if k=f then(k,v)::r else(k,x)::ϡ f v r)from rfl];by_cases c:k=f
  .rw[if_pos c];by_cases h:g=k
   .let a:(g==k)=true:=beq_iff_eq.mpr h;simp only[ais,a,if_pos (h.trans c)]
   .let a:(g==k)=false:=beq_eq_false_iff_ne.mpr h;simp only[ais,a,if_neg (λe:g=f=>h (e.trans c.symm))]
  .rw[if_neg c];by_cases h:g=k
   .let a:(g==k)=true:=beq_iff_eq.mpr h;simp only[ais,a,if_neg (λe:g=f=>c (h.symm.trans e))]
   .let a:(g==k)=false:=beq_eq_false_iff_ne.mpr h;simp only[ais,a];show i
theorem zP(f:Str)(v:V):∀fs:List (Str×V),f∈(ϡ f v fs).map (·.1)/\∀g,g∈fs.map (·.1)->g∈(ϡ f v fs).map (·.1)
 |[]=>#[by simp[ϡ],λg h=>by simp at h]
 |(k,x)::r=>by
  let#[c,i]:=zP f v r;rw[show ϡ f v ((k,x)::r)=(if k=f then(k,v)::r else(k,x)::ϡ f v r)from rfl];by_cases a:k=f
  .rw[if_pos a];subst a;show#[by simp,λg h=>by simpa using h]
  .rw[if_neg a];show#[?_,λg h=>?_]
   .rw[ad4];show adP _ c
   .rw[ad4]at h⊢;obtain e|e:=ϲ.mp h
    .show ϲ.mpr (.inl e)
    .show adP _ (i g e)
theorem jY(f:Str)(v:V):∀fs:List (Str×V),(ϡ f v fs).length<=fs.length+1
 |[]=>by simp[ϡ]
 |(k,x)::r=>by
  let c:=jY f v r;rw[show ϡ f v ((k,x)::r)=(if k=f then(k,v)::r else(k,x)::ϡ f v r)from rfl];by_cases a:k=f
  .rw[if_pos a,acV,acV];omega
  .rw[if_neg a,acV,acV];omega
theorem bZ.some_of{v:V}{o:Option ε}(r:bZ (some v) o):∃u,o=some u/\RelV v u:=by
 cases o with
 |none=>show(show False from r).elim
 |some u=>show#[u,rfl,r]
theorem bZ.none_of{o:Option ε}(r:bZ none o):o=none:=by
 cases o with
 |none=>rfl
 |some u=>show(show False from r).elim
theorem acr{v:V}{u:ε}(r:RelV v u):W.handedIn u=true:=by
 cases v with
 |non=>cases(show u=Value.none from r);rfl
 |bl b=>cases(show u=Value.bool b from r);rfl
 |int i=>let#[t,e]:=(show ∃t,u=Value.int i t from r);cases e;rfl
 |str x=>let#[t,e]:=(show ∃t,u=Value.str x t from r);cases e;rfl
 |byt b=>let#[t,e]:=(show ∃t,u=Value.bytes b t from r);cases e;rfl
 |flt b=>let#[t,e]:=(show ∃t,u=Value.float b t from r);cases e;rfl
 |ref a=>cases(show u=Value.ref a from r);rfl
 |ty n=>cases(show u=Value.type n from r);rfl
section
variable{P:Ϯ}{w:Ϭ}{H H':Hp}{h h':ϫ}{a C dx:δ}{fs fs':List (Str×V)}
theorem uW(hok:Ϣ P w H h)(e:H a=some (.ins C dx fs)):∃mA,mY h a dx C mA/\(∀f,bZ (fs.lookup f) (mA f))/\PySem.Within mA (fs.map (·.1))/\fs.length<=1000/\H dx=some (.own a):=by
 let#[d,z,ne,c,mA,n,r,q]:=(show ϕ P w H h a (.ins C dx fs)from hok a _ e);show#[mA,#[c,n,ne],r,q,z,d]
end
structure Ϛ(K:ϩ)(C:δ):Prop where
 pg:anu K C akO=true
 hd:alZ K C=true
 po:anV K C=true
 sa:afc K (.ref C) "__setattr__"=some (some (.builtin "object.__setattr__"))
theorem Ϛ.get{K:ϩ}{C:δ}(c:Ϛ K C)(f:Str):anu K C f=true:=c.pg
def Ψ(K:ϩ)(C:δ)(f:Str):Prop:=afc K (.ref C) f=some none
theorem Ψ.taker{K:ϩ}{C:δ}{f:Str}(n:Ψ K C f):aof K C f=some none:=by
 unfold aof;rw[show afc K (.ref C) f=some none from n];rfl
structure Meth(K:ϩ)(C:δ)(m:Str)(f:δ):Prop where
 at_:afc K (.ref C) m=some (some (.ref f))
 fn:aoD K (.ref f)=true
 kp:amY K (.ref f)=true
section
variable{X:Cx}{ϵ:List (δ×Obj)}{σ:St}{H:Hp}{s:μ}{a C dx:δ}{fs:List (Str×V)}{f:Str}{v:V}{A:ϳ}{E:ε->μ->Prop}
theorem Mz{b:Bool}{Q:ε->μ->Prop}(I:Inv X ϵ σ H s)(e:H a=some (.ins C dx fs))(c:Ϛ X.K C)(n:Ψ X.K C f)(l:fs.lookup f=some v)(h:∀u s',Inv X ϵ σ H s'->RelV v u->Q u s'):ν (Ϧ X.prog X.w) A (getAttr (.ref a) f b) Q E s:=by
 let#[mA,O,r,_,_,_]:=uW I.hok e;let#[u,i,g]:=bZ.some_of (v:=v) (o:=mA f) (by rw[<-l];show r f);show get_map I.kIn O (c.get f) c.hd n i (acr g) (h u _ (I.tok _) g)
theorem K3{m:Str}{g:δ}{pl:Sem Bool}{Q:ε×List ε->μ->Prop}(I:Inv X ϵ σ H s)(e:H a=some (.ins C dx fs))(c:Ϛ X.K C)(k:Meth X.K C m g)(l:fs.lookup m=none)(h:Q (.ref g,[.ref a]) s):ν (Ϧ X.prog X.w) A (getMethod (.ref a) m pl) Q E s:=by
 let#[mA,O,r,_,_,_]:=uW I.hok e;let f:mA m=none:=bZ.none_of (by rw[<-l];show r m);show ZG I.kIn O (c.get m) k.at_ k.fn f h
theorem Ju{y:V}{u:ε}{Q:Unit->μ->Prop}(I:Inv X ϵ σ H s)(e:H a=some (.ins C dx fs))(c:Ϛ X.K C)(n:Ψ X.K C f)(D:fs.length<1000)(ry:RelV y u)(h:∀s',Inv X ϵ σ (upd H a (.ins C dx (ϡ f y fs))) s'->Q PUnit.unit s'):ν (Ϧ X.prog X.w) A (setAttr (.ref a) f u) Q E s:=by
 let#[mA,O,r,j,_,l]:=uW I.hok e;let m:(fs.map (·.1)).length<=ϰ:=by rw[aav,ϱ];omega
 show ahC I.kIn O c.sa c.po n.taker c.hd j m λh' i p=>h _ ?_
 let hd:∃o,h'.get? dx=some o:=let⟨o,_,_,e',_⟩:=i.ns;#[o,e'];show I.write (x:=a) (e:=dx) (by rw[e];show True.intro) (.inr l) (λb q v z=>(p.2 b v).trans z) hd ?_;show#[by rw[ο O.ne];show l,?_,O.ne,i.obj,_,i.ns,λg=>?_,λg B=>?_]
 .have :=jY f y fs;omega
 .show bZ ((ϡ f y fs).lookup g) (if g=f then some u else mA g);rw[LC];by_cases q:g=f
  .rw[if_pos q,if_pos q];show ry
  .rw[if_neg q,if_neg q];show r g
 .by_cases q:g=f
  .rw[q];show(zP f y fs).1
  .show(zP f y fs).2 g (j g λz=>B ?_);show(if g=f then some u else mA g)=none;rw[if_neg q];show z
theorem Inv.made(I:Inv X ϵ σ H s):Inv X ϵ σ (upd (upd H s.heap.objs.size (.own (s.heap.objs.size+1))) (s.heap.objs.size+1) (.ins C s.heap.objs.size []))
  {s with heap:=(s.heap.push ak7).push (ano C s.heap.objs.size)}:=by
 let e1:(s.heap.push ak7).get? s.heap.objs.size=some ak7:=abb s.heap rfl;let c:((s.heap.push ak7).push (ano C s.heap.objs.size)).get? (s.heap.objs.size+1)=some (ano C s.heap.objs.size):=by
  have:=abb (s.heap.push ak7) (o:=ano C s.heap.objs.size) rfl
  rwa [aiO]at this
 let f:(s.heap.push ak7).Ns s.heap.objs.size (λ_=>none):=#[ak7, #v[],_,e1,rfl,(λe g=>absurd g (by simp)),λ_=>rfl];let i:=I.laid (a:=s.heap.objs.size) (o:=.own (s.heap.objs.size+1)) (h':=s.heap.push ak7) (t':=s.toks) (λb u q=>ϴ _ q) (ϭ _) #[_,e1];show i.laid (a:=s.heap.objs.size+1) (o:=.ins C s.heap.objs.size []) (t':=s.toks) (λb u q=>ϴ _ q) (al5 (aiO _ _)) ?_;let ne:s.heap.objs.size≠s.heap.objs.size+1:=adv (aoQ _);show#[by rw[ο ne,υ],agn _,ne,c,λ_=>none,(Heap.Ns1.of_empty f).at λo q=>ϴ _ q,λ_=>True.intro,λy j=>absurd rfl j]
theorem aga{prog:Ϯ}{w:Ϭ}{env:Env}{e:Ϩ}{f:Str}{pos:Pos}{s:μ}{Q:ε->μ->Prop}(c:attributeBase e f env (eval e env)=eval e env)(h:ν (Ϧ prog w) A (eval e env) (λo a=>ν (Ϧ prog w) A (getAttr o f true) Q E a) E s):ν (Ϧ prog w) A (eval (.Attribute e f pos) env) Q E s:=
 Attribute_any_ h (by rw[arm_eval_Attribute,c])
end
def aaW(K:ϩ)(ta tv:TE)(f:Str):TS:=λD σ H=>tv σ H λy H1=>ta σ H1 λx H2=>∃a C dx fs,x=.ref a/\H2 a=some (.ins C dx fs)/\Ϛ K C/\ Ψ K C f/\fs.length<1000/\
 D.nx σ (upd H2 a (.ins C dx (ϡ f y fs)))
def Li(X:Cx)(op:Operator)(rd:V->V->Hp->VK->Prop):Prop:=
 ∀(ϵ:List (δ×Obj))(s:μ)(σ:St)(H:Hp)(x y:V)(u v:ε)(Q:VK),Inv X ϵ σ H s->RelV x u->RelV y v->rd x y H Q->ν (Ϧ X.prog X.w) X.A (inplaceOp op u v) (EP X ϵ σ Q) X.xe s
def ahf(K:ϩ)(ta tv:TE)(rd:V->V->Hp->VK->Prop)(f:Str):TS:=λD σ H=>ta σ H λx H1=>∃a C dx fs v,x=.ref a/\H1 a=some (.ins C dx fs)/\Ϛ K C/\ Ψ K C f/\fs.lookup f=some v/\
 tv σ H1 λy H2=>rd v y H2 λz e=>∃c fs',e a=some (.ins C c fs')/\fs'.length<1000/\D.nx σ (upd e a (.ins C c (ϡ f z fs')))
section
variable{X:Cx}{o e value:Ϩ}{f:Str}{pos pos' tpos:Pos}{ta tv:TE}
theorem afB(e:PE X o ta)(g:PE X value tv)(hs:am6 value (some (.Attribute o f pos')) pos.line X.env=pure false):PS X (.Assign [.Attribute o f pos'] value pos) (aaW X.K ta tv f):=by
 intro ϵ s σ H D I h;show plainObj_wpAny_Assign_Attribute (χ (g ϵ s σ H _ I h) λu i ⟨y,H1,j,ry,q⟩=>χ (e ϵ i σ H1 _ j q) λm F p=>?_) hs;let#[x,H2,v,rx,a,C,dx,fs,ex,z,c,n,l,B]:=p;subst ex;obtain rfl:m=Value.ref a:=rx;show Ju v z c n l ry λG E=>#[σ,_,E,B]
theorem ahj{op:Operator}{rd:V->V->Hp->VK->Prop}(j:PE X o ta)(m:PE X value tv)(e:Li X op rd):PS X (.AugAssign (.Attribute o f tpos) op value pos) (ahf X.K ta tv rd f):=by
 intro ϵ s σ H D I h;show wpAny_AugAssign_AttributeAny (χ (j ϵ s σ H _ I h) λp W g=>?_);let#[x,H1,B,rx,a,C,dx,fs,v,ex,E,c,n,l,q]:=g;subst ex;obtain rfl:p=Value.ref a:=rx;show Mz B E c n l λu F G J=>χ (m ϵ F σ H1 _ G q) λL M ⟨y,H2,O,ry,P⟩=>χ (e ϵ M σ H2 v y u L _ O J ry P) λY Z g=>?_
 let#[z,H3,Q,R,S,fs',i,l',T]:=g;show Ju Q i c n l' R λs5 U=>#[σ,_,U,T]
def UG:V->V->Hp->VK->Prop:=λx y H Q=>∃i j,x=.int i/\y=.int j/\Q (.int (i+j)) H
theorem aif:Li X .Add UG:=by
 rintro ϵ s σ H x y u v Q I rx ry ⟨i,j,rfl,rfl,q⟩
 let#[t,rfl]:=(show ∃t,u=Value.int i t from rx);let#[t',rfl]:=(show ∃t',v=Value.int j t' from ry);show PyProof.Rows.iadd_int #[.int (i+j),H,I.tok _,#[_,rfl],q]
end
section
variable{X:Cx}{ϵ:List (δ×Obj)}{σ:St}{H:Hp}{s:μ}{A:ϳ}{E:ε->μ->Prop}{Q:ε->μ->Prop}{c:ε}{b:Bool}
inductive di (K:ϩ) (H:Hp):V->ε->Prop where
 |non:di K H .non (.type "NoneType")
 |bl (x:Bool):di K H (.bl x) (.type "bool")
 |int (i:Int):di K H (.int i) (.type "int")
 |str (x:Str):di K H (.str x) (.type "str")
 |flt (x:UInt64):di K H (.flt x) (.type "float")
 |lst {a:δ} {xs:List V} (e:H a=some (.lst xs)):di K H (.ref a) (.type "list")
 |frz {a:δ} {o:Obj} {xs:List V} (e:H a=some (.frz o (.lst xs))):di K H (.ref a) (.type "list")
 |tup {a:δ} {xs:List V} (e:H a=some (.tup xs)):di K H (.ref a) (.type "tuple")
 |dK {a:δ} {Ϸ:List (Key×V)} (e:H a=some (.dK Ϸ)):di K H (.ref a) (.type "dict")
 |dT {a:δ} {Ϸ:List (List Key×V)} (e:H a=some (.dT Ϸ)):di K H (.ref a) (.type "dict")
 |ins {a C dx:δ} {fs:List (Str×V)} (e:H a=some (.ins C dx fs)) (cl:Ϛ K C) (ha:afc K (.ref C) "__class__"=some (some (.builtin "object.__class__")))
  (hn:ah1 K (.builtin "object.__class__") "__get__"=some (some (.builtin "getset_descriptor.__get__"))) (htk:anK K (.builtin "object.__class__")=some true)
  (hm:am2 K C (.type "object")=some true):di K H (.ref a) (.ref C)
theorem afV{x:V}{u t:ε}(I:Inv X ϵ σ H s)(rx:RelV x u)(ty:di X.K H x t)(e:anD X.K t c=some b)(h:∀tk,Q (.bool b) {s with toks:=tk}):ν (Ϧ X.prog X.w) A (call (.builtin "isinstance") [u,c]) Q E s:=by
 cases ty with
 |non=>cases(show u=Value.none from rx);show amg W.kitx_none I.kIn True.intro e (λz=>nomatch z) h
 |bl y=>cases(show u=Value.bool y from rx);show amg W.kitx_bool I.kIn True.intro e (λz=>nomatch z) h
 |int i=>let#[t,q]:=(show ∃t,u=Value.int i t from rx);cases q;show amg W.kitx_int I.kIn True.intro e (λz=>nomatch z) h
 |str y=>let#[t,q]:=(show ∃t,u=Value.str y t from rx);cases q;show amg W.kitx_str I.kIn True.intro e (λz=>nomatch z) h
 |flt y=>let#[t,q]:=(show ∃t,u=Value.float y t from rx);cases q;show amg W.kitx_float I.kIn True.intro e (λz=>nomatch z) h
 | @lst a xs f=>
   cases(show u=Value.ref a from rx);let#[_,_,n,_,h1]:=(show ϕ X.prog X.w H s.heap a (.lst xs)from I.hok a _ f);show amg W.kitx_list I.kIn #[_,h1,rfl] e (λz=>nomatch z) h
 | @frz a j xs f=>
   cases(show u=Value.ref a from rx);let#[_,_,_,n,_,h1]:=(show ϕ X.prog X.w H s.heap a (.frz j (.lst xs))from I.hok a _ f);show amg W.kitx_list I.kIn #[_,h1,rfl] e (λz=>nomatch z) h
 | @tup a xs f=>
   cases(show u=Value.ref a from rx);let#[_,_,_,p]:=(show ϕ X.prog X.w H s.heap a (.tup xs)from I.hok a _ f);let#[o,h1,h2,_]:=p;show amg W.kitx_tuple I.kIn #[o,h1,h2] e (λz=>nomatch z) h
 | @dK a Ϸ f=>
   cases(show u=Value.ref a from rx);let#[_,_,vs,_,p]:=(show ϕ X.prog X.w H s.heap a (.dK Ϸ)from I.hok a _ f);let#[o,es,ep,h1,h2,_]:=p;show amg W.kitx_dict I.kIn #[o,h1,h2.1] e (λz=>nomatch z) h
 | @dT a Ϸ f=>
   cases(show u=Value.ref a from rx);let#[_,_,xs,_,o,es,ep,h1,h2,_]:=(show ϕ X.prog X.w H s.heap a (.dT Ϸ)from I.hok a _ f);show amg W.kitx_dict I.kIn #[o,h1,h2.1] e (λz=>nomatch z) h
 | @ins a C dx fs f cl l m g v=>
   cases(show u=Value.ref a from rx);let#[mA,O,_]:=uW I.hok f;let#[od,J,_]:=O.look;show amg (W.kitx_own (cl.get _) cl.hd l m g v) I.kIn J e (λz=>nomatch z) h
end
structure ϖ(cc:Bool)(k:Nat)(A:ϳ):Prop where
 hd:cc=true->A.handled=none
 dp:A.depth+3*k+5<recursionLimit
 un:A.units+16*k+200<cLine
theorem ϖ.mono{j k:Nat}{A:ϳ}(r:ϖ cc k A)(h:j<=k):ϖ cc j A:=#[r.hd,by have:=r.dp;omega,by have:=r.un;omega]
theorem ϖ.deeper{k:Nat}{A:ϳ}(r:ϖ cc (k+1) A)(env:Env):ϖ cc k (A.deeper env):=
 #[r.hd,by have:=r.dp;show A.depth+1+3*k+5<_;omega,by have:=r.un;show A.units+3+16*k+200<_;omega]
theorem ϖ.in1{k:Nat}{A:ϳ}(r:ϖ cc (k+1) A):ϖ cc k A.in1:=
 #[r.hd,by have:=r.dp;show A.depth+3*k+5<_;omega,by have:=r.un;show A.units+1+16*k+200<_;omega]
theorem aaG{A:ϳ}{C:δ}{us:List ε}{kw:List (Str×ε)}:(A.under (.builtin "type.__call__" #[.ref C::us,kw])).depth=A.depth+1:=by
 first|rfl|simp[Around.under,Code.weight,Code.isCreation,Code.isGuard,Code.isCaller,Code.frames,Code.isFrame,guardIds]
theorem aaT{A:ϳ}{C:δ}{us:List ε}{kw:List (Str×ε)}:(A.under (.builtin "type.__call__" #[.ref C::us,kw])).units=A.units+1:=by
 first|rfl|simp[Around.under,Code.cUnits,Code.frames,Code.isFrame]
theorem ϖ.make{k:Nat}{A:ϳ}(r:ϖ cc (k+1) A)(C:δ)(us:List ε)(kw:List (Str×ε)):ϖ cc k (A.under (.builtin "type.__call__" #[.ref C::us,kw])):=
 #[r.hd,by have:=r.dp;rw[aaG];omega,by have:=r.un;rw[aaT];omega]
theorem ϖ.depth{k:Nat}{A:ϳ}(r:ϖ cc k A):A.depth<recursionLimit:=by have:=r.dp;omega
theorem ϖ.units{k:Nat}{A:ϳ}(r:ϖ cc k A):A.units+64<cLine:=by have:=r.un;omega
theorem ϖ.units0{k:Nat}{A:ϳ}(r:ϖ cc k A):A.units<cLine:=by have:=r.un;omega
section
variable{X:Cx}{e:Ϩ}{es:List Ϩ}{te:TE}{t:TA}{pos:Pos}
end
abbrev Sp:=List V->Hp->VK->XK->Prop
abbrev fO:=List Env->Hp->μ->XK->ε->μ->Prop
structure lU(P:Ϯ)(w:Ϭ)(K:ϩ)(mg:Str->Option ε)(base:ϫ)(A:ϳ)(outer:List Env)(s:μ)(H:Hp):Prop where
 frames:A.frames=some outer
 mod:Mod K mg base
 bs:∀b o,base.get? b=some o->s.heap.get? b=some o/\H b=none
 bsz:base.objs.size<=s.heap.objs.size
 funs:s.heap.FunFrames base outer
 frf:∀b∈cQ outer,H b=none
 hok:Ϣ P w H s.heap
 bare:AllBare s.gens
def CE(outer:List Env)(P:Ϯ)(w:Ϭ)(H:Hp)(s:μ)(Q:VK)(u:ε)(s':μ):Prop:=
 ∃v H',s'.os=s.os/\AllBare s'.gens/\Un (cQ outer) [] H H' s.heap s'.heap/\Ϣ P w H' s'.heap/\RelV v u/\Q v H'
def CR(CX:fO)(outer:List Env)(P:Ϯ)(w:Ϭ)(H:Hp)(s:μ)(Q:VK)(E:XK)(r:Result)(s':μ):Prop:=
 match r with
 |.ok (.ret u)=>CE outer P w H s Q u s'
 |.ok _=>False
 |.error e=>CX outer H s E e s'
structure cT(P:Ϯ)(w:Ϭ)(K:ϩ)(mg:Str->Option ε)(base:ϫ)(CX:fO)(cc:Bool)(k:Nat)(f:δ)(fd:ah2)(ps:List Str)(sp:Sp):Prop where
 len:∀vs H Q E,sp vs H Q E->vs.length=ps.length
 run:∀(A:ϳ)(outer:List Env)(s:μ)(H:Hp)(args:Args)(us:List ε)(vs:List V)(Q:VK)(E:XK),ϖ cc k A->lU P w K mg base A outer s H->BindsTo s fd args (ps.zip us)->Vals vs us->sp vs H Q E->
  codeAny (Ϧ P w) A (.call (.ref f) args) (CR CX outer P w H s Q E) s
theorem cT.mono{P:Ϯ}{w:Ϭ}{K:ϩ}{mg:Str->Option ε}{base:ϫ}{CX:fO}{j k:Nat}{f:δ}{fd:ah2}{ps:List Str}{sp:Sp}(F:cT P w K mg base CX cc j f fd ps sp)(h:j<=k):cT P w K mg base CX cc k f fd ps sp:=#[F.len,λA outer s H a us vs Q E c=>F.run A outer s H a us vs Q E (c.mono h)]
theorem lU.make{P:Ϯ}{w:Ϭ}{K:ϩ}{mg:Str->Option ε}{base:ϫ}{A:ϳ}{outer:List Env}{s:μ}{H:Hp}(e:lU P w K mg base A outer s H)(C:δ)(us:List ε)(kw:List (Str×ε)):lU P w K mg base (A.under (.builtin "type.__call__" #[.ref C::us,kw])) outer s H:=#[by first|show e.frames|(simpa [Around.under,Code.envs,Code.isFrame,pushEnvs]using e.frames),e.mod,e.bs,e.bsz,e.funs,e.frf,e.hok,e.bare]
section
variable{X:Cx}{ϵ:List (δ×Obj)}{σ:St}{H:Hp}{s s':μ}
theorem Inv.env0(I:Inv X ϵ σ H s):lU X.prog X.w X.K X.mg X.base X.A X.stack s H:=
 #[I.ok.frames,I.ok.mod,I.bs,aeO I.ok.bsz I.sz,I.stack,I.stkFree,I.hok,I.bare]
theorem Inv.after{Q:VK}{u:ε}(I:Inv X ϵ σ H s)(h:CE X.stack X.prog X.w H s Q u s'):EP X ϵ σ Q u s':=by
 let#[v,H',os,bare,un,hok,r,q]:=h;let#[hh,g,d,t,a]:=s';obtain rfl:a=s.os:=os;show#[v,H',I.call (h':=hh) (g':=g) (d':=d) (t':=t) (ch:=[]) un hok bare (λb z=>absurd z (by simp)),r,q]
end
def Binds(K:ϩ)(fd:ah2)(ps:List Str)(ds:List ε):Prop:=
 ∀(s:μ)(us:List ε),K.In s.heap->(us++ds).length=ps.length->BindsTo s fd #[us,[]] (ps.zip (us++ds))
theorem Binds.all{K:ϩ}{fd:ah2}{ps:List Str}(h:∀us:List ε,us.length=ps.length->bindArgs fd #[us,[]]=pure (ps.zip us)):Binds K fd ps []:=λs us _ a=>by
 rw[am9]at a⊢;show .of_eq (h us a)
section
variable{X:Cx}{CX:fO}{k:Nat}{f C:δ}{fd:ah2}{ps:List Str}{sp:Sp}{dvs:List V}{ds:List ε}{E:XK}{x m:Str}{p pos apos:Pos}{e o:Ϩ}{es:List Ϩ}{ta:TE}{t:TA}
structure Mk(K:ϩ)(C f:δ):Prop where
 makes:ao6 K C=true
 init:afc K (.ref C) "__init__"=some (some (.ref f))
 fn:aoD K (.ref f)=true
 kp:amY K (.ref C)=true
end
section
variable{X:Cx}{CX:fO}{k:Nat}{f C:δ}{fd:ah2}{ps ks:List Str}{sp:Sp}{E:XK}{x m:Str}{p pos apos kpos:Pos}{e o:Ϩ}{es:List Ϩ}{kws:List Keyword}{te ta:TE}{t tk:TA}{nm:Option Str}
variable{g:List ε->List ε->List ε}{gV:List V->List V->List V}
end
structure Ρ(N P:List Str)(sc:ahU):Prop where
 kind:sc.kind=.function
 co:sc.isCoroutine=false
 gen:sc.isGenerator=false
 nd:N.Nodup
 pre:N.take P.length=P
 par:∀x∈P,sc.names.lookup x=some .local\/sc.names.lookup x=some .cell
 nofree:∀y∈sc.names,y.2≠.free
theorem Lb{kindOf:Str->Option ang}{x:Str}:∀{binds:List (Str×ε)}{m:Str->Option ε},(∀v,(x,v)∉binds)->bindL kindOf binds m x=m x
 |[],_,_=>rfl
 |(n,v)::r,m,h=>by
  unfold bindL;rw[Lb λw a=>h w (adP _ a)];split
  .have :x≠n:=by rintro rfl;show h v aex
   simp[this]
  .rfl
theorem VG{kindOf:Str->Option ang}{x:Str}:∀{binds:List (Str×ε)}{m:Str->Option ε},(∀v,(x,v)∉binds)->bindC kindOf binds m x=m x
 |[],_,_=>rfl
 |(n,v)::r,m,h=>by
  unfold bindC;rw[VG λw a=>h w (adP _ a)];split
  .rfl
  .have :x≠n:=by rintro rfl;show h v aex
   simp[this]
theorem WM{kindOf:Str->Option ang}{x:Str}{v:ε}:∀{P:List Str}{vs:List ε}{i:Nat}{m:Str->Option ε},P.Nodup->P[i]?=some x->vs[i]?=some v->kindOf x=some .local->
  bindL kindOf (P.zip vs) m x=some v
 |[],_,_,_,_,h,_,_=>by simp at h
 |_::_,[],_,_,_,_,h,_=>by simp at h
 |p::P,w::vs,0,m,nd,h1,h2,a=>by
  simp at h1 h2;subst h1;subst h2;show bindL kindOf ((p,w)::P.zip vs) m p=_;unfold bindL;rw[Lb λv c=>(aml.mp nd).1 (aog c).1,if_pos a];simp
 |p::P,w::vs,i+1,m,nd,h1,h2,a=>by
  show bindL kindOf ((p,w)::P.zip vs) m x=_;unfold bindL;show WM (i:=i) (aml.mp nd).2 (by simpa using h1) (by simpa using h2) a
theorem Uc{kindOf:Str->Option ang}{x:Str}{v:ε}:∀{P:List Str}{vs:List ε}{i:Nat}{m:Str->Option ε},P.Nodup->P[i]?=some x->vs[i]?=some v->kindOf x≠some .local->
  bindC kindOf (P.zip vs) m x=some v
 |[],_,_,_,_,h,_,_=>by simp at h
 |_::_,[],_,_,_,_,h,_=>by simp at h
 |p::P,w::vs,0,m,nd,h1,h2,a=>by
  simp at h1 h2;subst h1;subst h2;show bindC kindOf ((p,w)::P.zip vs) m p=_;unfold bindC;rw[VG λv c=>(aml.mp nd).1 (aog c).1,if_neg a];simp
 |p::P,w::vs,i+1,m,nd,h1,h2,a=>by
  show bindC kindOf ((p,w)::P.zip vs) m x=_;unfold bindC;show Uc (i:=i) (aml.mp nd).2 (by simpa using h1) (by simpa using h2) a
def start(N:List Str)(vs:List V):St:=vs.map some++alB (N.length-vs.length) none
def kO(cc:Bool)(CX:fO)(P:Ϯ)(w:Ϭ)(K:ϩ)(mg:Str->Option ε)(base:ϫ)(N:List Str)(qual:Str)(scope:ahU)(f:δ)(cd:ε)(A:ϳ)(outer:List Env)(s:μ)(H:Hp)(E:XK):Cx where
 prog:=P
 w:=w
 K:=K
 mg:=mg
 base:=base
 A:=A.deeper (envOfC qual scope s.heap.objs.size f cd)
 N:=N
 s₀:=s
 H₀:=H
 env:=envOfC qual scope s.heap.objs.size f cd
 outer:=outer
 stack:=envOfC qual scope s.heap.objs.size f cd::outer
 ex:=[]
 calm:=cc
 fn:=λ_=>true
 pn:=[]
 xe:=λe s'=>ν (Ϧ P w) (A.deeper (envOfC qual scope s.heap.objs.size f cd)) (leaving (envOfC qual scope s.heap.objs.size f cd) e) (λ_ a=>CX outer H s E e a) (λc a=>CX outer H s E c a) s'
theorem J5{sc:ahU}{n:Nat}{x:Str}(h:sc.names.lookup x=some .cell):∃c,(cellsFrom n sc.names []).lookup x=some c:=by
 let q:=aoR sc.names n [] (.inl h);show akT.mp q
theorem ajG{CX:fO}{P:Ϯ}{w:Ϭ}{K:ϩ}{mg:Str->Option ε}{base:ϫ}{N ps:List Str}{qual:Str}{scope:ahU}{f:δ}{cd:ε}{A:ϳ}{outer:List Env}{s s1:μ}{H:Hp}{E:XK}{us:List ε}{vs:List V}(S:Ρ N ps scope)(hd:cc=true->A.handled=none)(g:lU P w K mg base A outer s H)(G:vs.length=ps.length)(r:Vals vs us)(x:InCallC s s.heap.objs.size (bindL (envOfC qual scope s.heap.objs.size f cd).kindOf (ps.zip us) λ_=>none) (cellsFrom (s.heap.objs.size+1) scope.names []) (bindC (envOfC qual scope s.heap.objs.size f cd).kindOf (ps.zip us) λ_=>none) s1):Inv (kO cc CX P w K mg base N qual scope f cd A outer s H E) [] (start N vs) H s1:=by
 let C:ps.length<=N.length:=by have:=congrArg aji S.pre;rw[afM]at this;omega
 let#[h1,tk,rfl,o]:=x.done;let j:∀b:δ,b∉(kO cc CX P w K mg base N qual scope f cd A outer s H E).ex:=λb z=>absurd (show b∈([]:List δ)from z) (by simp)
 show#[#[g.mod,S.kind,rfl,rfl,ϭ _,λy z c h1 h2=>?_,λy hy=>?_,λy c _ h=>?_,hd,Around.frames_deeper g.frames,.inr #[rfl,rfl],λb z=>absurd z (j b),g.bs,g.bsz,λb _ _=>j b,λb z=>absurd z (j b),g.funs,g.frf],
  rfl,g.bare,Un.kept o,#[_,x.toInCall.ns,λi y v h1 h2 I=>?_],λy c h=>#[_,x.cell y c h],g.hok.fresh (ϭ _),λy c h=>?_,λp l=>absurd (show p∈([]:List (δ×Obj))from l) (by simp),g.hok.kept o,?_]
 .show name_of_addr x.apart (PySem.mem_of_lookup h1) (PySem.mem_of_lookup h2)
 .let hy:scope.names.lookup y=some .cell\/scope.names.lookup y=some .free:=hy;obtain hy|hy:=hy
  .show J5 hy
  .show absurd rfl (S.nofree _ (PySem.mem_of_lookup hy))
 .show anp (x.above y c (PySem.mem_of_lookup h))
 .let hi:i<vs.length:=by
   unfold start at h2;by_cases hi:i<vs.length
   .show hi
   .rw[amM (by simpa using hi)]at h2;rw[List.getElem?_replicate]at h2;split at h2<;>cases h2
  let D:vs[i]?=some v:=by
   unfold start at h2;rw[akE (by simpa using hi),abD]at h2;cases e:vs[i]? with
   |none=>rw[e]at h2;cases h2
   |some a=>rw[e]at h2;cases h2;rfl
  let#[u,B,F]:=r.get D;let l:ps[i]?=some y:=by
   rw[<-S.pre,anL ()];show h1
  let m:ps.Nodup:=by rw[<-S.pre];show S.nd.sublist (List.take_sublist _ _)
  show#[u,F,?_];rcases S.par y (aaM l)with k|k
  .show .inl #[k,WM m l B k]
  .let#[c,e]:=J5 (n:=s.heap.objs.size+1) k;show .inr #[.inl k,c,e,?_];let q:=x.cell y c e;rw[Uc m l B (by show scope.names.lookup y≠_;rw[k];decide)]at q;show q
 .show g.hok.fresh (anp (x.above y c (PySem.mem_of_lookup h)))
 .unfold start;show _=N.length;rw[abK,aav,aoh];omega
theorem Il{CX:fO}{P:Ϯ}{w:Ϭ}{K:ϩ}{mg:Str->Option ε}{base:ϫ}{k:Nat}{f:δ}{name qual:Str}{a:Arguments}{body:List ϧ}{scope:ahU}{dV kV j pm c ct oc:ε}{an od:Option δ}{p:Array (Option ε)}{N ps:List Str}{sp:Sp}(lk:K.lookup f=some #[oc,od,.func (aoE name qual a body scope dV kV j pm an c ct),p])(z:anW K c qual=true)(S:Ρ N ps scope)(len:∀vs H Q E,sp vs H Q E->vs.length=ps.length)(g:∀(A:ϳ)(outer:List Env)(s:μ)(H:Hp)(vs:List V)(Q:VK)(E:XK),ϖ cc k (A.deeper (envOfC qual scope s.heap.objs.size f c))->sp vs H Q E->
   ∃t,Bq (kO cc CX P w K mg base N qual scope f c A outer s H E) body t/\t {nx:=λ_ H'=>Q .non H',rt:=Q} (start N vs) H):cT P w K mg base CX cc (k+1) f (aoE name qual a body scope dV kV j pm an c ct) ps sp:=by
 show#[len,λA outer s H F us vs Q E B l L r m=>?_];let M:=len _ _ _ _ m;let G:K.In s.heap:=l.mod.kin.keeps λb o e=>(l.bs b o e).1
 let C:s.heap.NoLimit:=l.mod.nolimit.keeps λb o e=>(l.bs b o e).1
 let i:∀y∈ps.zip us,scope.names.lookup y.1=some .local\/(scope.names.lookup y.1=some .cell/\((cellsFrom (s.heap.objs.size+1) scope.names []).lookup y.1).isSome=true):=λ⟨n,v⟩ O=>by
  obtain q|q:=S.par n (aog O).1
  .show .inl q
  .show .inr #[q,aoR _ _ _ (.inl q)]
 show codeAny_call_function B.depth (G _ _ lk) rfl S.co S.gen rfl (W.codeRec_of G z) (L _ _ _ _ ?_);show wpAny_newFunctionEnv_cells S.kind i λenv R s1 x=>?_
 subst R;show#[C.keeps x.toInCall.keep,codeAny_func ?_];let#[t,T,U]:=g A outer s H vs Q E (B.deeper _) m;let I:Inv (kO cc CX P w K mg base N qual scope f c A outer s H E) [] (start N vs) H s1:=ajG S B.hd l M r x;show aef (T [] s1 (start N vs) H _ I U) (λX s' hs=>?_) λe s' hs=>hs
 let fin:∀{σ':St}{H':Hp}{v:V}{u:ε},Inv (kO cc CX P w K mg base N qual scope f c A outer s H E) [] σ' H' s'->RelV v u->Q v H'->CE outer P w H s Q u s':=
  λ{σ' H' v u} J D q=>#[v,H',J.os,J.bare,J.base,J.hok,D,q]
 cases X with
 |ret u=>
  let#[v,σ',H',J,D,q]:=hs;show fin J D q
 |next=>
  let#[σ',H',J,q]:=hs;show fin (v:=V.non) (u:=Value.none) J rfl q
 |brk=>
  let#[_,_,_,q]:=hs;show False.elim q
 |cont=>
  let#[_,_,_,q]:=hs;show False.elim q
section
variable{X:Cx}{x:Str}{p pos:Pos}{e:Ϩ}{es:List Ϩ}{t:TA}{id T:String}{r:List V->Hp->VK->Prop}
end
end _L
namespace _H
open PySem PyProof.Rows
section
open PySem.SeqAt
open PySem.AutoSeq1 (wpAny_loadPart')
open PySem.MeetsSeq PySem.MeetsSeq2 PySem.MeetsSeq3
end
section
variable{prog:Ϯ}{w:Ϭ}{A:ϳ}{E:ε->μ->Prop}{s:μ}
theorem ady{t b:δ}{vs ws:List ε}{Q:ε->μ->Prop}(q:IsTup s.heap t vs.toArray)(u:IsTup s.heap b ws.toArray)(m:vs≠[])(h1:ws=[]->Q (.ref t) s)(h2:ws≠[]->Q (.ref s.heap.objs.size) {s with heap:=s.heap.push {cls:=.type "tuple",data:=.seq (vs++ws).toArray}})(hsz:vs.length+ws.length<=ϰ):ν (Ϧ prog w) A (binaryOp .Add (.ref t) (.ref b)) Q E s:=by
 let#[#[cls,dd,data,sl],j,o,n,hd]:=id q;let#[#[p,c,data2,f],a,g,n2,i]:=id u;simp only at o hd g i;subst o hd g i;let e:vs.toArray++ws.toArray=(vs++ws).toArray:=by simp
 by_cases l:ws=[]
 .show concat_meets #[_,j,rfl] #[_,a,rfl] noFill_tuple_add seq_tuple_add PySem.F.slot_tuple_add PySem.F.entry_tuple_add (PySem.F.args_tuple_add_2 _ _)
   (tuple_addW1 t b vs.toArray ws.toArray n n2 dd c sl f (by simpa using m) (by simp[l])) #[j,a,h1 l]
 .show concat_meets #[_,j,rfl] #[_,a,rfl] noFill_tuple_add seq_tuple_add PySem.F.slot_tuple_add PySem.F.entry_tuple_add (PySem.F.args_tuple_add_2 _ _)
   (tuple_addW2 t b vs.toArray ws.toArray n n2 dd c sl f (by simpa using m) (by simpa using l) (by rw[aa8,aa8];show hsz)) #[j,a,?_]
  rw[e];show h2 l
def Β(n d:Nat):Option Int->Nat
 |none=>d
 |some v=>if v<0 then(v+(n:Int)).toNat else min v.toNat n
theorem tG(n d:Nat):Β n d none=d:=rfl
theorem mX(n d k:Nat):Β n d (some (k:Int))=min k n:=by
 show(if(k:Int)<0 then((k:Int)+(n:Int)).toNat else min (k:Int).toNat n)=min k n;rw[if_neg (),anj]
theorem Br(n d:Nat)(hd:d<=n)(o:Option Int):Β n d o<=n:=by
 cases o with
 |none=>show hd
 |some v=>
  show(if v<0 then(v+(n:Int)).toNat else min v.toNat n)<=n;by_cases a:v<0
  .rw[if_pos a];omega
  .rw[if_neg a];show amZ _ _
theorem Gb(v:Int)(n d:Nat):(if v<0 then max (v+(n:Int)) 0 else min v (n:Int))=((Β n d (some v):Nat):Int):=by
 show(if v<0 then max (v+(n:Int)) 0 else min v (n:Int))=(((if v<0 then(v+(n:Int)).toNat else min v.toNat n):Nat):Int);by_cases a:v<0
 .simp only[if_pos a];omega
 .simp only[if_neg a];omega
theorem ajR(lo hi:Option Int)(n:Nat):Builtin.Slice.sliceAdjust lo hi 1 (n:Int)=(((Β n 0 lo:Nat):Int),((Β n n hi:Nat):Int)):=by
 let h1:¬((1:Int)<0):=()
 unfold Builtin.Slice.sliceAdjust;simp only[h1,if_false];show Prod.ext ?_ ?_
 .cases lo with
  |none=>rfl
  |some v=>show Gb v n 0
 .cases hi with
  |none=>rfl
  |some v=>show Gb v n n
theorem Y9(i j:Nat):Builtin.Slice.slicePlaces (i:Int) (j:Int) 1=j-i:=by
 unfold Builtin.Slice.slicePlaces;let h1:(1:Int)>0:=()
 simp only[h1,if_true,Int.ediv_one];split <;>omega
theorem Ut{v:ε}{o:Option Int}{Q:Option Int->μ->Prop}(p:IsPart v o)(h:Q o s):ν (Ϧ prog w) A (Builtin.Slice.slicePartIndex v) Q E s:=by
 cases p with
 |none=>show slicePart_none h
 |int i t=>show slicePart_int h
theorem Z4{sl:δ}{e f:ε}{lo hi:Option Int}{n:Nat}{Q:Int×Int×Nat->μ->Prop}(hs:s.heap.IsSliceOf sl e f .none)(pl:IsPart e lo)(g:IsPart f hi)(h:Q (((Β n 0 lo:Nat):Int),1,Β n n hi- Β n 0 lo) s):ν (Ϧ prog w) A (Builtin.Slice.sliceApplied (.ref sl) (pure (n:Int))) Q E s:=by
 let#[os,a,i,c]:=id hs;unfold Builtin.Slice.sliceApplied Builtin.Slice.sliceFields;show π (π (ahQ a c (x:=e) rfl (π (ahQ a c (x:=f) rfl (π (ahQ a c (x:=.none) rfl (ϯ ?_)))))));show π (slicePart_none ?_);show ν _ _ (if((1:Int)==0)=true then _ else _) _ _ s;rw[if_neg (by decide)];show π (Ut pl (π (Ut g (π (ϯ ?_)))));show ν _ _ (match Builtin.Slice.sliceAdjust lo hi 1 (n:Int)with|(lo,hi)=>pure (lo,(1:Int),Builtin.Slice.slicePlaces lo hi 1)) _ _ s;rw[ajR lo hi n];show ν _ _ (pure (((Β n 0 lo:Nat):Int),(1:Int),Builtin.Slice.slicePlaces ((Β n 0 lo:Nat):Int) ((Β n n hi:Nat):Int) 1)) _ _ s;rw[Y9];show ϯ h
theorem adz(xs:Array ε)(i k:Nat):((aeZ k).filterMap λ(m:Nat)=>xs[((i:Int)+(m:Int)*1).toNat]?).toArray=((xs.toList.drop i).take k).toArray:=by
 let e:(λ(m:Nat)=>xs[((i:Int)+(m:Int)*1).toNat]?)=λm=>xs[i+m]? :=by
  funext m;have:((i:Int)+(m:Int)*1).toNat=i+m:=()
  rw[this]
 rw[e];have:=pick_run xs i k;rw[List.filterMap_map]at this;let a:((λx=>xs[x]?)∘λx=>i+x)=λm=>xs[i+m]? :=rfl
 rw[a]at this;rw[this]
theorem X6{t sl:δ}{a:Array ε}{l n:ε}{lo hi:Option Int}{Q:ε->μ->Prop}(e:IsTup s.heap t a)(hs:s.heap.IsSliceOf sl l n .none)(pl:IsPart l lo)(o:IsPart n hi)(p:¬(Β a.size 0 lo=0/\ Β a.size a.size hi=a.size))(h:Q (.ref s.heap.objs.size) {s with heap:=s.heap.push {cls:=.type "tuple",data:=.seq ((a.toList.drop (Β a.size 0 lo)).take (Β a.size a.size hi- Β a.size 0 lo)).toArray}})(hsz:a.size<=ϰ):ν (Ϧ prog w) A (getItem (.ref t) (.ref sl)) Q E s:=by
 let c:sizeOk (.seq ((a.toList.drop (Β a.size 0 lo)).take (Β a.size a.size hi- Β a.size 0 lo)).toArray):=by
  show((a.toList.drop (Β a.size 0 lo)).take (Β a.size a.size hi- Β a.size 0 lo)).toArray.size<=ϰ;rw[aa8,afM,aeB,aja];omega
 let v:Β a.size a.size hi<=a.size:=Br _ _ (ϭ _) hi;let#[os,f,g,u]:=id hs;let i:s.TypeIs (.ref sl) "slice":=#[os,f,g];unfold getItem
 try with_reducible show af6 ?_
 first|show π (ϯ ?_)|skip
 show π (wpAny_sequenceKey e.typeIs (by decide) ?_);show π (am7 (name:=Ϫ "__getitem__") e.typeIs PyProof.Rows.slot_tuple_getitem
  (wpAny_call_entry PyProof.Rows.slot_tuple_getitem e.typeIs entry_tuple_getitem ?_ (args_tuple_getitem _ _)))
 show ν _ _ (Builtin.Tuple.tupleItemsOf (.ref t)>>=_) _ _ s;show π (tupleItemsOf_ e ?_);show π (wpAny_typeOf i ?_);rw[if_pos (by decide)];show π (Z4 hs pl o ?_);let j:¬((((Β a.size 0 lo:Nat):Int)==0&&(1:Int)==1&&(Β a.size a.size hi- Β a.size 0 lo)==a.size)=true):=by
  intro q;rw[aa2,aa2]at q;let x:((Β a.size 0 lo:Nat):Int)=0:=eq_of_beq q.1.1;let y:Β a.size a.size hi- Β a.size 0 lo=a.size:=eq_of_beq q.2;show p #[(),()]
 show ν _ _ (if(((Β a.size 0 lo:Nat):Int)==0&&(1:Int)==1&&(Β a.size a.size hi- Β a.size 0 lo)==a.size)=true then _ else _) _ _ s;rw[if_neg j,adz]
 first
  |show π (m:=Builtin.Tuple.tupleExact _) (aiL (ϯ #[_,rfl,ϯ h]) c)
  |show π (m:=Builtin.Tuple.tupleExact _) (aiL (π (ϯ (ϯ #[_,rfl,ϯ h]))) c)
  |show π (π (m:=Builtin.Tuple.tupleExact _) (aiL (ϯ (ϯ #[_,rfl,ϯ h])) c))
  |show π (π (m:=Builtin.Tuple.tupleExact _) (aiL (ϯ #[_,rfl,ϯ h]) c))
end
end _H
namespace _L
open PySem PySem.Spec PyProof.Rows
abbrev TO:=St->Hp->(Option Int->Hp->Prop)->Prop
def PO(X:Cx)(e:Option Ϩ)(t:TO):Prop:=
 ∀(ϵ:List (δ×Obj))(s:μ)(σ:St)(H:Hp)(Q:Option Int->Hp->Prop),Inv X ϵ σ H s->t σ H Q->
  ν (Ϧ X.prog X.w) X.A (evalPart e X.env) (λu s'=>∃o H',Inv X ϵ σ H' s'/\IsPart u o/\Q o H') X.xe s
def adS:TO:=λ_ H Q=>Q none H
def aaB(t:TE):TO:=λσ H Q=>t σ H λx H1=>∃i,x=.int i/\Q (some i) H1
section
variable{X:Cx}{e:Ϩ}{te:TE}{lo hi:Option Ϩ}{tl th:TO}{pos p2:Pos}
theorem acz:PO X none adS:=by
 intro ϵ s σ H Q I h;rw[evalPart_none];show ϯ #[none,H,I,.none,h]
theorem acC(h:PE X e te):PO X (some e) (aaB te):=by
 intro ϵ s σ H Q I a;rw[evalPart_some];show χ (h ϵ s σ H _ I a) λu l c=>?_
 let#[x,H1,f,g,j]:=c;let#[i,rfl,q]:=j;let#[t,rfl]:=g;show#[some i,H1,f,.int i t,q]
def rF(X:Cx)(r:V->Option Int->Option Int->Hp->VK->Prop):Prop:=
 ∀(ϵ:List (δ×Obj))(s:μ)(σ:St)(H:Hp)(x:V)(v a c:ε)(lo hi:Option Int)(sl:δ)(Q:VK),Inv X ϵ σ H s->RelV x v->s.heap.IsSliceOf sl a c .none->IsPart a lo->IsPart c hi->r x lo hi H Q->
  ∃T id,typeLookup (.type T) "__getitem__"=pure (some (.builtin id))/\s.TypeIs v T/\ν (Ϧ X.prog X.w) X.A (getItem v (.ref sl)) (EP X ϵ σ Q) X.xe s
def bV(xs:List V)(lo hi:Option Int):List V:=(xs.drop (_H.Β xs.length 0 lo)).take (_H.Β xs.length xs.length hi-_H.Β xs.length 0 lo)
theorem JF(xs:List V)(lo hi:Option Int):(bV xs lo hi).length<=xs.length:=by
 unfold bV;rw[afM,aeB];omega
def X4(K:ϩ):V->Option Int->Option Int->Hp->VK->Prop:=λx lo hi H Q=>∃a xs,x=.ref a/\ρ K H a xs/\
 ¬(_H.Β xs.length 0 lo=0/\_H.Β xs.length xs.length hi=xs.length)/\∀p,H p=none->Q (.ref p) (upd H p (.tup (bV xs lo hi)))
theorem ah4:rF X (X4 X.K):=by
 intro ϵ s σ H x v m n lo hi sl Q I rx hs pl g h;let#[a,xs,rfl,i,j,q]:=h;cases rx;let#[l,r,e,f]:=I.tuple i;let c:l.toArray.size=xs.length:=by rw[aa8];show r.length.symm
 show#["tuple",_,PyProof.Rows.slot_tuple_getitem.lookup,e.typeIs,?_];show _H.X6 e hs pl g (by rw[c];show j) ?_ (by rw[c];show f);rw[c];show#[.ref s.heap.objs.size,_,I.laid (t':=s.toks) (o:=.tup (bV xs lo hi)) (λb p q=>ϴ _ q) (ϭ _) ?_,rfl,q _ (I.hok.fresh (ϭ _))];show#[aeO (JF xs lo hi) f,_,(r.drop (_H.Β xs.length 0 lo)).take (_H.Β xs.length xs.length hi-_H.Β xs.length 0 lo),IsTup.new _ _]
def afh(K:ϩ):R2:=λx y H Q=>∃a b xs ys,x=.ref a/\y=.ref b/\ρ K H a xs/\ρ K H b ys/\xs≠[]/\xs.length+ys.length<=ϰ/\
 (ys=[]->Q (.ref a) H)/\(ys≠[]->∀p,H p=none->Q (.ref p) (upd H p (.tup (xs++ys))))
theorem Vals.nil_iff{xs:List V}{us:List ε}(r:Vals xs us):us=[]↔xs=[]:=by
 cases r with
 |nil=>simp
 |cons _ _=>simp
theorem abW:aP X (binaryOp .Add) (afh X.K):=by
 intro ϵ s σ H x y v u Q I rx ry h;let#[a,b,xs,ys,rfl,rfl,i,j,l,f,m,n]:=h;cases rx;cases ry;let#[p,e,p1,_]:=I.tuple i;let#[g,c,p2,_]:=I.tuple j;show _H.ady p1 p2 (λz=>l (e.nil_iff.mp z)) (λz=>#[.ref a,H,I,rfl,m (c.nil_iff.mp z)]) (λz=>?_) (by rw[<-e.length, <-c.length];show f);show#[.ref s.heap.objs.size,_,I.laid (t':=s.toks) (o:=.tup (xs++ys)) (λb B q=>ϴ _ q) (ϭ _) ?_,rfl,n (λw=>z (c.nil_iff.mpr w)) _ (I.hok.fresh (ϭ _))];show#[by rw[abK];show f,_,e.append c,IsTup.new _ _]
end
def j5(n:Nat)(i:Int):Option Nat:=if 0<=i then(if i<n then some i.toNat else none)else if -(n:Int)<=i then some (i+n).toNat else none
def Ω{α:Type}(xs:List α)(i:Int):Option α:=(j5 xs.length i).bind λj=>xs[j]?
theorem ZR{n:Nat}{i:Int}{j:Nat}(h:j5 n i=some j):seqIndex? i n=some j/\j<n/\ -(n:Int)<=i/\i<n:=by
 unfold j5 at h;by_cases a:0<=i
 .rw[if_pos a]at h;by_cases h1:i<n
  .rw[if_pos h1]at h;let e:i.toNat=j:=Option.some.inj h;show#[by rw[seqIndex_of a h1,e],(),(),h1]
  .rw[if_neg h1]at h;cases h
 .rw[if_neg a]at h;by_cases h1: -(n:Int)<=i
  .rw[if_pos h1]at h;let e:(i+n).toNat=j:=Option.some.inj h;show#[by rw[seqIndex_neg () h1,e],(),h1,()]
  .rw[if_neg h1]at h;cases h
theorem FN{α:Type}{xs:List α}{i:Int}{v:α}(h:Ω xs i=some v):∃j,seqIndex? i xs.length=some j/\xs[j]?=some v/\j<xs.length/\ -(xs.length:Int)<=i/\i<xs.length:=by
 unfold Ω at h;cases e:j5 xs.length i with
 |none=>rw[e]at h;cases h
 |some j=>
  rw[e]at h;let#[h1,h2,a,c]:=ZR e;show#[j,h1,h,h2,a,c]
theorem ϣ{α:Type}{xs:List α}{j:Nat}{v:α}(h:xs[j]?=some v):Ω xs (j:Int)=some v:=by
 let a:j<xs.length:=(aai.mp h).1;let e:j5 xs.length (j:Int)=some j:=by
  unfold j5;rw[if_pos (),if_pos ()];simp
 unfold Ω;rw[e];show h
def acU(b:Ϩ):=∀o i,subscripted b false o i=operate [o,i] (getItem o i)
def qb(X:Cx)(r:R2):Prop:=
 ∀(value a:Ϩ)(ϵ:List (δ×Obj))(s:μ)(σ:St)(H:Hp)(x y:V)(v u:ε)(Q:VK),Inv X ϵ σ H s->RelV x v->RelV y u->r x y H Q->
  subscripted a false v u=operate [v,u] (getItem v u)->ν (Ϧ X.prog X.w) X.A (subscriptTail value a v u) (EP X ϵ σ Q) X.xe s
def GR(X:Cx)(id:String)(r:V->List V->Hp->VK->Prop):Prop:=
 ∀(ϵ:List (δ×Obj))(s:μ)(σ:St)(H:Hp)(x:V)(xs:List V)(v:ε)(us:List ε)(Q:VK),Inv X ϵ σ H s->RelV x v->Vals xs us->r x xs H Q->
  ν (Ϧ X.prog X.w) X.A (call (.builtin id) (v::us)) (EP X ϵ σ Q) X.xe s
section
variable{X:Cx}{a b:Ϩ}{ta tb:TE}{pos:Pos}
def Ob(K:ϩ):R2:=λx y H Q=>∃p xs i v,x=.ref p/\y=.int i/\η K H p xs/\ Ω xs i=some v/\Q v H
def O3(K:ϩ):R2:=λx y H Q=>∃p xs i v,x=.ref p/\y=.int i/\ρ K H p xs/\ Ω xs i=some v/\Q v H
def Vu:R2:=λx y H Q=>∃z i c,x=.str z/\y=.int i/\z.length<=ϰ/\ Ω z.cps.toList i=some c/\Q (.str #[#v[c]]) H
theorem aiF:qb X (Ob X.K):=by
 intro value a ϵ s σ H x y v u Q I rx ry h hs;let#[p,xs,i,z,rfl,rfl,l,m,q]:=h;cases rx;let#[t,rfl]:=ry;let#[n,r,pl,D]:=I.list l;let#[j,h1,h2,E,o,B]:=FN m;let#[w,f,c]:=r.get h2;let C:=r.length;let F:=pK;let fin:EP X ϵ σ Q w s:=#[z,H,I,c,q];by_cases g:0<=i
 .let e:i.toNat=j:=by
   rw[seqIndex_of g B]at h1;show Option.some.inj h1
  show item_listR pl.isList g () (by rw[e];simpa using f) fin hs
 .let e:(i+(n.toArray.size:Int)).toNat=j:=by
   rw[seqIndex_neg () o]at h1;rw[aa8, <-C];show Option.some.inj h1
  show subscriptTail_builtinR (x:=w) pl.isList.typeIs slot_list_getitem.lookup
   (wpAny_getItem_list_neg (Q:=λr s'=>r=w/\EP X ϵ σ Q r s') pl.isList () (by rw[aa8]<;>omega) () (by rw[e];simpa using f) #[rfl,fin]) hs
theorem adX:qb X (O3 X.K):=by
 intro value a ϵ s σ H x y v u Q I rx ry h hs;let#[p,xs,i,z,rfl,rfl,e,f,q]:=h;cases rx;let#[t,rfl]:=ry;let#[m,r,pl,n]:=I.tuple e;let#[j,h1,h2,o,B,C]:=FN f;let#[w,g,c]:=r.get h2;let l:=r.length;let D:=pK;let fin:EP X ϵ σ Q w s:=#[z,H,I,c,q];show subscriptTail_builtinR (x:=w) pl.typeIs slot_tuple_getitem.lookup
  (getItem_tuple (j:=j) (Q:=λr s'=>r=w/\EP X ϵ σ Q r s') pl () () (by rw[aa8, <-l];show h1) (by simpa using g) #[rfl,fin]) hs
theorem abv:qb X Vu:=by
 intro value a ϵ s σ H x y v u Q I rx ry h hs;let#[z,i,c,rfl,rfl,n,e,q]:=h;let#[t,rfl]:=rx;let#[t',rfl]:=ry;let#[j,h1,h2,o,f,g]:=FN e;let l:z.cps.toList.length=z.length:=by simp[anM]
 rw[l]at h1 f g;let p:=pK;show tail_any (am3 s z t) slot_str_getitem.lookup (getItem_str (c:=c) (by
  let e1:decide (i< -(2^63:Int))=false:=decide_eq_false ();let m:decide (i≥2^63)=false:=decide_eq_false ();rw[e1,m,anY]) (by rw[h1];simpa using h2) #[.str #[#v[c]],H,I.tok _,#[_,rfl],q]) hs
theorem adi(lo hi:Option Int)(n:Nat):(sliceBounds lo hi none n).1=((_H.Β n 0 lo:Nat):Int)/\(sliceBounds lo hi none n).2.1=((_H.Β n n hi:Nat):Int)/\(sliceBounds lo hi none n).2.2=1:=by
 show#[?_,?_,rfl]
 .cases lo with
  |none=>simp[sliceBounds,_H.Β]
  |some i=>
   simp only[sliceBounds,_H.Β,aoS,show(1:Int)>0 by decide,if_true];by_cases h:i<0
   .simp only[h,if_true]<;>omega
   .simp only[h,if_false]<;>omega
 .cases hi with
  |none=>simp[sliceBounds,_H.Β]
  |some i=>
   simp only[sliceBounds,_H.Β,aoS,show(1:Int)>0 by decide,if_true];by_cases h:i<0
   .simp only[h,if_true]<;>omega
   .simp only[h,if_false]<;>omega
theorem ab9(a:List ε)(lo hi:Option Int):slicePick a.toArray lo hi none=((a.drop (_H.Β a.length 0 lo)).take (_H.Β a.length a.length hi-_H.Β a.length 0 lo)).toArray:=by
 let#[h1,h2,c]:=adi lo hi a.toArray.size;unfold slicePick;rw[h1,h2,c];simp only[sliceRange_one,pick_run,aa8]<;>rfl
def aiJ(K:ϩ):V->Option Int->Option Int->Hp->VK->Prop:=λx lo hi H Q=>∃a xs,x=.ref a/\η K H a xs/\∀p,H p=none->Q (.ref p) (upd H p (.lst (bV xs lo hi)))
theorem agD:rF X (aiJ X.K):=by
 intro ϵ s σ H x v j l lo hi sl Q I rx hs pl f h;let#[a,xs,rfl,g,q]:=h;cases rx;let#[m,r,e,i]:=I.list g;let c:=r.length;show#["list",_,slot_list_getitem.lookup,e.isList.typeIs,?_];show wpAny_getItem_list_slice e.isList hs pl f .none (by simp) ?_ (by rw[aa8]<;>omega);rw[ab9, <-c];show#[.ref s.heap.objs.size,_,I.laid (t':=s.toks) (o:=.lst (bV xs lo hi)) (λb n q=>ϴ _ q) (ϭ _) ?_,rfl,q _ (I.hok.fresh (ϭ _))];show#[aeO (JF xs lo hi) i,_,0,(r.drop (_H.Β xs.length 0 lo)).take (_H.Β xs.length xs.length hi-_H.Β xs.length 0 lo),abb _ rfl]
def fX:V->Bool
 |.non=>true
 |.bl _=>true
 |.int _=>true
 |.str _=>true
 |_=>false
def fM:V->V->Bool
 |.non,.non=>true
 |.bl a,.bl b=>a==b
 |.bl a,.int b=>(if a then 1 else 0)==b
 |.int a,.bl b=>a==(if b then 1 else 0)
 |.int a,.int b=>a==b
 |.str a,.str b=>a==b
 |_,_=>false
theorem abU{A:ϳ}{s:μ}{y x:V}{u v:ε}(ry:RelV y u)(rx:RelV x v)(e:fX y=true)(c:fX x=true):SeqAt.EqAt A s u v (fM y x):=by
 cases y with
 |non=>
  cases ry;cases x with
  |non=>cases rx;show SeqAt.EqAt.same _
  |bl b=>cases rx;show SeqAt.EqAt.none_bool b
  |int b=>let#[t,rfl]:=rx;show SeqAt.EqAt.none_int b t
  |str b=>let#[t,rfl]:=rx;show SeqAt.EqAt.none_str b t
  |_=>show absurd (show false=true from c) aaN
 |bl a=>
  cases ry;cases x with
  |non=>cases rx;show SeqAt.EqAt.bool_none a
  |bl b=>cases rx;show SeqAt.EqAt.bool_bool a b
  |int b=>let#[t,rfl]:=rx;show SeqAt.EqAt.bool_int a b t
  |str b=>let#[t,rfl]:=rx;show SeqAt.EqAt.bool_str a b t
  |_=>show absurd (show false=true from c) aaN
 |int a=>
  let#[t',rfl]:=ry;cases x with
  |non=>cases rx;show SeqAt.EqAt.int_none a t'
  |bl b=>cases rx;show SeqAt.EqAt.int_bool a t' b
  |int b=>let#[t,rfl]:=rx;show SeqAt.EqAt.int_int a t' b t
  |str b=>let#[t,rfl]:=rx;show SeqAt.EqAt.int_str a t' b t
  |_=>show absurd (show false=true from c) aaN
 |str a=>
  let#[t',rfl]:=ry;cases x with
  |non=>cases rx;show SeqAt.EqAt.str_none a t'
  |bl b=>cases rx;show SeqAt.EqAt.str_bool a t' b
  |int b=>let#[t,rfl]:=rx;show SeqAt.EqAt.str_int a t' b t
  |str b=>let#[t,rfl]:=rx;show SeqAt.EqAt.str_str a t' b t
  |_=>show absurd (show false=true from c) aaN
 |_=>show absurd (show false=true from e) aaN
def dG(x:V)(u:ε):Bool:=match u with
 |.none=>fM .non x
 |.bool b=>fM (.bl b) x
 |.int i _=>fM (.int i) x
 |.str z _=>fM (.str z) x
 |_=>false
theorem Sd{x y:V}{u:ε}(r:RelV y u)(f:fX y=true):dG x u=fM y x:=by
 cases y with
 |non=>cases r;rfl
 |bl b=>cases r;rfl
 |int i=>let#[t,rfl]:=r;rfl
 |str z=>let#[t,rfl]:=r;rfl
 |_=>show absurd (show false=true from f) aaN
theorem qT{x:V}:∀{xs:List V}{us:List ε},Vals xs us->xs.all fX=true->us.any (dG x)=xs.any λy=>fM y x
 |_,_,.nil,_=>rfl
 |y::xs,u::us,.cons r t,f=>by
  rw[anZ,aa2]at f;rw[ale,ale,Sd r f.1,qT t f.2]
theorem su{A:ϳ}{s:μ}{x:V}{v:ε}(rx:RelV x v)(a:fX x=true):∀{xs:List V}{us:List ε},Vals xs us->xs.all fX=true->∀u∈us,SeqAt.EqAt A s u v (dG x u)
 |_,_,.nil,_=>λu hu=>by cases hu
 |y::xs,u::us,.cons r t,f=>λc hu=>by
  rw[anZ,aa2]at f;obtain rfl|hu:=ϲ.mp hu
  .rw[Sd r f.1];show abU r rx f.1 a
  .show su rx a t f.2 c hu
def gW(x:V)(xs:List V):Bool:=xs.any λy=>fM y x
def Kv(K:ϩ)(a:Bool):R2:=λx y H Q=>∃p xs,y=.ref p/\(η K H p xs\/ρ K H p xs)/\fX x=true/\xs.all fX=true/\Q (.bl (if a then !gW x xs else gW x xs)) H
theorem YX:aP X (ad7 .In) (Kv X.K false):=by
 intro ϵ s σ H x y v u Q I rx ry h;let#[p,xs,rfl,hq,e,fs,q]:=h;cases ry;obtain hq|hq:=hq
 .let#[a,r,pl,f]:=I.list hq;show SeqAt.in_listAt (dG x) pl.isList (λw c=>su rx e r fs w (by simpa using c)) #[.bl _,H,I,rfl,?_];rw[show a.toArray.any (dG x)=a.any (dG x)by simp,qT r fs];show q
 .let#[a,r,pl,f]:=I.tuple hq;show SeqAt.in_tupleAt (dG x) pl (λw c=>su rx e r fs w (by simpa using c)) #[.bl _,H,I,rfl,?_];rw[show a.toArray.any (dG x)=a.any (dG x)by simp,qT r fs];show q
theorem ac9:aP X (ad7 .NotIn) (Kv X.K true):=by
 intro ϵ s σ H x y v u Q I rx ry h;let#[p,xs,rfl,hq,e,fs,q]:=h;cases ry;obtain hq|hq:=hq
 .let#[a,r,pl,f]:=I.list hq;show SeqAt.notIn_listAt (dG x) pl.isList (λw c=>su rx e r fs w (by simpa using c)) #[.bl _,H,I,rfl,?_];rw[show a.toArray.any (dG x)=a.any (dG x)by simp,qT r fs];show q
 .let#[a,r,pl,f]:=I.tuple hq;show SeqAt.notIn_tupleAt (dG x) pl (λw c=>su rx e r fs w (by simpa using c)) #[.bl _,H,I,rfl,?_];rw[show a.toArray.any (dG x)=a.any (dG x)by simp,qT r fs];show q
theorem ai8:iz X (.builtin "len") (λxs H Q=>∃p ys,xs=[.ref p]/\(η X.K H p ys\/ρ X.K H p ys)/\Q (.int ys.length) H):=by
 intro ϵ s σ H xs us Q I r h;let#[p,ys,rfl,hq,q]:=h;let#[u,rfl,rx]:=vals1 r;cases rx;let g:=pK;obtain hq|hq:=hq
 .let#[e,c,pl,f]:=I.list hq;let a:=c.length;show Calls.call_len_list pl.isList (by simp only[aa8]<;>omega) #[.int ys.length,H,I.tok _,#[s.toks+1,by rw[aa8,a]],q]
 .let#[e,c,pl,f]:=I.tuple hq;let a:=c.length;show len_tuple pl (by simp only[aa8]<;>omega) #[.int ys.length,H,I.tok _,#[s.toks+1,by rw[aa8,a]],q]
theorem aeo:iz X (.builtin "len") (λxs H Q=>∃z,xs=[.str z]/\z.length<=ϰ/\Q (.int z.length) H):=by
 intro ϵ s σ H xs us Q I r h;let#[z,rfl,a,q]:=h;let#[u,rfl,t,rfl]:=vals1 r;let c:=pK;show len_str () #[.int z.length,H,I.tok _,#[_,rfl],q]
theorem aas:iz X (.type "list") (λxs H Q=>∃p ys,xs=[.ref p]/\(η X.K H p ys\/ρ X.K H p ys)/\∀l,H l=none->Q (.ref l) (upd H l (.lst ys))):=by
 intro ϵ s σ H xs us Q I r h;let#[p,ys,rfl,hq,q]:=h;let#[u,rfl,rx]:=vals1 r;cases rx
 let fin:∀(a:List ε),Vals ys a->ys.length<=ϰ->∀(h':ϫ)(c:Nat),(∀b o',s.heap.get? b=some o'->h'.get? b=some o')->
   h'.get? s.heap.objs.size=some {cls:=.type "list",dict:=none,data:=.seq a.toArray c,slots:= #v[]}->EP X ϵ σ Q (.ref s.heap.objs.size) {s with heap:=h'}:=λa f g h' c kp e=>
  #[.ref s.heap.objs.size,_,I.laid (t':=s.toks) kp (ϭ _) (show ϕ X.prog X.w _ h' _ (.lst ys)from#[g,a,c,f,e]),rfl,q _ (I.hok.fresh (ϭ _))]
 obtain hq|hq:=hq
 .let#[a,f,pl,g]:=I.list hq;let i:=f.length;let#[o,j,m,n,hd]:=pl.isList;show call_list_seq p (.inl rfl) j m hd (λh' c kp e=>fin a f g h' c kp e) (by simp only[aa8]<;>omega)
 .let#[a,f,pl,g]:=I.tuple hq;let i:=f.length;let#[o,j,m,n,hd]:=pl;show call_list_seq p (.inr rfl) j m hd (λh' c kp e=>fin a f g h' c kp e) (by simp only[aa8]<;>omega)
theorem aec:iz X (.type "tuple") (λxs H Q=>∃p ys,xs=[.ref p]/\((η X.K H p ys/\∀l,H l=none->Q (.ref l) (upd H l (.tup ys)))\/(ρ X.K H p ys/\Q (.ref p) H))):=by
 intro ϵ s σ H xs us Q I r h;let#[p,ys,rfl,h]:=h;let#[u,rfl,rx]:=vals1 r;cases rx;obtain⟨a,q⟩|⟨a,q⟩:=h
 .let#[c,f,pl,g]:=I.list a;let i:=f.length;show call_tuple_list pl.isList (λh' kp=>?_) (by simp only[aa8]<;>omega);let j:Inv X ϵ σ H {s with heap:=h'}:=I.kept (t':=s.toks) kp;let m:Inv X ϵ σ (upd H h'.objs.size (.tup ys)) {s with heap:=h'.push {cls:=.type "tuple",data:=.seq c.toArray}}:=
   j.laid (t':=s.toks) (λb o e=>ϴ _ e) (ϭ _) (show ϕ X.prog X.w _ _ _ (.tup ys)from#[g,c,f,IsTup.new _ _])
  show#[.ref h'.objs.size,_,m,rfl,q _ (j.hok.fresh (ϭ _))]
 .let#[c,f,pl,g]:=I.tuple a;show call_tuple_same pl #[.ref p,H,I,rfl,q]
def sH(K:ϩ)(T:String)(x:V)(H:Hp):Prop:=match x with
 |.str _=>T="str"
 |.int _=>T="int"
 |.ref p=>(T="list"/\∃xs,η K H p xs)\/(T="tuple"/\∃o,K.lookup p=some o/\o.cls=.type "tuple"/\o.dict=none)\/
   (T="dict"/\((∃Ϸ,H p=some (.dK Ϸ))\/∃Ϸ,H p=some (.dT Ϸ)))\/(T="set"/\∃S n,H p=some (.set S n))
 |_=>False
theorem ai5{ϵ:List (δ×Obj)}{σ:St}{H:Hp}{s:μ}{T:String}{x:V}{v:ε}(I:Inv X ϵ σ H s)(r:RelV x v)(ty:sH X.K T x H):s.TypeIs v T/\∀a,v=.ref a->∃j,s.heap.get? a=some j/\j.dict=none:=by
 cases x with
 |str z=>
  let#[t,rfl]:=r;cases(show T="str" from ty);show#[am3 s z t,λ_ e=>nomatch e]
 |int i=>
  let#[t,rfl]:=r;cases(show T="int" from ty);show#[typeIs_int s i t,λ_ e=>nomatch e]
 |ref p=>
  cases r;obtain⟨rfl,xs,l⟩|⟨rfl,o,f,m,hd⟩|⟨rfl,f⟩|⟨rfl,S,n,f⟩:=ty
  .let#[q,_,pl,_]:=I.list l;show#[pl.isList.typeIs,λa e=>?_];cases e;let#[o,n,e,c,hd,_]:=pl;show#[o,e,hd]
  .show#[#[o,I.kIn p o f,m],λa e=>?_];cases e;show#[o,I.kIn _ o f,hd]
  .let z:∃o,s.heap.get? p=some o/\o.ExactDict:=by
    obtain⟨Ϸ,f⟩|⟨Ϸ,f⟩:=f
    .let#[_,_,_,_,o,_,_,e,ex,_]:=I.hok p _ f;show#[o,e,ex]
    .let#[_,_,_,_,o,_,_,e,ex,_]:=I.hok p _ f;show#[o,e,ex]
   let#[o,e,ex]:=z;show#[#[o,e,ex.1],λa g=>?_];cases g;show#[o,e,ex.2.1]
  .let#[o,_,_,_,e,ex,_]:=I.hok p _ f;show#[#[o,e,ex.1],λa g=>?_];cases g;show#[o,e,ex.2.1]
 |_=>show False.elim ty
variable{o e:Ϩ}{es:List Ϩ}{to:TE}{t:TA}{name:Str}{apos cpos:Pos}{T id:String}{r:V->List V->Hp->VK->Prop}
end
def Wj(X:Cx)(id:String)(r:V->List V->Hp->VK->Prop):Prop:=
 ∀(ϵ:List (δ×Obj))(s:μ)(σ:St)(H:Hp)(x:V)(xs:List V)(v:ε)(us:List ε)(Q:VK),Inv X ϵ σ H s->RelV x v->Vals xs us->r x xs H Q->
  ν (Ϧ X.prog X.w) X.A (call (.builtin id) (v::us)) (EP X ϵ σ Q) X.xe s
theorem Vals.one{x:V}{us:List ε}(h:Vals [x] us):∃u,us=[u]/\RelV x u:=vals1 h
theorem Vals.two{x y:V}{us:List ε}(h:Vals [x,y] us):∃u v,us=[u,v]/\RelV x u/\RelV y v:=vals2 h
theorem Vals.zero:∀{us:List ε},Vals [] us->us=[]
 |_,.nil=>rfl
section
variable{X:Cx}{ϵ:List (δ×Obj)}{σ:St}{H:Hp}{s:μ}{l b:δ}{xs ys zs:List V}
theorem Inv.lset{a its':List ε}{n:Nat}{f:Array ε->Array ε}{t':Nat}(I:Inv X ϵ σ H s)(c:H l=some (.lst xs))(e:s.heap.get? l=some {cls:=.type "list",data:=.seq a.toArray n})(g:f a.toArray=its'.toArray)(i:Vals ys its')(j:ys.length<=ϰ):Inv X ϵ σ (upd H l (.lst ys)) {s with heap:=s.heap.update l (Obj.mapSeq f),toks:=t'}:=by
 let q:=PySem.IsL.update e f;rw[g]at q;show I.write (x:=l) (e:=l) (by rw[c];show trivial) (.inl rfl) (λp u m o=>(ac2 s.heap (Obj.mapSeq f) (Ne.symm m)).trans o) #[_,q] ?_;show#[j,its',_,i,q]
theorem Inv.lnew{a:List ε}{t':Nat}(I:Inv X ϵ σ H s)(c:Vals ys a)(e:ys.length<=ϰ):Inv X ϵ σ (upd H s.heap.objs.size (.lst ys)) {s with heap:=s.heap.push {cls:=.type "list",data:=.seq a.toArray},toks:=t'}:=
 I.laid (λ_ _ q=>ϴ _ q) (ϭ _) #[e,a,0,c,abb _ rfl]
theorem Inv.fresh(I:Inv X ϵ σ H s):H s.heap.objs.size=none:=I.hok.fresh (ϭ _)
theorem Inv.lstM(I:Inv X ϵ σ H s)(c:H l=some (.lst xs)):xs.length<=ϰ/\∃(a:List ε)(n:Nat),Vals xs a/\xs.length=a.length/\s.heap.get? l=some {cls:=.type "list",data:=.seq a.toArray n}:=by
 let#[z,a,n,r,e]:=I.hok l _ c;show#[z,a,n,r,r.length,e]
end
section
variable{X:Cx}
def aci:V->List V->Hp->VK->Prop:=λx vs H Q=>∃l xs y,x=.ref l/\vs=[y]/\H l=some (.lst xs)/\xs.length<ϰ/\Q .non (upd H l (.lst (xs++[y])))
theorem zq:Wj X "list.append" aci:=by
 intro ϵ s σ H x vs v us Q I rx f h;let#[l,xs,y,rfl,rfl,a,i,q]:=h;cases rx;let#[u,rfl,g]:=f.one;let#[z,c,n,r,j,e]:=I.lstM a;show am4 F.slot_list_append #[_,e,rfl] F.entry_list_append (F.args_list_append_2 _ _) (PySem.list_append l c.toArray n u (by rw[aa8];omega)) #[e,?_];show#[.non,_,I.lset (its':=c++[u]) a e (by simp) (r.append (.cons g .nil)) ?_,rfl,q];rw[abK,afe];omega
def agu:R2:=λx y H Q=>∃l b xs zs,x=.ref l/\y=.ref b/\H l=some (.lst xs)/\H b=some (.lst zs)/\xs.length+zs.length<=ϰ/\∀p,H p=none->Q (.ref p) (upd H p (.lst (xs++zs)))
theorem adl:aP X (binaryOp .Add) agu:=by
 intro ϵ s σ H x y v u Q I rx ry h;let#[l,b,xs,zs,rfl,rfl,f,g,p,q]:=h;cases rx;cases ry;let#[z,c,n,r,B,e]:=I.lstM f;let#[C,a,n2,i,j,m]:=I.lstM g;show PySem.P.add_list e m ?_ (by rw[aa8,aa8];omega);let o:c.toArray++a.toArray=(c++a).toArray:=by simp
 rw[o];show#[.ref _,_,I.lnew (t':=s.toks) (r.append i) (by rw[abK];omega),rfl,q _ I.fresh]
end
section
variable{prog:Ϯ}{w:Ϭ}{A:ϳ}{E:ε->μ->Prop}{s:μ}
end
section
variable{X:Cx}
end
section
variable{κ:Type} [DecidableEq κ]
def aj(Ϸ:List (κ×V))(k:κ):Option V:=(Ϸ.find? λa=>decide (a.1=k)).map (·.2)
def putK(Ϸ:List (κ×V))(k:κ)(v:V):List (κ×V):=
 if(Ϸ.any λa=>decide (a.1=k))=true then Ϸ.map (λa=>if a.1=k then(a.1,v)else a)else Ϸ++[(k,v)]
def gD(Ϸ:List (κ×V))(k:κ):List (κ×V):=Ϸ.filter λa=>decide (a.1≠k)
theorem zB{p:κ×V}{r:List (κ×V)}{k:κ}(e:p.1=k):aj (p::r) k=some p.2:=by simp[aj,adZ,e]
theorem Dh{p:κ×V}{r:List (κ×V)}{k:κ}(e:¬p.1=k):aj (p::r) k=aj r k:=by simp[aj,adZ,e]
theorem Kr(k:κ):∀Ϸ:List (κ×V),(Ϸ.any λa=>decide (a.1=k))=(aj Ϸ k).isSome
 |[]=>rfl
 |p::r=>by
  rw[ale];by_cases e:p.1=k
  .simp only[zB e,decide_eq_true e,apn,Option.isSome_some]
  .rw[Dh e,decide_eq_false e,an0];show Kr k r
theorem We(Ϸ:List (κ×V))(k:κ)(v:V):(putK Ϸ k v).length<=Ϸ.length+1:=by
 unfold putK;split
 .rw[aav];omega
 .rw[abK,acV,aoi];omega
theorem bZ.isSome_eq{o:Option V}{u:Option ε}(r:bZ o u):o.isSome=u.isSome:=by
 cases o with
 |none=>cases u with
  |none=>rfl
  |some _=>show(show False from r).elim
 |some _=>cases u with
  |none=>show(show False from r).elim
  |some _=>rfl
theorem bZ.getD{o:Option V}{u:Option ε}{d:V}{d':ε}(r:bZ o u)(rd:RelV d d'):RelV (o.getD d) (u.getD d'):=by
 cases o with
 |none=>cases u with
  |none=>show rd
  |some _=>show(show False from r).elim
 |some _=>cases u with
  |none=>show(show False from r).elim
  |some _=>show r
theorem KV.val{Ϸ:List (κ×V)}{vs:List (κ×ε)}(r:KV Ϸ vs)(k:κ):bZ (aj Ϸ k) (valueAt vs k):=by
 unfold KV at r;induction r with
 |nil=>show True.intro
 | @cons p q ps a h t f=>
   let#[h1,h2]:=h;by_cases e:p.1=k
   .let c:q.1=k:=h1.symm.trans e;let b:valueAt (q::a) k=some q.2:=by simp[valueAt,adZ,c]
    rw[zB e,b];show h2
   .let c:¬q.1=k:=λz=>e (h1.trans z)
    let b:valueAt (q::a) k=valueAt a k:=by simp[valueAt,adZ,c]
    rw[Dh e,b];show f
theorem KV.any{Ϸ:List (κ×V)}{vs:List (κ×ε)}(r:KV Ϸ vs)(k:κ):(Ϸ.any λa=>decide (a.1=k))=vs.any λa=>decide (a.1=k):=by
 unfold KV at r;induction r with
 |nil=>rfl
 |cons h t c=>rw[ale,ale,c,h.1]
theorem KV.repl{Ϸ:List (κ×V)}{vs:List (κ×ε)}(r:KV Ϸ vs)(k:κ){y:V}{u:ε}(ry:RelV y u):KV (Ϸ.map λa=>if a.1=k then(a.1,y)else a) (vs.map λa=>if a.1=k then(a.1,u)else a):=by
 unfold KV at r⊢;induction r with
 |nil=>show .nil
 | @cons p q ps f h t c=>
   rw[ad4,ad4];show .cons ?_ c;let#[h1,h2]:=h;by_cases e:p.1=k
   .rw[if_pos e,if_pos (h1.symm.trans e)];show#[h1,ry]
   .rw[if_neg e,if_neg (λz=>e (h1.trans z))];show#[h1,h2]
theorem KV.put{Ϸ:List (κ×V)}{vs:List (κ×ε)}(r:KV Ϸ vs)(k:κ){y:V}{u:ε}(ry:RelV y u):KV (putK Ϸ k y) (stored vs k u):=by
 unfold putK stored;rw[r.any k];by_cases e:(vs.any λa=>decide (a.1=k))=true
 .rw[if_pos e,if_pos e];show r.repl k ry
 .rw[if_neg e,if_neg e];show Paired.snoc r #[rfl,ry]
theorem KV.drop{Ϸ:List (κ×V)}{vs:List (κ×ε)}(r:KV Ϸ vs)(k:κ):KV (gD Ϸ k) (without vs k):=by
 unfold KV at r⊢;unfold gD without;induction r with
 |nil=>show .nil
 | @cons p q ps g h t c=>
   let#[h1,h2]:=h;rw[alx,alx];by_cases e:p.1=k
   .let a:¬decide (p.1≠k)=true:=by simp[e]
    let b:¬decide (q.1≠k)=true:=by simp[h1.symm.trans e]
    rw[if_neg a,if_neg b];show c
   .let f:¬q.1=k:=λz=>e (h1.trans z)
    let a:decide (p.1≠k)=true:=by simp[e]
    let b:decide (q.1≠k)=true:=by simp[f]
    rw[if_pos a,if_pos b];show .cons #[h1,h2] c
theorem KV.keys{Ϸ:List (κ×V)}{vs:List (κ×ε)}(r:KV Ϸ vs):Ϸ.map (·.1)=vs.map (·.1):=by
 unfold KV at r;induction r with
 |nil=>rfl
 |cons h t a=>rw[ad4,ad4,a,h.1]
theorem KV.length{Ϸ:List (κ×V)}{vs:List (κ×ε)}(r:KV Ϸ vs):Ϸ.length=vs.length:=Paired.length r
theorem acq(Ϸ:List (κ×V))(k:κ):(gD Ϸ k).length<=Ϸ.length:=ahW _ _
end
theorem lK{P:Ϯ}{w:Ϭ}{k:Key}{u:ε}(r:RelV (kV k) u):(cP P w).is k u=true:=by
 cases k with
 |inl i=>let#[t,e]:=(show ∃t,u=Value.int i t from r);subst e;show aaH P w i t
 |inr x=>let#[t,e]:=(show ∃t,u=Value.str x t from r);subst e;show aem P w x t
theorem Lh{P:Ϯ}{w:Ϭ}:∀{ks:List Key}{us:List ε},Vals (ks.map kV) us->ItemsAre (cP P w) ks us
 |[],_,r=>by rw[apo]at r;cases r;show .nil
 |k::ks,_,r=>by
  rw[ad4]at r;cases r with
  |cons h t=>show .cons (lK h) (Lh t)
abbrev KT(H:Hp):List (List Key×V)->List (List Key×δ×ε)->Prop:=Paired λp q=>p.1=q.1/\H q.2.1=some (.tup (p.1.map kV))/\RelV p.2 q.2.2
theorem KT.val{H:Hp}{Ϸ:List (List Key×V)}{xs:List (List Key×δ×ε)}(r:KT H Ϸ xs)(k:List Key):bZ (aj Ϸ k) ((atKey xs k).map (·.2)):=by
 induction r with
 |nil=>show True.intro
 | @cons p q ps a h t f=>
   let#[h1,_,h2]:=h;by_cases e:p.1=k
   .let c:q.1=k:=h1.symm.trans e;let b:atKey (q::a) k=some q.2:=by simp[atKey,adZ,c]
    rw[zB e,b];show h2
   .let c:¬q.1=k:=λz=>e (h1.trans z)
    let b:atKey (q::a) k=atKey a k:=by simp[atKey,adZ,c]
    rw[Dh e,b];show f
theorem KT.repl{H:Hp}{Ϸ:List (List Key×V)}{xs:List (List Key×δ×ε)}(r:KT H Ϸ xs)(k:List Key){y:V}{u:ε}(ry:RelV y u):KT H (Ϸ.map λa=>if a.1=k then(a.1,y)else a) (xs.map (putAt k u)):=by
 induction r with
 |nil=>show .nil
 | @cons p q ps g h t c=>
   rw[ad4,ad4];show .cons ?_ c;let#[h1,h2,f]:=h;unfold putAt;by_cases e:p.1=k
   .rw[if_pos e,if_pos (h1.symm.trans e)];show#[h1,h2,ry]
   .rw[if_neg e,if_neg (λz=>e (h1.trans z))];show#[h1,h2,f]
theorem KT.put{H:Hp}{Ϸ:List (List Key×V)}{xs:List (List Key×δ×ε)}(r:KT H Ϸ xs)(k:List Key){b:δ}{y:V}{u:ε}(a:H b=some (.tup (k.map kV)))(ry:RelV y u):KT H (putK Ϸ k y) (storedH xs k b u):=by
 let e:(Ϸ.any λc=>decide (c.1=k))=(atKey xs k).isSome:=by
  rw[Kr,(r.val k).isSome_eq,anN]
 unfold putK storedH;rw[e];by_cases q:(atKey xs k).isSome=true
 .rw[if_pos q,if_pos q];show r.repl k ry
 .rw[if_neg q,if_neg q];show Paired.snoc r #[rfl,a,ry]
theorem KT.keeps{H H':Hp}{Ϸ:List (List Key×V)}{xs:List (List Key×δ×ε)}(r:KT H Ϸ xs)(a:∀b ys,H b=some (.tup ys)->H' b=some (.tup ys)):KT H' Ϸ xs:=
 Paired.mapP r λ_ _ z=>#[z.1,a _ _ z.2.1,z.2.2]
section
variable{P:Ϯ}{w:Ϭ}{H:Hp}{h:ϫ}{a:δ}
theorem VN{u:HO}(ok:Ϣ P w H h)(e:Rd H a u):ϕ P w H h a u:=e.ok ok
theorem j8{Ϸ:List (Key×V)}(ok:Ϣ P w H h)(e:Rd H a (.dK Ϸ)):Ϸ.length<=ϰ/\(a==sysModules)=false/\∃vs,KV Ϸ vs/\h.DictOf (cP P w) a vs:=
 show ϕ P w H h a (.dK Ϸ)from VN ok e
theorem Bw{Ϸ:List (Key×V)}(ok:Ϣ P w H h)(e:H a=some (.dK Ϸ)):Ϸ.length<=ϰ/\(a==sysModules)=false/\∃vs,KV Ϸ vs/\h.DictOf (cP P w) a vs:=j8 ok (.inl e)
theorem pY{ks:List Key}(ok:Ϣ P w H h)(e:H a=some (.tup (ks.map kV))):(tupleKind (cP P w)).is h ks a:=by
 let#[_,c,r,o,h1,h2,n,f]:=(show ϕ P w H h a (.tup (ks.map kV))from ok a _ e);show#[o,c.toArray,n,h1,h2,f,by simpa using Lh r]
theorem nM{Ϸ:List (List Key×V)}(ok:Ϣ P w H h)(e:Rd H a (.dT Ϸ)):Ϸ.length<=ϰ/\(a==sysModules)=false/\
  ∃xs,KT H Ϸ xs/\h.DictOfH (tupleKind (cP P w)) a xs:=by
 let#[z,y,xs,r,o,es,ep,h1,h2,f,g,i]:=(show ϕ P w H h a (.dT Ϸ)from VN ok e);show#[z,y,xs,r,o,es,ep,h1,h2,f,g,λx hx=>?_,i];let all:∀{l:List (List Key×V)}{m:List (List Key×δ×ε)},KT H l m->∀x∈m,(tupleKind (cP P w)).is h x.1 x.2.1:=by
  intro l m q;induction q with
  |nil=>intro x hx;show nomatch hx
  | @cons p q ps n c t j=>
    intro x hx;obtain e|hx:=ϲ.mp hx
    .subst e;show pY ok (by rw[<-c.1];show c.2.1)
    .show j x hx
 show all r x hx
theorem Z6{Ϸ:List (List Key×V)}(ok:Ϣ P w H h)(e:H a=some (.dT Ϸ)):Ϸ.length<=ϰ/\(a==sysModules)=false/\
  ∃xs,KT H Ϸ xs/\h.DictOfH (tupleKind (cP P w)) a xs:=nM ok (.inl e)
end
def az(H:Hp)(a:δ)(y:V)(r:Option V):Prop:=
 (∃Ϸ k,Rd H a (.dK Ϸ)/\y=kV k/\r=aj Ϸ k)\/∃Ϸ k b,Rd H a (.dT Ϸ)/\y=.ref b/\H b=some (.tup (k.map kV))/\r=aj Ϸ k
def jy(H:Hp)(a:δ)(y v:V)(H':Hp):Prop:=
 (∃Ϸ k,H a=some (.dK Ϸ)/\y=kV k/\Ϸ.length<ϰ/\H'=upd H a (.dK (putK Ϸ k v)))\/
 ∃Ϸ k b,H a=some (.dT Ϸ)/\y=.ref b/\H b=some (.tup (k.map kV))/\Ϸ.length<ϰ/\H'=upd H a (.dT (putK Ϸ k v))
theorem az.k{H:Hp}{a:δ}{Ϸ:List (Key×V)}{k:Key}(e:H a=some (.dK Ϸ)):az H a (kV k) (aj Ϸ k):=.inl #[Ϸ,k,.inl e,rfl,rfl]
theorem jy.k{H:Hp}{a:δ}{Ϸ:List (Key×V)}{k:Key}{v:V}(e:H a=some (.dK Ϸ))(c:Ϸ.length<ϰ):jy H a (kV k) v (upd H a (.dK (putK Ϸ k v))):=.inl #[Ϸ,k,e,rfl,c,rfl]
section
variable{X:Cx}{ϵ:List (δ×Obj)}{σ:St}{H:Hp}{s:μ}{a:δ}{y v:V}{u r:ε}{o:Option V}{A:ϳ}{E:ε->μ->Prop}
theorem Inv.big(I:Inv X ϵ σ H s):sysModules<s.heap.objs.size:=by
 let h:mainGlobals<s.heap.objs.size:=(I.mod.glob.keeps I.bk).lt;show Nat.lt_trans (by decide) h
theorem Ik{Q:ε->μ->Prop}(q:A.units+1<cLine)(I:Inv X ϵ σ H s)(g:az H a y (some v))(ry:RelV y u)(h:∀i s',Inv X ϵ σ H s'->RelV v i->Q i s'):ν (Ϧ X.prog X.w) A (getItem (.ref a) u) Q E s:=by
 obtain⟨Ϸ,k,e,j,l⟩|⟨Ϸ,k,b,e,j,x,l⟩:=g
 .subst j;let#[z,hd,vs,c,dd]:=j8 I.hok e;let#[i,m,f]:=bZ.some_of (v:=v) (o:=valueAt vs k) (by rw[l];show c.val k);show wpAny_getItem_of (lK ry) dd.mapOf m (h i _ (I.tok _) f)
 .subst j;cases(show u=Value.ref b from ry);let#[z,hd,xs,c,dd]:=nM I.hok e;let#[i,m,f]:=bZ.some_of (v:=v) (o:=(atKey xs k).map (·.2)) (by rw[l];show c.val k);let#[p,B,n]:=aiq.mp m;show wpAny_getItem_heap (alh q) (pY I.hok x) dd B ?_;rw[n];show h i _ (I.tok _) f
theorem aiW{Q:ε->μ->Prop}(i:A.units+1<cLine)(I:Inv X ϵ σ H s)(g:az H a y o)(ry:RelV y u)(h:∀s',Inv X ϵ σ H s'->Q (.bool o.isSome) s'):ν (Ϧ X.prog X.w) A (ad7 .In u (.ref a)) Q E s:=by
 obtain⟨Ϸ,k,e,f,l⟩|⟨Ϸ,k,b,e,f,j,l⟩:=g
 .subst f;let#[z,hd,vs,c,dd]:=j8 I.hok e;show wpAny_in_of (lK ry) hd dd.mapOf ?_;rw[<-(c.val k).isSome_eq, <-l];show h _ (I.tok _)
 .subst f;cases(show u=Value.ref b from ry);let#[z,hd,xs,c,dd]:=nM I.hok e;show wpAny_in_heap (alh i) (pY I.hok j) hd dd ?_;let q:=(c.val k).isSome_eq;rw[anN]at q;rw[<-q, <-l];show h _ (I.tok _)
theorem ajJ{Q:ε->μ->Prop}(i:A.units+1<cLine)(I:Inv X ϵ σ H s)(g:az H a y o)(ry:RelV y u)(h:∀s',Inv X ϵ σ H s'->Q (.bool (!o.isSome)) s'):ν (Ϧ X.prog X.w) A (ad7 .NotIn u (.ref a)) Q E s:=by
 obtain⟨Ϸ,k,e,f,l⟩|⟨Ϸ,k,b,e,f,j,l⟩:=g
 .subst f;let#[z,hd,vs,c,dd]:=j8 I.hok e;show wpAny_notIn_of (lK ry) hd dd.mapOf ?_;rw[<-(c.val k).isSome_eq, <-l];show h _ (I.tok _)
 .subst f;cases(show u=Value.ref b from ry);let#[z,hd,xs,c,dd]:=nM I.hok e;show wpAny_notIn_heap (alh i) (pY I.hok j) hd dd ?_;let q:=(c.val k).isSome_eq;rw[anN]at q;rw[<-q, <-l];show h _ (I.tok _)
theorem Bs{h':ϫ}{t':Nat}{c:HO}(I:Inv X ϵ σ H s)(g:sW (H a))(hs:akp a s.heap h')(i:∃q,h'.get? a=some q)(f:ϕ X.prog X.w (upd H a c) h' a c):Inv X ϵ σ (upd H a c) {s with heap:=h',toks:=t'}:=
 I.write (x:=a) (e:=a) g (.inl rfl) (λb q j z=>(hs.2 b j).trans z) i f
theorem Qc{P:Ϯ}{w:Ϭ}{H':Hp}{h':ϫ}{Ϸ:List (Key×V)}{vs:List (Key×ε)}(z:Ϸ.length<=ϰ)(hd:(a==sysModules)=false)(c:KV Ϸ vs)(dd:h'.DictOf (cP P w) a vs):ϕ P w H' h' a (.dK Ϸ):=#[z,hd,vs,c,dd]
theorem ad6{H':Hp}{Q:Unit->μ->Prop}(D:A.units+1<cLine)(I:Inv X ϵ σ H s)(g:jy H a y v H')(ry:RelV y u)(x:RelV v r)(h:∀s',Inv X ϵ σ H' s'->Q PUnit.unit s'):ν (Ϧ X.prog X.w) A (setItem (.ref a) u r) Q E s:=by
 obtain⟨Ϸ,k,e,m,l,n⟩|⟨Ϸ,k,b,e,m,B,l,n⟩:=g
 .subst m n;let#[z,hd,vs,f,dd]:=Bw I.hok e;let o:vs.length<=ϰ:=by rw[<-f.length];show z
  let p:(putK Ϸ k v).length<=ϰ:=by have:=We Ϸ k v;omega
  show wpAny_setItem_pairs (hsz:=o) (lK ry) dd λh' i hs=>h _ ?_
  let F:∃q,h'.get? a=some q:=let⟨q,_,_,j,_⟩:=i;#[q,j];show Bs I (by rw[e];show True.intro) hs F (Qc p hd (f.put k x) i)
 .subst m n;cases(show u=Value.ref b from ry);let#[z,hd,xs,f,dd]:=Z6 I.hok e;let o:xs.length<=ϰ:=by rw[<-Paired.length f];show z
  let p:(putK Ϸ k v).length<=ϰ:=by have:=We Ϸ k v;omega
  show wpAny_setItem_heap (hsz:=o) (alh D) (pY I.hok B) dd λh' i hs=>h _ ?_
  let#[q,es,ep,j,h2,G,J,_,L]:=i;show Bs I (by rw[e];show True.intro) hs ⟨q,j⟩ ⟨p,hd,_,(f.put k B x).keeps λc ys C=>?_,q,es,ep,j,h2,G,J,L⟩;rw[ο (afT C e (λz=>nomatch z))];show C
end
section
variable{X:Cx}{ϵ:List (δ×Obj)}{σ:St}{H:Hp}{s:μ}{a:δ}{Ϸ:List (Key×V)}{k:Key}{u:ε}{A:ϳ}{E:ε->μ->Prop}
theorem aaq{v:V}{c:List ε}{Q:ε->μ->Prop}(I:Inv X ϵ σ H s)(e:H a=some (.dK Ϸ))(ry:RelV (kV k) u)(l:aj Ϸ k=some v)(n:c=[]\/∃x,c=[x])(h:∀g s',Inv X ϵ σ (upd H a (.dK (gD Ϸ k))) s'->RelV v g->Q g s'):ν (Ϧ X.prog X.w) A (call (.builtin "dict.pop") (.ref a::u::c)) Q E s:=by
 let#[z,hd,vs,f,dd]:=Bw I.hok e;let#[g,p,m]:=bZ.some_of (v:=v) (o:=valueAt vs k) (by rw[<-l];show f.val k);let y:(keyPart u).isSome=true:=by
  cases k with
  |inl i=>let#[t,q]:=(show ∃t,u=Value.int i t from ry);subst q;rfl
  |inr x=>let#[t,q]:=(show ∃t,u=Value.str x t from ry);subst q;rfl
 let B:argsOk "dict.pop" #[.ref a::u::c,[]]:=by
  obtain q|⟨x,q⟩:=n
  .subst q;show F.args_dict_pop_2 _ _
  .subst q;show F.args_dict_pop_3 _ _ _
 show call_meetsIn F.slot_dict_pop dd.typeIs F.entry_dict_pop B (meets_dict_pop_there (cP X.prog X.w) a (lK ry) c n y)
  #[vs,g,dd,by rw[<-f.length];show z,p,λh' j hs=>h g _ ?_ m]
 let C:∃q,h'.get? a=some q:=let⟨q,_,_,hq,_⟩:=j;#[q,hq];show Bs I (by rw[e];show True.intro) hs C (Qc (aeO (acq Ϸ k) z) hd (f.drop k) j)
theorem agW{Q:ε->μ->Prop}(I:Inv X ϵ σ H s)(e:Rd H a (.dK Ϸ))(h:∀t s',Inv X ϵ σ H s'->Q (.int Ϸ.length t) s'):ν (Ϧ X.prog X.w) A (call (.builtin "len") [.ref a]) Q E s:=by
 let#[z,hd,vs,c,dd]:=j8 I.hok e;show call_len_dict hd dd (by rw[<-c.length];rw[ϱ]at z;omega) ?_;rw[<-c.length];show h _ _ (I.tok _)
end
def Uh(i:Ϩ):=∀a c,subscripted i false a c=operate [a,c] (getItem a c)
theorem ajf{prog:Ϯ}{w:Ϭ}{A:ϳ}{E:ε->μ->Prop}{s:μ}{env:Env}{value a:Ϩ}{pos:Pos}{T id:String}{Q:ε->μ->Prop}(m:typeLookup (.type T) "__getitem__"=pure (some (.builtin id)))(hs:Uh a)(h:ν (Ϧ prog w) A (eval value env) (λo e=>ν (Ϧ prog w) A (eval a env) (λi s₂=>s₂.TypeIs o T/\ν (Ϧ prog w) A (getItem o i) Q E s₂) E e) E s):ν (Ϧ prog w) A (eval (.Subscript value a pos) env) Q E s:=by
 show Subscript_ (aef h (λo e g=>aef g (λi s₂ c=>?_) λ_ _ x=>x) λ_ _ x=>x);let#[l,c]:=c;unfold subscriptTail;show π ?_;rw[getitemInPython_of_ne l.not_modules];show π (wpAny_specialOf l m ?_);let fin:ν (Ϧ prog w) A (subscripted a false o i) (λr f=>ν (Ϧ prog w) A (letTemporaryGo value o r>>=λ_=>pure r) Q E f) E s₂:=by
  rw[hs o i];show wpAny_operating (aef c (λr f j=>π (wpAny_letTemporaryGo (ϯ j))) λ_ _ x=>x)
 first
  |show ϯ (π fin)
  |show π (ϯ (π fin))
  |show π fin
theorem N5{X:Cx}{ϵ:List (δ×Obj)}{σ:St}{H:Hp}{s:μ}{a:δ}{y:V}{o:Option V}(I:Inv X ϵ σ H s)(g:az H a y o):s.TypeIs (.ref a) "dict":=by
 obtain⟨Ϸ,k,e,_,_⟩|⟨Ϸ,k,b,e,_,_,_⟩:=g
 .let#[_,_,vs,_,dd]:=j8 I.hok e;show dd.typeIs
 .let#[_,_,xs,_,dd]:=nM I.hok e;show dd.typeIs
section
variable{X:Cx}{o i e value:Ϩ}{pos pos' tpos:Pos}{td ty tv:TE}
end
theorem abF{P:Ϯ}{w:Ϭ}{H:Hp}(h:ϫ)(a:sysModules<h.objs.size):ϕ P w H (h.push {cls:=.type "dict",data:=.dict #v[]}) h.objs.size (.dK []):=
 #[agn _,beq_eq_false_iff_ne.mpr (Ne.symm (adv a)),[],.nil,Heap.DictOf.new h]
def aix:TE:=λ_ H Q=>∀p,H p=none->Q (.ref p) (upd H p (.dK []))
section
variable{X:Cx}{pos:Pos}
theorem aii:PE X (.Dict [] [] pos) aix:=λϵ s σ H Q I h=>
 wpAny_Dict_empty #[.ref s.heap.objs.size,_,I.laid (a:=s.heap.objs.size) (o:=.dK []) (t':=s.toks) (λ_ _ q=>ϴ _ q) (ϭ _) (abF s.heap I.big),rfl,h _ (I.hok.fresh (ϭ _))]
end
structure M1(X:Cx)(o:Ϩ)(m:Str)(apos:Pos)(e:Ϩ)(cpos:Pos):Prop where
 base:attributeBase o m X.env (eval o X.env)=eval o X.env
 few:((backTo cpos (abo [e] X.env)).all (λx=> !x.1)&&(backToKw cpos (keywordEach [] X.env)).all (λx=>x.1.isSome)
  &&decide (([e]:List Ϩ).length+([]:List Keyword).length+(if([]:List Keyword).isEmpty then 0 else 1)<30))=true
 line:(apos.endLine==cpos.line)=true
 trees:backTo cpos (abo [e] X.env)=[(false,eval e X.env)]
structure M2(X:Cx)(o:Ϩ)(m:Str)(apos:Pos)(e f:Ϩ)(cpos:Pos):Prop where
 base:attributeBase o m X.env (eval o X.env)=eval o X.env
 few:((backTo cpos (abo [e,f] X.env)).all (λx=> !x.1)&&(backToKw cpos (keywordEach [] X.env)).all (λx=>x.1.isSome)
  &&decide (([e,f]:List Ϩ).length+([]:List Keyword).length+(if([]:List Keyword).isEmpty then 0 else 1)<30))=true
 line:(apos.endLine==cpos.line)=true
 trees:backTo cpos (abo [e,f] X.env)=[(false,eval e X.env),(false,eval f X.env)]
def lg(H:Hp)(a:δ):Prop:=(∃Ϸ,Rd H a (.dK Ϸ))\/∃Ϸ,Rd H a (.dT Ϸ)
theorem T9{X:Cx}{ϵ:List (δ×Obj)}{σ:St}{H:Hp}{s:μ}{a:δ}(I:Inv X ϵ σ H s)(d:lg H a):s.TypeIs (.ref a) "dict"/\(∀b,Value.ref a=.ref b->∃c,s.heap.get? b=some c/\c.dict=none)/\(a==sysModules)=false:=by
 obtain⟨Ϸ,e⟩|⟨Ϸ,e⟩:=d
 .let#[_,hd,vs,_,dd]:=j8 I.hok e;show#[dd.typeIs,λb q=>?_,hd];cases q;let#[c,_,_,h1,h2,_]:=dd;show#[c,h1,h2.2.1]
 .let#[_,hd,xs,_,dd]:=nM I.hok e;show#[dd.typeIs,λb q=>?_,hd];cases q;let#[c,_,_,h1,h2,_]:=dd;show#[c,h1,h2.2.1]
section
variable{X:Cx}{ϵ:List (δ×Obj)}{σ:St}{H:Hp}{s:μ}{a:δ}{y d:V}{u r:ε}{o:Option V}{A:ϳ}{E:ε->μ->Prop}
theorem ab5{Q:ε->μ->Prop}(j:A.units+1<cLine)(I:Inv X ϵ σ H s)(g:az H a y o)(ry:RelV y u)(h:∀i s',Inv X ϵ σ H s'->RelV (o.getD .non) i->Q i s'):ν (Ϧ X.prog X.w) A (call (.builtin "dict.get") [.ref a,u]) Q E s:=by
 obtain⟨Ϸ,k,e,f,l⟩|⟨Ϸ,k,b,e,f,m,l⟩:=g
 .subst f;let#[z,hd,vs,c,dd]:=j8 I.hok e;show call_meetsIn F.slot_dict_get dd.typeIs F.entry_dict_get (F.args_dict_get_2 _ _) (meets_dict_get (cP X.prog X.w) a (lK ry) hd) #[_,dd.mapOf,h _ _ (I.tok _) ?_];rw[l];show(c.val k).getD rfl
 .subst f;cases(show u=Value.ref b from ry);let#[z,hd,xs,c,dd]:=nM I.hok e;show call_meetsIn F.slot_dict_get dd.typeIs F.entry_dict_get (F.args_dict_get_2 _ _) (meetsH_dict_get (tupleKind (cP X.prog X.w)) a b hd) #[alh j,k,xs,pY I.hok m,dd,h _ _ (I.tok _) ?_];rw[l];show(c.val k).getD rfl
end
section
variable{X:Cx}{o e f:Ϩ}{apos cpos:Pos}{td ty tx:TE}
end
section
variable{X:Cx}{ϵ:List (δ×Obj)}{σ:St}{H:Hp}{s:μ}{a:δ}{Ϸ:List (Key×V)}{A:ϳ}{E:ε->μ->Prop}
end
section
variable{X:Cx}{ϵ:List (δ×Obj)}{σ:St}{H:Hp}{s:μ}{a:δ}{y:V}{u:ε}{A:ϳ}{E:ε->μ->Prop}
end
end _L
namespace _A
open PySem PySem.W PySem.Calls PyProof.Rows
theorem YW{P:Params}{h:ϫ}:∀(ns:List Int)(vs:List ε),WellAll P h vs (ns.map WData.int)->IntsAre vs ns:=by
 intro ns;induction ns with
 |nil=>
  intro vs w;rw[apo]at w;cases w;show .nil
 |cons n ns c=>
  intro vs w;rw[ad4]at w;cases w with
  |cons a b=>
   cases a;show .cons _ _ (c _ b)
theorem aaz{l:OpenLaw}{n:Nat}(p:l.most=some n){P:Params}{h:ϫ}{args:List WData}{vals:List ε}(c:l.row.toRowW.claim.pre args=true)(j:WellAll P h vals args):∃a vs ns,vals=[Value.ref a]/\args=[WData.list (ns.map WData.int)]/\h.get? a=some {cls:=.type "list",data:=.seq vs.toArray}/\IntsAre vs ns/\ns.length<=n:=by
 let m:WShape.hasAll [] args [.list .int]=true:=(pre_splitW c).1;let o:l.pre.holds [] {args:=args}=true:=(pre_splitW c).2;let#[d,r,rfl,h1,h2]:=hasAllW_cons m;obtain rfl:=hasAllW_nil h2;let#[xs,rfl,s]:=hasW_list h1;let#[ns,rfl]:=items_int s;let e:ns.length<=n:=by
  unfold OpenLaw.pre at o;let g:(WTm.not (.lt (.lit (.int (n:Int))) (.len (.arg 0)))).holds [] {args:=[.list (ns.map .int)]}=true:=by
   let g:=(holds_andW o).1;rw[p]at g;show g
  let i:=condW_of g (w_not (w_lt w_lit (w_len_list (w_arg rfl))));rw[aav]at i;show aoT λq=>?_
  let u:(n:Int)<((ns.length:Nat):Int):=()
  first
   |(rw[decide_eq_true u]at i;show absurd i (by decide))
   |(simp at i;omega)
 cases j with
 |cons v x=>
  cases x;cases v with
  |list y f=>show#[_,_,ns,rfl,rfl,y,YW ns _ f,e]
theorem agV(l:OpenLaw)(args:List WData):l.row.toRowW.claim.post args (.bool true) args=true:=
 postW_of (r:=l.row.toRowW) (X:=(true==true))
  (show WShape.has [] (.bool true) .bool=true by first|rfl|decide|simp[WShape.has,WShape.arms,WShape.armsAll])
  (show(WTm.eq .res (.lit (.bool true))).value [] {args:=args,res:=some (.bool true),after:=args}=some (.bool (true==true))from w_eq_bool (w_res rfl) w_lit) rfl
theorem ajA{l:OpenLaw}{n:Nat}{q:Ϯ}{e:List Str}{z:(Str->Option ε)->ϫ->Prop}{B:Ϭ->ϫ->Prop}{d:DefRec}(F:l.most=some n)(u:d.params.defaults=[])(call:∀(w:Ϭ)(s₀ c:μ)(mg mb:Str->Option ε)(j:δ)(o:Obj)(pm cd g:ε)(a:δ)(vs:List ε)(ns:List Int),
   Ground q e [] z w s₀ mg mb c.heap->B w c.heap->
   c.heap.get? j=some o->o.data=.func (docDef d.name d.params d.body d.scope pm cd g)->c.heap.CodeRec cd d.name->mg d.name=some (.ref j)->
   c.heap.get? a=some {cls:=.type "list",data:=.seq vs.toArray}->IntsAre vs ns->ns.length<=n->c.gens= #v[]->
   codeAny (Ϧ l.prog w) callerA (.call (.ref j) #[[.ref a],[]]) (λr s'=>r=.ok (.ret (.bool true))/\OldK c.heap s'.heap/\s'.os=c.os/\AllBare s'.gens) c):WalkO q e z B l.row.toRowW d [] (λf vs=>PySem.call f vs):=by
 intro w s₀ c mg mb G Y j o pm cd g dV kV H hd v C x I D vals as m E J y L;obtain rfl:dV=.none:=Dflts.none C u;obtain rfl:kV=.none:=Dflts.noKw C;let#[a,vs,ns,rfl,rfl,p,i,s]:=aaz F m y;show enter_call (akq (call w s₀ c mg mb j o pm cd g a vs ns G Y H (fd_plain hd) v x p i s I) λr s' M=>?_);let#[rfl,h2,O,P]:=M;show#[.inl #[.bool true,.bool true,[],rfl,λ_=>rfl,.bool true,agV l _,λ_=>#[List.Pairwise.nil,λ_ Q=>(nomatch Q)]],h2,O,P]
section
variable{prog:Ϯ}{w:Ϭ}{A:ϳ}{E:ε->μ->Prop}{s:μ}{K:Frag}
end
end _A
namespace _L
open PySem PySem.Spec PyProof.Rows
theorem Hz:∀{vs:List ε}{ns:List Int},IntsAre vs ns->Vals (ns.map V.int) vs
 |_,_,.nil=>.nil
 |_,_,.cons n t h=>.cons #[t,rfl] (Hz h)
abbrev W0{K:ϩ}{h:ϫ}(_:K.In h):ϩ:=K
def inClass(s:ϧ)(j:Nat):ϧ:=match s with
 |.ClassDef _ _ _ body _ _ _ _ _ _ _=>body.getD j (.Pass #[0,0,0,0])
 |_=>.Pass #[0,0,0,0]
def jP(s:ϧ):Arguments:=match s with
 |.FunctionDef _ a _ _ _ _ _ _ _ _=>a
 |_=>{posonlyargs:=[],args:=[],vararg:=none,kwonlyargs:=[],kw_defaults:=[],kwarg:=none,defaults:=[]}
def aB(s:ϧ):List ϧ:=match s with
 |.FunctionDef _ _ b _ _ _ _ _ _ _=>b
 |_=>[]
def ω(s:ϧ):ahU:=match s with
 |.FunctionDef _ _ _ _ _ _ sc _ _ _=>sc
 |_=>{kind:=.function,names:=[],isGenerator:=false,isCoroutine:=false}
structure cH(K:ϩ)(x qual:Str)(st:ϧ)(f:δ)(fd:ah2):Prop where
 ex:∃(oc:ε)(od:Option δ)(kV doc pm:ε)(an:Option δ)(Ϻ ct:ε)(osl:Array (Option ε)),
  fd=aoE x qual (jP st) (aB st) (ω st) .none kV doc pm an Ϻ ct/\K.lookup f=some #[oc,od,.func fd,osl]/\anW K Ϻ qual=true
 kp:amY K (.ref f)=true
section
variable{P:Ϯ}{w:Ϭ}{K:ϩ}{mg:Str->Option ε}{base:ϫ}
theorem cH.binds{x qual:Str}{st:ϧ}{f:δ}{fd:ah2}{ps:List Str}(F:cH K x qual st f fd)(h:∀(kV a pm:ε)(an:Option δ)(c ct:ε)(us:List ε),us.length=ps.length->bindArgs (aoE x qual (jP st) (aB st) (ω st) .none kV a pm an c ct) #[us,[]]=pure (ps.zip us)):Binds K fd ps []:=by
 let#[oc,od,kV,a,pm,an,c,ct,e,rfl,lk,g]:=F.ex;show .all (h kV a pm an c ct)
theorem qC{x qual:Str}{st:ϧ}{f:δ}{oc:ε}{od an:Option δ}{e:Array (Option ε)}{kV a pm g ct:ε}(l:K.lookup f=some #[oc,od,.func (aoE x qual (jP st) (aB st) (ω st) .none kV a pm an g ct),e])(c:anW K g qual=true)(k:amY K (.ref f)=true):cH K x qual st f (aoE x qual (jP st) (aB st) (ω st) .none kV a pm an g ct):=#[#[oc,od,kV,a,pm,an,g,ct,e,rfl,l,c],k]
end
section
variable{X:Cx}
end
theorem Zj{A B:Prop}(h:B):if false=true then A else B:=by
 rw[if_neg aaN];show h
theorem aaA{A B:Prop}(h:A):if true=true then A else B:=by
 rw[if_pos rfl];show h
def ζ(H H':Hp):=∀b o,H b=some o->H' b=some o
theorem ζ.refl(H:Hp):ζ H H:=λ_ _ h=>h
theorem ζ.trans{H H1 H2:Hp}(a:ζ H H1)(b:ζ H1 H2):ζ H H2:=λc o h=>b c o (a c o h)
theorem ζ.free{H H':Hp}(e:ζ H H'){l:δ}(h:H' l=Option.none):H l=Option.none:=by
 cases q:H l with
 |none=>rfl
 |some o=>
  rw[e l o q]at h;cases h
theorem ζ.seq{K:ϩ}{H H':Hp}{a:δ}{xs:List V}(e:ζ H H')(h:η K H a xs):η K H' a xs:=by
 rcases h with(h|⟨o,h⟩)|h
 .show .inl (.inl (e _ _ h))
 .show .inl (.inr #[o,e _ _ h])
 .show .inr h
section
variable{X:Cx}
theorem ac5:iz X (.builtin "len") (λxs H Q=>∃a Ϸ,xs=[V.ref a]/\H a=some (.dK Ϸ)/\Q (.int Ϸ.length) H):=by
 intro ϵ s σ H xs us Q I r h;let#[a,Ϸ,rfl,c,q]:=h;let#[u,rfl,e]:=vals1 r;cases e;show agW I (.inl c) λt s' f=>#[.int Ϸ.length,H,f,#[t,rfl],q]
end
section
variable{κ:Type} [DecidableEq κ]
end
def oY(h:ϫ):Option ε->List δ->Prop
 |c,[]=>c=some .none
 |c,a::r=>c=some (.ref a)/\∃o vs,h.get? a=some o/\o.data=.fields vs/\oY h vs[2]? r
theorem oY.stay{h h':ϫ}{e:δ}(k:∀v o ws,v≠e->h.get? v=some o->o.data=.fields ws->∃o' f,h'.get? v=some o'/\o'.data=.fields f/\f[2]?=ws[2]?):∀{l:List δ}{c:Option ε},oY h c l->e∉l->oY h' c l
 |[],_,q,_=>q
 |a::r,c,⟨g,o,vs,i,j,m⟩,n=>by
  let#[o',f,k1,k2,k3]:=k a o vs (λz=>n (by simp[z])) i j;show#[g,o',f,k1,k2,?_];rw[k3];show oY.stay k m λz=>n (by simp[z])
def Ctx(h:ϫ)(e:δ)(b:Bool)(c:Option ε):Prop:=(b=true->c=some .none)/\∃l,oY h c l/\e∉l/\l.Nodup
theorem Ctx.yes{h:ϫ}{e:δ}{c:Option ε}(q:c=some .none):Ctx h e true c:=#[λ_=>q,[],q,by simp,.nil]
theorem Ctx.stay{h h':ϫ}{e:δ}{b:Bool}{c:Option ε}(q:Ctx h e b c)(k:∀v o ws,v≠e->h.get? v=some o->o.data=.fields ws->∃o' a,h'.get? v=some o'/\o'.data=.fields a/\a[2]?=ws[2]?):Ctx h' e b c:=by
 let#[g,l,i,f,j]:=q;show#[g,l,i.stay k f,f,j]
def bH(h:ϫ)(e:δ)(cls:ε)(d:Option δ×Bool)(tb:Option δ)(f:ε):Prop:=
 ∃a vs,h.get? e=some a/\a.cls=cls/\a.dict=d.1/\a.data=.fields vs/\vs[1]?=some (tb.elim Value.none Value.ref)/\2<vs.size/\Ctx h e d.2 vs[2]? /\
  ∀T,tb=some T->T≠e/\∃c ws,h.get? T=some c/\c.data=.fields ws/\ws[3]?=some f
theorem Ϣ.free{P:Ϯ}{w:Ϭ}{H:Hp}{h:ϫ}{a:δ}(x:Ϣ P w H h)(e:h.get? a=none):H a=none:=by
 cases q:H a with
 |none=>rfl
 |some u=>
  let#[c,z]:=(x a u q).there;rw[e]at z;cases z
def b7(P:Ϯ)(w:Ϭ):fO:=λouter H s E x s'=>∃e tb cls d H',x=.ref e/\s'.os=s.os/\AllBare s'.gens/\Un (cQ outer) [] H H' s.heap s'.heap/\Ϣ P w H' s'.heap/\bH s'.heap e cls d tb .none/\
 (∀b∈e::tb.toList,H' b=none/\s.heap.get? b=none)/\E cls d H'
theorem b7.never{P:Ϯ}{w:Ϭ}{outer:List Env}{H:Hp}{s s':μ}{e:ε}(h:b7 P w outer H s (λ_ _ _=>False) e s'):False:=by
 let#[_,_,_,_,_,_,_,_,_,_,_,_,z]:=h;show z
section
variable{M:Model}{A:ϳ}{E:ε->μ->Prop}{s:μ}
theorem Od{base:ϫ}{env:Env}{outer:List Env}{L e:δ}{oe:Obj}{vs:Array ε}{head:ε}{c:Bool}{Q:Unit->μ->Prop}(i:A.frames=some (env::outer))(p:s.heap.FunFrames base (env::outer))(z:env.frame=some L)(u:s.heap.get? e=some oe)(hd:oe.data=.fields vs)(hsz:1<vs.size)(k:∀(h':ϫ)(T:δ)(v:Obj)(ws:Array ε),s.heap.objs.size<=h'.objs.size->(∀b o,s.heap.get? b=some o->b≠e->b∉cQ (env::outer)->h'.get? b=some o)->
   (∀b o,s.heap.get? b=some o->b≠e->∃sl,h'.get? b=some {o with slots:=sl})->s.heap.objs.size<=T->h'.get? e=some (oe.mapFields (·.setIfInBounds 1 (.ref T)))->
   h'.get? T=some v->v.data=.fields ws->ws[3]?=some (rawInt L)->Q PUnit.unit {s with heap:=h'}):ν M A (do
   let a<-frameOf env;let pl<-entryPlaceOf L c;let b<-EntryCells.newEntry head a .none (rawInt L) .none pl
   setField (.ref e) 1 b) Q E s:=by
 let B:e∉(env::outer).filterMap (·.frame):=λm=>by
  let#[_,o,x,C]:=p.mem m;rw[u]at x;cases x;show C vs hd
 show π (wpAny_frameOf_fun i p z λh1 g=>π (wpAny_entryPlaceOf λpl y=>?_));unfold EntryCells.newEntry newFields;show π (aiL ?_ (y.sizeOk5 _ _ _ _ _));let e1:h1.get? e=some oe:=(g.2.1 e B).trans u;let j:e≠h1.objs.size:=adv (abL e1);show wpAny_setField (ϴ _ e1) hd hsz (k _ h1.objs.size {cls:=.type "traceback",dict:=none,data:=.fields (([head,.ref L,.none,rawInt L,.none]:List ε)++(if pl.isEmpty then alB 6 Value.none else pl)).toArray} (([head,.ref L,.none,rawInt L,.none]:List ε)++(if pl.isEmpty then alB 6 Value.none else pl)).toArray ?_ (λb o l f n=>?_) (λb o l f=>?_) (al5 g.1.symm) ?_ ?_ ?_ ?_)
 .rw[aoa,aiO,g.1];show ank _
 .rw[ac2 _ _ (Ne.symm f)];show ϴ _ ((g.2.1 b n).trans l)
 .let#[sl,q]:=g.2.2 b o l;show#[sl,by rw[ac2 _ _ (Ne.symm f)];show ϴ _ q]
 .show agk _ (ϴ _ e1) (Obj.isFreed_of_fields (Obj.data_mapFields hd _))
 .rw[ac2 _ _ j];show abb h1 rfl
 .show rfl
 .first
   |(simp;done)
   |(obtain rfl|⟨_,_,_,_,_,_,_,rfl⟩:=y<;>simp)
structure tM(h h':ϫ)(ch fs:List δ):Prop where
 keep:∀b o,h.get? b=some o->b∉fs->b∉ch->h'.get? b=some o
 slot:∀b o,h.get? b=some o->b∉ch->∃sl,h'.get? b=some {o with slots:=sl}
 there:∀b o,h.get? b=some o->∃o',h'.get? b=some o'
theorem Wf{base:ϫ}{env:Env}{outer:List Env}{L e:δ}{cls:ε}{d:Option δ×Bool}{tb:Option δ}{fl:ε}{Q:Unit->μ->Prop}(p:A.frames=some (env::outer))(hl:s.heap.FunFrames base (env::outer))(I:env.frame=some L)(F:bH s.heap e cls d tb fl)(J:(fl==rawInt L)=false)(k:∀(h':ϫ)(T:δ),tM s.heap h' (e::tb.toList) (cQ (env::outer))->s.heap.objs.size<=T->bH h' e cls d (some T) (rawInt L)->Q PUnit.unit {s with heap:=h'}):ν M A (noteFrame (.ref e) env) Q E s:=by
 let#[O,vs,m,hc,P,hd,h1,hz,h2,ht]:=F
 let fin:∀{R:ϫ}{h':ϫ}{T:δ}{n:Obj}{ws:Array ε},(∀v o ws,v≠e->s.heap.get? v=some o->o.data=.fields ws->∃o' u,h'.get? v=some o'/\o'.data=.fields u/\u[2]?=ws[2]?)->R.get? e=some O->R.objs.size<=T->h'.get? e=some (O.mapFields (·.setIfInBounds 1 (.ref T)))->h'.get? T=some n->n.data=.fields ws->
   ws[3]?=some (rawInt L)->bH h' e cls d (some T) (rawInt L):=λ{R h' T n ws} kk e0 hT a g f q4=>by
  let S:=Obj.data_mapFields hd (·.setIfInBounds 1 (Value.ref T));show#[_,_,a,(Obj.cls_mapFields _ _).trans hc,?_,S,?_,by simpa using hz,?_,λT' eT=>?_]
  .let#[c0,d0,dt,sl]:=O;cases hd;show P
  .have :1<vs.size:=()
   simp[this]
  .rw[aiu (by decide)];show h2.stay kk
  .cases eT;show#[λz=>aiE _ (abM (abL e0) (z▸hT)),n,ws,g,f,q4]
 unfold noteFrame;simp only[I];cases tb with
 |none=>
  let l:vs[1]?=some Value.none:=h1;show π (ahQ m hd l ?_);rw[if_neg (by decide)];show Od p hl I m hd () λh' T n ws a1 U j x y W X Y=>k h' T #[λb o a g f=>U b o a (λz=>f (by simp[z])) g,λb o a f=>j b o a λz=>f (by simp[z]),λb o a=>?_] x (fin (λv o ws G a g=>by let#[sl,q]:=j v o a G;show#[_,ws,q,g,rfl]) m x y W X Y)
  by_cases z:b=e
  .subst z;show#[_,y]
  .let#[sl,q]:=j b o a z;show#[_,q]
 |some i=>
  let#[Ϲ,oT0,Y5,B,H,t3]:=ht i rfl;let l:vs[1]?=some (Value.ref i):=h1;show π (ahQ m hd l ?_);rw[if_pos (show(Value.ref i !=Value.none)=true from by simp)];show π (ahQ B H t3 ?_);rw[if_neg (by rw[J];show aaN)];show π (wpAny_setField B H (aj5.mp t3).1 ?_);let c:∀b,b≠i->(s.heap.update i (Obj.mapFields (·.setIfInBounds 3 Value.none))).get? b=s.heap.get? b:=λb C=>ac2 _ _ (Ne.symm C)
  let RQ:=agk (Obj.mapFields (·.setIfInBounds 3 Value.none)) B (Obj.isFreed_of_fields (Obj.data_mapFields H _));let hsz:(s.heap.update i (Obj.mapFields (·.setIfInBounds 3 Value.none))).objs.size=s.heap.objs.size:=aoa ..;let Z:(s.heap.update i (Obj.mapFields (·.setIfInBounds 3 Value.none))).FunFrames base (env::outer):=hl.of_keeps λb o C nf=>#[o,(c b λz=>by
   subst z;rw[B]at C;cases C;show nf Y5 H).trans C,rfl]
  show Od (s:={s with heap:=s.heap.update i (Obj.mapFields (·.setIfInBounds 3 Value.none))}) p Z I ((c e (Ne.symm Ϲ)).trans m) hd () λh' T n ws a1 U j x y W X Y=>
   k h' T #[λb o a g f=>U b o ((c b λz=>f (by simp[z])).trans a) (λz=>f (by simp[z])) g,λb o a f=>j b o ((c b λz=>f (by simp[z])).trans a) λz=>f (by simp[z]),λb o a=>?_] (hsz▸x) (fin (λv o ws G a g=>by
     by_cases D:v=i
     .subst D;let#[sl,q]:=j v _ RQ G;rw[B]at a;cases a;show#[_,_,q,Obj.data_mapFields g _,by rw[aiu (by decide)]]
     .let#[sl,q]:=j v o ((c v D).trans a) G;show#[_,ws,q,g,rfl]) ((c e (Ne.symm Ϲ)).trans m) x y W X Y)
  by_cases z:b=e
  .subst z;show#[_,y]
  .by_cases D:b=i
   .subst D;let#[sl,q]:=j b _ RQ z;show#[_,q]
   .let#[sl,q]:=j b o ((c b D).trans a) z;show#[_,q]
theorem aer{base:ϫ}{env:Env}{outer:List Env}{L e:δ}{cls:ε}{d:Option δ×Bool}{tb:Option δ}{Q:Unit->μ->Prop}(a:A.frames=some (env::outer))(c:s.heap.FunFrames base (env::outer))(f:env.frame=some L)(F:bH s.heap e cls d tb .none)(k:∀(h':ϫ)(T:δ),tM s.heap h' (e::tb.toList) (cQ (env::outer))->s.heap.objs.size<=T->bH h' e cls d (some T) (rawInt L)->Q PUnit.unit {s with heap:=h'}):ν M A (noteFrame (.ref e) env) Q E s:=
 Wf a c f F (by simp[rawInt]) k
theorem agc{env:Env}{L e:δ}{cls:ε}{d:Option δ×Bool}{tb:Option δ}{Q:Unit->μ->Prop}(a:env.frame=some L)(F:bH s.heap e cls d tb (rawInt L))(c:tb.isSome=true)(k:Q PUnit.unit s):ν M A (noteFrame (.ref e) env) Q E s:=by
 let#[n,vs,f,o,g,hd,h1,p,h2,i]:=F;cases tb with
 |none=>cases c
 |some T=>
  let#[_,q,ws,j,l,m]:=i T rfl;show wpAny_noteFrame_inFlight a f hd h1 j l m k
theorem adV{e T:δ}{cls:ε}{d:Option δ×Bool}{p:ε}{Q:Unit->μ->Prop}(F:bH s.heap e cls d (some T) p)(k:∀h',tM s.heap h' [T] []->bH h' e cls d (some T) .none->Q PUnit.unit {s with heap:=h'}):ν M A (setFlight (.ref e) none) Q E s:=by
 let#[u,vs,i,x,f,hd,h1,y,h2,B]:=F;let#[j,G,ws,a,c,C]:=B T rfl;let l:3<ws.size:=(aj5.mp C).1;show wpAny_setFlight_none i hd h1 a c l (k _ #[λb o q _ n=>?_,λb o q n=>#[o.slots,?_],λb o q=>?_] ?_)
 .rw[ac2 _ _ (λz=>n (by simp[z]))];show q
 .rw[ac2 _ _ (λz=>n (by simp[z]))];show q
 .by_cases z:b=T
  .subst z;show#[_,agk _ a (Obj.isFreed_of_fields (Obj.data_mapFields c _))]
  .show#[o,by rw[ac2 _ _ (Ne.symm z)];show q]
 .show#[u,vs,?_,x,f,hd,h1,y,h2.stay λv o ws H g m=>?_,λI D=>?_]
  .rw[ac2 _ _ j];show i
  .by_cases z:v=T
   .subst z;rw[a]at g;cases g;show#[_,_,agk _ a (Obj.isFreed_of_fields (Obj.data_mapFields c _)),Obj.data_mapFields m _,by rw[aiu (by decide)]]
   .show#[o,ws,by rw[ac2 _ _ (Ne.symm z)];show g,m,rfl]
  .cases D;show#[j,_,_,agk _ a (Obj.isFreed_of_fields (Obj.data_mapFields c _)),Obj.data_mapFields c _,by simp[l]]
end
section
variable{X:Cx}{ϵ:List (δ×Obj)}{σ:St}{H H':Hp}{s s':μ}
def Ch(X:Cx)(ϵ:List (δ×Obj))(b:δ):Prop:=(b∈X.ex\/X.s₀.heap.get? b=none)/\b≠X.env.locals/\(∀x c,X.env.cells.lookup x=some c->c≠b)/\∀p∈X.pn++ϵ,p.1≠b
theorem Inv.ch(I:Inv X ϵ σ H s){b:δ}(h:s.heap.get? b=none):Ch X ϵ b:=by
 show#[?_,λz=>?_,λx c q z=>?_,λp g z=>?_]
 .by_cases e:b∈X.ex
  .show .inl e
  .show .inr ?_;cases q:X.s₀.heap.get? b with
   |none=>rfl
   |some o=>
    let#[o',f]:=I.base.there b o q e;rw[h]at f;cases f
 .let#[_,#[o,_,_,a,_],_]:=I.loc;rw[<-z,h]at a;cases a
 .let#[_,o,a,_]:=I.cell x c q;rw[z,h]at a;cases a
 .have :=(I.pin p g).1;rw[z,h]at this;cases this
theorem Inv.noted{ch:List δ}{h':ϫ}(I:Inv X ϵ σ H s)(N:tM s.heap h' ch (cQ X.stack))(i:∀b∈ch,H b=none/\Ch X ϵ b):Inv X ϵ σ H {s with heap:=h'}:=by
 let jx:∀b u,H b=some u->b∉cQ X.stack/\b∉ch:=λb u e=>#[(λz=>by rw[I.stkFree b z]at e;cases e),(λz=>by rw[(i b z).1]at e;cases e)]
 show I.call (g':=s.gens) (d':=s.drawn) (t':=s.toks) (ch:=ch) (h':=h') #[λb o e _ a f=>N.keep b o e a f,λb o e _ _ f=>N.slot b o e f,λ_ _ _ n _=>n,λb o e _=>N.there b o e,λ_ _ e=>e,λ_ _ _ e=>e,λb ps e=>#[#v[],by rw[e];simp]] ?_ I.bare λb a=>(i b a).2
 intro b u e;show(I.hok b u e).stay (λc v g q=>?_) (λ_ q=>q) λ_ _ q=>q
 obtain z|z:=g
 .subst z;show N.keep c v q (jx c u e).1 (jx c u e).2
 .show N.keep c v q (jx c _ z).1 (jx c _ z).2
def ug(X:Cx)(ϵ:List (δ×Obj))(σ:St)(H:Hp)(s:μ)(e:δ)(cls:ε)(d:Option δ×Bool):Prop:=
 Inv X ϵ σ H s/\∃tb a,bH s.heap e cls d tb a/\(a=.none\/(a=rawInt X.env.locals/\tb.isSome=true))/\∀b∈e::tb.toList,H b=none/\Ch X ϵ b
def b8(X:Cx)(Kx:St->XK):=∀(ϵ:List (δ×Obj))(σ:St)(H:Hp)(s:μ)(e:δ)(cls:ε)(d:Option δ×Bool),ug X ϵ σ H s e cls d->Kx σ cls d H->X.xe (.ref e) s
theorem Inv.flown{E:XK}{x:ε}(I:Inv X ϵ σ H s)(c:b7 X.prog X.w X.stack H s E x s'):∃e cls d H',x=.ref e/\ug X ϵ σ H' s' e cls d/\E cls d H':=by
 let#[e,tb,cls,d,H',rfl,os,bare,un,hok,F,ch,q]:=c;let f:Inv X ϵ σ H' s':=I.call' (ch:=[]) os un hok bare λb z=>absurd z (by simp)
 show#[e,cls,d,H',rfl,#[f,tb,.none,F,.inl rfl,λb a=>#[(ch b a).1,I.ch (ch b a).2]],q]
theorem V4(h:X.xe=λ_ _=>False):b8 X (λ_ _ _ _=>False):=λ_ _ _ _ _ _ _ _ z=>z.elim
theorem ug.note{M:Model}{E:ε->μ->Prop}{e:δ}{cls:ε}{d:Option δ×Bool}{Q:Unit->μ->Prop}(x:ug X ϵ σ H s e cls d)(a:X.stack=X.env::X.outer)(f:X.env.frame=some X.env.locals)(k:∀s' T,Inv X ϵ σ H s'->bH s'.heap e cls d (some T) (rawInt X.env.locals)->(∀b∈[e,T],H b=none/\Ch X ϵ b)->Q PUnit.unit s'):ν M X.A (noteFrame (.ref e) X.env) Q E s:=by
 let#[I,tb,n,F,c,ch]:=x;obtain z|⟨z,j⟩:=c
 .subst z;let g:=I.stack;rw[a]at g;show aer (base:=X.base) (I.ok.frames.trans (by rw[a])) g f F λh' T N i l=>k _ T (I.noted (by rw[a];show N) ch) l λb m=>?_
  obtain z|z:=ϲ.mp m
  .subst z;show ch _ aex
  .let z':b=T:=by simpa using z
   subst z';show#[I.hok.fresh i,I.ch (amP i)]
 .subst z;cases tb with
  |none=>cases j
  |some T=>show agc f F rfl (k s T I F ch)
theorem Inv.off{M:Model}{E:ε->μ->Prop}{e T:δ}{cls:ε}{d:Option δ×Bool}{a:ε}{Q:Unit->μ->Prop}(I:Inv X ϵ σ H s)(F:bH s.heap e cls d (some T) a)(c:∀b∈[e,T],H b=none/\Ch X ϵ b)(k:∀s',Inv X ϵ σ H s'->bH s'.heap e cls d (some T) .none->Q PUnit.unit s'){A:ϳ}:ν M A (setFlight (.ref e) none) Q E s:=by
 show adV F λh' N f=>k _ (I.noted (ch:=[T]) #[λb o q _ n=>N.keep b o q (by simp) n,N.slot,N.there] λb g=>?_) f
 let z:b=T:=by simpa using g
 subst z;show c b (by simp)
end
theorem ϋ{cc:Bool}{P:Ϯ}{w:Ϭ}{K:ϩ}{mg:Str->Option ε}{base:ϫ}{N:List Str}{qual:Str}{scope:ahU}{f:δ}{cd:ε}{A:ϳ}{outer:List Env}{s₀:μ}{H₀:Hp}{E:XK}:b8 (kO cc (b7 P w) P w K mg base N qual scope f cd A outer s₀ H₀ E) (λ_=>E):=by
 intro ϵ σ H s e cls d x q;show ν _ _ (leaving _ _) _ _ s;unfold leaving;show π (x.note rfl rfl λl T c g c1=>?_);show c.off g c1 λm a i=>?_
 show#[e,some T,cls,d,H,rfl,a.os,a.bare,a.base,a.hok,i,λb j=>?_,q];let z:=c1 b (by simpa using j);show#[z.1,?_];obtain y|y:=z.2.1
 .show absurd (show b∈([]:List δ)from y) (by simp)
 .show y
theorem adF{cc:Bool}{P:Ϯ}{w:Ϭ}{K:ϩ}{mg:Str->Option ε}{base:ϫ}{N:List Str}{qual:Str}{scope:ahU}{f:δ}{cd:ε}{A:ϳ}{outer:List Env}{s₀:μ}{H₀:Hp}{E:XK}:akX (Ϧ P w) (A.deeper (envOfC qual scope s₀.heap.objs.size f cd)) (envOfC qual scope s₀.heap.objs.size f cd) (kO cc (b7 P w) P w K mg base N qual scope f cd A outer s₀ H₀ E).xe:=PassesOwn.leaving
section
variable{X:Cx}{Kx:St->XK}{cc:Bool}{k k':Nat}{f C:δ}{fd:ah2}{ps:List Str}{sp:Sp}{x m:Str}{p pos apos:Pos}{e o:Ϩ}{es:List Ϩ}{σ:St}{H:Hp}{Q:VK}
theorem qi{ϵ:List (δ×Obj)}{s:μ}{us:List ε}{vs:List V}(F:cT X.prog X.w X.K X.mg X.base (b7 X.prog X.w) cc k f fd ps sp)(i:ϖ cc k X.A)(j:Binds X.K fd ps [])(l:b8 X Kx)(I:Inv X ϵ σ H s)(r:Vals vs us)(h:sp vs H Q (Kx σ)):ν (Ϧ X.prog X.w) X.A (call (.ref f) us) (EP X ϵ σ Q) X.xe s:=by
 let m:us.length=ps.length:=by rw[<-r.length];show F.len _ _ _ _ h
 let c:=j s us I.kIn (by simpa using m);rw[am9]at c;show wpAny_call (akq (F.run X.A X.stack s H #[us,[]] us vs Q (Kx σ) i I.env0 c r h) λr s' g=>?_);cases r with
 |error e=>
  let#[a,cls,d,H',rfl,n,q]:=I.flown g;show l ϵ σ H' s' a cls d n q
 |ok o=>
  cases o with
  |ret u=>show I.after g
  |next=>show False.elim g
  |brk=>show False.elim g
  |cont=>show False.elim g
end
def EV(X:Cx)(e:Ϩ)(σ:St)(H:Hp)(Q:VK):Prop:=
 ∀(ϵ:List (δ×Obj))(s:μ),Inv X ϵ σ H s->ν (Ϧ X.prog X.w) X.A (eval e X.env) (EP X ϵ σ Q) X.xe s
def ET(X:Cx)(e:Ϩ)(σ:St)(H:Hp)(Q:Bool->Hp->Prop):Prop:=
 ∀(ϵ:List (δ×Obj))(s:μ),Inv X ϵ σ H s->ν (Ϧ X.prog X.w) X.A (isTrue e X.env (eval e X.env)) (TP X ϵ σ Q) X.xe s
def EW(X:Cx)(e:Ϩ)(σ:St)(H:Hp)(Q:Bool->Hp->Prop):Prop:=
 ∀(a:Sem ε)(ϵ:List (δ×Obj))(s:μ),Inv X ϵ σ H s->ν (Ϧ X.prog X.w) X.A (isTrue e X.env a) (TP X ϵ σ Q) X.xe s
def EA(X:Cx)(es:List Ϩ)(σ:St)(H:Hp)(Q:List V->Hp->Prop):Prop:=
 ∀(pos:Pos)(ϵ:List (δ×Obj))(s:μ),Inv X ϵ σ H s->ν (Ϧ X.prog X.w) X.A (spliced (backTo pos (abo es X.env))) (AP X ϵ σ Q) X.xe s
def EO(X:Cx)(e:Option Ϩ)(σ:St)(H:Hp)(Q:Option Int->Hp->Prop):=∃t,PO X e t/\t σ H Q
def SX(X:Cx)(st:ϧ)(D:Ends)(σ:St)(H:Hp):Prop:=
 ∀(ϵ:List (δ×Obj))(s:μ),Inv X ϵ σ H s->ν (Ϧ X.prog X.w) X.A (exec st X.env) (SP X ϵ D) X.xe s
def Ο(X:Cx)(st:List ϧ)(D:Ends)(σ:St)(H:Hp):Prop:=
 ∀(ϵ:List (δ×Obj))(s:μ),Inv X ϵ σ H s->ν (Ϧ X.prog X.w) X.A (execs st X.env) (SP X ϵ D) X.xe s
def EG(X:Cx)(tg:Ϩ)(v:V)(σ:St)(H:Hp)(Q:St->Hp->Prop):Prop:=
 ∀(ϵ:List (δ×Obj))(s:μ)(u:ε),Inv X ϵ σ H s->RelV v u->ν (Ϧ X.prog X.w) X.A (assign tg X.env u) (λ_ s'=>∃σ' H',Inv X ϵ σ' H' s'/\Q σ' H') X.xe s
def sE(X:Cx)(a:List Ϩ)(vs:List V)(σ:St)(H:Hp)(Q:St->Hp->Prop):Prop:=
 ∀(ϵ:List (δ×Obj))(s:μ)(us:List ε),Inv X ϵ σ H s->Vals vs us->ν (Ϧ X.prog X.w) X.A (assignInOrder ((assignEach a X.env).map (·.2)) us) (λ_ s'=>∃σ' H',Inv X ϵ σ' H' s'/\Q σ' H') X.xe s
def EI(X:Cx)(tg iter:Ϩ)(σ:St)(H:Hp)(R:It->Hp->Prop):Prop:=
 ∀(ϵ:List (δ×Obj))(s:μ),Inv X ϵ σ H s->
  ν (Ϧ X.prog X.w) X.A (eval iter X.env) (λv a=>ν (Ϧ X.prog X.w) X.A (pyIter v) (vy X ϵ σ tg R) X.xe a) X.xe s
def OP(X:Cx)(f:ε->ε->Sem ε)(x y:V)(H:Hp)(Q:VK):=∃r,aP X f r/\r x y H Q
def UN(X:Cx)(f:ε->Sem ε)(x:V)(H:Hp)(Q:VK):=∃r,yg X f r/\r x H Q
def CL(X:Cx)(f:ε)(xs:List V)(H:Hp)(Q:VK):=∃r,iz X f r/\r xs H Q
def IX(X:Cx)(x y:V)(H:Hp)(Q:VK):=∃r,qb X r/\r x y H Q
def SL(X:Cx)(x:V)(lo hi:Option Int)(H:Hp)(Q:VK):=∃r,rF X r/\r x lo hi H Q
def MT(X:Cx)(id:String)(x:V)(xs:List V)(H:Hp)(Q:VK):=∃r,GR X id r/\r x xs H Q
section
variable{X:Cx}{a b c e:Ϩ}{es:List Ϩ}{σ:St}{H:Hp}{Q:VK}{QT:Bool->Hp->Prop}{QA:List V->Hp->Prop}{D:Ends}{pos p apos:Pos}{x:Str}{v:V}
theorem iu:PE X e (EV X e):=λϵ s _ _ _ I h=>h ϵ s I
theorem Zb:PT X e (ET X e):=λϵ s _ _ _ I h=>h ϵ s I
theorem aeA:PW X e (EW X e):=λa ϵ s _ _ _ I h=>h a ϵ s I
theorem UL{o:Option Ϩ}:PO X o (EO X o):=λϵ s σ H Q I ⟨_,h,q⟩=>h ϵ s σ H Q I q
theorem FJ{st:List ϧ}:Bq X st (Ο X st):=λϵ s _ _ _ I h=>h ϵ s I
theorem lu{f:ε->ε->Sem ε}:aP X f (OP X f):=λϵ s σ H x y v u Q I rx ry ⟨_,h,q⟩=>h ϵ s σ H x y v u Q I rx ry q
theorem abu{f:ε->Sem ε}:yg X f (UN X f):=λϵ s σ H x v Q I rx ⟨_,h,q⟩=>h ϵ s σ H x v Q I rx q
theorem QC{f:ε}:iz X f (CL X f):=λϵ s σ H xs us Q I rx ⟨_,h,q⟩=>h ϵ s σ H xs us Q I rx q
theorem Yl:qb X (IX X):=λa sl ϵ s σ H x y v u Q I rx ry ⟨_,h,q⟩ hs=>h a sl ϵ s σ H x y v u Q I rx ry q hs
theorem aeE:rF X (SL X):=λϵ s σ H x v a c lo hi sl Q I rx hs pl e ⟨_,h,q⟩=>h ϵ s σ H x v a c lo hi sl Q I rx hs pl e q
theorem aaQ{id:String}:GR X id (MT X id):=λϵ s σ H x xs v us Q I rx rs ⟨_,h,q⟩=>h ϵ s σ H x xs v us Q I rx rs q
theorem wD{t:TE}(h:PE X e t)(q:t σ H Q):EV X e σ H Q:=λϵ s I=>h ϵ s σ H Q I q
theorem ad9{t:TT}(h:PT X e t)(q:t σ H QT):ET X e σ H QT:=λϵ s I=>h ϵ s σ H QT I q
def fu:List Str->St->Str->Option V
 |n::N,o::σ,x=>if n=x then o else fu N σ x
 |_,_,_=>none
theorem FQ:∀{N:List Str}{σ:St}{x:Str}{v:V},fu N σ x=some v->∃i:Nat,N[i]?=some x/\σ[i]?=some (some v)
 |n::N,o::σ,x,v,h=>by
  unfold fu at h;split at h
  .rename_i e;show#[0,by simp[e],by simp[h]]
  .let#[i,h1,h2]:=FQ h;show#[i+1,by simpa using h1,by simpa using h2]
 |[],_,_,_,h=>by simp[fu]at h
 |_::_,[],_,_,h=>by simp[fu]at h
def nameAt:List Str->Str->Option Nat
 |n::N,x=>if n=x then some 0 else(nameAt N x).map (· +1)
 |[],_=>none
theorem jM:∀{N:List Str}{x:Str}{i:Nat},nameAt N x=some i->N[i]?=some x
 |n::N,x,i,h=>by
  unfold nameAt at h;split at h
  .rename_i e;cases h;simp[e]
  .cases q:nameAt N x with
   |none=>rw[q]at h;cases h
   |some j=>
    rw[q]at h;cases h;simpa using jM q
 |[],_,_,h=>by simp[nameAt]at h
theorem ajo(c:fu X.N σ x=some v)(e:pB X.env.scope x)(q:Q v H)(hd:(x==("__debug__":Str))=false)(a:(x==("__classdict__":Str))=false):EV X (.Name x pos) σ H Q:=by
 let#[i,h1,h2]:=FQ c;show wD (aaL h1 e hd a) #[v,h2,q]
def Gc(mg:Str->Option ε)(x:Str)(v:V):=∃u,mg x=some u/\RelV v u
theorem afW(g:Gc X.mg x v)(a:Gl X x)(q:Q v H)(hd:(x==("__debug__":Str))=false):EV X (.Name x pos) σ H Q:=by
 let#[u,h1,h2]:=g;show wD (Qq a h1 h2 hd) q
theorem aek{T:String}(a:Gl X x)(c:X.mg x=none)(e:bootBuiltins x=some (.type T))(q:Q (.ty T) H)(f:x≠"__name__")(hd:(x==("__debug__":Str))=false):EV X (.Name x pos) σ H Q:=λϵ s I=>jh I a c e #[(.ty T),H,I,rfl,q] f hd
theorem Ze{i:Int}{j}(q:Q (.int i) H):EV X (.Constant (.int i) j pos) σ H Q:=λϵ s I=>wpAny_Constant_int #[.int i,H,I.tok _,#[_,rfl],q]
theorem adT{i:Bool}{j}(q:Q (.bl i) H):EV X (.Constant (.bool i) j pos) σ H Q:=λϵ s I=>Constant_bool #[.bl i,H,I,rfl,q]
theorem ajw{j}(q:Q .non H):EV X (.Constant .none j pos) σ H Q:=λϵ s I=>Constant_none #[.non,H,I,rfl,q]
theorem Ox{i:Str}{j}(q:Q (.str i) H):EV X (.Constant (.str i) j pos) σ H Q:=λϵ s I=>Calls.Constant_str #[.str i,H,I.tok _,#[_,rfl],q]
theorem XM{op:Operator}(h:EV X a σ H λx H1=>EV X b σ H1 λy H2=>OP X (binaryOp op) x y H2 Q):EV X (.BinOp a op b pos) σ H Q:=by
 intro ϵ s I;show wpAny_BinOp (zR iu iu I h λv u c x y H2 e rx ry q=>lu ϵ c σ H2 x y v u Q e rx ry q)
theorem aim{op:UnaryOp}(h:EV X a σ H λx H1=>UN X (unaryOp op) x H1 Q):EV X (.UnaryOp op a pos) σ H Q:=by
 intro ϵ s I;show UnaryOp_ (χ (h ϵ s I) λv c ⟨x,H1,e,f,g⟩=>abu ϵ c σ H1 x v Q e f g)
theorem ajE{op:CmpOp}(c:behindInMarks op b=false)(h:EV X a σ H λx H1=>EV X b σ H1 λy H2=>OP X (ad7 op) x y H2 Q):EV X (.Compare a [op] [b] pos) σ H Q:=by
 intro ϵ s I;show wpAny_Compare1 (zR iu iu I h λv u e x y H2 f rx ry q=>lu ϵ e σ H2 x y v u Q f rx ry q) c
theorem adA{op:CmpOp}(g:behindInMarks op b=false)(h:EV X a σ H λx H1=>EV X b σ H1 λy H2=>OP X (ad7 op) x y H2 λz f=>∃k,z=.bl k/\QT k f):ET X (.Compare a [op] [b] pos) σ H QT:=by
 intro ϵ s I;show wpAny_isTrue_Compare1 (χ (h ϵ s I) λv i ⟨x,H1,j,l,m⟩=>χ (m ϵ i j) λu n ⟨y,H2,o,p,q⟩=>
  χ (lu ϵ n σ H2 x y v u _ o l p q) λc E ⟨z,f,B,C,k,e,D⟩=>?_) g
 subst e;cases C;show ahw #[f,B,D]
theorem Xx{op f:CmpOp}(o:lastMarks [op,f] [b,c]=false)(h:EV X a σ H λx H1=>EV X b σ H1 λy H2=>OP X (ad7 op) x y H2 λz g=>∃k,z=.bl k/\(if k=true then EV X c σ g λi j=>OP X (ad7 f) y i j Q else Q (.bl false) g)):EV X (.Compare a [op,f] [b,c] pos) σ H Q:=by
 intro ϵ s I;show Compare_chain (χ (h ϵ s I) λv p ⟨x,H1,q,B,C⟩=>chain_link (χ (C ϵ p q) λu D ⟨y,H2,E,l,F⟩=>
  χ (lu ϵ D σ H2 x y v u _ E B l F) λd G ⟨z,g,m,J,k,e,n⟩=>?_)) o
 subst e;cases J;show ahw ?_;cases k with
 |false=>show ite_ff #[.bl false,g,m,rfl,n]
 |true=>show ite_tt (chain_last (χ (n ϵ G m) λi L ⟨z',j,M,O,P⟩=>lu ϵ L σ j y z' u i Q M l O P))
theorem Xw{op f:CmpOp}(p:lastMarks [op,f] [b,c]=false)(h:EV X a σ H λx H1=>EV X b σ H1 λy H2=>OP X (ad7 op) x y H2 λz g=>∃k,z=.bl k/\(if k=true then EV X c σ g λi j=>OP X (ad7 f) y i j λz' l=>∃k',z'=.bl k'/\QT k' l else ∃k',V.bl false=.bl k'/\QT k' g)):ET X (.Compare a [op,f] [b,c] pos) σ H QT:=by
 intro ϵ s I;show isTrue_chain (χ (h ϵ s I) λv q ⟨x,H1,B,C,D⟩=>test_link (χ (D ϵ q B) λu E ⟨y,H2,F,m,G⟩=>
  χ (lu ϵ E σ H2 x y v u _ F C m G) λd J ⟨z,g,n,L,k,e,o⟩=>?_)) p
 subst e;cases L;show ahw ?_;cases k with
 |false=>
  let#[k',M,O]:=o;cases M;show ite_ff #[g,n,O]
 |true=>
  show ite_tt (test_last (χ (o ϵ J n) λi P ⟨z',j,Q,R,S⟩=>χ (lu ϵ P σ j y z' u i _ Q m R S) λd' s5 T=>?_));let#[z2,l,U,W,k2,Y,Z]:=T;subst Y;cases W;show ahw #[l,U,Z]
theorem M5(c:∀a,isTrue e X.env a=(do let v<-a;standAt e.pos;holding [v] (truthy v)))(h:EV X e σ H λx H'=>∃k,GJ X.K x H' k/\QT k H'):ET X e σ H QT:=by
 intro ϵ s I;show isTrue_plain (χ (h ϵ s I) λv f ⟨x,H1,g,i,j⟩=>abm ϵ f σ H1 x v QT g i j) (c _)
theorem ad2(h:ET X a σ H λk H1=>QT (!k) H1):ET X (.UnaryOp .Not a pos) σ H QT:=by
 intro ϵ s I;show isTrue_not (h ϵ s I)
theorem ym(h:EW X e σ H QT):ET X e σ H QT:=ad9 aeA.pt h
theorem abA{rest:List Ϩ}(h:ET X a σ H λk H1=>if k=true then EW X (.BoolOp .And (b::rest) pos) σ H1 QT else QT false H1):EW X (.BoolOp .And (a::b::rest) pos) σ H QT:=by
 intro g ϵ s I;show isTrue_and (χ (h ϵ s I) λc i j=>?_);let#[H1,e,f]:=j;cases c with
 |true=>show f g ϵ i e
 |false=>show#[H1,e,f]
theorem adG{rest:List Ϩ}(h:ET X a σ H λk H1=>if k=true then QT true H1 else EW X (.BoolOp .Or (b::rest) pos) σ H1 QT):EW X (.BoolOp .Or (a::b::rest) pos) σ H QT:=by
 intro g ϵ s I;show isTrue_or (χ (h ϵ s I) λc i j=>?_);let#[H1,e,f]:=j;cases c with
 |true=>show#[H1,e,f]
 |false=>show f g ϵ i e
theorem ahu(h:ET X a σ H QT):EW X (.BoolOp .And [a] pos) σ H QT:=by
 intro f ϵ s I;show isTrue_and (χ (h ϵ s I) λc g e=>?_);cases c with
 |true=>show isTrue_and_nil e
 |false=>show e
theorem acP(h:ET X a σ H QT):EW X (.BoolOp .Or [a] pos) σ H QT:=by
 intro f ϵ s I;show isTrue_or (χ (h ϵ s I) λc g e=>?_);cases c with
 |false=>show isTrue_or_nil e
 |true=>show e
theorem Q0{op}(h:EV X a σ H Q):EV X (.BoolOp op [a] pos) σ H Q:=λϵ s I=>BoolOp_one (h ϵ s I)
theorem ac8{rest:List Ϩ}(h:EV X a σ H λx H1=>∃k,x=.bl k/\if k=true then EV X (.BoolOp .And (b::rest) pos) σ H1 Q else Q (.bl false) H1):EV X (.BoolOp .And (a::b::rest) pos) σ H Q:=by
 intro ϵ s I;show BoolOp_and (χ (h ϵ s I) λv g i=>?_);let#[x,H1,f,j,e]:=i;let#[c,rfl,e]:=e;cases j;show ahw ?_;cases c with
 |true=>show e ϵ g f
 |false=>show#[.bl false,H1,f,rfl,e]
theorem aeQ{rest:List Ϩ}(h:EV X a σ H λx H1=>∃k,x=.bl k/\if k=true then Q (.bl true) H1 else EV X (.BoolOp .Or (b::rest) pos) σ H1 Q):EV X (.BoolOp .Or (a::b::rest) pos) σ H Q:=by
 intro ϵ s I;show BoolOp_or (χ (h ϵ s I) λv g i=>?_);let#[x,H1,f,j,e]:=i;let#[c,rfl,e]:=e;cases j;show ahw ?_;cases c with
 |false=>show e ϵ g f
 |true=>show#[.bl true,H1,f,rfl,e]
theorem aen(h:EV X a σ H λx H1=>∃k,x=.bl k/\Q (.bl (!k)) H1):EV X (.UnaryOp .Not a pos) σ H Q:=by
 intro ϵ s I;show UnaryOp_ (χ (h ϵ s I) λv j f=>?_);let#[x,H1,g,i,e]:=f;let#[c,rfl,e]:=e;cases i;show not_of (ahw #[.bl (!c),H1,g,rfl,e])
theorem ahk(h:ET X c σ H λk H1=>if k=true then EV X a σ H1 Q else EV X b σ H1 Q):EV X (.IfExp c a b pos) σ H Q:=by
 intro ϵ s I;show wpAny_IfExp (χ (h ϵ s I) λd e i=>?_);let#[H1,f,g]:=i;cases d with
 |true=>show g ϵ e f
 |false=>show g ϵ e f
theorem jT(q:QA [] H):EA X [] σ H QA:=λpos ϵ s I=>Calls.spliced_nil #[[],H,I,.nil,q]
theorem eF(hs:abo (e::es) X.env=(false,eval e X.env)::abo es X.env)(h:EV X e σ H λx H1=>EA X es σ H1 λxs H2=>QA (x::xs) H2):EA X (e::es) σ H QA:=by
 intro pos ϵ s I;rw[hs];show ν _ _ (spliced ((false,eval e X.env)::backTo pos (abo es X.env))) _ _ s;show Calls.spliced_cons (χ (h ϵ s I) λu a c=>?_);let#[x,H1,f,g,i]:=c;show χ (i pos ϵ a f) λus n ⟨xs,H2,j,l,m⟩=>#[x::xs,H2,j,.cons g l,m]
theorem Kd{x1}(h:EA X es σ H λxs H1=>xs.length<=ϰ/\∀p,H1 p=none->Q (.ref p) (upd H1 p (.tup xs))):EV X (.Tuple es x1 pos) σ H Q:=by
 intro ϵ s I;show wpAny_Tuple_spliced (χ (h pos ϵ s I) λus a ⟨xs,H1,c,r,z,q⟩=>#[by rw[<-r.length];show z,?_]);let f:H1 a.heap.objs.size=none:=c.hok.fresh (ϭ _);show#[.ref a.heap.objs.size,upd H1 a.heap.objs.size (.tup xs),c.laid (t':=a.toks) (λb u e=>ϴ _ e) (ϭ _) ?_,rfl,q _ f];show#[z,us,r,#[_,abb _ rfl,rfl,_,rfl]]
theorem abl(h:EA X es σ H λxs H1=>xs.length<=ϰ/\∀p,H1 p=none->Q (.ref p) (upd H1 p (.lst xs))):EV X (.List es pos) σ H Q:=by
 intro ϵ s I;show wpAny_List_spliced (χ (h pos ϵ s I) λus a ⟨xs,H1,c,r,z,q⟩=>#[by rw[<-r.length];show z,?_]);let f:H1 a.heap.objs.size=none:=c.hok.fresh (ϭ _);show#[.ref a.heap.objs.size,upd H1 a.heap.objs.size (.lst xs),c.laid (t':=a.toks) (λb u e=>ϴ _ e) (ϭ _) ?_,rfl,q _ f];show#[z,us,0,r,abb _ rfl]
theorem ajq{id:String}(f:Gl X x)(g:X.mg x=none)(i:bootBuiltins x=some (.builtin id))(j:x≠"__name__")(a:(x==("__debug__":Str))=false)(l:abo (e::es) X.env=(false,eval e X.env)::abo es X.env)(c:(backTo pos (abo es X.env)).any (·.1)=false)(h:EA X (e::es) σ H λvs H1=>CL X (.builtin id) vs H1 Q):EV X (.Call (.Name x p) (e::es) [] pos) σ H Q:=by
 intro ϵ s I;show ajK (jh I f g i ?_ j a);show PyProof.Rows.callWith_builtin1 (χ (h pos ϵ s I) λus m ⟨vs,H1,n,o,q⟩=>QC ϵ m σ H1 vs us Q n o q) l c
theorem agS{T:String}(f:Gl X x)(g:X.mg x=none)(i:bootBuiltins x=some (.type T))(j:x≠"__name__")(a:(x==("__debug__":Str))=false)(l:abo (e::es) X.env=(false,eval e X.env)::abo es X.env)(c:(backTo pos (abo es X.env)).any (·.1)=false)(h:EA X (e::es) σ H λvs H1=>CL X (.type T) vs H1 Q):EV X (.Call (.Name x p) (e::es) [] pos) σ H Q:=by
 intro ϵ s I;show ajK (jh I f g i ?_ j a);show PyProof.Rows.callWith_type1 (χ (h pos ϵ s I) λus m ⟨vs,H1,n,o,q⟩=>QC ϵ m σ H1 vs us Q n o q) l c
structure Def(P:Ϯ)(w:Ϭ)(K:ϩ)(mg:Str->Option ε)(base:ϫ)(cc:Bool)(k:Nat)(x:Str)(ps:List Str)(sp:Sp):Prop where
 ex:∃f fd,mg x=some (.ref f)/\amY K (.ref f)=true/\Binds K fd ps []/\cT P w K mg base (b7 P w) cc k f fd ps sp
theorem ϖ.sI{cc bU:Bool}{k:Nat}{A:ϳ}(r:ϖ cc k A)(h:bU=true->cc=true):ϖ bU k A:=#[λz=>r.hd (h z),r.dp,r.un]
theorem aau{Kx:St->XK}{cc bU:Bool}{k k':Nat}{ps:List Str}{sp:Sp}(F:Def X.prog X.w X.K X.mg X.base bU k x ps sp)(j:ϖ cc k' X.A)(l:k<=k')(a:bU=true->cc=true)(m:Gl X x)(n:b8 X Kx)(c:(x==("__debug__":Str))=false)(o:abo (e::es) X.env=(false,eval e X.env)::abo es X.env)(g:(backTo pos (abo es X.env)).any (·.1)=false)(h:EA X (e::es) σ H λvs H1=>sp vs H1 Q (Kx σ)):EV X (.Call (.Name x p) (e::es) [] pos) σ H Q:=by
 let#[f,fd,h1,h2,u,v]:=F.ex;intro ϵ s I;show ajK (pO I m h1 ?_ c);show aoj (h₀:=X.base) I.ok.mod.kin h2 (χ (h pos ϵ s I) λus y ⟨vs,H1,i,r,q⟩=>#[i.kIn,?_]) o g;show qi v ((j.mono l).sI a) u n i r q
theorem aaj(hs:acU b)(h:EV X a σ H λx H1=>EV X b σ H1 λy H2=>IX X x y H2 Q):EV X (.Subscript a b pos) σ H Q:=by
 intro ϵ s I;show Subscript_ (zR iu iu I h λv u c x y H2 e rx ry q=>Yl a b ϵ c σ H2 x y v u Q e rx ry q (hs _ _))
theorem ajn{QO:Option Int->Hp->Prop}(q:QO none H):EO X none σ H QO:=#[_,acz,q]
theorem ah5{QO:Option Int->Hp->Prop}(q:EV X e σ H λx H1=>∃i,x=.int i/\QO (some i) H1):EO X (some e) σ H QO:=#[_,acC iu,q]
theorem aa1{lo hi:Option Ϩ}{p2:Pos}(h:EV X a σ H λx H1=>EO X lo σ H1 λl H2=>EO X hi σ H2 λu e=>SL X x l u e Q):EV X (.Subscript a (.Slice lo hi none p2) pos) σ H Q:=by
 intro ϵ s I;show Subscript_ (χ (h ϵ s I) λv j i=>?_);let#[x,H1,m,n,o]:=i;show wpAny_Slice (χ (UL ϵ j σ H1 _ m o) λf p ⟨l,H2,y,pl,z⟩=>χ (UL ϵ p σ H2 _ y z) λg c i=>?_);let#[u,e,B,C,D]:=i;rw[evalPart_none];show ϯ ?_;let E:Inv X ϵ σ e {c with heap:=c.heap.push {cls:=.type "slice",data:=.fields #v[f,g,.none]}}:=B.kept (t':=c.toks) λb L q=>ϴ _ q
 let#[T,id,F,G,J]:=aeE ϵ {c with heap:=c.heap.push {cls:=.type "slice",data:=.fields #v[f,g,.none]}} σ e x v f g l u c.heap.objs.size Q E n (Heap.IsSliceOf.new ..) pl C D;show ν (Ϧ X.prog X.w) X.A (subscriptTail a (.Slice lo hi none p2) v (.ref c.heap.objs.size)) (EP X ϵ σ Q) X.xe {c with heap:=c.heap.push {cls:=.type "slice",data:=.fields #v[f,g,.none]}};show tail_any (ops:=[.ref c.heap.objs.size,v]) G F J (by with_unfolding_all rfl)
theorem dw{T id:String}{name:Str}(o:PlainAttrs T)(slot:Slot T name id)(j:typeOf (.builtin id)=pure (.type "method_descriptor"))(f:attributeBase a name X.env (eval a X.env)=eval a X.env:=by rfl)(i:((backTo pos (abo (e::es) X.env)).all (λx=> !x.1)&&(backToKw pos (keywordEach [] X.env)).all (λx=>x.1.isSome)
   &&decide ((e::es).length+([]:List Keyword).length+(if([]:List Keyword).isEmpty then 0 else 1)<30))=true:=by rfl)(g:(apos.endLine==pos.line)=true:=by rfl)(hs:abo (e::es) X.env=(false,eval e X.env)::abo es X.env:=by rfl)(c:(backTo pos (abo es X.env)).any (·.1)=false:=by rfl)(h:EV X a σ H λx H1=>sH X.K T x H1/\EA X (e::es) σ H1 λxs H2=>MT X id x xs H2 Q):EV X (.Call (.Attribute a name apos) (e::es) [] pos) σ H Q:=by
 intro ϵ s I;show wpAny_Call_method_late f i g rfl (χ (h ϵ s I) λv p q=>?_);let#[x,H1,l,m,ty,u]:=q;let#[h1,h2]:=ai5 l m ty;show#[T,id,o,slot,j,h1,h2,?_];let n:=u pos ϵ p l;rw[hs]at n⊢;show Calls.callWith_builtin (by show(false||(backTo pos (abo es X.env)).any (·.1))=false;rw[c]<;>rfl) (Calls.evalArgs_plain ?_);show χ n λus y ⟨vs,H2,z,B,C⟩=>aaQ ϵ y σ H2 x vs v us Q z m B C
theorem Ε(q:D.nx σ H):Ο X [] D σ H:=λϵ s I=>wpAny_execs_nil #[σ,H,I,q]
theorem W9{st:ϧ}{rest:List ϧ}(h:SX X st {D with nx:=λσ' H'=>Ο X rest D σ' H'} σ H):Ο X (st::rest) D σ H:=by
 intro ϵ s I;show wpAny_execs_cons (χ (h ϵ s I) λf a q=>?_);cases f with
 |next=>
  let#[σ',H',c,q]:=q;show q ϵ a c
 |ret v=>show q
 |brk=>show q
 |cont=>show q
theorem adf{st:ϧ}(h:SX X st D σ H):Ο X [st] D σ H:=by
 intro ϵ s I;show wpAny_execs_cons (χ (h ϵ s I) λf a q=>?_);cases f with
 |next=>show wpAny_execs_nil q
 |ret v=>show q
 |brk=>show q
 |cont=>show q
theorem aV(h:EV X e σ H λ_ H1=>D.nx σ H1)(hs:am6 e none pos.line X.env=pure false:=by rfl):SX X (.Expr e pos) D σ H:=by
 intro ϵ s I;show wpAny_Expr_any (χ (h ϵ s I) λv f ⟨x,H1,a,g,c⟩=>#[σ,H1,a,c]) I.quiet hs
theorem ψ(h:EV X e σ H D.rt):SX X (.Return (some e) pos) D σ H:=by
 intro ϵ s I;show wpAny_Return_some (χ (h ϵ s I) λv g ⟨x,H1,a,c,f⟩=>#[x,σ,H1,a,c,f])
theorem Q6(h:D.rt .non H):SX X (.Return none pos) D σ H:=λϵ s I=>wpAny_Return_none #[.non,σ,H,I,rfl,h]
theorem Θ{t u:List ϧ}(h:ET X c σ H λk H1=>if k=true then Ο X t D σ H1 else Ο X u D σ H1):SX X (.If c t u pos) D σ H:=by
 intro ϵ s I;show wpAny_If (χ (h ϵ s I) λd a g=>?_);let#[H1,e,f]:=g;cases d with
 |true=>show f ϵ a e
 |false=>show f ϵ a e
theorem af5{i:Nat}{p':Pos}(a:X.N.Nodup)(hi:nameAt X.N x=some i)(c:Loc X.env.scope x)(hs:am6 e (some (.Name x p')) pos.line X.env=pure false)(f:X.fn x=true\/X.env.scope.names.lookup x=some .local)(h:EV X e σ H λv H1=>D.nx (σ.set i (some v)) H1):SX X (.Assign [.Name x p'] e pos) D σ H:=by
 intro ϵ s I;show wpAny_Assign_Name (χ (h ϵ s I) λv o g=>?_) hs;let#[y,H1,j,l,m]:=g;show Wb j a (jM hi) c l (λp n=>#[_,H1,n,m]) f
theorem Α{i:Nat}{QG:St->Hp->Prop}(a:X.N.Nodup)(hi:nameAt X.N x=some i)(c:Loc X.env.scope x)(e:X.fn x=true\/X.env.scope.names.lookup x=some .local)(q:QG (σ.set i (some v)) H):EG X (.Name x pos) v σ H QG:=by
 intro ϵ s u I r;show wpAny_assign_Name (Wb I a (jM hi) c r (λs' f=>#[_,H,f,q]) e)
theorem aa{QG:St->Hp->Prop}(q:QG σ H):sE X [] [] σ H QG:=by
 intro ϵ s us I r;cases r;show assignInOrder_nil #[σ,H,I,q]
theorem Δ{a:List Ϩ}{vs:List V}{QG:St->Hp->Prop}(h:EG X e v σ H λσ' H'=>sE X a vs σ' H' QG)(hs:(assignEach (e::a) X.env).map (·.2)=assign e X.env::(assignEach a X.env).map (·.2):=by rfl):sE X (e::a) (v::vs) σ H QG:=by
 intro ϵ s us I r;cases r with
 |cons r c=>
  rw[hs];show assignInOrder_cons (χ (h ϵ s _ I r) λ_ f g=>?_);let#[i,H1,j,l]:=g;show l ϵ f _ j c
theorem ϥ{n:Nat}{k:Nat}{QG:St->Hp->Prop}{q:δ}{xs:List V}(a:ρ X.K H q xs)(h:sE X es xs σ H QG)(g:X.calm=true:=by rfl)(i:(assignEach es X.env).length=n:=by rfl)(c:(assignEach es X.env).findIdx? (·.1)=none:=by rfl)(j:xs.length=n:=by rfl):EG X (.Tuple es k pos) (.ref q) σ H QG:=by
 intro ϵ s u I r;cases r;let#[p,f,a,v]:=I.tuple a;show assign_Tuple_tuple (I.ok.hd g) a (by simp[i, <-j,f.length]) c λh' l=>?_
 let m:Inv X ϵ σ H {s with heap:=h'}:=I.kept (t':=s.toks) λb o e=>l b o (adv (abL e)) e
 show h ϵ _ _ m (by simpa using f)
theorem lC{tg iter:Ϩ}{body:List ϧ}(B:akX (Ϧ X.prog X.w) X.A X.env X.xe)(S:X.calm=true)(hs:∀x,foldedSetIterable iter X.env x=pure x)(h:EI X tg iter σ H λJ H1=>∃W:Nat->Nat->St->Hp->Prop,(∃m,W 0 m σ H1)/\∀i m σ H,W i m σ H->
   (J.stop i H/\D.nx σ H)\/(J.go i H/\∃N:St->Hp->Prop,(∀σ' H',N σ' H'->∃m',m'<m/\W (i+1) m' σ' H')/\∀x H',J.yld i H x H'->EG X tg x σ H' λL H2=>Ο X body {D with nx:=N,ct:=N,bk:=D.nx} L H2)):SX X (.For tg iter body [] pos) D σ H:=by
 intro ϵ s I;show wpAny_For (χ (h ϵ s I) λv s1 h1=>χ h1 λitv s2 h2=>?_) hs;let#[it,fp,U,J,H2,e,I2,T,M,Y,W,#[m0,w0],turn]:=h2;subst e;let c:∀{H':Hp},(∀b∈fp,H' b=none)->∀b∈fp,bC X ϵ H' b:=λhn b l=>#[hn b l,(Y b l).2]
 show codeAny_forLoop_any (λn s'=>∃i σ' H',Inv X ϵ σ' H' s'/\U i s'.heap/\(∀b∈fp,H' b=none)/\W i n σ' H') ?_ m0 #[0,σ,H2,I2,M,λb l=>(Y b l).1,w0]
 rintro n Z ⟨i,p,G,I3,C,E,w3⟩
 obtain⟨stop,qn⟩|⟨go,N,hN,step⟩:=turn i n p G w3
 .show akl B (χ (T.done X rfl rfl rfl S i ϵ Z p G X.xe I3 (c E) C stop) λr s4 y=>?_);let#[O,I4]:=y;subst O;show wpAny_execs_nil #[p,G,I4,qn]
 .show akl B (χ (T.item X rfl rfl rfl S i ϵ Z p G X.xe I3 (c E) C go) λr s4 y=>?_);let#[u,O,h4]:=y;subst O;show akl B (χ h4 λ_ s5 y=>?_);let#[x,H5,I5,r5,y5,z,P]:=y;let Q:=I5.pinned (c P) (T.obj _ _ z);show akl B (χ ((step x H5 y5) _ s5 u Q r5) λ_ s6 y=>?_);let#[σ6,H6,I6,q6]:=y;show akl B (χ (q6 _ s6 I6) λf R q=>?_);let again:∀{a:St}{g:Hp},Inv X (ϵ++gq fp s5.heap) a g R->N a g->∃m,m<n/\∃i σ' H',Inv X ϵ σ' H' R/\U i R.heap/\(∀b∈fp,H' b=none)/\W i m σ' H':=λ{a g} j F=>by
   let#[m',hm,w7]:=hN a g F;show#[m',hm,i+1,a,g,j.unpinned,T.keep _ _ _ z λb l o e=>(j.pin (b,o) (aeC _ (aeC _ (uB l e)))).1,λb l=>?_,w7];let#[o,e,d]:=T.obj _ _ z b l;show(j.pin (b,o) (aeC _ (aeC _ (uB l e)))).2.1
  cases f with
  |next=>let#[a,g,j,F]:=q;show again j F
  |cont=>let#[a,g,j,F]:=q;show again j F
  |brk=>let#[a,g,j,q]:=q;show#[a,g,j.unpinned,q]
  |ret v=>let#[x7,a,g,j,r7,q]:=q;show#[x7,a,g,j.unpinned,r7,q]
theorem tO{tg l:Ϩ}{R:It->Hp->Prop}(h:EV X l σ H λx H1=>∃a,x=.ref a/\(∃xs,η X.K H1 a xs)/\R (jC X.K a) H1):EI X tg l σ H R:=by
 intro ϵ s I;show χ (h ϵ s I) λv c g=>?_
 let#[x,H1,f,i,j]:=g;let#[a,e,#[xs,m],q]:=j;subst e;cases i;let#[u,y,p,z]:=f.list m;show akt p.isList ?_;show#[c.heap.objs.size,[c.heap.objs.size],_,_,H1,rfl,f.kept (t':=c.toks) λb o e=>ϴ _ e,Yg a _,#[_,abb _ rfl,rfl,rfl],λb n=>?_,q];let e:b=c.heap.objs.size:=by simpa using n
 subst e;show f.fpOk (ϭ _) (f.hok.fresh (ϭ _))
theorem Z2{tg l:Ϩ}{R:It->Hp->Prop}(h:EV X l σ H λx H1=>∃a,x=.ref a/\(∃xs,ρ X.K H1 a xs)/\R (oW X.K a) H1):EI X tg l σ H R:=by
 intro ϵ s I;show χ (h ϵ s I) λv c g=>?_
 let#[x,H1,f,i,j]:=g;let#[a,e,#[xs,m],q]:=j;subst e;cases i;let#[n,y,p,z]:=f.tuple m;show wpAny_pyIter_tuple (show c.heap.IsTuple a n.toArray from p) ?_;show#[c.heap.objs.size,[c.heap.objs.size],_,_,H1,rfl,f.kept (t':=c.toks) λb o e=>ϴ _ e,Zz a _,#[_,abb _ rfl,rfl,rfl],λb u=>?_,q];let e:b=c.heap.objs.size:=by simpa using u
 subst e;show f.fpOk (ϭ _) (f.hok.fresh (ϭ _))
theorem YT{tg:Ϩ}{R:It->Hp->Prop}(f:Gl X "range")(g:X.mg "range"=none)(hs:abo [a] X.env=[(false,eval a X.env)])(h:EA X [a] σ H λvs H1=>∃j:Int,vs=[.int j]/\ -(2^62)<=j/\j<2^62/\R (kY 0 j.toNat) H1):EI X tg (.Call (.Name "range" p) [a] [] pos) σ H R:=by
 intro ϵ s I;show Call_ (jh I f g boot_range (PyProof.Rows.callWith_type1 (χ (h pos ϵ s I) λus u i=>?_) hs rfl));let#[vs,H1,l,m,c]:=i;let#[j,e,c,n,q]:=c;subst e;cases m with
 |cons r o=>
  cases o;let#[t,rfl]:=r;show call_range_1 (aeu l () () c n (by simpa using q))
theorem aG{Q':VK}(h:EV X e σ H Q)(m:∀v H',Q v H'->Q' v H'):EV X e σ H Q':=λϵ s I=>χ (h ϵ s I) λ_ _ ⟨v,H',a,r,q⟩=>#[v,H',a,r,m v H' q]
theorem bD{f:ε->ε->Sem ε}{r:R2}{y z:V}(h:aP X f r)(q:r y z H Q):OP X f y z H Q:=#[r,h,q]
variable{i j:Int}{k k':Bool}{z z':Str}
theorem ajO(q:Q (.int (i+j)) H):OP X (binaryOp .Add) (.int i) (.int j) H Q:=bD ajv #[i,j,rfl,rfl,q]
theorem aik(q:Q (.int (i-j)) H):OP X (binaryOp .Sub) (.int i) (.int j) H Q:=bD ajT #[i,j,rfl,rfl,q]
theorem Xq(c:wO i j)(q:Q (.int (i*j)) H):OP X (binaryOp .Mult) (.int i) (.int j) H Q:=bD ah7 #[i,j,rfl,rfl,c,q]
theorem aaU(c:U5 i j)(q:Q (.int (i / j)) H):OP X (binaryOp .FloorDiv) (.int i) (.int j) H Q:=bD agU #[i,j,rfl,rfl,c,q]
theorem YC(c:0<j)(q:Q (.int (i % j)) H):OP X (binaryOp .Mod) (.int i) (.int j) H Q:=bD Xh #[i,j,rfl,rfl,c,q]
theorem acK(q:Q (.bl (decide (i<j))) H):OP X (ad7 .Lt) (.int i) (.int j) H Q:=bD aco #[i,j,rfl,rfl,q]
theorem aeL(q:Q (.bl (decide (i<=j))) H):OP X (ad7 .LtE) (.int i) (.int j) H Q:=bD Xz #[i,j,rfl,rfl,q]
theorem ahi(q:Q (.bl (decide (j<i))) H):OP X (ad7 .Gt) (.int i) (.int j) H Q:=bD acp #[i,j,rfl,rfl,q]
theorem Y0(q:Q (.bl (decide (j<=i))) H):OP X (ad7 .GtE) (.int i) (.int j) H Q:=bD ajC #[i,j,rfl,rfl,q]
theorem Cd{y z:V}(s:qm y z=true)(q:Q (.bl (decide (y=z))) H):OP X (ad7 .Eq) y z H Q:=bD afj #[s,q]
theorem El{y z:V}(s:qm y z=true)(q:Q (.bl (!decide (y=z))) H):OP X (ad7 .NotEq) y z H Q:=bD aa3 #[s,q]
theorem ahD(q:Q (.bl (decide (z.cps.toList<z'.cps.toList))) H):OP X (ad7 .Lt) (.str z) (.str z') H Q:=bD ahn #[z,z',rfl,rfl,q]
theorem ail(q:Q (.bl (!(Builtin.Str.occurrences z' z 0 z'.length 1).isEmpty)) H):OP X (ad7 .In) (.str z) (.str z') H Q:=bD aax #[z,z',rfl,rfl,q]
theorem aju{y:V}(q:Q (.bl (decide (y=.non))) H):OP X (ad7 .Is) y .non H Q:=bD aiS #[rfl,q]
theorem ajk{y:V}(q:Q (.bl (!decide (y=.non))) H):OP X (ad7 .IsNot) y .non H Q:=bD acn #[rfl,q]
theorem fB(c:z.length+z'.length<=ϰ)(q:Q (.str (z++z')) H):OP X (binaryOp .Add) (.str z) (.str z') H Q:=bD afX #[z,z',rfl,rfl,c,q]
theorem Xn(q:Q (.int (-i)) H):UN X (unaryOp .USub) (.int i) H Q:=#[_,abV,i,rfl,q]
theorem dB{f:ε}{r:List V->Hp->VK->Prop}{vs:List V}(h:iz X f r)(q:r vs H Q):CL X f vs H Q:=#[r,h,q]
theorem Ab{q:δ}{ys:List V}(h:η X.K H q ys\/ρ X.K H q ys)(g:Q (.int ys.length) H):CL X (.builtin "len") [.ref q] H Q:=dB ai8 #[q,ys,rfl,h,g]
theorem Cw(h:z.length<=ϰ)(g:Q (.int z.length) H):CL X (.builtin "len") [.str z] H Q:=dB aeo #[z,rfl,h,g]
theorem Ni(a:X.calm=true)(g:Q (.int (if j<i then j else i)) H):CL X (.builtin "min") [.int i,.int j] H Q:=dB (ac4 a) #[i,j,rfl,g]
theorem Q4(a:X.calm=true)(g:Q (.int (if j>i then j else i)) H):CL X (.builtin "max") [.int i,.int j] H Q:=dB (ahm a) #[i,j,rfl,g]
theorem rB(h:i.natAbs.log2<1920)(g:Q (.str (toString i)) H):CL X (.type "str") [.int i] H Q:=dB aa5 #[i,rfl,h,g]
theorem jr{q:δ}{ys:List V}(h:η X.K H q ys\/ρ X.K H q ys)(g:∀l,H l=none->Q (.ref l) (upd H l (.lst ys))):CL X (.type "list") [.ref q] H Q:=dB aas #[q,ys,rfl,h,g]
theorem wI{r:R2}{y z:V}(h:qb X r)(q:r y z H Q):IX X y z H Q:=#[r,h,q]
theorem Ϡ{q:δ}{xs:List V}(h:η X.K H q xs)(e:Ω xs i=some v)(g:Q v H):IX X (.ref q) (.int i) H Q:=wI aiF #[q,xs,i,v,rfl,rfl,h,e,g]
theorem ϑ{q:δ}{xs:List V}(h:ρ X.K H q xs)(e:Ω xs i=some v)(g:Q v H):IX X (.ref q) (.int i) H Q:=wI adX #[q,xs,i,v,rfl,rfl,h,e,g]
theorem gY{n:Nat}(h:z.length<=ϰ)(e:Ω z.cps.toList i=some n)(g:Q (.str #[#v[n]]) H):IX X (.str z) (.int i) H Q:=wI abv #[z,i,n,rfl,rfl,h,e,g]
theorem nO{q:δ}{xs:List V}{lo hi:Option Int}(h:η X.K H q xs)(g:∀p,H p=none->Q (.ref p) (upd H p (.lst (bV xs lo hi)))):SL X (.ref q) lo hi H Q:=#[_,agD,q,xs,rfl,h,g]
theorem ag6{q:δ}{xs:List V}{lo hi:Option Int}(h:ρ X.K H q xs)(n:¬(_H.Β xs.length 0 lo=0/\_H.Β xs.length xs.length hi=xs.length))(g:∀p,H p=none->Q (.ref p) (upd H p (.tup (bV xs lo hi)))):SL X (.ref q) lo hi H Q:=#[_,ah4,q,xs,rfl,h,n,g]
theorem aab{y:V}{t:ε}{T:String}(ty:di X.K H y t)(e:anD X.K t (.type T)=some k)(g:Q (.bl k) H):CL X (.builtin "isinstance") [y,.ty T] H Q:=by
 show#[λxs H Q=>∃y t T k,xs=[y,.ty T]/\di X.K H y t/\anD X.K t (.type T)=some k/\Q (.bl k) H,?_,y,t,T,k,rfl,ty,e,g];intro ϵ s σ H xs us Q I r h;let#[y,t,T,k,rfl,ty,e,g]:=h;let#[i,a,rfl,c,f]:=vals2 r;cases(show a=Value.type T from f);show afV I c ty e λtk=>#[.bl k,H,I.tok tk,rfl,g]
end
def R8(x:Str):It:=#[λi _=>i<x.cps.size,λi H v H'=>H'=H/\∃c,x.cps[i]?=some c/\v=.str #[#v[c]],λi _=>x.cps.size<=i]
theorem ad5{P:Ϯ}{w:Ϭ}{K:PySem.W.Frag}{tg:Ϩ}{T:String}(l:T="str_ascii_iterator"\/T="str_iterator")(it:δ)(x:Str)(t:Tok):Turn P w K tg (R8 x) [it] it (λi h=>h.IsStrIter it T x t i)where
 mem:=by simp
 obj:=λi h st b a=>by
  let e:b=it:=by simpa using a
  subst e;let#[o,e,c,d]:=st;show#[o,e,λv z=>by rw[d]at z;cases z]
 keep:=λi h h' st k=>by
  let#[o,e,c,d]:=st;show#[o,k it (by simp) o e,c,d]
 item:=by
  intro X D F G g i ϵ s σ H E I m st J;subst D F G;let#[p,q,M,y,B,C]:=m it (by simp);let f:i<x.cps.size:=J;let O:∃W:Nat->ϫ->Prop,Walks X.prog X.w X.A it [it] [it] x.cps.size (SignAt x) W/\W=λi h=>h.IsStrIter it T x t i:=by
   obtain rfl|rfl:=l
   .show#[_,Walks.strAscii (I.ok.hd g) it x t,rfl]
   .show#[_,Walks.strWide (I.ok.hd g) it x t,rfl]
  let#[_,W,rfl]:=O;show W.item i s _ _ f st λv h' tk Q j kk=>?_
  let#[c,u,e1,rfl]:=Q;let R:Inv X ϵ σ H {s with heap:=h',toks:=tk}:=I.turned (λb o a e=>kk b o (by simpa using a) e) p q y B C;let#[o,e,S,d]:=id j;show#[_,rfl,t8 (s:={s with heap:=h',toks:=tk}) (n:=T) e S d (by obtain rfl|rfl:=l<;>decide) ⟨.str ⟨#v[c]⟩,H,R,⟨u,rfl⟩,⟨rfl,c,e1,rfl⟩,j,λb a=>(m b a).1⟩]
 done:=by
  intro X D F G g i ϵ s σ H E I m st J;subst D F G;let#[p,q,M,y,B,C]:=m it (by simp);let f:x.cps[i]?=none:=aj4 J;obtain rfl|rfl:=l
  .show wpAny_pyNext_ascii_end (I.ok.hd g) st f λh' L=>#[rfl,I.turned (t':=s.toks) (λb o a e=>L b o a e) p q y B C]
  .show wpAny_pyNext_wide_end (I.ok.hd g) st f λh' L=>#[rfl,I.turned (t':=s.toks) (λb o a e=>L b o a e) p q y B C]
 self:=λ_ _ _ _ _ st h=>by
  obtain rfl|rfl:=l
  .show wpAny_pyIter_striter_ascii st h
  .show wpAny_pyIter_striter_wide st h
section
variable{X:Cx}{tg l:Ϩ}{σ:St}{H:Hp}{R:It->Hp->Prop}
theorem O2(h:EV X l σ H λx H1=>∃z,x=.str z/\R (R8 z) H1):EI X tg l σ H R:=by
 intro ϵ s I;show χ (h ϵ s I) λv a f=>?_
 let#[x,H1,c,g,z,e,q]:=f;subst e;let#[t,rfl]:=g
 let fin:∀T:String,(T="str_ascii_iterator"\/T="str_iterator")->
   vy X ϵ σ tg R (.ref a.heap.objs.size) {a with heap:=a.heap.push {cls:=.type T,data:=.fields #v[.str z t,.int 0 0]}}:=λT i=>by
  show#[a.heap.objs.size,[a.heap.objs.size],_,_,H1,rfl,c.kept (t':=a.toks) λb o e=>ϴ _ e,ad5 i _ z t,#[_,abb _ rfl,rfl,rfl],λb j=>?_,q];let e:b=a.heap.objs.size:=by simpa using j
  subst e;show c.fpOk (ϭ _) (c.hok.fresh (ϭ _))
 cases ha:z.cps.all (· <128)
 .show wpAny_pyIter_wide ha (fin _ (.inr rfl))
 .show wpAny_pyIter_ascii ha (fin _ (.inl rfl))
end
def cO(N' N:List Str)(σ:St)(scope:ahU):St:=N'.map λx=>if scope.names.lookup x=some .free then fu N σ x else none
def cu(X:Cx)(N':List Str)(scope:ahU)(cl:List (Str×δ))(C:δ)(s:μ)(H:Hp)(fp:List δ):Cx:=
 {X with N:=N',s₀:=s,H₀:=H,env:=compEnvC scope cl C X.env,outer:=X.stack,stack:=X.stack,ex:=fp,fn:=λ_=>false,pn:=[],xe:=λ_ _=>False}
def yM(X:Cx)(ifs:List Ϩ)(σ:St)(H:Hp)(Q:Bool->Hp->Prop):Prop:=
 ∀(ϵ:List (δ×Obj))(s:μ),Inv X ϵ σ H s->
  ν (Ϧ X.prog X.w) X.A (forIn ifs true λc r=>if r=true then do let ok<-isTrue c X.env (eval c X.env);pure (ForInStep.yield ok)else pure (ForInStep.yield r)) (TP X ϵ σ Q) X.xe s
theorem zr(env:Env):∀(names:List (Str×ang))(cs:List (Str×δ)),(∀y∈names,y.2=.free->∃c,env.cells.lookup y.1=some c)->
  (forIn names cs (λ(x:Str×ang)(r:List (Str×δ))=>if(x.2==NameKind.free)=true then do let a<-cellOf env x.1;pure (ForInStep.yield ((x.1,a)::r))else pure (ForInStep.yield r)):Sem (List (Str×δ)))=
   pure (names.foldl (λcs y=>if y.2==.free then(y.1,(env.cells.lookup y.1).getD 0)::cs else cs) cs)
 |[],cs,_=>by simp
 |(n,k)::r,cs,h=>by
  rw[amn];by_cases i:k=.free
  .subst i;let#[c,e]:=h (n,.free) aex rfl;let l:cellOf env n=pure c:=by
    unfold cellOf;let f:env.cells.lookup n=some c:=e;rw[f]
   simp only[beq_self_eq_true,if_true,l,pure_bind];let f:env.cells.lookup n=some c:=e;rw[zr env r _ λy g=>h y (adP _ g),akW];simp only[beq_self_eq_true,if_true,f,aoU]
  .let j:(k==NameKind.free)=false:=by simpa using i
   simp only[j,ana,if_false,pure_bind];rw[zr env r _ λy g=>h y (adP _ g),akW];simp only[j,ana,if_false]
def ϔ(scope:ahU)(env:Env):List (Str×δ):=scope.names.foldl (λcs y=>if y.2==.free then(y.1,(env.cells.lookup y.1).getD 0)::cs else cs) []
theorem Af{scope:ahU}{env:Env}(h:∀y∈scope.names,y.2=.free->∃c,env.cells.lookup y.1=some c):closureFor scope env=pure (ϔ scope env):=by
 have:=zr env scope.names [] h;unfold closureFor ϔ;rw[<-this];simp
theorem Hv{env:Env}:∀(names:List (Str×ang))(cs:List (Str×δ)),(∀y∈names,y.2=.free->∃c,env.cells.lookup y.1=some c)->
  ∀x c,(names.foldl (λcs y=>if y.2==.free then(y.1,(env.cells.lookup y.1).getD 0)::cs else cs) cs).lookup x=some c->(env.cells.lookup x=some c\/cs.lookup x=some c)
 |[],cs,_,x,c,e=>.inr e
 |(n,k)::r,cs,h,x,c,e=>by
  rw[akW]at e;rcases Hv r _ (λy i=>h y (adP _ i)) x c e with q|q
  .show .inl q
  .by_cases f:k=.free
   .subst f;let#[c',j]:=h (n,.free) aex rfl;let g:env.cells.lookup n=some c':=j;simp only[beq_self_eq_true,if_true,g,aoU,agB]at q;cases hx:x==n with
    |true=>
     rw[hx]at q;let a:x=n:=by simpa using hx
     subst a;show .inl (g.trans q)
    |false=>rw[hx]at q;show .inr q
   .let l:(k==NameKind.free)=false:=by simpa using f
    rw[if_neg (by simp[l])]at q;show .inr q
theorem Cg{env:Env}:∀(names:List (Str×ang))(cs:List (Str×δ))(x:Str),((x,NameKind.free)∈names\/∃c,cs.lookup x=some c)->
  ∃c,(names.foldl (λcs y=>if y.2==.free then(y.1,(env.cells.lookup y.1).getD 0)::cs else cs) cs).lookup x=some c
 |[],cs,x,h=>by
  obtain h|h:=h
  .cases h
  .show h
 |(n,k)::r,cs,x,h=>by
  rw[akW];show Cg r _ x ?_;by_cases a:k=.free
  .subst a;simp only[beq_self_eq_true,if_true,agB];cases hx:x==n with
   |true=>show .inr #[_,rfl]
   |false=>
    obtain h|h:=h
    .obtain h|h:=ϲ.mp h
     .cases h;simp at hx
     .show .inl h
    .show .inr h
  .let e:(k==NameKind.free)=false:=by simpa using a
   rw[if_neg (by simp[e])];obtain h|h:=h
   .obtain h|h:=ϲ.mp h
    .cases h;show absurd rfl a
    .show .inl h
   .show .inr h
theorem Nu{env:Env}{x:Str}:∀{names:List (Str×ang)},names.lookup x=some .free->
  (names.map λ(n,k)=>if(k==NameKind.free&&env.scope.kind==.function&&env.kindOf n==some .cell)then(n,NameKind.cell)else(n,k)).lookup x=some .cell\/
  (names.map λ(n,k)=>if(k==NameKind.free&&env.scope.kind==.function&&env.kindOf n==some .cell)then(n,NameKind.cell)else(n,k)).lookup x=some .free
 |[],h=>by simp at h
 |(n,k')::r,h=>by
  let c:= @Nu env x r;show ais x ((if(k'==NameKind.free&&env.scope.kind==.function&&env.kindOf n==some .cell)=true then(n,NameKind.cell)else(n,k'))::_)=_\/ais x ((if(k'==NameKind.free&&env.scope.kind==.function&&env.kindOf n==some .cell)=true then(n,NameKind.cell)else(n,k'))::_)=_;cases hx:x==n with
  |true=>
   simp only[agB,hx]at h;cases h;by_cases a:(NameKind.free==NameKind.free&&env.scope.kind==.function&&env.kindOf n==some .cell)=true
   .rw[if_pos a];left;simp only[agB,hx]
   .rw[if_neg a];right;simp only[agB,hx]
  |false=>
   simp only[agB,hx]at h;by_cases a:(k'==NameKind.free&&env.scope.kind==.function&&env.kindOf n==some .cell)=true
   .rw[if_pos a];simp only[agB,hx];show c h
   .rw[if_neg a];simp only[agB,hx];show c h
theorem VF{env:Env}{x:Str}:∀{names:List (Str×ang)},(∀y∈names,y.2≠.cell)->
  ((names.map λ(n,k)=>if(k==NameKind.free&&env.scope.kind==.function&&env.kindOf n==some .cell)then(n,NameKind.cell)else(n,k)).lookup x=some .cell\/
  (names.map λ(n,k)=>if(k==NameKind.free&&env.scope.kind==.function&&env.kindOf n==some .cell)then(n,NameKind.cell)else(n,k)).lookup x=some .free)->(x,NameKind.free)∈names
 |[],_,h=>by simp at h
 |(n,k')::r,c,h=>by
  let f:= @VF env x r λy g=>c y (adP _ g)
  let h':ais x ((if(k'==NameKind.free&&env.scope.kind==.function&&env.kindOf n==some .cell)=true then(n,NameKind.cell)else(n,k'))::(r.map λ(n,k)=>if(k==NameKind.free&&env.scope.kind==.function&&env.kindOf n==some .cell)then(n,NameKind.cell)else(n,k)))=some .cell\/
   ais x ((if(k'==NameKind.free&&env.scope.kind==.function&&env.kindOf n==some .cell)=true then(n,NameKind.cell)else(n,k'))::(r.map λ(n,k)=>if(k==NameKind.free&&env.scope.kind==.function&&env.kindOf n==some .cell)then(n,NameKind.cell)else(n,k)))=some .free:=h
  cases hx:x==n with
  |true=>
   let e:x=n:=by simpa using hx
   subst e;by_cases a:(k'==NameKind.free&&env.scope.kind==.function&&env.kindOf x==some .cell)=true
   .have :k'=.free:=by simp only[aa2]at a;simpa using a.1.1
    subst this;show aex
   .rw[if_neg a]at h';simp only[agB,hx]at h';obtain h'|h':=h'
    .cases h';show absurd rfl (c (x,.cell) aex)
    .cases h';show aex
  |false=>
   show adP _ (f ?_);by_cases a:(k'==NameKind.free&&env.scope.kind==.function&&env.kindOf n==some .cell)=true
   .rw[if_pos a]at h';simpa only[agB,hx]using h'
   .rw[if_neg a]at h';simpa only[agB,hx]using h'
theorem abh{prog:Ϯ}{w:Ϭ}{A:ϳ}{R:Result->μ->Prop}{s:μ}{elt a iter:Ϩ}{ifs:List Ϩ}{scope:ahU}{pos:Pos}{it q:ε}{env:Env}(I:Nat->μ->Prop){Er:ε->μ->Prop}(y:∀x s,Er x s->notedBy (Ϧ prog w) A env (λx s'=>R (.error x) s') x s)(turn:∀n s,I n s->ν (Ϧ prog w) A (pyNext it) (λr e=>match r with
   |none=>R (.ok .next) e
   |some v=>ν (Ϧ prog w) A (letOwnedTupleGo a it v) (λ_ f=>ν (Ϧ prog w) A (assign a env v) (λ_ i=>
    ν (Ϧ prog w) A (forIn ifs true λc r=>if r=true then do let ok<-isTrue c env (eval c env);pure (ForInStep.yield ok)else pure (ForInStep.yield r)) (λok g=>
     if ok=true then ν (Ϧ prog w) A (eval elt env) (λx j=>
      ν (Ϧ prog w) A (call (.builtin "list.append") [q,x]) (λ_ l=>∃m,m<n/\I m l) Er j) Er g
     else ∃m,m<n/\I m g) Er i) Er f) Er e) Er s)(n:Nat)(h:I n s):codeAny (Ϧ prog w) A (.compLoop (.ListComp elt [#[a,iter,ifs,0]] scope pos) 0 it q env) R s:=by
 show codeAny_loop rfl I (λn s D=>?_) n h;show ν _ A ((compTurn (.ListComp elt [#[a,iter,ifs,0]] scope pos) 0 it q env).onRaise (λx=>do noteFrame x env;theTreesLotGoes x)) _ _ s;show wpAny_noted ?_;rw[compTurn_list];show π (wpAny_standAt (π (aef (turn n s D) (λr e o=>?_) y)));cases r with
 |none=>show ϯ o
 |some v=>
  show π (aef o (λ_ f u=>?_) y);show π (aef u (λ_ i z=>π (aef z (λok g p=>?_) y)) y);cases ok with
  |false=>show ϯ #[rfl,p]
  |true=>
   show π (π (aef p (λx j B=>π (aef B (λ_ l C=>ϯ (ϯ #[rfl,C])) y)) y))
def qK(M:Model)(A:ϳ)(E:ε->μ->Prop)(use:Option (ε->Sem Unit))(Q:ε->μ->Prop)(c:ε)(C:Env)(r:Result)(s':μ):Prop:=
 match r,use with
 |.ok _,none=>∃m,s'.heap.Ns C.locals m/\∀h',akp C.locals s'.heap h'->Q c {s' with heap:=h'}
 |.ok _,some u=>ν M A (u c) (λ_ a=>∃m,a.heap.Ns C.locals m/\∀h',akp C.locals a.heap h'->Q .none {a with heap:=h'}) E s'
 |.error x,_=>∃m,s'.heap.Ns C.locals m/\∀h',akp C.locals s'.heap h'->ν M A (passOn "comprehension.variables-let-go" x C:Sem ε) (λ_ _=>False) E {s' with heap:=h'}
theorem Hh{M:Model}{A:ϳ}{E:ε->μ->Prop}{s:μ}{env:Env}{e:Ϩ}{scope:ahU}{pos:Pos}{c first:Sem ε}{g:Comprehension}{R:List Comprehension}{cl:List (Str×δ)}{use:Option (ε->Sem Unit)}{Q:ε->μ->Prop}(L:clausesOf e=g::R)(hs:∀x,foldedSetIterable g.iter env x=pure x)(q:closureFor scope env=pure cl)(a:scope.kind=.function)(j:∀x∈scope.names,x.2=.local->scope.names.lookup x.1=some .local)(h:ν M A first (λx l=>ν M A (pyIter x) (λit n=>ν M A c (λv o=>ν M A (newFunctionEnv scope env.globals cl [] env.qual none .none (some env)) (λcenv p=>
   codeAny M A (.compStart e 0 it v {cenv with scope:=relabel scope env}) (qK M A E use Q v {cenv with scope:=relabel scope env}) p) E o) E n) E l) E s):ν M A (comprehension e scope env pos c false first use) Q E s:=by
 unfold comprehension;rw[q,L];show π (aef h (λx l C=>π (wpAny_standAt (π (wpAny_of_eq (hs x) (π (af6 (aef C (λit n D=>wpAny_standIf (π (aef D (λv o F=>
  π (ϯ (π (aef F (λcenv p G=>?_) λ_ _ z=>z)))) λ_ _ z=>z))) λ_ _ z=>z))))))) λ_ _ z=>z)
 dsimp only;let I:∀x∈(scope.names.filter λx=>(x.2==.local||x.2==.cell)&&x.1 !=(".0":Str)).reverse,x.2=.local->Env.kindOf {cenv with scope:=relabel scope env} x.1=some .local:=
  λx O J=>lookup_relabel_local (j x (ahZ.mp (List.mem_reverse.mp O)).1 J)
 let S:∀x∈(scope.names.filter λx=>(x.2==.local||x.2==.cell)&&x.1 !=(".0":Str)).reverse.drop 1++(scope.names.filter λx=>(x.2==.local||x.2==.cell)&&x.1 !=(".0":Str)).reverse.take 1,x.2=.local->Env.kindOf {cenv with scope:=relabel scope env} x.1=some .local:=λx O J=>by
  obtain z|z:=adU.mp O
  .show I x (ael z) J
  .show I x (aeR z) J
 show af6 (π (amX (af6 (wpAny_run (akq G λr s' B=>?_)))));cases r with
 |ok f=>
  cases use with
  |none=>
   let#[m,H,B]:=B;show π (af6 (wpAny_comp_letGo (cenv:={cenv with scope:=relabel scope env}) a _ s' m I H λh' m' _ z=>ϯ (B h' z)))
  |some u=>
   show π (wpAny_rule (π (af6 (aef B (λ_ P i=>?_) λ_ _ z=>z))));let#[m,H,i]:=i;show π (wpAny_comp_letGo (cenv:={cenv with scope:=relabel scope env}) a _ P m S H λh' m' _ z=>ϯ (i h' z))
 |error x=>
  let i:∃m,s'.heap.Ns cenv.locals m/\∀h',akp cenv.locals s'.heap h'->ν M A (passOn "comprehension.variables-let-go" x {cenv with scope:=relabel scope env}:Sem ε) (λ_ _=>False) E {s' with heap:=h'}:=by cases use<;>show B
  let#[m,H,B]:=i;show π (af6 (wpAny_comp_letGo (cenv:={cenv with scope:=relabel scope env}) a _ s' m I H λh' m' _ z=>aef (B h' z) (λ_ _ f=>f.elim) λ_ _ y=>y))
abbrev Cx.tri(X:Cx)(F:ε->μ->Prop)(pn:List (δ×Obj)):Cx:={X with xe:=F,pn:=pn}
section
variable{X:Cx}{ϵ pins':List (δ×Obj)}{σ:St}{H:Hp}{s:μ}{F:ε->μ->Prop}
theorem Cx.Ok.tri(ok:X.Ok)(pn:List (δ×Obj)):(X.tri F pn).Ok:=
 #[ok.mod,ok.kind,ok.glob,ok.blt,ok.above,ok.inj,ok.has,ok.cab,ok.hd,ok.frames,ok.stk,ok.exf,ok.bs,ok.bsz,ok.noex,ok.exfs,ok.funs,ok.frf]
theorem Inv.tri(I:Inv X ϵ σ H s):Inv (X.tri F (X.pn++ϵ)) [] σ H s:=
 #[I.ok.tri _,I.os,I.bare,I.base,I.loc,I.cell,I.free,I.freeC,λp a=>I.pin p (by simpa using a),I.hok,I.len]
theorem Inv.j6(ok:X.Ok)(I:Inv (X.tri F (X.pn++ϵ)) pins' σ H s):Inv X ϵ σ H s:=
 #[ok,I.os,I.bare,I.base,I.loc,I.cell,I.free,I.freeC,λp a=>I.pin p (aiM _ a),I.hok,I.len]
end
abbrev dU(X:Cx)(N':List Str)(scope:ahU)(cl:List (Str×δ))(C:δ)(s:μ)(H:Hp)(fp:List δ)(F:ε->μ->Prop):Cx:=(cu X N' scope cl C s H fp).tri F []
section
variable{X:Cx}{ϵ:List (δ×Obj)}{σ:St}{H H':Hp}{s s':μ}{scope:ahU}{fp:List δ}{N':List Str}
structure cV(env:Env)(scope:ahU):Prop where
 kind:scope.kind=.function
 free:∀y∈scope.names,y.2=.free->env.kindOf y.1=some .cell\/env.kindOf y.1=some .free
 cell:∀y∈scope.names,y.2≠.cell
 loc:∀y∈scope.names,y.2=.local->scope.names.lookup y.1=some .local
theorem cV.has(S:cV X.env scope)(I:Inv X ϵ σ H s):∀y∈scope.names,y.2=.free->∃c,X.env.cells.lookup y.1=some c:=λy a e=>I.ok.has y.1 (S.free y a e)
theorem cV.cl(S:cV X.env scope)(I:Inv X ϵ σ H s){x:Str}{c:δ}(h:(ϔ scope X.env).lookup x=some c):X.env.cells.lookup x=some c:=by
 obtain q|q:=Hv scope.names [] (S.has I) x c h
 .show q
 .simp at q
theorem ae7(S:cV X.env scope)(I:Inv X ϵ σ H s)(f:∀b∈fp,bC X ϵ H b)(g:∀b∈fp,b<s.heap.objs.size):(cu X N' scope (ϔ scope X.env) s.heap.objs.size s H fp).Ok where
 mod:=I.ok.mod
 kind:=S.kind
 glob:=I.ok.glob
 blt:=I.ok.blt
 above:=ϭ _
 inj:=λx y c h1 h2=>I.ok.inj x y c (S.cl I h1) (S.cl I h2)
 has:=λx i=>Cg (env:=X.env) scope.names [] x (.inl (VF S.cell i))
 cab:=λx c h _=>by cases h
 hd:=I.ok.hd
 frames:=I.ok.frames
 stk:=.inl rfl
 exf:=λb a=>#[adv (g b a),λx c h=>(f b a).2.2.2.2.1 x c (S.cl I h)]
 bs:=I.bs
 bsz:=aeO I.ok.bsz I.sz
 noex:=λb o e a=>by
  rcases(f b a).2.2.2.1 with z|z
  .show I.ok.noex b o e z
  .rw[(I.ok.bs b o e).1]at z;cases z
 exfs:=λb a z=>by
  rcases ϲ.mp (I.stkSub b z)with e|e
  .show(f b a).2.1 e
  .show(f b a).2.2.1 e
 funs:=I.stack
 frf:=I.stkFree
theorem ahL{N:List Str}{i:Nat}{x:Str}{v:V}(h1:N'[i]?=some x)(h2:(cO N' N σ scope)[i]?=some (some v)):scope.names.lookup x=some .free/\fu N σ x=some v:=by
 unfold cO at h2;rw[abD,h1]at h2;let a:(if scope.names.lookup x=some .free then fu N σ x else none)=some v:=by simpa using h2
 split at a
 .rename_i e;show#[e,a]
 .cases a
theorem afd(S:cV X.env scope)(I:Inv X ϵ σ H s)(D:∀b∈fp,bC X ϵ H b)(g:∀b∈fp,b<s.heap.objs.size){a:ϫ}{m:Str->Option ε}{tk:Nat}(l:a.Ns s.heap.objs.size m)(old:∀b o,s.heap.get? b=some o->a.get? b=some o):Inv (cu X N' scope (ϔ scope X.env) s.heap.objs.size s H fp) [] (cO N' X.N σ scope) H {s with heap:=a,toks:=tk}where
 ok:=ae7 S I D g
 os:=rfl
 bare:=I.bare
 base:=Un.kept old
 loc:=by
  show#[m,l,λi x v h1 h2 O=>?_];let#[e1,E]:=ahL h1 h2;let#[j,F,G]:=FQ E;let y:(x,NameKind.free)∈scope.names:=PySem.mem_of_lookup e1;let hk:=S.free _ y rfl;let#[P,_,J]:=I.loc;let n:pB X.env.scope x:=.inr hk;let#[u,r,lk]:=J j x v F G n;show#[u,r,.inr #[Nu (env:=X.env) e1,?_]];obtain⟨k,_⟩|⟨_,c,e,z⟩:=lk
  .obtain hk|hk:=hk
   .let f:X.env.kindOf x=some .cell:=hk;rw[f]at k;cases k
   .let f:X.env.kindOf x=some .free:=hk;rw[f]at k;cases k
  .let#[L,B]:=Cg (env:=X.env) scope.names [] x (.inl y);let C:=S.cl I (x:=x) (c:=L) B;rw[e]at C;cases C;let#[o,q,hd]:=z;show#[c,B,o,old _ _ q,hd]
 cell:=λx c h=>by
  let#[v,o,q,hd]:=I.cell x c (S.cl I h);show#[v,o,old _ _ q,hd]
 free:=I.hok.fresh (ϭ _)
 freeC:=λx c h=>I.freeC x c (S.cl I h)
 pin:=λp M=>absurd (show p∈([]:List (δ×Obj))from M) (by simp)
 hok:=I.hok.kept old
 len:=by show(cO N' X.N σ scope).length=N'.length;unfold cO;rw[aav]
theorem ae8{i:St}(I:Inv X ϵ σ H s)(a:∀b∈fp,bC X ϵ H b)(J:Inv (cu X N' scope (ϔ scope X.env) s.heap.objs.size s H fp) [] i H' s'):Inv X ϵ σ H' s':=by
 let#[hh,g,d,t,f]:=s';let e:f=s.os:=J.os;subst e;show I.call (h':=hh) (g':=g) (d':=d) (t':=t) (ch:=fp) J.base J.hok J.bare λb c=>#[(a b c).2.2.2.1,(a b c).2.1,(a b c).2.2.2.2.1,(a b c).2.2.2.2.2]
variable{elt iter tg:Ϩ}{ifs:List Ϩ}{pos:Pos}
def jB(X Y:Cx)(tg elt:Ϩ)(ifs:List Ϩ)(J:It)(D:δ)(σ':St)(H:Hp)(Q:Hp->Prop):Prop:=
 ∃W:Nat->Nat->St->Hp->Prop,(∃m,W 0 m σ' (upd H D (.lst [])))/\∀i m e H,W i m e H->
  (J.stop i H/\Q H)\/(J.go i H/\∃N:St->Hp->Prop,(∀c H',N c H'->∃m',m'<m/\W (i+1) m' c H')/\∀x H',J.yld i H x H'->
   EG Y tg x e H' λa H2=>yM Y ifs a H2 λk f=>if k=true then EV Y elt a f λy g=>∃xs,g D=some (.lst xs)/\xs.length<ϰ/\N a (upd g D (.lst (xs++[y])))else N a f)
theorem Ah{R:ε->Env->Result->μ->Prop}{it:δ}{Y:Nat->ϫ->Prop}{J:It}{E:ε->μ->Prop}{Q:δ->Hp->Prop}(Fx:δ->Env->ε->μ->Prop)(hc:X.calm=true)(S:cV X.env scope)(I:Inv X ϵ σ H s)(T:Turn X.prog X.w X.K tg J fp it Y)(st:Y 0 s.heap)(hf:∀b∈fp,bC X ϵ H b)(au:∀D C x s',Fx D C x s'->notedBy (Ϧ X.prog X.w) X.A C (λx s'=>R (.ref D) C (.error x) s') x s')(h:∀(D:δ)(s3:μ),H D=none->Inv X ϵ σ (upd H D (.lst [])) s3->(∀b∈fp,bC X ϵ (upd H D (.lst [])) b)->
   (∀{pins':List (δ×Obj)}{j:St}{H':Hp}{s':μ},Inv (dU X N' scope (ϔ scope X.env) s3.heap.objs.size s3 (upd H D (.lst [])) fp (Fx D (compEnvC scope (ϔ scope X.env) s3.heap.objs.size X.env))) pins' j H' s'->Inv X ϵ σ H' s')->
   jB X (dU X N' scope (ϔ scope X.env) s3.heap.objs.size s3 (upd H D (.lst [])) fp (Fx D (compEnvC scope (ϔ scope X.env) s3.heap.objs.size X.env))) tg elt ifs J D (cO N' X.N σ scope) H (Q D))(hR:∀(D:δ)(C:Env)(H':Hp)(s':μ),H D=none->Q D H'->Inv X ϵ σ H' s'->bC X ϵ H' C.locals->(∃m,s'.heap.Ns C.locals m)->R (.ref D) C (.ok .next) s'):ν (Ϧ X.prog X.w) X.A (newList []) (λab ac=>ν (Ϧ X.prog X.w) X.A (newFunctionEnv scope X.env.globals (ϔ scope X.env) [] X.env.qual none .none (some X.env)) (λcenv ae=>
   codeAny (Ϧ X.prog X.w) X.A (.compStart (.ListComp elt [#[tg,iter,ifs,0]] scope pos) 0 (.ref it) ab {cenv with scope:=relabel scope X.env}) (R ab {cenv with scope:=relabel scope X.env}) ae) E ac) E s:=by
 show aiL ?_;let hD:H s.heap.objs.size=none:=I.hok.fresh (ϭ _);generalize U:({s with heap:=s.heap.push {cls:=.type "list",dict:=none,data:=.seq ([]:List ε).toArray}}:μ)=s3;let Z:Inv X ϵ σ (upd H s.heap.objs.size (.lst [])) s3:=by
  subst U;show I.laid (t':=s.toks) (λb u e=>ϴ _ e) (ϭ _) #[agn _,[],0,.nil,abb _ rfl]
 let hsz:s3.heap.objs.size=s.heap.objs.size+1:=by subst U;show aiO ..
 let af:∀b o,s.heap.get? b=some o->s3.heap.get? b=some o:=λb o e=>by subst U;show ϴ _ e
 let Jl:∀b∈fp,b<s.heap.objs.size:=λb a=>by
  let#[o,e,_]:=T.obj _ _ st b a;show abL e
 let mK:∀b∈fp,bC X ϵ (upd H s.heap.objs.size (.lst [])) b:=λb a=>#[by rw[ο (adv (Jl b a))];show(hf b a).1,(hf b a).2]
 let av:Y 0 s3.heap:=T.keep _ _ _ st λb _ o e=>af b o e
 let W2:∀b∈fp,b<s3.heap.objs.size:=λb a=>by rw[hsz];show anl (Jl b a)
 show wpAny_newFunctionEnv S.cell (by intro y hy;simp at hy) (λO aw ax=>?_) S.kind;let yd:∀b o,s3.heap.get? b=some o->O.get? b=some o:=λb o e=>ax.extBut b o (adv (abL e)) (ϴ _ e)
 let L:=h s.heap.objs.size s3 hD Z mK;generalize lB:compEnvC scope (ϔ scope X.env) s3.heap.objs.size X.env=Ce at L;generalize hF:Fx s.heap.objs.size Ce=F at L;let qY:Ce.locals=s3.heap.objs.size:=by rw[<-lB];rfl
 generalize l:cu X N' scope (ϔ scope X.env) s3.heap.objs.size s3 (upd H s.heap.objs.size (.lst [])) fp=B;generalize Pj:({s3 with heap:=O,toks:=s3.toks+([]:List (Str×ε)).length}:μ)=s4;let Sy:Inv B [] (cO N' X.N σ scope) (upd H s.heap.objs.size (.lst [])) s4:=by
  subst Pj;rw[<-l];show afd S Z mK W2 aw yd
 let ag:B.pn=[]:=by rw[<-l];rfl
 let ah:∀{pins':List (δ×Obj)}{j:St}{H':Hp}{s':μ},Inv (B.tri F []) pins' j H' s'->Inv X ϵ σ H' s':=λ{pins' j H' s'} J=>by
  let J2:Inv B [] j H' s':=Inv.j6 (X:=B) (ϵ:=[]) (F:=F) (pins':=pins') Sy.ok (by rw[ag];show J);rw[<-l]at J2;show ae8 Z mK J2
 let hP:(B.tri F []).prog=X.prog:=by rw[<-l];rfl
 let hw:(B.tri F []).w=X.w:=by rw[<-l];rfl
 let hK:(B.tri F []).K=X.K:=by rw[<-l];rfl
 let hA:(B.tri F []).A=X.A:=by rw[<-l];rfl
 let J7:(B.tri F []).calm=true:=by rw[<-l];show hc
 let ai:(B.tri F []).env=Ce:=by rw[<-l, <-lB];rfl
 let P:(B.tri F []).env.locals=s3.heap.objs.size:=by rw[ai,qY]
 rw[show dU X N' scope (ϔ scope X.env) s3.heap.objs.size s3 (upd H s.heap.objs.size (.lst [])) fp F=B.tri F []from by rw[<-l]]at L;let#[W,#[m0,w0],turn]:=L ah;let I4:Inv (B.tri F []) [] (cO N' X.N σ scope) (upd H s.heap.objs.size (.lst [])) s4:=by
  have:=Sy.tri (F:=F);rw[ag]at this;show this
 let Ms:Y 0 s4.heap:=by
  subst Pj;show T.keep _ _ _ av λb _ o e=>yd b o e
 let za:∀b∈fp,∀H':Hp,H' b=none->bC (B.tri F []) [] H' b:=λb a H' e=>by
  rw[<-l];show#[e,adv (W2 b a),λz=>?_,.inl a,λx c q=>(mK b a).2.2.2.2.1 x c (S.cl Z q),λp hp=>absurd (show p∈([]:List (δ×Obj))from hp) (by simp)];rcases ϲ.mp (Z.stkSub b z)with e|e
  .show(hf b a).2.1 e
  .show(hf b a).2.2.1 e
 let G:codeAny (Ϧ X.prog X.w) X.A (.compLoop (.ListComp elt [#[tg,iter,ifs,0]] scope pos) 0 (.ref it) (.ref s.heap.objs.size) Ce) (R (.ref s.heap.objs.size) Ce) s4:=by
  show abh (Er:=F) (λn s'=>∃i j H',Inv (B.tri F []) [] j H' s'/\Y i s'.heap/\(∀b∈fp,H' b=none)/\W i n j H') (λx s z=>au _ _ x s (by rw[hF];show z)) ?_ m0 #[0,_,_,I4,Ms,λb a=>(mK b a).1,w0]
  rintro n s5 ⟨i,j,H5,I5,al,am,w5⟩
  let M:∀{α:Type}{t:Sem α}{Q:α->μ->Prop}{s:μ},ν (Ϧ (B.tri F []).prog (B.tri F []).w) (B.tri F []).A t Q (B.tri F []).xe s->ν (Ϧ X.prog X.w) X.A t Q F s:=λh=>by
   rw[hP,hw,hA]at h;show h
  rw[<-ai];obtain⟨stop,qn⟩|⟨go,N,hN,step⟩:=turn i n j H5 w5
  .let q:=T.done (B.tri F []) hP hw hK J7 i [] s5 j H5 F I5 (λb a=>za b a _ (am b a)) al stop;rw[hA]at q;show χ q λr s6 f=>?_
   let#[hr,I6]:=f;subst hr;show hR _ _ H5 s6 hD qn (ah I6) ?_ ?_
   .rw[P];show Z.fpOk (ϭ _) ?_;have:=I6.free;rw[P]at this;show this
   .let#[m,hn,_]:=I6.loc;show#[m,hn]
  .let q:=T.item (B.tri F []) hP hw hK J7 i [] s5 j H5 F I5 (λb a=>za b a _ (am b a)) al go;rw[hA]at q;show χ q λr s6 f=>?_
   let#[u,hr,h6]:=f;subst hr;show χ h6 λ_ s7 f=>?_
   let#[x,H7,I7,r7,y7,zj,ay]:=f;let aC:=I7.pinned (λb a=>za b a _ (ay b a)) (T.obj _ _ zj);let J1:∀{ar:St}{H8:Hp}{s8:μ},Inv (B.tri F []) ([]++gq fp s7.heap) ar H8 s8->Y (i+1) s8.heap/\∀b∈fp,H8 b=none:=λ{ar H8 s8} I8=>by
    show#[T.keep _ _ _ zj λb a o e=>(I8.pin (b,o) (aeC _ (aeC _ (uB a e)))).1,λb a=>?_];let#[o,e,d]:=T.obj _ _ zj b a;show(I8.pin (b,o) (aeC _ (aeC _ (uB a e)))).2.1
   show M (χ (step x H7 y7 _ s7 u aC r7) λ_ s8 f=>?_);let#[g,H8,I8,q8]:=f;show M (χ (q8 _ s8 I8) λok s9 f=>?_);let#[H9,I9,q9]:=f;cases ok with
   |false=>
    let G9:N g H9:=by simpa using q9
    let#[m',hm,w9]:=hN _ _ G9;let#[k1,k2]:=J1 I9;show ∃m,_;show#[m',hm,i+1,g,H9,I9.unpinned,k1,k2,w9]
   |true=>
    let G9:EV (B.tri F []) elt g H9 λy H4=>∃xs,H4 s.heap.objs.size=some (.lst xs)/\xs.length<ϰ/\N g (upd H4 s.heap.objs.size (.lst (xs++[y]))):=by simpa using q9
    show ν _ _ _ _ _ _;show M (χ (G9 _ s9 I9) λz cY f=>?_);let#[y,iY,aD,aE,xs,aI,aS,aT]:=f;show M (χ (zq _ cY g iY (.ref s.heap.objs.size) [y] _ [z] (λv qZ=>v=.non/\qZ=upd iY s.heap.objs.size (.lst (xs++[y]))) aD rfl (.cons aE .nil) #[_,xs,y,rfl,rfl,aI,aS,rfl,rfl]) λ_ uQ f=>?_);let#[_,qZ,HS,_,_,a0]:=f;subst a0;let#[m',hm,a1]:=hN _ _ aT;let#[k1,k2]:=J1 HS;show#[m',hm,i+1,g,_,HS.unpinned,k1,k2,a1]
 rw[<-lB]at G;show codeAny_compStart_list G (T.self X.A 0 s4 _ _ Ms G)
theorem wu{Q:VK}(l:X.calm=true)(S:cV X.env scope)(hs:∀x,foldedSetIterable iter X.env x=pure x)(h:EI X tg iter σ H λJ H1=>∀(fp:List δ)(D C:δ)(a:μ),H1 D=none->jB X (cu X N' scope (ϔ scope X.env) C a (upd H1 D (.lst [])) fp) tg elt ifs J D (cO N' X.N σ scope) H1 (λH'=>Q (.ref D) H')):EV X (.ListComp elt [#[tg,iter,ifs,0]] scope pos) σ H Q:=by
 intro ϵ s I;rw[eval_ListComp];show Hh (use:=none) rfl hs (Af (S.has I)) S.kind S.loc (χ (h ϵ s I) λv P h1=>χ h1 λn U h2=>?_);let#[it,fp,W,J,H2,e,p,T,c,q,u]:=h2;subst e;show Ah (λ_ _ _ _=>False) (R:=λf C=>qK (Ϧ X.prog X.w) X.A X.xe none (EP X ϵ σ Q) f C) (Q:=λD H'=>Q (.ref D) H') l S p T c q (λ_ _ _ _ z=>z.elim) (λD a j _ _ _=>u fp D _ a j) λD C H' s' j y IX B g=>?_
 let#[m,g]:=g;let#[E,F,Y,G,L,M]:=B;show#[m,g,λh' i=>#[.ref D,H',IX.turned (t':=s'.toks) (λb o O e=>i.extBut b o O e) E F G L M,rfl,y]]
theorem Xr{D:Ends}{y:Str}{py spos:Pos}{j:Nat}(c:am6 (.ListComp elt [#[tg,iter,ifs,0]] scope pos) (some (.Name y py)) spos.line X.env=pure true)(L:X.calm=true)(S:cV X.env scope)(hs:∀x,foldedSetIterable iter X.env x=pure x)(M:X.N.Nodup)(hi:nameAt X.N y=some j)(u:X.env.scope.names.lookup y=some .local)(h:EI X tg iter σ H λJ H1=>∀(fp:List δ)(E C:δ)(f:μ),H1 E=none->jB X (cu X N' scope (ϔ scope X.env) C f (upd H1 E (.lst [])) fp) tg elt ifs J E (cO N' X.N σ scope) H1 (λH'=>D.nx (σ.set j (some (.ref E))) H')):SX X (.Assign [.Name y py] (.ListComp elt [#[tg,iter,ifs,0]] scope pos) spos) D σ H:=by
 intro ϵ s I;rw[exec_Assign_Name_used _ _ _ _ c];show π (wpAny_standAt (π ?_));show ν _ X.A (do let _<-comprehension (.ListComp elt [#[tg,iter,ifs,0]] scope pos) scope X.env _ (newList []) false (eval iter X.env) (some (assign (.Name y py) X.env))) _ _ s;show π (aef (Hh (use:=some (assign (.Name y py) X.env)) (Q:=λ_ s'=>SP X ϵ D .next s') rfl hs (Af (S.has I)) S.kind S.loc
  (χ (h ϵ s I) λv s1 h1=>χ h1 λO s2 h2=>?_)) (λ_ s' P=>ϯ (ϯ P)) λ_ _ e=>e)
 let#[it,fp,tn,J,H2,e,U,T,g,W,Y]:=h2;subst e;show Ah (λ_ _ _ _=>False) (R:=λi C=>qK (Ϧ X.prog X.w) X.A X.xe (some (assign (.Name y py) X.env)) (λ_ s'=>SP X ϵ D .next s') i C) (Q:=λE H'=>D.nx (σ.set j (some (.ref E))) H') L S U T g W (λ_ _ _ _ z=>z.elim) (λE f B _ _ _=>Y fp E _ f B) λE C H' s' B Z IX fC l=>?_
 let#[m,l]:=l;let#[f0,F,Ia,f3,G,f5]:=fC;show ν _ _ (assign (.Name y py) X.env (.ref E)) _ _ _;show wpAny_assign_Name (oO IX M (jM hi) (.inl u) (v:=.ref E) rfl (λn Dr p=>?_) (.inr u));let#[a,sb,ha]:=p;let zZ:C.locals≠a:=by
  obtain ha|ha:=ha
  .rw[ha];show F
  .intro z;show G y a ha z.symm
 show#[m,l.sameBut sb zZ,λh' q=>#[σ.set j (some (.ref E)),H',Dr.turned (t':=n.toks) (λb o p e=>q.extBut b o p e) f0 F f3 G f5,Z]]
theorem Va{Q:Bool->Hp->Prop}(q:Q true H):yM X [] σ H Q:=λϵ s I=>by
 rw[anm];show ϯ #[H,I,q]
theorem ag0{c:Ϩ}{Q:Bool->Hp->Prop}(h:ET X c σ H Q):yM X [c] σ H Q:=λϵ s I=>by
 rw[amn];simp only[if_true];show π (π (χ (h ϵ s I) λk a q=>ϯ ?_));dsimp only;rw[anm];show ϯ q
end
theorem Η{c A B:Prop}[Decidable c](h1:c->A)(h2:¬c->B):if decide c=true then A else B:=by
 by_cases h:c
 .rw[if_pos (decide_eq_true h)];show h1 h
 .rw[if_neg (by simpa using h)];show h2 h
theorem cG{c A B:Prop}[Decidable c](q:B)(h:¬c:=by fin2):if decide c=true then A else B:=Η (λz=>absurd z h) λ_=>q
theorem eV{c A B:Prop}[Decidable c](q:A)(h:c:=by rfl):if decide c=true then A else B:=Η (λ_=>q) λz=>absurd h z
theorem dJ{c A B:Prop}[Decidable c](h1:¬c->A)(h2:c->B):if(!decide c)=true then A else B:=by
 by_cases h:c
 .rw[if_neg (by simp[h])];show h2 h
 .rw[if_pos (by simp[h])];show h1 h
theorem ji{k:Bool}{A B:Prop}(h1:k=true->A)(h2:k=false->B):if k=true then A else B:=by
 cases k with
 |true=>rw[if_pos rfl];show h1 rfl
 |false=>rw[if_neg aaN];show h2 rfl
theorem Zd{k:Bool}{A B:Prop}(h1:k=false->A)(h2:k=true->B):if(!k)=true then A else B:=by
 cases k with
 |true=>rw[if_neg (by decide)];show h2 rfl
 |false=>rw[if_pos (by decide)];show h1 rfl
theorem abY{A B:Prop}(h:B):if(!true)=true then A else B:=by rw[if_neg (by decide)];show h
theorem ajL{A B:Prop}(h:A):if(!false)=true then A else B:=by rw[if_pos (by decide)];show h
theorem ζ.upd{H:Hp}{p:δ}{o:HO}(h:H p=none):ζ H (_L.upd H p o):=λb u e=>by rw[ο (Ϗ e h)];show e
theorem ϒ{H:Hp}{p:δ}(h:H p=none)(o:HO):ζ H (upd H p o)/\(upd H p o) p=some o:=#[ζ.upd h,υ]
section
variable{X:Cx}{a e:Ϩ}{σ:St}{H:Hp}{Q:VK}{D:Ends}{pos p p':Pos}
theorem zA{tg:Ϩ}{body:List ϧ}(j:akX (Ϧ X.prog X.w) X.A X.env X.xe)(l:X.calm=true)(m:Gl X "range")(o:X.mg "range"=none)(hs:abo [a] X.env=[(false,eval a X.env)])(h:EV X a σ H λv H1=>∃n:Int,v=.int n/\ -(2^62)<=n/\n<2^62/\∃c:Nat->St->Hp->Prop,c 0 σ H1/\
   (∀i σ' H',i<n.toNat->c i σ' H'->EG X tg (.int i) σ' H' λe H2=>Ο X body {D with nx:=c (i+1),ct:=c (i+1),bk:=D.nx} e H2)/\∀σ' H',c n.toNat σ' H'->D.nx σ' H'):SX X (.For tg (.Call (.Name "range" p) [a] [] p') body [] pos) D σ H:=by
 show lC j l (by intro _;rfl) (YT m o hs (eF hs (aG h λv H1 q=>?_)));let#[n,rfl,h1,h2,c,s,f,hd]:=q;show jT #[n,rfl,h1,h2,?_];show aeb (g:=EG X tg) (tb:=Ο X body) c s (λi σ' H' hi u=>by rw[apq];show f i σ' H' hi u) hd
theorem uv{tg:Ϩ}{body:List ϧ}(j:akX (Ϧ X.prog X.w) X.A X.env X.xe)(l:X.calm=true)(hs:∀x,foldedSetIterable e X.env x=pure x)(h:EV X e σ H λv H1=>∃q xs,v=.ref q/\η X.K H1 q xs/\∃a:Nat->St->Hp->Prop,a 0 σ H1/\(∀i σ' H',i<=xs.length->a i σ' H'->η X.K H' q xs)/\
   (∀i x σ' H',xs[i]?=some x->a i σ' H'->EG X tg x σ' H' λc H2=>Ο X body {D with nx:=a (i+1),ct:=a (i+1),bk:=D.nx} c H2)/\∀σ' H',a xs.length σ' H'->D.nx σ' H'):SX X (.For tg e body [] pos) D σ H:=by
 show lC j l hs (tO (aG h λv H1 q=>?_));let#[q,xs,rfl,m,a,n,o,f,hd]:=q;show#[q,rfl,#[xs,m],ahH (g:=EG X tg) (tb:=Ο X body) a n o f hd]
theorem afq{tg:Ϩ}{body:List ϧ}(l:akX (Ϧ X.prog X.w) X.A X.env X.xe)(n:X.calm=true)(hs:∀x,foldedSetIterable e X.env x=pure x)(h:EV X e σ H λv H1=>∃z:Str,v=.str z/\∃a:Nat->St->Hp->Prop,a 0 σ H1/\
   (∀i c σ' H',z.cps.toList[i]?=some c->a i σ' H'->EG X tg (.str #[#v[c]]) σ' H' λf H2=>Ο X body {D with nx:=a (i+1),ct:=a (i+1),bk:=D.nx} f H2)/\∀σ' H',a z.cps.toList.length σ' H'->D.nx σ' H'):SX X (.For tg e body [] pos) D σ H:=by
 show lC l n hs (O2 (aG h λv H1 q=>?_));let#[z,rfl,a,o,j,hd]:=q;show#[z,rfl,λi m σ H=>m=z.cps.size-i/\i<=z.cps.size/\a i σ H,#[z.cps.size,by simp,agn _,o],?_]
 rintro i m σ' H' ⟨rfl,hi,p⟩
 by_cases g:i<z.cps.size
 .show .inr #[g,a (i+1),λf H2 p2=>#[z.cps.size-(i+1),(),rfl,g,p2],λx H2 y=>?_];let#[e1,c,s,u]:=y;subst e1 u;show j i c σ' _ (by simpa using s) p
 .let e:i=z.cps.size:=()
  subst e;show .inl #[ϭ _,hd σ' H' (by simpa using p)]
theorem aa6{Y:Cx}{elt:Ϩ}{J:It}{E:δ}{f:St}{Q:Hp->Prop}{y:Str}{py:Pos}{j:Nat}(T:Y.N.Nodup)(U:nameAt Y.N y=some j)(L:Y.env.scope.names.lookup y=some .local)(n:Nat)(hn:n<=ϰ)(q:Nat->V->Prop)(It:Nat->V->Prop)(M:H E=none)(go:∀i H1,ζ (upd H E (.lst [])) (upd H1 E (.lst []))->i<n->J.go i H1)(stop:∀H1,ζ (upd H E (.lst [])) (upd H1 E (.lst []))->J.stop n H1)(yld:∀i H1 x H2,i<n->ζ (upd H E (.lst [])) (upd H1 E (.lst []))->J.yld i H1 x H2->It i x/\H2=H1)(step:∀i x H1,i<n->It i x->ζ H H1->EV Y elt (f.set j (some x)) H1 λv H2=>q i v/\ζ H1 H2)(fin:∀H1 xs,xs.length=n->(∀i v,xs[i]?=some v->q i v)->H1 E=some (.lst xs)->ζ H H1->Q H1):jB X Y (.Name y py) elt [] J E f H Q:=by
 let C:∀{H1:Hp},ζ H H1->ζ (upd H E (.lst [])) (upd H1 E (.lst [])):=λ{H1} s b o e=>by
  by_cases O:b=E
  .subst O;rw[υ]at e⊢;show e
  .rw[ο O]at e⊢;show s b o e
 show#[λi m B H1=>m=n-i/\i<=n/\ζ H H1/\(B=f\/∃x,B=f.set j (some x))/\∃xs,H1 E=some (.lst xs)/\xs.length=i/\∀k v,xs[k]?=some v->q k v,#[n,by simp,agn _,ζ.upd M,.inl rfl,[],υ,rfl,λk v e=>by simp at e],?_]
 rintro i m B H1 ⟨rfl,hi,p,D,xs,P,F,R⟩
 by_cases g:i<n
 .show .inr #[go i H1 (C p) g,λl H'=>ζ H H'/\(l=f\/∃x,l=f.set j (some x))/\∃xs,H' E=some (.lst xs)/\xs.length=i+1/\∀k v,xs[k]?=some v->q k v,λl H' ⟨a,b,c⟩=>#[n-(i+1),(),rfl,g,a,b,c],λx H2 y=>?_];let#[W,Z]:=yld i H1 x H2 g (C p) y;subst Z;show Α T U (.inl L) (.inr L) (Va ?_);rw[if_pos rfl];let G:B.set j (some x)=f.set j (some x):=by
   obtain e|⟨z,e⟩:=D
   .rw[e]
   .rw[e,List.set_set]
  rw[G];show aG (step i x H2 g W p) λv H3 ⟨pv,S⟩=>#[xs,S _ _ P,(),?_]
  show#[λb o e=>?_,.inr #[x,rfl],xs++[v],υ,by simp[F],λk u e=>?_]
  .rw[ο (Ϗ e M)];show S _ _ (p _ _ e)
  .by_cases hk:k<xs.length
   .rw[akE hk]at e;show R k u e
   .let I:k=i:=by
     have:=(aai.mp e).1;rw[abK,afe]at this;omega
    subst I;rw[<-F,amr]at e;cases e;show pv
 .let e:i=n:=()
  subst e;show .inl #[stop H1 (C p),fin H1 xs F R P p]
theorem ado{elt:Ϩ}{scope:ahU}{y:Str}{py:Pos}{j:Nat}(N':List Str){σ':St}(m:cO N' X.N σ scope=σ')(u:X.calm=true)(S:cV X.env scope)(B:N'.Nodup)(D:nameAt N' y=some j)(F:scope.names.lookup y=some .local)(hs:∀x,foldedSetIterable e X.env x=pure x)(h:EV X e σ H λv H1=>∃z:Str,v=.str z/\z.cps.size<=ϰ/\∃f:Nat->V->Prop,
   (∀(fp:List δ)(E C:δ)(g:μ)(G:Hp)(i c:Nat)(H2:Hp),z.cps.toList[i]?=some c->ζ H1 H2->EV (cu X N' scope (ϔ scope X.env) C g G fp) elt (σ'.set j (some (.str #[#v[c]]))) H2 λv I=>f i v/\ζ H2 I)/\
   ∀(E:δ)(H2:Hp)(xs:List V),H1 E=none->xs.length=z.cps.size->(∀i v,xs[i]?=some v->f i v)->H2 E=some (.lst xs)->ζ H1 H2->Q (.ref E) H2):EV X (.ListComp elt [#[.Name y py,e,[],0]] scope pos) σ H Q:=by
 show wu (N':=N') u S hs (O2 (aG h λv H1 q=>?_));let#[z,rfl,h2,f,n,a]:=q;show#[z,rfl,λfp E C g p=>?_];rw[m];show aa6 (Y:=cu X N' scope (ϔ scope X.env) C g (upd H1 E (.lst [])) fp) B D (lookup_relabel_local F) z.cps.size h2 f (λi x=>∃c,z.cps.toList[i]?=some c/\x=.str #[#v[c]]) p (λi _ _ hi=>hi) (λ_ _=>ϭ _) (λi H1 x H2 _ _ J=>?_) (λi x H2 hi ex s=>?_) (λH2 xs l L M s=>a E H2 xs p l L M s)
 .let#[e1,c,o,O]:=J;show#[#[c,by simpa using o,O],e1]
 .let#[c,e1,o]:=ex;subst o;show n fp E C g _ i c H2 e1 s
end
section
variable{P:Ϯ}{w:Ϭ}{K:ϩ}{mg:Str->Option ε}{base:ϫ}{cc:Bool}
abbrev iM(cc:Bool)(P:Ϯ)(w:Ϭ)(K:ϩ)(mg:Str->Option ε)(base:ϫ)(N:List Str)(qual:Str)(scope:ahU)(f:δ)(cd:ε)(A:ϳ)(outer:List Env)(s:μ)(H:Hp)(E:XK):Cx:=
 kO cc (b7 P w) P w K mg base N qual scope f cd A outer s H E
theorem Fz{x qual:Str}{st:ϧ}{ps N:List Str}{k:Nat}{sp:Sp}{f:δ}{fd:ah2}(F:cH K x qual st f fd)(S:Ρ N ps (ω st))(len:∀vs H Q E,sp vs H Q E->vs.length=ps.length)(body:∀(a:ε)(A:ϳ)(outer:List Env)(s:μ)(H:Hp)(vs:List V)(Q:VK)(E:XK),ϖ cc k (A.deeper (envOfC qual (ω st) s.heap.objs.size f a))->sp vs H Q E->
   Ο (iM cc P w K mg base N qual (ω st) f a A outer s H E) (aB st) {nx:=λ_ H'=>Q .non H',rt:=Q} (start N vs) H):cT P w K mg base (b7 P w) cc (k+1) f fd ps sp:=by
 let#[oc,od,kV,e,pm,an,a,ct,g,rfl,lk,c]:=id F.ex;show Il lk c S len λA outer s H vs Q E i h=>#[_,FJ,body a A outer s H vs Q E i h]
theorem Γ{x:Str}{st:ϧ}{ps N:List Str}{k:Nat}{sp:Sp}(F:∃f fd,cH K x x st f fd/\mg x=some (.ref f))(body:∀(f:δ)(a:ε)(A:ϳ)(outer:List Env)(s:μ)(H:Hp)(vs:List V)(Q:VK)(E:XK),ϖ cc k (A.deeper (envOfC x (ω st) s.heap.objs.size f a))->sp vs H Q E->
   let X:=iM cc P w K mg base N x (ω st) f a A outer s H E;let D:Ends:={nx:=λ_ H'=>Q .non H',rt:=Q};Ο X (aB st) D (start N vs) H)(S:Ρ N ps (ω st):=by show#[rfl,rfl,rfl,by fin2,rfl,by fin2,by fin2])(e:∀(kV c pm:ε)(an:Option δ)(a ct:ε)(us:List ε),us.length=ps.length->bindArgs (aoE x x (jP st) (aB st) (ω st) .none kV c pm an a ct) #[us,[]]=pure (ps.zip us):=by walk_at"bb")(len:∀vs H Q E,sp vs H Q E->vs.length=ps.length:=by walk_at"ln"):Def P w K mg base cc (k+1) x ps sp:=by
 let#[f,fd,F,g]:=F;show#[f,fd,g,F.kp,F.binds e,Fz F S len λa A outer s H vs Q E i h=>body f a A outer s H vs Q E i h]
end
def Ι(z:Str)(lo hi:Option Int):Str:=#[((z.cps.toList.drop (_H.Β z.length 0 lo)).take (_H.Β z.length z.length hi-_H.Β z.length 0 lo)).toArray]
theorem vI(n d:Nat)(v:Int):max 0 (min (if v<0 then v+(n:Int)else v) (n:Int))=((_H.Β n d (some v):Nat):Int):=by
 rw[<-_H.Gb];split <;>omega
theorem Pu(lo hi:Option Int)(n:Nat):Builtin.Str.strSliceIndices lo hi 1 n=(aeZ (_H.Β n n hi-_H.Β n 0 lo)).map (λm=>_H.Β n 0 lo+m):=by
 let e:Builtin.Str.strSliceIndices lo hi 1 n=sliceRange ((_H.Β n 0 lo:Nat):Int) ((_H.Β n n hi:Nat):Int) 1:=by
  cases lo with
  |none=>
   cases hi with
   |none=>rfl
   |some v=>rw[<-vI n n v];rfl
  |some u=>
   cases hi with
   |none=>rw[<-vI n 0 u];rfl
   |some v=>rw[<-vI n 0 u, <-vI n n v];rfl
 rw[e];generalize _H.Β n 0 lo=a;generalize _H.Β n n hi=b;by_cases h:a<=b
 .have :=StrLaws.strSliceIndices_plain (len:=b) h (ϭ b);rw[<-this];let c:Builtin.Str.strSliceIndices (some (a:Int)) (some (b:Int)) 1 b=sliceRange (a:Int) (b:Int) 1:=by
   let h1:¬((a:Int)<0):=()
   let h2:¬((b:Int)<0):=()
   let e1:max (0:Int) (min (a:Int) (b:Int))=a:=()
   let c:max (0:Int) (min (b:Int) (b:Int))=b:=()
   simp only[Builtin.Str.strSliceIndices,h1,h2,if_false,e1,c,show((1:Int)>0)=True from by simp,if_true]
  rw[c]
 .let f:b-a=0:=()
  rw[f];have:¬((a:Int)<b):=()
  simp[sliceRange,this]
theorem Yh(z:Str)(lo hi:Option Int):(#[((Builtin.Str.strSliceIndices lo hi 1 z.length).filterMap (z.cps[·]?)).toArray]:Str)=Ι z lo hi:=by
 rw[Pu];unfold Ι;let h1:=_H.Br z.length z.length (ϭ _) hi;let c:z.cps.toList.length=z.length:=by simp[anM]
 by_cases h:_H.Β z.length 0 lo<=_H.Β z.length z.length hi
 .have :=StrLaws.picks z.cps.toList (_H.Β z.length z.length hi-_H.Β z.length 0 lo) (_H.Β z.length 0 lo) ();rw[<-this];simp
 .let a:_H.Β z.length z.length hi-_H.Β z.length 0 lo=0:=()
  rw[a];simp
theorem MF{v:ε}{o:Option Int}(h:IsPart v o):∃l:Option (Int×Tok),v=partValue l/\l.map (·.1)=o:=by
 cases h with
 |none=>show#[none,rfl,rfl]
 |int i t=>show#[some (i,t),rfl,rfl]
theorem ahG{X:Cx}:rF X (λx lo hi H Q=>∃z,x=.str z/\z.length<=ϰ/\Q (.str (Ι z lo hi)) H):=by
 intro ϵ s σ H x v D E lo hi sl Q I rx hs pl m h;let#[z,rfl,G,q]:=h;let#[t,rfl]:=rx;show#["str",_,F.slot_str_getitem.lookup,am3 s z t,?_];let#[l,rfl,rfl]:=MF pl;let#[u,rfl,rfl]:=MF m;let g:s.heap.IsSlice sl l u none:=by
  let#[o,n,p,hd]:=hs;show#[o,n,p,hd]
 show wpAny_getItem_str_slice g rfl ?_;let e:(slicePicked z l u none)=Builtin.Str.strSliceIndices (l.map (·.1)) (u.map (·.1)) 1 z.length:=rfl;unfold sliceMade;let i:(#[((slicePicked z l u none).filterMap (z.cps[·]?)).toArray]:Str)=Ι z (l.map (·.1)) (u.map (·.1)):=by rw[e];show Yh z _ _
 split
 .rename_i hh;let f:(slicePicked z l u none).length=z.length:=by
   simp only[aa2,beq_iff_eq]at hh;show hh.2
  let a:Ι z (l.map (·.1)) (u.map (·.1))=z:=by
   rw[e,Pu,aav,anO]at f;let h1:=_H.Br z.length z.length (ϭ _) (u.map (·.1));let J:z.cps.toList.length=z.length:=by simp[anM]
   unfold Ι;by_cases y:z.length=0
   .have :z.cps.toList=[]:=List.eq_nil_of_length_eq_zero ();rw[this];let j:z.cps= #v[]:=by
     have:=congrArg ae0 this;simpa using this
    let#[c]:=z;simp at j;subst j;simp
   .let B:_H.Β z.length 0 (l.map (·.1))=0:=()
    let C:_H.Β z.length z.length (u.map (·.1))=z.length:=()
    rw[B,C,amW,anE,ahv ()]
  show#[.str (Ι z (l.map (·.1)) (u.map (·.1))),H,I,#[t,by rw[a]],q]
 .rw[i];show#[?_,.str (Ι z (l.map (·.1)) (u.map (·.1))),H,I.tok _,#[_,rfl],q];have:(Ι z (l.map (·.1)) (u.map (·.1))).length<=z.length:=by
   unfold Ι anM;simp;omega
  omega
section
variable{X:Cx}{H:Hp}{Q:VK}{z y:Str}
theorem gZ{lo hi:Option Int}(h:z.length<=ϰ)(g:Q (.str (Ι z lo hi)) H):SL X (.str z) lo hi H Q:=#[_,ahG,z,rfl,h,g]
theorem iW{id:String}{r:V->List V->Hp->VK->Prop}{x:V}{xs:List V}(h:GR X id r)(q:r x xs H Q):MT X id x xs H Q:=#[r,h,q]
theorem Nt{ys:List Str}:∀{us:List ε},Vals (ys.map V.str) us->StrsAre us ys:=by
 induction ys with
 |nil=>intro us r;cases r;show .nil
 |cons y ys a=>
  intro us r;cases r with
  |cons r c=>
   let#[t,rfl]:=r;show .cons y t (a c)
theorem rW{q:δ}{ys:List Str}(h:η X.K H q (ys.map V.str))(a:(ys.map (·.length)).sum+ys.length*z.length<=16777216)(g:Q (.str (aeM z ys)) H):MT X "str.join" (.str z) [.ref q] H Q:=by
 show iW (r:=λx xs H Q=>∃z q ys,x=.str z/\xs=[.ref q]/\η X.K H q (ys.map V.str)/\(ys.map (·.length)).sum+ys.length*z.length<=16777216/\Q (.str (aeM z ys)) H) ?_ #[z,q,ys,rfl,rfl,h,a,g];intro ϵ s σ H x xs v us Q I rx rs h;let#[z,q,ys,rfl,rfl,h,a,g]:=h;let#[t,rfl]:=rx;let#[u,rfl,c]:=vals1 rs;cases(show u=Value.ref q from c);let#[i,f,pl,_]:=I.list h;show join_list pl.isList (by simpa using Nt f) a λt' k=>#[.str (aeM z ys),H,I.tok k,#[t',?_],g]
 let e:Txt.join z ys=aeM z ys:=by
  unfold Txt.join;cases ys with
  |nil=>rfl
  |cons y r=>show StrLaws.glued_cons z r y
 rw[e]
theorem acB{i:Nat}{rest:List Nat}(h:Builtin.Str.occurrences z y 0 z.length 1=i::rest)(g:Q (.int i) H):MT X "str.index" (.str z) [.str y] H Q:=by
 show iW (r:=λx xs H Q=>∃z y i rest,x=.str z/\xs=[.str y]/\Builtin.Str.occurrences z y 0 z.length 1=i::rest/\Q (.int (i:Nat)) H) ?_ #[z,y,i,rest,rfl,rfl,h,g];intro ϵ s σ H x xs v us Q I rx rs h;let#[z,y,i,rest,rfl,rfl,h,g]:=h;let#[t,rfl]:=rx;let#[u,rfl,a]:=vals1 rs;let#[t',rfl]:=a;show call_gives F.slot_str_index (am3 _ _ _) F.entry_str_index (F.args_str_index_2 _ _) (gives_str_index z y t t' i rest h) #[.int i,H,I.tok _,#[_,rfl],g]
theorem RW(g:Q (.bl (Txt.startswith z y)) H):MT X "str.startswith" (.str z) [.str y] H Q:=by
 show iW (r:=λx xs H Q=>∃z y,x=.str z/\xs=[.str y]/\Q (.bl (Txt.startswith z y)) H) ?_ #[z,y,rfl,rfl,g];intro ϵ s σ H x xs v us Q I rx rs h;let#[z,y,rfl,rfl,g]:=h;let#[t,rfl]:=rx;let#[u,rfl,a]:=vals1 rs;let#[t',rfl]:=a;show SC.startswith #[.bl _,H,I,rfl,g]
theorem W6{q:δ}{bs:List Bool}(z:X.calm=true)(h:η X.K H q (bs.map V.bl))(g:Q (.bl (bs.all id)) H):CL X (.builtin "all") [.ref q] H Q:=by
 show dB (r:=λxs H Q=>∃q bs,xs=[.ref q]/\η X.K H q (bs.map V.bl)/\Q (.bl (bs.all id)) H) ?_ #[q,bs,rfl,h,g];intro ϵ s σ H xs us Q I r h;let#[q,bs,rfl,h,g]:=h;let#[u,rfl,B]:=vals1 r;cases(show u=Value.ref q from B);let#[c,y,pl,J]:=I.list h;show call_all_walk (akt pl.isList ?_);let m:q<s.heap.objs.size:=by
  let#[o,n,_]:=pl.isList;show abL n
 let a:c.length=bs.length:=by have:=y.length;rw[aav]at this;show this.symm
 show#[s.heap.objs.size,[s.heap.objs.size,q],[s.heap.objs.size],c.toArray.size,(λi v=>c.toArray[i]?=some v),(λi h=>h.IsListIter s.heap.objs.size q i/\h.IsList q c.toArray),λi=>bs.getD i true,rfl,Walks.list (A:=X.A.in1) (show X.A.in1.handled=none from I.ok.hd z) s.heap.objs.size q (adv m) c.toArray,#[#[_,abb _ rfl,rfl,rfl],?_],?_,λh' tk C=>?_]
 .let#[o,n,r]:=pl.isList;show#[o,ϴ _ n,r]
 .intro i v s Q E D m;let f:c[i]?=some v:=by simpa using D
  let hi:i<bs.length:=by rw[<-a];show(aai.mp f).1
  let#[u,e1,F]:=y.get (i:=i) (x:=V.bl bs[i]) (by simp[hi]);rw[f]at e1;cases e1;cases(show v=Value.bool bs[i]from F);show ahw ?_;have:bs.getD i true=bs[i]:=by simp[hi]
  let j:Q (bs.getD i true) s:=m;rw[this]at j;show j
 .let e:(aeZ c.toArray.size).all (λi=>bs.getD i true)=bs.all id:=by
   rw[aa8,a,ahR,acX,acX];constructor
   .intro h b p;let#[i,hi,e]:=aow p;have:=h i (by simpa using hi);simpa [hi,e]using this
   .intro h i hi;let l:i<bs.length:=by simpa using hi
    have:=h bs[i] (agJ l);simpa [l]using this
  rw[e];let fp:=I.fpOk (ϭ _) (I.hok.fresh (ϭ _));let G:Inv X ϵ σ H {s with heap:=s.heap.push {cls:=.type "list_iterator",data:=.fields #v[.ref q,.int 0 0]}}:=I.kept (t':=s.toks) λb o e=>ϴ _ e
  show#[.bl _,H,G.turned (it:=s.heap.objs.size) (λb o p e=>C b o (by simpa using p) e) (I.hok.fresh (ϭ _)) fp.2.1 fp.2.2.2.1 fp.2.2.2.2.1 fp.2.2.2.2.2,rfl,g]
end
theorem du{env:Env}{scope:ahU}(sc:ahU)(c:env.scope=sc:=by rfl)(f:scope.kind=.function:=by rfl)(h:(scope.names.all λy=>(if y.2==.free then(sc.names.lookup y.1==some .cell||sc.names.lookup y.1==some .free)else true)&&y.2 !=.cell&&(if y.2==.local then scope.names.lookup y.1==some .local else true))=true:=by fin2):cV env scope:=by
 let h':=acX.mp h;show#[f,λy a e=>?_,λy a e=>?_,λy a e=>?_]
 .let q:=h' y a;simp only[e,beq_self_eq_true,if_true,aa2,anb,beq_iff_eq]at q;show env.scope.names.lookup y.1=_\/env.scope.names.lookup y.1=_;rw[c];show q.1.1
 .let q:=h' y a;rw[e]at q;simp at q
 .let q:=h' y a;simp only[e,aa2,beq_iff_eq,beq_self_eq_true,if_true]at q;show q.2
theorem jD{α:Type}{xs:List V}{ys:List α}(f:α->V)(g:xs.length=ys.length)(h:∀(i:Nat) v,xs[i]?=some v->∃c,ys[i]?=some c/\v=f c):xs=ys.map f:=by
 apply List.ext_getElem?;intro i;rw[abD];cases e:xs[i]? with
 |none=>
  have:xs.length<=i:=List.getElem?_eq_none_iff.mp e;rw[anq ()];rfl
 |some v=>
  let#[c,e1,a]:=h i v e;rw[e1,a];rfl
section
variable{X:Cx}{H:Hp}{Q:VK}
end
def EJ(X:Cx)(vs:List Ϩ)(out:Str)(σ:St)(H:Hp)(Q:VK):Prop:=
 ∀(ϵ:List (δ×Obj))(s:μ),Inv X ϵ σ H s->ν (Ϧ X.prog X.w) X.A (joinParts out (evalEach vs X.env)) (EP X ϵ σ Q) X.xe s
section
variable{X:Cx}{σ:St}{H:Hp}{Q:VK}{v v₁ v₂:Ϩ}{rest:List Ϩ}{pos:Pos}{out:Str}
end
def xJ(X:Cx)(vs:List Ϩ)(n:Nat)(σ:St)(H:Hp)(R:Hp->Prop):=∀out:Str,out.length<=n->∀Q:VK,(∀z H',R H'->Q (.str z) H')->EJ X vs out σ H Q
section
variable{X:Cx}{σ:St}{H:Hp}{Q:VK}{R:Hp->Prop}{v v₁ v₂:Ϩ}{rest:List Ϩ}{pos:Pos}{n:Nat}
end
abbrev iZ:List ε:=[.type "ValueError",.type "Exception",.type "BaseException",.type "object"]
def θ(mg:Str->Option ε)(x:Str):δ:=match mg x with
 |some (.ref C)=>C
 |_=>0
theorem cF{mg:Str->Option ε}{x:Str}{C:δ}(h:mg x=some (.ref C)):θ mg x=C:=by unfold θ;rw[h]
structure v8(K:ϩ)(mg:Str->Option ε)(x:Str):Prop where
 at_:mg x=some (.ref (θ mg x))
 ex:apv K (θ mg x) iZ "ValueError.__new__"=true
theorem ae4{K:ϩ}{mg:Str->Option ε}{x:Str}{C:δ}(h:mg x=some (.ref C))(e:apv K C iZ "ValueError.__new__"=true):v8 K mg x:=by
 let z:θ mg x=C:=by unfold θ;rw[h]
 show#[by rw[z];show h,by rw[z];show e]
theorem ajD{K:ϩ}{h:ϫ}{N:δ}{mg:Str->Option ε}{n:Str}{v:ε}(X:K.In h)(G:h.Ns N mg)(e:apg K N n=some (some v)):mg n=some v:=by
 let#[o,es,ep,a,hd,_,f]:=G;unfold apg at e;split at e
 .rename_i c d g j sl q;have:=X _ _ q;rw[a]at this;cases this;cases hd;split at e
  .rename_i l i;cases e;rw[<-f];unfold nsFind findBy;rw[<-aoB,i];rfl
  .split at e<;>cases e
 .cases e
def Bd(K:ϩ)(C:δ)(i:Option ε):Bool:=match K.lookup C with
 |some ⟨.type "type",_,.cls cd,sl⟩=>(match cd.mro,sl.toList with
  |.ref a::bm,[_,_,_,_,some (.builtin n),_]=>a==C&&n=="ValueError.__new__"&& !cd.hasDel&&W.tailIn K iZ bm&&W.nsOkIn K cd.ns&&apg K cd.ns "__init__"==some i
  |_,_=>false)
 |_=>false
theorem ai3{K:ϩ}{C:δ}{h:ϫ}{i:Option ε}(kin:K.In h)(e:Bd K C i=true):∃bm N nm q bs hdct sn sub ab col dd k0 k1 k2 k3 k5 mN,h.get? C=some (excClassObj nm q C N bs bm hdct sn sub ab col dd k0 k1 k2 k3 k5 "ValueError.__new__")/\h.Ns N mN/\mN "__init__"=i/\OwnTail h iZ bm:=by
 unfold Bd at e;split at e
 .rename_i dd cd sl m;split at e
  .rename_i z bm k0 k1 k2 k3 n k5 f hs;simp only[aa2,beq_iff_eq,Bool.not_eq_true']at e;let#[#[#[#[#[e1,o],g],p],a],c]:=e;subst e1 o;let#[nm,bs,s,ns,u,hd,sn,sub,ab,col,x]:=cd;dsimp only at f g a c;subst f g;let y:sl= #v[k0,k1,k2,k3,some (.builtin "ValueError.__new__"),k5]:=by
    let#[l]:=sl;simp only at hs;rw[hs]
   subst y;let j:h.Ns ns (h.nsMap ns):=.of_isNs (W.isNs_of_in kin a);show#[bm,ns,nm,u,bs,hd,sn,sub,ab,col,dd,k0,k1,k2,k3,k5,_,kin _ _ m,j,?_,W.tail_of_in kin p];cases i with
   |none=>show W.nsMap_none_of_in kin a c
   |some v=>show ajD kin j c
  .cases e
 .cases e
theorem aaw{K:ϩ}{C:δ}{h:ϫ}(kin:K.In h)(e:apv K C iZ "ValueError.__new__"=true):∃bm N nm q bs hdct sn sub ab col dd k0 k1 k2 k3 k5 mN,h.get? C=some (excClassObj nm q C N bs bm hdct sn sub ab col dd k0 k1 k2 k3 k5 "ValueError.__new__")/\h.Ns N mN/\mN "__init__"=none/\OwnTail h iZ bm:=ai3 kin e
section
variable{X:Cx}{Kx:St->XK}{D:Ends}{σ:St}{H:Hp}{x:Str}{np cpos pos:Pos}{e:Ϩ}{es:List Ϩ}
theorem P0(j:b8 X Kx)(O:v8 X.K X.mg x)(h:EA X (e::es) σ H λvs H1=>vs.length<=ϰ/\Kx σ (.ref (θ X.mg x)) (none,true) H1)(l:X.calm=true:=by rfl)(m:Gl X x:=by rfl)(hd:(x==("__debug__":Str))=false:=by decide)(i:abo (e::es) X.env=(false,eval e X.env)::abo es X.env:=by rfl)(f:(backTo cpos (abo es X.env)).any (·.1)=false:=by rfl):SX X (.Raise (some (.Call (.Name x np) (e::es) [] cpos)) none pos) D σ H:=by
 intro ϵ s I;let#[bm,N,nm,q,bs,hdct,sn,sub,ab,col,dd,k0,k1,k2,k3,k5,mN,n,o,g,T]:=aaw I.ok.mod.kin O.ex;show wpAny_Raise_call_subT (C:=θ X.mg x) (nm:=nm) (q:=q) (N:=N) (bs:=bs) (bm:=bm) (hdct:=hdct) (sn:=sn) (sub:=sub) (ab:=ab) (col:=col) (dd:=dd) (k0:=k0) (k1:=k1) (k2:=k2) (k3:=k3) (k5:=k5)
  F.excBase_ValueError (mN:=mN) (T.hasType (by fin2)) (I.ok.hd l) ?_ g (pO I m O.at_ #[rfl,?_] hd)
 .rw[i];show(false||(backTo cpos (abo es X.env)).any (·.1))=false;rw[f];rfl
 .let h':=h cpos ϵ s I;rw[i]at h'⊢;show Calls.evalArgs_plain (χ h' λus p ⟨vs,H1,c,r,u,v⟩=>#[rfl,by rw[<-r.length];show u,c.bk _ _ n,o.keeps c.bk,T.keeps c.bk,λE a M=>?_]);let#[t,y,G,J]:=M.there;show j ϵ σ H1 _ a _ (none,true) #[c.kept (t':=p.toks) M.keeps,none,.none,#[_,_,y,rfl,rfl,rfl,rfl,by simp,Ctx.yes rfl,λT z=>nomatch z],.inl rfl,λb B=>?_] v;let z:b=a:=by simpa using B
  subst z;show#[c.hok.free M.new,c.ch M.new]
end
abbrev Cx.iy(X:Cx)(e:ε)(F:ε->μ->Prop)(pn:List (δ×Obj)):Cx:={X with A:=X.A.mark (some e),calm:=false,xe:=F,pn:=pn}
section
variable{X:Cx}{ϵ pins':List (δ×Obj)}{σ:St}{H:Hp}{s:μ}{F:ε->μ->Prop}{e:ε}
theorem Cx.Ok.iy(ok:X.Ok)(pn:List (δ×Obj)):(X.iy e F pn).Ok:=
 #[ok.mod,ok.kind,ok.glob,ok.blt,ok.above,ok.inj,ok.has,ok.cab,(λz=>nomatch z),ok.frames,ok.stk,ok.exf,ok.bs,ok.bsz,ok.noex,ok.exfs,ok.funs,ok.frf]
theorem Inv.iy(I:Inv X ϵ σ H s):Inv (X.iy e F (X.pn++ϵ)) [] σ H s:=
 #[I.ok.iy _,I.os,I.bare,I.base,I.loc,I.cell,I.free,I.freeC,λp a=>I.pin p (by simpa using a),I.hok,I.len]
theorem Inv.vp(ok:X.Ok)(I:Inv (X.iy e F (X.pn++ϵ)) pins' σ H s):Inv X ϵ σ H s:=
 #[ok,I.os,I.bare,I.base,I.loc,I.cell,I.free,I.freeC,λp a=>I.pin p (aiM _ a),I.hok,I.len]
theorem Ch.j6{b:δ}(c:Ch (X.tri F (X.pn++ϵ)) pins' b):Ch X ϵ b:=#[c.1,c.2.1,c.2.2.1,λp a=>c.2.2.2 p (aiM _ a)]
end
def EH(X:Cx)(hs:List alD)(D:Ends)(σ:St)(cls:ε)(d:Option δ×Bool)(H:Hp):Prop:=
 ∀(ϵ:List (δ×Obj))(s:μ)(e T:δ),Inv X ϵ σ H s->bH s.heap e cls d (some T) .none->(∀b∈[e,T],H b=none/\Ch X ϵ b)->
  ν (Ϧ X.prog X.w) X.A (handleBy (.ref e) X.env hs) (SP X ϵ D) X.xe s
section
variable{X:Cx}{D:Ends}{σ:St}{H:Hp}{h₀:alD}{hs rest:List alD}{body orelse suite:List ϧ}{b₀:ϧ}{pos np:Pos}{x n:Str}{cls c:ε}{d:Option δ×Bool}
theorem GD(Kx:St->XK)(c:X.stack=X.env::X.outer)(l:X.env.frame=some X.env.locals)(a:∀F pn,b8 (X.tri F pn) Kx->akX (Ϧ X.prog X.w) X.A X.env F->Ο (X.tri F pn) body {D with nx:=λσ' H'=>Ο X orelse D σ' H'} σ H)(hh:∀σ' cls d H',Kx σ' cls d H'->EH X (h₀::hs) D σ' cls d H'):SX X (.Try body (h₀::hs) orelse [] pos) D σ H:=by
 intro ϵ s I;show wpAny_Try_except ?_;show aef (a (λe g=>ν (Ϧ X.prog X.w) X.A (noteFrame e X.env) (λ_ j=>ν (Ϧ X.prog X.w) X.A (setFlight e none) (λ_ m=>ν (Ϧ X.prog X.w) X.A (handleBy e X.env (h₀::hs)) (SP X ϵ D) X.xe m) X.xe j) X.xe g)
  (X.pn++ϵ) ?_ PassesOwn.looking [] s I.tri) (λf g q=>?_) λ_ _ q=>q
 .intro pins' σ' H' s' e cls d n q;let#[o,tb,p,x,i,ch]:=n;let y:=Inv.j6 I.ok o;show ug.note (X:=X) (ϵ:=ϵ) #[y,tb,p,x,i,λb a=>#[(ch b a).1,(ch b a).2.j6]] c l λj T z F3 c3=>?_
  show z.off F3 c3 λB C E=>hh σ' cls d H' q ϵ B e T C E c3
 .cases f with
  |next=>
   let#[σ',H',J,q]:=q;show q ϵ g (Inv.j6 I.ok J)
  |brk=>
   let#[σ',H',J,q]:=q;show#[σ',H',Inv.j6 I.ok J,q]
  |cont=>
   let#[σ',H',J,q]:=q;show#[σ',H',Inv.j6 I.ok J,q]
  |ret u=>
   let#[v,σ',H',J,r,q]:=q;show#[v,σ',H',Inv.j6 I.ok J,r,q]
theorem bH.ty{M:Model}{h:ϫ}{e:δ}{tb:Option δ}{a:ε}(F:bH h e cls d tb a):W.Looks M h (typeOf (.ref e)) cls:=by
 let#[g,vs,c,f,_]:=F;subst f;show(W.Looks.ld c).andThen .now
theorem agv{X:Cx}{ϵ:List (δ×Obj)}{s:μ}{e:δ}{tb:Option δ}{a:ε}{k:Bool}{R:Result->μ->Prop}(I:Inv X ϵ σ H s)(F:bH s.heap e cls d tb a)(f:Gl X x)(g:X.mg x=some c)(hd:(x==("__debug__":Str))=false)(ex:aoF X.K cls c=some k)(h:R (.ok (if k then .brk else .next)) s):codeAny (Ϧ X.prog X.w) (X.A.mark (some (.ref e))) (.handlers (.ref e) [.ExceptHandler (some (.Name x np)) none [] pos] X.env) R s:=by
 show codeAny_handlers_test ?_;let J:Inv (X.iy (.ref e) X.xe (X.pn++ϵ)) [] σ H s:=I.iy;show pO (X:=X.iy (.ref e) X.xe (X.pn++ϵ)) J f g ((W.exm_one I.kIn F.ty ex).here h) hd
end
mutual
inductive RD (K:ϩ) (H:Hp):V->PyData->Prop
 |non:RD K H .non .none
 |bl (b:Bool):RD K H (.bl b) (.bool b)
 |int (i:Int):RD K H (.int i) (.int i)
 |str (x:Str):RD K H (.str x) (.str x)
 |lst {a:δ} {xs:List V} {ds:List PyData} (h:η K H a xs) (r:fW K H xs ds):RD K H (.ref a) (.list ds)
 |tup {a:δ} {xs:List V} {ds:List PyData} (h:ρ K H a xs) (r:fW K H xs ds):RD K H (.ref a) (.tuple ds)
inductive fW (K:ϩ) (H:Hp):List V->List PyData->Prop
 |nil:fW K H [] []
 |cons {x:V} {d:PyData} {xs:List V} {ds:List PyData} (h:RD K H x d) (r:fW K H xs ds):fW K H (x::xs) (d::ds)
end
mutual
theorem RD.reads{X:Cx}{ϵ:List (δ×Obj)}{σ:St}{H:Hp}{s:μ}(I:Inv X ϵ σ H s):∀{v:V}{d:PyData}{u:ε},RD X.K H v d->RelV v u->∃as,Reads s.heap u d as
 |_,_,_,.non,e=>by cases(show _=Value.none from e);show#[_,.none]
 |_,_,_,.bl b,e=>by cases(show _=Value.bool b from e);show#[_,.bool b]
 |_,_,_,.int i,e=>by let#[t,rfl]:=e;show#[_,.int i t]
 |_,_,_,.str x,e=>by let#[t,rfl]:=e;show#[_,.str x t]
 |_,_,_,.lst h r,e=>by
  cases(show _=Value.ref _ from e);let#[g,a,pl,_]:=I.list h;let#[as,q]:=fW.reads I r a;let#[o,c,f,n,hd]:=pl.isList;show#[_,.list c f hd (by simpa using q)]
 |_,_,_,.tup h r,e=>by
  cases(show _=Value.ref _ from e);let#[g,a,tp,_]:=I.tuple h;let#[as,q]:=fW.reads I r a;let#[o,c,f,n,hd]:=tp;show#[_,.tuple c f hd (by simpa using q)]
theorem fW.reads{X:Cx}{ϵ:List (δ×Obj)}{σ:St}{H:Hp}{s:μ}(I:Inv X ϵ σ H s):∀{vs:List V}{ds:List PyData}{us:List ε},fW X.K H vs ds->Vals vs us->∃as,ReadsAll s.heap us ds as
 |_,_,_,.nil,.nil=>#[_,.nil]
 |_,_,_,.cons h r,.cons e t=>by
  let#[as,q]:=RD.reads I h e;let#[bs,a]:=fW.reads I r t;show#[_,.cons q a]
end
section
variable{X:Cx}{H:Hp}{Q:VK}{x y:V}{d d':PyData}
theorem Z5(g:X.A.units+64<cLine)(a:RD X.K H x d)(c:RD X.K H y d')(h1:d.canLay0=true)(h2:d'.canLay0=true)(hd:d.depth<=60)(q:Q (.bl (PyData.eqv d d')) H):OP X (ad7 .Eq) x y H Q:=by
 show#[λx y H Q=>RD X.K H x d/\RD X.K H y d'/\Q (.bl (PyData.eqv d d')) H,?_,a,c,q];intro ϵ s σ H x y v u Q I rx ry ⟨a,c,q⟩;let#[as,e]:=RD.reads I a rx;let#[bs,f]:=RD.reads I c ry;show SeqAt.rcAt_reads e f h1 h2 (by have:=ao7 d.depth d'.depth;omega) X.prog X.w X.xe _ #[.bl _,H,I,rfl,q]
theorem ahT(g:X.A.units+64<cLine)(a:RD X.K H x d)(c:RD X.K H y d')(h1:d.canLay0=true)(h2:d'.canLay0=true)(hd:d.depth<=60)(q:Q (.bl (!PyData.eqv d d')) H):OP X (ad7 .NotEq) x y H Q:=by
 show#[λx y H Q=>RD X.K H x d/\RD X.K H y d'/\Q (.bl (!PyData.eqv d d')) H,?_,a,c,q];intro ϵ s σ H x y v u Q I rx ry ⟨a,c,q⟩;let#[as,e]:=RD.reads I a rx;let#[bs,f]:=RD.reads I c ry;show SeqAt.rcNeAt_reads e f h1 h2 (by have:=ao7 d.depth d'.depth;omega) X.prog X.w X.xe _ #[.bl _,H,I,rfl,q]
end
def ajQ(l:List ϧ)(i:Nat):ϧ:=l.getD i (.Pass #[0,0,0,0])
theorem ZP{A B:Prop}(h:A):if decide (V.non=V.non)=true then A else B:=by rw[if_pos (by decide)];show h
theorem abe{A B:Prop}{i:Int}(h:B):if decide (V.int i=V.non)=true then A else B:=by rw[if_neg (by simp)];show h
theorem adq{A B:Prop}{i:Str}(h:B):if decide (V.str i=V.non)=true then A else B:=by rw[if_neg (by simp)];show h
theorem Z3{A B:Prop}{i:δ}(h:B):if decide (V.ref i=V.non)=true then A else B:=by rw[if_neg (by simp)];show h
theorem afU{A B:Prop}(h:B):if(!decide (V.non=V.non))=true then A else B:=by rw[if_neg (by decide)];show h
theorem agI{A B:Prop}{i:Int}(h:A):if(!decide (V.int i=V.non))=true then A else B:=by rw[if_pos (by simp)];show h
theorem Zf{A B:Prop}{i:Str}(h:A):if(!decide (V.str i=V.non))=true then A else B:=by rw[if_pos (by simp)];show h
theorem aiy{X:Cx}{H:Hp}{Q:VK}{z:Str}{n:Int}(a:intText? z=some n)(c:z.length<=640)(q:Q (.int n) H):CL X (.type "int") [.str z] H Q:=by
 show dB (r:=λxs H Q=>∃z n,xs=[.str z]/\intText? z=some n/\z.length<=640/\Q (.int n) H) ?_ #[z,n,rfl,a,c,q];intro ϵ s σ H xs us Q I r h;let#[z,n,rfl,a,c,q]:=h;let#[u,rfl,e]:=vals1 r;let#[t,rfl]:=e;show W.KIN.call_text a c #[.int n,H,I.tok _,#[_,rfl],q]
section
variable{X:Cx}{e:Ϩ}{es:List Ϩ}{σ:St}{H:Hp}{Q:VK}{pos p:Pos}
def G7:List (Str×String):=[("len","len"),("isinstance","isinstance"),("all","all"),("any","any"),("min","min"),("max","max"),("abs","abs"),("sum","sum"),("sorted","sorted"),("ord","ord"),("divmod","divmod")]
def vB:List (Str×String):=[("str","str"),("list","list"),("tuple","tuple"),("int","int"),("set","set"),("bool","bool"),("dict","dict")]
theorem vQ{x:Str}{i:String}{P:Str×String->Prop}:∀{l:List (Str×String)},l.lookup x=some i->(∀p∈l,P p)->P (x,i)
 |[],e,_=>by cases e
 |(y,k)::l,e,h=>by
  rw[agB]at e;split at e
  .next q=>cases e;rw[beq_iff_eq.mp q];show h _ (by simp)
  .show vQ e λp a=>h p (by simp[a])
theorem abZ:∀p∈G7,bootBuiltins p.1=some (.builtin p.2)/\p.1≠"__name__"/\(p.1==("__debug__":Str))=false:=by
 simp only[G7,aor];show#[#[PySem.boot_len,by decide,by decide],#[PyProof.Rows.boot_isinstance,by decide,by decide],#[PyProof.Rows.boot_all,by decide,by decide],#[PyProof.Rows.boot_any,by decide,by decide],#[PyProof.Rows.boot_min,by decide,by decide],#[PyProof.Rows.boot_max,by decide,by decide],#[PyProof.Rows.boot_abs,by decide,by decide],#[PyProof.Rows.boot_sum,by decide,by decide],#[PyProof.Rows.boot_sorted,by decide,by decide],#[PyProof.Rows.boot_ord,by decide,by decide],#[PyProof.Rows.boot_divmod,by decide,by decide],(λ_ h=>by cases h)]
theorem Ig:∀p∈vB,bootBuiltins p.1=some (.type p.2)/\p.1≠"__name__"/\(p.1==("__debug__":Str))=false:=by
 simp only[vB,aor];show#[#[PyProof.Rows.boot_str,by decide,by decide],#[PyProof.Rows.boot_list,by decide,by decide],#[PyProof.Rows.boot_tuple,by decide,by decide],#[PyProof.Rows.boot_int,by decide,by decide],#[PyProof.Rows.boot_set,by decide,by decide],#[PyProof.Rows.boot_bool,by decide,by decide],#[PyProof.Rows.boot_dict,by decide,by decide],(λ_ h=>by cases h)]
variable{x:Str}{i:String}
theorem adm(g:G7.lookup x=some i)(j:Gl X x)(l:X.mg x=none)(m:abo (e::es) X.env=(false,eval e X.env)::abo es X.env)(f:(backTo pos (abo es X.env)).any (·.1)=false)(h:EA X (e::es) σ H λvs H1=>CL X (.builtin i) vs H1 Q):EV X (.Call (.Name x p) (e::es) [] pos) σ H Q:=by
 let#[a,b,c]:=vQ g abZ;show ajq j l a b c m f h
theorem agx(g:vB.lookup x=some i)(j:Gl X x)(l:X.mg x=none)(m:abo (e::es) X.env=(false,eval e X.env)::abo es X.env)(f:(backTo pos (abo es X.env)).any (·.1)=false)(h:EA X (e::es) σ H λvs H1=>CL X (.type i) vs H1 Q):EV X (.Call (.Name x p) (e::es) [] pos) σ H Q:=by
 let#[a,b,c]:=vQ g Ig;show agS j l a b c m f h
theorem aih(e:vB.lookup x=some i)(f:Gl X x)(g:X.mg x=none)(q:Q (.ty i) H):EV X (.Name x pos) σ H Q:=by
 let#[a,b,c]:=vQ e Ig;show aek f g a q b c
def VH:V->Option ε
 |.non=>some (.type "NoneType")|.bl _=>some (.type "bool")|.int _=>some (.type "int")|.str _=>some (.type "str")|_=>none
theorem ajt{K:ϩ}{y:V}{t:ε}(h:VH y=some t):di K H y t:=by
 cases y<;>cases h
 .show .non
 .show .bl _
 .show .int _
 .show .str _
theorem U7{y:V}{t:ε}{T:String}{k:Bool}(q:Q (.bl k) H)(h:VH y=some t:=by rfl)(e:anD X.K t (.type T)=some k:=by rfl):CL X (.builtin "isinstance") [y,.ty T] H Q:=aab (ajt h) e q
def Vm(X:Cx)(x:Str)(σ:St):Option V:=match X.env.scope.names.lookup x with
 |some .local=>if(x==("__debug__":Str))||(x==("__classdict__":Str))then none else fu X.N σ x
 |some .cell=>if(x==("__debug__":Str))||(x==("__classdict__":Str))then none else fu X.N σ x
 |some .free=>if(x==("__debug__":Str))||(x==("__classdict__":Str))then none else fu X.N σ x
 |_=>none
theorem aeF{v:V}(h:Vm X x σ=some v)(q:Q v H):EV X (.Name x pos) σ H Q:=by
 let a:pB X.env.scope x->(if(x==("__debug__":Str))||(x==("__classdict__":Str))then none else fu X.N σ x)=some v->EV X (.Name x pos) σ H Q:=λe h=>by
  split at h
  .cases h
  .next c=>
   rw[anb,not_or,aoV,aoV]at c;show ajo h e q c.1 c.2
 unfold Vm at h;split at h
 .show a (.inl ‹_›) h
 .show a (.inr (.inl ‹_›)) h
 .show a (.inr (.inr ‹_›)) h
 .cases h
end
section
variable{X:Cx}{ϵ:List (δ×Obj)}{σ:St}{H:Hp}{s:μ}
theorem Inv.BJ{ch:List δ}{T:δ}{xs:List V}{us:List ε}{h':ϫ}{tk:Nat}(I:Inv X ϵ σ H s)(g:∀b∈ch,bC X ϵ H b)(l:s.heap.objs.size<=T)(k:∀b o,b∉ch->s.heap.get? b=some o->h'.get? b=some o)(m:xs.length<=ϰ)(p:Vals xs us)(tp:IsTup h' T us.toArray):Inv X ϵ σ (upd H T (.tup xs)) {s with heap:=h',toks:=tk}:=by
 let f:=I.hok.fresh l;let neT:∀b o,s.heap.get? b=some o->b≠T:=λb o e z=>aiE _ (abM (abL e) (z▸l))
 let i:∀b u,H b=some u->b∉ch:=λb u e z=>by rw[(g b z).1]at e;cases e
 show I.call (g':=s.gens) (d':=s.drawn) (t':=tk) (ch:=ch) (h':=h') #[λb o e _ _ j=>k b o j e,λb o e _ _ j=>#[o.slots,k b o j e],λb o e n _=>?_,λb o e j=>#[o,k b o j e],λb ys e=>?_,λb o u e=>?_,λb ps e=>#[#v[],?_]] ?_ I.bare
  λb a=>#[(g b a).2.2.2.1,(g b a).2.1,(g b a).2.2.2.2.1,(g b a).2.2.2.2.2]
 .rw[ο (neT b o e)];show n
 .rw[ο (Ϗ e f)];show e
 .rw[ο (Ϗ e f)];show e
 .rw[ο (Ϗ e f),e];simp
 .intro b u e;by_cases a:b=T
  .subst a;rw[υ]at e;cases e;show#[m,us,p,tp]
  .rw[ο a]at e;show(I.hok b u e).stay (λc v x q=>k c v ?_ q) (λc q=>by rw[ο (Ϗ q f)];show q) (λc ys q=>by rw[ο (Ϗ q f)];show q) λc y v q=>by rw[ο (Ϗ q f)];show q
   obtain z|z:=x
   .subst z;show i c u e
   .show i c _ z
end
def Dt(K:ϩ)(l:δ):It:=
 #[λi H=>∃xs x,η K H l xs/\xs[i]?=some x,λi H v H'=>∃T x,v=.ref T/\H T=none/\H'=upd H T (.tup [.int i,x])/\∀xs,η K H l xs->xs[i]?=some x,λi H=>∃xs,η K H l xs/\xs.length<=i]
theorem aiH{P:Ϯ}{w:Ϭ}{K:PySem.W.Frag}{elts:List Ϩ}{k:Nat}{pos:Pos}(l e it:δ)(F:e≠it)(G:l≠e)(J:l≠it):Turn P w K (.Tuple elts k pos) (Dt K l) [e,it] e (λi h=>(∃old,IsEnum h e it i old)/\h.IsListIter it l i)where
 mem:=by simp
 obj:=λi h st b c=>by
  let#[#[old,a],o,f,_,hd]:=st;obtain z|z:=ϲ.mp c
  .subst z;show#[_,a,λv z=>by cases z]
  .let z':b=it:=by simpa using z
   subst z';show#[o,f,λv z=>by rw[hd]at z;cases z]
 keep:=λi h h' st kk=>by
  let#[#[old,a],o,f,r]:=st;show#[#[old,kk e (by simp) _ a],o,kk it (by simp) _ f,r]
 item:=by
  intro X L M O R i ϵ s σ H E I B st S;subst L M O;let#[#[old,a],g]:=st;let#[xs,x,C,j]:=S;let#[m,D,pl,hz]:=I.list C;let W:=WalksT.enumerate (prog:=X.prog) (w:=X.w) (A:=X.A) (I.ok.hd R) e it l F G J m.toArray;let hi:i<m.toArray.size:=by
   rw[aa8, <-D.length];show(aai.mp j).1
  let#[u,hu,ru]:=D.get j;show W.item i s _ _ hi #[#[old,a],g,pl.isList] λT vals h1 tk hp U tup n keep=>#[.ref T,rfl,?_]
  let#[t,y,ey,rfl]:=hp;let Y:y=u:=by
   have:m[i]?=some y:=by simpa using ey
   rw[hu]at this;show(Option.some.inj this).symm
  subst Y;show W.go elts k pos i T {s with heap:=h1,toks:=tk} _ _ n λh2 Z lq=>?_
  let#[#[ab,ac],p,_]:=Z;let ue:IsTup h2 T [Value.int i t,y].toArray:=by
   let#[o,f,r]:=tup;show#[o,lq T o (W.apart i T h1 n) f,r]
  show#[.ref T,upd H T (.tup [.int i,x]),I.BJ (ch:=[e,it]) (tk:=tk) B U (λb o c q=>lq b o c (keep b o c q)) Ζ (.cons #[t,rfl] (.cons ru .nil)) ue,rfl,?_,?_,λb c=>?_]
  .show#[T,x,rfl,I.hok.fresh U,rfl,λys hy=>?_];rw[<-I.list_inj C hy];show j
  .show#[#[ab,by simpa using ac],p]
  .have :b≠T:=λz=>by
    obtain⟨o,f,_⟩:∃o,s.heap.get? b=some o/\True:=by
     obtain z|z:=ϲ.mp c
     .subst z;show#[_,a,trivial]
     .let z':b=it:=by simpa using z
      subst z';let#[o,f,_]:=g;show#[o,f,trivial]
    show aiE _ (abM (abL f) (z▸U))
   rw[ο this];show(B b c).1
 done:=by
  intro X L M O R i ϵ s σ H E I B st S;subst L M O;let#[#[old,a],g]:=st;let#[xs,C,j]:=S;let#[m,D,pl,hz]:=I.list C;let hn:m.toArray[i]?=none:=aj4 (by rw[aa8, <-D.length];show j);show wpAny_pyNext_enum_end (I.ok.hd R) a g pl.isList hn λh' hk=>#[rfl,?_]
  let#[f0,f1,f2,f3,f4,f5]:=B it (by simp);show I.turned (t':=s.toks) (it:=it) (λb o c q=>hk b o c q) f0 f1 f3 f4 f5
 self:=λA i s Q E st h=>by
  let#[#[old,a],_]:=st;show wpAny_pyIter_enum a h
section
variable{X:Cx}{σ:St}{H:Hp}{a b:Ϩ}{elts:List Ϩ}{k:Nat}{tp p pos:Pos}{R:It->Hp->Prop}
theorem aaE(x:Gl X "enumerate")(y:X.mg "enumerate"=none)(hs:abo [a] X.env=[(false,eval a X.env)])(h:EV X a σ H λv H1=>∃l xs,v=.ref l/\H1 l=some (.lst xs)/\R (Dt X.K l) H1):EI X (.Tuple elts k tp) (.Call (.Name "enumerate" p) [a] [] pos) σ H R:=by
 intro ϵ s I;show Call_ (jh I x y boot_enumerate (PyProof.Rows.callWith_type1 (χ (eF (es:=[]) (QA:=λvs H1=>∃l xs,vs=[.ref l]/\H1 l=some (.lst xs)/\R (Dt X.K l) H1) hs (aG h λv H1 ⟨l,xs,e,B,C⟩=>jT #[l,xs,by rw[e],B,C]) pos ϵ s I) λus c D=>?_) hs rfl));let#[vs,H1,f,E,l,xs,e,F,q]:=D;subst e;let#[u,rfl,G]:=vals1 E;cases(show u=Value.ref l from G);let#[M,O,n,P,m]:=f.hok l _ F;show call_enumerate_1 m λh' o i hsz J=>?_
 show wpAny_pyIter_enum o ?_;let g:l<c.heap.objs.size:=abL m;show#[c.heap.objs.size+1,[c.heap.objs.size+1,c.heap.objs.size],_,_,H1,rfl,f.kept (t':=c.toks) J,aiH l _ _ (Nat.succ_ne_self _) (adv (anl g)) (adv g),#[#[_,o],i],λb L=>?_,q];let j:b=c.heap.objs.size+1\/b=c.heap.objs.size:=by simpa using L
 obtain z|z:=j<;>subst z
 .show f.fpOk (ank _) (f.hok.fresh (ank _))
 .show f.fpOk (ϭ _) (f.hok.fresh (ϭ _))
end
section
variable{X:Cx}{ϵ:List (δ×Obj)}{σ:St}{H:Hp}{s:μ}
theorem Inv.Pg{ch:List δ}{h':ϫ}{tk:Nat}(I:Inv X ϵ σ H s)(a:∀b∈ch,bC X ϵ H b)(k:∀b o,b∉ch->s.heap.get? b=some o->h'.get? b=some o):Inv X ϵ σ H {s with heap:=h',toks:=tk}:=by
 let f:∀b u,H b=some u->b∉ch:=λb u e z=>by rw[(a b z).1]at e;cases e
 show I.call (g':=s.gens) (d':=s.drawn) (t':=tk) (ch:=ch) (h':=h') #[λb o e _ _ g=>k b o g e,λb o e _ _ g=>#[o.slots,k b o g e],λb o e n _=>n,λb o e g=>#[o,k b o g e],λb ys e=>e,λb o u e=>e,λb ps e=>#[#v[],?_]] ?_ I.bare
  λb i=>#[(a b i).2.2.2.1,(a b i).2.1,(a b i).2.2.2.2.1,(a b i).2.2.2.2.2]
 .rw[e];simp
 .intro b u e;show(I.hok b u e).stay (λc v j q=>k c v ?_ q) (λc q=>q) λc ys q=>q
  obtain z|z:=j
  .subst z;show f c u e
  .show f c _ z
end
def Ft(K:ϩ)(l m:δ):It:=
 #[λi H=>∃xs ys x y,η K H l xs/\η K H m ys/\xs[i]?=some x/\ys[i]?=some y,
  λi H v H'=>∃T x y,v=.ref T/\H T=none/\H'=upd H T (.tup [x,y])/\(∀xs,η K H l xs->xs[i]?=some x)/\∀ys,η K H m ys->ys[i]?=some y,
  λi H=>∃xs ys,η K H l xs/\η K H m ys/\min xs.length ys.length<=i]
theorem YF{P:Ϯ}{w:Ϭ}{K:PySem.W.Frag}{elts:List Ϩ}{k:Nat}{pos:Pos}(z TI TO j n l m:δ)(D:ZipApart z TI TO j n l m):Turn P w K (.Tuple elts k pos) (Ft K l m) [z,TI,TO,j,n] z (λi h=>IsZip h z TI TO .none/\IsPair h TI (.ref j) (.ref n)/\(∃a b,IsPair h TO a b)/\h.IsListIter j l i/\h.IsListIter n m i)where
 mem:=by simp
 obj:=λi h st b g=>by
  let#[C,f,#[a,Z,c],#[o1,h1,_,d1],#[o2,h2,_,d2]]:=st;simp only[ϲ,ahh,or_false]at g;obtain e|e|e|e|e:=g<;>subst e
  .show#[_,C,λv z=>by cases z]
  .show#[_,f,λv z=>by cases z]
  .show#[_,c,λv z=>by cases z]
  .show#[_,h1,λv z=>by rw[d1]at z;cases z]
  .show#[_,h2,λv z=>by rw[d2]at z;cases z]
 keep:=λi h h' st kk=>by
  let#[C,f,#[a,Z,c],#[o1,h1,r1],#[o2,h2,r2]]:=st;show#[kk z (by simp) _ C,kk TI (by simp) _ f,#[a,Z,kk TO (by simp) _ c],#[o1,kk j (by simp) _ h1,r1],#[o2,kk n (by simp) _ h2,r2]]
 item:=by
  intro X hP hw hK hc i ϵ s σ H E I R st hg;subst hP hw hK;let#[C,f,c,h1,h2]:=st;let#[xs,ys,x,y,S,p,U,hy]:=hg;let#[F,Y,pl,hsz]:=I.list S;let#[its',B,zU,G]:=I.list p;let W:=WalksT.zip2 (prog:=X.prog) (w:=X.w) (A:=X.A) (I.ok.hd hc) z TI TO j n l m D F.toArray its'.toArray;let hi:i<min F.toArray.size its'.toArray.size:=by
   rw[aa8, <-Y.length,aa8, <-B.length];show Nat.lt_min.mpr #[(aai.mp U).1,(aai.mp hy).1]
  let#[u,hu,ru]:=Y.get U;let#[u',ab,Ao]:=B.get hy;show W.item i s _ _ hi #[C,f,c,h1,h2,pl.isList,zU.isList] λT vals hh tk hp hT tup J keep=>#[.ref T,rfl,?_]
  let#[v,v',ev,ac,rfl]:=hp;let e1:v=u:=by
   have:F[i]?=some v:=by simpa using ev
   rw[hu]at this;show(Option.some.inj this).symm
  let e2:v'=u':=by
   have:its'[i]?=some v':=by simpa using ac
   rw[ab]at this;show(Option.some.inj this).symm
  subst e1 e2;show W.go elts k pos i T {s with heap:=hh,toks:=tk} _ _ J λh3 ae lq=>?_
  let#[gz,af,ag,g1,g2,_]:=ae;let L:∀b,b∉[z,TI,TO,j,n]->b∉[z,TO,j,n]:=λb g M=>g (by simp at M⊢;obtain e|e|e|e:=M<;>simp[e])
  let ue:IsTup h3 T [v,v'].toArray:=by
   let#[o,ho,r]:=tup;show#[o,lq T o (W.apart i T hh J) ho,r]
  show#[.ref T,upd H T (.tup [x,y]),I.BJ (ch:=[z,TI,TO,j,n]) (tk:=tk) R hT (λb o g q=>lq b o (L b g) (keep b o (L b g) q)) Ζ (.cons ru (.cons Ao .nil)) ue,rfl,?_,#[gz,af,ag,g1,g2],λb g=>?_]
  .show#[T,x,y,rfl,I.hok.fresh hT,rfl,λa ha=>?_,λa ha=>?_]
   .rw[<-I.list_inj S ha];show U
   .rw[<-I.list_inj p ha];show hy
  .have :b≠T:=λq=>by
    obtain⟨o,ho⟩:∃o,s.heap.get? b=some o:=by
     let#[a,Z,c]:=c;let#[o1,h1,_]:=h1;let#[o2,h2,_]:=h2;simp only[ϲ,ahh,or_false]at g;obtain e|e|e|e|e:=g<;>subst e
     .show#[_,C]
     .show#[_,f]
     .show#[_,c]
     .show#[_,h1]
     .show#[_,h2]
    show aiE _ (abM (abL ho) (q▸hT))
   rw[ο this];show(R b g).1
 done:=by
  intro X hP hw hK hc i ϵ s σ H E I R st hg;subst hP hw hK;let#[C,f,#[a,b,c],h1,h2]:=st;let#[xs,ys,S,p,U]:=hg;let#[F,Y,pl,hsz]:=I.list S;let#[its',B,zU,G]:=I.list p;let O:F.toArray[i]?=none\/its'.toArray[i]?=none:=by
   by_cases q:xs.length<=i
   .show .inl (aj4 (by rw[aa8, <-Y.length];show q))
   .show .inr (aj4 (by rw[aa8, <-B.length];omega))
  show wpAny_pyNext_zip_end (I.ok.hd hc) D C f c h1 h2 pl.isList zU.isList O λh' hk=>#[rfl,?_]
  show I.Pg (tk:=s.toks) R λb o g q=>hk b o (λe=>g (by simp[e])) (λe=>g (by simp[e])) (λe=>g (by simp[e])) (λe=>g (by simp[e])) q
 self:=λA i s Q E st h=>wpAny_pyIter_zip st.1 h
theorem Xu(n l m:Nat)(h1:l<n)(h2:m<n):ZipApart (n+4) (n+2) (n+3) n (n+1) l m:=by
 constructor<;>(intro e;let a:(_:Nat)=_:=e;omega)
section
variable{X:Cx}{σ:St}{H:Hp}{a b:Ϩ}{elts:List Ϩ}{k:Nat}{tp p pos:Pos}{R:It->Hp->Prop}
theorem aba(B:Gl X "zip")(C:X.mg "zip"=none)(hs:abo [a,b] X.env=[(false,eval a X.env),(false,eval b X.env)])(c:abo [b] X.env=[(false,eval b X.env)])(h:EV X a σ H λv H1=>EV X b σ H1 λx H2=>∃l m xs ys,v=.ref l/\x=.ref m/\H2 l=some (.lst xs)/\H2 m=some (.lst ys)/\R (Ft X.K l m) H2):EI X (.Tuple elts k tp) (.Call (.Name "zip" p) [a,b] [] pos) σ H R:=by
 intro ϵ s I;show Call_ (jh I B C boot_zip (PyProof.Rows.callWith_type1 (χ (eF (es:=[b]) (QA:=λvs H1=>∃l m xs ys,vs=[.ref l,.ref m]/\H1 l=some (.lst xs)/\H1 m=some (.lst ys)/\R (Ft X.K l m) H1) (by rw[hs,c]) (aG h λv H1 q=>eF (es:=[]) c (aG q λx H2 ⟨l,m,xs,ys,e,D,E,F,G⟩=>jT #[l,m,xs,ys,by rw[e,D],E,F,G])) pos ϵ s I) λus f J=>?_) (by rw[hs,c]) (by rw[c];rfl)));let#[vs,H1,g,L,l,m,xs,ys,e,M,o,q]:=J;subst e;let#[u,O,rfl,P,Q]:=vals2 L;cases(show u=Value.ref l from P);cases(show O=Value.ref m from Q);let#[hz,S,n,rv,y]:=g.hok l _ M;let#[T,its',n',U,i]:=g.hok m _ o;show call_zip_2 (xs:=S.toArray) (ys:=its'.toArray) #[_,y,rfl,_,rfl] #[_,i,rfl,_,rfl] λh' h1 h2 W Y Z hsz hk=>?_
 show wpAny_pyIter_zip h1 ?_;show#[f.heap.objs.size+4,[f.heap.objs.size+4,f.heap.objs.size+2,f.heap.objs.size+3,f.heap.objs.size,f.heap.objs.size+1],_,_,H1,rfl,g.kept (t':=f.toks) hk,YF _ _ _ _ _ l m (Xu _ _ _ (abL y) (abL i)),#[h1,h2,#[_,_,W],Y,Z],λb z=>?_,q];let j:f.heap.objs.size<=b:=by
  simp only[ϲ,ahh,or_false]at z;obtain e|e|e|e|e:=z<;>subst e
  .show aj9 _ _
  .show aj9 _ _
  .show aj9 _ _
  .show ϭ _
  .show aj9 _ _
 show g.fpOk j (g.hok.fresh j)
end
section
variable{X:Cx}{a e:Ϩ}{σ:St}{H:Hp}{Q:VK}{D:Ends}{pos p p':Pos}
theorem RT{Y:Cx}{tg elt:Ϩ}{J:It}{E:δ}{z:St}{Q:Hp->Prop}(n:Nat)(hn:n<=ϰ)(B:St->Prop)(W:B z)(f:Nat->V->Hp->Prop)(U:H E=none)(mono:∀i v H1 H2 ys,H1 E=some (.lst ys)->(∀b o,b≠E->H1 b=some o->H2 b=some o)->f i v H1->f i v H2)(go:∀i H1,ζ H H1->i<n->J.go i H1)(stop:∀H1,ζ H H1->J.stop n H1)(step:∀i l x H1 H2,i<n->B l->ζ H H1->(∃ys,H1 E=some (.lst ys)/\ys.length=i/\∀k v,ys[k]?=some v->f k v H1)->J.yld i H1 x H2->EG Y tg x l H2 λg O=>EV Y elt g O λv p=>B g/\f i v p/\ζ H1 p)(fin:∀H1 xs,xs.length=n->(∀i v,xs[i]?=some v->f i v H1)->H1 E=some (.lst xs)->ζ H H1->Q H1):jB X Y tg elt [] J E z H Q:=by
 show#[λi m l H1=>m=n-i/\i<=n/\ζ H H1/\B l/\∃xs,H1 E=some (.lst xs)/\xs.length=i/\∀k v,xs[k]?=some v->f k v H1,#[n,by simp,agn _,ζ.upd U,W,[],υ,rfl,λk v e=>by simp at e],?_]
 rintro i m l H1 ⟨rfl,hi,C,P,xs,D,G,R⟩
 by_cases j:i<n
 .show .inr #[go i H1 C j,λF H'=>ζ H H'/\B F/\∃xs,H' E=some (.lst xs)/\xs.length=i+1/\∀k v,xs[k]?=some v->f k v H',λF H' ⟨a,b,c⟩=>#[n-(i+1),(),rfl,j,a,b,c],λx H2 y=>?_];intro ϵ s u I r;show χ (step i l x H1 H2 j P C #[xs,D,G,R] y ϵ s u I r) λ_ s' ⟨g,O,Z,q3⟩=>#[g,O,Z,Va ?_]
  rw[if_pos rfl];show aG q3 λv p ⟨t2,pv,L⟩=>#[xs,L _ _ D,(),?_]
  let mm:∀k M,f k M p->f k M (upd p E (.lst (xs++[v]))):=λk M q=>mono k M p _ xs (L _ _ D) (λb o S e=>by rw[ο S];show e) q
  show#[λb o e=>?_,t2,xs++[v],υ,by simp[G],λk u e=>?_]
  .rw[ο (Ϗ e U)];show L _ _ (C _ _ e)
  .by_cases hk:k<xs.length
   .rw[akE hk]at e;show mono k u H1 _ xs D (λb o S e=>?_) (R k u e);rw[ο S];show L _ _ e
   .let T:k=i:=by
     have:=(aai.mp e).1;rw[abK,afe]at this;omega
    subst T;rw[<-G,amr]at e;cases e;show mm _ _ pv
 .let e:i=n:=()
  subst e;show .inl #[stop H1 C,fin H1 xs G R D C]
variable{tg elt iter:Ϩ}{scope:ahU}{σ':St}
def xF(X:Cx)(N':List Str)(scope:ahU)(tg elt:Ϩ)(σ':St)(H1:Hp)(Q:VK)(n:Nat)(G:Nat->Hp->V->Hp->Prop):Prop:=
 ∃(f:St->Prop)(e:δ->Nat->V->Hp->Prop),f σ'/\
  (∀E i v H2 a ys,H2 E=some (.lst ys)->(∀b o,b≠E->H2 b=some o->a b=some o)->e E i v H2->e E i v a)/\
  (∀(fp:List δ)(E C:δ)(g:μ)(j:Hp)(i:Nat)(l:St)(x:V)(H2 a:Hp),H1 E=none->i<n->f l->ζ H1 H2->(∃ys,H2 E=some (.lst ys))->G i H2 x a->
   EG (cu X N' scope (ϔ scope X.env) C g j fp) tg x l a λc p=>EV (cu X N' scope (ϔ scope X.env) C g j fp) elt c p λv m=>f c/\e E i v m/\ζ H2 m)/\
  ∀(E:δ)(H2:Hp)(xs:List V),H1 E=none->xs.length=n->(∀i v,xs[i]?=some v->e E i v H2)->H2 E=some (.lst xs)->ζ H1 H2->Q (.ref E) H2
theorem Gj{N':List Str}{J:It}{n:Nat}{G:Nat->Hp->V->Hp->Prop}(f:n<=ϰ)(go:∀i H2,ζ H H2->i<n->J.go i H2)(stop:∀H2,ζ H H2->J.stop n H2)(g:∀i H2 x e,i<n->ζ H H2->J.yld i H2 x e->G i H2 x e)(h:xF X N' scope tg elt σ' H Q n G):∀(fp:List δ)(D C:δ)(a:μ),H D=none->jB X (cu X N' scope (ϔ scope X.env) C a (upd H D (.lst [])) fp) tg elt [] J D σ' H (λH'=>Q (.ref D) H'):=by
 intro fp E C a c;let#[j,m,t0,mono,step,fin]:=h;show RT n f j t0 (m E) c (λi v H1 H2 ys=>mono E i v H1 H2 ys) go stop (λi o x H1 H2 hi p hs q y=>step fp E C a _ i o x H1 H2 c hi p hs (q.imp λ_ z=>z.1) (g i H1 x H2 hi hs y)) λH1 xs l u B s=>fin E H1 xs c l u B s
theorem nW(N':List Str)(S:cV X.env scope)(h:EV X e σ H λv H1=>∃l xs,v=.ref l/\η X.K H1 l xs/\xs.length<=ϰ/\xF X N' scope tg elt σ' H1 Q xs.length λi H2 x f=>xs[i]?=some x/\H2=f)(c:cO N' X.N σ scope=σ':=by rfl)(g:X.calm=true:=by rfl)(hs:∀x,foldedSetIterable e X.env x=pure x:=by intro _;rfl):EV X (.ListComp elt [#[tg,e,[],0]] scope pos) σ H Q:=by
 show wu (N':=N') g S hs (tO (aG h λv H1 q=>?_));let#[l,xs,rfl,a,j,m]:=q;show#[l,rfl,#[xs,a],?_];rw[c];show Gj j (λi H2 s hi=>#[xs,xs[i],ζ.seq s a,aah hi]) (λH2 s=>#[xs,ζ.seq s a,ϭ _]) (λi H2 x f hi s y=>#[y.2 xs (ζ.seq s a),y.1.symm]) m
theorem Wh{b:Ϩ}{elts:List Ϩ}{k:Nat}{tp:Pos}(N':List Str)(S:cV X.env scope)(D:X.mg "zip"=none)(h:EV X a σ H λv H1=>EV X b σ H1 λo H2=>∃l m xs ys,v=.ref l/\o=.ref m/\H2 l=some (.lst xs)/\H2 m=some (.lst ys)/\min xs.length ys.length<=ϰ/\
   xF X N' scope (.Tuple elts k tp) elt σ' H2 Q (min xs.length ys.length) λi c x B=>∃T y z,x=.ref T/\c T=none/\B=upd c T (.tup [y,z])/\xs[i]?=some y/\ys[i]?=some z)(f:cO N' X.N σ scope=σ':=by rfl)(E:X.calm=true:=by rfl)(F:Gl X "zip":=by rfl)(hs:abo [a,b] X.env=[(false,eval a X.env),(false,eval b X.env)]:=by rfl)(g:abo [b] X.env=[(false,eval b X.env)]:=by rfl):EV X (.ListComp elt [#[.Tuple elts k tp,.Call (.Name "zip" p) [a,b] [] p',[],0]] scope pos) σ H Q:=by
 show wu (N':=N') E S (by intro _;rfl) (aba F D hs g (aG h λv H1 q=>aG q λo H2 q=>?_));let#[l,m,xs,ys,e1,G,C,e,h2,I]:=q;show#[l,m,xs,ys,e1,G,C,e,?_];rw[f];let j:η X.K H2 l xs:=.inl (.inl C);let n:η X.K H2 m ys:=.inl (.inl e);show Gj h2 (λi c s hi=>#[xs,ys,xs[i]'(),ys[i]'(),ζ.seq s j,ζ.seq s n,aah _,aah _]) (λc s=>#[xs,ys,ζ.seq s j,ζ.seq s n,ϭ _]) (λi c x B hi s y=>?_) I;let#[T,u,J,L,M,O,P,R]:=y;show#[T,u,J,L,M,O,P xs (ζ.seq s j),R ys (ζ.seq s n)]
theorem ajp{elts:List Ϩ}{k:Nat}{tp:Pos}{body:List ϧ}(o:akX (Ϧ X.prog X.w) X.A X.env X.xe)(s:X.calm=true)(z:Gl X "enumerate")(B:X.mg "enumerate"=none)(hs:abo [a] X.env=[(false,eval a X.env)])(h:EV X a σ H λv H1=>∃l xs,v=.ref l/\H1 l=some (.lst xs)/\∃c:Nat->St->Hp->Prop,c 0 σ H1/\(∀i σ' H',i<=xs.length->c i σ' H'->η X.K H' l xs)/\
   (∀i x T σ' H',xs[i]?=some x->c i σ' H'->H' T=none->EG X (.Tuple elts k tp) (.ref T) σ' (upd H' T (.tup [.int i,x])) λf H2=>Ο X body {D with nx:=c (i+1),ct:=c (i+1),bk:=D.nx} f H2)/\∀σ' H',c xs.length σ' H'->D.nx σ' H'):SX X (.For (.Tuple elts k tp) (.Call (.Name "enumerate" p) [a] [] p') body [] pos) D σ H:=by
 show lC o s (by intro _;rfl) (aaE z B hs (aG h λv H1 q=>?_));let#[l,xs,rfl,C,c,E,F,j,hd]:=q;show#[l,xs,rfl,C,λi m σ H=>m=xs.length-i/\i<=xs.length/\c i σ H,#[xs.length,by simp,agn _,E],?_]
 rintro i m σ' H' ⟨rfl,hi,p⟩
 let n:=F i σ' H' hi p;by_cases g:i<xs.length
 .show .inr #[#[xs,xs[i],n,aah g],c (i+1),λf H2 p2=>#[xs.length-(i+1),(),rfl,g,p2],λx H2 y=>?_];let#[T,u,e1,G,I,J]:=y;subst e1 I;show j i u T σ' H' (J xs n) p G
 .let e:i=xs.length:=()
  subst e;show .inl #[#[xs,n,ϭ _],hd σ' H' p]
end
section
variable{Kt:Type} [DecidableEq Kt] [BEq Kt] [LawfulBEq Kt]
def dD(ks:List Kt):List Kt:=ks.foldl (λa k=>if k∈a then a else a++[k]) []
theorem ql(ks:List Kt)(k:Kt):dD (ks++[k])=if k∈dD ks then dD ks else dD ks++[k]:=by
 unfold dD;rw[aoK];rfl
theorem yf:∀n (ks:List Kt),ks.length=n->(dD ks).length<=ks.length
 |0,ks,h=>by rw[anc.mp h];show ϭ _
 |n+1,ks,h=>by
  obtain⟨l,k,rfl⟩:∃l k,ks=l++[k]:=#[_,_,(alL (akL h)).symm];let a:l.length=n:=by simpa using h
  let c:=yf n l a;rw[ql];split <;>simp <;>omega
theorem Js:∀n (ks:List Kt),ks.length=n->∀k,k∈dD ks↔k∈ks
 |0,ks,h=>by rw[anc.mp h];intro k;show Iff.rfl
 |n+1,ks,h=>by
  obtain⟨l,x,rfl⟩:∃l k,ks=l++[k]:=#[_,_,(alL (akL h)).symm];let c:l.length=n:=by simpa using h
  let a:=Js n l c;intro k;rw[ql,adU,acN];split
  .rename_i f;rw[a];constructor
   .show .inl
   .rintro(e|e)
    .show e
    .rw[e];show(a x).mp f
  .rw[adU,acN,a]
theorem Ha:∀n (ks:List Kt),ks.length=n->((dD ks).length=ks.length↔ks.Nodup)
 |0,ks,h=>by rw[anc.mp h];simp[dD]
 |n+1,ks,h=>by
  obtain⟨l,x,rfl⟩:∃l k,ks=l++[k]:=#[_,_,(alL (akL h)).symm];let c:l.length=n:=by simpa using h
  let g:=Ha n l c;let le:=yf n l c;let i:=Js n l c x;rw[ql,anP];split
  .rename_i f;constructor
   .intro e;simp at e;omega
   .intro e;show absurd rfl (e.2.2 x (i.mp f) x (by simp))
  .rename_i f;rw[abK,abK,afe];constructor
   .intro e;show#[g.mp (),by simp,λa j b m=>?_];rw[acN.mp m];intro o;show f (i.mpr (o▸j))
   .intro e;rw[g.mpr e.1]
end
section
variable{prog:Ϯ}{w:Ϭ}{A:ϳ}{E:ε->μ->Prop}{s:μ}{zs:List Str}{us:Array ε}
def strAt(us:Array ε)(zs:List Str):=∀(i:Nat)(v:ε),us[i]?=some v->∃t z,v=.str z t/\zs[i]?=some z
def jb(prog:Ϯ)(w:Ϭ)(h:ϫ)(S:δ)(zs:List Str):Prop:=h.SetOf (strKind prog w) S (λk=>decide (k∈dD zs)) (dD zs).length
theorem jb.stay{h h':ϫ}{S:δ}(x:jb prog w h S zs)(k:∀o,h.get? S=some o->h'.get? S=some o):jb prog w h' S zs:=by
 let#[o,es,ep,t,a,rest]:=x;show#[o,es,ep,t,k _ a,rest]
theorem ags{R:Result->μ->Prop}{it:δ}{fp wr:List δ}{G:Array GenState->Array GenState->Prop}{St:Nat->μ->Prop}(W:WalksS prog w A.in1 it fp wr G us.size (λi v=>us[i]?=some v) St)(S:δ)(D:S∉fp)(I:strAt us zs)(J:us.size=zs.length)(a:us.size+1<scanBound)(d:Nat):∀(i:Nat)(s:μ),d+i=us.size->St i s->jb prog w s.heap S (zs.take i)->
   (∀s',Moved (S::wr) G s s'->jb prog w s'.heap S zs->R (.ok (.ret .none)) s')->codeAny (Ϧ prog w) A (.builtin "set.update.loop" #[[.ref S,.ref it],[]]) R s:=by
 let c:S∉wr:=λh=>D (W.sub _ h)
 let up:∀b∈wr,b∈S::wr:=λb a=>adP _ a
 induction d with
 |zero=>
  intro i s hi st j n;let e:i=us.size:=()
  subst e;show am1 F.entry_set_update_loop ?_;rw[Around.under_plainId F.plain_set_update_loop _];show π (m:=pyNext (.ref it)) (W.done s _ _ st λs' f=>?_);show ϯ (n s' (f.mono up) ?_);rw[J,am0]at j;show j.stay λo p=>f.heap S o c p
 |succ d L=>
  intro i s hi st j n;show am1 F.entry_set_update_loop ?_;rw[Around.under_plainId F.plain_set_update_loop _];show π (m:=pyNext (.ref it)) (W.item i s _ _ () st λv s' M q f=>?_);let#[t,z,rfl,O]:=I i v M;let u:=j.stay (h':=s'.heap) λo p=>f.heap S o c p
  show ν _ A.in1 (holding [Value.str z t] (setAdd S (.str z t))>>=_) _ _ s';show π (af6 ?_);unfold setAdd;show af6 (π ((strKind prog w).pyHash (k:=z) (strKind_is _ _ _ _) ?_));let E:zs.take (i+1)=zs.take i++[z]:=by rw[anQ,O];rfl
  let g:(dD (zs.take i)).length+1<scanBound:=by
   have:=yf _ (zs.take i) rfl;have:(zs.take i).length<=zs.length:=by simp;omega
   omega
  show wpAny_setAddHashed_of (knd:=strKind prog w) (s:={s' with toks:=s'.toks+1}) (strKind_is _ _ _ _) rfl u g λh' H x=>?_
  let y:jb prog w h' S (zs.take (i+1)):=by
   show SetOf_congr x (λk=>?_) ?_
   .rw[E,ql];split
    .rename_i l;by_cases e:k=z
     .subst e;simp[l]
     .simp[e]
    .by_cases e:k=z
     .subst e;simp
     .simp[e]
   .rw[E,ql];by_cases l:z∈dD (zs.take i)
    .simp[l]
    .simp[l]
  show ϯ #[plainId_quiet F.plain_set_update_loop _,L (i+1) _ () (W.frame _ s' _ _ q (ank _) λb a o e=>?_) y λP B C=>?_]
  .rw[H.2 b (λh:b=S=>D (h▸a))];show e
  .show n P (Moved.trans W.gtrans ((f.mono up).then_heap (ank _) λb o a e=>?_) B) C;rw[H.2 b (λh:b=S=>a (h▸aex))];show e
abbrev newSet(h:ϫ)(led:Bool):ϫ:=h.push {cls:=.type "set",dict:=none,data:=.set #v[] 0 (.fresh 0 0 led)}
set_option maxRecDepth 100000 in
theorem aht{l S:δ}{Q:ε->μ->Prop}(hh:A.handled=none)(v:s.heap.IsList l us)(f:∃a,s.heap.get? S=some {cls:=.type "set",dict:=none,data:=.set #v[] 0 (.fresh 0 0 a)})(y:strAt us zs)(z:us.size=zs.length)(j:us.size+1<scanBound)(h:∀(h':ϫ)(tk:Nat),jb prog w h' S zs->(∀b o,b≠S->s.heap.get? b=some o->h'.get? b=some o)->Q .none {s with heap:=h',toks:=tk}):codeAny (Ϧ prog w) A (.call (.builtin "set.__init__") #[[.ref S,.ref l],[]]) (wants Q E) s:=by
 let#[a,f]:=f;let B:s.TypeIs (.ref S) "set":=#[_,f,rfl];show codeAny_call_builtin F.called_set.init.plain F.entry_set_init (check_set_init_1 B ?_);let g:=v;let#[#[oc,od,m,os],c,x,nl,hd]:=v;simp only at x hd;subst x hd;let M:=F.sub_list_set;let O:=F.sub_list_frozenset;let P:(Value.type "list"==Value.type "dict")=false:=by decide
 unfold anh.«set.__init__» noKeywords Builtin.Frozenset.updateFrom;generalize n:pyIter=PI
 wp_walk
 subst n;show akt g (π (wpAny_runValue ?_));let C:S<s.heap.objs.size:=abL f;let D:l<s.heap.objs.size:=abL c;let G:A.in1.in1.handled=none:=by simp[hh]
 let p:S≠l:=λe=>by subst e;rw[f]at c;simp at c
 show ags (us:=us) ((Walks.list G _ l (adv D) us).toS) S (by simp only[ϲ,ahh,or_false,not_or];show#[adv C,p]) y z j us.size 0 {s with heap:=s.heap.push {cls:=.type "list_iterator",data:=.fields #v[.ref l,.int 0 0]}} ()
  #[#[_,abb _ rfl,rfl,rfl],(g.push _)] ?_ ?_
 .let hget:=ϴ {cls:=.type "list_iterator",data:=.fields #v[.ref l,.int 0 0]} f;show SetOf_congr ((setObjOf_fresh (knd:=strKind prog w) a).setOf hget (by unfold scanBound;omega)) (λ_=>rfl) rfl
 .intro s' i H;let#[h',g',d',q,u]:=s';let I:g'=s.gens:=i.gens;let J:d'=s.drawn:=i.drawn;let L:u=s.os:=i.os;subst I J L;show ϯ ?_;show ν _ _ (ret Value.none) _ _ _;show ϯ (h h' q H λb o j e=>?_);show i.heap b o ?_ (ϴ _ e);simp only[ϲ,ahh,or_false,not_or];show#[j,adv (abL e)]
set_option maxRecDepth 100000 in
theorem Yo{l:δ}{Q:ε->μ->Prop}(hh:A.handled=none)(x:s.heap.IsList l us)(y:strAt us zs)(z:us.size=zs.length)(B:us.size+1<scanBound)(h:∀(h':ϫ)(tk:Nat),jb prog w h' s.heap.objs.size zs->(∀b o,s.heap.get? b=some o->h'.get? b=some o)->Q (.ref s.heap.objs.size) {s with heap:=h',toks:=tk}):ν (Ϧ prog w) A (call (.type "set") [.ref l]) Q E s:=by
 let#[c,tl,q]:=F.called_set.mro;let m:=F.called_set.made;let u:=F.called_set.sub;let h1:=F.called_set.notType;let h2:=F.called_set.canCreate;let C:=F.typeCall_set_1 (.ref l);show wpAny_call (codeAny_of_tree ?_);show ν _ _ (callAny (.type "set") _) _ _ _;show ϯ #[Code.quiet_builtin _ (by fin2),am1 F.entry_type_call ?_];rw[Around.under_plain (weight_type_call_type "set" [.ref l] []) rfl]
 repeat (any_goals (first|with_reducible assumption|wp_step))
 show akq (code_set_new_1 (.ref l) (E:=E) (Q₁:=λobj g=>∃a:Bool,obj=.ref s.heap.objs.size/\g={s with heap:=newSet s.heap a}) λa=>#[a,rfl,rfl]) λr g n=>?_
 rcases r with e|(_|_|_|obj)
 all_goals first|show n|show n.elim|skip
 let#[a,rfl,rfl]:=n;let v:(newSet s.heap a).get? s.heap.objs.size=some {cls:=.type "set",dict:=none,data:=.set #v[] 0 (.fresh 0 0 a)}:=abb _ rfl;let H:Shared.TypeIs {s with heap:=newSet s.heap a} (.ref s.heap.objs.size) "set":=#[_,v,rfl];let D:=F.called_set.init.lookup;let G:=F.called_set.init.bind (.ref s.heap.objs.size)
 repeat (any_goals (first|with_reducible assumption|wp_step))
 show akq (aht (E:=E) (s:={s with heap:=newSet s.heap a}) (Q:=λr i=>r=.none/\∃h' tk,i={s with heap:=h',toks:=tk}/\jb prog w h' s.heap.objs.size zs/\∀b o,s.heap.get? b=some o->h'.get? b=some o) (by simp[hh]) (x.push _) #[a,v] y z B λh' tk p k=>#[rfl,h',tk,rfl,p,λb o e=>k b o (adv (abL e)) (ϴ _ e)]) λj i f=>?_
 rcases j with e|(_|_|_|r)
 all_goals first|show f|show f.elim|skip
 let#[rfl,h',tk,rfl,p,k]:=f
 repeat (any_goals (first|with_reducible assumption|wp_step))
 show h _ _ p k
end
section
variable{X:Cx}{H:Hp}{Q:VK}{v:V}
def mJ(X:Cx)(S:δ)(zs:List Str):HO:=.ext λh=>jb X.prog X.w h S zs
theorem JL{q:δ}{zs:List Str}(p:X.calm=true)(h:η X.K H q (zs.map V.str))(j:zs.length<=4000)(g:∀S,H S=none->Q (.ref S) (upd H S (mJ X S zs))):CL X (.type "set") [.ref q] H Q:=by
 show dB (r:=λxs H Q=>∃q zs,xs=[.ref q]/\η X.K H q (zs.map V.str)/\zs.length<=4000/\∀S,H S=none->Q (.ref S) (upd H S (mJ X S zs))) ?_ #[q,zs,rfl,h,j,g];intro ϵ s σ H xs us Q I r h;let#[q,zs,rfl,h,j,g]:=h;let#[u,rfl,y]:=vals1 r;cases(show u=Value.ref q from y);let#[c,l,pl,_]:=I.list h;let m:c.length=zs.length:=by have:=l.length;rw[aav]at this;show this.symm
 let f:strAt c.toArray zs:=λi v e=>by
  let n:c[i]?=some v:=by simpa using e
  let hi:i<zs.length:=by rw[<-m];show(aai.mp n).1
  let#[u,e1,z]:=l.get (i:=i) (x:=V.str zs[i]) (by simp[hi]);rw[n]at e1;cases e1;let#[t,rfl]:=z;show#[t,zs[i],rfl,aah hi]
 show Yo (I.ok.hd p) pl.isList f (by simpa using m) (by show _<4096;simp;omega) λh' tk a k=>?_
 show#[.ref s.heap.objs.size,_,I.laid (t':=tk) (o:=mJ X s.heap.objs.size zs) k (ϭ _) #[a,?_,λh1 h2 a B=>a.stay B],rfl,g _ (I.hok.fresh (ϭ _))];let#[o,es,ep,t,C,_]:=a;show#[o,C]
theorem Qm{S:δ}{zs:List Str}(h:H S=some (mJ X S zs))(c:zs.length<=4000)(g:Q (.int (dD zs).length) H):CL X (.builtin "len") [.ref S] H Q:=by
 show dB (r:=λxs H Q=>∃S zs,xs=[.ref S]/\H S=some (mJ X S zs)/\zs.length<=4000/\Q (.int (dD zs).length) H) ?_ #[S,zs,rfl,h,c,g];intro ϵ s σ H xs us Q I r h;let#[S,zs,rfl,h,c,g]:=h;let#[u,rfl,e]:=vals1 r;cases(show u=Value.ref S from e);let#[#[o,es,ep,t,f,a,hd,i,m,n,j,l],_]:=I.hok S _ h;let le:=yf _ zs rfl;show call_len_set f a hd j () #[.int es.size,H,I.tok _,#[_,rfl],?_];rw[l];show g
theorem WD{x:V}{p:δ}{xs:List V}(h:ρ X.K H p xs)(q:Q (.bl (!gW x xs)) H)(f:fX x=true:=by rfl)(fs:xs.all fX=true:=by rfl):OP X (ad7 .NotIn) x (.ref p) H Q:=bD ac9 #[p,xs,rfl,.inr h,f,fs,q]
theorem pC{x:V}{p:δ}{xs:List V}(h:ρ X.K H p xs)(q:Q (.bl (gW x xs)) H)(f:fX x=true:=by rfl)(fs:xs.all fX=true:=by rfl):OP X (ad7 .In) x (.ref p) H Q:=bD YX #[p,xs,rfl,.inr h,f,fs,q]
theorem ah0{l b:δ}{xs zs:List V}(h1:H l=some (.lst xs))(h2:H b=some (.lst zs))(a:xs.length+zs.length<=ϰ)(q:∀p,H p=none->Q (.ref p) (upd H p (.lst (xs++zs)))):OP X (binaryOp .Add) (.ref l) (.ref b) H Q:=bD adl #[l,b,xs,zs,rfl,rfl,h1,h2,a,q]
end
section
variable{X:Cx}{H:Hp}{D:Ends}{σ σ':St}{e a elt tg:Ϩ}{scope:ahU}{pos spos py p p':Pos}{y:Str}{j:Nat}
theorem qR(N':List Str)(S:cV X.env scope)(m:X.N.Nodup)(h:EV X e σ H λv H1=>∃l xs,v=.ref l/\η X.K H1 l xs/\xs.length<=ϰ/\xF X N' scope tg elt σ' H1 (λv H'=>D.nx (σ.set j (some v)) H') xs.length λi H2 x g=>xs[i]?=some x/\H2=g)(c:cO N' X.N σ scope=σ':=by rfl)(f:am6 (.ListComp elt [#[tg,e,[],0]] scope pos) (some (.Name y py)) spos.line X.env=pure true:=by rfl)(n:X.calm=true:=by rfl)(hs:∀x,foldedSetIterable e X.env x=pure x:=by intro _;rfl)(hi:nameAt X.N y=some j:=by rfl)(o:X.env.scope.names.lookup y=some .local:=by rfl):SX X (.Assign [.Name y py] (.ListComp elt [#[tg,e,[],0]] scope pos) spos) D σ H:=by
 show Xr (N':=N') f n S hs m hi o (tO (aG h λv H1 q=>?_));let#[l,xs,rfl,a,p,u]:=q;show#[l,rfl,#[xs,a],?_];rw[c];show Gj (J:=jC X.K l) p (λi H2 s hi=>#[xs,xs[i],ζ.seq s a,aah hi]) (λH2 s=>#[xs,ζ.seq s a,ϭ _]) (λi H2 x g hi s y=>#[y.2 xs (ζ.seq s a),y.1.symm]) u
end
def cutAt(c:Nat):List Nat->List (List Nat)
 |[]=>[[]]
 |x::r=>if x=c then[]::cutAt c r else match cutAt c r with
  |[]=>[[x]]
  |h::t=>(x::h)::t
def fG(c:Nat):List (List Nat)->List Nat
 |[]=>[]
 |[p]=>p
 |p::q::r=>p++c::fG c (q::r)
theorem Vx(c:Nat):∀l,cutAt c l≠[]
 |[]=>by simp[cutAt]
 |x::r=>by
  unfold cutAt;split
  .simp
  .split <;>simp
theorem U4{c:Nat}:∀{p:List Nat},c∉p->cutAt c p=[p]
 |[],_=>rfl
 |x::r,h=>by
  let a:=U4 (c:=c) (p:=r) λz=>h (by simp[z])
  unfold cutAt;rw[if_neg (λz=>h (by simp[z])),a]
theorem Ua{c:Nat}{l:List Nat}:∀{p:List Nat},c∉p->cutAt c (p++c::l)=p::cutAt c l
 |[],_=>by
  show cutAt c (c::l)=_;rw[cutAt,if_pos rfl]
 |x::r,h=>by
  let a:=Ua (c:=c) (l:=l) (p:=r) λz=>h (by simp[z])
  show cutAt c (x::(r++c::l))=_;rw[cutAt,if_neg (λz=>h (by simp[z])),a]
theorem uD{c:Nat}:∀{ps:List (List Nat)},ps≠[]->(∀p∈ps,c∉p)->cutAt c (fG c ps)=ps
 |[],h,_=>absurd rfl h
 |[p],_,h=>U4 (h p (by simp))
 |p::q::r,_,h=>by
  show cutAt c (p++c::fG c (q::r))=_;rw[Ua (h p (by simp)),uD (by simp) λx a=>h x (adP _ a)]
theorem Dw(c:Nat):∀l,(cutAt c l).length<=l.length+1
 |[]=>by simp[cutAt]
 |x::r=>by
  let a:=Dw c r;unfold cutAt;split
  .simp;show a
  .split
   .simp
   .rename_i h t e;rw[e]at a;simp at a⊢;omega
theorem S9(c:Nat):∀l,fG c (cutAt c l)=l
 |[]=>rfl
 |x::r=>by
  let a:=S9 c r;unfold cutAt;split
  .rename_i h;cases e:cutAt c r with
   |nil=>show absurd e (Vx c r)
   |cons p q=>
    rw[e]at a;show[]++c::fG c (p::q)=_;rw[a,h];rfl
  .cases e:cutAt c r with
   |nil=>show absurd e (Vx c r)
   |cons p q=>
    rw[e]at a;simp only;cases q with
    |nil=>
     show x::p=_;rw[show p=r from a]
    |cons y q=>
     show(x::p)++c::fG c (y::q)=_;rw[<-a];rfl
theorem oV(c:Nat):∀ps:List Str,(aeM #[#v[c]] ps).cps.toList=fG c (ps.map λp=>p.cps.toList)
 |[]=>rfl
 |[p]=>rfl
 |p::q::r=>by
  let a:=oV c (q::r);let e:aeM #[#v[c]] (p::q::r)=p++#[#v[c]]++aeM #[#v[c]] (q::r):=rfl;rw[e];show((p.cps++ #v[c])++(aeM #[#v[c]] (q::r)).cps).toList=_;simp only[anw];rw[a];simp[fG]
theorem aiY(x:Str)(c:Nat):Txt.split x #[#v[c]]≠[]:=by
 unfold Txt.split;split
 .simp
 .split
  .simp
  .unfold Builtin.Str.partsBetween;simp
theorem split_list(x:Str)(c:Nat):(Txt.split x #[#v[c]]).map (λp=>p.cps.toList)=cutAt c x.cps.toList:=by
 let h1:(aeM #[#v[c]] (Txt.split x #[#v[c]])).cps.toList=x.cps.toList:=by rw[StrLaws.join_split]
 rw[oV]at h1;rw[<-h1];show(uD (by simpa using aiY x c) λp a=>?_).symm;let#[q,e,rfl]:=adw.mp a;show StrLaws.split_free x c q e
def ό(c:Nat)(x:Str):List Str:=(cutAt c x.cps.toList).map λl=>#[l.toArray]
theorem vh(x:Str)(c:Nat):Txt.split x #[#v[c]]=ό c x:=by
 unfold ό;rw[<-split_list,afC];have:((λl:List Nat=>(#[l.toArray]:Str))∘λp:Str=>p.cps.toList)=id:=by
  funext p;rfl
 rw[this,an5]
section
variable{X:Cx}{H:Hp}{Q:VK}{z y:Str}{v:V}
theorem QV:∀l:List (Str×Tok),Vals ((l.map (·.1)).map V.str) (strValues l)
 |[]=>.nil
 |p::l=>.cons #[p.2,rfl] (QV l)
theorem m_split{c:Nat}(g:∀p,H p=none->Q (.ref p) (upd H p (.lst ((ό c z).map V.str))))(f:z.length<=100000:=by omega):MT X "str.split" (.str z) [.str #[#v[c]]] H Q:=by
 show iW (r:=λx xs H Q=>∃z c,x=.str z/\xs=[.str #[#v[c]]]/\z.length<=100000/\∀p,H p=none->Q (.ref p) (upd H p (.lst ((ό c z).map V.str)))) ?_ #[z,c,rfl,rfl,f,g];intro ϵ s σ H x xs v us Q I rx rs h;let#[z,c,rfl,rfl,f,g]:=h;let#[t,rfl]:=rx;let#[u,rfl,i]:=vals1 rs;let#[t',rfl]:=i;let j:(ό c z).length<=z.length+1:=by
  let h1:=Dw c z.cps.toList;unfold ό;rw[aav];let h2:z.cps.toList.length=z.length:=rfl;omega
 let hsz:=ϱ;let fin:∀(l:List (Str×Tok))(tk:Nat),l.map (·.1)=ό c z->EP X ϵ σ Q (.ref s.heap.objs.size) {s with toks:=tk,heap:=s.heap.push {cls:=.type "list",data:=.seq (strValues l).toArray}}:=λl tk e=>
  #[.ref s.heap.objs.size,_,I.laid (t':=tk) (o:=.lst ((ό c z).map V.str)) (λb o q=>ϴ _ q) (ϭ _) #[by rw[aav];omega,strValues l,_,by rw[<-e];show QV l,abb _ rfl],rfl,g _ (I.hok.fresh (ϭ _))]
 cases h1:(decide (z.length<(#[#v[c]]:Str).length)||decide (Builtin.Str.strKind z<Builtin.Str.strKind #[#v[c]]))
 .cases hf:(Builtin.Str.occurrences z #[#v[c]] 0 z.length (z.length+1)).isEmpty
  .let e:Txt.split z #[#v[c]]=Builtin.Str.partsBetween z (Builtin.Str.occurrences z #[#v[c]] 0 z.length (z.length+1)) (#[#v[c]]:Str).length:=by
    unfold Txt.split;rw[if_neg (by rw[h1];decide),if_neg (by rw[hf];decide)]
   let a:=j;rw[<-vh,e]at a;show am4 F.slot_str_split (am3 _ _ _) F.entry_str_split (F.args_str_split_2 _ _) (meets_str_split_sep z #[#v[c]] t t' h1 rfl hf () ()) ?_;have:=fin (numbered s.toks (Txt.split z #[#v[c]])) (s.toks+(Builtin.Str.partsBetween z (Builtin.Str.occurrences z #[#v[c]] 0 z.length (z.length+1)) (#[#v[c]]:Str).length).length) (by rw[numbered_texts,vh]);rw[<-strsFrom_eq,e]at this;show this
  .let e:Txt.split z #[#v[c]]=[z]:=by
    unfold Txt.split;rw[if_neg (by rw[h1];decide),if_pos hf]
   show am4 F.slot_str_split (am3 _ _ _) F.entry_str_split (F.args_str_split_2 _ _) (meets_str_split_not_found z #[#v[c]] t t' h1 rfl hf) (fin [(z,t)] s.toks (by rw[<-vh,e];rfl))
 .let e:Txt.split z #[#v[c]]=[z]:=by
   unfold Txt.split;rw[if_pos h1]
  show am4 F.slot_str_split (am3 _ _ _) F.entry_str_split (F.args_str_split_2 _ _) (meets_str_split_cannot_occur z #[#v[c]] t t' h1) (fin [(z,t)] s.toks (by rw[<-vh,e];rfl))
theorem aej{c:Nat}(q:Q (.int c) H):CL X (.builtin "ord") [.str #[#v[c]]] H Q:=by
 show dB (r:=λxs H Q=>∃c:Nat,xs=[.str #[#v[c]]]/\Q (.int c) H) ?_ #[c,rfl,q];intro ϵ s σ H xs us Q I r h;let#[c,rfl,q]:=h;let#[u,rfl,a]:=vals1 r;let#[t,rfl]:=a;show P.ord_of_char #[.int c,H,I.tok _,#[_,rfl],q]
theorem acH{i:Int}(hi:0<=i)(a:i<1000)(g:Q (.str (Txt.zfill z i)) H):MT X "str.zfill" (.str z) [.int i] H Q:=by
 show iW (r:=λx xs H Q=>∃z i,x=.str z/\xs=[.int i]/\0<=i/\i<1000/\Q (.str (Txt.zfill z i)) H) ?_ #[z,i,rfl,rfl,hi,a,g];intro ϵ s σ H x xs v us Q I rx rs h;let#[z,i,rfl,rfl,hi,a,g]:=h;let#[t,rfl]:=rx;let#[u,rfl,c]:=vals1 rs;let#[t',rfl]:=c;show SC.zfill ?_ λe k=>#[.str _,H,I.tok k,#[e,rfl],g]
 show padOk_of () ()
end
def Ec(K:ϩ)(l:δ)(n:Nat):It:=
 #[λi H=>i<n/\∃xs,η K H l xs/\xs.length=n,λi H x H'=>H'=H/\∀xs,η K H l xs->xs[n-1-i]?=some x,λi _=>i=n]
theorem agR{P:Ϯ}{w:Ϭ}{K:ϩ}{tg:Ϩ}(l it:δ)(n:Nat):Turn P w K tg (Ec K l n) [it] it (λi h=>h.IsRevIter it l ((n:Int)-1-(i:Int)))where
 mem:=by simp
 obj:=λi h st b a=>by
  let e:b=it:=by simpa using a
  subst e;let#[o,e,c,d]:=st;show#[o,e,λv z=>by rw[d]at z;cases z]
 keep:=λi h h' st k=>st.at λo e=>k it (by simp) o e
 item:=by
  intro X m q y M i ϵ s σ H E I j st B;subst m q y;let#[hi,xs,O,hx]:=B;let#[ϸ,Q,p,hz]:=I.list O;let f:n-1-i<xs.length:=()
  let#[u,R,S]:=Q.get (aah f);let#[C,D,T,F,G,J]:=j it (by simp);let ei:((n:Int)-1-(i:Int))=((n-1-i:Nat):Int):=()
  rw[ei]at st;show wpAny_pyNext_rev_item st p.isList (x:=u) (by simpa using R) λh' g U=>?_
  let W:Inv X ϵ σ H {s with heap:=h'}:=I.turned (t':=s.toks) (λb o a e=>(U.2 b a).trans e) C D F G J;let#[o,e,c,d]:=id g;show#[u,rfl,t8 (s:={s with heap:=h'}) e c d (by decide) #[_,H,W,S,#[rfl,λys Y=>?_],?_,λb a=>(j b a).1]]
  .rw[I.list_inj Y O];show aah f
  .let L:((n:Int)-1-((i+1:Nat):Int))=((n-1-i:Nat):Int)-1:=()
   rw[L];show g
 done:=by
  intro X m q y M i ϵ s σ H E I j st B;subst m q y;let#[C,D,T,F,G,J]:=j it (by simp);let e:i=n:=B;let L:((n:Int)-1-(i:Int))= -1:=()
  rw[L]at st;show wpAny_pyNext_rev_end (I.ok.hd M) st λh' Z=>#[rfl,I.turned (t':=s.toks) (λb o a e=>Z b o a e) C D F G J]
 self:=λ_ _ _ _ _ st h=>wpAny_pyIter_revIter st h
section
variable{X:Cx}{σ:St}{H:Hp}{a:Ϩ}{tg:Ϩ}{p pos p':Pos}{R:It->Hp->Prop}{D:Ends}
theorem aay(m:Gl X "reversed")(n:X.mg "reversed"=none)(hs:abo [a] X.env=[(false,eval a X.env)])(h:EV X a σ H λv H1=>∃l xs,v=.ref l/\η X.K H1 l xs/\R (Ec X.K l xs.length) H1):EI X tg (.Call (.Name "reversed" p) [a] [] pos) σ H R:=by
 intro ϵ s I;show Call_ (jh I m n boot_reversed (PyProof.Rows.callWith_type1 (χ (eF (es:=[]) (QA:=λvs H1=>∃l xs,vs=[.ref l]/\η X.K H1 l xs/\R (Ec X.K l xs.length) H1) hs (aG h λv H1 ⟨l,xs,e,x,y⟩=>jT #[l,xs,by rw[e],x,y]) pos ϵ s I) λus c z=>?_) hs rfl));let#[vs,H1,g,B,l,xs,e,C,q]:=z;subst e;let#[u,rfl,D]:=vals1 B;cases(show u=Value.ref l from D);let#[i,E,pl,G]:=g.list C;let j:=E.length;show call_reversed_list pl.isList ?_;let f:(c.heap.push (revObj l ((i.toArray.size:Int)-1))).IsRevIter c.heap.objs.size l ((i.toArray.size:Int)-1):=#[_,abb _ rfl,rfl,rfl];show wpAny_pyIter_revIter f ?_;show#[c.heap.objs.size,[c.heap.objs.size],_,_,H1,rfl,g.kept (t':=c.toks) λb o e=>ϴ _ e,agR l _ xs.length,?_,λb F=>?_,q]
 .let e:((xs.length:Int)-1-((0:Nat):Int))=(i.toArray.size:Int)-1:=by simp;omega
  rw[e];show f
 .let e:b=c.heap.objs.size:=by simpa using F
  subst e;show g.fpOk (ϭ _) (g.hok.fresh (ϭ _))
theorem adt{body:List ϧ}(n:akX (Ϧ X.prog X.w) X.A X.env X.xe)(o:X.calm=true)(s:Gl X "reversed")(u:X.mg "reversed"=none)(hs:abo [a] X.env=[(false,eval a X.env)])(h:EV X a σ H λv H1=>∃q xs,v=.ref q/\η X.K H1 q xs/\∃c:Nat->St->Hp->Prop,c 0 σ H1/\(∀i σ' H',i<=xs.length->c i σ' H'->η X.K H' q xs)/\
   (∀i x σ' H',i<xs.length->xs[xs.length-1-i]?=some x->c i σ' H'->EG X tg x σ' H' λg H2=>Ο X body {D with nx:=c (i+1),ct:=c (i+1),bk:=D.nx} g H2)/\∀σ' H',c xs.length σ' H'->D.nx σ' H'):SX X (.For tg (.Call (.Name "reversed" p) [a] [] p') body [] pos) D σ H:=by
 show lC n o (by intro _;rfl) (aay s u hs (aG h λv H1 q=>?_));let#[q,xs,rfl,z,c,B,l,j,hd]:=q;show#[q,xs,rfl,z,λi m σ H=>m=xs.length-i/\i<=xs.length/\c i σ H,#[xs.length,by simp,agn _,B],?_]
 rintro i m σ' H' ⟨rfl,hi,p⟩
 by_cases f:i<xs.length
 .show .inr #[#[f,xs,l i σ' H' hi p,rfl],c (i+1),λg H2 p2=>#[xs.length-(i+1),(),rfl,f,p2],λx H2 y=>?_];let#[rfl,e]:=y;show j i x σ' _ f (e xs (l i σ' _ hi p)) p
 .let e:i=xs.length:=()
  show .inl #[e,?_];subst e;show hd σ' H' p
end
theorem afu{M:Model}{A:ϳ}{E:ε->μ->Prop}{s:μ}{α:Type}{e T L:δ}{cls:ε}{d:Option δ×Bool}{x:ε}{a:String}{env:Env}{Q:α->μ->Prop}(y:env.frame=some L)(F:bH s.heap e cls d (some T) x)(k:∀h',tM s.heap h' [T] []->bH h' e cls d (some T) (rawInt L)->E (.ref e) {s with heap:=h'}):ν M A (passOn a (.ref e) env) Q E s:=by
 let#[B,vs,i,C,j,hd,h1,D,h2,G]:=F;let#[m,J,ws,c,f,H]:=G T rfl;let p:3<ws.size:=(aj5.mp H).1;let g:vs[1]?=some (Value.ref T):=h1;unfold PySem.passOn;show π (ahQ i hd g ?_);rw[if_neg (show ¬((Value.ref T==Value.none)=true)from by simp)];show π ?_;unfold setFlight;show π (ahQ i hd g ?_);rw[if_pos (show(Value.ref T !=Value.none)=true from by simp),y];show wpAny_setField c f p (wpAny_throw (k _ #[λb o q _ n=>?_,λb o q n=>#[o.slots,?_],λb o q=>?_] ?_))
 .rw[ac2 _ _ (λz=>n (by simp[z]))];show q
 .rw[ac2 _ _ (λz=>n (by simp[z]))];show q
 .by_cases z:b=T
  .subst z;show#[_,agk _ c (Obj.isFreed_of_fields (Obj.data_mapFields f _))]
  .show#[o,by rw[ac2 _ _ (Ne.symm z)];show q]
 .show#[B,vs,?_,C,j,hd,h1,D,h2.stay λv o ws O l u=>?_,λP I=>?_]
  .rw[ac2 _ _ m];show i
  .by_cases z:v=T
   .subst z;rw[c]at l;cases l;show#[_,_,agk _ c (Obj.isFreed_of_fields (Obj.data_mapFields f _)),Obj.data_mapFields u _,by rw[aiu (by decide)]]
   .show#[o,ws,by rw[ac2 _ _ (Ne.symm z)];show l,u,rfl]
  .cases I;show#[m,_,_,agk _ c (Obj.isFreed_of_fields (Obj.data_mapFields f _)),Obj.data_mapFields f _,by simp[p]]
section
variable{X:Cx}{ϵ:List (δ×Obj)}{σ:St}{H:Hp}{s:μ}{scope:ahU}{N':List Str}{fp:List δ}{elt iter tg:Ϩ}{ifs:List Ϩ}{pos:Pos}{Kx:St->XK}
theorem aaP{G:ε->μ->Prop}{a:Env}(n:compEnvC scope (ϔ scope X.env) s.heap.objs.size X.env=a)(c:X.stack=X.env::X.outer)(i:X.env.frame=some X.env.locals)(g:Inv X ϵ σ H s)(F:∀b∈fp,bC X ϵ H b)(p:∀{pins':List (δ×Obj)}{B:St}{H':Hp}{s':μ},Inv (dU X N' scope (ϔ scope X.env) s.heap.objs.size s H fp (notedBy (Ϧ X.prog X.w) X.A a G)) pins' B H' s'->Inv X ϵ σ H' s')(u:∀(H':Hp)(s':μ)(e t:δ)(cls:ε)(d:Option δ×Bool),a.frame=some X.env.locals->Inv X ϵ σ H' s'->bC X ϵ H' a.locals->(∃m,s'.heap.Ns a.locals m)->bH s'.heap e cls d (some t) (rawInt X.env.locals)->
   (∀b∈[e,t],(H' b=none/\Ch X ϵ b)/\b≠a.locals)->Kx σ cls d H'->G (.ref e) s'):b8 (dU X N' scope (ϔ scope X.env) s.heap.objs.size s H fp (notedBy (Ϧ X.prog X.w) X.A a G)) (λ_=>Kx σ):=by
 let v:a.locals=s.heap.objs.size:=by rw[<-n];rfl
 intro pins' B H' s' e cls d I q;let#[J,tb,L,M,x,ch]:=I;let IX:=p J;let f:∀b∈e::tb.toList,(H' b=none/\Ch X ϵ b)/\b≠s.heap.objs.size:=λb j=>by
  let#[O,c1,c2,c3]:=ch b j;show#[#[O,?_],c2];obtain z|z:=c1
  .let#[_,P,_,Q,R,S]:=F b z;show#[Q,P,R,S]
  .show g.ch z
 let l:(L==rawInt X.env.locals)=false:=by
  obtain z|⟨z,_⟩:=x
  .rw[z];simp[rawInt]
  .rw[z,beq_eq_false_iff_ne];intro C;simp only[rawInt]at C;let T:((s.heap.objs.size:Nat):Int)=((X.env.locals:Nat):Int):=by injection C
   show alY g.lt (Int.ofNat.inj T)
 let D:=IX.stack;rw[c]at D;show ν _ _ (noteFrame (.ref e) a) _ _ _;rw[show noteFrame (.ref e) a=noteFrame (.ref e) X.env by rw[<-n];rfl];show Wf (base:=X.base) (IX.ok.frames.trans (by rw[c])) D i M l λh' t N y U=>?_
 let#[m,E,_]:=J.loc;show u H' _ e t cls d (by rw[<-n];show i) (IX.noted (by rw[c];show N) λb j=>(f b j).1) (by rw[v];show g.fpOk (ϭ _) J.free) #[m,?_] U (λb j=>?_) q
 .rw[v];let#[o,W,Y,Z,hr]:=E;show#[o,W,Y,N.keep _ _ Z (λz=>?_) (λz=>(f _ z).2 rfl),hr];rw[<-c]at z;rcases ϲ.mp (g.stkSub _ z)with e|e
  .show aiE _ (e▸g.lt)
  .show g.nofs (ϭ _) e
 .rw[v];obtain z|z:=ϲ.mp j
  .subst z;show f _ aex
  .let z':b=t:=by simpa using z
   subst z';show#[#[IX.hok.fresh y,IX.ch (amP y)],λz=>aiE _ (abM E.lt (z▸y))]
theorem agX{Q:ε->μ->Prop}{use:Option (ε->Sem Unit)}(B:b8 X Kx){j:ε}{C:Env}{H':Hp}{s':μ}{e t:δ}{cls:ε}{d:Option δ×Bool}(l:C.frame=some X.env.locals)(I:Inv X ϵ σ H' s')(D:bC X ϵ H' C.locals)(i:∃m,s'.heap.Ns C.locals m)(F:bH s'.heap e cls d (some t) (rawInt X.env.locals))(ch:∀b∈[e,t],(H' b=none/\Ch X ϵ b)/\b≠C.locals)(q:Kx σ cls d H'):qK (Ϧ X.prog X.w) X.A X.xe use Q j C (.error (.ref e)) s':=by
 let#[m,i]:=i;let#[E,G,f2,H,J,L]:=D;let c:∃m,s'.heap.Ns C.locals m/\∀h',akp C.locals s'.heap h'->ν (Ϧ X.prog X.w) X.A (passOn "comprehension.variables-let-go" (.ref e) C:Sem ε) (λ_ _=>False) X.xe {s' with heap:=h'}:=by
  show#[m,i,λh' a=>?_];let M:Inv X ϵ σ H' {s' with heap:=h'}:=I.turned (t':=s'.toks) (λb o f e=>a.extBut b o f e) E G H J L;let O:bH h' e cls d (some t) (rawInt X.env.locals):=by
   let#[P,vs,R,S,p,hd,h1,U,h2,W]:=F;show#[P,vs,a.extBut _ _ (ch e (by simp)).2 R,S,p,hd,h1,U,h2.stay (λv o ws hv u x=>#[o,ws,a.extBut _ _ (λz=>by
    let#[_,_,_,y,g,_]:=i;rw[<-z,u]at y;cases y;rw[x]at g;cases g) u,x,rfl]),λT Y=>?_]
   cases Y;let#[Z,oT,ws,t1,t2,t3]:=W t rfl;show#[Z,oT,ws,a.extBut _ _ (ch t (by simp)).2 t1,t2,t3]
  show afu (s:={s' with heap:=h'}) l O λh2 N F3=>?_
  show B ϵ σ H' _ e cls d #[M.noted (ch:=[t]) #[λb o q _ n=>N.keep b o q (by simp) n,N.slot,N.there] λb f=>?_,some t,_,F3,.inr #[rfl,rfl],λb f=>(ch b (by simpa using f)).1] q;let z:b=t:=by simpa using f
  subst z;show(ch b (by simp)).1
 cases use<;>show c
theorem acb{D:Ends}{y:Str}{py spos:Pos}{j:Nat}(g:b8 X Kx)(i:X.stack=X.env::X.outer)(l:X.env.frame=some X.env.locals)(n:am6 (.ListComp elt [#[tg,iter,ifs,0]] scope pos) (some (.Name y py)) spos.line X.env=pure true)(hc:X.calm=true)(S:cV X.env scope)(hs:∀x,foldedSetIterable iter X.env x=pure x)(hN:X.N.Nodup)(hi:nameAt X.N y=some j)(U:X.env.scope.names.lookup y=some .local)(h:EI X tg iter σ H λJ H1=>∀(fp:List δ)(E C:δ)(f:μ)(F:ε->μ->Prop),H1 E=none->b8 (dU X N' scope (ϔ scope X.env) C f (upd H1 E (.lst [])) fp F) (λ_=>Kx σ)->jB X (dU X N' scope (ϔ scope X.env) C f (upd H1 E (.lst [])) fp F) tg elt ifs J E (cO N' X.N σ scope) H1 (λH'=>D.nx (σ.set j (some (.ref E))) H')):SX X (.Assign [.Name y py] (.ListComp elt [#[tg,iter,ifs,0]] scope pos) spos) D σ H:=by
 intro ϵ s I;rw[exec_Assign_Name_used _ _ _ _ n];show π (wpAny_standAt (π ?_));show ν _ X.A (do let _<-comprehension (.ListComp elt [#[tg,iter,ifs,0]] scope pos) scope X.env _ (newList []) false (eval iter X.env) (some (assign (.Name y py) X.env))) _ _ s;show π (aef (Hh (use:=some (assign (.Name y py) X.env)) (Q:=λ_ s'=>SP X ϵ D .next s') rfl hs (Af (S.has I)) S.kind S.loc
  (χ (h ϵ s I) λv s1 h1=>χ h1 λitv s2 h2=>?_)) (λ_ s' hq=>ϯ (ϯ hq)) λ_ _ e=>e)
 let#[it,fp,tn,J,H2,e,I2,T,p,f2,q2]:=h2;subst e;show Ah _ (R:=λu C=>qK (Ϧ X.prog X.w) X.A X.xe (some (assign (.Name y py) X.env)) (λ_ s'=>SP X ϵ D .next s') u C) (Q:=λE H'=>D.nx (σ.set j (some (.ref E))) H') hc S I2 T p f2 (λ_ _ _ _ z=>z) (λE f W I3 B tX=>q2 fp E _ f _ W (aaP rfl i l I3 B tX λH' s' e t cls d G IX L c F ch q=>agX g G IX L c F ch q)) λE C H' s' W qD IX L c=>?_
 let#[m,c]:=c;let#[f0,Y,Ia,B,Z,f5]:=L;show ν _ _ (assign (.Name y py) X.env (.ref E)) _ _ _;show wpAny_assign_Name (oO IX hN (jM hi) (.inl U) (v:=.ref E) rfl (λM Dr O=>?_) (.inr U));let#[a,sb,ha]:=O;let zZ:C.locals≠a:=by
  obtain ha|ha:=ha
  .rw[ha];show Y
  .intro z;show Z y a ha z.symm
 show#[m,c.sameBut sb zZ,λh' P=>#[σ.set j (some (.ref E)),H',Dr.turned (t':=M.toks) (λb o O e=>P.extBut b o O e) f0 Y B Z f5,qD]]
end
section
variable{X:Cx}{a e:Ϩ}{σ σ':St}{H:Hp}{Q:VK}{D:Ends}{pos spos py p p':Pos}{tg elt iter:Ϩ}{scope:ahU}{Kx:St->XK}{y:Str}{j:Nat}
def Ov(X:Cx)(N':List Str)(scope:ahU)(tg elt:Ϩ)(σ σ':St)(Kx:St->XK)(H1:Hp)(Q:VK)(n:Nat)(G:Nat->Hp->V->Hp->Prop):Prop:=
 ∃(f:St->Prop)(a:δ->Nat->V->Hp->Prop),f σ'/\
  (∀E i v H2 c ys,H2 E=some (.lst ys)->(∀b o,b≠E->H2 b=some o->c b=some o)->a E i v H2->a E i v c)/\
  (∀(fp:List δ)(E C:δ)(g:μ)(j:Hp)(F:ε->μ->Prop)(i:Nat)(l:St)(x:V)(H2 c:Hp),b8 (dU X N' scope (ϔ scope X.env) C g j fp F) (λ_=>Kx σ)->H1 E=none->i<n->f l->ζ H1 H2->(∃ys,H2 E=some (.lst ys)/\ys.length=i/\∀k v,ys[k]?=some v->a E k v H2)->G i H2 x c->
   EG (dU X N' scope (ϔ scope X.env) C g j fp F) tg x l c λe p=>EV (dU X N' scope (ϔ scope X.env) C g j fp F) elt e p λv m=>f e/\a E i v m/\ζ H2 m)/\
  ∀(E:δ)(H2:Hp)(xs:List V),H1 E=none->xs.length=n->(∀i v,xs[i]?=some v->a E i v H2)->H2 E=some (.lst xs)->ζ H1 H2->Q (.ref E) H2
theorem af1{N':List Str}{J:It}{n:Nat}{G:Nat->Hp->V->Hp->Prop}(f:n<=ϰ)(go:∀i H2,ζ H H2->i<n->J.go i H2)(stop:∀H2,ζ H H2->J.stop n H2)(g:∀i H2 x e,i<n->ζ H H2->J.yld i H2 x e->G i H2 x e)(h:Ov X N' scope tg elt σ σ' Kx H Q n G):∀(fp:List δ)(D C:δ)(a:μ)(F:ε->μ->Prop),H D=none->b8 (dU X N' scope (ϔ scope X.env) C a (upd H D (.lst [])) fp F) (λ_=>Kx σ)->jB X (dU X N' scope (ϔ scope X.env) C a (upd H D (.lst [])) fp F) tg elt [] J D σ' H (λH'=>Q (.ref D) H'):=by
 intro fp E C a F c xo;let#[j,m,t0,mono,step,fin]:=h;show RT n f j t0 (m E) c (λi v H1 H2 ys=>mono E i v H1 H2 ys) go stop (λi o x H1 H2 hi p hs q y=>step fp E C a _ F i o x H1 H2 xo c hi p hs q (g i H1 x H2 hi hs y)) λH1 xs l u z s=>fin E H1 xs c l u z s
theorem acI(N':List Str)(c:cO N' X.N σ scope=σ')(f:b8 X Kx)(g:X.stack=X.env::X.outer)(m:X.env.frame=some X.env.locals)(n:am6 (.ListComp elt [#[tg,e,[],0]] scope pos) (some (.Name y py)) spos.line X.env=pure true)(p:X.calm=true)(S:cV X.env scope)(hs:∀x,foldedSetIterable e X.env x=pure x)(u:X.N.Nodup)(hi:nameAt X.N y=some j)(z:X.env.scope.names.lookup y=some .local)(h:EV X e σ H λv H1=>∃l xs,v=.ref l/\η X.K H1 l xs/\xs.length<=ϰ/\Ov X N' scope tg elt σ σ' Kx H1 (λv H'=>D.nx (σ.set j (some v)) H') xs.length λi H2 x o=>xs[i]?=some x/\H2=o):SX X (.Assign [.Name y py] (.ListComp elt [#[tg,e,[],0]] scope pos) spos) D σ H:=by
 show acb (N':=N') f g m n p S hs u hi z (tO (aG h λv H1 q=>?_));let#[l,xs,rfl,a,B,C]:=q;show#[l,rfl,#[xs,a],?_];rw[c];show af1 (J:=jC X.K l) (Q:=λv H'=>D.nx (σ.set j (some v)) H') B (λi H2 s hi=>#[xs,xs[i],ζ.seq s a,aah hi]) (λH2 s=>#[xs,ζ.seq s a,ϭ _]) (λi H2 x o hi s y=>#[y.2 xs (ζ.seq s a),y.1.symm]) C
end
def mH(K:ϩ)(C L:δ):Bool:=(aok K C).any λcd=>cd.hasDict&&cd.mro==.ref C:: .ref L::iZ
theorem acL{K:ϩ}{C L:δ}(h:mH K C L=true):∃cd,aok K C=some cd/\cd.hasDict=true/\cd.mro=.ref C:: .ref L::iZ:=by
 let#[cd,h1,h2]:=aoq h;rw[aa2,beq_iff_eq]at h2;show#[cd,h1,h2.1,h2.2]
section
variable{prog:Ϯ}{w:Ϭ}{A:ϳ}{E:ε->μ->Prop}{s:μ}{K:ϩ}{x C L:δ}{ox:Obj}{vs:Array ε}{name:Str}{v:ε}
end
abbrev vA(K:ϩ)(C f:δ):Bool:=Bd K C (some (.ref f))
section
variable{prog:Ϯ}{w:Ϭ}{A:ϳ}{E:ε->μ->Prop}{h:ϫ}{g:Array GenState}{d:Drawn}{t:Nat}{os:OsState}
variable{nm q:Str}{C N x:δ}{bs bm:List ε}{hdct:Bool}{sn:List Str}{sub:List ε}{ab:Bool}{col:Option Bool}{dd:Option δ}{k0 k1 k2 k3 k5:Option ε}{ox:Obj}{vs:Array ε}{v:ε}
end
section
variable{prog:Ϯ}{w:Ϭ}{A:ϳ}{E:ε->μ->Prop}{s:μ}{env:Env}
variable{nm q:Str}{C N:δ}{bs bm:List ε}{hdct:Bool}{sn:List Str}{sub:List ε}{ab:Bool}{col:Option Bool}{dd:Option δ}{k0 k1 k2 k3 k5:Option ε}
end
def xo(e C:δ)(D:Option δ):HO:=.ext λh=>∃t,h.get? e=some {cls:=.ref C,dict:=D,data:=.fields #v[.ref t,.none,.none,.none,.bool false,.none]}
def fQ(H:Hp)(e:δ):Hp:=λb=>if b=e then none else H b
theorem jn{H:Hp}{e b:δ}(h:b≠e):fQ H e b=H b:=by unfold fQ;rw[if_neg h]
theorem agj{H:Hp}{e:δ}:fQ H e e=none:=by unfold fQ;rw[if_pos rfl]
section
variable{X:Cx}{ϵ:List (δ×Obj)}{σ:St}{H:Hp}{s:μ}{e:δ}{φ:ϫ->Prop}
theorem Inv.adopt(I:Inv X ϵ σ H s)(a:H e=none)(c:Ch X ϵ e)(ok:ϕ X.prog X.w (upd H e (.ext φ)) s.heap e (.ext φ)):Inv X ϵ σ (upd H e (.ext φ)) s:=by
 let ne:∀b u,H b=some u->b≠e:=λb u q=>Ϗ q a
 have:=I.step (h':=s.heap) (H':=upd H e (.ext φ)) (g':=s.gens) (d':=s.drawn) (t':=s.toks) (ch:=[e]) (λb f=>?_) (λb o _ _ _ q _=>q) (λb o _ _ _ q _=>#[o.slots,q]) (λb o g _ n=>?_) (λb o _ q=>#[o,q]) (λb xs q=>?_) (λb o u q=>?_) (λb ps q=>?_) (λm q=>q) (λb u q=>?_) I.bare
 .show this
 .let z:b=e:=by simpa using f
  subst z;show c
 .rw[ο (λz=>g (by simp[z]))];show n
 .rw[ο (ne _ _ q)];show q
 .rw[ο (ne _ _ q)];show q
 .show#[#v[],by rw[ο (ne _ _ q),q];simp]
 .by_cases z:b=e
  .subst z;rw[υ]at q;cases q;show ok
  .rw[ο z]at q;show(I.hok b u q).stay (λ_ _ _ r=>r) (λc r=>by rw[ο (ne _ _ r)];show r) (λc xs r=>by rw[ο (ne _ _ r)];show r) λc i v r=>by rw[ο (ne _ _ r)];show r
theorem Inv.forget(I:Inv X ϵ σ H s)(a:H e=some (.ext φ))(c:Ch X ϵ e):Inv X ϵ σ (fQ H e) s:=by
 have:=I.step (h':=s.heap) (H':=fQ H e) (g':=s.gens) (d':=s.drawn) (t':=s.toks) (ch:=[e]) (λb f=>?_) (λb o _ _ _ q _=>q) (λb o _ _ _ q _=>#[o.slots,q]) (λb o g _ n=>?_) (λb o _ q=>#[o,q]) (λb xs q=>?_) (λb o u q=>?_) (λb ps q=>?_) (λm q=>q) (λb u q=>?_) I.bare
 .show this
 .let z:b=e:=by simpa using f
  subst z;show c
 .rw[jn (λz=>g (by simp[z]))];show n
 .rw[jn (λz=>by rw[z,a]at q;cases q)];show q
 .rw[jn (λz=>by rw[z,a]at q;cases q)];show q
 .show#[#v[],by rw[jn (λz=>by rw[z,a]at q;cases q),q];simp]
 .by_cases z:b=e
  .subst z;rw[agj]at q;cases q
  .rw[jn z]at q;show(I.hok b u q).stay (λ_ _ _ r=>r) (λc r=>by rw[jn (λz=>by rw[z,a]at r;cases r)];show r) (λc xs r=>by rw[jn (λz=>by rw[z,a]at r;cases r)];show r) λc i v r=>by rw[jn (λz=>by rw[z,a]at r;cases r)];show r
end
structure aaV(K:ϩ)(mg:Str->Option ε)(x:Str):Prop where
 at_:mg x=some (.ref (θ mg x))
 reads:anR K (θ mg x) (.type "type")=true
 ini:anS K (.ref (θ mg x)) (.type "type") "__init__"=some (.val (.builtin "ValueError.__init__"))
 ga:ah1 K (.ref (θ mg x)) "__getattribute__"=some (some (.builtin "type.__getattribute__"))
structure Ue(K:ϩ)(mg:Str->Option ε)(Lx x qual fld:Str)(st:ϧ):Prop where
 at_:mg x=some (.ref (θ mg x))
 ex:∃f fd,cH K "__init__" qual st f fd/\vA K (θ mg x) f=true/\aoD K (.ref f)=true
 sa:afc K (.ref (θ mg x)) "__setattr__"=some (some (.builtin "object.__setattr__"))
 tk:aof K (θ mg x) fld=some none
 xc:mH K (θ mg x) (θ mg Lx)=true
section
variable{X:Cx}{σ:St}{H:Hp}{Q:VK}{D:Ends}{Lx x f fld:Str}{np apos pos pos' cpos:Pos}{a o value:Ϩ}{es:List Ϩ}{Kx:St->XK}
end
section
variable{prog:Ϯ}{w:Ϭ}{A:ϳ}{E:ε->μ->Prop}{s:μ}{env:Env}
variable{nm q:Str}{C N:δ}{bs bm:List ε}{hdct:Bool}{sn:List Str}{sub:List ε}{ab:Bool}{col:Option Bool}{dd:Option δ}{k0 k1 k2 k3 k5:Option ε}
end
section
variable{X:Cx}{Kx:St->XK}{D:Ends}{σ:St}{H:Hp}{x fld:Str}{np cpos pos:Pos}{e:Ϩ}{es:List Ϩ}{cc bU:Bool}{k k':Nat}
end
structure tV(K:ϩ)(C:δ):Prop where
 hd:alZ K C=true
 ga:afc K (.ref C) "__getattribute__"=some (some (.builtin "BaseException.__getattribute__"))
 gt:afc K (.ref C) "__getattr__"=some none
 cl:afc K (.ref C) "__class__"=some (some (.builtin "object.__class__"))
 cg:ah1 K (.builtin "object.__class__") "__get__"=some (some (.builtin "getset_descriptor.__get__"))
 ct:anK K (.builtin "object.__class__")=some true
 mo:am2 K C (.type "object")=some true
 mb:am2 K C (.type "BaseException")=some true
section
variable{prog:Ϯ}{w:Ϭ}{A:ϳ}{E:ε->μ->Prop}{s:μ}{K:ϩ}{x C:δ}{ox:Obj}{od:Option Obj}{name:Str}{v:ε}
theorem ae2{tk:Tok}{fill a:Bool}{Q:ε->μ->Prop}(X:K.In s.heap)(I:ao4 s.heap x ox C od)(c:tV K C)(h:ν (Ϧ prog w) A.in1 (anh.«object.__getattribute__» #[[.ref x,.str name tk],[]]) (λfin s'=>match fin with
   |.done (.ret v)=>ν (Ϧ prog w) A (handedOut v) Q E s'
   |_=>False) (λ_ _=>False) s):ν (Ϧ prog w) A (getAttrBy (.ref x) (.str name tk) fill a) Q E s:=by
 let FB:=F.attrBase_ValueError;let sub:W.Looks (Ϧ prog w) s.heap (isInstance (.ref x) (.type "BaseException")) true:=I.type.andThen (W.looks_mroIn X c.mb);unfold getAttrBy;show af6 (π (I.type.here (π ((aou X c.ga).here ?_))));dsimp only;let e:(Value.builtin "BaseException.__getattribute__"==Value.builtin "object.__getattribute__")=false:=by fin2
 rw[if_neg (by rw[e,Bool.and_false];show aaN)];unfold getAttrByItsOwn hookBefore;rw[if_pos (show onTheHeap (Value.ref C)=true from rfl)];show π ((aou X c.gt).here ?_);show π (amX (af6 ?_));unfold callGetattribute;rw[if_neg (by cases a<;>show aaN)];unfold boundAndCalled;rw[FB.ga.bind];show π (ϯ (wpAny_call (codeAny_call_builtin FB.ga.plain F.entry_bexc_ga (@W.check_slot (Ϧ prog w) _ _ s "BaseException.__getattribute__" "BaseException" "__getattribute__" (.ref x) [.str name tk] [] _ (by fin2) (by fin2) sub (F.args_bexc_ga _ _) ?_))));show aef h (λfin s' z=>?_) λ_ _ z=>z.elim
 rcases fin with(_|_|_|_)|_<;>first|show z|show z.elim
theorem aez{a g:ε}(c:(aok K C).isSome=true)(e:afc K (.ref C) name=some (some a))(f:ah1 K a "__get__"=some (some g))(i:anK K a=some true):apr K C od name=some (.bind g a):=by
 let#[cd,c]:=akT.mp c;unfold apr;rw[c,an7,e,an7];simp[f,i]
theorem agh{Q:Option ε->μ->Prop}(X:K.In s.heap)(I:ao4 s.heap x ox C od)(c:tV K C)(h:Q (some (.ref C)) {s with toks:=s.toks+1}):ν (Ϧ prog w) A (getAttr? (.ref x) "__class__") Q E s:=by
 let a:apr K C od "__class__"=some (.bind (.builtin "getset_descriptor.__get__") (.builtin "object.__class__")):=aez (by let#[cd,e,_]:=aoq c.hd;rw[e];rfl) c.cl c.cg c.ct;let f:=W.looks_find (M:=Ϧ prog w) X I a;unfold getAttr? getAttrBy?;show π (wpAny_mkText (π (amX (ae2 (s:={s with toks:=s.toks+1}) X I c ?_))));unfold anh.«object.__getattribute__»;show π (ϯ ?_);dsimp only;show π (ϯ (π (W.Looks.here (s:={s with toks:=s.toks+1}) I.type (π (W.Looks.here (s:={s with toks:=s.toks+1}) f ?_)))));show ν _ _ (holding [.builtin "object.__class__"] (call (.builtin "getset_descriptor.__get__") [.builtin "object.__class__",.ref x,.ref C])>>=ret) _ _ _;show π (af6 (wpAny_call (W.class_get (s:={s with toks:=s.toks+1}) X I c.mo (ϯ ?_))));show W.handed_on rfl (ϯ h)
theorem aea(c:tV K C):W.KitX K (.ref x) (.ref C) (λh=>∃ox od,ao4 h x ox C od)where
 ty:=λ_ _ _ ⟨_,_,I⟩=>I.type
 it:=λ_ _ X _=>by
  let#[f,a,_]:=aoq c.hd;unfold aok at a;split at a
  .rename_i m d' g i j;intro o p s s' k q;unfold isType loadHead;show π (wpAny_loadPart (k _ _ (X _ _ j)) (ϯ q))
  .cases a
 ne:=λh tp dd u n sl X l=>by
  let#[f,a,_]:=aoq c.hd;show aiP.mpr λq=>?_
  let e:C=tp:=Value.ref.inj (beq_iff_eq.mp q);subst e;unfold aok at a;split at a
  .rename_i m d' g i j;let z:=(X _ _ j).symm.trans l;cases z
  .cases a
 ca:=λX ⟨_,_,I⟩ k=>agh X I c k
end
def xw(e C:δ)(D:Option δ):HO:=.ext λh=>∃a vs,h.get? e=some a/\a.cls=.ref C/\a.dict=D/\a.data=.fields vs
theorem air{P:Ϯ}{w:Ϭ}{H:Hp}{h:ϫ}{e C:δ}{D:Option δ}{a:Obj}{vs:Array ε}(q:h.get? e=some a)(c:a.cls=.ref C)(hd:a.dict=D)(f:a.data=.fields vs):ϕ P w H h e (xw e C D):=
 #[#[a,vs,q,c,hd,f],#[_,q],λh1 h2 ⟨a,vs,q,r⟩ k=>#[a,vs,k _ q,r]]
section
variable{X:Cx}{σ:St}{H:Hp}{Q:VK}{e C:δ}{D:Option δ}{k:Bool}
theorem Inv.inst{ϵ:List (δ×Obj)}{s:μ}(I:Inv X ϵ σ H s)(p:H e=some (xw e C D))(hd:∀a,D=some a->∃fs,H a=some (.xd fs)):∃ox od,ao4 s.heap e ox C od/\∀a fs,D=some a->H a=some (.xd fs)->∃o,od=some o/\∃mA:Str->Option ε,(∀f,bZ (fs.lookup f) (mA f))/\∀n,ao3 n o=some (mA n):=by
 let#[#[i,vs,q,j,c,l],_,_]:=I.hok e _ p;cases D with
 |none=>show#[i,none,#[q,j,by unfold W.notCls;rw[l],by rw[c];trivial],λa fs z=>nomatch z]
 |some a=>
  let#[fs,h1]:=hd a rfl;let#[mA,g,u]:=I.hok a _ h1;let#[o,v,x]:=Oo g;show#[i,some o,#[q,j,by unfold W.notCls;rw[l],by rw[c];show v],λB y z m=>?_];cases z;rw[h1]at m;cases m;show#[o,rfl,mA,u,x]
theorem aey{c:V}{u:ε}(i:tV X.K C)(f:H e=some (xw e C D))(hd:∀a,D=some a->∃fs,H a=some (.xd fs))(j:∀g,RelV c g->g=u)(l:anD X.K (.ref C) u=some k)(q:Q (.bl k) H):CL X (.builtin "isinstance") [.ref e,c] H Q:=by
 show dB (r:=λxs H Q=>xs=[.ref e,c]/\H e=some (xw e C D)/\(∀a,D=some a->∃fs,H a=some (.xd fs))/\Q (.bl k) H) ?_ #[rfl,f,hd,q];intro ϵ s σ H xs us Q I r h;let#[rfl,f,hd,q]:=h;let#[m,n,rfl,o,p]:=vals2 r;cases(show m=Value.ref e from o);rw[j n p];let#[ox,od,J,_]:=I.inst f hd;show amg (aea i) I.kIn #[ox,od,J] l (λz=>nomatch z) λtk=>#[.bl k,H,I.tok tk,rfl,q]
end
section
variable{X:Cx}{ϵ:List (δ×Obj)}{σ:St}{H:Hp}{s:μ}{h':ϫ}
theorem Inv.aaD{n:Str}{i:Nat}{m m':Str->Option ε}{t':Nat}(I:Inv X ϵ σ H s)(E:X.N.Nodup)(hi:X.N[i]?=some n)(B:σ[i]?=some none)(F:∀(i:Nat)(x:Str)(v:V),X.N[i]?=some x->σ[i]?=some (some v)->pB X.env.scope x->∃u,RelV v u/\Look X.env s.heap m x u)(G:h'.Ns X.env.locals m')(J:∀x,x≠n->m' x=m x)(g:∀b o,b≠X.env.locals->s.heap.get? b=some o->h'.get? b=some o)(S:∃o,h'.get? X.env.locals=some o):Inv X ϵ σ H {s with heap:=h',toks:=t'}:=by
 let f:∀b o,X.s₀.heap.get? b=some o->b≠X.env.locals:=λb o e=>adv (abM (abL e) I.ok.above)
 let a:∀x c,X.env.cells.lookup x=some c->∀v,s.heap.IsCell c v->h'.IsCell c v:=λx c e v ⟨o,L,hd⟩=>#[o,g c o (I.cne x c e) L,hd]
 show#[I.ok,I.os,I.bare,#[λb o e n C y=>g b o (f b o e) (I.base.keep b o e n C y),λb o e n C y=>?_,I.base.free,λb o e y=>?_,I.base.tups,I.base.frzs,I.base.tbls],#[m',G,λj x v e1 D M=>?_],λx c e=>?_,I.free,I.freeC,λp O=>?_,λb u e=>?_,I.len]
 .let#[sl,e1]:=I.base.slot b o e n C y;show#[sl,g b _ (f b o e) e1]
 .let#[o',e1]:=I.base.there b o e y;show#[o',g b o' (f b o e) e1]
 .let#[u,r,l]:=F j x v e1 D M;show#[u,r,?_];let P:x≠n:=λz=>by
   subst z;have:=G5 E e1 hi;subst this;rw[B]at D;cases D
  obtain l|⟨k,c,e,z⟩:=l
  .show .inl #[l.1,by rw[J x P];show l.2]
  .show .inr #[k,c,e,a x c e _ z]
 .let#[v,z]:=I.cell x c e;show#[v,a x c e v z]
 .let#[e,n,ne,Q,d]:=I.pin p O;show#[g _ _ ne e,n,ne,Q,d]
 .show(I.hok b u e).stay (λc v R q=>g c v ?_ q) (λ_ q=>q) λ_ _ q=>q
  obtain z|z:=R
  .rw[z];show Ϗ e I.free
  .show Ϗ z I.free
end
section
variable{X:Cx}{D:Ends}{σ:St}{H:Hp}{rest:List alD}{suite:List ϧ}{b₀:ϧ}{pos np:Pos}{x n:Str}{c:ε}{C:δ}{d:Option δ×Bool}{i:Nat}
abbrev ahJ(D:Ends)(i:Nat)(e C:δ)(dd:Option δ):Ends:=
 {nx:=λσ' H'=>H' e=some (xw e C dd)/\D.nx (σ'.set i none) (fQ H' e),rt:=λv H'=>H' e=some (xw e C dd)/\D.rt v (fQ H' e),
  bk:=λσ' H'=>H' e=some (xw e C dd)/\D.bk (σ'.set i none) (fQ H' e),ct:=λσ' H'=>H' e=some (xw e C dd)/\D.ct (σ'.set i none) (fQ H' e)}
theorem ab2(hN:X.N.Nodup)(hi:nameAt X.N n=some i)(l:X.env.scope.names.lookup n=some .local)(hg:Gl X x)(hm:X.mg x=some c)(hd:(x==("__debug__":Str))=false)(ex:aoF X.K (.ref C) c=some true)(h:∀e pn,H e=none->Ο (X.iy (.ref e) (λ_ _=>False) pn) (b₀::suite) (ahJ D i e C d.1) (σ.set i (some (.ref e))) (upd H e (xw e C d.1))):EH X (.ExceptHandler (some (.Name x np)) (some n) (b₀::suite) pos::rest) D σ (.ref C) d H:=by
 intro ϵ s e T I F ch;let p:(X.env.scope.kind==.class||(X.env.scope.kind==.module&&X.env.locals !=X.env.globals))=false:=by rw[I.ok.kind];rfl
 let M:i<X.N.length:=(aai.mp (jM hi)).1;let#[Uv,P]:=ch e (by simp);show wpAny_handleBy_cons (agv I F hg hm hd ex ?_) (by intro q;cases q);show codeAny_handlers_suite_as (I.off F ch λs2 I2 F2=>?_);show oO I2 hN (jM hi) (.inl l) (v:=.ref e) rfl (λs3 I3 S=>?_) (.inr l);let#[a,sb,ha]:=S;let U:e≠a:=by
  obtain z|z:=ha
  .rw[z];show P.2.1
  .show λy=>P.2.2.1 n a z y.symm
 let#[oe,vs,he,W,Y,Z,_]:=F2;let ab:s3.heap.get? e=some oe:=(sb.2 e U).trans he;let I4:=I3.adopt Uv P (φ:=λh=>∃oe vs,h.get? e=some oe/\oe.cls=.ref C/\oe.dict=d.1/\oe.data=.fields vs) (air ab W Y Z);show aef (h e (X.pn++ϵ) Uv [] s3 I4.iy) (λf s4 q=>?_) λ_ _ q=>q.elim
 let g:∀{σ':St}{H':Hp}{Q:Unit->μ->Prop},Inv X ϵ σ' H' s4->H' e=some (xw e C d.1)->(∀L,Inv X ϵ (σ'.set i none) (fQ H' e) L->Q PUnit.unit L)->ν (Ϧ X.prog X.w) X.A (do bindName X.env n .none;unbindBehindTheSuite X.env n pos) Q X.xe s4:=λ{σ' H' Q} J ac k=>by
  let J2:=J.forget ac P;let J3:Inv X ϵ (σ'.set i none) (fQ H' e) s4:=J2.weak (by simp) λj v R=>by
   by_cases z:j=i
   .subst z;rw[alI (by rw[J.len];show M)]at R;cases R
   .rw[ant (Ne.symm z)]at R;show R
  let#[m,hn,hl]:=id J3.loc;show wpAny_nameGoes_keeps (show X.env.kindOf n=some .local from l) hn p λh' v O ae=>k _ ?_
  show J3.aaD (m:=m) (m':=λx=>if x=n then v else m x) hN (jM hi) (alI (by rw[J.len];show M)) hl O (λx hx=>by rw[if_neg hx]) (λb o S q=>(ae.2 b S).trans q) ?_;let#[o,_,_,ho,_]:=O;show#[o,ho]
 cases f with
 |next=>
  let#[σ',H',J,B,E]:=q;show g (Inv.vp I.ok J) B λL G=>#[_,_,G,E]
 |brk=>
  let#[σ',H',J,B,E]:=q;show g (Inv.vp I.ok J) B λL G=>#[_,_,G,E]
 |cont=>
  let#[σ',H',J,B,E]:=q;show g (Inv.vp I.ok J) B λL G=>#[_,_,G,E]
 |ret u=>
  let#[v,σ',H',J,r,B,E]:=q;show g (Inv.vp I.ok J) B λL G=>#[v,_,_,G,r,E]
end
structure p6(K:ϩ)(mg:Str->Option ε)(x:Str):Prop extends aaV K mg x where
 ty:anC K (.ref (θ mg x))=some (.type "type")
 mb:am2 K (θ mg x) (.type "BaseException")=some true
structure XC(K:ϩ)(mg:Str->Option ε)(Lx x:Str):Prop where
 at_:mg x=some (.ref (θ mg x))
 xc:mH K (θ mg x) (θ mg Lx)=true
 ty:anC K (.ref (θ mg x))=some (.type "type")
 attr:tV K (θ mg x)
section
variable{K:ϩ}{mg:Str->Option ε}{Lx x y:Str}
theorem acR(h:XC K mg Lx x)(v:ε):am2 K (θ mg x) v=some ((Value.ref (θ mg x):: .ref (θ mg Lx)::iZ).contains v):=by
 let#[cd,h1,_,h2]:=acL h.xc;unfold am2;rw[h1,an7,h2];rfl
theorem p6.cls(h:p6 K mg x):(aok K (θ mg x)).isSome=true:=by
 have:=h.mb;unfold am2 at this;cases e:aok K (θ mg x)with
 |none=>rw[e]at this;cases this
 |some cd=>rfl
theorem Zr{C:δ}(t:ε)(h1:(aok K C).isSome=true)(h2:anC K (.ref C)=some (.type "type")):W.kitCls K t (.ref C)=apw K t (.ref C):=by
 show(if((aok K C).isSome&&anC K (.ref C)==some (.type "type"))=true then apw K t (.ref C)else none)=_;rw[if_pos];rw[h1,h2];rfl
theorem aip(h:XC K mg Lx x):apw K (.ref (θ mg x)) (.ref (θ mg Lx))=some true:=by
 show am2 K (θ mg x) (.ref (θ mg Lx))=some true;rw[acR h,aoG,aoG,beq_self_eq_true];cases(Value.ref (θ mg Lx)==Value.ref (θ mg x))<;>rfl
theorem abx(h:XC K mg Lx x):anD K (.ref (θ mg x)) (.ref (θ mg x))=some true:=by
 unfold anD;rw[if_pos (beq_self_eq_true _)]
theorem ae6(h:XC K mg Lx x)(b:p6 K mg Lx):aoF K (.ref (θ mg x)) (.ref (θ mg Lx))=some true:=by
 unfold aoF;let e:apw K (.ref (θ mg Lx)) (.type "BaseException")=some true:=b.mb;rw[e,if_pos (by decide),Zr _ b.cls b.ty];show aip h
end
section
variable{K:ϩ}{mg:Str->Option ε}{Lx x qual fld:Str}{C L f:δ}{st:ϧ}{fd:ah2}
theorem adn(h:mg x=some (.ref C))(a:anR K C (.type "type")=true)(c:anS K (.ref C) (.type "type") "__init__"=some (.val (.builtin "ValueError.__init__")))(f:ah1 K (.ref C) "__getattribute__"=some (some (.builtin "type.__getattribute__")))(g:anC K (.ref C)=some (.type "type"))(i:am2 K C (.type "BaseException")=some true):p6 K mg x:=by
 let e:=cF h;show{at_:=by rw[e];show h,reads:=by rw[e];show a,ini:=by rw[e];show c,ga:=by rw[e];show f,ty:=by rw[e];show g,mb:=by rw[e];show i}
theorem ag2(h:mg x=some (.ref C))(c:mg Lx=some (.ref L))(f:mH K C L=true)(g:anC K (.ref C)=some (.type "type"))(i:alZ K C=true)(j:afc K (.ref C) "__getattribute__"=some (some (.builtin "BaseException.__getattribute__")))(l:afc K (.ref C) "__getattr__"=some none)(m:afc K (.ref C) "__class__"=some (some (.builtin "object.__class__")))(n:ah1 K (.builtin "object.__class__") "__get__"=some (some (.builtin "getset_descriptor.__get__")))(o:anK K (.builtin "object.__class__")=some true)(p:am2 K C (.type "object")=some true)(a:am2 K C (.type "BaseException")=some true):XC K mg Lx x:=by
 let e:=cF h;let q:=cF c;show#[by rw[e];show h,by rw[e,q];show f,by rw[e];show g,by rw[e];show#[i,j,l,m,n,o,p,a]]
theorem acD(h:mg x=some (.ref C))(a:mg Lx=some (.ref L))(F:cH K "__init__" qual st f fd)(c:vA K C f=true)(g:aoD K (.ref f)=true)(i:afc K (.ref C) "__setattr__"=some (some (.builtin "object.__setattr__")))(j:aof K C fld=some none)(l:mH K C L=true):Ue K mg Lx x qual fld st:=by
 let e:=cF h;let m:=cF a;show#[by rw[e];show h,#[f,fd,F,by rw[e];show c,g],by rw[e];show i,by rw[e];show j,by rw[e,m];show l]
end
abbrev cU(h:ϫ)(T:δ)(a b c:ε):Prop:=h.get? T=some {cls:=.type "tuple",data:=.seq #v[a,b,c]}
theorem an{n a b:Nat}(h:a≠b:=by decide):(n+a:δ)≠n+b:=λe=>h (Nat.add_left_cancel e)
theorem ln{n l:Nat}(h:l<n)(k:Nat):(l:δ)≠n+k:=adv (Nat.lt_add_right k h)
theorem YL(a b c:ε):checkTypeCall "zip" #[[a,b,c],[]]=pure PUnit.unit:=by kernel_rfl
theorem aiA(a b c:ε):checkBuiltinCall "zip.__new__" #[[.type "zip",a,b,c],[]]=pure PUnit.unit:=by kernel_rfl
theorem aaJ(a b c d:ε):argsOk "object.__init__" #[[a,b,c,d],[]]:=by
 unfold argsOk;rw[signature?_of (id:="object.__init__") (n:=['_', '_', 't', 'i', 'n', 'i', '_', '_']) (o:=['t', 'c', 'e', 'j', 'b', 'o']) (by kernel_rfl) F.owner_object];kernel_rfl
section
variable{prog:Ϯ}{w:Ϭ}{A:ϳ}{E:ε->μ->Prop}{s:μ}
theorem DQ{T:δ}{a b c x:ε}{k:Nat}{Q:Unit->μ->Prop}(e:cU s.heap T a b c)(h:∀h',h'.get? T=some {cls:=.type "tuple",data:=.seq ((#v[a,b,c]:Array ε).setIfInBounds k x)}->akp T s.heap h'->Q PUnit.unit {s with heap:=h'}):ν (Ϧ prog w) A (updateSeq T (·.setIfInBounds k x)) Q E s:=by
 show wpAny_updateSeq e rfl (h _ ?_ (Heap.SameBut.update ..));rw[agk _ e rfl];simp[Obj.mapSeq]
theorem abS{n C D F:Nat}{k:Nat}{xs ys zs:Array ε}{x y u a b c:ε}{Q:ε->μ->Prop}(g1:C<n)(U:D<n)(G:F<n)(H:IsZip s.heap (n+5) (n+3) (n+4) .none)(W:cU s.heap (n+3) (.ref n) (.ref (n+1)) (.ref (n+2)))(X:cU s.heap (n+4) a b c)(h1:s.heap.IsListIter n C k)(h2:s.heap.IsListIter (n+1) D k)(h3:s.heap.IsListIter (n+2) F k)(Y:s.heap.IsList C xs)(Z:s.heap.IsList D ys)(ab:s.heap.IsList F zs)(hx:xs[k]?=some x)(hy:ys[k]?=some y)(hu:zs[k]?=some u)(hQ:∀h',IsZip h' (n+5) (n+3) (n+4) (rawInt s.heap.objs.size)->cU h' (n+4) x y u->h'.IsListIter n C (k+1)->h'.IsListIter (n+1) D (k+1)->h'.IsListIter (n+2) F (k+1)->cU h' s.heap.objs.size x y u->
   (∀c o,c≠n+5->c≠n+4->c≠n->c≠n+1->c≠n+2->s.heap.get? c=some o->h'.get? c=some o)->Q (.ref s.heap.objs.size) {s with heap:=h'}):ν (Ϧ prog w) A (anh.«zip.__next__» #[[.ref (n+5)],[]]) (λfin s'=>∃v,fin=.done (.ret v)/\Q v s') E s:=by
 let pM:n+5≠n:=an (b:=0);let CP:n+5≠n+1:=an;let yN:n+5≠n+2:=an;let I:n+5≠n+4:=an;let M:n+4≠n:=an (b:=0);let O:n+4≠n+1:=an;let P:n+4≠n+2:=an;let J:n+1≠n:=an (b:=0);let Px:n+2≠n:=an (b:=0);let Jk:n+2≠n+1:=an;show ν _ _ (field (.ref (n+5)) 2>>=_) _ _ _;show π (ahQ H rfl (x:=.bool false) rfl ?_);show ν _ _ (field (.ref (n+5)) 3>>=_) _ _ _;show π (ahQ H rfl (x:=.ref (n+3)) rfl ?_);show π (amG W rfl ?_);show ν _ _ (Builtin.SmallTypes.ownedTupleIsFree (.ref (n+5))>>=_) _ _ _;show π ?_;unfold Builtin.SmallTypes.ownedTupleIsFree;show π (ahQ H rfl (x:=.none) rfl (ϯ ?_));simp only[if_true];show π (wpAny_rule ?_);show π (ahQ H rfl (x:=.ref (n+4)) rfl ?_);show π (alo H (by simp) λm1 m g=>?_)
 replace m:IsZip m1 (n+5) (n+3) (n+4) .ellipsis:=m
 show π ?_;simp only[aoW,ao8,amn,anm];show π (π (wpAny_onRaise ?_));show ν _ _ (Builtin.SmallTypes.nextOf (.ref n)>>=_) _ _ _;show π (ani (h1.extBut g.extBut pM.symm) (Y.extBut g.extBut (ln g1 5)) hx λm2 ac i=>ϯ ?_);let t2:cU m2 (n+4) a b c:=i.extBut _ _ M (g.extBut _ _ I.symm X);show π (amG t2 rfl ?_);show π (DQ t2 λm3 t3 j=>?_)
 replace t3:cU m3 (n+4) x b c:=t3
 show π (wpAny_letGo (ϯ ?_));show π (π (wpAny_onRaise ?_));show ν _ _ (Builtin.SmallTypes.nextOf (.ref (n+1))>>=_) _ _ _;show π (ani (((h2.extBut g.extBut CP.symm).extBut i.extBut J).extBut j.extBut O.symm) (((Z.extBut g.extBut (ln U 5)).extBut i.extBut (ln U 0)).extBut j.extBut (ln U 4)) hy λm4 Z1 p=>ϯ ?_);let t4:cU m4 (n+4) x b c:=p.extBut _ _ O t3;show π (amG t4 rfl ?_);show π (DQ t4 λm5 t5 q=>?_)
 replace t5:cU m5 (n+4) x y c:=t5
 show π (wpAny_letGo (ϯ ?_));show π (π (wpAny_onRaise ?_));show ν _ _ (Builtin.SmallTypes.nextOf (.ref (n+2))>>=_) _ _ _;show π (ani (((((h3.extBut g.extBut yN.symm).extBut i.extBut Px).extBut j.extBut P.symm).extBut p.extBut Jk).extBut q.extBut P.symm) (((((ab.extBut g.extBut (ln G 5)).extBut i.extBut (ln G 0)).extBut j.extBut (ln G 4)).extBut p.extBut (ln G 1)).extBut q.extBut (ln G 4)) hu λm6 ae z=>ϯ ?_);let t6:cU m6 (n+4) x y c:=z.extBut _ _ P t5;show π (amG t6 rfl ?_);show π (DQ t6 λf R B=>?_)
 replace R:cU f (n+4) x y u:=R
 show π (wpAny_letGo (ϯ (ϯ ?_)));show π (amG R rfl ?_);show π (wpAny_newTuple ?_);let hsz:f.objs.size=s.heap.objs.size:=by rw[B.1,z.1,q.1,p.1,j.1,i.1,g.1]
 let T3:IsZip f (n+5) (n+3) (n+4) .ellipsis:=B.extBut _ _ I (z.extBut _ _ yN (q.extBut _ _ I (p.extBut _ _ CP (j.extBut _ _ I (i.extBut _ _ pM m)))));let af:∀c o,c≠n+5->c≠n+4->c≠n->c≠n+1->c≠n+2->s.heap.get? c=some o->f.get? c=some o:=λc o c1 c2 c3 c4 c5 e=>
  B.extBut _ _ c2 (z.extBut _ _ c5 (q.extBut _ _ c2 (p.extBut _ _ c4 (j.extBut _ _ c2 (i.extBut _ _ c3 (g.extBut _ _ c1 e))))))
 let i1:f.IsListIter n C (k+1):=((((ac.extBut j.extBut M.symm).extBut p.extBut J.symm).extBut q.extBut M.symm).extBut z.extBut Px.symm).extBut B.extBut M.symm;let i2:f.IsListIter (n+1) D (k+1):=((Z1.extBut q.extBut O.symm).extBut z.extBut Jk.symm).extBut B.extBut O.symm;let i3:f.IsListIter (n+2) F (k+1):=ae.extBut B.extBut P.symm;let l:n+5<f.objs.size:=abL T3;show ν _ _ (Builtin.SmallTypes.ownedTupleHandOut (.ref (n+5)) (.ref f.objs.size)>>=_) _ _ _;show π ?_;unfold Builtin.SmallTypes.ownedTupleHandOut;let ag:IsZip (f.push {cls:=.type "tuple",data:=.seq #v[x,y,u]}) (n+5) (n+3) (n+4) .ellipsis:=ϴ _ T3;show π (alo ag (by simp) λm8 DR s8=>?_)
 replace DR:IsZip m8 (n+5) (n+3) (n+4) (rawInt f.objs.size):=DR
 show alo DR (by simp) λS T s9=>?_
 replace T:IsZip S (n+5) (n+3) (n+4) (rawInt f.objs.size):=T
 let up:∀c o,c≠n+5->f.get? c=some o->S.get? c=some o:=λc o c1 e=>s9.extBut _ _ c1 (s8.extBut _ _ c1 (ϴ _ e))
 let L:cU S f.objs.size x y u:=s9.extBut _ _ (alY l) (s8.extBut _ _ (alY l) (abb _ rfl));rw[hsz]at T L;show ϯ #[_,rfl,?_];show Q (.ref f.objs.size) _;rw[hsz];show hQ S T (up _ _ I.symm R) (i1.at λo e=>up _ o pM.symm e) (i2.at λo e=>up _ o CP.symm e) (i3.at λo e=>up _ o yN.symm e) L λc o c1 c2 c3 c4 c5 e=>up c o c1 (af c o c1 c2 c3 c4 c5 e)
theorem aa4{n l:Nat}{k:Nat}{xs:Array ε}{b c:ε}{Q:Fin->μ->Prop}(hh:A.handled=none)(B:l<n)(g:IsZip s.heap (n+5) (n+3) (n+4) .none)(m:cU s.heap (n+3) (.ref n) b c)(h1:s.heap.IsListIter n l k)(p:s.heap.IsList l xs)(C:xs[k]?=none)(D:∀h' e,(∀c o,c≠n+5->c≠n->s.heap.get? c=some o->h'.get? c=some o)->(∃o,h'.get? e=some o/\o.cls=.type "StopIteration")->E (.ref e) {s with heap:=h'}):ν (Ϧ prog w) A (anh.«zip.__next__» #[[.ref (n+5)],[]]) Q E s:=by
 let v:n+5≠n:=an (b:=0);show ν _ _ (field (.ref (n+5)) 2>>=_) _ _ _;show π (ahQ g rfl (x:=.bool false) rfl ?_);show ν _ _ (field (.ref (n+5)) 3>>=_) _ _ _;show π (ahQ g rfl (x:=.ref (n+3)) rfl ?_);show π (amG m rfl ?_);show ν _ _ (Builtin.SmallTypes.ownedTupleIsFree (.ref (n+5))>>=_) _ _ _;show π ?_;unfold Builtin.SmallTypes.ownedTupleIsFree;show π (ahQ g rfl (x:=.none) rfl (ϯ ?_));simp only[if_true];show π (wpAny_rule ?_);show π (ahQ g rfl (x:=.ref (n+4)) rfl ?_);show π (alo g (by simp) λF a q=>?_)
 replace a:IsZip F (n+5) (n+3) (n+4) .ellipsis:=a
 show π ?_;simp only[aoW,ao8,amn,anm];show π (π (wpAny_onRaise ?_));show ν _ _ (Builtin.SmallTypes.nextOf (.ref n)>>=_) _ _ _;show π (wpAny_nextOf_list_end hh (h1.extBut q.extBut v.symm) (p.extBut q.extBut (ln B 5)) C λG e y H=>?_);let#[I,f,i]:=H;let j:IsZip G (n+5) (n+3) (n+4) .ellipsis:=y _ _ v a;let u:e≠n+5:=λx=>by subst x;rw[j]at f;cases f;simp at i
 show alo j (by simp) λJ _ z=>D J e (λc o c1 c3 x=>z.extBut _ _ c1 (y _ _ c3 (q.extBut _ _ c1 x))) #[I,z.extBut _ _ u f,i]
end
abbrev vm(h:ϫ)(l1:δ):ϫ:=h.push {cls:=.type "list_iterator",data:=.fields #v[.ref l1,.int 0 0]}
abbrev uE(h:ϫ)(l1 l2:δ):ϫ:=(vm h l1).push {cls:=.type "list_iterator",data:=.fields #v[.ref l2,.int 0 0]}
abbrev vq(h:ϫ)(l1 l2 l3:δ):ϫ:=(uE h l1 l2).push {cls:=.type "list_iterator",data:=.fields #v[.ref l3,.int 0 0]}
abbrev uM(h:ϫ)(l1 l2 l3:δ):ϫ:=(vq h l1 l2 l3).push {cls:=.type "tuple",data:=.seq #v[.ref h.objs.size,.ref (vm h l1).objs.size,.ref (uE h l1 l2).objs.size]}
abbrev vZ(h:ϫ)(l1 l2 l3:δ):ϫ:=(uM h l1 l2 l3).push {cls:=.type "tuple",data:=.seq #v[.none,.none,.none]}
abbrev lN(h:ϫ)(l1 l2 l3:δ):ϫ:=(vZ h l1 l2 l3).push {cls:=.type "zip",data:=.fields #v[.none,.bool false,.bool false,.ref (vq h l1 l2 l3).objs.size,.ref (uM h l1 l2 l3).objs.size]}
theorem adg(a c e:δ)(xs ys zs:Array ε):Meets (anh.«zip.__new__» #[[.type "zip",.ref a,.ref c,.ref e],[]]) (λ_ R s=>s.heap.IsList a xs/\s.heap.IsList c ys/\s.heap.IsList e zs/\R (.ok (.ret (.ref (vZ s.heap a c e).objs.size))) {s with heap:=lN s.heap a c e}):=
 .of_wp λprog w A R s h=>by
  let#[f,g,d,tk,os]:=s;let#[i,j,l,h]:=h;let o:=sub_zip;let m:ao9 (Shared.heap #[f,g,d,tk,os]) a xs:=i;let n:ao9 (Shared.heap #[f.push {cls:=.type "list_iterator",data:=.fields #v[.ref a,.int 0 0]},g,d,tk,os]) c ys:=Heap.IsList.push j _;let p:ao9 (Shared.heap #[(f.push {cls:=.type "list_iterator",data:=.fields #v[.ref a,.int 0 0]}).push {cls:=.type "list_iterator",data:=.fields #v[.ref c,.int 0 0]},g,d,tk,os]) e zs:=Heap.IsList.push (Heap.IsList.push l _) _
  wp_walk using akt m,akt n,akt p
  show#[_,rfl,h]
section
variable{prog:Ϯ}{w:Ϭ}{A:ϳ}{E:ε->μ->Prop}{s:μ}
theorem ajB{a e f:δ}{xs ys zs:Array ε}{Q:ε->μ->Prop}(g:s.heap.IsList a xs)(i:s.heap.IsList e ys)(j:s.heap.IsList f zs)(h:∀h',IsZip h' (s.heap.objs.size+5) (s.heap.objs.size+3) (s.heap.objs.size+4) .none->cU h' (s.heap.objs.size+3) (.ref s.heap.objs.size) (.ref (s.heap.objs.size+1)) (.ref (s.heap.objs.size+2))->
   cU h' (s.heap.objs.size+4) .none .none .none->h'.IsListIter s.heap.objs.size a 0->h'.IsListIter (s.heap.objs.size+1) e 0->h'.IsListIter (s.heap.objs.size+2) f 0->
   (∀c o,s.heap.get? c=some o->h'.get? c=some o)->Q (.ref (s.heap.objs.size+5)) {s with heap:=h'}):ν (Ϧ prog w) A (call (.type "zip") [.ref a,.ref e,.ref f]) Q E s:=by
 show callType_new F.called_zip (by decide) (YL _ _ _) (aiA _ _ _) (λobj=>aaJ obj _ _ _) F.entry_zip_new (adg a e f xs ys zs) #[g,i,j,?_];let l:(vm s.heap a).objs.size=s.heap.objs.size+1:=aiO ..;let m:(uE s.heap a e).objs.size=s.heap.objs.size+2:=by rw[aiO,l]
 let n:(vq s.heap a e f).objs.size=s.heap.objs.size+3:=by rw[aiO,m]
 let p:(uM s.heap a e f).objs.size=s.heap.objs.size+4:=by rw[aiO,n]
 let u:(vZ s.heap a e f).objs.size=s.heap.objs.size+5:=by rw[aiO,p]
 let q:(lN s.heap a e f).get? (vZ s.heap a e f).objs.size=some _:=abb _ rfl;let v:(lN s.heap a e f).get? (uM s.heap a e f).objs.size=some _:=ϴ _ (abb _ rfl);let y:(lN s.heap a e f).get? (vq s.heap a e f).objs.size=some _:=ϴ _ (ϴ _ (abb _ rfl));let z:(lN s.heap a e f).get? (uE s.heap a e).objs.size=some _:=ϴ _ (ϴ _ (ϴ _ (abb _ rfl)));let B:(lN s.heap a e f).get? (vm s.heap a).objs.size=some _:=ϴ _ (ϴ _ (ϴ _ (ϴ _ (abb _ rfl))));let C:(lN s.heap a e f).get? s.heap.objs.size=some _:=ϴ _ (ϴ _ (ϴ _ (ϴ _ (ϴ _ (abb _ rfl)))));show _/\_;rw[n,p,u]at q;rw[l,m,n]at y;rw[p]at v;rw[m]at z;rw[l]at B;rw[u];show#[#[_,q,rfl],h _ q y v #[_,C,rfl,rfl] #[_,B,rfl,rfl] #[_,z,rfl,rfl] λc o x=>
  ϴ _ (ϴ _ (ϴ _ (ϴ _ (ϴ _ (ϴ _ x)))))]
end
def Ds(K:ϩ)(l m q:δ):It:=
 #[λi H=>∃xs ys zs x y z,(η K H l xs/\η K H m ys/\η K H q zs)/\xs[i]?=some x/\ys[i]?=some y/\zs[i]?=some z,
  λi H v H'=>∃T x y z,v=.ref T/\H T=none/\H'=upd H T (.tup [x,y,z])/\(∀xs,η K H l xs->xs[i]?=some x)/\(∀ys,η K H m ys->ys[i]?=some y)/\∀zs,η K H q zs->zs[i]?=some z,
  λi H=>∃xs,η K H l xs/\xs.length<=i]
theorem aeG{P:Ϯ}{w:Ϭ}{K:ϩ}{elts:List Ϩ}{k:Nat}{pos:Pos}(n l m q:Nat)(g1:l<n)(g2:m<n)(g3:q<n):Turn P w K (.Tuple elts k pos) (Ds K l m q) [n+5,n+3,n+4,n,n+1,n+2] (n+5) (λi h=>IsZip h (n+5) (n+3) (n+4) .none/\cU h (n+3) (.ref n) (.ref (n+1)) (.ref (n+2))/\(∃a b c,cU h (n+4) a b c)/\h.IsListIter n l i/\h.IsListIter (n+1) m i/\h.IsListIter (n+2) q i)where
 mem:=by simp
 obj:=λi h st b g=>by
  let#[p,f,#[a,a',O,j],#[W,h1,_,d1],#[Y,h2,_,d2],#[Z,u,_,d3]]:=st;simp only[ϲ,ahh,or_false]at g;obtain e|e|e|e|e|e:=g<;>subst e
  .show#[_,p,λv z=>by cases z]
  .show#[_,f,λv z=>by cases z]
  .show#[_,j,λv z=>by cases z]
  .show#[_,h1,λv z=>by rw[d1]at z;cases z]
  .show#[_,h2,λv z=>by rw[d2]at z;cases z]
  .show#[_,u,λv z=>by rw[d3]at z;cases z]
 keep:=λi h h' st kk=>by
  let#[p,f,#[a,a',O,j],#[W,h1,r1],#[Y,h2,r2],#[Z,u,r3]]:=st;show#[kk _ (by simp) _ p,kk _ (by simp) _ f,#[a,a',O,kk _ (by simp) _ j],#[W,kk _ (by simp) _ h1,r1],#[Y,kk _ (by simp) _ h2,r2],#[Z,kk _ (by simp) _ u,r3]]
 item:=by
  intro X hP hw hK hc i ϵ s σ H E I R st hg;subst hP hw hK;let#[p,f,#[a,b,c,j],h1,h2,u]:=id st;let#[xs,ys,zs,x,y,z,#[B,D,Wo],S,hy,hu]:=hg;let#[Bx,uw,DP,_]:=I.list B;let#[Vk,Hm,ZK,_]:=I.list D;let#[O8,S7,ab,_]:=I.list Wo;let#[u1,ac,zM]:=uw.get S;let#[u2,ae,Dk]:=Hm.get hy;let#[u3,af,FZ]:=S7.get hu;let G:s.TypeIs (.ref (n+5)) "zip":=#[_,p,rfl];unfold pyNext;show π (amX (am7 (name:=Ϫ "__next__") G F.slot_zip_next (wpAny_call_entry F.slot_zip_next G F.entry_zip_next
   (abS g1 g2 g3 p f j h1 h2 u DP.isList ZK.isList ab.isList (by simpa using ac) (by simpa using ae) (by simpa using af) λh' a1 O a3 a4 a5 a6 U=>ϯ ?_) (F.args_zip_next_1 _))))
  show#[_,rfl,?_];show wpAny_letOwnedTupleGo_zip (s:={s with heap:=h'}) a1 λJ ag C=>?_
  let L:s.heap.objs.size<=s.heap.objs.size:=ϭ _;let ah:s.heap.objs.size≠n+5:=alY (abL p);let ue:IsTup J s.heap.objs.size [u1,u2,u3].toArray:=#[_,C.extBut _ _ ah a6,rfl,_,rfl];let ai:∀b o,b∉[n+5,n+3,n+4,n,n+1,n+2]->s.heap.get? b=some o->J.get? b=some o:=λb o g q=>by
   simp only[ϲ,ahh,or_false,not_or]at g;show C.extBut _ _ g.1 (U b o g.1 g.2.2.1 g.2.2.2.1 g.2.2.2.2.1 g.2.2.2.2.2 q)
  show#[.ref s.heap.objs.size,upd H s.heap.objs.size (.tup [x,y,z]),I.BJ (ch:=[n+5,n+3,n+4,n,n+1,n+2]) (tk:=s.toks) R L ai Ζ (.cons zM (.cons Dk (.cons FZ .nil))) ue,rfl,?_,?_,λb g=>?_]
  .show#[_,x,y,z,rfl,I.hok.fresh L,rfl,λa M=>?_,λa M=>?_,λa M=>?_]
   .rw[<-I.list_inj B M];show S
   .rw[<-I.list_inj D M];show hy
   .rw[<-I.list_inj Wo M];show hu
  .show#[ag,C.extBut _ _ an (U _ _ an an (an (b:=0)) an an f),#[_,_,_,C.extBut _ _ an O],a3.extBut C.extBut (an (a:=0)),a4.extBut C.extBut an,a5.extBut C.extBut an]
  .have :b≠s.heap.objs.size:=λq=>by
    obtain⟨o,ho⟩:∃o,s.heap.get? b=some o:=by
     let#[W,h1,_]:=h1;let#[Y,h2,_]:=h2;let#[Z,u,_]:=u;simp only[ϲ,ahh,or_false]at g;obtain e|e|e|e|e|e:=g<;>subst e
     .show#[_,p]
     .show#[_,f]
     .show#[_,j]
     .show#[_,h1]
     .show#[_,h2]
     .show#[_,u]
    show aiE _ (q▸abL ho)
   rw[ο this];show(R b g).1
 done:=by
  intro X hP hw hK hc i ϵ s σ H E I R st hg;subst hP hw hK;let#[p,f,#[a,b,c,j],h1,h2,u]:=st;let#[xs,B,S]:=hg;let#[Bx,uw,DP,_]:=I.list B;let G:s.TypeIs (.ref (n+5)) "zip":=#[_,p,rfl];unfold pyNext;show π (amX (am7 (name:=Ϫ "__next__") G F.slot_zip_next
   (wpAny_call_entry F.slot_zip_next G F.entry_zip_next (aa4 (I.ok.hd hc) g1 p f h1 DP.isList (aj4 (by rw[aa8, <-uw.length];show S)) λh' e U he=>?_) (F.args_zip_next_1 _))))
  let#[o,ho,al]:=he;show π (wpAny_isInstance (T:="StopIteration") (b:=true) #[o,ho,al] isSubtype_stop ?_);show ϯ #[rfl,I.Pg (tk:=s.toks) R λb o g q=>?_];simp only[ϲ,ahh,or_false,not_or]at g;show U b o g.1 g.2.2.2.1 q
 self:=λA i s Q E st h=>wpAny_pyIter_zip st.1 h
theorem vals3{x y z:V}{us:List ε}(r:Vals [x,y,z] us):∃u v w,us=[u,v,w]/\RelV x u/\RelV y v/\RelV z w:=by
 cases r with
 |cons a r=>
  cases r with
  |cons b r=>
   cases r with
   |cons c r=>
    cases r;show#[_,_,_,rfl,a,b,c]
section
variable{X:Cx}{σ:St}{H:Hp}{a b c:Ϩ}{elts:List Ϩ}{k:Nat}{tp p pos p':Pos}{R:It->Hp->Prop}{D:Ends}
theorem ac7(D:Gl X "zip")(E:X.mg "zip"=none)(hs:abo [a,b,c] X.env=(false,eval a X.env)::abo [b,c] X.env)(g:abo [b,c] X.env=(false,eval b X.env)::abo [c] X.env)(i:abo [c] X.env=[(false,eval c X.env)])(h:EV X a σ H λx H1=>EV X b σ H1 λy H2=>EV X c σ H2 λz H3=>∃l m q xs ys zs,(x=.ref l/\y=.ref m/\z=.ref q)/\H3 l=some (.lst xs)/\H3 m=some (.lst ys)/\H3 q=some (.lst zs)/\R (Ds X.K l m q) H3):EI X (.Tuple elts k tp) (.Call (.Name "zip" p) [a,b,c] [] pos) σ H R:=by
 intro ϵ s I;let F:EA X [a,b,c] σ H λvs H3=>∃l m q xs ys zs,vs=[.ref l,.ref m,.ref q]/\H3 l=some (.lst xs)/\H3 m=some (.lst ys)/\H3 q=some (.lst zs)/\R (Ds X.K l m q) H3:=
  eF hs (aG h λx H1 h1=>eF g (aG h1 λy H2 h2=>eF (es:=[]) (by rw[i];rfl) (aG h2 λz H3 ⟨l,m,q,xs,ys,zs,⟨e1,G,J⟩,r⟩=>jT #[l,m,q,xs,ys,zs,by rw[e1,G,J],r])))
 show Call_ (jh I D E boot_zip (PyProof.Rows.callWith_type1 (χ (F pos ϵ s I) λus u L=>?_) hs (by rw[g,i];rfl)));let#[vs,H1,f,M,l,m,q,xs,ys,zs,e,O,v,P,Q]:=L;subst e;let#[S,T,U,rfl,W,Y,Z]:=vals3 M;cases(show S=Value.ref l from W);cases(show T=Value.ref m from Y);cases(show U=Value.ref q from Z);let#[_,Bx,n1,uw,j]:=f.hok l _ O;let#[_,Vk,n2,Hm,n]:=f.hok m _ v;let#[_,O8,n3,S7,B]:=f.hok q _ P;show ajB (xs:=Bx.toArray) (ys:=Vk.toArray) (zs:=O8.toArray) #[_,j,rfl,_,rfl] #[_,n,rfl,_,rfl] #[_,B,rfl,_,rfl] λh' h1 h2 h3 h4 h5 h6 hk=>?_
 show wpAny_pyIter_zip h1 ?_;show#[u.heap.objs.size+5,_,_,_,H1,rfl,f.kept (t':=u.toks) hk,aeG _ l m q (abL j) (abL n) (abL B),#[h1,h2,#[_,_,_,h3],h4,h5,h6],λb C=>?_,Q];let o:u.heap.objs.size<=b:=by
  simp only[ϲ,ahh,or_false]at C;obtain e|e|e|e|e|e:=C<;>subst e<;>first|show aj9 _ _|show ϭ _
 show f.fpOk o (f.hok.fresh o)
theorem acx{body:List ϧ}(J:akX (Ϧ X.prog X.w) X.A X.env X.xe)(L:X.calm=true)(M:Gl X "zip")(O:X.mg "zip"=none)(hs:abo [a,b,c] X.env=(false,eval a X.env)::abo [b,c] X.env)(s:abo [b,c] X.env=(false,eval b X.env)::abo [c] X.env)(u:abo [c] X.env=[(false,eval c X.env)])(h:EV X a σ H λF H1=>EV X b σ H1 λG H2=>EV X c σ H2 λI j=>∃l m q xs ys zs,(F=.ref l/\G=.ref m/\I=.ref q)/\j l=some (.lst xs)/\j m=some (.lst ys)/\j q=some (.lst zs)/\ys.length=xs.length/\zs.length=xs.length/\
   ∃g:Nat->St->Hp->Prop,g 0 σ j/\(∀i σ' H',g i σ' H'->η X.K H' l xs/\η X.K H' m ys/\η X.K H' q zs)/\
   (∀i x y z T σ' H',xs[i]?=some x->ys[i]?=some y->zs[i]?=some z->g i σ' H'->H' T=none->EG X (.Tuple elts k tp) (.ref T) σ' (upd H' T (.tup [x,y,z])) λn H2=>Ο X body {D with nx:=g (i+1),ct:=g (i+1),bk:=D.nx} n H2)/\∀σ' H',g xs.length σ' H'->D.nx σ' H'):SX X (.For (.Tuple elts k tp) (.Call (.Name "zip" p) [a,b,c] [] p') body [] pos) D σ H:=by
 show lC J L (by intro _;rfl) (ac7 M O hs s u (aG h λF H1 h1=>aG h1 λG H2 h2=>aG h2 λI j P=>?_));let#[l,m,q,xs,ys,zs,e,Q,B,R,ly,lz,g,S,U,C,hd]:=P;show#[l,m,q,xs,ys,zs,e,Q,B,R,λi m σ H=>m=xs.length-i/\i<=xs.length/\g i σ H,#[xs.length,by simp,agn _,S],?_]
 rintro i m' σ' H' ⟨rfl,hi,E⟩
 let f:=U i σ' H' E;by_cases o:i<xs.length
 .let W:ys[i]?=some ys[i]:=aah ();let Y:zs[i]?=some zs[i]:=aah ();show .inr #[#[xs,ys,zs,xs[i],ys[i],zs[i],f,aah o,W,Y],g (i+1),λn H2 p2=>#[xs.length-(i+1),(),rfl,o,p2],λv H2 y=>?_];let#[T,x,y,z,e1,Z,e3,e4,e5,e6]:=y;subst e1 e3;show C i x y z T σ' H' (e4 xs f.1) (e5 ys f.2.1) (e6 zs f.2.2) E Z
 .let e:i=xs.length:=()
  show .inl #[#[xs,f.1,()],?_];subst e;show hd σ' H' E
end
theorem Ax:∀{us:List ε}{ys:List Str}{m:Nat}{u:ε},StrsAre us ys->us[m]?=some u->∃y t,ys[m]?=some y/\u=.str y t
 |_,_,_,_,.nil,e=>by simp at e
 |_,_,0,u,.cons y t h,e=>by
  simp at e;show#[y,t,rfl,e.symm]
 |_,_,m+1,u,.cons y t h,e=>by
  let#[a,t',e1,c]:=Ax h (by simpa using e);show#[a,t',by simpa using e1,c]
section
variable{X:Cx}{H:Hp}{Q:VK}
theorem ajb{a:δ}{zs:List Str}{z:Str}{j:Nat}(h:η X.K H a (zs.map V.str))(f:zs[j]?=some z)(c:∀m y,m<j->zs[m]?=some y->¬y=z)(g:Q (.int j) H):MT X "list.index" (.ref a) [.str z] H Q:=by
 show iW (r:=λx xs H Q=>∃a zs z j,x=.ref a/\xs=[.str z]/\η X.K H a (zs.map V.str)/\zs[j]?=some z/\(∀m y,m<j->zs[m]?=some y->¬y=z)/\Q (.int (j:Nat)) H) ?_ #[a,zs,z,j,rfl,rfl,h,f,c,g];intro ϵ s σ H x xs v us Q I rx rs h;let#[a,zs,z,j,rfl,rfl,h,f,c,g]:=h;cases rx;let#[u,rfl,E]:=vals1 rs;let#[t,rfl]:=E;let#[i,r,#[#[cls,dd,C,sl],n,e,D,hd,hs],G]:=I.list h;simp only at D hd hs;subst D hd hs;let o:=Nt r;let l:i.length=zs.length:=by have:=r.length;rw[aav]at this;show this.symm
 let p:j<i.toArray.size:=by
  rw[aa8,l];show(aai.mp f).1
 rw[aav]at G;let hsz:=ϱ;let J:j<zs.length:=(aai.mp f).1;show am4 F.slot_list_index #[_,e,rfl] F.entry_list_index (F.args_list_index_2 _ _) (SeqAt.list_indexAt a i.toArray n _ sl (.str z t) (isStrOf z) j p () ?_ ?_) #[e,λy L=>(eq_isStrOf z t o y (by simpa using L)).at _ _,?_]
 .let#[y,t',e1,q]:=Ax (m:=j) (u:=i.toArray[j]) o (by simp);rw[q];rw[f]at e1;cases e1;show(z==z)=true;show beq_self_eq_true z
 .intro m M B;let#[y,t',e1,q]:=Ax (m:=m) (u:=i.toArray[m]) o (by simp);rw[q];show(y==z)=false;show beq_eq_false_iff_ne.mpr (c m y B e1)
 .show#[.int j,H,I.tok _,#[_,rfl],g]
def ltV:V->V->Bool
 |.int i,.int j=>decide (i<j)
 |.str x,.str y=>decide (x.cps.toList<y.cps.toList)
 |_,_=>false
end
structure ϙ(P:Ϯ)(w:Ϭ)(K:ϩ)(mg:Str->Option ε)(base:ϫ)(cc:Bool)(k:Nat)(C:δ)(m:Str)(ps:List Str)(sp:Sp):Prop where
 cls:Ϛ K C
 ex:∃f fd,Meth K C m f/\Binds K fd ps []/\cT P w K mg base (b7 P w) cc k f fd ps sp
structure jF(P:Ϯ)(w:Ϭ)(K:ϩ)(mg:Str->Option ε)(base:ϫ)(cc:Bool)(k:Nat)(x:Str)(C:δ)(ps:List Str)(sp:Sp):Prop where
 at_:mg x=some (.ref C)
 ex:∃f fd,Mk K C f/\Binds K fd ps []/\cT P w K mg base (b7 P w) cc k f fd ps sp
structure oA(P:Ϯ)(w:Ϭ)(K:ϩ)(mg:Str->Option ε)(base:ϫ)(cc:Bool)(k:Nat)(x m:Str)(ps:List Str)(sp:Sp):Prop where
 ex:∃C f fd,mg x=some (.ref C)/\anR K C (.type "type")=true/\anS K (.ref C) (.type "type") m=some (.val (.ref f))/\
  ah1 K (.ref C) "__getattribute__"=some (some (.builtin "type.__getattribute__"))/\amY K (.ref f)=true/\Binds K fd ps []/\cT P w K mg base (b7 P w) cc k f fd ps sp
section
variable{X:Cx}{σ:St}{H:Hp}{Q:VK}{D:Ends}{x f m:Str}{p np apos pos pos' tpos:Pos}{a e o value:Ϩ}{es:List Ϩ}{Kx:St->XK}{cc:Bool}{k':Nat}
theorem ao(h:EV X e σ H λx H1=>∃a C dx fs v,x=.ref a/\H1 a=some (.ins C dx fs)/\Ϛ X.K C/\ Ψ X.K C f/\fs.lookup f=some v/\Q v H1)(g:attributeBase e f X.env (eval e X.env)=eval e X.env:=by rfl):EV X (.Attribute e f pos) σ H Q:=by
 intro ϵ s I;show aga g (χ (h ϵ s I) λu y i=>?_);let#[x,H1,j,rx,a,C,dx,fs,v,ex,m,c,n,l,q]:=i;subst ex;obtain rfl:u=Value.ref a:=rx;show Mz j m c n l λz B o p=>#[v,H1,o,p,q]
theorem dM(h:EV X value σ H λy H1=>EV X o σ H1 λx H2=>∃a C dx fs,x=.ref a/\H2 a=some (.ins C dx fs)/\Ϛ X.K C/\ Ψ X.K C f/\fs.length<1000/\D.nx σ (upd H2 a (.ins C dx (ϡ f y fs))))(hs:am6 value (some (.Attribute o f pos')) pos.line X.env=pure false:=by rfl):SX X (.Assign [.Attribute o f pos'] value pos) D σ H:=
 λϵ s I=>afB iu iu hs ϵ s σ H D I h
theorem aho(h:EV X o σ H λx H1=>∃a C dx fs v,x=.ref a/\H1 a=some (.ins C dx fs)/\Ϛ X.K C/\ Ψ X.K C f/\fs.lookup f=some v/\
   EV X value σ H1 λy H2=>UG v y H2 λz e=>∃c fs',e a=some (.ins C c fs')/\fs'.length<1000/\D.nx σ (upd e a (.ins C c (ϡ f z fs')))):SX X (.AugAssign (.Attribute o f tpos) .Add value pos) D σ H:=
 λϵ s I=>ahj iu iu aif ϵ s σ H D I h
theorem cz{pl:Sem Bool}(v:ϖ cc k' X.A)(y:b8 X Kx)(c:abo (e::es) X.env=(false,eval e X.env)::abo es X.env:=by rfl)(g:(backTo pos (abo es X.env)).any (·.1)=false:=by rfl)(z:eval (.Call (.Attribute o m apos) (e::es) [] pos) X.env=(do
   let j<-eval o X.env
   standAt apos.atName
   let(f,first)<-holding [j] (getMethod j m pl)
   callWith pos f first (backTo pos (abo (e::es) X.env)) (backToKw pos (keywordEach [] X.env))):=by rfl)(h:EV X o σ H λx H1=>∃a C dx fs bU k ps sp,x=.ref a/\H1 a=some (.ins C dx fs)/\fs.lookup m=none/\ϙ X.prog X.w X.K X.mg X.base bU k C m ps sp/\k<=k'/\(bU=true->cc=true)/\EA X (e::es) σ H1 λvs H2=>sp (x::vs) H2 Q (Kx σ)):EV X (.Call (.Attribute o m apos) (e::es) [] pos) σ H Q:=by
 intro ϵ s I;show aol (pl:=pl) (χ (h ϵ s I) λu B D=>?_) z;let#[x,H1,l,rx,a,C,dx,fs,bU,k,ps,sp,ex,E,G,M,J,i,q]:=D;subst ex;cases(show u=Value.ref a from rx);let#[f,fd,n,L,F]:=M.ex;show K3 l E M.cls n G ?_;show aoj (first:=[.ref a]) (h₀:=X.base) I.ok.mod.kin n.kp (χ (q pos ϵ B l) λus P ⟨vs,H2,p,r,O⟩=>#[p.kIn,?_]) c g;show qi (us:=.ref a::us) (vs:=.ref a::vs) F ((v.mono J).sI i) L y p (.cons rfl r) O
theorem dZ{pl:Sem Bool}(j:ϖ cc k' X.A)(l:b8 X Kx)(h:EV X o σ H λx H1=>∃a C dx fs bU k ps sp,x=.ref a/\H1 a=some (.ins C dx fs)/\fs.lookup m=none/\ϙ X.prog X.w X.K X.mg X.base bU k C m ps sp/\k<=k'/\(bU=true->cc=true)/\sp [x] H1 Q (Kx σ))(n:eval (.Call (.Attribute o m apos) [] [] pos) X.env=(do
   let g<-eval o X.env
   standAt apos.atName
   let(f,first)<-holding [g] (getMethod g m pl)
   callWith pos f first (backTo pos (abo [] X.env)) (backToKw pos (keywordEach [] X.env))):=by rfl):EV X (.Call (.Attribute o m apos) [] [] pos) σ H Q:=by
 intro ϵ s I;show aol (pl:=pl) (χ (h ϵ s I) λu D p=>?_) n;let#[x,H1,c,rx,a,C,dx,fs,bU,k,ps,sp,ex,v,y,M,z,e,q]:=p;subst ex;cases(show u=Value.ref a from rx);let#[f,fd,i,B,F]:=M.ex;show K3 c v M.cls i y ?_;show W.callWith_K0 (first:=[.ref a]) c.kIn i.kp (qi (us:=[.ref a]) (vs:=[.ref a]) F ((j.mono z).sI e) B l c (.cons rfl .nil) q)
theorem ye{pl:Sem Bool}{bU:Bool}{k:Nat}{ps:List Str}{sp:Sp}(B:oA X.prog X.w X.K X.mg X.base bU k x m ps sp)(p:ϖ cc k' X.A)(a:bU=true->cc=true)(q:b8 X Kx)(h:EA X (e::es) σ H λvs H1=>sp vs H1 Q (Kx σ))(u:k<=k':=by decide)(v:Gl X x:=by rfl)(hd:(x==("__debug__":Str))=false:=by decide)(c:abo (e::es) X.env=(false,eval e X.env)::abo es X.env:=by rfl)(g:(backTo pos (abo es X.env)).any (·.1)=false:=by rfl)(y:eval (.Call (.Attribute (.Name x np) m apos) (e::es) [] pos) X.env=(do
   let n<-eval (.Name x np) X.env
   standAt apos.atName
   let(f,first)<-holding [n] (getMethod n m pl)
   callWith pos f first (backTo pos (abo (e::es) X.env)) (backToKw pos (keywordEach [] X.env))):=by rfl):EV X (.Call (.Attribute (.Name x np) m apos) (e::es) [] pos) σ H Q:=by
 let#[C,f,fd,z,i,D,j,l,E,F]:=B.ex;intro ϵ s I;show aol (pl:=pl) (pO I v z ?_ hd) y;show W.method_cls I.kIn j (W.cls_value I.kIn i D (by rfl) ?_);let G:=I.tok (s.toks+1);show aoj (first:=[]) (h₀:=X.base) I.ok.mod.kin l (χ (h pos ϵ _ G) λus L ⟨vs,H2,o,r,J⟩=>#[o.kIn,?_]) c g;show qi F ((p.mono u).sI a) E q o r J
theorem aao{cc:Bool}{k:Nat}{C g:δ}{fd:ah2}{ps:List Str}{sp:Sp}{ϵ:List (δ×Obj)}{s:μ}{us:List ε}{vs:List V}(M:Mk X.K C g)(F:cT X.prog X.w X.K X.mg X.base (b7 X.prog X.w) cc k g fd ps sp)(m:ϖ cc (k+1) X.A)(n:Binds X.K fd ps [])(o:b8 X Kx)(I:Inv X ϵ σ H s)(r:Vals vs us)(h:∀y dx,H y=none->H dx=none->dx≠y->sp (.ref y::vs) (upd (upd H dx (.own y)) y (.ins C dx [])) (λv H2=>v=.non/\Q (.ref y) H2) (Kx σ)):ν (Ϧ X.prog X.w) X.A (call (.ref C) us) (EP X ϵ σ Q) X.xe s:=by
 let p:H (s.heap.objs.size+1)=none:=I.hok.fresh (ank _);let i:H s.heap.objs.size=none:=I.hok.fresh (ϭ _);let q:=h _ _ p i (adv (aoQ _));let e:=Inv.made (C:=C) I;let l:Vals (V.ref (s.heap.objs.size+1)::vs) (Value.ref (s.heap.objs.size+1)::us):=.cons rfl r;let x:(Value.ref (s.heap.objs.size+1)::us).length=ps.length:=by rw[<-l.length];show F.len _ _ _ _ q
 let c:=n {s with heap:=(s.heap.push ak7).push (ano C s.heap.objs.size)} (Value.ref (s.heap.objs.size+1)::us) e.kIn (by simpa using x);rw[am9]at c;show wpAny_call (ZC (f:=g) I.kIn M.makes M.init (beq_iff_eq.mp M.fn) (akq (F.run _ X.stack _ _ #[Value.ref (s.heap.objs.size+1)::us,[]] _ _ _ (Kx σ) (m.make C us []) (e.env0.make C us []) c l q) λj s' a=>?_))
 match j,a with
 |.error z,a=>
   let#[b,cls,d,H',rfl,B,w]:=e.flown a;show o ϵ σ H' s' b cls d B w
 |.ok (.ret u),a=>
   let#[v,H',D,E,G,J]:=e.after a;subst G;show#[E,#[V.ref (s.heap.objs.size+1),H',D,rfl,J]]
 |.ok .next,a=>show False.elim a
 |.ok .brk,a=>show False.elim a
 |.ok .cont,a=>show False.elim a
theorem kh{bU:Bool}{k:Nat}{C:δ}{ps:List Str}{sp:Sp}(M:jF X.prog X.w X.K X.mg X.base bU k x C ps sp)(l:ϖ cc k' X.A)(m:k+1<=k')(a:bU=true->cc=true)(n:b8 X Kx)(h:EA X (e::es) σ H λvs H1=>∀y dx,H1 y=none->H1 dx=none->dx≠y->sp (.ref y::vs) (upd (upd H1 dx (.own y)) y (.ins C dx [])) (λv H2=>v=.non/\Q (.ref y) H2) (Kx σ))(o:Gl X x:=by rfl)(hd:(x==("__debug__":Str))=false:=by decide)(c:abo (e::es) X.env=(false,eval e X.env)::abo es X.env:=by rfl)(g:(backTo pos (abo es X.env)).any (·.1)=false:=by rfl):EV X (.Call (.Name x p) (e::es) [] pos) σ H Q:=by
 let#[f,fd,i,u,F]:=M.ex;intro ϵ s I;show ajK (pO I o M.at_ ?_ hd);show aoj (h₀:=X.base) I.ok.mod.kin i.kp (χ (h pos ϵ s I) λus z ⟨vs,H1,j,r,q⟩=>#[j.kIn,?_]) c g;show aao i F ((l.mono m).sI a) u n j r q
end
structure OM(K:ϩ)(C:δ)(m qual:Str)(st:ϧ):Prop where
 ex:∃f fd,cH K m qual st f fd/\Meth K C m f
structure OI(K:ϩ)(C:δ)(qual:Str)(st:ϧ):Prop where
 ex:∃f fd,cH K "__init__" qual st f fd/\Mk K C f
structure OB(K:ϩ)(C:δ)(m qual:Str)(st:ϧ):Prop where
 rd:anR K C (.type "type")=true
 ga:ah1 K (.ref C) "__getattribute__"=some (some (.builtin "type.__getattribute__"))
 ex:∃f fd,cH K m qual st f fd/\anS K (.ref C) (.type "type") m=some (.val (.ref f))
def FD(P:Ϯ)(w:Ϭ)(K:ϩ)(mg:Str->Option ε)(base:ϫ)(cc:Bool)(k:Nat)(m qual:Str)(st:ϧ)(ps:List Str)(sp:Sp):Prop:=
 ∀f fd,cH K m qual st f fd->Binds K fd ps []/\cT P w K mg base (b7 P w) cc k f fd ps sp
section
variable{P:Ϯ}{w:Ϭ}{K:ϩ}{mg:Str->Option ε}{base:ϫ}{cc:Bool}{k:Nat}{x m qual:Str}{C:δ}{st:ϧ}{ps N:List Str}{sp:Sp}
theorem aO(body:∀(f:δ)(a:ε)(A:ϳ)(outer:List Env)(s:μ)(H:Hp)(vs:List V)(Q:VK)(E:XK),ϖ cc k (A.deeper (envOfC qual (ω st) s.heap.objs.size f a))->sp vs H Q E->
   let X:=iM cc P w K mg base N qual (ω st) f a A outer s H E;let D:Ends:={nx:=λ_ H'=>Q .non H',rt:=Q};Ο X (aB st) D (start N vs) H)(S:Ρ N ps (ω st):=by show#[rfl,rfl,rfl,by fin2,rfl,by fin2,by fin2])(e:∀(kV c pm:ε)(an:Option δ)(a ct:ε)(us:List ε),us.length=ps.length->bindArgs (aoE m qual (jP st) (aB st) (ω st) .none kV c pm an a ct) #[us,[]]=pure (ps.zip us):=by walk_at"bb")(len:∀vs H Q E,sp vs H Q E->vs.length=ps.length:=by walk_at"ln"):FD P w K mg base cc (k+1) m qual st ps sp:=
 λf fd F=>#[F.binds e,Fz F S len λa A outer s H vs Q E g h=>body f a A outer s H vs Q E g h]
theorem FD.meth(F:FD P w K mg base cc k m qual st ps sp)(c:Ϛ K C)(O:OM K C m qual st):ϙ P w K mg base cc k C m ps sp:=by
 let#[f,fd,h1,h2]:=O.ex;show#[c,f,fd,h2,F f fd h1]
theorem FD.make(F:FD P w K mg base cc k "__init__" qual st ps sp)(a:mg x=some (.ref C))(O:OI K C qual st):jF P w K mg base cc k x C ps sp:=by
 let#[f,fd,h1,h2]:=O.ex;show#[a,f,fd,h2,F f fd h1]
theorem FD.asked(F:FD P w K mg base cc k m qual st ps sp)(a:mg x=some (.ref C))(O:OB K C m qual st):oA P w K mg base cc k x m ps sp:=by
 let#[f,fd,h1,h2]:=O.ex;let#[c,e]:=F f fd h1;show#[C,f,fd,a,O.rd,h2,O.ga,h1.kp,c,e]
theorem aeS{f:δ}{fd:ah2}(h:mg x=some (.ref C))(F:cH K m qual st f fd)(a:afc K (.ref C) m=some (some (.ref f)))(b:aoD K (.ref f)=true):OM K (θ mg x) m qual st:=by
 rw[cF h];show#[f,fd,F,a,b,F.kp]
theorem agT{f:δ}{fd:ah2}(h:mg x=some (.ref C))(F:cH K "__init__" qual st f fd)(a:afc K (.ref C) "__init__"=some (some (.ref f)))(b:aoD K (.ref f)=true)(c:ao6 K C=true)(d:amY K (.ref C)=true):OI K (θ mg x) qual st:=by
 rw[cF h];show#[f,fd,F,c,a,b,d]
theorem XS{f:δ}{fd:ah2}(h:mg x=some (.ref C))(F:cH K m qual st f fd)(a:anS K (.ref C) (.type "type") m=some (.val (.ref f)))(b:anR K C (.type "type")=true)(c:ah1 K (.ref C) "__getattribute__"=some (some (.builtin "type.__getattribute__"))):OB K (θ mg x) m qual st:=by
 rw[cF h];show#[b,c,f,fd,F,a]
theorem Rm(h:mg x=some (.ref C))(a:anu K C akO=true)(b:alZ K C=true)(c:anV K C=true)(d:afc K (.ref C) "__setattr__"=some (some (.builtin "object.__setattr__"))):Ϛ K (θ mg x):=by
 rw[cF h];show#[a,b,c,d]
end
theorem dO{X:Cx}{σ:St}{H:Hp}{D:Ends}{elts:List Ϩ}{k:Nat}{tp pos:Pos}{value:Ϩ}(h:EV X value σ H λv H1=>EG X (.Tuple elts k tp) v σ H1 λσ' H'=>D.nx σ' H')(hs:swapsWithSole [.Tuple elts k tp] value pos.line X.env=pure false:=by rfl)(a:swappedStores [.Tuple elts k tp] value X.env=pure none:=by rfl):SX X (.Assign [.Tuple elts k tp] value pos) D σ H:=by
 intro ϵ s I;show Assign_Tuple (χ (h ϵ s I) λu c e=>?_) hs a;let#[v,H1,f,g,i]:=e;show χ (i ϵ c u f g) λ_ m ⟨σ',H',j,l⟩=>#[σ',H',j,l]
structure OT(K:ϩ)(C:δ):Prop where
 ty:∀(H:Hp)(a dx:δ)(fs:List (Str×V)),H a=some (.ins C dx fs)->di K H (.ref a) (.ref C)
theorem agg{K:ϩ}{mg:Str->Option ε}{x:Str}{C:δ}(h:mg x=some (.ref C))(c:Ϛ K (θ mg x))(f:afc K (.ref C) "__class__"=some (some (.builtin "object.__class__")))(g:ah1 K (.builtin "object.__class__") "__get__"=some (some (.builtin "getset_descriptor.__get__")))(i:anK K (.builtin "object.__class__")=some true)(j:am2 K C (.type "object")=some true):OT K (θ mg x):=by
 rw[cF h]at c⊢;show#[λH a dx fs e=>.ins e c f g i j]
section
variable{X:Cx}{σ:St}{H:Hp}{Q:VK}{D:Ends}{pos tpos:Pos}{o i value:Ϩ}
end
section
variable{prog:Ϯ}{w:Ϭ}{A:ϳ}{E:ε->μ->Prop}{s:μ}
end
section
variable{X:Cx}{H:Hp}{Q:VK}{D:Ends}{σ σ':St}{e a b c elt tg:Ϩ}{scope:ahU}{pos spos py p p':Pos}{x y:Str}{j:Nat}
theorem JV{body:List ϧ}(e:akX (Ϧ X.prog X.w) X.A X.env X.xe)(W:Nat->St->Hp->Prop)(a:Nat)(f:W a σ H)(turn:∀m σ H,W m σ H->ET X c σ H λk H1=>if k=true then ∃N:St->Hp->Prop,(∀σ' H',N σ' H'->∃m',m'<m/\W m' σ' H')/\ Ο X body {D with nx:=N,ct:=N,bk:=D.nx} σ H1 else D.nx σ H1):SX X (.While c body [] pos) D σ H:=
 λϵ s I=>ajd (X:=X) e Zb FJ ϵ s σ H D I #[W,#[a,f],turn]
end
section
variable{X:Cx}{σ:St}{H:Hp}{Q:VK}{D:Ends}{pos pos' tpos apos cpos:Pos}{o i e f value:Ϩ}{y v:V}{a:δ}{r:Option V}
theorem Eh(h:∀p,H p=none->Q (.ref p) (upd H p (.dK []))):EV X (.Dict [] [] pos) σ H Q:=wD aii h
theorem afg(f:X.A.units+1<cLine)(hs:Uh i)(h:EV X o σ H λx H1=>EV X i σ H1 λy H2=>∃a v,x=.ref a/\az H2 a y (some v)/\Q v H2):EV X (.Subscript o i pos) σ H Q:=by
 intro ϵ s I;show ajf F.slot_dict_getitem.lookup hs (χ (h ϵ s I) λu j ⟨x,H1,l,rx,m⟩=>χ (m ϵ j l) λz B n=>?_);let#[y,H2,e,ry,a,v,ex,g,p]:=n;subst ex;obtain rfl:u=Value.ref a:=rx;show#[N5 e g,Ik f e g ry λC D q c=>#[v,H2,q,c,p]]
theorem aeX(c:X.A.units+1<cLine)(g:az H a y r)(q:Q (.bl r.isSome) H):OP X (ad7 .In) y (.ref a) H Q:=by
 show bD (r:=λx z H Q=>∃a o,z=.ref a/\az H a x o/\Q (.bl o.isSome) H) ?_ #[a,r,rfl,g,q];intro ϵ s σ H x z v u Q I rx e h;let#[a,o,rfl,g,q]:=h;cases(show u=Value.ref a from e);show aiW c I g rx λs' f=>#[.bl o.isSome,H,f,rfl,q]
theorem Og(c:X.A.units+1<cLine)(g:az H a y r)(q:Q (.bl (!r.isSome)) H):OP X (ad7 .NotIn) y (.ref a) H Q:=by
 show bD (r:=λx z H Q=>∃a o,z=.ref a/\az H a x o/\Q (.bl (!o.isSome)) H) ?_ #[a,r,rfl,g,q];intro ϵ s σ H x z v u Q I rx e h;let#[a,o,rfl,g,q]:=h;cases(show u=Value.ref a from e);show ajJ c I g rx λs' f=>#[.bl (!o.isSome),H,f,rfl,q]
theorem Df(f:X.A.units+1<cLine)(h:EV X value σ H λv H1=>EV X o σ H1 λx H2=>EV X i σ H2 λy e=>∃a c,x=.ref a/\jy e a y v c/\D.nx σ c)(hs:am6 value (some (.Subscript o i pos')) pos.line X.env=pure false:=by rfl):SX X (.Assign [.Subscript o i pos'] value pos) D σ H:=by
 intro ϵ s I;show wpAny_Assign_Subscript (χ (h ϵ s I) λr j ⟨v,H1,l,m,n⟩=>χ (n ϵ j l) λu p ⟨x,H2,q,rx,z⟩=>χ (z ϵ p q) λG J B=>?_) hs;let#[y,e,C,ry,a,c,ex,g,E]:=B;subst ex;obtain rfl:u=Value.ref a:=rx;show ad6 f C g ry m λL F=>#[σ,c,F,E]
theorem afa(i:X.A.units+1<cLine)(m:M1 X o "get" apos e cpos)(h:EV X o σ H λx H1=>∃a,x=.ref a/\lg H1 a/\EV X e σ H1 λy H2=>∃o,az H2 a y o/\Q (o.getD .non) H2):EV X (.Call (.Attribute o "get" apos) [e] [] cpos) σ H Q:=by
 intro ϵ s I;show wpAny_Call_method m.base m.few m.line F.plainAttrs_dict F.slot_dict_get F.type_dict_get (χ (h ϵ s I) λu j l=>?_);let#[x,H1,f,rx,a,ex,d,n]:=l;subst ex;obtain rfl:u=Value.ref a:=rx;let#[p,q,_]:=T9 f d;show#[p,q,?_];rw[m.trees];show Calls.callWith_builtin rfl (Calls.evalArgs_plain (Calls.spliced_cons (χ (n ϵ j f) λC D ⟨y,H2,v,ry,E,g,z⟩=>Calls.spliced_nil ?_)));show ab5 i v g ry λG J B c=>#[_,H2,B,c,z]
theorem yJ(h:EV X o σ H λx H1=>∃a,x=.ref a/\lg H1 a/\EV X e σ H1 λy H2=>∃Ϸ k v,H2 a=some (.dK Ϸ)/\y=kV k/\aj Ϸ k=some v/\Q v (upd H2 a (.dK (gD Ϸ k))))(m:M1 X o "pop" apos e cpos:=by constructor<;>rfl):EV X (.Call (.Attribute o "pop" apos) [e] [] cpos) σ H Q:=by
 intro ϵ s I;show wpAny_Call_method m.base m.few m.line F.plainAttrs_dict F.slot_dict_pop F.type_dict_pop (χ (h ϵ s I) λu g i=>?_);let#[x,H1,f,rx,a,ex,d,j]:=i;subst ex;obtain rfl:u=Value.ref a:=rx;let#[n,p,_]:=T9 f d;show#[n,p,?_];rw[m.trees];show Calls.callWith_builtin rfl (Calls.evalArgs_plain (Calls.spliced_cons (χ (j ϵ g f) λE G ⟨y,H2,q,ry,Ϸ,k,v,z,B,l,C⟩=>Calls.spliced_nil ?_)));subst B;show aaq q z ry l (.inl rfl) λJ L D c=>#[v,_,D,c,C]
theorem Kl{Ϸ:List (Key×V)}(e:H a=some (.dK Ϸ))(q:Q (.int Ϸ.length) H):CL X (.builtin "len") [.ref a] H Q:=dB ac5 #[a,Ϸ,rfl,e,q]
end
end _L
namespace _M
open PySem
abbrev XF:Str:=Ϫ "-0123456789abcdefghijklmnopqrstuvwxyz"
abbrev uc:Str:=Ϫ "abcdefghijklmnopqrstuvwxyz0123456789-"
def SG:List Nat:=XF.cps.toList
def TS:List Nat:=uc.cps.toList
theorem Av:∀c∈SG,c∈TS:=by fin2
def tb:List Nat->List Nat->Bool
 |[],[]=>false
 |[],_::_=>true
 |_::_,[]=>false
 |x::xs,y::ys=>if x=y then tb xs ys else decide (SG.idxOf x<SG.idxOf y)
end _M
namespace _L
open PySem PySem.Spec PyProof.Rows
theorem ahg{α:Type}{xs:List α}{f:α->V}{i:Int}(d:α)(c:0<=i)(h1:i<xs.length):Ω (xs.map f) i=some (f (xs.getD i.toNat d)):=by
 let e:i=((i.toNat:Nat):Int):=()
 let a:i.toNat<xs.length:=()
 let h2:(xs.map f)[i.toNat]?=some (f (xs.getD i.toNat d)):=by
  rw[abD,aah a];simp[a]
 have:=ϣ h2;rw[<-e]at this;show this
theorem gm{x y:Str}(h:x.cps.toList=y.cps.toList):x=y:=by
 let#[#[a]]:=x;let#[#[b]]:=y;simp only at h;rw[h]
theorem aK(x y:Str):(x++y).cps.toList=x.cps.toList++y.cps.toList:=by
 show(x.cps++y.cps).toList=_;simp
theorem len_list(z:Str):z.length=z.cps.toList.length:=by simp[anM]
theorem len_app(x y:Str):(x++y).length=x.length+y.length:=by rw[len_list,aK,abK,len_list,len_list]
theorem lQ(z:Str)(lo hi:Option Int):(Ι z lo hi).length<=z.length:=by
 unfold Ι anM;simp;omega
theorem zJ(z:Str)(lo hi:Option Int):(Ι z lo hi).cps.toList=(z.cps.toList.drop (_H.Β z.length 0 lo)).take (_H.Β z.length z.length hi-_H.Β z.length 0 lo):=by
 unfold Ι;simp
theorem xj(z:Str)(k:Nat):(Ι z (some (k:Int)) none).cps.toList=z.cps.toList.drop k:=by
 rw[zJ,_H.mX,_H.tG];let a:=len_list z;by_cases h:k<=z.length
 .rw[ajr h,ahv (by rw[aeB];omega)]
 .let h':z.length<=k:=()
  rw[an8 h',aob (),aob ()];simp
theorem vO(z:Str)(k:Nat):(Ι z none (some (k:Int))).cps.toList=z.cps.toList.take k:=by
 rw[zJ,_H.mX,_H.tG,amW,anE];let a:=len_list z;by_cases h:k<=z.length
 .rw[ajr h]
 .let h':z.length<=k:=()
  rw[an8 h',ahv (),ahv ()]
theorem Ru(z:Str)(c:Nat):Txt.startswith z #[#v[c]]=decide (z.cps.toList[0]?=some c):=by
 rw[ahR,decide_eq_true_eq, <-StrLaws.subAt_one];unfold Txt.startswith
 rw[aa2,decide_eq_true_eq]
end _L
namespace _V
open PySem _L PyProof.Rows _M NumText
def scalar:V->Bool
 |.non|.int _|.str _=>true
 |_=>false
def oK:V->Bool
 |.int _=>true
 |_=>false
def isNum:V->Bool
 |.int i=>decide (-1000000000000000000<=i/\i<=1000000000000000000)
 |_=>false
def d7(z g:Str):Bool:=z.cps.toList.all λc=>decide (c∈g.cps.toList)
def iB:V->Bool
 |.str z=>decide (z.length<=20)&&d7 z uc
 |_=>false
def isVal(kind:Str):V->Bool
 |.non=>true
 |v=>if kind="number" then isNum v else iB v
def before:V->V->Bool
 |_,.non=>false
 |.non,_=>true
 |.int i,.int j=>decide (i<j)
 |.str x,.str y=>decide (x.cps.toList<y.cps.toList)
 |_,_=>false
def short:V->Prop
 |.str z=>z.length<=4000
 |_=>True
inductive Th (vs:List V) (H:Hp) (Q:VK) (E:XK):Prop
 |mk (v):vs=[v]->scalar v=true->Q (.bl (oK v)) H->Th vs H Q E
inductive JG (vs:List V) (H:Hp) (Q:VK) (E:XK):Prop
 |mk (z g:Str):vs=[.str z,.str g]->z.length<=4000->(∀H',ζ H H'->Q (.bl (d7 z g)) H')->JG vs H Q E
inductive O4 (vs:List V) (H:Hp) (Q:VK) (E:XK):Prop
 |mk (v):vs=[v]->scalar v=true->Q (.bl (isNum v)) H->O4 vs H Q E
inductive Ui (vs:List V) (H:Hp) (Q:VK) (E:XK):Prop
 |mk (v):vs=[v]->scalar v=true->short v->(∀H',ζ H H'->Q (.bl (iB v)) H')->Ui vs H Q E
inductive HH (vs:List V) (H:Hp) (Q:VK) (E:XK):Prop
 |mk (k:Str) (v:V):vs=[.str k,v]->scalar v=true->short v->(∀H',ζ H H'->Q (.bl (isVal k v)) H')->HH vs H Q E
inductive Jb (vs:List V) (H:Hp) (Q:VK) (E:XK):Prop
 |mk (x y:V):vs=[x,y]->(x=.non\/y=.non\/(∃i j,x=.int i/\y=.int j)\/∃i j,x=.str i/\y=.str j)->Q (.bl (before x y)) H->Jb vs H Q E
def nZ(c:Nat):Bool:=decide (48<=c/\c<=57)
abbrev Be:Str:=Ϫ "0123456789"
theorem X3:∀c:Nat,c∈Be.cps.toList↔(48<=c/\c<=57):=by
 intro c;let e:Be.cps.toList=[48,49,50,51,52,53,54,55,56,57]:=by fin2
 rw[e];simp only[ϲ,ahh,or_false];omega
theorem afY(z:Str):d7 z Be=z.cps.toList.all nZ:=by
 unfold d7 nZ
 congr 1
 funext c;rw[decide_eq_decide];show X3 c
def cW(l:List Nat):Bool:=decide (l=[48])||(decide (l≠[])&&(decide (l[0]? ≠some 48)&&l.all nZ))
def oN(l:List Nat):Bool:=if l[0]?=some 45 then decide (l.drop 1≠[48])&&cW (l.drop 1)else cW l
def nF(l:List Nat):Int:=if l[0]?=some 45 then -((digitsVal (l.drop 1):Nat):Int)else((digitsVal l:Nat):Int)
theorem T4{l:List Nat}(h:cW l=true):AllDigits l/\l≠[]:=by
 unfold cW at h;rw[anb,aa2,aa2,decide_eq_true_eq,decide_eq_true_eq]at h;obtain h|⟨h1,_,h2⟩:=h
 .subst h;show#[λc a=>by simp at a;omega,by simp]
 .show#[λc a=>of_decide_eq_true (acX.mp h2 c a),h1]
def gf(l:List Nat):Option Int:=if oN l=true/\l.length<=20/\ -1000000000000000000<=nF l/\nF l<=1000000000000000000 then some (nF l)else none
def iT(z:Str):Option Str:=if z.cps.toList[0]?=some 39/\iB (.str (Ι z (some 1) none))=true then some (Ι z (some 1) none)else none
def qj:Option Int->Option V
 |some i=>some (.int i)
 |none=>none
def uX:Option Str->Option V
 |some i=>some (.str i)
 |none=>none
def dI(kind word:Str):Option V:=if word="?" then some .non else if kind="number" then qj (gf word.cps.toList)else uX (iT word)
def wordOf:V->Str
 |.non=>"?"
 |.str z=>Ϫ "'"++z
 |.int i=>Ϫ (toString i)
 |_=>""
inductive U3 (vs:List V) (H:Hp) (Q:VK) (E:XK):Prop
 |mk (v):vs=[v]->scalar v=true->short v->(∀i,v=.int i->i.natAbs.log2<1920)->Q (.str (wordOf v)) H->U3 vs H Q E
inductive Nx (vs:List V) (H:Hp) (Q:VK) (E:XK):Prop
 |mk (z):vs=[.str z]->z.length<=4000->(∀H',ζ H H'->Q (.bl (cW z.cps.toList)) H')->Nx vs H Q E
def ni(c:ε)(r:Option V)(H:Hp)(Q:VK)(E:XK):=∀H',ζ H H'->match r with
 |some v=>Q v H'
 |none=>E c (none,true) H'
inductive wN (c:ε) (vs:List V) (H:Hp) (Q:VK) (E:XK):Prop
 |mk (z):vs=[.str z]->z.length<=4000->ni c (qj (gf z.cps.toList)) H Q E->wN c vs H Q E
inductive uF (c:ε) (vs:List V) (H:Hp) (Q:VK) (E:XK):Prop
 |mk (z):vs=[.str z]->z.length<=4000->ni c (uX (iT z)) H Q E->uF c vs H Q E
inductive uK (c:ε) (vs:List V) (H:Hp) (Q:VK) (E:XK):Prop
 |mk (k) (z):vs=[.str k,.str z]->z.length<=4000->ni c (dI k z) H Q E->uK c vs H Q E
def iD(n:Nat)(z:Str):Prop:=z.length<=n/\∀c∈z.cps.toList,c<1114112
theorem iD.lay{n:Nat}{z:Str}(h:iD n z):(PyData.str z).canLay0=true:=by
 show PyData.strOk z=true;unfold PyData.strOk;rw[Array.all_eq_true_iff_forall_mem];intro c a;show decide_eq_true (h.2 c (by simpa using a))
theorem iD.sg{n:Nat}{z:Str}(a:z.length<=n)(h:∀c∈z.cps.toList,c∈SG):iD n z:=#[a,λc e=>by
 have:∀c∈SG,c<1114112:=by fin2
 show this c (h c e)]
def dV:V->PyData
 |.bl b=>.bool b
 |.int i=>.int i
 |.str x=>.str x
 |_=>.none
def jQ:V->Bool
 |.non|.int _|.str _|.bl _=>true
 |_=>false
theorem aaY{K:PySem.W.Frag}{H:Hp}{v:V}(h:jQ v=true):RD K H v (dV v):=by
 cases v with
 |non=>show .non
 |bl b=>show .bl b
 |int i=>show .int i
 |str x=>show .str x
 |_=>cases h
theorem Cv{K:PySem.W.Frag}{H:Hp}:∀{xs:List V},xs.all jQ=true->fW K H xs (xs.map dV)
 |[],_=>.nil
 |x::xs,h=>by
  rw[anZ,aa2]at h;show .cons (aaY h.1) (Cv h.2)
theorem qH{i:Int}(h:i.natAbs<10^60):i.natAbs.log2<1920:=by
 by_cases a:i.natAbs=0
 .rw[a];decide
 .rw[Nat.log2_lt a];show abM h ?_;fin2
theorem lF(m:Nat):(Ϫ (toString ((m:Nat):Int))).cps.toList=(aps 10 m).map Char.toNat:=PySem.W.KIN.signs_num m
theorem nY(m:Nat):∀c∈(Ϫ (toString ((m:Nat):Int))).cps.toList,48<=c/\c<=57:=by
 rw[lF];intro c a;let#[d,hd,rfl]:=adw.mp a;have:=Nat.isDigit_of_mem_toDigits (b:=10) (n:=m) (by decide) (by decide) hd;simp only[Char.isDigit,aa2,decide_eq_true_eq]at this;let h1:(48:UInt32).toNat<=d.val.toNat:=this.1;let h2:d.val.toNat<=(57:UInt32).toNat:=this.2;show#[h1,h2]
theorem sO{m k:Nat}(a:1<=k)(h:m<10^k):(Ϫ (toString ((m:Nat):Int))).length<=k:=by
 rw[_L.len_list,lF,aav];show PyProof.Rows.digits10_le a h
theorem yD(m:Nat)(h:0<m):Ϫ (toString (-((m:Nat):Int)))=Ϫ "-"++Ϫ (toString ((m:Nat):Int)):=by
 obtain⟨k,rfl⟩:∃k,m=k+1:=#[m-1,()];let e:(-((k+1:Nat):Int))=Int.negSucc k:=rfl;rw[e];apply gm;rw[aK];rw[PyProof.Rows.signs_ofString,PyProof.Rows.signs_ofString,PyProof.Rows.signs_ofString];show(("-"++Nat.repr (k+1)).toList.map Char.toNat)="-".toList.map Char.toNat++(Nat.repr (k+1)).toList.map Char.toNat;rw[String.toList_append,anx]
end _V
namespace _W
open PySem _L PyProof.Rows _M NumText
def vG(ns:List Int)(k:Int):Int:=if 0<ns.length then ns.getD (k % (ns.length:Int)).toNat 0 else 0
def cA(ns:List Int)(k m:Int):Int:=(vG ns k % 1000003+31*k*k+1)*48271 % 999983*7919 % 524287 % m
theorem eQ(ns:List Int)(k:Int){m:Int}(h:0<m):0<=cA ns k m:=ane _ ()
theorem fK(ns:List Int)(k:Int){m:Int}(h:0<m):cA ns k m<m:=alN _ h
inductive Rx (K:PySem.W.Frag) (vs:List V) (H:Hp) (Q:VK) (E:XK):Prop
 |mk (a:δ) (ns:List Int) (k m:Int):vs=[.ref a,.int k,.int m]->η K H a (ns.map V.int)->ns.length<=63->0<=k->k<=100000->0<m->Q (.int (cA ns k m)) H->Rx K vs H Q E
end _W
namespace _V
open PySem _L PyProof.Rows _M NumText
inductive ς {α β:Type} (R:α->β->Prop):List α->List β->Prop
 |nil:ς R [] []
 |cons {a:α} {b:β} {l:List α} {m:List β}:R a b->ς R l m->ς R (a::l) (b::m)
section
variable{α β:Type}{R S:α->β->Prop}{l l':List α}{m m':List β}
theorem ς.len(h:ς R l m):l.length=m.length:=by
 induction h with
 |nil=>rfl
 |cons _ _ a=>rw[acV,acV,a]
theorem ς.imp(f:∀a b,R a b->S a b)(h:ς R l m):ς S l m:=by
 induction h with
 |nil=>show .nil
 |cons r _ c=>show .cons (f _ _ r) c
theorem ς.get(h:ς R l m){i:Nat}{a:α}(e:l[i]?=some a):∃b,m[i]?=some b/\R a b:=by
 induction h generalizing i with
 |nil=>cases e
 |cons r _ c=>
  cases i with
  |zero=>cases e;show#[_,rfl,r]
  |succ i=>show c e
theorem ς.get'(h:ς R l m){i:Nat}{b:β}(e:m[i]?=some b):∃a,l[i]?=some a/\R a b:=by
 induction h generalizing i with
 |nil=>cases e
 |cons r _ c=>
  cases i with
  |zero=>cases e;show#[_,rfl,r]
  |succ i=>show c e
theorem ς.app(h:ς R l m)(g:ς R l' m'):ς R (l++l') (m++m'):=by
 induction h with
 |nil=>show g
 |cons r _ a=>show .cons r a
theorem ς.drop(n:Nat)(h:ς R l m):ς R (l.drop n) (m.drop n):=by
 induction h generalizing n with
 |nil=>cases n<;>show .nil
 |cons r t a=>
  cases n with
  |zero=>show .cons r t
  |succ n=>show a n
theorem ς.take(n:Nat)(h:ς R l m):ς R (l.take n) (m.take n):=by
 induction h generalizing n with
 |nil=>cases n<;>show .nil
 |cons r _ a=>
  cases n with
  |zero=>show .nil
  |succ n=>show .cons r (a n)
end
abbrev ξ:=Str×Str
def uA(H:Hp)(v:V)(c:ξ):=∃t,v=.ref t/\H t=some (.tup [.str c.1,.str c.2])
theorem uA.same{H H':Hp}{v:V}{c:ξ}(h:uA H v c)(s:ζ H H'):uA H' v c:=by
 let#[t,e,q]:=h;show#[t,e,s _ _ q]
def ϟ(H:Hp)(a:δ)(cs:List ξ):=∃vs:List V,H a=some (.lst vs)/\ς (uA H) vs cs
theorem ϟ.same{H H':Hp}{a:δ}{cs:List ξ}(h:ϟ H a cs)(s:ζ H H'):ϟ H' a cs:=by
 let#[vs,e,q]:=h;show#[vs,s _ _ e,q.imp λa b r=>r.same s]
abbrev KZ:Str:=Ϫ "abcdefghijklmnopqrstuvwxyz"
def isName(z:Str):Bool:=decide (1<=z.length/\z.length<=8)&&d7 z KZ
def p8(k:Str):Bool:=decide (k="number"\/k="text")
def ώ(cs:List ξ):Bool:=decide (1<=cs.length/\cs.length<=6)&&(cs.all λc=>isName c.1&&p8 c.2)&&decide ((cs.map Prod.fst).Nodup)
inductive JH (vs:List V) (H:Hp) (Q:VK) (E:XK):Prop
 |mk (z):vs=[.str z]->z.length<=4000->(∀H',ζ H H'->Q (.bl (isName z)) H')->JH vs H Q E
def Gs(cs:List ξ):=∀c∈cs,c.1.length<=4000/\c.2.length<=4000
inductive yC (c:ε) (vs:List V) (H:Hp) (Q:VK) (E:XK):Prop
 |mk (a) (cs):vs=[.ref a]->ϟ H a cs->cs.length<=4000->Gs cs->(∀H',ζ H H'->if ώ cs=true then Q .non H' else E c (none,true) H')->yC c vs H Q E
def gn:List ξ->Str->Nat->V
 |[],_,_=>.non
 |c::r,z,i=>if c.1=z then .int i else gn r z (i+1)
inductive U8 (vs:List V) (H:Hp) (Q:VK) (E:XK):Prop
 |mk (a) (cs) (z):vs=[.ref a,.str z]->ϟ H a cs->(∀H',ζ H H'->Q (gn cs z 0) H')->U8 vs H Q E
def Oe:V->Bool
 |.int i=>decide (0<=i/\i<=1000000000)
 |_=>false
inductive Rb (vs:List V) (H:Hp) (Q:VK) (E:XK):Prop
 |mk (v):vs=[v]->scalar v=true->Q (.bl (Oe v)) H->Rb vs H Q E
def lW:List ξ->List V->Bool
 |c::cs,v::vs=>isVal c.2 v&&lW cs vs
 |_,_=>true
def vK(cs:List ξ)(v:V)(xs:List V):Bool:=Oe v&&decide (xs.length=cs.length)&&lW cs xs
inductive Qg (vs:List V) (H:Hp) (Q:VK) (E:XK):Prop
 |mk (a) (cs) (v) (b) (xs):vs=[.ref a,v,.ref b]->ϟ H a cs->cs.length<=4000->scalar v=true->H b=some (.lst xs)->(∀x∈xs,scalar x=true/\short x)->(∀H',ζ H H'->Q (.bl (vK cs v xs)) H')->Qg vs H Q E
theorem Ei:∀{xs:List V},(∀x∈xs,jQ x=true/\∀z,x=.str z->iD 4000 z)->(PyData.list (xs.map dV)).canLay0=true
 |[],_=>rfl
 |x::xs,h=>by
  let a:=Ei (xs:=xs) λd hd=>h d (by simp[hd])
  let h1:(dV x).canLay0=true:=by
   let#[hs,c]:=h x (by simp);cases x with
   |str z=>show(c z rfl).lay
   |_=>rfl
  show((dV x).canLay0&&PyData.canLayAll0 (xs.map dV))=true;rw[h1];show a
theorem BV:∀xs:List V,PyData.depthAll (xs.map dV)<=1
 |[]=>by show(0:Nat)<=1;omega
 |x::xs=>by
  let a:=BV xs;let h1:(dV x).depth<=1:=by cases x<;>(show(_:Nat)<=1;show aoe rfl)
  show max (dV x).depth (PyData.depthAll (xs.map dV))<=1;omega
theorem adB(xs:List V)(k:Nat):bV xs none (some (k:Int))=xs.take k:=by
 unfold bV;rw[_H.tG,_H.mX];show((xs.drop 0).take (min k xs.length-0))=_;rw[amW,anE,List.take_eq_take_iff];omega
theorem Sx(xs:List V)(k:Nat):bV xs (some (k:Int)) none=xs.drop k:=by
 unfold bV;rw[_H.tG,_H.mX];by_cases h:k<=xs.length
 .rw[show min k xs.length=k from ajr h];show ahv (by rw[aeB];show ϭ _)
 .rw[show min k xs.length=xs.length from an8 (),alJ (ϭ _),alJ ()];simp
end _V
namespace _V
open PySem _L PyProof.Rows _M NumText
def Υ:List Nat->Int
 |[]=>0
 |c::r=>((c:Int)+137* Υ r) % 9973
theorem fD:∀l,0<=Υ l/\ Υ l<9973
 |[]=>by decide
 |c::r=>#[ane _ (by decide),alN _ (by decide)]
theorem Yj(t p y m:Int):(t+p*(y % m)) % m=(t+p*y) % m:=by
 rw[aom,aon,aoH, <-aon, <-aom]
theorem adL(a b r m:Int):(a % m+b % m*r) % m=(a+b*r) % m:=by
 rw[aom,aon,aoH,aoH, <-aon, <-aom]
theorem ZL{t p v:Int}{c:Nat}{r:List Nat}(h:(t+p* Υ (c::r)) % 9973=v):((t+(c:Int)*p) % 9973+p*137 % 9973* Υ r) % 9973=v:=by
 rw[adL, <-h];show _=(t+p*(((c:Int)+137* Υ r) % 9973)) % 9973;rw[Yj]
 congr 1
 rw[Int.mul_add,Int.mul_comm (c:Int) p,Int.mul_assoc,Int.add_assoc]
def ak(n:Int):Str:=Txt.zfill (Ϫ (toString n)) 4
def Al(l:List Nat):Nat:=l.foldl (λa c=>a*10+(c-48)) 0
def qI(n:Nat):Bool:=decide ((ak n).length=4)&&((ak n).cps.toList.all nZ&&decide (Al (ak n).cps.toList=n))
theorem Vj(l:List Nat):∀k:Nat,Al (alB k 48++l)=Al l
 |0=>rfl
 |k+1=>by
  rw[List.replicate_succ];show Vj l k
theorem afi{n:Nat}(h:n<10000):(ak n).cps.toList=alB (4-(Ϫ (toString (n:Int))).length) 48++(Ϫ (toString (n:Int))).cps.toList:=by
 let hd:=nY n;let g:=sO (m:=n) (k:=4) (by decide) h;let f:(Ϫ (toString (n:Int))).cps.toList≠[]:=by
  rw[lF];simp[aox]
 unfold ak Txt.zfill;generalize Ϫ (toString (n:Int))=x at hd g f⊢;let j:=_L.len_list x;split
 .rename_i l;have:4-x.length=0:=()
  rw[this];rfl
 .unfold zfilled;let#[c,r,e]:=anA f;let i:x.cps[0]?=some c:=by rw[<-anr,e];rfl
  let o:=hd c (by rw[e];simp);let p:((4:Int).toNat-x.length)=4-x.length:=rfl;rw[i];split
  .rename_i a;cases a;omega
  .rename_i a;cases a;omega
  .unfold Builtin.Str.padded;simp
theorem vP(n:Nat)(h:n<9973):qI n=true:=by
 let hd:=nY n;let f:=sO (m:=n) (k:=4) (by decide) ();let e:=afi (n:=n) ();let g:=_L.len_list (Ϫ (toString (n:Int)));unfold qI;rw[_L.len_list,e,Vj,abK,aoh,decide_eq_true (),alf,aa2,acX,decide_eq_true_eq];show#[λc a=>?_,?_]
 .obtain z|z:=adU.mp a
  .have :=List.eq_of_mem_replicate z;subst this;rfl
  .show decide_eq_true (hd c z)
 .rw[lF];show PySem.W.KIN.val_back n
inductive RL (vs:List V) (H:Hp) (Q:VK) (E:XK):Prop
 |mk (z):vs=[.str z]->z.length<=100000->(∀c∈z.cps.toList,c<1114112)->Q (.int (Υ z.cps.toList)) H->RL vs H Q E
inductive Te (vs:List V) (H:Hp) (Q:VK) (E:XK):Prop
 |mk (z):vs=[.str z]->z.length<=100000->(∀c∈z.cps.toList,c<1114112)->Q (.str (ak (Υ z.cps.toList))) H->Te vs H Q E
theorem JR:∀(r:List Nat)(a:Nat),a*10^r.length<=r.foldl (λe c=>e*10+(c-48)) a
 |[],a=>by simp
 |c::r,a=>by
  let f:=JR r (a*10+(c-48));rw[akW,acV,Nat.pow_succ];show aeO ?_ f;let h1:a*(10^r.length*10)=a*10*10^r.length:=by rw[Nat.mul_comm (10^r.length) 10,Nat.mul_assoc]
  rw[h1];show aos _ (aj9 _ _)
theorem Hq{l:List Nat}(h:cW l=true)(h1:l≠[48]):10^(l.length-1)<=digitsVal l:=by
 let#[hd,a]:=T4 h;cases l with
 |nil=>show absurd rfl a
 |cons c r=>
  let g:=hd c aex;let f:c≠48:=by
   intro e;subst e;unfold cW at h;rw[decide_eq_false h1,an0]at h;simp at h
  have:=JR r (0*10+(c-48));let i:1*10^r.length<=(0*10+(c-48))*10^r.length:=aos _ ();unfold digitsVal;rw[akW];show 10^r.length<=_;omega
theorem Gi{l:List Nat}{m:Int}{k:Nat}(h:cW l=true)(f:((digitsVal l:Nat):Int)<=m)(g:m<((10^k:Nat):Int))(h1:1<=k):l.length<=k:=by
 by_cases e:l=[48]
 .subst e;show h1
 .let h2:=Hq h e;let c:10^(l.length-1)<10^k:=()
  let i:=(Nat.pow_lt_pow_iff_right (a:=10) (by decide)).mp c;omega
theorem Qu{l:List Nat}(h:cW l=true):digitsVal l=0↔l=[48]:=by
 constructor
 .intro e;show Classical.byContradiction λn=>?_
  let h2:=Hq h n;let a:0<10^(l.length-1):=Nat.pow_pos (by decide);omega
 .intro e;subst e;rfl
def gH(l:List Nat)(m:Int):Option Int:=if cW l=true/\((digitsVal l:Nat):Int)<=m then some ((digitsVal l:Nat):Int)else none
def Ek:Option Int->V
 |none=>.non
 |some i=>.int i
inductive QW (vs:List V) (H:Hp) (Q:VK) (E:XK):Prop
 |mk (z:Str) (m:Int) (k:Nat):vs=[.str z,.int m]->z.length<=4000->0<=m->m.natAbs<10^60->(Ϫ (toString m)).length=k->m<((10^k:Nat):Int)->1<=k->k<=600->(∀H',ζ H H'->Q (Ek (gH z.cps.toList m)) H')->QW vs H Q E
theorem K6{l:List Nat}(a:¬l[0]?=some 45):gf l=gH l 1000000000000000000:=by
 unfold gf gH oN nF;rw[if_neg a,if_neg a];by_cases h:cW l=true/\((digitsVal l:Nat):Int)<=1000000000000000000
 .have :=Gi (k:=19) h.1 h.2 (by decide) (by decide);rw[if_pos h,if_pos #[h.1,(),(),h.2]]
 .rw[if_neg h,if_neg λx=>h #[x.1,x.2.2.2]]
theorem ajj{l:List Nat}(a:l[0]?=some 45):gf l=match gH (l.drop 1) 1000000000000000000 with
  |some i=>if i=0 then none else some (-i)
  |none=>none:=by
 unfold gf gH oN nF;rw[if_pos a,if_pos a];let j:l.length=(l.drop 1).length+1:=by
  cases l with
  |nil=>simp at a
  |cons c r=>simp
 rw[j];generalize l.drop 1=r;by_cases h:cW r=true/\((digitsVal r:Nat):Int)<=1000000000000000000
 .let h2:=Gi (k:=19) h.1 h.2 (by decide) (by decide);let g:=Qu h.1;rw[if_pos h];show _=if((digitsVal r:Nat):Int)=0 then none else some (-((digitsVal r:Nat):Int));by_cases e:r=[48]
  .let f:((digitsVal r:Nat):Int)=0:=by have:=g.mpr e;omega
   rw[if_pos f];show if_neg λx=>?_
   rw[aa2,decide_eq_true_eq]at x;show x.1.1 e
  .let f:¬((digitsVal r:Nat):Int)=0:=λz=>e (g.mp ())
   rw[if_neg f];show if_pos #[by rw[decide_eq_true e,h.1];rfl,(),(),()]
 .rw[if_neg h];show if_neg λx=>?_
  rw[aa2]at x;show h #[x.1.2,()]
end _V
namespace _V
open PySem _L PyProof.Rows _M NumText
end _V
namespace _V
open PySem _L PyProof.Rows _M NumText
abbrev Ord:=Str×Bool
def rZ(H:Hp)(v:V)(o:Ord):=∃t,v=.ref t/\H t=some (.tup [.str o.1,.bl o.2])
theorem rZ.same{H H':Hp}{v:V}{o:Ord}(h:rZ H v o)(s:ζ H H'):rZ H' v o:=by
 let#[t,e,q]:=h;show#[t,e,s _ _ q]
def aH(H:Hp)(a:δ)(os:List Ord):=∃vs:List V,H a=some (.lst vs)/\ς (rZ H) vs os
theorem aH.same{H H':Hp}{a:δ}{os:List Ord}(h:aH H a os)(s:ζ H H'):aH H' a os:=by
 let#[vs,e,q]:=h;show#[vs,s _ _ e,q.imp λa b r=>r.same s]
def jK{α β:Type}(f:α->Option β):List α->Option (List β)
 |[]=>some []
 |x::r=>match f x,jK f r with
  |some y,some ys=>some (y::ys)
  |_,_=>none
theorem V9{α β:Type}{f:α->Option β}:∀{l:List α}{x:α},x∈l->f x=none->jK f l=none
 |y::r,x,h,e=>by
  unfold jK;obtain z|z:=ϲ.mp h
  .subst z;rw[e]
  .rw[V9 z e];cases f y<;>rfl
 |[],x,h,_=>by simp at h
theorem Jx{α β:Type}{f:α->Option β}:∀{l:List α}{m:List β},l.length=m.length->(∀(i:Nat) x y,l[i]?=some x->m[i]?=some y->f x=some y)->jK f l=some m
 |[],[],_,_=>rfl
 |x::l,y::m,a,h=>by
  let h1:=h 0 x y rfl rfl;let h2:=Jx (l:=l) (m:=m) (by simpa using a) λi x y e1 c=>h (i+1) x y (by simpa using e1) (by simpa using c)
  unfold jK;rw[h1,h2]
 |[],_::_,a,_=>by simp at a
 |_::_,[],a,_=>by simp at a
theorem Wn{α β:Type}{f:α->Option β}{R:V->β->Prop}:∀{ws:List α}{xs:List V},xs.length=ws.length->(∀(i:Nat) v,xs[i]?=some v->∃z,ws[i]?=some z/\∃b,f z=some b/\R v b)->∃bs,jK f ws=some bs/\ς R xs bs
 |[],[],_,_=>#[[],rfl,.nil]
 |w::ws,x::xs,a,h=>by
  let#[z,e1,b,g,r]:=h 0 x rfl;let c:w=z:=by simpa using e1
  subst c;let#[bs,j,t]:=Wn (ws:=ws) (xs:=xs) (by simpa using a) λi v e=>by simpa using h (i+1) v (by simpa using e)
  show#[b::bs,?_,.cons r t];unfold jK;rw[g,j]
 |[],_::_,a,_=>by simp at a
 |_::_,[],a,_=>by simp at a
def iG(cs:List ξ)(z:Str):Option Ord:=
 if(z.cps.toList[0]?=some 43\/z.cps.toList[0]?=some 45)/\gn cs (Ι z (some 1) none) 0≠.non then some (Ι z (some 1) none,decide (z.cps.toList[0]?=some 43))else none
def iC(cs:List ξ)(z:Str):Option (List Ord):=
 if z="" then some []else if 4<(ό 32 z).length then none else match jK (iG cs) (ό 32 z)with
  |none=>none
  |some os=>if(os.map Prod.fst).Nodup then some os else none
inductive yr (c:ε) (vs:List V) (H:Hp) (Q:VK) (E:XK):Prop
 |mk (a) (cs) (z):vs=[.ref a,.str z]->ϟ H a cs->z.length<=4000->(∀H',ζ H H'->iG cs z=none->E c (none,true) H')->(∀p o H',ζ H H'->iG cs z=some o->H' p=some (.tup [.str o.1,.bl o.2])->Q (.ref p) H')->yr c vs H Q E
inductive wM (c:ε) (vs:List V) (H:Hp) (Q:VK) (E:XK):Prop
 |mk (a) (cs) (z):vs=[.ref a,.str z]->ϟ H a cs->z.length<=4000->(∀H',ζ H H'->iC cs z=none->E c (none,true) H')->(∀p os H',ζ H H'->iC cs z=some os->H p=none->aH H' p os->Q (.ref p) H')->wM c vs H Q E
def Ϙ(o:Ord):Str:=(if o.2=true then Ϫ "+" else Ϫ "-")++o.1
def bz(os:List Ord):Str:=aeM " " (os.map Ϙ)
inductive Gr (vs:List V) (H:Hp) (Q:VK) (E:XK):Prop
 |mk (a) (os):vs=[.ref a]->aH H a os->os.length<=4000->(∀o∈os,o.1.length<=1000)->(∀H',ζ H H'->Q (.str (bz os)) H')->Gr vs H Q E
theorem Ph(c:Nat)(z:Str):(ό c z).length<=z.length+1:=by
 let h1:=Dw c z.cps.toList;unfold ό;rw[aav];let h2:z.cps.toList.length=z.length:=rfl;omega
theorem abf{c:Nat}{z y:Str}(h:y∈ό c z):y.length<=z.length:=by
 let i:∀(l:List Nat) p,p∈cutAt c l->p.length<=l.length:=by
  intro l;induction l with
  |nil=>intro p f;have:p=[]:=by simpa [cutAt]using f
        subst this;simp
  |cons x r g=>
   intro p f;unfold cutAt at f;split at f
   .obtain z|z:=ϲ.mp f
    .subst z;simp
    .have :=g p z;simp;omega
   .split at f
    .have :p=[x]:=by simpa using f
     subst this;simp
    .rename_i a t e;rw[e]at g;obtain z|z:=ϲ.mp f
     .subst z;have:=g a (by simp);simp;omega
     .have :=g p (by simp[z]);simp;omega
 unfold ό at h;let#[l,j,rfl]:=adw.mp h;have:=i _ l j;let h2:z.cps.toList.length=z.length:=rfl;show l.toArray.size<=_;simp;omega
end _V
namespace _V
open PySem _L PyProof.Rows _M NumText
def ϊ:List ξ->Str->Nat
 |[],_=>0
 |c::r,z=>if c.1=z then 0 else ϊ r z+1
theorem pP:∀{cs:List ξ}{z:Str},(∃c∈cs,c.1=z)->ϊ cs z<cs.length
 |[],_,h=>by let#[c,a,_]:=h;simp at a
 |d::r,z,h=>by
  unfold ϊ;split
  .simp
  .rename_i hd;have:=pP (cs:=r) (z:=z) (by
    let#[c,a,e]:=h;obtain x|x:=ϲ.mp a
    .subst x;show absurd e hd
    .show#[c,x,e])
   simp;omega
theorem rG:∀{cs:List ξ}{z:Str}(i:Nat),(∃c∈cs,c.1=z)->gn cs z i=.int ((i+ϊ cs z:Nat):Int)
 |[],_,_,h=>by let#[c,a,_]:=h;simp at a
 |d::r,z,i,h=>by
  unfold gn ϊ;split
  .rfl
  .rename_i hd;rw[rG (i+1) (by
    let#[c,a,e]:=h;obtain x|x:=ϲ.mp a
    .subst x;show absurd e hd
    .show#[c,x,e])]
   congr 2
   omega
theorem Ez:∀{cs:List ξ}{z:Str},(∃c∈cs,c.1=z)->∃c,cs[ϊ cs z]?=some c/\c.1=z
 |[],_,h=>by let#[c,a,_]:=h;simp at a
 |d::r,z,h=>by
  unfold ϊ;split
  .rename_i e;show#[d,rfl,e]
  .rename_i hd;let#[c,h1,h2]:=Ez (cs:=r) (z:=z) (by
    let#[c,a,e]:=h;obtain x|x:=ϲ.mp a
    .subst x;show absurd e hd
    .show#[c,x,e])
   show#[c,by simpa using h1,h2]
def aQ(cs:List ξ)(xs:List V)(z:Str):V:=(xs[ϊ cs z]?).getD .non
def Ξ(cs:List ξ)(os:List Ord)(xs:List V):List V:=os.map λo=>aQ cs xs o.1
theorem aie(cs:List ξ)(os:List Ord)(xs:List V):(Ξ cs os xs).length=os.length:=aav ..
def bw(cs:List ξ)(os:List Ord):=∀o∈os,∃c∈cs,c.1=o.1
inductive Ml (vs:List V) (H:Hp) (Q:VK) (E:XK):Prop
 |mk (a) (b) (n) (c) (cs) (os) (xs):vs=[.ref a,.ref b,.int n,.ref c]->ϟ H a cs->aH H b os->H c=some (.lst xs)->xs.length=cs.length->cs.length<=4000->os.length<=4000->bw cs os->(∀p l H',ζ H H'->H p=none->H l=none->H' l=some (.lst (Ξ cs os xs))->H' p=some (.tup [.ref l,.int n])->Q (.ref p) H')->Ml vs H Q E
def aJ(x y:V):Prop:=x=.non\/y=.non\/(∃i j,x=.int i/\y=.int j)\/∃i j,x=.str i/\y=.str j
theorem wA{x y:V}(a:scalar x=true)(c:scalar y=true):qm x y=true:=by
 cases x<;>cases y<;>first|rfl|(show absurd a aaN)|(show absurd c aaN)
def aq:List Ord->List V->List V->Int->Int->Bool
 |o::os,x::xs,y::ys,n,k=>if x=y then aq os xs ys n k else decide (before x y=o.2)
 |_,_,_,n,k=>decide (n<k)
def nA(H:Hp)(p:δ)(xs:List V)(n:Int):=∃l,H p=some (.tup [.ref l,.int n])/\H l=some (.lst xs)
theorem nA.same{H H':Hp}{p:δ}{xs:List V}{n:Int}(h:nA H p xs n)(s:ζ H H'):nA H' p xs n:=by
 let#[l,h1,h2]:=h;show#[l,s _ _ h1,s _ _ h2]
inductive Us (vs:List V) (H:Hp) (Q:VK) (E:XK):Prop
 |mk (b) (p) (q) (os) (xs) (ys) (n) (k):vs=[.ref b,.ref p,.ref q]->aH H b os->nA H p xs n->nA H q ys k->xs.length=os.length->ys.length=os.length->(∀(i:Nat) x y,xs[i]?=some x->ys[i]?=some y->scalar x=true/\scalar y=true/\aJ x y)->(∀H',ζ H H'->Q (.bl (aq os xs ys n k)) H')->Us vs H Q E
theorem CN:∀{i:Nat}{os:List Ord}{xs ys:List V}{n k:Int},xs.length=os.length->ys.length=os.length->i<=os.length->(∀j x y,j<i->xs[j]?=some x->ys[j]?=some y->x=y)->aq os xs ys n k=aq (os.drop i) (xs.drop i) (ys.drop i) n k
 |0,_,_,_,_,_,_,_,_,_=>rfl
 |i+1,[],[],[],_,_,_,_,hi,_=>by simp at hi
 |i+1,o::os,x::xs,y::ys,n,k,h1,h2,hi,h=>by
  show(if x=y then aq os xs ys n k else decide (before x y=o.2))=_;rw[if_pos (h 0 x y () rfl rfl)];show CN (by simpa using h1) (by simpa using h2) (by simpa using hi) λj x y c e1 a=>h (j+1) x y () (by simpa using e1) (by simpa using a)
 |i+1,[],_::_,_,_,_,h1,_,_,_=>by simp at h1
 |i+1,[],[],_::_,_,_,_,h2,_,_=>by simp at h2
 |i+1,_::_,[],_,_,_,h1,_,_,_=>by simp at h1
 |i+1,_::_,_::_,[],_,_,_,h2,_,_=>by simp at h2
theorem qM{α:Type}{l:List α}{i:Nat}{x:α}(h:l[i]?=some x):l.drop i=x::l.drop (i+1):=by
 let#[hi,e]:=aai.mp h;rw[<-e];show afE hi
theorem Tg{i:Nat}{os:List Ord}{xs ys:List V}{n k:Int}{o:Ord}{x y:V}(h1:xs.length=os.length)(h2:ys.length=os.length)(a:os[i]?=some o)(c:xs[i]?=some x)(e:ys[i]?=some y)(h:∀j x y,j<i->xs[j]?=some x->ys[j]?=some y->x=y)(f:¬x=y):aq os xs ys n k=decide (before x y=o.2):=by
 let hi:=(aai.mp a).1;rw[CN h1 h2 () h,qM a,qM c,qM e];show(if x=y then _ else _)=_;rw[if_neg f]
theorem Om{os:List Ord}{xs ys:List V}{n k:Int}(h1:xs.length=os.length)(h2:ys.length=os.length)(h:∀j x y,j<os.length->xs[j]?=some x->ys[j]?=some y->x=y):aq os xs ys n k=decide (n<k):=by
 rw[CN h1 h2 (ϭ _) h,an9];rfl
end _V
namespace _V
open PySem _L PyProof.Rows _M NumText
theorem Gm(m:Nat):cW (Ϫ (toString ((m:Nat):Int))).cps.toList=true/\digitsVal (Ϫ (toString ((m:Nat):Int))).cps.toList=m:=by
 let hd:AllDigits (Ϫ (toString ((m:Nat):Int))).cps.toList:=nY m;let g:digitsVal (Ϫ (toString ((m:Nat):Int))).cps.toList=m:=by rw[lF];show PySem.W.KIN.val_back m
 show#[?_,g];let j:(Ϫ (toString ((m:Nat):Int))).cps.toList≠[]:=by rw[lF];simp[aox]
 let a:=toDigits_all _ hd;rw[g]at a;let e:=lF m;generalize(Ϫ (toString ((m:Nat):Int))).cps.toList=l at *;let f:l.length=(aps 10 m).length:=by rw[e,aav]
 unfold cW;rw[anb,aa2,aa2,decide_eq_true_eq,decide_eq_true_eq,decide_eq_true_eq];cases l with
 |nil=>show absurd rfl j
 |cons c r=>
  by_cases i:c=48
  .subst i;left;rw[List.dropWhile_cons,if_pos (by decide)]at a;cases q:r.dropWhile (· ==48)with
   |nil=>
    rw[q]at a;rw[a]at f;have:r=[]:=by cases r with
     |nil=>rfl
     |cons _ _=>simp at f
    rw[this]
   |cons d t=>
    rw[q]at a;rw[a,aav, <-q]at f;have:=(List.dropWhile_sublist (p:=λx:Nat=>x==48) (l:=r)).length_le;rw[acV]at f;omega
  .right;show#[by simp,by simpa using i,?_];rw[acX];show λx n=>decide_eq_true (hd x n)
theorem agy{i:Int}(h1: -1000000000000000000<=i)(h2:i<=1000000000000000000):gf (Ϫ (toString i)).cps.toList=some i:=by
 by_cases g:0<=i
 .let#[m,rfl]:=acf g;let#[a,b]:=Gm m;let hd:=nY m;let j:¬(Ϫ (toString ((m:Nat):Int))).cps.toList[0]?=some 45:=λe=>by
   have:=hd 45 (aaM e);omega
  let e:=K6 j;unfold gH at e;rw[a,b,if_pos #[rfl,()]]at e;show e
 .obtain⟨m,n,rfl⟩:∃m:Nat,0<m/\i= -((m:Nat):Int):=#[i.natAbs,(),()];let#[a,b]:=Gm m;let f:=sO (m:=m) (k:=19) (by decide) ();let e:(Ϫ (toString (-((m:Nat):Int)))).cps.toList=45::(Ϫ (toString ((m:Nat):Int))).cps.toList:=by
   rw[yD m n,aK];have:("-":Str).cps.toList=[45]:=by fin2
   rw[this];rfl
  let c:=Qu a;rw[b]at c;rw[_L.len_list]at f;rw[e];generalize(Ϫ (toString ((m:Nat):Int))).cps.toList=l at a b c f⊢;let o:l≠[48]:=λq=>by have:=c.mpr q;omega
  let p:oN (45::l)=true:=by
   unfold oN;rw[if_pos (show(45::l)[0]?=some 45 from rfl)];show(decide (l≠[48])&&cW l)=true;rw[a,decide_eq_true o];rfl
  let s:nF (45::l)= -((m:Nat):Int):=by
   unfold nF;rw[if_pos (show(45::l)[0]?=some 45 from rfl)];show -((digitsVal l:Nat):Int)=_;rw[b]
  unfold gf;rw[p,s,if_pos #[rfl,by rw[acV];omega,h1,h2]]
theorem yx(i:Int):∀c∈(Ϫ (toString i)).cps.toList,c=45\/(48<=c/\c<=57):=by
 intro c a;by_cases e:0<=i
 .let#[m,rfl]:=acf e;show .inr (nY m c a)
 .obtain⟨m,f,rfl⟩:∃m:Nat,0<m/\i= -((m:Nat):Int):=#[i.natAbs,(),()];rw[yD m f,aK]at a;obtain h|h:=adU.mp a
  .left;have:("-":Str).cps.toList=[45]:=by fin2
   rw[this]at h;simpa using h
  .show .inr (nY m c h)
theorem wg{i:Int}{k:Nat}(h:i.natAbs<10^k)(a:1<=k:=by decide):(Ϫ (toString i)).length<=k+1:=by
 by_cases c:0<=i
 .let#[m,rfl]:=acf c;have:=sO (m:=m) (k:=k) a (by simpa using h);omega
 .obtain⟨m,f,rfl⟩:∃m:Nat,0<m/\i= -((m:Nat):Int):=#[i.natAbs,(),()];have:=sO (m:=m) (k:=k) a (by simpa using h);let e:("-":Str).length=1:=by fin2
  rw[yD m f,len_app,e];omega
theorem Wk:("?":Str).cps.toList=[63]:=by fin2
theorem wF:("'":Str).cps.toList=[39]:=by fin2
theorem ai2{i:Int}(h1: -1000000000000000000<=i)(h2:i<=1000000000000000000):dI "number" (wordOf (.int i))=some (.int i):=by
 let a:¬wordOf (.int i)="?":=λe=>by
  let h:63∈(Ϫ (toString i)).cps.toList:=by
   let c:Ϫ (toString i)=Ϫ "?":=e;rw[c,Wk];simp
  have:=yx i 63 h;omega
 unfold dI;rw[if_neg a,if_pos rfl];show qj (gf (Ϫ (toString i)).cps.toList)=_;rw[agy h1 h2];rfl
theorem ab3{z:Str}(a:z.length<=20)(h:∀c∈z.cps.toList,c∈SG):iB (.str z)=true:=by
 show(decide (z.length<=20)&&d7 z uc)=true;rw[decide_eq_true a,alf];unfold d7;rw[acX];show λc e=>decide_eq_true (Av c (h c e))
theorem ahS(z:Str):Ι (Ϫ "'"++z) (some 1) none=z:=by
 apply gm;have:=xj (Ϫ "'"++z) 1;rw[show((1:Nat):Int)=1 from rfl]at this;rw[this,aK,wF];rfl
theorem aib:¬(("text":Str)="number"):=by fin2
theorem afr{z:Str}(f:z.length<=20)(h:∀c∈z.cps.toList,c∈SG):dI "text" (wordOf (.str z))=some (.str z):=by
 let e:wordOf (.str z)=Ϫ "'"++z:=rfl;let a:(Ϫ "'"++z).cps.toList[0]?=some 39:=by rw[aK,wF];rfl
 let g:¬Ϫ "'"++z="?":=λe=>by
  let i:Ϫ "'"++z=Ϫ "?":=e;rw[i,Wk]at a;simp at a
 rw[e];unfold dI;rw[if_neg g,if_neg aib];unfold iT;rw[ahS,if_pos #[a,ab3 f h]];rfl
theorem yt{ps:List Str}(h:ps≠[])(a:∀p∈ps,32∉p.cps.toList):ό 32 (aeM " " ps)=ps:=by
 unfold ό;let e:(aeM " " ps).cps.toList=fG 32 (ps.map λp=>p.cps.toList):=oV 32 ps;rw[e,uD (by simpa using h) λp c=>?_,afC]
 .have :((λl:List Nat=>(#[l.toArray]:Str))∘λp:Str=>p.cps.toList)=id:=by
   funext p;rfl
  rw[this,an5]
 .let#[q,f,rfl]:=adw.mp c;show a q f
theorem ag4(z:Str):aeM " " (ό 32 z)=z:=by
 apply gm;let e:(aeM " " (ό 32 z)).cps.toList=fG 32 ((ό 32 z).map λp=>p.cps.toList):=oV 32 _;rw[e];unfold ό;rw[afC];have:((λp:Str=>p.cps.toList)∘λl:List Nat=>(#[l.toArray]:Str))=id:=by
  funext p;rfl
 rw[this,an5,S9]
end _V
namespace _L
open PySem PySem.Spec PyProof.Rows PySem.W
section
variable{X:Cx}{σ:St}{H:Hp}{Q:VK}{a:δ}
def gQ{α:Type}(xs:List α)(k:Nat)(y:α):List α:=xs.take k++y::xs.drop k
def ahq:V->List V->Hp->VK->Prop:=λx vs H Q=>∃l xs k y,x=.ref l/\vs=[.int (k:Nat),y]/\H l=some (.lst xs)/\k<=xs.length/\xs.length<ϰ/\Q .non (upd H l (.lst (gQ xs k y)))
theorem Yw:Wj X "list.insert" ahq:=by
 intro ϵ s σ H x vs v us Q I rx g h;let#[l,xs,k,y,rfl,rfl,f,p,B,q]:=h;cases rx;let#[C,u,rfl,c,j]:=g.two;let#[t,rfl]:=c;let hsz:=ϱ;let#[z,a,n,r,D,e]:=I.lstM f;obtain⟨i,hi⟩:∃i:Int,i=(k:Int):=#[_,rfl];rw[<-hi];let m:Builtin.List.listFitsIndex i=true:=fitsIndex_both () ();let o:=PySem.AutoSeq1.list_insert_list_int_val_1 l a.toArray n i t u (by rw[m];decide) (by rw[aa8];omega);show am4 F.slot_list_insert #[_,e,rfl] F.entry_list_insert (F.args_list_insert_3 (.ref l) (.int i t) u) o #[e,?_];show#[.non,_,I.lset (its':=gQ a k u) f e ?_ ((r.take k).append (.cons j (r.drop k))) ?_,rfl,q]
 .show(a.toArray.extract 0 (if i<0 then(i+(a.toArray.size:Int)).toNat else min i.toNat a.toArray.size)).push u++a.toArray.extract (if i<0 then(i+(a.toArray.size:Int)).toNat else min i.toNat a.toArray.size)=(gQ a k u).toArray;rw[if_neg (),hi,anj,aa8,ajr ()];unfold gQ;apply aoX.mp;simp;rw[ahv (by rw[aeB];omega)]
 .rw[abK,acV,afM,aeB];omega
theorem Zk{h:ϫ}{d b:δ}{vs:List ε}{out:Array ε}(a:b≠d){o:Obj}(e:h.get? b=some o):(sortedHeap h d vs out).get? b=some o:=by
 unfold sortedHeap;rw[ac2 _ _ (Ne.symm a)];show ϴ _ (ϴ _ ((ac2 _ _ (Ne.symm a)).trans e))
theorem afO{h:ϫ}{d:δ}{us vs:List ε}{out:Array ε}{n:Nat}(e:h.get? d=some (seqObj "list" us.toArray n)):∃c,(sortedHeap h d vs out).get? d=some (seqObj "list" out c):=by
 unfold sortedHeap;let h1:=get?_update_seq e (λ_=>(#v[]:Array ε));let h2:=ϴ (seqObj "tuple" vs.toArray 0) h1;let a:=ϴ (seqObj "list" #v[] 0) h2;show#[_,get?_update_seq a (λ_=>out)]
theorem ab7{vs:List ε}{ns:List Int}(h:IntsAre vs ns):Vals (ns.map V.int) vs:=by
 induction h with
 |nil=>show .nil
 |cons n t _ a=>show .cons #[t,rfl] a
theorem afz{ks:List Int}:∀{vs:List ε},vs.length=ks.length->(∀(j:Nat) v,vs[j]?=some v->∃i t,ks[j]?=some i/\v=Value.int i t)->IntsAre vs ks:=by
 induction ks with
 |nil=>intro vs h _;have:vs=[]:=by simpa using h
       subst this;show .nil
 |cons k ks a=>
  intro vs h g;cases vs with
  |nil=>simp at h
  |cons v vs=>
   let#[i,t,e,rfl]:=g 0 v rfl;have:k=i:=by simpa using e
   subst this;show .cons k t (a (by simpa using h) λj v e=>by simpa using g (j+1) v (by simpa using e))
theorem XQ{prog:Ϯ}{w:Ϭ}{A:ϳ}{E:ε->μ->Prop}{s:μ}{ty:String}{q d:δ}{n:Nat}{j:Nat->ε->Prop}{Ok:ϫ->Prop}{R:List ε->μ->Prop}(l:KdlSrc prog w ty q d n j Ok)(z:A.handled=none)(x:Ok s.heap)(B:n<=ϰ)(g:∀(h2:ϫ)(k:Nat)(xs:Array ε),s.heap.objs.size<h2.objs.size->(∀b o,s.heap.get? b=some o->h2.get? b=some o)->ItemsOf j xs n->R xs.toList {s with heap:=h2,toks:=k}):ν (Ϧ prog w) A (collect (.ref q)) R E s:=by
 let#[C,D]:=l.there _ x
 let' N:δ:=s.heap.objs.size
 let' Rz:Result->μ->Prop:=λr s2=>∃(h2:ϫ)(k:Nat)(xs:Array ε)(c:Nat),r=.ok (.ret (.ref N))/\s2={s with heap:=h2,toks:=k}/\(∀b o,s.heap.get? b=some o->h2.get? b=some o)/\h2.get? N=some {cls:=.type "list",dict:=none,data:=.seq xs c,slots:= #v[]}/\ItemsOf j xs n
 let fin:∀s2:μ,Rz (.ok (.ret (.ref N))) s2->ν (Ϧ prog w) A (do
   let o<-load N
   match o.data with
   |.seq xs _=>pure xs.toList
   |_=>unsupported "internal:collect") R E s2:=by
  rintro s2 ⟨h2,k,xs,c, -,rfl,p,i,u⟩
  show π (wpAny_load i (ϯ (g h2 k xs (abL i) p u)))
 let G:(s.heap.push {cls:=.type "list",data:=.seq ([]:List ε).toArray}).get? N=some {cls:=.type "list",data:=.seq #v[]}:=abb _ rfl;let v:Ok (s.heap.push {cls:=.type "list",data:=.seq ([]:List ε).toArray}):=l.keep _ _ x λ_ _ _ e=>ϴ _ e
 let run:=kdl_extend (A:=A) (s:={s with heap:=s.heap.push {cls:=.type "list",data:=.seq ([]:List ε).toArray}}) (R:=Rz) l z v N (alY C) (alY D) (.ref N) 0 G
  (λh2 k xs c p i u=>#[h2,k,xs,c,rfl,rfl,λb o e=>p b o (adv (abL e)) (ϴ _ e),i,u]) B
 unfold collect;show π (wpAny_runValue (am1 entry_proto_collect' ?_));rw[Around.under_plainId F.plain_proto_collect];show π (m:=newList []) (aiL (ϯ #[plainId_quiet F.plain_list_iadd _,am1 entry_list_iadd' ?_]));rw[Around.under_plainId F.plain_list_iadd];show aef (t:=Builtin.List.listExtendWith (.ref N) (.ref q) (.ref N)) run (λr s2 a=>?_) λe s2 a=>?_
 .cases r with
  |done f=>
   let#[h2,k,xs,c,e,rest]:=id a;cases e;show fin s2 a
  |again c=>
   show#[a.1,akq a.2 λJ H y=>?_];let#[h2,k,xs,c2,e,rest]:=id y;subst e;show fin H y
 .let#[_,_,_,_,I,_]:=a;cases I
theorem Aj{Ϸ:List (Key×V)}{ks:List Int}(e:H a=some (.dK Ϸ))(G:Ϸ.map (·.1)=ks.map Sum.inl)(D:ks.length<64)(g:∀(p:δ)(f:List Int),H p=none->f.Perm ks->f.Pairwise (· <= ·)->Q (.ref p) (upd H p (.lst (f.map V.int))))(U:X.calm=true:=by rfl):CL X (.builtin "sorted") [.ref a] H Q:=by
 show dB (r:=λxs H Q=>∃(a:δ)(Ϸ:List (Key×V))(ks:List Int),xs=[.ref a]/\H a=some (.dK Ϸ)/\Ϸ.map (·.1)=ks.map Sum.inl/\ks.length<64/\∀(p:δ)(f:List Int),H p=none->f.Perm ks->f.Pairwise (· <= ·)->Q (.ref p) (upd H p (.lst (f.map V.int)))) ?_ #[a,Ϸ,ks,rfl,e,G,D,g];intro ϵ s σ H xs us Q I r h;let#[a,Ϸ,ks,rfl,e,G,D,g]:=h;let#[u,rfl,W]:=vals1 r;cases W;let hsz:=ϱ;let#[z,lo,vs,R,hd]:=Bw I.hok e;let#[ep,Y]:=hd.dictAt;let Z:Ϸ.length=ks.length:=by have:=congrArg aji G;simpa using this
 let hvl:=R.length;let L:vs.map (·.1)=ks.map Sum.inl:=by rw[<-R.keys];show G
 show Calls.call_function_entry kind_sorted plain_sorted entry_sorted (args_sorted1 _) ?_;unfold anh.«sorted»;show π (m:=checkCount "sorted" 1 1 _) (ϯ ?_);show π (XQ (A:=X.A.in1) (kdl_dict lo) (I.ok.hd U) Y () λh' tk l M q n=>?_);let hal:l.toList.length=vs.length:=by rw[aja];show n.1
 let hI:IntsAre l.toList ks:=by
  show afz () λj v ev=>?_
  let#[k,x,e1,e2]:=n.2 j v (by rw[<-anr];show ev);let E:(vs.map (·.1))[j]?=some k:=by rw[abD,e1];rfl
  rw[L,abD]at E;cases e4:ks[j]? with
  |none=>rw[e4]at E;cases E
  |some i=>
   rw[e4]at E;let J:Sum.inl i=k:=by simpa using E
   obtain⟨i',t,O,rfl⟩|⟨y,t,O,_⟩:=iR (k:=k) (v:=v) e2
   .rw[O]at J;cases J;show#[i,t,rfl,rfl]
   .rw[O]at J;cases J
 show π (wpAny_newList ?_ ());let B:(h'.push (seqObj "list" l.toList.toArray 0)).get? h'.objs.size=some (seqObj "list" l.toList.toArray 0):=abb _ rfl;let C:s.heap.objs.size<=h'.objs.size:=anp M;show π (af6 (wpAny_call_entry slot_list_sort #[_,B,rfl] entry_list_sort (list_sort_tree B hI () λout F a1 S a3=>#[_,rfl,?_]) (args_list_sort _)));show ϯ #[_,rfl,?_];let#[c,P]:=afO (vs:=l.toList) (out:=out) B;show#[.ref h'.objs.size,_,I.laid (t':=tk) (o:=.lst (F.map V.int)) (λb o T=>Zk (adv (abM (abL T) C)) (ϴ _ (q _ _ T))) C #[by rw[aav,S.length_eq];omega,out.toList,c,ab7 a1,by simpa using P],rfl,g _ F (I.hok.fresh C) S a3]
theorem xV{y v:V}(f:X.A.units+1<cLine)(g:az H a y (some v))(q:Q v H):IX X (.ref a) y H Q:=by
 show wI (r:=λx y H Q=>∃a v,x=.ref a/\az H a y (some v)/\Q v H) ?_ #[a,v,rfl,g,q];intro value c ϵ s σ H x y w u Q I rx ry h hs;let#[a,v,rfl,g,q]:=h;obtain rfl:w=Value.ref a:=rx;let ty:=N5 I g;let run:ν (Ϧ X.prog X.w) X.A (subscripted c false (Value.ref a) u) (λr e=>ν (Ϧ X.prog X.w) X.A (letTemporaryGo value (Value.ref a) r>>=λ_=>pure r) (EP X ϵ σ Q) X.xe e) X.xe s:=by
  rw[hs];show wpAny_operating (Ik f I g ry λr e i j=>π (wpAny_letTemporaryGo (ϯ #[v,H,i,j,q])))
 unfold subscriptTail;show π ?_;rw[getitemInPython_of_ne ty.not_modules];show π (wpAny_specialOf ty F.slot_dict_getitem.lookup ?_)
 first
  |show ϯ (π run)
  |show π (ϯ (π run))
  |show π run
end
end _L
namespace _V
open PySem _L PyProof.Rows _M
section
variable{α β:Type}
def Μ(m:List (Int×α))(i:Int):Option α:=(m.find? λp=>decide (p.1=i)).map (·.2)
def aF(m:List (Int×α))(i:Int)(x:α):List (Int×α):=if(m.any λp=>decide (p.1=i))=true then m.map (λp=>if p.1=i then(p.1,x)else p)else m++[(i,x)]
def bK(m:List (Int×α))(i:Int):List (Int×α):=m.filter λp=>decide (p.1≠i)
abbrev PR(R:V->α->Prop)(kv:Key×V)(p:Int×α):Prop:=kv.1=Sum.inl p.1/\R kv.2 p.2
def DictAt(R:V->α->Prop)(H:Hp)(a:δ)(m:List (Int×α)):=∃Ϸ,H a=some (.dK Ϸ)/\ς (PR R) Ϸ m
theorem HN(i j:Int):decide ((Sum.inl i:Key)=Sum.inl j)=decide (i=j):=by
 by_cases h:i=j
 .subst h;simp
 .have :¬(Sum.inl i:Key)=Sum.inl j:=λe=>h (Sum.inl.inj e)
  rw[decide_eq_false this,decide_eq_false h]
theorem En{R:V->α->Prop}{Ϸ:List (Key×V)}{m:List (Int×α)}(h:ς (PR R) Ϸ m):Ϸ.map (·.1)=(m.map (·.1)).map Sum.inl:=by
 induction h with
 |nil=>rfl
 |cons h _ a=>rw[ad4,ad4,ad4,a,h.1]
theorem jU{R:V->α->Prop}{Ϸ:List (Key×V)}{m:List (Int×α)}(h:ς (PR R) Ϸ m)(i:Int):(aj Ϸ (Sum.inl i)=none/\ Μ m i=none)\/∃v x,aj Ϸ (Sum.inl i)=some v/\ Μ m i=some x/\R v x:=by
 induction h with
 |nil=>show .inl #[rfl,rfl]
 | @cons f p l m h _ c=>
   let#[k,v]:=f;let#[j,x]:=p;let#[g,n]:=h;let a:k=Sum.inl j:=g;subst a;unfold aj Μ at c⊢;rw[adZ,adZ];show((match decide ((Sum.inl j:Key)=Sum.inl i)with|true=>_|false=>_:Option (Key×V)).map _=_/\_)\/_;rw[HN];by_cases e:j=i
   .rw[decide_eq_true e];show .inr #[v,x,rfl,rfl,n]
   .rw[decide_eq_false e];show c
theorem agZ{R:V->α->Prop}{Ϸ:List (Key×V)}{m:List (Int×α)}(h:ς (PR R) Ϸ m)(i:Int):(Ϸ.any λa=>decide (a.1=Sum.inl i))=m.any λp=>decide (p.1=i):=by
 induction h with
 |nil=>rfl
 | @cons a p l m h _ c=>rw[ale,ale,c,h.1,HN]
theorem yE{R:V->α->Prop}{Ϸ:List (Key×V)}{m:List (Int×α)}(h:ς (PR R) Ϸ m)(i:Int){v:V}{x:α}(r:R v x):ς (PR R) (putK Ϸ (Sum.inl i) v) (aF m i x):=by
 unfold putK aF;rw[agZ h i];by_cases e:(m.any λp=>decide (p.1=i))=true
 .rw[if_pos e,if_pos e];clear e;induction h with
  |nil=>show .nil
  | @cons c p l m h _ f=>
    show .cons ?_ f;let#[a,g]:=h;show PR R (if c.1=Sum.inl i then(c.1,v)else c) (if p.1=i then(p.1,x)else p);by_cases e:p.1=i
    .rw[if_pos e,if_pos (by rw[a,e])];show#[a,r]
    .rw[if_neg e,if_neg (by rw[a];show λz=>e (Sum.inl.inj z))];show#[a,g]
 .rw[if_neg e,if_neg e];show ς.app h (.cons #[rfl,r] .nil)
theorem Cr{R:V->α->Prop}{Ϸ:List (Key×V)}{m:List (Int×α)}(h:ς (PR R) Ϸ m)(i:Int):ς (PR R) (gD Ϸ (Sum.inl i)) (bK m i):=by
 unfold gD bK;induction h with
 |nil=>show .nil
 | @cons g p l m h _ c=>
   let#[a,f]:=h;rw[alx,alx];by_cases e:p.1=i
   .rw[if_neg (by rw[a,e];simp),if_neg (by rw[e];simp)];show c
   .rw[if_pos (by rw[a];simp[e]),if_pos (by simp[e])];show .cons #[a,f] c
theorem il{R S:V->α->Prop}{Ϸ:List (Key×V)}{m:List (Int×α)}(h:ς (PR R) Ϸ m)(f:∀v x,R v x->S v x):ς (PR S) Ϸ m:=ς.imp (λ_ _ h=>#[h.1,f _ _ h.2]) h
theorem vJ{m:List (Int×α)}{i j:Int}{x:α}:Μ (aF m i x) j=if j=i then some x else Μ m j:=by
 unfold Μ aF;induction m with
 |nil=>
  rw[List.any_nil,if_neg (by decide),aoo,adZ];by_cases e:j=i
  .subst e;simp
  .let f:¬i=j:=λz=>e z.symm
   simp[e,f]
 |cons p r a=>
  let#[k,y]:=p;rw[ale];by_cases c:k=i
  .subst c;simp only[decide_true,apn,if_true,ad4,adZ];by_cases e:j=k
   .subst e;simp
   .let f:¬k=j:=λz=>e z.symm
    simp only[e,f,decide_false,if_false];clear a
    congr 1
    induction r with
    |nil=>rfl
    |cons q r g=>
     let#[k2,n]:=q;rw[ad4,adZ,adZ,g];by_cases h2:k2=k
     .subst h2;simp[f]
     .simp[h2]
  .simp only[c,decide_false,an0];by_cases l:(r.any λp=>decide (p.1=i))=true
   .rw[if_pos l]at a⊢;rw[ad4,if_neg c,adZ,adZ];by_cases e:k=j
    .subst e;simp[c]
    .simp only[e,decide_false];show a
   .rw[if_neg l]at a⊢;rw[aoY,adZ,adZ];by_cases e:k=j
    .subst e;simp[c]
    .simp only[e,decide_false];show a
theorem yZ{m:List (Int×α)}{i j:Int}:Μ (bK m i) j=if j=i then none else Μ m j:=by
 unfold Μ bK;induction m with
 |nil=>simp
 |cons p r c=>
  let#[k,y]:=p;rw[alx];by_cases a:k=i
  .subst a;simp only[ne_eq,not_true,decide_false,ana,if_false,adZ];rw[c];by_cases e:j=k
   .subst e;simp
   .let f:¬k=j:=λz=>e z.symm
    simp[e,f]
  .simp only[ne_eq,a,not_false_eq_true,decide_true,if_true,adZ];by_cases e:k=j
   .subst e;simp[a]
   .simp only[e,decide_false];show c
theorem ajg{m:List (Int×α)}{i:Int}{x:α}(h:(m.map (·.1)).Nodup):((aF m i x).map (·.1)).Nodup:=by
 unfold aF;by_cases c:(m.any λp=>decide (p.1=i))=true
 .rw[if_pos c];have:(m.map λp=>if p.1=i then(p.1,x)else p).map (·.1)=m.map (·.1):=by
   rw[afC];show ajx λp _=>?_
   show(if p.1=i then(p.1,x)else p).1=p.1;split <;>rfl
  rw[this];show h
 .rw[if_neg c,anx];show anP.mpr #[h,by simp,λa h1 b h2 e=>c ?_];let f:b=i:=by simpa using h2
  subst e;subst f;let#[p,g,e]:=adw.mp h1;show aly.mpr #[p,g,decide_eq_true e]
theorem Y7{m:List (Int×α)}{i:Int}(h:(m.map (·.1)).Nodup):((bK m i).map (·.1)).Nodup:=h.sublist (List.Sublist.map _ aoy)
theorem Xm{m:List (Int×α)}{i:Int}{x:α}(h:Μ m i=some x):(i,x)∈m:=by
 unfold Μ at h;cases e:m.find? λp=>decide (p.1=i)with
 |none=>rw[e]at h;cases h
 |some p=>
  rw[e]at h;let h1:=List.find?_some e;let h2:=List.mem_of_find?_eq_some e;let#[k,y]:=p;let e1:k=i:=of_decide_eq_true h1;let a:y=x:=by simpa using h
  subst e1;subst a;show h2
theorem Em{m:List (Int×α)}{i:Int}:Μ m i=none↔i∉m.map (·.1):=by
 unfold Μ;rw[aoc,List.find?_eq_none];constructor
 .intro h c;let#[p,a,e]:=adw.mp c;show h p a (decide_eq_true e)
 .intro h p a e;show h (adw.mpr #[p,a,of_decide_eq_true e])
def Out(S:List δ)(H H':Hp):=∀b o,b∉S->H b=some o->H' b=some o
theorem Out.refl(S:List δ)(H:Hp):Out S H H:=λ_ _ _ h=>h
theorem Out.trans{S:List δ}{H H1 H2:Hp}(a:Out S H H1)(b:Out S H1 H2):Out S H H2:=λc o e h=>b c o e (a c o e h)
theorem Out.of{S:List δ}{H H':Hp}(h:ζ H H'):Out S H H':=λb o _ e=>h b o e
theorem Out.upd{S:List δ}{H:Hp}{a:δ}{o:HO}(h:a∈S):Out S H (upd H a o):=λb u c e=>by
 rw[ο (λz=>c (by rw[z];show h))];show e
theorem Out.mono{S T:List δ}{H H':Hp}(h:Out S H H')(s:∀x∈S,x∈T):Out T H H':=λb o a e=>h b o (λz=>a (s b z)) e
def TupAt(H:Hp)(v:V)(xs:List V):=∃t,v=.ref t/\H t=some (.tup xs)
def mZ(H:Hp)(v:V):Option (List V)->Prop
 |none=>v=.non
 |some xs=>TupAt H v xs
structure vf where
 at_:Int
 row:Int
 was:Option (List V)
 is:Option (List V)
def oX(H:Hp)(v:V)(d:vf):=∃t w u,v=.ref t/\H t=some (.tup [.int d.at_,.int d.row,w,u])/\mZ H w d.was/\mZ H u d.is
structure Bk where
 heads:List ξ
 rows:List (Int×List V)
 touched:List (Int×Int)
 done:List vf
 known:Int
 now:Int
structure BA where
 b:δ
 dx:δ
 h:δ
 r:δ
 t:δ
 d:δ
def WX(v:V)(i:Int):Prop:=v=.int i
structure Κ(C:δ)(H:Hp)(A:BA)(B:Bk):Prop where
 ins:H A.b=some (.ins C A.dx [("heads",.ref A.h),("rows",.ref A.r),("touched",.ref A.t),("done",.ref A.d),("known",.int B.known),("now",.int B.now)])
 own:H A.dx=some (.own A.b)
 heads:ϟ H A.h B.heads
 rows:DictAt (TupAt H) H A.r B.rows
 touched:DictAt WX H A.t B.touched
 done:∃xs,H A.d=some (.lst xs)/\ς (oX H) xs B.done
 rt:A.r≠A.t
 hd:A.h≠A.d
def BA.fp(A:BA):List δ:=[A.b,A.r,A.t,A.d]
theorem TupAt.stay{H H':Hp}{v:V}{xs:List V}(h:TupAt H v xs)(s:∀b ys,H b=some (.tup ys)->H' b=some (.tup ys)):TupAt H' v xs:=by
 let#[t,e,h]:=h;show#[t,e,s _ _ h]
theorem mZ.stay{H H':Hp}{v:V}{o:Option (List V)}(h:mZ H v o)(s:∀b ys,H b=some (.tup ys)->H' b=some (.tup ys)):mZ H' v o:=by
 cases o with
 |none=>show h
 |some xs=>show TupAt.stay h s
theorem oX.stay{H H':Hp}{v:V}{d:vf}(h:oX H v d)(s:∀b ys,H b=some (.tup ys)->H' b=some (.tup ys)):oX H' v d:=by
 let#[t,w,u,e,h1,h2,a]:=h;show#[t,w,u,e,s _ _ h1,h2.stay s,a.stay s]
theorem ϟ.stay{H H':Hp}{a:δ}{cs:List ξ}(h:ϟ H a cs)(h1:∀xs,H a=some (.lst xs)->H' a=some (.lst xs))(s:∀b ys,H b=some (.tup ys)->H' b=some (.tup ys)):ϟ H' a cs:=by
 let#[vs,e,h2]:=h;show#[vs,h1 _ e,ς.imp (λv c ⟨t,e,h⟩=>#[t,e,s _ _ h]) h2]
theorem Κ.stay{C:δ}{H H':Hp}{A:BA}{B:Bk}(k:Κ C H A B)(s:∀b ys,H b=some (.tup ys)->H' b=some (.tup ys))(f:∀x o,x∈[A.b,A.dx,A.h,A.r,A.t,A.d]->H x=some o->H' x=some o):Κ C H' A B where
 ins:=f _ _ (by simp) k.ins
 own:=f _ _ (by simp) k.own
 heads:=k.heads.stay (λxs e=>f _ _ (by simp) e) s
 rows:=by
  let#[Ϸ,e,h]:=k.rows;show#[Ϸ,f _ _ (by simp) e,il h λv x h=>h.stay s]
 touched:=by
  let#[Ϸ,e,h]:=k.touched;show#[Ϸ,f _ _ (by simp) e,h]
 done:=by
  let#[xs,e,h]:=k.done;show#[xs,f _ _ (by simp) e,ς.imp (λv d h=>h.stay s) h]
 rt:=k.rt
 hd:=k.hd
theorem Κ.same{C:δ}{H H':Hp}{A:BA}{B:Bk}(k:Κ C H A B)(s:ζ H H'):Κ C H' A B:=k.stay (λ_ _ e=>s _ _ e) λ_ _ _ e=>s _ _ e
section
variable{C:δ}{H H':Hp}{A:BA}{B:Bk}
theorem Κ.xT(k:Κ C H A B){b:δ}(c:b∈A.fp):(∃fs,H b=some (.ins C A.dx fs))\/(∃Ϸ,H b=some (.dK Ϸ))\/∃xs,H b=some (.lst xs):=by
 let a:b=A.b\/b=A.r\/b=A.t\/b=A.d:=by simpa [BA.fp]using c
 obtain rfl|rfl|rfl|rfl:=a
 .show .inl #[_,k.ins]
 .let#[Ϸ,e,_]:=k.rows;show .inr (.inl #[_,e])
 .let#[Ϸ,e,_]:=k.touched;show .inr (.inl #[_,e])
 .let#[xs,e,_]:=k.done;show .inr (.inr #[_,e])
theorem Κ.tup(k:Κ C H A B)(o:Out A.fp H H'):∀b ys,H b=some (.tup ys)->H' b=some (.tup ys):=λb ys e=>o b _ (λa=>by
 obtain⟨fs,z⟩|⟨Ϸ,z⟩|⟨xs,z⟩:=k.xT a<;>rw[e]at z<;>cases z) e
theorem Κ.ne(k:Κ C H A B):A.b≠A.dx/\A.b≠A.h/\A.b≠A.r/\A.b≠A.t/\A.b≠A.d/\A.r≠A.dx/\A.r≠A.h/\A.r≠A.d/\A.t≠A.dx/\A.t≠A.h/\A.t≠A.d/\A.d≠A.dx:=by
 let h1:=k.ins;let h2:=k.own;let#[_,g,_]:=k.heads;let#[_,a,_]:=k.rows;let#[_,c,_]:=k.touched;let#[_,f,_]:=k.done;show#[?_,?_,?_,?_,?_,?_,?_,?_,?_,?_,?_,?_]<;>intro e
 .rw[e,h2]at h1;cases h1
 .rw[e,g]at h1;cases h1
 .rw[e,a]at h1;cases h1
 .rw[e,c]at h1;cases h1
 .rw[e,f]at h1;cases h1
 .rw[e,h2]at a;cases a
 .rw[e,g]at a;cases a
 .rw[e,f]at a;cases a
 .rw[e,h2]at c;cases c
 .rw[e,g]at c;cases c
 .rw[e,f]at c;cases c
 .rw[e,h2]at f;cases f
theorem Κ.EY(k:Κ C H A B)(kn nw:Int):Κ C (upd H A.b (.ins C A.dx [("heads",.ref A.h),("rows",.ref A.r),("touched",.ref A.t),("done",.ref A.d),("known",.int kn),("now",.int nw)])) A {B with known:=kn,now:=nw}:=by
 let#[n1,n2,a,c,f,_]:=k.ne;let st:∀b ys,H b=some (.tup ys)->(upd H A.b (.ins C A.dx [("heads",.ref A.h),("rows",.ref A.r),("touched",.ref A.t),("done",.ref A.d),("known",.int kn),("now",.int nw)])) b=some (.tup ys):=k.tup (Out.upd (by simp[BA.fp]));show#[υ,?_,k.heads.stay (λxs e=>?_) st,?_,?_,?_,k.rt,k.hd]
 .rw[ο (Ne.symm n1)];show k.own
 .rw[ο (Ne.symm n2)];show e
 .let#[Ϸ,e,h]:=k.rows;show#[Ϸ,by rw[ο (Ne.symm a)];show e,il h λv x h=>h.stay st]
 .let#[Ϸ,e,h]:=k.touched;show#[Ϸ,by rw[ο (Ne.symm c)];show e,h]
 .let#[xs,e,h]:=k.done;show#[xs,by rw[ο (Ne.symm f)];show e,ς.imp (λv d h=>h.stay st) h]
theorem Κ.tH{Ϸ:List (Key×V)}{m:List (Int×List V)}(k:Κ C H A B)(h:ς (PR (TupAt H)) Ϸ m):Κ C (upd H A.r (.dK Ϸ)) A {B with rows:=m}:=by
 let#[n1,n2,a,i,j,c,f,g,_]:=k.ne;let st:∀b ys,H b=some (.tup ys)->(upd H A.r (.dK Ϸ)) b=some (.tup ys):=k.tup (Out.upd (by simp[BA.fp]));show#[?_,?_,k.heads.stay (λxs e=>?_) st,#[Ϸ,υ,il h λv x h=>h.stay st],?_,?_,k.rt,k.hd]
 .rw[ο a];show k.ins
 .rw[ο (Ne.symm c)];show k.own
 .rw[ο (Ne.symm f)];show e
 .let#[Ϸ,e,h]:=k.touched;show#[Ϸ,by rw[ο (Ne.symm k.rt)];show e,h]
 .let#[xs,e,h]:=k.done;show#[xs,by rw[ο (Ne.symm g)];show e,ς.imp (λv d h=>h.stay st) h]
theorem Κ.Tf{Ϸ:List (Key×V)}{m:List (Int×Int)}(k:Κ C H A B)(h:ς (PR WX) Ϸ m):Κ C (upd H A.t (.dK Ϸ)) A {B with touched:=m}:=by
 let#[n1,n2,i,c,j,l,n,o,f,a,g,_]:=k.ne;let st:∀b ys,H b=some (.tup ys)->(upd H A.t (.dK Ϸ)) b=some (.tup ys):=k.tup (Out.upd (by simp[BA.fp]));show#[?_,?_,k.heads.stay (λxs e=>?_) st,?_,#[Ϸ,υ,h],?_,k.rt,k.hd]
 .rw[ο c];show k.ins
 .rw[ο (Ne.symm f)];show k.own
 .rw[ο (Ne.symm a)];show e
 .let#[Ϸ,e,h]:=k.rows;show#[Ϸ,by rw[ο k.rt];show e,il h λv x h=>h.stay st]
 .let#[xs,e,h]:=k.done;show#[xs,by rw[ο (Ne.symm g)];show e,ς.imp (λv d h=>h.stay st) h]
theorem Κ.XN{xs:List V}{ds:List vf}(k:Κ C H A B)(h:ς (oX H) xs ds):Κ C (upd H A.d (.lst xs)) A {B with done:=ds}:=by
 let#[n1,n2,j,l,c,m,n,f,o,g,i,a]:=k.ne;let st:∀b ys,H b=some (.tup ys)->(upd H A.d (.lst xs)) b=some (.tup ys):=k.tup (Out.upd (by simp[BA.fp]));show#[?_,?_,k.heads.stay (λxs e=>?_) st,?_,?_,#[xs,υ,ς.imp (λv d h=>h.stay st) h],k.rt,k.hd]
 .rw[ο c];show k.ins
 .rw[ο (Ne.symm a)];show k.own
 .rw[ο k.hd];show e
 .let#[Ϸ,e,h]:=k.rows;show#[Ϸ,by rw[ο f];show e,il h λv x h=>h.stay st]
 .let#[Ϸ,e,h]:=k.touched;show#[Ϸ,by rw[ο i];show e,h]
end
end
end _V
namespace _L
open PySem PySem.Spec PyProof.Rows PySem.W
section
variable{prog:Ϯ}{w:Ϭ}{A:ϳ}{E:ε->μ->Prop}{s:μ}
variable{I:δ}{fp wr:List δ}{G:Array GenState->Array GenState->Prop}{n:Nat}{P:Nat->ε->Prop}{St:Nat->μ->Prop}
end
section
variable{X:Cx}{σ:St}{H:Hp}{Q:VK}{a:Ϩ}{p pos p' pos':Pos}
end
section
variable{X:Cx}{σ:St}{H:Hp}{Q:VK}{D:Ends}{o e f:Ϩ}{apos cpos pos:Pos}
theorem agQ{tg:Ϩ}{body:List ϧ}(j:akX (Ϧ X.prog X.w) X.A X.env X.xe)(l:X.calm=true)(hs:∀x,foldedSetIterable e X.env x=pure x)(h:EV X e σ H λv H1=>∃q xs,v=.ref q/\ρ X.K H1 q xs/\∃a:Nat->St->Hp->Prop,a 0 σ H1/\(∀i σ' H',i<=xs.length->a i σ' H'->ρ X.K H' q xs)/\
   (∀i x σ' H',xs[i]?=some x->a i σ' H'->EG X tg x σ' H' λc H2=>Ο X body {D with nx:=a (i+1),ct:=a (i+1),bk:=D.nx} c H2)/\∀σ' H',a xs.length σ' H'->D.nx σ' H'):SX X (.For tg e body [] pos) D σ H:=by
 show lC j l hs (Z2 (aG h λv H1 q=>?_));let#[q,xs,rfl,m,a,n,o,f,hd]:=q;show#[q,rfl,#[xs,m],adW (g:=EG X tg) (tb:=Ο X body) a n o f hd]
end
section
variable{X:Cx}{ϵ:List (δ×Obj)}{σ:St}{H:Hp}{s:μ}{d:δ}
end
section
variable{X:Cx}{σ:St}{H:Hp}{a e:Ϩ}{tg:Ϩ}{pos:Pos}{R:It->Hp->Prop}{D:Ends}
end
section
variable{X:Cx}{H:Hp}{Q:VK}{e C:δ}{D:Option δ}{k:Bool}
end
section
variable{X:Cx}{σ σ':St}{H:Hp}{Q:VK}{a b tg elt:Ϩ}{scope:ahU}{p p' pos:Pos}
end
section
variable{X:Cx}{H:Hp}{Q:VK}
end
section
variable{X:Cx}{H:Hp}{Q:VK}
variable{σ:St}{a b tg:Ϩ}{p p' pos:Pos}{D:Ends}
end
section
variable{X:Cx}{σ:St}{H:Hp}{Q:VK}{pos:Pos}
end
end _L
namespace _L
open PySem PySem.Spec PyProof.Rows
section
variable{prog:Ϯ}{w:Ϭ}{A:ϳ}{E:ε->μ->Prop}{s:μ}{env:Env}
end
section
variable{prog:Ϯ}{w:Ϭ}{A:ϳ}{E:ε->μ->Prop}{s:μ}{env:Env}
variable{nm q:Str}{C N:δ}{bs bm:List ε}{hdct:Bool}{sn:List Str}{sub:List ε}{ab:Bool}{col:Option Bool}{dd:Option δ}{k0 k1 k2 k3 k5:Option ε}
end
section
variable{X:Cx}{Kx:St->XK}{D:Ends}{σ:St}{H:Hp}{rest:List alD}{pos np ynp cpos rpos p0:Pos}{x y fld:Str}{cls c:ε}{d:Option δ×Bool}{a:Ϩ}{as:List Ϩ}{cc:Bool}{k k' j0:Nat}
end
end _L
namespace _L
open PySem PySem.Spec PyProof.Rows PySem.Builtin PySem.Builtin.Str
def uq(p:Nat->Bool):Nat->Option Nat
 |0=>none
 |n+1=>if p n=true then some n else uq p n
theorem T8(p:Nat->Bool):∀n,(aeZ n).foldl (λa i=>if p i=true then some i else a) none=uq p n
 |0=>rfl
 |n+1=>by
  rw[apa,aoK,T8 p n];rfl
theorem Rg(p:Nat->Prop)[DecidablePred p]:∀(l:List Nat)(b:Option Nat),(forIn (m:=Id) l b λi s=>if p i then pure (ForInStep.yield (some i))else pure (ForInStep.yield s)).run=l.foldl (λc i=>if p i then some i else c) b
 |[],b=>rfl
 |a::l,b=>by
  rw[amn,akW, <-Rg p l];by_cases h:p a
  .simp only[if_pos h];rfl
  .simp only[if_neg h];rfl
theorem Mf(x y:Str):lastOccurrence x y 0 x.length=uq (λi=>decide (i+y.length<=x.length)&&subAt x y i) (x.length+1):=by
 unfold lastOccurrence;rw[<-T8];simp[List.range_eq_range'];show Rg (λi=>i+y.length<=x.length/\subAt x y i=true) _ none
theorem UJ{p:Nat->Bool}:∀{n:Nat},(∀i,i<n->p i=false)->uq p n=none
 |0,_=>rfl
 |n+1,h=>by
  show(if p n=true then _ else _)=_;rw[if_neg (by rw[h n ()];decide)];show UJ λi hi=>h i ()
theorem S5{p:Nat->Bool}{k:Nat}:∀{n:Nat},k<n->p k=true->(∀i,k<i->i<n->p i=false)->uq p n=some k
 |n+1,c,a,h=>by
  show(if p n=true then _ else _)=_;by_cases e:k=n
  .subst e;rw[if_pos a]
  .rw[if_neg (by rw[h n () ()];decide)];show S5 () a λi h1 h2=>h i h1 ()
theorem DN(x:Str)(c i:Nat):(decide (i+(#[#v[c]]:Str).length<=x.length)&&subAt x #[#v[c]] i)=decide (x.cps.toList[i]?=some c):=by
 rw[ahR,aa2,decide_eq_true_iff,decide_eq_true_iff];show StrLaws.subAt_one x c i
theorem UW{z:Str}{c:Nat}{b w:List Nat}(h:z.cps.toList=b++c::w)(g:c∉w):Txt.rpartition z #[#v[c]]=(#[b.toArray],#[#v[c]],#[w.toArray]):=by
 let a:z.length=b.length+1+w.length:=by
  have:z.cps.toList.length=z.length:=rfl;rw[<-this,h,abK,acV];omega
 let m:lastOccurrence z #[#v[c]] 0 z.length=some b.length:=by
  rw[Mf];show S5 () ?_ λi h1 h2=>?_
  .rw[DN,h,decide_eq_true_iff,amM (ϭ _),apt];rfl
  .rw[DN,h,decide_eq_false_iff_not,amM ()];intro e;obtain⟨j,n⟩:∃j,i-b.length=j+1:=#[i-b.length-1,()];rw[n,List.getElem?_cons_succ]at e;show g (aaM e)
 let f:z=#[(b++c::w).toArray]:=by
  let#[#[l]]:=z;have:l=b++c::w:=h;rw[this]
 let e1:strSub z 0 b.length=#[b.toArray]:=by
  unfold strSub;rw[f];simp
 let o:strSub z (b.length+(#[#v[c]]:Str).length) z.length=#[w.toArray]:=by
  let p:(#[#v[c]]:Str).length=1:=rfl;rw[p,a];unfold strSub;rw[f];simp[List.extract_eq_take_drop,List.drop_append];rw[alJ (),aoo,am0]
 let un:Txt.rpartition z #[#v[c]]=(match lastOccurrence z #[#v[c]] 0 z.length with
  |some i=>(strSub z 0 i,#[#v[c]],strSub z (i+(#[#v[c]]:Str).length) z.length)
  |none=>(akO,akO,z)):=rfl
 rw[un,m];show(strSub z 0 b.length,_,strSub z (b.length+(#[#v[c]]:Str).length) z.length)=_;rw[e1,o]
theorem abj{z:Str}{c:Nat}(h:c∉z.cps.toList):Txt.rpartition z #[#v[c]]=(akO,akO,z):=by
 let a:lastOccurrence z #[#v[c]] 0 z.length=none:=by
  rw[Mf];show UJ λi hi=>?_
  rw[DN,decide_eq_false_iff_not];show λe=>h (aaM e)
 unfold Txt.rpartition;rw[a]
section
variable{X:Cx}{H:Hp}{Q:VK}{z:Str}
theorem Um{c:Nat}(f:z.length<=100000)(g:∀p,H p=none->Q (.ref p) (upd H p (.tup [.str (Txt.rpartition z #[#v[c]]).1,.str (Txt.rpartition z #[#v[c]]).2.1,.str (Txt.rpartition z #[#v[c]]).2.2]))):MT X "str.rpartition" (.str z) [.str #[#v[c]]] H Q:=by
 show iW (r:=λx xs H Q=>∃z c,x=.str z/\xs=[.str #[#v[c]]]/\z.length<=100000/\∀p,H p=none->Q (.ref p) (upd H p (.tup [.str (Txt.rpartition z #[#v[c]]).1,.str (Txt.rpartition z #[#v[c]]).2.1,.str (Txt.rpartition z #[#v[c]]).2.2]))) ?_ #[z,c,rfl,rfl,f,g];intro ϵ s σ H x xs v us Q I rx rs h;let#[z,c,rfl,rfl,f,g]:=h;let#[t,rfl]:=rx;let#[u,rfl,j]:=vals1 rs;let#[t',rfl]:=j;let hsz:=ϱ;let fin:∀(a b e:Str)(ta tb tc:Tok)(tk:Nat),a=(Txt.rpartition z #[#v[c]]).1->b=(Txt.rpartition z #[#v[c]]).2.1->e=(Txt.rpartition z #[#v[c]]).2.2->EP X ϵ σ Q (.ref s.heap.objs.size) {s with toks:=tk,heap:=s.heap.push {cls:=.type "tuple",data:=.seq [Value.str a ta,.str b tb,.str e tc].toArray}}:=λa b e ta tb tc tk l m n=>by
  subst l m n;show#[.ref s.heap.objs.size,_,I.laid (t':=tk) (o:=.tup [.str (Txt.rpartition z #[#v[c]]).1,.str (Txt.rpartition z #[#v[c]]).2.1,.str (Txt.rpartition z #[#v[c]]).2.2]) (λb o q=>ϴ _ q) (ϭ _) ?_,rfl,g _ (I.hok.fresh (ϭ _))];show#[Ζ,_,.cons #[ta,rfl] (.cons #[tb,rfl] (.cons #[tc,rfl] .nil)),IsTup.new _ _]
 show am4 F.slot_str_rpartition (am3 _ _ _) F.entry_str_rpartition (F.args_str_rpartition_2 _ _) (meets_str_rpartition z #[#v[c]] t t' rfl ()) ?_;let h':=fin;unfold Txt.rpartition at h';revert h';cases lastOccurrence z #[#v[c]] 0 z.length with
 |none=>intro h';show h' _ _ _ _ _ _ _ rfl rfl rfl
 |some i=>intro h';show h' _ _ _ _ _ _ _ rfl rfl rfl
end
end _L
namespace _L
open PySem PySem.Spec PyProof.Rows
section
variable{X:Cx}{e c:Ϩ}{σ σ':St}{H:Hp}{Q:VK}{D:Ends}{pos spos py:Pos}{tg elt:Ϩ}{scope:ahU}{y:Str}{j:Nat}
end
section
variable{X:Cx}{e c:Ϩ}{es:List Ϩ}{σ σ':St}{H:Hp}{Q:VK}{D:Ends}{p pos spos py:Pos}{tg elt:Ϩ}{scope:ahU}{y:Str}{j:Nat}
end
section
variable{X:Cx}{Kx:St->XK}{D:Ends}{σ:St}{H:Hp}{rest:List alD}{pos ynp cpos rpos p0 p1 p2 p3 tpos zp:Pos}{x1 x2 x3 y z:Str}{cls c1 c2 c3:ε}{d:Option δ×Bool}{kk j0 j1:Nat}{name:Option Str}{body:List ϧ}
end
section
variable{X:Cx}{a e:Ϩ}{σ σ':St}{H:Hp}{Q:VK}{D:Ends}{pos spos py p p':Pos}{tg elt iter:Ϩ}{scope:ahU}{Kx:St->XK}{y:Str}{j:Nat}
end
section
variable{X:Cx}{Kx:St->XK}{D:Ends}{σ:St}{H:Hp}{cls:ε}{d:Option δ×Bool}
end
section
variable{X:Cx}{H:Hp}{Q:VK}{z:Str}
end
end _L
namespace _L
open PySem PySem.Spec PyProof.Rows PySem.W
section
variable{X:Cx}{ϵ:List (δ×Obj)}{σ:St}{H:Hp}{s:μ}{d:δ}
end
section
variable{X:Cx}{σ:St}{H:Hp}{a e:Ϩ}{tg:Ϩ}{pos:Pos}{R:It->Hp->Prop}{D:Ends}
end
def pw{α:Type}(lt:Nat->Nat->Bool)(n:Nat):KasT α->(α->Prop)->Prop
 |.ret a,Q=>Q a
 |.ask i j k,Q=>i<n/\j<n/\pw lt n (k (lt i j)) Q
theorem p7{α β:Type}{lt:Nat->Nat->Bool}{n:Nat}{f:α->KasT β}{Q:β->Prop}:∀(t:KasT α),pw lt n t (λa=>pw lt n (f a) Q)->pw lt n (t.bind f) Q
 |.ret a,h=>h
 |.ask i j k,h=>#[h.1,h.2.1,p7 (k (lt i j)) h.2.2]
theorem gR{α:Type}{lt:Nat->Nat->Bool}{n:Nat}{Q c:α->Prop}(e:∀a,Q a->c a):∀(t:KasT α),pw lt n t Q->pw lt n t c
 |.ret a,h=>e a h
 |.ask i j k,h=>#[h.1,h.2.1,gR e (k (lt i j)) h.2.2]
theorem Hw{α:Type}{lt:Nat->Nat->Bool}{n:Nat}{c:Nat->Nat->(Bool->μ->Prop)->μ->Prop}{I:μ->Prop}{G:α->μ->Prop}(f:∀i j C s,i<n->j<n->I s->(∀s',I s'->C (lt i j) s')->c i j C s):∀(t:KasT α)(s:μ),I s->pw lt n t (λa=>∀s,I s->G a s)->t.kasWp c G s
 |.ret a,s,hs,h=>h s hs
 |.ask i j k,s,hs,h=>f i j _ s h.1 h.2.1 hs λs' e=>Hw f (k (lt i j)) s' e h.2.2
structure aN(lt:Nat->Nat->Bool):Prop where
 ir:∀i,lt i i=false
 tr:∀i j k,lt i j=true->lt j k=true->lt i k=true
 nt:∀i j k,lt i k=true->lt i j=true\/lt j k=true
section
variable{lt:Nat->Nat->Bool}{n:Nat}(W:aN lt)
theorem aN.as(W:aN lt){i j:Nat}(h:lt i j=true):lt j i=false:=by
 rw[aiP];intro h2;have:=W.tr i j i h h2;rw[W.ir]at this;cases this
def Rk(lt:Nat->Nat->Bool)(i j:Nat):Prop:=lt i j=true\/(lt j i=false/\i<j)
theorem aN.oh(W:aN lt){a b c:Nat}(h:lt a b=true)(h2:lt c b=false):lt a c=true:=by
 obtain h|h:=W.nt a c b h
 .show h
 .rw[h2]at h;cases h
theorem aN.WY(W:aN lt){a b c:Nat}(h:lt b c=true)(h2:lt b a=false):lt a c=true:=by
 obtain h|h:=W.nt b a c h
 .rw[h2]at h;cases h
 .show h
theorem aN.ZF(W:aN lt){i j k:Nat}(h:Rk lt i j)(h2:Rk lt j k):Rk lt i k:=by
 obtain h|⟨h,h'⟩:=h
 .obtain h2|⟨h2,a⟩:=h2
  .show .inl (W.tr _ _ _ h h2)
  .show .inl (W.oh h h2)
 .obtain h2|⟨h2,a⟩:=h2
  .show .inl (W.WY h2 h)
  .show .inr #[?_,()];rw[aiP];intro c;obtain h4|h4:=W.nt k j i c
   .rw[h2]at h4;cases h4
   .rw[h]at h4;cases h4
abbrev gt(p:Array Nat)(k:Nat):Nat:=p.getD k 0
theorem xf{p:Array Nat}{k v:Nat}(h:p[k]?=some v):gt p k=v:=by
 let#[a,e]:=aj5.mp h;show p.getD k 0=v;simp[aph,a,e]
theorem rY{p:Array Nat}{k:Nat}(h:k<p.size):p[k]?=some (gt p k):=by
 show p[k]?=some (p.getD k 0);simp[aph,h]
theorem fZ{p:Array Nat}{i j k:Nat}(a:j<=p.size)(c:k<p.size:=by omega):gt (kas_rev p i j) k=if i<=k/\k<j then gt p (i+j-1-k)else gt p k:=by
 apply xf;unfold kas_rev;rw[getElem?_mirror_all a];by_cases h:i<=k/\k<j
 .rw[if_pos h,if_pos h];show rY ()
 .rw[if_neg h,if_neg h];show rY c
theorem ac1{p:Array Nat}{i j:Nat}:(kas_rev p i j).size=p.size:=mirror_size _ _ _ _
theorem afn{p:Array Nat}{k d j:Nat}(a:k<p.size)(hd:d<=k)(c:j<p.size):gt (bubble p k d) j=if j=k-d then gt p k else if k-d<j/\j<=k then gt p (j-1)else gt p j:=by
 apply xf;rw[getElem?_bubble a d hd];by_cases h1:j=k-d
 .rw[if_pos h1,if_pos h1];show rY a
 .rw[if_neg h1,if_neg h1];by_cases h2:k-d<j/\j<=k
  .rw[if_pos h2,if_pos h2];show rY ()
  .rw[if_neg h2,if_neg h2];show rY c
structure Pl(n:Nat)(p:Array Nat)(m:Nat):Prop where
 size:p.size=n
 low:∀i,i<m->gt p i<m
 tail:∀k,m<=k->k<n->gt p k=k
 pm:p.toList.Perm (aeZ n)
theorem Pl.all{p:Array Nat}{m:Nat}(h:Pl n p m)(a:m<=n){i:Nat}(hi:i<n):gt p i<n:=by
 by_cases h1:i<m
 .have :=h.low i h1;omega
 .rw[h.tail i () hi];show hi
theorem Pl.up{p:Array Nat}{m:Nat}(h:Pl n p m)(a:m<n):Pl n p (m+1):=by
 show#[h.size,λi hi=>?_,λk h1 h2=>h.tail k () h2,h.pm];by_cases h1:i<m
 .have :=h.low i h1;omega
 .let e:i=m:=()
  subst e;rw[h.tail i (ϭ _) a];omega
theorem Pl.rev{p:Array Nat}{m i j:Nat}(h:Pl n p m)(c:m<=n)(e:j<=m):Pl n (kas_rev p i j) m:=by
 let hs:=h.size;show#[by rw[ac1];show hs,λk a=>?_,λk h1 h2=>?_,(anB.mp (mirror_perm p i j ((j-i) / 2))).trans h.pm]
 .rw[fZ ()];split
  .show h.low _ ()
  .show h.low _ a
 .rw[fZ (),if_neg ()];show h.tail k h1 h2
def fL(lt:Nat->Nat->Bool)(p:Array Nat)(m:Nat):=∀i j,i<j->j<m->Rk lt (gt p i) (gt p j)
def iH(lt:Nat->Nat->Bool)(p:Array Nat)(m:Nat):=∀i j,i<j->j<m->Rk lt (gt p j) (gt p i)
theorem iH.rev{p:Array Nat}{m:Nat}(h:iH lt p m)(a:m<=p.size):fL lt (kas_rev p 0 m) m:=by
 intro i j c e;rw[fZ a,fZ a,if_pos (),if_pos ()];show h _ _ () ()
theorem Eg(W:aN lt){p:Array Nat}:∀(f m:Nat),1<=m->m+f<=n->Pl n p m->fL lt p m->pw lt n (kas_asc p f m) λm'=>m<=m'/\m'<=m+f/\Pl n p m'/\fL lt p m'/\(m'<m+f->lt (gt p m') (gt p (m'-1))=true)
 |0,m,h1,o,a,c=>#[ϭ _,ϭ _,a,c,λh=>absurd h ()]
 |f+1,m,h1,o,a,c=>by
  show#[a.all () (),a.all () (),?_];cases e:lt (gt p m) (gt p (m-1))with
  |true=>
   show pw lt n (if true=true then _ else _) _;rw[if_pos rfl];show#[ϭ _,(),a,c,λ_=>e]
  |false=>
   show pw lt n (if false=true then _ else _) _;rw[if_neg (by decide)];let l:Rk lt (gt p (m-1)) (gt p m):=.inr #[e,by rw[a.tail m (ϭ _) ()];show a.low _ ()];show gR (λm' h=>#[(),(),h.2.2.1,h.2.2.2.1,λh2=>h.2.2.2.2 ()]) _ (Eg W f (m+1) () () (a.up ()) λi j g v=>?_);by_cases q:j<m
   .show c i j g q
   .let s:j=m:=()
    subst s;by_cases u:i=j-1
    .rw[u];show l
    .show W.ZF (c i (j-1) () ()) l
structure Dn(lt:Nat->Nat->Bool)(p:Array Nat)(m q:Nat):Prop where
 few:q+1<=m
 ahead:∀i j,i<j->j<m-(q+1)->Rk lt (gt p j) (gt p i)
 drop:∀i j,i<m-(q+1)->m-(q+1)<=j->j<m->lt (gt p j) (gt p i)=true
 aJ:∀i j,m-(q+1)<=i->i<j->j<m->lt (gt p i) (gt p j)=false/\lt (gt p j) (gt p i)=false/\gt p i<gt p j
theorem Dn.done{p:Array Nat}{m q:Nat}(h:Dn lt p m q)(e:m<=p.size):iH lt (if q>0 then kas_rev p (m-(q+1)) m else p) m:=by
 let h1:=h.few;by_cases f:q>0
 .rw[if_pos f];intro i j a g;rw[fZ e,fZ e];by_cases hi:m-(q+1)<=i
  .rw[if_pos (),if_pos ()];have:=h.aJ (m-(q+1)+m-1-j) (m-(q+1)+m-1-i) () () ();show .inr #[this.2.1,this.2.2]
  .rw[if_neg (show ¬(m-(q+1)<=i/\i<m)by omega)];by_cases c:m-(q+1)<=j
   .rw[if_pos ()];show .inl (h.drop _ _ () () ())
   .rw[if_neg ()];show h.ahead i j a ()
 .rw[if_neg f];intro i j a g;by_cases c:m-(q+1)<=j
  .show .inl (h.drop _ _ () c g)
  .show h.ahead i j a ()
theorem iH.next(W:aN lt){p:Array Nat}{m:Nat}(h:iH lt p m)(h1:1<=m)(g:∀i,i<m->lt (gt p m) (gt p i)=true):Dn lt p (m+1) 0:=by
 show#[(),λi j f l=>h i j f (),λi j hi l n=>?_,λi j a b c=>absurd b ()];let e:j=m:=()
 subst e;show g i ()
theorem iH.low(W:aN lt){p:Array Nat}{m x:Nat}(h:iH lt p m)(h1:1<=m)(a:lt x (gt p (m-1))=true):∀i,i<m->lt x (gt p i)=true:=by
 intro i hi;by_cases e:i=m-1
 .rw[e];show a
 .rcases h i (m-1) () ()with h2|⟨h2,_⟩
  .show W.tr _ _ _ a h2
  .show W.oh a h2
theorem wk(W:aN lt):∀(f:Nat)(p:Array Nat)(m q:Nat),m+f<=n->Pl n p m->Dn lt p m q->pw lt n (kas_desc f p m q) λr=>m<=r.2.1/\r.2.1<=m+f/\Pl n r.1 r.2.1/\Dn lt r.1 r.2.1 r.2.2
 |0,p,m,q,D,a,hd=>#[ϭ _,ϭ _,a,hd]
 |f+1,p,m,q,D,a,hd=>by
  let z:=hd.few;let hsz:=a.size;show#[a.all () (),a.all () (),?_];cases e:lt (gt p m) (gt p (m-1))with
  |true=>
   show pw lt n (if true=true then _ else _) _;rw[if_pos rfl];let l:=hd.done ();by_cases B:q>0
   .rw[if_pos B]at l⊢;let s:=a.rev (i:=m-(q+1)) (j:=m) () (ϭ _);let em:gt (kas_rev p (m-(q+1)) m) m=gt p m:=by rw[fZ (),if_neg ()]
    let E:gt (kas_rev p (m-(q+1)) m) (m-1)=gt p (m-(q+1)):=by
     rw[fZ (),if_pos ()]
     congr 1
     omega
    let F:lt (gt p m) (gt p (m-(q+1)))=true:=W.oh e (hd.aJ (m-(q+1)) (m-1) (ϭ _) () ()).1;show gR (λr h=>#[(),(),h.2.2]) _ (wk W f _ (m+1) 0 () (s.up ()) (l.next W () λi hi=>?_));rw[em];show l.low W () (by rw[E];show F) i hi
   .rw[if_neg B]at l⊢;show gR (λr h=>#[(),(),h.2.2]) _ (wk W f _ (m+1) 0 () (a.up ()) (l.next W () (l.low W () e)))
  |false=>
   show pw lt n (if false=true then _ else _) _;rw[if_neg (by decide)];show#[a.all () (),a.all () (),?_];cases e2:lt (gt p (m-1)) (gt p m)with
   |true=>
    show pw lt n (if true=true then _ else _) _;rw[if_pos rfl];show#[ϭ m,show m<=m+(f+1)by omega,a,hd]
   |false=>
    show pw lt n (if false=true then _ else _) _;rw[if_neg (by decide)];let u:=a.tail m (ϭ _) ();show gR (λr h=>#[(),(),h.2.2]) _ (wk W f p (m+1) (q+1) () (a.up ()) #[(),λi j g C=>hd.ahead i j g (),λi j hi C G=>?_,λi j hi g C=>?_])
    .by_cases v:j<m
     .show hd.drop i j () () v
     .let x:j=m:=()
      subst x;show W.WY (hd.drop i (j-1) () () ()) e2
    .by_cases v:j<m
     .show hd.aJ i j () g v
     .let x:j=m:=()
      subst x;let c:gt p i<gt p j:=by rw[u];show a.low i ()
      by_cases o:i=j-1
      .rw[o];rw[o]at c;show#[e2,e,c]
      .let h3:=hd.aJ i (j-1) () () ();show#[?_,?_,c]
       .rw[aiP];intro y;obtain h5|h5:=W.nt _ (gt p (j-1)) _ y
        .rw[h3.1]at h5;cases h5
        .rw[e2]at h5;cases h5
       .rw[aiP];intro y;obtain h5|h5:=W.nt _ (gt p (j-1)) _ y
        .rw[e]at h5;cases h5
        .rw[h3.2.1]at h5;cases h5
theorem Tc(W:aN lt){p:Array Nat}{m:Nat}(a:Pl n p m)(hd:iH lt p m)(h1:1<=m:=by omega)(c:m<=n:=by omega):pw lt n (kas_tail3 m n p) λr=>1<=r.1/\r.1<=n/\Pl n r.2 r.1/\fL lt r.2 r.1:=by
 let hsz:=a.size;show p7 _ (gR (λm' h=>#[by show 1<=m';omega,by show m'<=n;omega,h.2.2.1,h.2.2.2.1]) _ (Eg W (n-m) m h1 () (a.rev c (ϭ _)) (hd.rev ())))
theorem Qh(W:aN lt){p:Array Nat}{m:Nat}(h1:1<=m)(f:m<n)(g:Pl n p m)(hd:iH lt p m)(i:lt (gt p m) (gt p (m-1))=true):pw lt n (kas_descPart m n p) λr=>1<=r.1/\r.1<=n/\Pl n r.2 r.1/\fL lt r.2 r.1:=by
 show p7 _ (gR (λr h=>?_) _ (wk W (n-(m+1)) p (m+1) 0 () (g.up f) (hd.next W h1 (hd.low W h1 i))));let#[l,o,c,j]:=h;let hsz:=c.size;let a:=j.done ();show pw lt n (if r.2.2>0 then _ else _) _;by_cases e:r.2.2>0
 .rw[if_pos e]at a⊢;show Tc W (c.rev () (ϭ _)) a
 .rw[if_neg e]at a⊢;show Tc W c a
theorem ae5:Pl n (ae0 (aeZ n)) 1:=by
 let a:∀k,k<n->gt (ae0 (aeZ n)) k=k:=λk c=>xf (by simp[c])
 show#[by simp,λi hi=>?_,λk _ h2=>a k h2,by simp];by_cases h:i<n
 .rw[a i h];show hi
 .show(ae0 (aeZ n)).getD i 0<1;simp[aph,h]
theorem aed(W:aN lt)(h1:1<=n):pw lt n (kas_count n (ae0 (aeZ n))) λr=>1<=r.1/\r.1<=n/\Pl n r.2 r.1/\fL lt r.2 r.1:=by
 show p7 _ (gR (λm h=>?_) _ (Eg W (n-1) 1 (ϭ _) () ae5 λi j a b=>absurd a ()));let#[x,C,c,g,y]:=h;let hsz:=c.size;show pw lt n (if(m==n)=true then _ else _) _;by_cases l:m=n
 .rw[if_pos (by rw[beq_iff_eq];show l)];show#[by show 1<=m;omega,by show m<=n;omega,c,g]
 .rw[if_neg (by rw[beq_iff_eq];show l)];let f:=y ();by_cases o:m>1
  .rw[if_pos o];show#[c.all () (),c.all () (),?_];cases e:lt (gt (ae0 (aeZ n)) 0) (gt (ae0 (aeZ n)) (m-1))with
   |true=>
    show pw lt n (if true=true then _ else _) _;rw[if_pos rfl];show#[by show 1<=m;omega,by show m<=n;omega,c,g]
   |false=>
    show pw lt n (if false=true then _ else _) _;rw[if_neg (by decide)];generalize ae0 (aeZ n)=p at c g f e hsz⊢;let q:∀i,i<m->lt (gt p i) (gt p 0)=false:=λi hi=>by
     by_cases s:i=0
     .rw[s];show W.ir _
     .rcases g 0 i () hi with h|h
      .show W.as h
      .show h.1
    let u:∀j,j<m->lt (gt p (m-1)) (gt p j)=false:=λj v=>by
     by_cases s:j=m-1
     .rw[s];show W.ir _
     .rcases g j (m-1) () ()with h|h
      .show W.as h
      .show h.1
    let aJ:∀i j,i<m->j<m->lt (gt p i) (gt p j)=false:=λi j hi v=>by
     rw[aiP];intro h;obtain h2|h2:=W.nt _ (gt p 0) _ h
     .rw[q i hi]at h2;cases h2
     .obtain h3|h3:=W.nt _ (gt p (m-1)) _ h2
      .rw[e]at h3;cases h3
      .rw[u j v]at h3;cases h3
    let z:iH lt (kas_rev p 0 m) m:=λi j B v=>by
     rw[fZ (),fZ (),if_pos (),if_pos ()];show .inr #[aJ _ _ () (),?_];rcases g (0+m-1-j) (0+m-1-i) () ()with h|h
     .rw[aJ _ _ () ()]at h;cases h
     .show h.2
    show Qh W x () (c.rev () (ϭ _)) z ?_;rw[fZ (),fZ (),if_neg (),if_pos ()];show W.oh f (aJ _ _ () ())
  .rw[if_neg o];let em:m=1:=()
   subst em;show Qh W x () c (λi j a b=>absurd a ()) f
theorem Ar(W:aN lt){p:Array Nat}{k:Nat}(j:k<n)(c:Pl n p k)(g:fL lt p k):∀(f l r:Nat),r-l<=f->l<=r->r<=k->(∀i,i<l->lt (gt p k) (gt p i)=false)->(∀i,r<=i->i<k->lt (gt p k) (gt p i)=true)->
  pw lt n (kas_place p k f l r) λl'=>l'<=k/\(∀i,i<l'->lt (gt p k) (gt p i)=false)/\∀i,l'<=i->i<k->lt (gt p k) (gt p i)=true
 |0,l,r,u,m,o,h1,h2=>#[(),h1,λi a b=>h2 i () b]
 |f+1,l,r,u,m,o,h1,h2=>by
  show pw lt n (if l≥r then _ else _) _;by_cases h:l≥r
  .rw[if_pos h];show#[(),h1,λi a b=>h2 i () b]
  .rw[if_neg h];let q:(l+r) / 2<r/\l<=(l+r) / 2:=()
   show#[c.all () j,c.all () (),?_];cases e:lt (gt p k) (gt p ((l+r) / 2))with
   |true=>
    show pw lt n (if true=true then _ else _) _;rw[if_pos rfl];show Ar W j c g f l ((l+r) / 2) () () () h1 λi a b=>?_
    by_cases hi:i=(l+r) / 2
    .rw[hi];show e
    .rcases g ((l+r) / 2) i () b with h3|h3
     .show W.tr _ _ _ e h3
     .show W.oh e h3.1
   |false=>
    show pw lt n (if false=true then _ else _) _;rw[if_neg (by decide)];show Ar W j c g f ((l+r) / 2+1) r () () o (λi a=>?_) h2;by_cases hi:i=(l+r) / 2
    .rw[hi];show e
    .rw[aiP];intro s;rcases g i ((l+r) / 2) () ()with h3|h3
     .have :=W.tr _ _ _ s h3;rw[e]at this;cases this
     .have :=W.oh s h3.1;rw[e]at this;cases this
theorem Jh(W:aN lt):∀(f:Nat)(p:Array Nat)(k:Nat),k+f=n->Pl n p k->fL lt p k->pw lt n (kas_bin f p k) λp'=>Pl n p' n/\fL lt p' n
 |0,p,k,x,c,g=>by
  let e:k=n:=()
  subst e;show#[c,g]
 |f+1,p,k,x,c,g=>by
  let hsz:=c.size;show p7 _ (gR (λl h=>?_) _ (Ar W () c g k 0 k () () (ϭ _) (λi hi=>absurd hi ()) λi a b=>absurd a ()));let#[z,h1,h2]:=h;let o:∀j,j<n->gt (bubble p k (k-l)) j=if j=l then gt p k else if l<j/\j<=k then gt p (j-1)else gt p j:=λj y=>by
   rw[afn () () (),show k-(k-l)=l by omega]
  let u:=c.tail k (ϭ _) ();show Jh W f _ (k+1) () #[by rw[bubble_size];show hsz,λi hi=>?_,λi a b=>?_,(anB.mp (bubble_perm p k (k-l))).trans c.pm] λi j q y=>?_
  .rw[o i ()];split
   .rw[u];omega
   .split
    .have :=c.low (i-1) ();omega
    .have :=c.low i ();omega
  .rw[o i b,if_neg (),if_neg ()];show c.tail i () b
  .rw[o i (),o j ()];by_cases s:i<l
   .rw[if_neg (),if_neg ()];by_cases m:j=l
    .rw[if_pos m];show .inr #[h1 i s,by rw[u];show c.low i ()]
    .rw[if_neg m];split
     .show g i (j-1) () ()
     .show g i j q ()
   .by_cases v:i=l
    .rw[if_pos v,if_neg (),if_pos ()];show .inl (h2 (j-1) () ())
    .rw[if_neg v,if_pos (),if_neg (),if_pos ()];show g (i-1) (j-1) () ()
theorem aa0(W:aN lt)(h1:1<=n):pw lt n (kas_sort n) λp=>Pl n p n/\fL lt p n:=by
 show p7 _ (gR (λr h=>?_) _ (aed W h1));let#[f,g,a,c]:=h;show pw lt n (if r.1<n then _ else _) _;by_cases h:r.1<n
 .rw[if_pos h,show max r.1 1=r.1 by omega];show Jh W (n-r.1) r.2 r.1 () a c
 .rw[if_neg h];let e:r.1=n:=()
  rw[e]at a c;show#[a,c]
end
abbrev Cx.ϐ(X:Cx):Cx:={X with A:=X.A.in1.in1}
section
variable{X:Cx}{ϵ:List (δ×Obj)}{σ:St}{H:Hp}{s:μ}
theorem Cx.Ok.ϐ(ok:X.Ok):X.ϐ.Ok:=
 #[ok.mod,ok.kind,ok.glob,ok.blt,ok.above,ok.inj,ok.has,ok.cab,ok.hd,ok.frames,ok.stk,ok.exf,ok.bs,ok.bsz,ok.noex,ok.exfs,ok.funs,ok.frf]
theorem Inv.ϐ(I:Inv X ϵ σ H s):Inv X.ϐ ϵ σ H s:=#[I.ok.ϐ,I.os,I.bare,I.base,I.loc,I.cell,I.free,I.freeC,I.pin,I.hok,I.len]
theorem Inv.un2(ok:X.Ok)(I:Inv X.ϐ ϵ σ H s):Inv X ϵ σ H s:=#[ok,I.os,I.bare,I.base,I.loc,I.cell,I.free,I.freeC,I.pin,I.hok,I.len]
theorem Inv.Yc{e:δ}{o:HO}(I:Inv X ϵ σ H s)(a:H e=none)(c:Ch X ϵ e)(ok:ϕ X.prog X.w (upd H e o) s.heap e o):Inv X ϵ σ (upd H e o) s:=by
 let ne:∀b u,H b=some u->b≠e:=λb u q=>Ϗ q a
 have:=I.step (h':=s.heap) (H':=upd H e o) (g':=s.gens) (d':=s.drawn) (t':=s.toks) (ch:=[e]) (λb f=>?_) (λb o _ _ _ q _=>q) (λb o _ _ _ q _=>#[o.slots,q]) (λb o g _ n=>?_) (λb o _ q=>#[o,q]) (λb xs q=>?_) (λb o u q=>?_) (λb ps q=>?_) (λm i=>i) (λb u q=>?_) I.bare
 .show this
 .let z:b=e:=by simpa using f
  subst z;show c
 .rw[ο (λz=>g (by simp[z]))];show n
 .rw[ο (ne _ _ q)];show q
 .rw[ο (ne _ _ q)];show q
 .show#[#v[],by rw[ο (ne _ _ q),q];simp]
 .by_cases z:b=e
  .subst z;rw[υ]at q;cases q;show ok
  .rw[ο z]at q;show(I.hok b u q).stay (λ_ _ _ r=>r) (λc r=>by rw[ο (ne _ _ r)];show r) (λc xs r=>by rw[ο (ne _ _ r)];show r) λc j v r=>by rw[ο (ne _ _ r)];show r
theorem bC.ch{b:δ}(f:bC X ϵ H b):Ch X ϵ b:=#[f.2.2.2.1,f.2.1,f.2.2.2.2.1,f.2.2.2.2.2]
def Ϥ(X:Cx)(ϵ:List (δ×Obj))(H:Hp)(s:μ)(b:δ)(vs:List ε)(e:Nat):Prop:=s.heap.get? b=some (seqObj "list" vs.toArray e)/\bC X ϵ H b
theorem K1{c:String}{xs:Array ε}{e:Nat}:∀v,(seqObj c xs e).data≠.cell v:=λv h=>by cases h
theorem Ϥ.set{b c:δ}{vs us ws:List ε}{e ec:Nat}{g:Array ε->Array ε}(I:Inv X ϵ σ H s)(h:Ϥ X ϵ H s b vs e)(a:Ϥ X ϵ H s c ws ec)(p:c≠b)(u:g vs.toArray=us.toArray):∃v,Inv X ϵ σ H {s with heap:=s.heap.update b (Obj.mapSeq g)}/\Ϥ X ϵ H {s with heap:=s.heap.update b (Obj.mapSeq g)} b us v/\Ϥ X ϵ H {s with heap:=s.heap.update b (Obj.mapSeq g)} c ws ec:=by
 let#[h1,f,i,y,j,l,m]:=h;let hs:=Heap.SameBut.update s.heap b (Obj.mapSeq g);let n:=get?_update_seq h1 g;rw[u]at n;show#[_,I.turned (t':=s.toks) (it:=b) (λx o z q=>(hs.2 x z).trans q) f i j l m,#[n,f,i,y,j,l,m],#[(hs.2 c p).trans a.1,a.2]]
theorem Ϥ.pin{kS D:δ}{vs ws:List ε}{e f:Nat}(I:Inv X ϵ σ H s)(h:Ϥ X ϵ H s kS vs e)(c:Ϥ X ϵ H s D ws f):Inv X (ϵ++gq [kS,D] s.heap) σ H s:=
 I.pinned (λb a=>by
  obtain z|z:=ϲ.mp a
  .rw[z];show h.2
  .let z:b=D:=by simpa using z
   rw[z];show c.2) λb a=>by
  obtain z|z:=ϲ.mp a
  .rw[z];show#[_,h.1,K1]
  .let z:b=D:=by simpa using z
   rw[z];show#[_,c.1,K1]
theorem Ϥ.Ql{kS D:δ}{vs ws:List ε}{e ec:Nat}{H':Hp}{s':μ}(h:Ϥ X ϵ H s kS vs e)(a:Ϥ X ϵ H s D ws ec)(I:Inv X (ϵ++gq [kS,D] s.heap) σ H' s'):Inv X ϵ σ H' s'/\Ϥ X ϵ H' s' kS vs e/\Ϥ X ϵ H' s' D ws ec:=by
 let one:∀(b:δ)(us:List ε)(eb:Nat),b∈[kS,D]->Ϥ X ϵ H s b us eb->Ϥ X ϵ H' s' b us eb:=λb us eb c o=>by
  let f:(b,seqObj "list" us.toArray eb)∈X.pn++(ϵ++gq [kS,D] s.heap):=by
   show aeC _ (aeC _ ?_);unfold gq;show am8.mpr #[b,c,by rw[o.1];rfl]
  let#[p1,p2,p3,g,i]:=I.pin _ f;show#[p1,p2,o.2.2.1,o.2.2.2.1,o.2.2.2.2.1,o.2.2.2.2.2.1,o.2.2.2.2.2.2]
 show#[I.unpinned,one kS vs e (by simp) h,one D ws ec (by simp) a]
structure wQ(X:Cx)(σ:St)(f:ε)(vs:List ε)(H₁:Hp)(Kp:Nat->ε->Hp->Prop):Prop where
 mono:∀i k H H',ζ H H'->Kp i k H->Kp i k H'
 call:∀i v ϵ s H,vs[i]?=some v->ζ H₁ H->Inv X.ϐ ϵ σ H s->ν (Ϧ X.prog X.w) X.A.in1.in1 (call f [v]) (λk s'=>∃H',Inv X.ϐ ϵ σ H' s'/\ζ H H'/\Kp i k H') (λ_ _=>False) s
def zL(X:Cx)(σ:St)(H:Hp)(ks:List ε)(lt:Nat->Nat->Bool)(κ:SortKind):Prop:=
 ∀i j a c ϵ s,ks[i]?=some a->ks[j]?=some c->Inv X.ϐ ϵ σ H s->ν (Ϧ X.prog X.w) X.A.in1.in1 (keyLt' κ a c) (λr s'=>r=lt i j/\Inv X.ϐ ϵ σ H s') (λ_ _=>False) s
structure kZ(X:Cx)(σ:St)(n:Nat)(Kp:Nat->ε->Hp->Prop)(lt:Nat->Nat->Bool):Prop where
 kind:∀ϵ s H ks,Inv X.ϐ ϵ σ H s->ks.length=n->2<=n->(∀(i:Nat) k,ks[i]?=some k->Kp i k H)->
  ν (Ϧ X.prog X.w) X.A.in1.in1 (keyKind' (ae0 ks)) (λκ s'=>Inv X.ϐ ϵ σ H s'/\zL X σ H ks lt κ) (λ_ _=>False) s
def iI(b:Bool)(lt:Nat->Nat->Bool)(i j:Nat):Bool:=if b=true then lt j i else lt i j
def dW(n:Nat)(lt:Nat->Nat->Bool)(q:List Nat):Prop:=q.Perm (aeZ n)/\q.Pairwise (Rk lt)
theorem Lg{p:Array Nat}{i v:Nat}(h:p.toList[i]?=some v):gt p i=v:=xf (by rw[<-anr];show h)
theorem agl{n:Nat}{lt:Nat->Nat->Bool}{p:Array Nat}(h:Pl n p n)(a:fL lt p n):dW n lt p.toList:=by
 show#[h.pm,?_];let f:p.toList.length=n:=by rw[aja];show h.size
 rw[anI];intro i j hi e c;let h1:=Lg (aah hi);let h2:=Lg (aah e);rw[<-h1, <-h2];show a i j c ()
theorem abP{n:Nat}{lt:Nat->Nat->Bool}{q:List Nat}(h:dW n (λi j=>lt (n-1-i) (n-1-j)) q):dW n (iI true lt) (q.map (n-1- ·)).reverse:=by
 let#[f,g]:=h;let a:∀x∈q,x<n:=λx c=>anH.mp (f.subset c)
 show#[?_,?_]
 .show(aoL _).trans ((f.map _).trans ?_);let e:(aeZ n).map (n-1- ·)=(aeZ n).reverse:=by
   apply aoZ
   .simp
   .intro i h1 h2;simp at h1;simp
  rw[e];show aoL _
 .rw[List.pairwise_reverse,anT];show g.imp_of_mem λ{x y} c l r=>?_;let h1:=a x c;let h2:=a y l;obtain r|⟨r,m⟩:=r
  .show .inl r
  .show .inr #[r,()]
end
section
variable{X:Cx}{ϵ:List (δ×Obj)}{σ:St}{H H₁:Hp}{s:μ}{vs:List ε}{f:ε}{b:Bool}{Kp:Nat->ε->Hp->Prop}{lt:Nat->Nat->Bool}{kS D:δ}{e1:Nat}
def Xc(X:Cx)(ϵ:List (δ×Obj))(σ:St)(H₁:Hp)(Kp:Nat->ε->Hp->Prop)(kS D:δ)(e1:Nat)(ks:List ε)(s:μ):Prop:=
 ∃H' e,Inv X.ϐ ϵ σ H' s/\ζ H₁ H'/\Ϥ X.ϐ ϵ H' s kS ks e/\Ϥ X.ϐ ϵ H' s D [] e1/\∀(i:Nat) k,ks[i]?=some k->Kp i k H'
theorem Np{body:ε->PUnit->Sem (ForInStep PUnit)}{A:ϳ}{E:ε->μ->Prop}{R:List ε->μ->Prop}(e:∀i v ks s,vs[i]?=some v->ks.length=i->R ks s->ν (Ϧ X.prog X.w) A (body v #[]) (λr s'=>r=.yield #[]/\∃k,R (ks++[k]) s') E s):∀(r ks:List ε)(s:μ),vs.drop ks.length=r->R ks s->ν (Ϧ X.prog X.w) A (forIn r PUnit.unit body) (λ_ s'=>∃ks,ks.length=vs.length/\R ks s') E s\/vs.length<ks.length
 |[],ks,s,a,h=>by
  by_cases g:vs.length<ks.length
  .show .inr g
  .left;rw[anm];have:=List.drop_eq_nil_iff.mp a;show ϯ #[ks,(),h]
 |v::r,ks,s,a,h=>by
  left;let f:vs[ks.length]?=some v:=by
   have:=congrArg (λl=>l[0]?) a;simp only[anF,apu]at this;simpa using this
  let j:=(aai.mp f).1;rw[amn];show π (aef (e ks.length v ks s f rfl h) (λq s' m=>?_) λ_ _ x=>x);let#[rfl,k,h2]:=m;show ν (Ϧ X.prog X.w) A (forIn r PUnit.unit body) _ E s';let c:vs.drop (ks++[k]).length=r:=by
   rw[abK,afe, <-aov,a];rfl
  obtain h3|h3:=Np e r (ks++[k]) s' c h2
  .show h3
  .rw[abK,afe]at h3;omega
theorem Vo{P:PySem.Fin->μ->Prop}{E:ε->μ->Prop}{st:SortSt}{ks out:List ε}{e:Nat}(j:D≠kS)(I:Inv X.ϐ ϵ σ H s)(l:Ϥ X.ϐ ϵ H s kS ks e)(m:Ϥ X.ϐ ϵ H s D [] e1)(c:(arrOf st).map (·.2)=ae0 out)(y:out.length<64)(n:ks.length<64)(o:failedOf st=none)(h:∀s' p,Inv X.ϐ ϵ σ H s'->Ϥ X.ϐ ϵ H s' D (katRev b out) p->P (.done (.ret .none)) s'):ν (Ϧ X.prog X.w) X.A.in1.in1 (ksk_tail D b e1 (.ref kS) st) P E s:=by
 let#[z,q,f,a]:=Ϥ.set (us:=[]) (g:=λ_=> #v[]) I l m j rfl;let#[u,v,i,x]:=Ϥ.set (us:=katRev b out) (g:=λ_=>ae0 (katRev b out)) q a f (Ne.symm j) rfl;let hsz:(ae0 (katRev b out)).size=out.length:=by rw[aa8,kat_len]
 unfold ksk_tail
 try dsimp only
 rw[c,kat_outs];show π (listUpdate_at l.1 rfl ?_ (by rw[aa8,ϱ];omega) (agn _));show π (wpAny_letGo ?_);show π (seqEpoch_at a.1 rfl ?_);show π (listUpdate_at a.1 rfl ?_ (agn _) (aeO (al5 hsz) (by rw[ϱ];omega)));rw[o];simp only[bne_self_eq_false,ana,if_false];show ϯ (h _ u v i)
def jd(vs:List ε)(q:List Nat):List ε:=q.map λi=>vs.getD i Value.none
theorem aiX{P:PySem.Fin->μ->Prop}{E:ε->μ->Prop}{ks:List ε}{e:Nat}(W:aN lt)(C:kZ X σ vs.length Kp lt)(Ϲ:D≠kS)(g:vs.length<64)(m:ks.length=vs.length)(I:Inv X.ϐ ϵ σ H s)(M:Ϥ X.ϐ ϵ H s kS ks e)(O:Ϥ X.ϐ ϵ H s D [] e1)(hK:∀(i:Nat) k,ks[i]?=some k->Kp i k H)(h:∀s' R q,Inv X.ϐ ϵ σ H s'->dW vs.length (iI b lt) q->Ϥ X.ϐ ϵ H s' D (jd vs q) R->P (.done (.ret .none)) s'):ν (Ϧ X.prog X.w) X.A.in1.in1 (ksk_end D b vs.toArray e1 (.ref kS) (ae0 ks)) P E s:=by
 let step:∀t:Sem PySem.Fin,ν (Ϧ X.prog X.w) X.A.in1.in1 t P E s->ν (Ϧ X.prog X.w) X.A.in1.in1 (if b=true then(do let _<-rule "list.sort.reverse";t)else t) P E s:=by
  intro t ht;split
  .show π (wpAny_rule ht)
  .show ht
 let B:(katRev b ks).length=(katRev b vs).length:=by rw[kat_len,kat_len,m]
 unfold ksk_end
 try dsimp only
 show step _ ?_;by_cases o:vs.length<2
 .let a:vs.toArray.size<2:=by rw[aa8];omega
  rw[if_pos a,if_pos a];show π (ϯ ?_);show π (ϯ ?_)
  try dsimp only
  let u:∀{α:Type}(l:List α),l.length<2->katRev b l=l:=λl m=>by
   unfold katRev
   match l,m with
   |[],_=>simp
   |[x],_=>simp
  rw[kat_pairs b m,u ks (),u vs o];let v:(arrOf (SortSt.mk' general' ((ae0 ks).zip vs.toArray) #v[] 7 none)).map (·.2)=ae0 vs:=by
   show((ae0 ks).zip vs.toArray).map (·.2)=ae0 vs;apply aoX.mp;rw[Array.toList_map,ksk_zip];show(ks.zip vs).map Prod.snd=vs;rw[List.map_snd_zip ()]
  show Vo Ϲ I M O v g () rfl λs' R I' F=>?_
  rw[u vs o]at F;show h s' R (aeZ vs.length) I' #[List.Perm.refl _,?_] ?_
  .match vs.length,o with
   |0,_=>show List.Pairwise.nil
   |1,_=>show List.pairwise_singleton _ _
  .let S:jd vs (aeZ vs.length)=vs:=by
    unfold jd;apply aoZ
    .simp
    .intro i h1 h2;simp[h2]
   rw[S];show F
 .let a:¬vs.toArray.size<2:=by rw[aa8];omega
  rw[if_neg a,if_neg a];show π (aef (C.kind _ s H ks (M.pin I O) m () hK) (λκ s0 T=>?_) λ_ _ x=>x.elim);let#[I0,G]:=T;rw[kat_pairs b m];let f:∀i,i<vs.length->(katRev b ks).getD i Value.none=ks.getD (if b=true then vs.length-1-i else i) Value.none:=λi hi=>by
   cases b with
   |false=>rfl
   |true=>
    show ks.reverse.getD i Value.none=ks.getD (vs.length-1-i) Value.none;rw[acO,acO,aop (),m]
  let W':aN (λi j=>lt (if b=true then vs.length-1-i else i) (if b=true then vs.length-1-j else j)):=#[λi=>W.ir _,λi j k=>W.tr _ _ _,λi j k=>W.nt _ _ _];let J:(kas_sort (katRev b vs).length).kasWp (kas_ask X.prog X.w X.A.in1.in1 κ (katRev b ks)) (λp y=>Inv X.ϐ (ϵ++gq [kS,D] s.heap) σ H y/\Pl vs.length p vs.length/\fL (λi j=>lt (if b=true then vs.length-1-i else i) (if b=true then vs.length-1-j else j)) p vs.length) s0:=by
   rw[kat_len];show Hw (lt:=λi j=>lt (if b=true then vs.length-1-i else i) (if b=true then vs.length-1-j else j)) (n:=vs.length) (I:=λy=>Inv X.ϐ (ϵ++gq [kS,D] s.heap) σ H y) (λi j C' s1 hi hj U hC=>?_) _ s0 I0 (gR (λp L s1 U=>#[U,L.1,L.2]) _ (aa0 W' ()));unfold kas_ask;rw[f i hi,f j hj];let Y:(if b=true then vs.length-1-i else i)<ks.length:=by split <;>omega
   let Z:(if b=true then vs.length-1-j else j)<ks.length:=by split <;>omega
   let gi:ks[if b=true then vs.length-1-i else i]?=some (ks.getD (if b=true then vs.length-1-i else i) Value.none):=by
    rw[acO,aah Y];rfl
   let gj:ks[if b=true then vs.length-1-j else j]?=some (ks.getD (if b=true then vs.length-1-j else j) Value.none):=by
    rw[acO,aah Z];rfl
   show aef (G _ _ _ _ _ s1 gi gj U) (λr s2 hr=>?_) λ_ _ x=>x
   let#[rfl,I2]:=hr;show hC s2 I2
  show π (aef (kat_run (Q:=λc s'=>∃p:Array Nat,p.size=(katRev b vs).length/\arrOf c=p.map (kas_item ((ae0 (katRev b ks)).zip (ae0 (katRev b vs))))/\failedOf c=none/\
    Inv X.ϐ (ϵ++gq [kS,D] s.heap) σ H s'/\Pl vs.length p vs.length/\fL (λi j=>lt (if b=true then vs.length-1-i else i) (if b=true then vs.length-1-j else j)) p vs.length)
   B (by rw[kat_len];omega) (by rw[kat_len];show g) (λp' c s' a1 a2 a3 a4=>#[p',a1,a2,a3,a4]) J) ?_ λ_ _ x=>x)
  rintro⟨⟨⟩,c⟩ s' ⟨p,L,v,hf,I2,ab,Yd⟩
  try dsimp only
  let#[I3,ac,ur]:=Ϥ.Ql M O I2;show Vo Ϲ I3 ac ur (kat_snds B v) (by rw[aav,aja,L,kat_len];show g) () hf λs4 e4 I4 tY=>?_
  let z:=agl ab Yd;let ae:∀x∈p.toList,x<vs.length:=λx hx=>anH.mp (z.1.subset hx)
  cases b with
  |false=>
   show h s4 e4 p.toList I4 z ?_;show tY
  |true=>
   show h s4 e4 _ I4 (abP z) ?_;let S:katRev true (p.toList.map λi=>(katRev true vs).getD i Value.none)=jd vs (p.toList.map (vs.length-1- ·)).reverse:=by
    show(p.toList.map λi=>vs.reverse.getD i Value.none).reverse=_;unfold jd;rw[List.map_reverse,afC]
    congr 1
    show ajx λi hi=>?_
    show vs.reverse.getD i Value.none=vs.getD (vs.length-1-i) Value.none;rw[acO,acO,aop (ae i hi)]
   rw[S]at tY;show tY
theorem Zm{P:PySem.Fin->μ->Prop}{E:ε->μ->Prop}(W:aN lt)(F:wQ X σ f vs H₁ Kp)(C:kZ X σ vs.length Kp lt)(L:D≠kS)(o:vs.length<64)(I:Inv X.ϐ ϵ σ H s)(S:ζ H₁ H)(T:Ϥ X.ϐ ϵ H s kS [] 0)(U:Ϥ X.ϐ ϵ H s D [] e1)(h:∀s' H' p q,Inv X.ϐ ϵ σ H' s'->ζ H₁ H'->dW vs.length (iI b lt) q->Ϥ X.ϐ ϵ H' s' D (jd vs q) p->P (.done (.ret .none)) s'):ν (Ϧ X.prog X.w) X.A.in1.in1 (ksk_rest D f b vs.toArray e1 (.ref kS)) P E s:=by
 unfold ksk_rest;show π (wpAny_rule ?_)
 first
  |rw[List.forIn_toArray]
  |(rw[<-aoI];simp only[List.toList_toArray])
  |rw[<-aoI]
 show π (aef ((Np (X:=X) (vs:=vs) (R:=Xc X ϵ σ H₁ Kp kS D e1) (λi v ks s' M hi Y=>?_) vs [] s (by simp) #[H,0,I,S,T,U,λi k e=>by simp at e]).resolve_right (by simp)) (λ_ s' hd=>?_) λ_ _ x=>x)
 .let#[H',e,u,c,a,l,y]:=Y;let Z:=(aai.mp M).1;show π (amX (aef (F.call i v _ s' H' M c (a.pin u l)) (λk O hq=>?_) λ_ _ hF=>hF.elim));let#[H2,z,Q,B]:=hq;let#[I3,m,ur]:=Ϥ.Ql a l z;let ea:(ae0 ks).push k=ae0 (ks++[k]):=by simp
  let#[p,I4,lO,tY]:=Ϥ.set (us:=ks++[k]) (g:=(·.push k)) I3 m ur L ea
  try dsimp only
  show π (listUpdate_at m.1 rfl ?_ (by rw[aa8,ϱ];omega) (aeO (al5 (Array.size_push ..)) (by rw[aa8,ϱ];omega)));show ϯ #[rfl,k,H2,p,I4,c.trans Q,lO,tY,λj kj n=>?_];by_cases G:j<ks.length
  .rw[akE G]at n;show F.mono _ _ _ _ Q (y j kj n)
  .let hj2:=(aai.mp n).1;rw[abK,afe]at hj2;let ej:j=ks.length:=()
   subst ej;rw[amr]at n;cases n;rw[hi];show B
 .let#[ks,hl,H',e,u,c,a,l,y]:=hd
  try dsimp only
  show π (listItems_at a.1 rfl ?_);show aiX W C L o hl u a l y λO e2 q z hs J=>h O H' e2 q z c hs J
end
section
variable{X:Cx}{ϵ:List (δ×Obj)}{σ:St}{H:Hp}{s:μ}{vs:List ε}{f:ε}{b:Bool}{Kp:Nat->ε->Hp->Prop}{lt:Nat->Nat->Bool}{l:δ}
theorem ain{kw:List (Str×ε)}{Q:ε->μ->Prop}{E:ε->μ->Prop}(W:aN lt)(F:wQ X σ f vs H Kp)(C:kZ X σ vs.length Kp lt)(u:vs.length<64)(I:Inv X ϵ σ H s)(G:s.heap.IsList l vs.toArray)(v:argsOk "sorted" #[[.ref l],kw])(y:∀x,argsOk "list.sort" #[[.ref x],kw])(J:∀x,anh.«list.sort» #[[.ref x],kw]=ksk_tree x f b)(h:∀D s' H' z q,Inv X ϵ σ H' s'->ζ H H'->dW vs.length (iI b lt) q->Ϥ X.ϐ ϵ H' s' D (jd vs q) z->Q (.ref D) s'):ν (Ϧ X.prog X.w) X.A (call (.builtin "sorted") [.ref l] kw) Q E s:=by
 show call_function_entry_kw kind_sorted plain_sorted entry_sorted v ?_;unfold anh.«sorted»;show π (m:=checkCount "sorted" 1 1 _) (ϯ ?_);show π (collect_list G ?_ (by rw[ϱ];omega));show π (wpAny_newList ?_ (by rw[ϱ];omega));let hsz:((s.heap.push (seqObj "list" #v[] 0)).update s.heap.objs.size (Obj.mapSeq (· ++vs.toArray))).objs.size=s.heap.objs.size+1:=by
  rw[ao0,size_push']
 let c:(((s.heap.push (seqObj "list" #v[] 0)).update s.heap.objs.size (Obj.mapSeq (· ++vs.toArray))).push (seqObj "list" vs.toArray 0)).get? (s.heap.objs.size+1)=some (seqObj "list" vs.toArray 0):=by
  rw[<-hsz];show abb _ rfl
 let keep:∀b o,s.heap.get? b=some o->(((s.heap.push (seqObj "list" #v[] 0)).update s.heap.objs.size (Obj.mapSeq (· ++vs.toArray))).push (seqObj "list" vs.toArray 0)).get? b=some o:=λb o q=>by
  let e:b<s.heap.objs.size:=abL q;rw[aoM _ _ _ (by rw[hsz];show adv (anl e)),aoz _ _ _ _ (adv e),aoM _ _ _ (adv e)];show q
 show ν _ _ _ _ _ {s with heap:=((s.heap.push (seqObj "list" #v[] 0)).update s.heap.objs.size (Obj.mapSeq (· ++vs.toArray))).push (seqObj "list" vs.toArray 0)};rw[hsz];let g:(((s.heap.push (seqObj "list" #v[] 0)).update s.heap.objs.size (Obj.mapSeq (· ++vs.toArray))).push (seqObj "list" vs.toArray 0)).objs.size=s.heap.objs.size+2:=by rw[size_push',hsz]
 generalize((s.heap.push (seqObj "list" #v[] 0)).update s.heap.objs.size (Obj.mapSeq (· ++vs.toArray))).push (seqObj "list" vs.toArray 0)=h2 at c keep g⊢;show π (af6 (wpAny_call_entry_kw slot_list_sort #[_,c,rfl] entry_list_sort ?body (y _)))
 case body=>
  show ν (Ϧ X.prog X.w) X.A.in1.in1 (anh.«list.sort» #[[.ref (s.heap.objs.size+1)],kw]) _ _ _;rw[J];let i:s.heap.objs.size<=s.heap.objs.size+1:=ank _;generalize s.heap.objs.size+1=a at c i⊢;obtain⟨e1,j⟩:∃e1,(h2.update a (Obj.mapSeq λ_=>(#v[]:Array ε))).get? a=some (seqObj "list" #v[] e1):=#[_,get?_update_seq c λ_=> #v[]];let n:((h2.update a (Obj.mapSeq λ_=>(#v[]:Array ε))).push (seqObj "tuple" vs.toArray 0)).objs.size=s.heap.objs.size+3:=by rw[size_push',ao0,g]
  let L:∀b o,s.heap.get? b=some o->(((h2.update a (Obj.mapSeq λ_=>(#v[]:Array ε))).push (seqObj "tuple" vs.toArray 0)).push (seqObj "list" #v[] 0)).get? b=some o:=λb o q=>by
   let e:b<s.heap.objs.size:=abL q;show ϴ _ (ϴ _ ?_);rw[aoz _ _ _ _ (adv (abM e i))];show keep b o q
  let B:((h2.update a (Obj.mapSeq λ_=>(#v[]:Array ε))).push (seqObj "tuple" vs.toArray 0)).objs.size≠a:=by
   have:=abL c;rw[n];rw[g]at this;show alY (anl this)
  unfold ksk_tree;show π (listItems_at c rfl ?_);show π (listUpdate_at c rfl ?_ (by rw[aa8,ϱ];omega) (agn _));show π (seqEpoch_at j rfl ?_);show π (wpAny_newTuple ?_ (by show vs.length<=_;rw[ϱ];omega));show π (wpAny_newList ?_ (agn _));show af6 ?_;let M:Inv X.ϐ ϵ σ H {s with heap:=((h2.update a (Obj.mapSeq λ_=>(#v[]:Array ε))).push (seqObj "tuple" vs.toArray 0)).push (seqObj "list" #v[] 0)}:=I.ϐ.kept (t':=s.toks) L;let p:s.heap.objs.size<=((h2.update a (Obj.mapSeq λ_=>(#v[]:Array ε))).push (seqObj "tuple" vs.toArray 0)).objs.size:=by rw[n];show aj9 _ _
  show Zm (X:=X) (ϵ:=ϵ) (σ:=σ) (H:=H) (H₁:=H) (kS:=((h2.update a (Obj.mapSeq λ_=>(#v[]:Array ε))).push (seqObj "tuple" vs.toArray 0)).objs.size) (D:=a) (e1:=e1) W F C (Ne.symm B) u M (ζ.refl _) #[abb _ rfl,I.ϐ.fpOk p (I.hok.fresh p)] #[ϴ _ (ϴ _ j),I.ϐ.fpOk i (I.hok.fresh i)] λs' H' z q O P R S=>#[_,rfl,?_]
  show ϯ #[_,rfl,h a s' H' z q (Inv.un2 I.ok O) P R S]
def dh(xs:List V)(q:List Nat):List V:=q.map λi=>xs.getD i .non
theorem Ln{xs:List V}{vs:List ε}(r:Vals xs vs):∀{q:List Nat},(∀i∈q,i<xs.length)->Vals (dh xs q) (jd vs q)
 |[],_=>.nil
 |i::q,h=>by
  let hil:=h i (by simp);let hi:xs[i]?=some (xs[i]'hil):=aah hil;let#[u,e,a]:=r.get hi;show Vals (xs.getD i .non::dh xs q) (vs.getD i Value.none::jd vs q);rw[acO,acO,hi,e];show .cons a (Ln r λj c=>h j (by simp[c]))
theorem lE{n:Nat}{lt:Nat->Nat->Bool}{q:List Nat}(h:dW n lt q){i:Nat}(hi:i∈q):i<n:=anH.mp (h.1.mem_iff.mp hi)
theorem ahB{n:Nat}{lt:Nat->Nat->Bool}{q:List Nat}(h:dW n lt q):q.length=n:=by rw[h.1.length_eq,anO]
theorem UT{kw:List (Str×ε)}{Q:VK}{E:ε->μ->Prop}{xs:List V}(W:aN lt)(hs:η X.K H l xs)(y:xs.length<64)(z:∀vs,Vals xs vs->wQ X σ f vs H Kp/\kZ X σ xs.length Kp lt)(I:Inv X ϵ σ H s)(m:argsOk "sorted" #[[.ref l],kw])(u:∀x,argsOk "list.sort" #[[.ref x],kw])(B:∀x,anh.«list.sort» #[[.ref x],kw]=ksk_tree x f b)(h:∀p H' q,ζ H H'->H' p=none->dW xs.length (iI b lt) q->Q (.ref p) (upd H' p (.lst (dh xs q)))):ν (Ϧ X.prog X.w) X.A (call (.builtin "sorted") [.ref l] kw) (EP X ϵ σ Q) E s:=by
 let#[vs,r,pl,O]:=I.list hs;let a:=r.length;let#[C,v]:=z vs r;rw[a]at v;let#[o,n,e,c,d,F]:=pl;show ain (b:=b) W C v () I #[o,e,c,n,F] m u B λD s' H' G q J L g j=>?_
 rw[<-a]at g;let M:=ahB g;show#[.ref D,_,J.Yc (e:=D) (o:=.lst (dh xs q)) j.2.1 j.2.ch #[?_,jd vs q,G,Ln r λi hi=>lE g hi,j.1],rfl,h D H' q L j.2.1 g];show(q.map _).length<=_;rw[aav];omega
end
def rP(A:ϳ)(s:μ)(fin:Bool):List ε->List ε->Bool->Prop
 |x::xs,y::ys,r=>∃e,SeqAt.EqAt A s x y e/\(e=true->rP A s fin xs ys r)/\(e=false->∀(prog:Ϯ)(w:Ϭ)(E:ε->μ->Prop)(Q:ε->μ->Prop),Q (.bool r) s->ν (Ϧ prog w) A (richCompare .Lt x y) Q E s)
 |_,_,r=>r=fin
open PySem.AutoSeq1 (wpAny_loadPart') in
theorem Pq(l b:δ)(c a:Array ε)(n n2:Nat)(dd o:Option δ)(sl u:Array (Option ε))(r:Bool):Meets (anh.«tuple.__lt__» #[[.ref l,.ref b],[]])
   (λA R s=>s.heap.get? l=some {cls:=.type "tuple",dict:=dd,data:=.seq c n,slots:=sl}/\s.heap.get? b=some {cls:=.type "tuple",dict:=o,data:=.seq a n2,slots:=u}/\
    rP A.in1 s (decide (c.size<a.size)) c.toList a.toList r/\R (.ok (.ret (.bool r))) s):=
 .of_wp λprog w A R s h=>by
  let#[C,g,d,tk,os]:=s;let#[h1,h2,f,D]:=h;let E:=AutoSeq1.sub_tuple_tuple
  wp_walk using wpAny_loadPart' h1,wpAny_loadPart' h2,wpAny_forIn_list _ (λleft m s'=>m.1=none/\s'=#[C,g,d,tk,os]/\∃p q,left=List.zip p q/\rP A.in1 #[C,g,d,tk,os] (decide (c.size<a.size)) p q r) _
  case turn=>
   rintro⟨x,y⟩ left m s' ⟨v,rfl,p,q,i,f⟩
   match p,q,f with
   |[],_,_=>cases i
   |_::_,[],_=>cases i
   |x'::p,F::q,f=>
    rw[aoJ]at i;injection i with z j
    injection z with ex G
    subst ex G;let#[e,H,I,J]:=f;show π (H prog w _ _ ?_);cases e with
    |true=>
     wp_walk
     show#[rfl,rfl,p,q,j,I rfl]
    |false=>
     let B:=J rfl prog w
     wp_walk using B
     show#[_,rfl,by simpa using D]
  case fin=>
   rintro⟨L,M⟩ s' ⟨v,rfl,p,q,i,f⟩
   simp only at v;subst v;let fin:r=decide (c.size<a.size):=by
    match p,q,f with
    |[],[],f=>show f
    |[],_::_,f=>show f
    |_::_,[],f=>show f
    |x'::p,F::q,f=>rw[aoJ]at i;cases i
   subst fin
   wp_walk
   show#[_,rfl,by simpa [Builtin.Tuple.tupleCompareSizes]using D]
  case h=>
   show#[rfl,rfl,c.toList,a.toList,rfl,f]
def aM:List V->List V->Bool
 |[],[]=>false
 |[],_::_=>true
 |_::_,[]=>false
 |x::_,y::_=>ltV x y
def jg(x y:V):Prop:=(∃m n,x=.int m/\y=.int n)\/∃m n,x=.str m/\y=.str n
def nD(r:List V):Prop:=r=[]\/∃x,r=[x]
theorem zQ(x:V):ltV x x=false:=by
 cases x with
 |int i=>show decide_eq_false ()
 |str z=>show decide_eq_false (ape _)
 |_=>rfl
section
variable{prog:Ϯ}{w:Ϭ}{A:ϳ}{E:ε->μ->Prop}{s:μ}{x y:V}{u v:ε}
theorem U6(h:jg x y)(c:RelV x u)(f:RelV y v):∃e,SeqAt.EqAt A s u v e/\(e=true↔x=y):=by
 obtain⟨m,n,rfl,rfl⟩|⟨m,n,rfl,rfl⟩:=h
 .let#[t,rfl]:=c;let#[a,rfl]:=f;show#[_,SeqAt.EqAt.int_int m t n a,by simp]
 .let#[t,rfl]:=c;let#[a,rfl]:=f;show#[_,SeqAt.EqAt.str_str m t n a,by simp]
theorem aic{Q:ε->μ->Prop}(h:jg x y)(a:RelV x u)(c:RelV y v)(q:Q (.bool (ltV x y)) s):ν (Ϧ prog w) A (richCompare .Lt u v) Q E s:=by
 obtain⟨m,n,rfl,rfl⟩|⟨m,n,rfl,rfl⟩:=h
 .let#[t,rfl]:=a;let#[e,rfl]:=c;show lt_int q
 .let#[t,rfl]:=a;let#[e,rfl]:=c;show lt_str q
theorem ahO{Q:Bool->μ->Prop}(h:jg x y)(a:RelV x u)(c:RelV y v)(q:Q (ltV x y) s):ν (Ϧ prog w) A (oneLt' true u v) Q E s:=by
 obtain⟨m,n,rfl,rfl⟩|⟨m,n,rfl,rfl⟩:=h
 .let#[t,rfl]:=a;let#[e,rfl]:=c;show oneLt_int q
 .let#[t,rfl]:=a;let#[e,rfl]:=c;show oneLt_str q
theorem agM{rx ry:List V}{us ws:List ε}(j:nD rx)(c:nD ry)(l:∀x y,rx=[x]->ry=[y]->jg x y)(f:Vals rx us)(a:Vals ry ws):rP A s (decide (us.length<ws.length)) us ws (aM rx ry):=by
 obtain rfl|⟨x,rfl⟩:=j
 .cases Vals.zero f;obtain rfl|⟨y,rfl⟩:=c
  .cases Vals.zero a;rfl
  .let#[v,rfl,_]:=Vals.one a;rfl
 .let#[u,rfl,g]:=Vals.one f;obtain rfl|⟨y,rfl⟩:=c
  .cases Vals.zero a;rfl
  .let#[v,rfl,i]:=Vals.one a;let lk:=l x y rfl rfl;let#[e,m,hi]:=U6 (A:=A) (s:=s) lk g i;show#[e,m,λh=>?_,λh prog w E Q q=>aic lk g i q];have:x=y:=hi.mp h;subst this;show ltV x x=decide (1<1);rw[zQ];rfl
end
section
variable{X:Cx}{ϵ:List (δ×Obj)}{σ:St}{H:Hp}{s:μ}{a b:δ}{rx ry:List V}
theorem Ci(I:Inv X ϵ σ H s)(h:H a=some (.tup rx)):∃(f:List ε)(n:Nat)(dd:Option δ)(sl:Array (Option ε)),Vals rx f/\s.heap.get? a=some {cls:=.type "tuple",dict:=dd,data:=.seq f.toArray n,slots:=sl}:=by
 let#[_,f,r,#[cls,dd,data,sl],e,c,n,d]:=(I.hok a _ h:ϕ X.prog X.w H s.heap a (.tup rx));simp only at c d;subst c d;show#[f,n,dd,sl,r,e]
theorem acw{A:ϳ}{E:ε->μ->Prop}{κ:SortKind}{Q:Bool->μ->Prop}(l:A.units<cLine)(I:Inv X ϵ σ H s)(M:H a=some (.tup rx))(O:H b=some (.tup ry))(m:nD rx)(o:nD ry)(p:∀x y,rx=[x]->ry=[y]->jg x y)(j:κ=general'\/κ=oneType'\/(κ=tuples' true/\rx≠[]/\ry≠[]))(q:Q (aM rx ry) s):ν (Ϧ X.prog X.w) A (keyLt' κ (.ref a) (.ref b)) Q E s:=by
 let#[us,n,dd,sl,B,c]:=Ci I M;let#[ws,n2,f,g,C,i]:=Ci I O;let D:rP A.in1 s (decide (us.toArray.size<ws.toArray.size)) us.toArray.toList ws.toArray.toList (aM rx ry):=by
  simpa using agM m o p B C
 obtain rfl|rfl|⟨rfl,h1,h2⟩:=j
 .show ν _ _ (oneLt' false (.ref a) (.ref b)) _ _ _;show kat_one _ _ ?_;show richCompare_meets_room (op:=.Lt) #[_,c,rfl] #[_,i,rfl] F.slot_tuple_lt F.entry_tuple_lt (F.args_tuple_lt_2 _ _) (Pq a b us.toArray ws.toArray n n2 dd f sl g (aM rx ry)) #[c,i,D,(λz=>nomatch z),q] l
 .show ν _ _ (oneLt' true (.ref a) (.ref b)) _ _ _;rw[oneLt'_eq];simp only[if_true];show π (wpAny_cRoomFor l ?_);show π (wpAny_callSpecialIfBound?_slot (T:="tuple") #[_,c,rfl] F.slot_tuple_lt ?_);show am4 F.slot_tuple_lt #[_,c,rfl] F.entry_tuple_lt (F.args_tuple_lt_2 _ _) (Pq a b us.toArray ws.toArray n n2 dd f sl g (aM rx ry)) #[c,i,D,?_];show ahw q
 .obtain rfl|⟨x,rfl⟩:=m
  .show absurd rfl h1
  obtain rfl|⟨y,rfl⟩:=o
  .show absurd rfl h2
  let#[u,rfl,G]:=Vals.one B;let#[v,rfl,J]:=Vals.one C;let lk:=p x y rfl rfl;show kat_lt c rfl i rfl ?_;let#[e,P,hi]:=U6 (A:=A) (s:=s) lk G J;show kat_cons (P X.prog X.w _ _ ?_);show kat_go (λh=>?_) λh=>?_
  .have :x=y:=hi.mp h;subst this;show kat_yes (kat_nil ?_);let L:Q (ltV x x) s:=q;rw[zQ]at L;show L
  .show kat_no (ahO lk G J q)
end
section
variable{M:Model}{A:ϳ}{E:ε->μ->Prop}{s:μ}
def sY(h:ϫ):List ε->List (Option ε)->Prop
 |[],[]=>True
 |v::vs,f::fs=>(∃a o xs n,v=.ref a/\h.get? a=some o/\o.cls=.type "tuple"/\o.data=.seq xs n/\xs[0]?=f)/\sY h vs fs
 |_,_=>False
theorem HR:∀(vs:List ε)(fs:List (Option ε)){Q:List (Option ε)->μ->Prop},sY s.heap vs fs->Q fs s->ν M A (vs.mapM firstOfTuple') Q E s
 |[],[],_,_,h=>by rw[List.mapM_nil];show ϯ h
 |[],_::_,_,t,_=>t.elim
 |_::_,[],_,t,_=>t.elim
 |v::vs,f::fs,Q,t,h=>by
  let#[#[a,o,xs,n,rfl,c,e,hd,g],t]:=t;rw[List.mapM_cons];show π ?_;rw[kas_first_eq];show π (Looks.here (show Looks M s.heap (typeOf (.ref a)) o.cls from(Looks.ld c).andThen .now) ?_);rw[e,if_neg (by first|decide|simp)];show π (listItems_at c hd (ϯ ?_));rw[g];show π (HR vs fs (Q:=λbs s'=>ν M A (pure (f::bs)) Q E s') t (ϯ h))
theorem Vv:∀{vs:List ε}{fs:List (Option ε)},sY s.heap vs fs->∀v∈vs,Looks M s.heap (typeOf v) (.type "tuple")
 |v::vs,f::fs,t,u,hu=>by
  let#[#[a,o,xs,n,rfl,c,e,hd,g],t]:=t;obtain rfl|hu:=ϲ.mp hu
  .rw[<-e];show(Looks.ld c).andThen .now
  .show Vv t u hu
theorem kind_any{vs:List ε}{fs:List (Option ε)}{T:ε}{Q:SortKind->μ->Prop}(t:sY s.heap vs fs)(B:0<vs.length)(C:∀v,some v∈fs->Looks M s.heap (typeOf v) T)(m:(T==T)=true)(n:(T !=Value.type "tuple")=true)(h1:(∀f∈fs,f.isSome=true)->Q (tuples' true) s)(h2:Q general' s)(G:Q oneType' s):ν M A (keyKind' vs.toArray) Q E s:=by
 rw[kat_kind_eq,anU,map_eq_pure_bind];show π (π (HR vs _ t (ϯ ?_)));by_cases i:(fs.toArray.all λx=>x.isSome)=true
 .rw[if_pos i];let a:∀f∈fs,f.isSome=true:=by simpa using i
  show π (wpAny_rule ?_);let p:fs.length=vs.length:=by
   clear C h1 i a B;induction vs generalizing fs with
   |nil=>cases fs with
    |nil=>rfl
    |cons _ _=>show t.elim
   |cons v vs H=>cases fs with
    |nil=>show t.elim
    |cons f fs=>simp[H t.2]
  let q:fs.toArray.filterMap id=(fs.filterMap id).toArray:=by simp
  let D:fs.filterMap id≠[]:=by
   intro z
   match fs,p with
   |[],e=>simp at e;omega
   |f::fs,_=>
    let#[v,rfl]:=akT.mp (a f (by simp));simp at z
  rw[q,oneTypeOnly'_eq,anU,map_eq_pure_bind];let j:∀v∈fs.filterMap id,Looks M s.heap (typeOf v) T:=λv l=>by
   let#[o,I,e]:=am8.mp l;let J:o=some v:=e;show C v (J▸I)
  generalize fs.filterMap id=F at D j;show π (π (π (kas_mapM (r:=T) _ (λv l L u=>(j v l).here u) (ϯ ?_))));obtain⟨g,gr,rfl⟩:∃g gr,F=g::gr:=by
   match F,D with
   |[],z=>show absurd rfl z
   |g::gr,_=>show#[g,gr,rfl]
  let c:((api (λ_=>T) (g::gr)).toArray.all λx=>x==T)=true:=by
   simp only[ao1,aoO,acX];intro _ _;show m
  let y:(api (λ_=>T) (g::gr)).toArray[0]?=some T:=by simp
  rw[y];simp only[c,if_true];show ϯ (ϯ ?_);let e:(some T).any (λx=>x !=Value.type "tuple")=true:=n;rw[e];show h1 a
 .rw[if_neg i];split
  .show ϯ h2
  .rw[oneTypeOnly'_eq,anU,map_eq_pure_bind];show π (π (π (kas_mapM (r:=Value.type "tuple") _ (λv l L u=>(Vv t v l).here u) (ϯ ?_))));obtain⟨g,gr,rfl⟩:∃g gr,vs=g::gr:=by
    match vs,B with
    |g::gr,_=>show#[g,gr,rfl]
   let c:((api (λ_=>Value.type "tuple") (g::gr)).toArray.all λx=>x==Value.type "tuple")=true:=by
    simp only[ao1,aoO,acX];intro _ _;show(Value.type "tuple"==Value.type "tuple")=true;decide
   let y:(api (λ_=>Value.type "tuple") (g::gr)).toArray[0]?=some (Value.type "tuple"):=by simp
   rw[y];simp only[c,if_true];show ϯ (ϯ G)
end
structure tR(X:Cx)(σ:St)(f:ε)(xs:List V)(H₁:Hp)(KV:Nat->V->Hp->Prop):Prop where
 mono:∀i v H H',ζ H H'->KV i v H->KV i v H'
 call:∀i x u ϵ s H,xs[i]?=some x->RelV x u->ζ H₁ H->Inv X.ϐ ϵ σ H s->ν (Ϧ X.prog X.w) X.A.in1.in1 (call f [u]) (EP X.ϐ ϵ σ λk H'=>ζ H H'/\KV i k H') (λ_ _=>False) s
def wC(KV:Nat->V->Hp->Prop)(i:Nat)(k:ε)(H:Hp):=∃v,RelV v k/\KV i v H
theorem tR.fn{X:Cx}{σ:St}{f:ε}{xs:List V}{vs:List ε}{H₁:Hp}{KV:Nat->V->Hp->Prop}(h:tR X σ f xs H₁ KV)(r:Vals xs vs):wQ X σ f vs H₁ (wC KV)where
 mono:=λi k H H' a ⟨v,c,q⟩=>#[v,c,h.mono i v H H' a q]
 call:=λi u ϵ s H g a I=>by
  let p:=r.length;let hi:=(aai.mp g).1;let j:xs[i]?=some (xs[i]'()):=aah _;let#[x,e,l]:=r.get j;rw[g]at e;cases e;show aef (h.call i _ u ϵ s H j l a I) (λk s' ⟨v,H',m,c,n,o⟩=>#[H',m,n,v,c,o]) λ_ _ z=>z
def Nj(f:Nat->Int)(i:Nat)(v:V)(_:Hp):Prop:=v=.int (f i)
section
variable{X:Cx}{σ:St}{n:Nat}
theorem Jt:∀{ks:List ε}{f:Nat->Int},(∀(i:Nat) k,ks[i]?=some k->∃t,k=.int (f i) t)->IntsAre ks ((aeZ ks.length).map f)
 |[],_,_=>.nil
 |k::ks,f,h=>by
  let#[t,rfl]:=h 0 k rfl;have:=Jt (ks:=ks) (f:=λi=>f (i+1)) λi k e=>h (i+1) k (by simpa using e)
  rw[acV,aod,ad4,afC];show .cons _ t this
theorem abp{f:Nat->Int}:kZ X σ n (wC (Nj f)) (λi j=>decide (f i<f j))where
 kind:=λϵ s H ks I q h2 c=>by
  let a:∀(i:Nat) k,ks[i]?=some k->∃t,k=.int (f i) t:=λi k e=>by
   let#[v,g,rfl]:=c i k e;let#[t,rfl]:=g;show#[t,rfl]
  rw[ksk_kind (keys:=ks.toArray) (kz:=(aeZ ks.length).map f) (by simpa using Jt a) (by rw[aa8];omega)];show ϯ #[I,λi j l m ϵ s hi o p=>?_];let#[t,rfl]:=a i l hi;let#[u,rfl]:=a j m o;rw[keyLt'_oneType];show oneLt_int #[rfl,p]
theorem acY{f:Nat->Int}:aN λi j=>decide (f i<f j):=#[λi=>decide_eq_false (),λi j k h1 h2=>decide_eq_true (by have:=of_decide_eq_true h1;have:=of_decide_eq_true h2;omega),λi j k h=>by
 have:=of_decide_eq_true h;by_cases h2:f i<f j
 .show .inl (decide_eq_true h2)
 .show .inr (decide_eq_true ())]
def Kz(rk:Nat->List V)(i:Nat)(v:V)(H:Hp):=∃a,v=.ref a/\H a=some (.tup (rk i))
def oU(rk:Nat->List V):Prop:=(∀i,nD (rk i))/\((∀i x,rk i=[x]->∃m,x=.int m)\/∀i x,rk i=[x]->∃m,x=.str m)
theorem oU.lk{rk:Nat->List V}(h:oU rk){i j:Nat}{x y:V}(a:rk i=[x])(c:rk j=[y]):jg x y:=by
 obtain h|h:=h.2
 .let#[m,rfl]:=h i x a;let#[n,rfl]:=h j y c;show .inl #[m,n,rfl,rfl]
 .let#[m,rfl]:=h i x a;let#[n,rfl]:=h j y c;show .inr #[m,n,rfl,rfl]
theorem K5{ϵ:List (δ×Obj)}{s:μ}{H:Hp}(I:Inv X ϵ σ H s):∀{ks:List ε}{rk:Nat->List V},(∀i,nD (rk i))->(∀(i:Nat) k,ks[i]?=some k->∃a,k=.ref a/\H a=some (.tup (rk i)))->
  ∃fs,sY s.heap ks fs/\(∀f∈fs,(∃i,(f=none/\rk i=[])\/∃x v,f=some v/\rk i=[x]/\RelV x v))/\∀i,i<ks.length->rk i=[]->none∈fs
 |[],rk,_,_=>#[[],trivial,λf hf=>by simp at hf,λi hi=>by simp at hi]
 |k::ks,rk,j,h=>by
  let#[a,rfl,p]:=h 0 k rfl;let#[fs,h1,h2,l]:=K5 I (ks:=ks) (rk:=λi=>rk (i+1)) (λi=>j (i+1)) λi k e=>h (i+1) k (by simpa using e)
  let#[us,n,dd,sl,g,m]:=Ci I p;let o:=j 0;generalize c:rk 0=B at o g;obtain rfl|⟨x,rfl⟩:=o
  .cases Vals.zero g;show#[none::fs,#[#[a,_,_,n,rfl,m,rfl,rfl,rfl],h1],λf hf=>?_,λi hi z=>?_];obtain rfl|hf:=ϲ.mp hf
   .show#[0,.inl #[rfl,c]]
   .let#[i,q]:=h2 f hf;show#[i+1,q]
   .cases i with
    |zero=>simp
    |succ i=>show adP _ (l i (by simpa using hi) z)
  .let#[u,rfl,y]:=Vals.one g;show#[some u::fs,#[#[a,_,_,n,rfl,m,rfl,rfl,rfl],h1],λf hf=>?_,λi hi z=>?_];obtain rfl|hf:=ϲ.mp hf
   .show#[0,.inr #[x,u,rfl,c,y]]
   .let#[i,q]:=h2 f hf;show#[i+1,q]
   .cases i with
    |zero=>rw[c]at z;cases z
    |succ i=>show adP _ (l i (by simpa using hi) z)
theorem Rq{rk:Nat->List V}(F:X.A.in1.in1.units<cLine)(f:oU rk):kZ X σ n (wC (Kz rk)) (λi j=>aM (rk i) (rk j))where
 kind:=λϵ s H ks I W h2 G=>by
  let c:∀(i:Nat) k,ks[i]?=some k->∃a,k=.ref a/\H a=some (.tup (rk i)):=λi k e=>by
   let#[v,g,a,rfl,p]:=G i k e;cases g;show#[a,rfl,p]
  let#[fs,t,B,J]:=K5 I f.1 c;let any:∀κ,(κ=general'\/κ=oneType'\/(κ=tuples' true/\∀i,i<n->rk i≠[]))->zL X σ H ks (λi j=>aM (rk i) (rk j)) κ:=λκ q i j L M ϵ s hi C D=>by
   let#[a,rfl,p]:=c i L hi;let#[b,rfl,O]:=c j M C;let Y:=(aai.mp hi).1;let P:=(aai.mp C).1;show acw (X:=X.ϐ) F D p O (f.1 i) (f.1 j) (λx y e1 l=>f.lk e1 l) ?_ #[rfl,D];obtain h|h|⟨h,E⟩:=q
   .show .inl h
   .show .inr (.inl h)
   .show .inr (.inr #[h,E i (),E j ()])
  let fin:∀(T:ε),(T==T)=true->(T !=Value.type "tuple")=true->(∀v,some v∈fs->Looks (Ϧ X.prog X.w) s.heap (typeOf v) T)->ν (Ϧ X.prog X.w) X.A.in1.in1 (keyKind' (ae0 ks)) (λκ s'=>Inv X.ϐ ϵ σ H s'/\zL X σ H ks (λi j=>aM (rk i) (rk j)) κ) (λ_ _=>False) s:=λT Q R S=>
   kind_any t () S Q R (λo=>#[I,any _ (.inr (.inr #[rfl,λi hi z=>absurd (o _ (J i () z)) (by decide)]))]) #[I,any _ (.inl rfl)] #[I,any _ (.inr (.inl rfl))]
  obtain hk|hk:=f.2
  .show fin (.type "int") (by decide) (by decide) λv u=>?_
   obtain⟨i,⟨e,_⟩|⟨x,U,e,l,g⟩⟩:=B _ u
   .cases e
   .cases e;let#[m,rfl]:=hk i x l;let#[t,rfl]:=g;show .now
  .show fin (.type "str") (by decide) (by decide) λv u=>?_
   obtain⟨i,⟨e,_⟩|⟨x,U,e,l,g⟩⟩:=B _ u
   .cases e
   .cases e;let#[m,rfl]:=hk i x l;let#[t,rfl]:=g;show .now
theorem afv{x y z:V}(h1:jg x y)(h2:jg y z)(a:ltV x y=true)(b:ltV y z=true):ltV x z=true:=by
 obtain⟨m,n,rfl,rfl⟩|⟨m,n,rfl,rfl⟩:=h1
 .obtain⟨c,k,e,rfl⟩|⟨_,_,e,_⟩:=h2
  .cases e;show decide_eq_true (by have:=of_decide_eq_true a;have:=of_decide_eq_true b;omega)
  .cases e
 .obtain⟨_,_,e,_⟩|⟨c,k,e,rfl⟩:=h2
  .cases e
  .cases e;show decide_eq_true (apj (of_decide_eq_true a) (of_decide_eq_true b))
theorem aeJ{x y z:V}(h1:jg x y)(h2:jg y z)(a:ltV x z=true):ltV x y=true\/ltV y z=true:=by
 obtain⟨m,n,rfl,rfl⟩|⟨m,n,rfl,rfl⟩:=h1
 .obtain⟨f,k,e,rfl⟩|⟨_,_,e,_⟩:=h2
  .cases e;have:=of_decide_eq_true a;by_cases h:m<n
   .show .inl (decide_eq_true h)
   .show .inr (decide_eq_true ())
  .cases e
 .obtain⟨_,_,e,_⟩|⟨f,k,e,rfl⟩:=h2
  .cases e
  .cases e;by_cases h:m.cps.toList<n.cps.toList
   .show .inl (decide_eq_true h)
   .show .inr (decide_eq_true ?_);let c:n.cps.toList<=m.cps.toList:=apb.mp h;show List.lt_of_le_of_lt c (of_decide_eq_true a)
theorem Tw{rk:Nat->List V}(a:oU rk):aN λi j=>aM (rk i) (rk j)where
 ir:=λi=>by
  show aM (rk i) (rk i)=false;obtain e|⟨x,e⟩:=a.1 i
  .rw[e];rfl
  .rw[e];show zQ x
 tr:=λi j k h1 h2=>by
  let h1:aM (rk i) (rk j)=true:=h1;let h2:aM (rk j) (rk k)=true:=h2;show aM (rk i) (rk k)=true;obtain ei|⟨x,ei⟩:=a.1 i<;>obtain c|⟨y,c⟩:=a.1 j<;>obtain f|⟨z,f⟩:=a.1 k<;>rw[ei]at h1⊢ <;>rw[c]at h1 h2<;>rw[f]at h2⊢ <;>first|(cases h1;done)|(cases h2;done)|rfl|show afv (a.lk ei c) (a.lk c f) h1 h2
 nt:=λi j k h=>by
  let h:aM (rk i) (rk k)=true:=h;show aM (rk i) (rk j)=true\/aM (rk j) (rk k)=true;obtain ei|⟨x,ei⟩:=a.1 i<;>obtain c|⟨y,c⟩:=a.1 j<;>obtain f|⟨z,f⟩:=a.1 k<;>rw[ei,f]at h<;>rw[ei,c,f]<;>first|(cases h;done)|show .inl rfl|show .inr rfl|show aeJ (a.lk ei c) (a.lk c f) h
end
section
variable{X:Cx}{σ:St}{H:Hp}{Q:VK}{e ke re:Ϩ}{p pos kp rp:Pos}
def w6(X:Cx)(σ:St)(b:Bool)(v a:V)(H:Hp)(Q:VK):=∃(l f:δ)(xs:List V)(KV:Nat->V->Hp->Prop)(lt:Nat->Nat->Bool),v=.ref l/\a=.ref f/\η X.K H l xs/\xs.length<64/\aN lt/\tR X σ (.ref f) xs H KV/\kZ X σ xs.length (wC KV) lt/\
 ∀p H' q,ζ H H'->H' p=none->dW xs.length (iI b lt) q->Q (.ref p) (upd H' p (.lst (dh xs q)))
theorem Vh(j:X.mg "sorted"=none)(h:EV X e σ H λv H1=>EV X ke σ H1 λa H2=>w6 X σ false v a H2 Q)(m:Gl X "sorted":=by rfl)(c:abo [e] X.env=[(false,eval e X.env)]:=by rfl):EV X (.Call (.Name "sorted" p) [e] [#[some "key",ke,kp]] pos) σ H Q:=by
 intro ϵ s I;show ajK (jh I m j PyProof.Rows.boot_sorted ?_ (by decide) (by decide));let n:EA X [e] σ H (λvs H1=>∃v,vs=[v]/\EV X ke σ H1 λa H2=>w6 X σ false v a H2 Q):=eF c (aG h λv H1 q=>jT #[v,rfl,q]);show callWith_kw (χ (n pos ϵ s I) λus o y=>?_) (by rw[c];rfl) (by rw[c];rfl);let#[vs,H1,z,B,v,C,D]:=y;subst C;let#[u,rfl,E]:=Vals.one B;show kws_cons (χ (D ϵ o z) λO P ⟨a,H2,F,G,J⟩=>kws_nil ?_);let#[l,f,xs,KV,lt,rfl,rfl,hs,i,W,L,M,g]:=J;cases E;cases G;show UT (kw:=[(Ϫ "key",.ref f)]) W hs i (λvs r=>#[L.fn r,M]) F (ksk_s1 _ _) (λx=>ksk_l1 _ _) (λx=>ksk_t1 f x) g
theorem acA{b:Bool}(n:Gl X "sorted")(o:X.mg "sorted"=none)(j:abo [e] X.env=[(false,eval e X.env)])(h:EV X e σ H λv H1=>EV X ke σ H1 λa H2=>EV X re σ H2 λc i=>c=.bl b/\w6 X σ b v a i Q):EV X (.Call (.Name "sorted" p) [e] [#[some "key",ke,kp],#[some "reverse",re,rp]] pos) σ H Q:=by
 intro ϵ s I;show ajK (jh I n o PyProof.Rows.boot_sorted ?_ (by decide) (by decide));let y:EA X [e] σ H (λvs H1=>∃v,vs=[v]/\EV X ke σ H1 λa H2=>EV X re σ H2 λc i=>c=.bl b/\w6 X σ b v a i Q):=eF j (aG h λv H1 q=>jT #[v,rfl,q]);show callWith_kw (χ (y pos ϵ s I) λus z B=>?_) (by rw[j];rfl) (by rw[j];rfl);let#[vs,H1,C,D,v,E,F]:=B;subst E;let#[u,rfl,G]:=Vals.one D;show kws_cons (χ (F ϵ z C) λZ J ⟨a,H2,L,M,O⟩=>kws_cons (χ (O ϵ J L) λu3 s3 ⟨c,i,P,R,S,T⟩=>kws_nil ?_));let#[l,f,xs,KV,lt,rfl,rfl,hs,m,W,U,Y,g]:=T;subst S;cases G;cases M;cases R;show UT (kw:=[(Ϫ "key",.ref f),(Ϫ "reverse",.bool b)]) W hs m (λvs r=>#[U.fn r,Y]) P (ksk_s2 _ _ _) (λx=>ksk_l2 _ _ _) (λx=>ksk_t2 f x b) g
abbrev Cx.uh(X:Cx):Cx:={X.ϐ with xe:=λ_ _=>False}
theorem Inv.uh{ϵ:List (δ×Obj)}{s:μ}(I:Inv X.ϐ ϵ σ H s):Inv X.uh ϵ σ H s:=
 #[#[I.ok.mod,I.ok.kind,I.ok.glob,I.ok.blt,I.ok.above,I.ok.inj,I.ok.has,I.ok.cab,I.ok.hd,I.ok.frames,I.ok.stk,I.ok.exf,I.ok.bs,I.ok.bsz,I.ok.noex,I.ok.exfs,I.ok.funs,I.ok.frf],I.os,I.bare,I.base,I.loc,I.cell,I.free,I.freeC,I.pin,I.hok,I.len]
theorem Inv.unX{ϵ:List (δ×Obj)}{s:μ}(I:Inv X.uh ϵ σ H s):Inv X.ϐ ϵ σ H s:=
 #[#[I.ok.mod,I.ok.kind,I.ok.glob,I.ok.blt,I.ok.above,I.ok.inj,I.ok.has,I.ok.cab,I.ok.hd,I.ok.frames,I.ok.stk,I.ok.exf,I.ok.bs,I.ok.bsz,I.ok.noex,I.ok.exfs,I.ok.funs,I.ok.frf],I.os,I.bare,I.base,I.loc,I.cell,I.free,I.freeC,I.pin,I.hok,I.len]
theorem afD{cc:Bool}{k:Nat}{x:Str}{ps:List Str}{sp:Sp}{xs:List V}{KV:Nat->V->Hp->Prop}(F:Def X.prog X.w X.K X.mg X.base cc k x ps sp)(c:ϖ cc (k+2) X.A)(a:∀i v H H',ζ H H'->KV i v H->KV i v H')(h:∀(i:Nat) x H',xs[i]?=some x->ζ H H'->sp [x] H' (λv H2=>ζ H' H2/\KV i v H2) (λ_ _ _=>False)):∃f:δ,X.mg x=some (.ref f)/\tR X σ (.ref f) xs H KV:=by
 let#[f,fd,h1,h2,e,g]:=F.ex;show#[f,h1,a,λi x u ϵ s H' j l m I=>?_];have:=qi (X:=X.uh) (us:=[u]) (vs:=[x]) (Kx:=λ_ _ _ _=>False) g c.in1.in1 e (V4 rfl) I.uh (.cons l .nil) (h i x H' j m);show aef this (λw s' ⟨v,H2,n,o,q⟩=>#[v,H2,n.unX,o,q]) λ_ _ z=>z
theorem abk{x:Str}{f:δ}(h:X.mg x=some (.ref f))(a:Gl X x)(hd:(x==("__debug__":Str))=false)(q:Q (.ref f) H):EV X (.Name x p) σ H Q:=wD (Qq (v:=.ref f) a h rfl hd) q
end
theorem abR{p p':Pos}(h1:p.line=p'.line)(h2:p.col=p'.col)(l:List ε):codeAmong p l=codeAmong p' l:=by
 fun_induction codeAmong p l with
 |case1 a t b u c rest h=>unfold codeAmong;rw[<-h1, <-h2,if_pos h]
 |case2 a t b u c rest h e=> rw[e];conv=>rhs;unfold codeAmong
                             rw[<-h1, <-h2,if_neg h]
 |case3 l h=>unfold codeAmong;split <;>first|rfl|(exfalso;show h _ _ _ _ _ _ rfl)
theorem agd{p a:Pos}{c f:ε}(l:List ε)(h:TriplesOk l)(e:codeAmong p (l++[rawInt a.line,rawInt a.col,c])=some f):codeAmong p l=some f\/(f=c/\a.line=p.line/\a.col=p.col):=by
 fun_induction TriplesOk l with
 |case1=>
  simp only[aoo,rawInt,codeAmong]at e;split at e
  .rename_i hh;cases e;simp only[aa2,beq_iff_eq]at hh;show .inr #[rfl,(),()]
  .cases e
 |case2 x t y u z rest g=>
  simp only[aoY,codeAmong]at e⊢;split at e
  .rename_i hh;rw[if_pos hh];show .inl e
  .rename_i hh;rw[if_neg hh];show g h e
 |case3 l h1 h2=>show h.elim
def BM(mg:Str->Option ε)(base:ϫ):=∃bm a,mg "__builtins__"=some (.ref bm)/\bm≠builtinsNs/\base.get? bm=some a/\a.cls=.type "module"/\a.dict=some builtinsNs/\a.data=.plain
abbrev uT:HO:=.ext λ_=>True
theorem Fq{P:Ϯ}{w:Ϭ}{H:Hp}{h:ϫ}{a:δ}{o:Obj}(e:h.get? a=some o):ϕ P w H h a (.frz o uT):=#[e,trivial,#[o,e],λ_ _ _ _=>trivial]
section
variable{X:Cx}{σ:St}{H:Hp}{D:Ends}
theorem ai4{name qual:Str}{g:Arguments}{body:List ϧ}{scope:ahU}{pos:Pos}{clos:List (Str×δ)}{c P:δ}{ps:Array ε}{t:Tok}{j:Nat}(hN:X.N.Nodup)(hj:X.N[j]?=some name)(T:X.env.scope.names.lookup name=some .local)(x:X.env.code=.ref c)(C:CodeHd X.base c P)(B:BM X.mg X.base)(G:closureFor scope X.env=pure clos)(J:H P=some (.tbl ps))(L:codeAmong pos ps.toList=some (.str qual t))(hq:qualnameIn X.env name name=qual)(ab:g.defaults=[])(ac:g.kw_defaults=[])(ha:annTrees g none X.env=[])(h:∀(f m:δ)(oc:Obj)(i pm l:ε)(vs:Array ε)(t':Tok)(H':Hp),ζ H H'->H f=none->H' f=some (.frz (fnMade name qual g body scope clos i pm m l) uT)->(∃u,H' m=some (.frz oc u))->oc.data=.fields vs->vs[1]?=some (.str qual t')->D.nx (σ.set j (some (.ref f))) H'):SX X (.FunctionDef name g body [] none [] scope none name pos) D σ H:=by
 intro ϵ s I;show nestDef_K ab ac ha ?_;rw[hq];let#[qs,U,tr,z]:=(I.hok P _ J:ϕ X.prog X.w H s.heap P (.tbl ps));let W:s.heap.Ns mainGlobals X.mg:=I.mod.glob.keeps I.bk;let#[bm,ob,b1,b2,b3,b4,b5,b6]:=B;let M:=I.bk _ _ b3;let ae:mainGlobals≠P:=λq=>by
  let#[o,es,ep,e,hd,_]:=W;rw[q,U]at e;cases e;cases hd
 let af:bm≠P:=λq=>by rw[q,U]at M;cases M;cases b4
 let ag:bm≠mainGlobals:=λq=>by
  let#[o,es,ep,e,hd,_]:=W;rw[q,e]at M;cases M;rw[hd]at b6;cases b6
 let E:s.heap.BuiltinsAt X.mg P:=#[bm,ob,b1,b2,ag,af,M,b4,b5,b6];let CC:=C.keeps I.bk;cases hf:codeAmong pos qs.toList with
 |some cv=>
  let#[m,oc,u,q,t2,vs,t',rfl,Y,e3,e4,e5]:=z pos cv hf;rw[L]at Y;cases Y;show makeFunction_hit G I.ok.glob W x CC U tr hf E λl i h' tk hk hsz=>?_
  let I1:=I.laid (a:=h'.objs.size) (o:=.frz (fnMade name qual g body scope clos i ((X.mg "__name__").getD .none) m l) uT) (t':=tk) (h':=h'.push (fnMade name qual g body scope clos i ((X.mg "__name__").getD .none) m l)) (λb o e=>ϴ _ (hk b o e)) hsz (Fq (abb _ rfl));let O:=I.hok.fresh hsz;let Z:ζ H (upd H h'.objs.size (.frz (fnMade name qual g body scope clos i ((X.mg "__name__").getD .none) m l) uT)):=ζ.upd O;show oO (v:=.ref h'.objs.size) I1 hN hj (.inl T) rfl (λs' I' _=>?_) (.inr T);show#[_,_,I',h _ m oc i _ l vs t' _ Z O υ #[u,Z _ _ e3] e4 e5]
 |none=>
  show makeFunction_K G I.ok.glob W x CC U tr hf ae E λm l i h' tk ah y F Q R=>?_
  let#[c₂,oc,vs,t',Y,ai,hd,hv]:=Q;cases Y;let al:H m=none:=I.hok.fresh y;let S:H h'.objs.size=none:=I.hok.fresh (anp (afZ y F));let Ϲ:m≠h'.objs.size:=adv F;let hPlt:=I.hok.lt J;let old:∀b u,H b=some u->(upd (upd H m (.frz oc uT)) h'.objs.size (.frz (fnMade name qual g body scope clos i ((X.mg "__name__").getD .none) m l) uT)) b=some u:=λb u e=>by
   rw[ο (Ϗ e S),ο (Ϗ e al)];show e
  let nP:∀b,H b=none->b≠P:=λb e z=>by rw[z,J]at e;cases e
  let lt':∀b o,s.heap.get? b=some o->b≠m/\b≠h'.objs.size:=λb o e=>by
   have:=abL e;show#[adv (abM this y),adv (abM this (anp (afZ y F)))]
  let kp:∀b o,b≠P->s.heap.get? b=some o->(h'.push (fnMade name qual g body scope clos i ((X.mg "__name__").getD .none) m l)).get? b=some o:=λb o E e=>ϴ _ (ah b o E e)
  let I1:Inv X ϵ σ (upd (upd H m (.frz oc uT)) h'.objs.size (.frz (fnMade name qual g body scope clos i ((X.mg "__name__").getD .none) m l) uT)) {s with heap:=h'.push (fnMade name qual g body scope clos i ((X.mg "__name__").getD .none) m l),toks:=tk}:=by
   show I.un (t':=tk) #[λb o e n _ _=>kp b o (nP b n) e,λb o e n _ _=>#[o.slots,kp b o (nP b n) e],λb o e n _=>?_,λb o e _=>?_,λb xs q=>old _ _ q,λb o u q=>old _ _ q,λb ps' q=>#[#v[],by rw[old _ _ q];simp]] λb u e=>?_
   .rw[ο (lt' b o e).2,ο (lt' b o e).1];show n
   .by_cases E:b=P
    .show#[_,by rw[E];show ϴ _ R]
    .show#[_,kp b o E e]
   .by_cases h1:b=h'.objs.size
    .subst h1;rw[υ]at e;cases e;show Fq (abb _ rfl)
    .rw[ο h1]at e;by_cases h2:b=m
     .subst h2;rw[υ]at e;cases e;show Fq (ϴ _ ai)
     .rw[ο h2]at e;by_cases h3:b=P
      .subst h3;rw[J]at e;cases e;show#[_,ϴ _ R,?_,λp cv hc=>?_]
       .rw[anw];show TriplesOk_snoc _ _ _ _ tr
       .rw[anw]at hc;obtain h4|⟨rfl,h5,h6⟩:=agd _ tr hc
        .let#[c2,am,u2,q2,t2,ar,t3,g1,g2,g3,g4]:=z p cv h4;show#[c2,am,u2,q2,t2,ar,t3,g1,g2,old _ _ g3,g4]
        .show#[m,oc,uT,qual,t,vs,t',rfl,?_,?_,hd,hv]
         .rw[<-abR h5 h6];show L
         .rw[ο Ϲ,υ]
      .show(I.hok b u e).stay (λa v ha q=>kp a v ?_ q) (λa q=>old _ _ q) (λa xs q=>old _ _ q) λa ob v q=>old _ _ q
       obtain rfl|ha:=ha
       .show h3
       .intro z2;rw[z2,J]at ha;cases ha
  let Z:ζ H (upd (upd H m (.frz oc uT)) h'.objs.size (.frz (fnMade name qual g body scope clos i ((X.mg "__name__").getD .none) m l) uT)):=old;show oO (v:=.ref h'.objs.size) I1 hN hj (.inl T) rfl (λs' I' _=>?_) (.inr T);show#[_,_,I',h _ m oc i _ l vs t' _ Z S υ #[uT,by rw[ο Ϲ,υ]] hd hv]
abbrev vU(X:Cx)(qual:Str)(scope:ahU)(f:δ)(cd:ε)(cl:List (Str×δ))(N:List Str)(s:μ)(H:Hp):Cx where
 prog:=X.prog
 w:=X.w
 K:=X.K
 mg:=X.mg
 base:=X.base
 A:=X.A.deeper (envX qual scope s.heap.objs.size f cd cl)
 N:=N
 s₀:=s
 H₀:=H
 env:=envX qual scope s.heap.objs.size f cd cl
 outer:=X.stack
 stack:=envX qual scope s.heap.objs.size f cd cl::X.stack
 ex:=[]
 fn:=λ_=>false
 calm:=X.calm
 pn:=[]
 xe:=λ_ _=>False
theorem aeT{ϵ:List (δ×Obj)}{s:μ}{f n c:δ}{name qual x y:Str}{g:Arguments}{body:List ϧ}{scope:ahU}{o pm B u:ε}{u0 u1:HO}{oc:Obj}{vs:Array ε}{t':Tok}{v z:V}{j:Nat}{Q:VK}{E:ε->μ->Prop}(I:Inv X ϵ σ H s)(hf:H f=some (.frz (fnMade name qual g body scope [(y,c)] o pm n B) u0))(Y:H n=some (.frz oc u1))(Z:oc.data=.fields vs)(D:vs[1]?=some (.str qual t'))(F:X.A.depth<recursionLimit)(hb:∀o pm n B (u:ε),bindArgs (fnX name qual g body scope [(y,c)] .none .none o pm none (.ref n) B) #[[u],[]]=pure [(x,u)])(hk:scope.kind=.function)(ab:scope.isCoroutine=false)(L:scope.isGenerator=false)(W:scope.names.lookup x=some .local)(M:scope.names.lookup y=some .free)(O:∀a∈scope.names,a.2≠.cell)(ac:∀a,scope.names.lookup a=some .free->a=y)(hj:X.N[j]?=some y)(ae:σ[j]?=some (some z))(P:X.env.scope.names.lookup y=some .cell)(S:X.env.cells.lookup y=some c)(T:RelV v u)(h:Ο (vU X qual scope f (.ref n) [(y,c)] [x,y] s H) body {nx:=λ_ H'=>Q .non H',rt:=Q} [some v,some z] H):ν (Ϧ X.prog X.w) X.A (call (.ref f) [u]) (EP X ϵ σ Q) E s:=by
 let C:=I.env0;let#[ef,_]:=(I.hok f _ hf:ϕ X.prog X.w H s.heap f (.frz _ u0));let#[ec,_]:=(I.hok n _ Y:ϕ X.prog X.w H s.heap n (.frz oc u1));let af:s.heap.CodeRec (.ref n) qual:=#[n,oc,vs,t',rfl,ec,Z,D];let hxy:x≠y:=λe=>by rw[e,M]at W;cases W
 let#[m,hm,hl]:=id I.loc;let#[uz,rz,lk]:=hl j y z hj ae (.inr (.inl P));obtain⟨Mg⟩:Nonempty (s.heap.IsCell c (some uz)):=by
  obtain⟨k,_⟩|⟨_,c2,e,q⟩:=lk
  .rw[show X.env.kindOf y=X.env.scope.names.lookup y from rfl,P]at k;cases k
  .rw[S]at e;cases e;show#[q]
 show wpAny_call (akq (codeAny_call_def (R:=λr s'=>match r with|.ok (.ret u)=>CE X.stack X.prog X.w H s Q u s'|.ok _=>False|.error _=>False) (fd:=fnX name qual g body scope [(y,c)] .none .none o pm none (.ref n) B) (body:=body) (binds:=[(x,u)]) F ef rfl I.nolimit af rfl (.of_eq (hb o pm n B u)) O (λa ha=>by cases acN.mp ha;show W) (λU ag l=>?_) ab L hk) λr s' D=>?_)
 .let I1:Inv (vU X qual scope f (.ref n) [(y,c)] [x,y] s H) [] [some v,some z] H {s with heap:=U,toks:=s.toks+[(x,u)].length}:=by
   let G:∀b:δ,b∉(vU X qual scope f (.ref n) [(y,c)] [x,y] s H).ex:=λb z=>absurd (show b∈([]:List δ)from z) (by simp)
   show#[#[C.mod,hk,rfl,rfl,ϭ _,λa b d h1 h2=>?_,λa ha=>?_,λa d h1=>(by cases h1),I.ok.hd,Around.frames_deeper C.frames,.inr #[rfl,rfl],λb z=>absurd z (G b),C.bs,C.bsz,λb _ _=>G b,λb z=>absurd z (G b),C.funs,C.frf],
    rfl,C.bare,Un.kept l,#[_,ag,λi a b h1 h2 h3=>?_],λa d h1=>?_,C.hok.fresh (ϭ _),λa d h1=>?_,λp hp=>absurd (show p∈([]:List (δ×Obj))from hp) (by simp),C.hok.kept l,rfl]
   .let h1:([(y,c)]:List (Str×δ)).lookup a=some d:=h1;let h2:([(y,c)]:List (Str×δ)).lookup b=some d:=h2;let e1:=PySem.mem_of_lookup h1;let e2:=PySem.mem_of_lookup h2;rw[acN]at e1 e2;cases e1;cases e2;rfl
   .let ha:scope.names.lookup a=some .cell\/scope.names.lookup a=some .free:=ha;obtain ha|ha:=ha
    .show absurd rfl (O _ (PySem.mem_of_lookup ha))
    .cases ac a ha;show#[c,by show([(y,c)]:List (Str×δ)).lookup y=some c;simp[ais]]
   .match i,h1,h2 with
    |0,h1,h2=>
     cases h1;cases h2;show#[u,T,.inl #[W,by simp[ais]]]
    |1,h1,h2=>
     cases h1;cases h2;show#[uz,rz,.inr #[.inr M,c,by show([(y,c)]:List (Str×δ)).lookup y=some c;simp[ais],Mg.keeps l]]
    |i+2,h1,h2=>simp at h1
   .let e1:=PySem.mem_of_lookup (show([(y,c)]:List (Str×δ)).lookup a=some d from h1);rw[acN]at e1;cases e1;show#[_,Mg.keeps l]
   .let e1:=PySem.mem_of_lookup (show([(y,c)]:List (Str×δ)).lookup a=some d from h1);rw[acN]at e1;cases e1;show I.freeC y c S
  show aef (h [] _ I1) (λfl s' hs=>?_) λ_ _ z=>z.elim
  let fin:∀{σ':St}{H':Hp}{v:V}{u:ε},Inv (vU X qual scope f (.ref n) [(y,c)] [x,y] s H) [] σ' H' s'->RelV v u->Q v H'->CE X.stack X.prog X.w H s Q u s':=
   λ{σ' H' v u} J T q=>#[v,H',J.os,J.bare,J.base,J.hok,T,q]
  cases fl with
  |ret u=>
   let#[v,σ',H',J,T,q]:=hs;show fin J T q
  |next=>
   let#[σ',H',J,q]:=hs;show fin (v:=V.non) (u:=Value.none) J rfl q
  |brk=>
   let#[_,_,_,q]:=hs;show False.elim q
  |cont=>
   let#[_,_,_,q]:=hs;show False.elim q
 .cases r with
  |error e=>show D.elim
  |ok fl=>
   cases fl with
   |ret u=>show I.after D
   |next=>show False.elim D
   |brk=>show False.elim D
   |cont=>show False.elim D
end
def ie(K:ϩ)(x:Str):δ:=((tabIn K x).getD (0,0)).1
def cJ(K:ϩ)(x:Str):δ:=((tabIn K x).getD (0,0)).2
def yF(p:Pos)(q:Str):Array ε:= #v[rawInt p.line,rawInt p.col,.str q 0]
theorem ajl(p:Pos)(q:Str):codeAmong p (yF p q).toList=some (.str q 0):=by simp[yF,codeAmong,rawInt]
def Gv(K:ϩ)(x:Str):Bool:=match tabIn K x with
 |some a=>(K.lookup a.2).isNone
 |none=>false
theorem aal{K:ϩ}{x:Str}(h:Gv K x=true):tabIn K x=some (ie K x,cJ K x)/\K.lookup (cJ K x)=none:=by
 unfold Gv at h;unfold ie cJ;cases e:tabIn K x with
 |none=>rw[e]at h;cases h
 |some a=>
  rw[e]at h;show#[rfl,by simpa using h]
structure cM(K:ϩ)(mg:Str->Option ε)(base:ϫ)(x:Str):Prop where
 tab:tabIn K x=some (ie K x,cJ K x)
 code:CodeHd base (ie K x) (cJ K x)
 bm:BM mg base
 kin:K.In base
 glob:base.Ns mainGlobals mg
theorem abE{P:Ϯ}{w:Ϭ}{K:ϩ}{mg mb:Str->Option ε}{CX:fO}{k:Nat}{U a:δ}{fd:ah2}{x xn:Str}{sp:Sp}{s₁:μ}{vs:List ε}{ns:List Int}{ps:Array ε}(KX:K.In s₁.heap)(E:s₁.heap.Ns mainGlobals mg)(f:s₁.heap.Ns builtinsNs mb)(W:∀x:Str,x≠"__name__"->mb x=bootBuiltins x)(M:s₁.heap.NoLimit)(hg:s₁.gens= #v[])(L:s₁.heap.get? a=some {cls:=.type "list",data:=.seq vs.toArray})(hi:IntsAre vs ns)(hl:ns.length<=ϰ)(hr:ϖ cc k callerA)(hT:tabIn K xn=some (ie K xn,cJ K xn))(X:CodeHd s₁.heap (ie K xn) (cJ K xn))(l:s₁.heap.get? (cJ K xn)=some (tabObj #v[]))(Y:K.lookup (cJ K xn)=none)(hB:BM mg s₁.heap)(F:∀base:ϫ,K.In base->base.Ns mainGlobals mg->cM K mg base xn->cT P w K mg base CX cc k U fd [x] sp)(G:∀(s:μ)(u:ε),BindsTo s fd #[[u],[]] [(x,u)])(O:∀H:Hp,η K H a (ns.map V.int)->H (cJ K xn)=some (.tbl ps)->sp [.ref a] H (λv _=>v=.bl true) λ_ _ _=>False)(Z:∀H e s',CX [] H s₁ (λ_ _ _=>False) e s'->False):codeAny (Ϧ P w) callerA (.call (.ref U) #[[.ref a],[]]) (λr s'=>r=.ok (.ret (.bool true))/\OldK s₁.heap s'.heap/\s'.os=s₁.os/\AllBare s'.gens) s₁:=by
 let rv:=Hz hi;let Q:=hi.length;generalize ab:cJ K xn=pt at X l Y O;let I:pt≠a:=λz=>by rw[z,L]at l;cases l
 let y:∀H:Hp,η K H a (ns.map V.int)->H pt=some (.tbl ps)->Ϣ P w H s₁.heap->(∀b,H b=none\/b=a\/b=pt)->(∀b,H b=none\/K.lookup b=none)->(∀u,H a=some u->∃o v,u=.frz o v)->
   codeAny (Ϧ P w) callerA (.call (.ref U) #[[.ref a],[]]) (λr s'=>r=.ok (.ret (.bool true))/\OldK s₁.heap s'.heap/\s'.os=s₁.os/\AllBare s'.gens) s₁:=by
  intro H hS hH hok hA hK ac;let c:∀{b:δ}{o:Obj},s₁.heap.get? b=some o->H b=none->(jf s₁.heap H).get? b=some o:=λe n=>afp e n
  let free:∀{b:δ}{o:Obj},s₁.heap.get? b=some o->o.cls≠.type "list"->o.cls≠.none->H b=none:=λ{b o} e n1 n2=>by
   obtain z|z|z:=hA b
   .show z
   .rw[z,L]at e;cases e;show absurd rfl n1
   .rw[z,l]at e;cases e;show absurd rfl n2
  let ae:∀{b:δ}{o:Obj}{es:Array DictEntry}{ep:Nat},s₁.heap.get? b=some o->o.data=.dict es ep->H b=none:=λ{b o es ep} e d=>by
   obtain z|z|z:=hA b
   .show z
   .rw[z,L]at e;cases e;let d':Data.seq vs.toArray _=Data.dict es ep:=d;cases d'
   .rw[z,l]at e;cases e;let d':Data.fields #v[]=Data.dict es ep:=d;cases d'
  let i:∀{b:δ}{m:Str->Option ε},s₁.heap.Ns b m->(jf s₁.heap H).Ns b m:=λ{b m} ⟨o,es,ep,e,d,r⟩=>#[o,es,ep,c e (ae e d),d,r];let J:K.In (jf s₁.heap H):=λb o e=>c (KX b o e) (by
   obtain z|z:=hK b
   .show z
   .rw[z]at e;cases e)
  let hM:Mod K mg (jf s₁.heap H):=#[J,i E,#[mb,i f,W],let⟨mc,h1,h2⟩:=M;#[mc,i h1,h2]];let hN:cM K mg (jf s₁.heap H) xn:=by
   show#[hT,?_,?_,J,i E]
   .rw[ab];let#[o,vs,B,tf,j,tg,inF,C,tt,e1,R,r]:=X;show#[o,vs,B,tf,j,tg,inF,C,tt,c e1 (free e1 (by rw[R];decide) (by rw[R];decide)),R,r]
   .let#[bm,S,b1,b2,b3,b4,r]:=hB;show#[bm,S,b1,b2,c b3 (free b3 (by rw[b4];decide) (by rw[b4];decide)),b4,r]
  let e0:lU P w K mg (jf s₁.heap H) callerA [] s₁ H:=#[rfl,hM,λb o e=>ab0 e,al5 (Xy _ _),trivial,λb f=>absurd (show b∈([]:List δ)from f) (by simp),hok,.of_eq hg];show akq ((F _ J (i E) hN).run callerA [] s₁ H #[[.ref a],[]] [.ref a] [.ref a] _ _ hr e0 (G s₁ (.ref a)) (.cons rfl .nil) (O H hS hH)) λr s' h=>?_
  cases r with
  |error e=>show(Z H e s' h).elim
  |ok fl=>
   cases fl with
   |next=>show False.elim h
   |brk=>show False.elim h
   |cont=>show False.elim h
   |ret u=>
    let#[v,H',os,bare,un,D,r',q]:=h;let q':v=.bl true:=q;subst q';obtain rfl:u=Value.bool true:=r';let#[T,hm]:=un.tbls pt ps hH;let#[qs,eq,_]:=(D pt _ hm:ϕ P w H' s'.heap pt (.tbl (ps++T)));let all:∀b o,s₁.heap.get? b=some o->asItWas s₁.heap s'.heap b o:=λb o e=>by
     obtain z|z|z:=hA b
     .show .inl (un.keep b o e z (by intro z;show absurd (show b∈([]:List δ)from z) (by simp)) (by simp))
     .cases e3:H b with
      |none=>show .inl (un.keep b o e e3 (by intro z;show absurd (show b∈([]:List δ)from z) (by simp)) (by simp))
      |some u=>
       let#[S,v,rfl]:=ac u (by rw[<-z];show e3);let z2:=un.frzs b S _ e3;let#[e1,_]:=(hok b _ e3:ϕ P w H s₁.heap b (.frz S v));let#[e2,_]:=(D b _ z2:ϕ P w H' s'.heap b (.frz S v));rw[e]at e1;cases e1;show .inl e2
     .subst z;rw[l]at e;cases e;let#[o,vs,B,tf,j,tg,inF,C,tt,e1,R,r2,r3,_]:=X;show .inr (.inl #[#[_,o,vs,e1,R,r2,r3],rfl, #v[],qs,rfl,?_]);rw[eq];simp
    show#[rfl,#[all,λb o e=>?_],os,bare];show un.there b o e (by simp)
 cases hk:K.lookup a with
 |some o=>
  let e:=KX a o hk;rw[L]at e;cases e;show y (λb=>if b=pt then some (.tbl ps)else none) (.inr #[_,vs.toArray,_,hk,rfl,rfl,rfl,by rw[aa8,Q];show hl,by simpa using rv]) (if_pos rfl) (λb u z=>?_) (λb=>?_) (λb=>?_) λu z=>?_
  .by_cases f:b=pt
   .let z':=(if_pos f).symm.trans z;cases z';subst f;show#[#v[],l,trivial,λp cv h=>by simp[codeAmong]at h]
   .let z':=(if_neg f).symm.trans z;cases z'
  .by_cases f:b=pt
   .show .inr (.inr f)
   .show .inl (if_neg f)
  .by_cases f:b=pt
   .show .inr (by rw[f];show Y)
   .show .inl (if_neg f)
  .let z':=(if_neg (Ne.symm I)).symm.trans z;cases z'
 |none=>
  show y (λb=>if b=pt then some (.tbl ps)else if b=a then some (.frz {cls:=.type "list",data:=.seq vs.toArray} (.lst (ns.map V.int)))else none) (.inl (.inr #[{cls:=.type "list",data:=.seq vs.toArray},(if_neg (Ne.symm I)).trans (if_pos rfl)])) (if_pos rfl) (λb u z=>?_) (λb=>?_) (λb=>?_) λu z=>?_
  .by_cases f:b=pt
   .let z':=(if_pos f).symm.trans z;cases z';subst f;show#[#v[],l,trivial,λp cv h=>by simp[codeAmong]at h]
   .let z':=(if_neg f).symm.trans z;by_cases g:b=a
    .let z2:=(if_pos g).symm.trans z';cases z2;subst g;show#[L,by rw[aav];show hl,vs,_,rv,L]
    .let z2:=(if_neg g).symm.trans z';cases z2
  .by_cases f:b=pt
   .show .inr (.inr f)
   .by_cases g:b=a
    .show .inr (.inl g)
    .show .inl (by rw[if_neg f,if_neg g])
  .by_cases f:b=pt
   .show .inr (by rw[f];show Y)
   .by_cases g:b=a
    .show .inr (by rw[g];show hk)
    .show .inl (by rw[if_neg f,if_neg g])
  .let z':=(if_neg (Ne.symm I)).symm.trans z;let z2:=(if_pos rfl).symm.trans z';cases z2;show#[_,_,rfl]
theorem ae3{l:W.OpenLaw}{n k:Nat}{q:Ϯ}{g:List Str}{P:(Str->Option ε)->ϫ->Prop}{M:Ϭ->ϫ->Prop}{d:DefRec}{K:Params->ϩ}{CX:Ϭ->fO}{sp:Ϭ->Sp}{x xn:Str}{ps:Array ε}(Q:l.most=some n)(B:n<=ϰ)(C:d.params.defaults=[])(R:ϖ cc k callerA)(S:∀(w:Ϭ)(h:ϫ),M w h->(K w.params).In h)(j:((recsOf q).find? (λe=>e.name==xn)).isSome=true)(m:∀w:Ϭ,Gv (K w.params) xn=true)(F:∀(w:Ϭ)(mg:Str->Option ε)(z:δ)(h:ϫ),(K w.params).In h->h.Ns mainGlobals mg->mg d.name=some (.ref z)->
   ∃fd:ah2,(∀(s:μ)(u:ε),BindsTo s fd #[[u],[]] [(x,u)])/\
    ∀base:ϫ,(K w.params).In base->base.Ns mainGlobals mg->cM (K w.params) mg base xn->cT l.prog w (K w.params) mg base (CX w) cc k z fd [x] (sp w))(D:∀(w:Ϭ)(H:Hp)(a:δ)(ns:List Int),ns.length<=n->η (K w.params) H a (ns.map V.int)->H (cJ (K w.params) xn)=some (.tbl ps)->sp w [.ref a] H (λv _=>v=.bl true) λ_ _ _=>False)(E:∀(w:Ϭ)(H:Hp)(s:μ)(e:ε)(s':μ),CX w [] H s (λ_ _ _=>False) e s'->False):W.WalkO q g P M l.row.toRowW d [] (λf vs=>PySem.call f vs):=by
 show _A.ajA Q C λw s₀ p mg mb z o pm cd T a vs ns G Y ho hd U I y i c X=>?_
 let J:=S w _ Y;let#[fd,Z,hF]:=F w mg z _ J G.T.g I;let#[O,t2]:=aal (m w);let#[d',L]:=akT.mp j;let#[hC,hP]:=tab_of G.T J L O;show abE J G.T.g G.T.b G.T.builtins G.T.nolimit X y i (aeO c B) R O hC hP t2 G.T.bmain hF Z (λH hS hH=>D w H a ns c hS hH) λH e s'=>E w H p e s'
def Dy(K:ϩ)(x:Str)(ps:Array ε):Sp:=λvs H Q _=>∃(a:δ)(ns:List Int),vs=[.ref a]/\η K H a (ns.map V.int)/\ns.length<=63/\H (cJ K x)=some (.tbl ps)/\∀H',Q (.bl true) H'
theorem ai0{P:Ϯ}{w:Ϭ}{K:ϩ}{mg:Str->Option ε}{base:ϫ}{x:Str}{st:ϧ}{ps N:List Str}{k:Nat}{sp:Sp}(F:∃f fd,cH K x x st f fd/\mg x=some (.ref f))(i:cM K mg base x)(S:Ρ N ps (ω st))(n:∀(kV a pm:ε)(an:Option δ)(j ct:ε)(us:List ε),us.length=ps.length->bindArgs (aoE x x (jP st) (aB st) (ω st) .none kV a pm an j ct) #[us,[]]=pure (ps.zip us))(len:∀vs H Q E,sp vs H Q E->vs.length=ps.length)(body:∀(f:δ)(A:ϳ)(outer:List Env)(s:μ)(H:Hp)(vs:List V)(Q:VK)(E:XK),ϖ cc k (A.deeper (envOfC x (ω st) s.heap.objs.size f (.ref (ie K x))))->sp vs H Q E->
   Ο (iM cc P w K mg base N x (ω st) f (.ref (ie K x)) A outer s H E) (aB st) {nx:=λ_ H'=>Q .non H',rt:=Q} (start N vs) H):Def P w K mg base cc (k+1) x ps sp:=by
 let#[f,fd,F,m]:=F;show#[f,fd,m,F.kp,F.binds n,?_];let#[oc,od,kV,a,pm,an,j,ct,o,rfl,lk,l]:=id F.ex;let e:=i.tab;unfold tabIn at e;split at e
 .rename_i v p;let g:=ajF i.kin i.glob p;rw[m]at g;cases g;simp only[lk]at e;cases j with
  |ref c=>
   let q:c=ie K x:=by
    dsimp only at e;split at e
    .split at e
     .have :=Option.some.inj e;show congrArg Prod.fst this
     .cases e
    .cases e
   subst q;show Il lk l S len λA outer s H vs Q E u h=>#[_,FJ,body f A outer s H vs Q E u h]
  |_=>cases e
 .cases e
section
variable{X:Cx}{ϵ:List (δ×Obj)}{σ:St}{H:Hp}{s:μ}{d:δ}
end
def jq(keep:Nat->Bool)(n:Nat):List Nat:=(aeZ n).filter keep
theorem aiw(keep:Nat->Bool)(n:Nat):jq keep (n+1)=jq keep n++(if keep n=true then[n]else[]):=by
 unfold jq;rw[apa,anG];by_cases h:keep n=true
 .simp[h]
 .let h':keep n=false:=by simpa using h
  simp[h']
theorem adH(keep:Nat->Bool)(n:Nat):(jq keep n).length<=n:=by
 have:=ahW keep (aeZ n);rw[anO]at this;show this
section
variable{X:Cx}{e c:Ϩ}{σ σ':St}{H:Hp}{Q:VK}{D:Ends}{pos:Pos}{tg elt:Ϩ}{scope:ahU}
def JC(X:Cx)(N':List Str)(scope:ahU)(tg elt c:Ϩ)(σ':St)(H1:Hp)(Q:VK)(xs:List V):Prop:=
 ∃(g:St->Prop)(keep:Nat->Bool)(e:δ->Nat->V->Hp->Prop),g σ'/\
  (∀E i v H2 f ys,H2 E=some (.lst ys)->(∀b o,b≠E->H2 b=some o->f b=some o)->e E i v H2->e E i v f)/\
  (∀(fp:List δ)(E C:δ)(j:μ)(l:Hp)(i:Nat)(n:St)(x:V)(H2:Hp),H1 E=none->xs[i]?=some x->g n->ζ H1 H2->(∃ys,H2 E=some (.lst ys))->
   EG (cu X N' scope (ϔ scope X.env) C j l fp) tg x n H2 λa f=>ET (cu X N' scope (ϔ scope X.env) C j l fp) c a f λk m=>k=keep i/\g a/\ζ H2 m/\(k=true->EV (cu X N' scope (ϔ scope X.env) C j l fp) elt a m λv p=>e E i v p/\ζ m p))/\
  ∀(E:δ)(H2:Hp)(us:List V),H1 E=none->H2 E=some (.lst us)->_V.ς (λu i=>e E i u H2) us (jq keep xs.length)->ζ H1 H2->Q (.ref E) H2
theorem abQ{N':List Str}{l:δ}{xs:List V}(hn:xs.length<=ϰ)(M:η X.K H l xs)(h:JC X N' scope tg elt c σ' H Q xs):∀(fp:List δ)(E C:δ)(O:μ),H E=none->jB X (cu X N' scope (ϔ scope X.env) C O (upd H E (.lst [])) fp) tg elt [c] (jC X.K l) E σ' H (λH'=>Q (.ref E) H'):=by
 intro fp E C O F;let#[T,keep,U,t0,mono,step,fin]:=h;show#[λi m P H1=>m=xs.length-i/\i<=xs.length/\ζ H H1/\T P/\∃us,H1 E=some (.lst us)/\_V.ς (λu i=>U E i u H1) us (jq keep i),#[xs.length,by simp,agn _,ζ.upd F,t0,[],υ,.nil],?_]
 rintro i m P H1 ⟨rfl,hi,y,R,us,g,G⟩
 by_cases z:i<xs.length
 .show .inr #[#[xs,xs[i],ζ.seq y M,aah z],λB H'=>ζ H H'/\T B/\∃us,H' E=some (.lst us)/\_V.ς (λu i=>U E i u H') us (jq keep (i+1)),λB H' ⟨a,b,d⟩=>#[xs.length-(i+1),(),rfl,z,a,b,d],λx H2 W=>?_];let Z:xs[i]?=some x:=W.2 xs (ζ.seq y M);let hH:H2=H1:=W.1;subst hH;intro ϵ s u I r;show χ (step fp E C O _ i P x _ F Z R y #[us,g] ϵ s u I r) λ_ s' ⟨S,H3,I3,q3⟩=>#[S,H3,I3,ag0 ?_]
  show λϵ s I=>χ (q3 ϵ s I) λk s' ⟨H4,I4,hk,Y,n,q⟩=>#[H4,I4,?_]
  subst hk;let J:=aiw keep i;let hkl:=adH keep i;let jN:=G.len;by_cases f:keep i=true
  .rw[if_pos f];rw[if_pos f]at J;show aG (q f) λv L ⟨pv,D⟩=>#[us,D _ _ (n _ _ g),(),?_]
   let up:∀b o,b≠E->L b=some o->(upd L E (.lst (us++[v]))) b=some o:=λb o hb e=>by rw[ο hb];show e
   show#[λb o e=>?_,Y,us++[v],υ,?_]
   .rw[ο (Ϗ e F)];show D _ _ (n _ _ (y _ _ e))
   .rw[J];show _V.ς.app (G.imp λu j p=>?_) (.cons (mono E i v L _ us (D _ _ (n _ _ g)) up pv) .nil);show mono E j u L _ us (D _ _ (n _ _ g)) up (mono E j u H2 _ us g (λb o _ e=>D _ _ (n _ _ e)) p)
  .rw[if_neg f];rw[if_neg f,am9]at J;show#[y.trans n,Y,us,n _ _ g,?_];rw[J];show G.imp λu j p=>mono E j u H2 _ us g (λb o _ e=>n _ _ e) p
 .let e:i=xs.length:=()
  subst e;show .inl #[#[xs,ζ.seq y M,ϭ _],fin E H1 us F g G y]
theorem aaS(N':List Str)(a:cO N' X.N σ scope=σ')(g:X.calm=true)(S:cV X.env scope)(hs:∀x,foldedSetIterable e X.env x=pure x)(h:EV X e σ H λv H1=>∃l xs,v=.ref l/\η X.K H1 l xs/\xs.length<=ϰ/\JC X N' scope tg elt c σ' H1 Q xs):EV X (.ListComp elt [#[tg,e,[c],0]] scope pos) σ H Q:=by
 show wu (N':=N') g S hs (tO (aG h λv H1 q=>?_));let#[l,xs,rfl,f,i,j]:=q;show#[l,rfl,#[xs,f],?_];rw[a];show abQ i f j
end
section
variable{X:Cx}{D:Ends}{σ:St}{H:Hp}{rest:List alD}{suite:List ϧ}{b₀:ϧ}{pos np:Pos}{x n:Str}{c:ε}{C:δ}{d:Option δ×Bool}{i:Nat}
end
end _L
namespace _L
open PySem PySem.Spec PyProof.Rows
section
variable{X:Cx}{a b e:Ϩ}{σ σ':St}{H:Hp}{Q:VK}{D:Ends}{pos spos py p p':Pos}{tg elt iter:Ϩ}{scope:ahU}{Kx:St->XK}{y:Str}{j:Nat}
end
abbrev DX(K:ϩ)(mg:Str->Option ε)(x:Str)(st:ϧ):Prop:=∃f fd,cH K x x st f fd/\mg x=some (.ref f)
section
variable{K:ϩ}{h:ϫ}{mg:Str->Option ε}(X:K.In h)(G:h.Ns mainGlobals mg){x y m qual fld:Str}{st:ϧ}{f C D:δ}{od an:Option δ}{sl:Array (Option ε)}{oc kV dc pm cd ct:ε}{t:Tok}
abbrev bQ(K:ϩ)(x:Str)(C:δ):Prop:=apg K mainGlobals x=some (some (.ref C))
abbrev pQ(K:ϩ)(m qual:Str)(st:ϧ)(f:δ)(od an:Option δ)(sl:Array (Option ε))(oc kV dc pm cd ct:ε):Prop:=K.lookup f=some #[oc,od,.func (aoE m qual (jP st) (aB st) (ω st) .none kV dc pm an cd ct),sl]
include X G
theorem ab8(a:bQ K x f)(l:pQ K x x st f od an sl oc kV dc pm cd ct)(c:anW K cd x=true)(k:amY K (.ref f)=true):DX K mg x st:=#[_,_,qC (st:=st) l c k,ajF X G a]
theorem ab1{z:Str}(g:apg K mainGlobals x=some (some (.str z t))):Gc mg x (.str z):=#[_,ajF X G g,_,rfl]
theorem acS{z:Int}(g:apg K mainGlobals x=some (some (.int z t))):Gc mg x (.int z):=#[_,ajF X G g,_,rfl]
theorem ago(z:apg K mainGlobals x=some none):mg x=none:=W.mg_none_of X G z
theorem aee(q:bQ K x C):mg x=some (.ref (θ mg x)):=by let e:=ajF X G q;rw[cF e];show e
theorem ajy(q:bQ K x C)(y:apv K C iZ "ValueError.__new__"=true):v8 K mg x:=ae4 (ajF X G q) y
theorem Yu{b:Bool}(q:bQ K x C)(r:bQ K y D)(v:aoF K (.ref C) (.ref D)=some b):aoF K (.ref (θ mg x)) (.ref (θ mg y))=some b:=by
 rw[cF (ajF X G q),cF (ajF X G r)];show v
theorem Yx(q:bQ K x C)(a:anR K C (.type "type")=true)(c:anS K (.ref C) (.type "type") "__init__"=some (.val (.builtin "ValueError.__init__")))(e:ah1 K (.ref C) "__getattribute__"=some (some (.builtin "type.__getattribute__")))(f:anC K (.ref C)=some (.type "type"))(g:am2 K C (.type "BaseException")=some true):p6 K mg x:=adn (ajF X G q) a c e f g
theorem aeV(q:bQ K x C)(r:bQ K y D)(c:mH K C D=true)(e:anC K (.ref C)=some (.type "type"))(f:alZ K C=true)(g:afc K (.ref C) "__getattribute__"=some (some (.builtin "BaseException.__getattribute__")))(i:afc K (.ref C) "__getattr__"=some none)(j:afc K (.ref C) "__class__"=some (some (.builtin "object.__class__")))(l:ah1 K (.builtin "object.__class__") "__get__"=some (some (.builtin "getset_descriptor.__get__")))(m:anK K (.builtin "object.__class__")=some true)(n:am2 K C (.type "object")=some true)(a:am2 K C (.type "BaseException")=some true):XC K mg y x:=ag2 (ajF X G q) (ajF X G r) c e f g i j l m n a
theorem acE(q:bQ K x C)(r:bQ K y D)(a:afc K (.ref C) "__init__"=some (some (.ref f)))(l:pQ K "__init__" qual st f od an sl oc kV dc pm cd ct)(c:anW K cd qual=true)(k:amY K (.ref f)=true)(e:vA K C f=true)(g:aoD K (.ref f)=true)(i:afc K (.ref C) "__setattr__"=some (some (.builtin "object.__setattr__")))(j:aof K C fld=some none)(m:mH K C D=true):Ue K mg y x qual fld st:=acD (ajF X G q) (ajF X G r) (qC (st:=st) l c k) e g i j m
theorem ahM(q:bQ K x C)(a:afc K (.ref C) fld=some none):afc K (.ref (θ mg x)) fld=some none:=by rw[cF (ajF X G q)];show a
theorem afA(q:bQ K x C)(a:afc K (.ref C) fld=some none):Ψ K (θ mg x) fld:=by rw[cF (ajF X G q)];show a
theorem t_k(q:bQ K x C)(a:anu K C akO=true)(b:alZ K C=true)(c:anV K C=true)(d:afc K (.ref C) "__setattr__"=some (some (.builtin "object.__setattr__"))):Ϛ K (θ mg x):=Rm (ajF X G q) a b c d
theorem X7(q:bQ K x C)(a:afc K (.ref C) "__init__"=some (some (.ref f)))(l:pQ K "__init__" qual st f od an sl oc kV dc pm cd ct)(c:anW K cd qual=true)(k:amY K (.ref f)=true)(b:aoD K (.ref f)=true)(d:ao6 K C=true)(e:amY K (.ref C)=true):OI K (θ mg x) qual st:=agT (ajF X G q) (qC (st:=st) l c k) a b d e
theorem abI(q:bQ K x C)(a:afc K (.ref C) m=some (some (.ref f)))(l:pQ K m qual st f od an sl oc kV dc pm cd ct)(c:anW K cd qual=true)(k:amY K (.ref f)=true)(b:aoD K (.ref f)=true):OM K (θ mg x) m qual st:=aeS (ajF X G q) (qC (st:=st) l c k) a b
theorem ah6(q:bQ K x C)(a:anS K (.ref C) (.type "type") m=some (.val (.ref f)))(l:pQ K m qual st f od an sl oc kV dc pm cd ct)(c:anW K cd qual=true)(k:amY K (.ref f)=true)(b:anR K C (.type "type")=true)(d:ah1 K (.ref C) "__getattribute__"=some (some (.builtin "type.__getattribute__"))):OB K (θ mg x) m qual st:=XS (ajF X G q) (qC (st:=st) l c k) a b d
theorem abC(q:bQ K x C)(r:bQ K y D)(a:anu K C akO=true)(b:alZ K C=true)(c:anV K C=true)(d:afc K (.ref C) "__setattr__"=some (some (.builtin "object.__setattr__")))(e:afc K (.ref C) "__class__"=some (some (.builtin "object.__class__")))(f:ah1 K (.builtin "object.__class__") "__get__"=some (some (.builtin "getset_descriptor.__get__")))(g:anK K (.builtin "object.__class__")=some true)(i:am2 K C (.type "object")=some true)(u:anD K (.ref C) (.ref D)=some true):OT K (θ mg x)/\anD K (.ref (θ mg x)) (.ref (θ mg y))=some true:=by
 show#[agg (ajF X G q) (Rm (ajF X G q) a b c d) e f g i,?_];rw[cF (ajF X G q),cF (ajF X G r)];show u
omit X G
inductive jt (mg:Str->Option ε):List δ->List δ->Prop
 |nil:jt mg [] []
 |cons {x:Str} {C:δ} {l m:List δ} (h:mg x=some (.ref C)) (t:jt mg l m):jt mg (θ mg x::l) (C::m)
theorem jt.eq{l m:List δ}(h:jt mg l m):l=m:=by
 induction h with
 |nil=>rfl
 |cons h _ a=>rw[cF h,a]
include X G
theorem gJ{l m:List δ}(q:bQ K x C)(t:jt mg l m):jt mg (θ mg x::l) (C::m):=.cons (ajF X G q) t
omit X G
theorem adJ{l m:List δ}(t:jt mg l m)(d:m.Nodup):l.Nodup:=by rw[t.eq];show d
end
theorem Rn{X:Cx}{st:ϧ}{rest:List ϧ}{D:Ends}{σ:St}{H:Hp}(h:let σ':=σ;let a:Ends:={D with nx:=λσ' H'=>Ο X rest D σ' H'};SX X st a σ' H):Ο X (st::rest) D σ H:=W9 h
theorem Vt{X:Cx}{st:ϧ}{D:Ends}{σ:St}{H:Hp}(h:let σ':=σ;SX X st D σ' H):Ο X [st] D σ H:=adf h
section
variable{X:Cx}{H:Hp}{Q:VK}{z y:Str}
end
end _L
namespace _L
open PySem PySem.Spec PyProof.Rows PySem.W
def oK(k:Int):ε->Bool
 |.int i _=>i==k
 |_=>false
section
variable{X:Cx}{H:Hp}{Q:VK}
end
end _L
namespace _L
open PySem PySem.Spec PyProof.Rows
section
variable{prog:Ϯ}{w:Ϭ}{A:ϳ}{E:ε->μ->Prop}{s:μ}
end
section
variable{prog:Ϯ}{w:Ϭ}{A:ϳ}{E:ε->μ->Prop}{s:μ}{ns:List Int}{us:Array ε}
end
end _L
namespace _L
open PySem PySem.Spec PyProof.Rows PySem.W
section
variable{prog:Ϯ}{w:Ϭ}{A:ϳ}{E:ε->μ->Prop}{s:μ}{S I:δ}{es:Array (Int×ε)}{ep:Nat}{t:ak2}
end
section
variable{prog:Ϯ}{w:Ϭ}{A:ϳ}{E:ε->μ->Prop}{s:μ}{S I:δ}{es:Array (Int×ε)}{ep:Nat}{t:ak2}
end
section
variable{X:Cx}{H:Hp}{Q:VK}{ns U:List Int}
end
end _L
namespace _L
open PySem PySem.Spec PyProof.Rows PySem.SeqAt AutoSeq1
section
variable{X:Cx}{H:Hp}{Q:VK}{σ σ':St}{D:Ends}{pos spos py:Pos}{tg elt e c:Ϩ}{scope:ahU}{y:Str}{j:Nat}
end
end _L
set_option compiler.extract_closed false
seal _L.EV _L.ET _L.EW _L.EA _L.SX _L.Ο _L.EG _L.sE _L.EI _L.OP _L.UN _L.CL _L.IX _L.SL _L.MT _L.EJ _L.xJ _L.EH
local macro_rules | `(tactic| walk_at "nm") => `(tactic| refine _L.aeF (by rfl) ?_)
local macro_rules | `(tactic| walk_at "gc") => `(tactic| refine _L.afW (by assumption) (by rfl) ?_ (by decide))
local macro_rules | `(tactic| walk_at "ty") => `(tactic| refine _L.aih (by rfl) (by rfl) (by assumption) ?_)
local macro_rules | `(tactic| walk_at "cb") => `(tactic| refine _L.adm (by rfl) (by rfl) (by assumption) (by rfl) (by rfl) ?_)
local macro_rules | `(tactic| walk_at "ct") => `(tactic| refine _L.agx (by rfl) (by rfl) (by assumption) (by rfl) (by rfl) ?_)
local macro_rules | `(tactic| walk_at "xo") => `(tactic| first | exact _L.ϋ | assumption | exact _L.V4 rfl)
local macro_rules | `(tactic| walk_at "po") => `(tactic| first | exact _L.adF | assumption | exact PySem.PassesOwn.never)
local macro_rules | `(tactic| walk_at "cl") => `(tactic| first
 |refine _L.aau (by assumption) (by assumption) (by first|decide|omega) (by decide) (by rfl) (by walk_at"xo") (by decide) (by rfl) (by rfl) ?_
 |refine _L.alS (by assumption) (by assumption) (by first|decide|omega) (by decide) (by rfl) (by walk_at"xo") (by decide) ?_)
local macro_rules | `(tactic| walk_at "bm") => `(tactic| first
 |refine _L.dw PySem.F.plainAttrs_str PySem.F.slot_str_join PySem.F.type_str_join (h:=?_)
 |refine _L.dw PySem.F.plainAttrs_str PySem.F.slot_str_index PySem.F.type_str_index (h:=?_)
 |refine _L.dw PySem.F.plainAttrs_str PySem.F.slot_str_startswith PySem.F.type_str_startswith (h:=?_))
local macro_rules | `(tactic| walk_at "e") => `(tactic| first
 |((with_reducible change _L.EV _ _ _ _ _);first
  |((with_reducible change _L.EV _ (PySem.Expr.Name _ _) _ _ _);first|(walk_at"nm")|(walk_at"gc")|(walk_at"ty"))
  |(with_reducible first|refine _L.Ze ?_|refine _L.Ox ?_|refine _L.XM ?_)
  |((with_reducible change _L.EV _ (PySem.Expr.Call _ _ _ _) _ _ _);first
   |((with_reducible change _L.EV _ (PySem.Expr.Call (PySem.Expr.Name _ _) _ _ _) _ _ _);first|(walk_at"cb")|(walk_at"ct")|(walk_at"cl"))
   |(walk_at"bm"))
  |((with_reducible change _L.EV _ (PySem.Expr.Compare _ [_] [_] _) _ _ _);refine _L.ajE (by first|exact _L.JP _ (by decide) (by decide)|rfl) ?_)
  |((with_reducible change _L.EV _ (PySem.Expr.Compare _ [_,_] [_,_] _) _ _ _);refine _L.Xx (by with_unfolding_all rfl) ?_)
  |(with_reducible first|refine _L.adT ?_|refine _L.ajw ?_|refine _L.aa1 ?_)
  |((with_reducible change _L.EV _ (PySem.Expr.Subscript _ _ _) _ _ _);refine _L.aaj (λ_ _=>by rfl) ?_)
  |(with_reducible first|refine _L.Q0 ?_|refine _L.ac8 ?_|refine _L.aeQ ?_|refine _L.aen ?_|refine _L.aim ?_|refine _L.ahk ?_|refine _L.Kd ?_|refine _L.abl ?_|refine _L.akY ?_))
 |((with_reducible change _L.EA _ _ _ _ _);first
  |(with_reducible refine _L.jT ?_)
  |(refine _L.eF (by rfl) ?_))
 |((with_reducible change _L.ET _ _ _ _ _);first
  |((with_reducible change _L.ET _ (PySem.Expr.Compare _ [_] [_] _) _ _ _);refine _L.adA (by first|exact _L.JP _ (by decide) (by decide)|rfl) ?_)
  |((with_reducible change _L.ET _ (PySem.Expr.Compare _ [_,_] [_,_] _) _ _ _);refine _L.Xw (by with_unfolding_all rfl) ?_)
  |(with_reducible refine _L.ad2 ?_)
  |((with_reducible change _L.ET _ (PySem.Expr.BoolOp _ _ _) _ _ _);refine _L.ym ?_)
  |((with_reducible first|change _L.ET _ (PySem.Expr.Name _ _) _ _ _|change _L.ET _ (PySem.Expr.Call _ _ _ _) _ _ _|change _L.ET _ (PySem.Expr.Subscript _ _ _) _ _ _|change _L.ET _ (PySem.Expr.Constant _ _ _) _ _ _);refine _L.M5 (λ_=>by rfl) ?_))
 |((with_reducible change _L.EW _ _ _ _ _);with_reducible first|refine _L.ahu ?_|refine _L.acP ?_|refine _L.abA ?_|refine _L.adG ?_)
 |((with_reducible change _L.EO _ _ _ _ _);with_reducible first|refine _L.ajn ?_|refine _L.ah5 ?_)
 |((with_reducible change _L.xJ _ _ _ _ _ _);first
  |((with_reducible change _L.xJ _ (PySem.Expr.Constant _ _ _::_) _ _ _ _);refine _L.adQ (_L.Ox ⟨_,200,rfl,by decide+kernel,by omega,?_⟩))
  |((with_reducible change _L.xJ _ (PySem.Expr.FormattedValue _ _ _ _::_) _ _ _ _);refine _L.adQ ?_)
  |(refine _L.alu (by omega) ?_)))
local macro_rules | `(tactic| walk_at "o") => `(tactic| with_reducible first
 |refine _L.ajO ?_|refine _L.aik ?_|refine _L.acK ?_|refine _L.aeL ?_|refine _L.ahi ?_|refine _L.Y0 ?_
 |refine _L.aju ?_|refine _L.ajk ?_|refine _L.ahD ?_|refine _L.ail ?_|refine _L.akN ?_|refine _L.Xn ?_
 |refine _L.ak0 ?_|refine _L.akr ?_|refine _L.al9 ?_|refine _L.ajY ?_)
local macro_rules | `(tactic| walk_at "o2") => `(tactic| first
 |((with_reducible change _L.OP _ (PySem.compareOp PySem.CmpOp.Eq) _ _ _ _);refine _L.Cd (by rfl) ?_)
 |((with_reducible change _L.OP _ (PySem.compareOp PySem.CmpOp.NotEq) _ _ _ _);refine _L.El (by rfl) ?_)
 |((with_reducible change _L.OP _ (PySem.binaryOp PySem.Operator.Mod) (_L.V.int _) (_L.V.int _) _ _);refine _L.YC (by first|decide|omega) ?_)
 |((with_reducible change _L.OP _ (PySem.binaryOp PySem.Operator.Mult) (_L.V.int _) (_L.V.int _) _ _);refine _L.Xq (by first|exact Or.inr ⟨by decide,by decide⟩|exact Or.inl ⟨by decide,by decide⟩|exact Or.inl ⟨by omega,by omega⟩|exact Or.inr ⟨by omega,by omega⟩) ?_)
 |((with_reducible change _L.OP _ (PySem.binaryOp PySem.Operator.Pow) (_L.V.int _) (_L.V.int _) _ _);refine _L.aki ⟨by decide,by decide,by decide⟩ ?_)
 |((with_reducible change _L.CL _ (PySem.Value.builtin "len") [_L.V.ref _] _ _);refine _L.Ab (Or.inl (by assumption)) ?_)
 |((with_reducible change _L.CL _ (PySem.Value.builtin "len") [_L.V.str _] _ _);refine _L.Cw (by omega) ?_)
 |((with_reducible change _L.CL _ (PySem.Value.builtin "ord") [_L.V.str _] _ _);refine _L.aej ?_)
 |((with_reducible change _L.CL _ (PySem.Value.builtin "isinstance") _ _ _);first|refine _L.U7 (k:=false) ?_|refine _L.U7 (k:=true) ?_))
local macro_rules | `(tactic| walk_at "t") => `(tactic| first
 |(with_reducible refine _L.aaA ?_)
 |(with_reducible refine _L.Zj ?_)
 |(with_reducible refine _L.abY ?_)
 |(with_reducible refine _L.ajL ?_)
 |(with_reducible first|refine _L.ZP ?_|refine _L.abe ?_|refine _L.adq ?_|refine _L.Z3 ?_|refine _L.amy ?_|refine _L.afU ?_|refine _L.agI ?_|refine _L.Zf ?_|refine _L.amh ?_|refine _L.akd ?_)
 |((with_reducible change ∃k,_L.V.bl _=_L.V.bl k/\_);refine⟨_,rfl,?_⟩)
 |((with_reducible change ∃k,_L.GJ _ (_L.V.bl _) _ k/\_);refine⟨_,rfl,?_⟩)
 |((with_reducible change ∃i,_L.V.int _=_L.V.int i/\_);refine⟨_,rfl,?_⟩)
 |((with_reducible change _L.sH _ _ (_L.V.str _) _/\_);refine⟨by rfl,?_⟩))
local macro_rules | `(tactic| walk_at "c") => `(tactic| (refine _L.Rn ?_; intro _ _))
local macro_rules | `(tactic| walk_at "n") => `(tactic| (refine _L.Vt ?_; intro _))
local macro_rules | `(tactic| walk_at "s") => `(tactic| first
 |(with_reducible refine _L.Ε ?_)
 |((with_reducible refine _L.Vt ?_);intro _)
 |((with_reducible refine _L.Rn ?_);intro _ _)
 |(with_reducible refine _L.ψ ?_)
 |(with_reducible refine _L.Q6 ?_)
 |(with_reducible refine _L.amk ?_)
 |(with_reducible refine _L.Θ ?_)
 |((with_reducible change _L.SX _ (PySem.Stmt.Assign [PySem.Expr.Name _ _] _ _) _ _ _);refine _L.af5 (by assumption) (by rfl) (by first|exact Or.inl rfl|exact Or.inr rfl) (by rfl) (by first|exact Or.inl rfl|exact Or.inr rfl) ?_)
 |((with_reducible change _L.SX _ (PySem.Stmt.Expr _ _) _ _ _);refine _L.aV ?_))
local macro_rules|`(tactic|walk_at "go")=>do
 let f(s:Lean.Syntax):Lean.MacroM Lean.Syntax:=s.replaceM λx=>if x.isOfKind ``PyProof.Rows.tacticWalk_at_ then Lean.Macro.expandMacro? x else pure none
 f (←f (←f (←`(tactic|repeat' (first|(walk_at "e")|(walk_at "o")|(walk_at "o2")|(walk_at "t")|(walk_at "s"))))))
local macro_rules|`(tactic|walk_at "ex")=>do
 let f(s:Lean.Syntax):Lean.MacroM Lean.Syntax:=s.replaceM λx=>if x.isOfKind ``PyProof.Rows.tacticWalk_at_ then Lean.Macro.expandMacro? x else pure none
 f (←f (←f (←`(tactic|repeat' (first|(walk_at "e")|(walk_at "o")|(walk_at "o2")|(walk_at "t"))))))
namespace _L
theorem af7{α:Type}{us:List α}(h:us.length=1):∃a,us=[a]:=match us,h with|[a],_=>#[a,rfl]
theorem aiV{α:Type}{us:List α}(h:us.length=2):∃a b,us=[a,b]:=match us,h with|[a,b],_=>#[a,b,rfl]
theorem WR{α:Type}{us:List α}(h:us.length=3):∃a b c,us=[a,b,c]:=match us,h with|[a,b,c],_=>#[a,b,c,rfl]
theorem aaZ{α:Type}{us:List α}(h:us.length=4):∃a b c d,us=[a,b,c,d]:=match us,h with|[a,b,c,d],_=>#[a,b,c,d,rfl]
theorem YQ{α:Type}{us:List α}(h:us.length=5):∃a b c d e,us=[a,b,c,d,e]:=match us,h with|[a,b,c,d,e],_=>#[a,b,c,d,e,rfl]
theorem aiR{α:Type}{us:List α}(h:us.length=6):∃a b c d e f,us=[a,b,c,d,e,f]:=match us,h with|[a,b,c,d,e,f],_=>#[a,b,c,d,e,f,rfl]
theorem ait{α:Type}{us:List α}(h:us.length=8):∃a b c d e f g h,us=[a,b,c,d,e,f,g,h]:=match us,h with|[a,b,c,d,e,f,g,h],_=>#[a,b,c,d,e,f,g,h,rfl]
end _L
local macro_rules | `(tactic| walk_at "b1") => `(tactic| (intro _ _ _ _ _ _ us hl; obtain ⟨_, e⟩ := _L.af7 hl; subst e; rfl))
local macro_rules | `(tactic| walk_at "b2") => `(tactic| (intro _ _ _ _ _ _ us hl; obtain ⟨_, _, e⟩ := _L.aiV hl; subst e; rfl))
local macro_rules | `(tactic| walk_at "b3") => `(tactic| (intro _ _ _ _ _ _ us hl; obtain ⟨_, _, _, e⟩ := _L.WR hl; subst e; rfl))
local macro_rules | `(tactic| walk_at "b4") => `(tactic| (intro _ _ _ _ _ _ us hl; obtain ⟨_, _, _, _, e⟩ := _L.aaZ hl; subst e; rfl))
local macro_rules | `(tactic| walk_at "b5") => `(tactic| (intro _ _ _ _ _ _ us hl; obtain ⟨_, _, _, _, _, e⟩ := _L.YQ hl; subst e; rfl))
local macro_rules | `(tactic| walk_at "b6") => `(tactic| (intro _ _ _ _ _ _ us hl; obtain ⟨_, _, _, _, _, _, e⟩ := _L.aiR hl; subst e; rfl))
local macro_rules | `(tactic| walk_at "b8") => `(tactic| (intro _ _ _ _ _ _ us hl; obtain ⟨_, _, _, _, _, _, _, _, e⟩ := _L.ait hl; subst e; rfl))
local macro_rules | `(tactic| walk_at "bb") => `(tactic| first | walk_at "b1" | walk_at "b2" | walk_at "b3" | walk_at "b4" | walk_at "b5" | walk_at "b6" | walk_at "b8")
local macro_rules | `(tactic| walk_at "ln") => `(tactic| (intro _ _ _ _ h; cases h; subst_vars; rfl))
local macro_rules | `(tactic| walk_at "A") => `(tactic| (walk_at "c"; walk_at "s"; walk_at "ex"))
namespace _K
open PySem _L PyProof.Rows
def top(i:Nat):ϧ:=PySem.Challenge.pw_turnleaf_k95_whole_marks_kept.main.body.getD i (.Pass #[0,0,0,0])
abbrev Wz:ϧ:=top 26
abbrev Fg:ϧ:=top 33
abbrev Wm:ϧ:=top 34
abbrev Jz:ϧ:=top 35
abbrev HB:ϧ:=top 37
abbrev Aa:ϧ:=top 43
abbrev QF:ϧ:=top 44
abbrev Jw:ϧ:=top 45
abbrev GZ:ϧ:=top 47
abbrev Wd:ϧ:=top 52
abbrev xY:ϧ:=top 53
abbrev Oc:ϧ:=top 54
abbrev Ri:ϧ:=top 55
abbrev W7:ϧ:=top 56
abbrev uZ:ϧ:=top 64
abbrev TF:ϧ:=top 65
abbrev xK:ϧ:=top 66
abbrev Qp:ϧ:=top 68
abbrev Qa:ϧ:=top 72
abbrev Pn:ϧ:=top 73
abbrev qW:ϧ:=top 74
abbrev Mq:ϧ:=top 75
abbrev JN:ϧ:=top 76
abbrev RZ:ϧ:=top 81
abbrev JS:ϧ:=top 110
abbrev VJ:ϧ:=top 111
abbrev WL:ϧ:=top 112
abbrev Ho:ϧ:=top 113
abbrev Ks:ϧ:=top 114
abbrev Jq:ϧ:=top 115
abbrev Ow:ϧ:=top 116
abbrev Eo:ϧ:=top 126
abbrev Oa:ϧ:=top 127
abbrev Uw:ϧ:=top 128
abbrev HW:ϧ:=top 129
abbrev Hj:ϧ:=top 131
abbrev SJ:ϧ:=top 132
abbrev Rc:ϧ:=top 133
abbrev Nk:ϧ:=top 135
abbrev xH:ϧ:=top 138
abbrev Td:ϧ:=top 142
abbrev O9:ϧ:=top 143
abbrev Rr:ϧ:=top 144
abbrev VD:ϧ:=top 146
abbrev V1:ϧ:=top 150
abbrev Dg:ϧ:=top 151
abbrev wJ:ϧ:=top 152
abbrev J4:ϧ:=top 154
abbrev MK:ϧ:=top 157
abbrev vC:ϧ:=top 158
abbrev S6:ϧ:=top 159
abbrev Mp:ϧ:=top 160
abbrev La:ϧ:=top 161
abbrev Fd:ϧ:=top 162
abbrev Ol:ϧ:=top 163
abbrev jc:ϧ:=top 164
abbrev Hk:ϧ:=inClass (top 84) 0
abbrev K8:ϧ:=inClass (top 84) 1
abbrev jL:ϧ:=inClass (top 84) 2
abbrev Vc:ϧ:=inClass (top 86) 0
abbrev Jd:ϧ:=inClass (top 86) 1
abbrev v7:ϧ:=inClass (top 87) 0
abbrev tZ:ϧ:=inClass (top 87) 1
abbrev TY:ϧ:=inClass (top 87) 2
abbrev Vq:ϧ:=inClass (top 90) 0
abbrev Ot:ϧ:=inClass (top 91) 0
abbrev R6:ϧ:=inClass (top 92) 0
abbrev Nv:ϧ:=inClass (top 92) 1
abbrev Jf:ϧ:=inClass (top 93) 0
abbrev T7:ϧ:=inClass (top 95) 0
abbrev Ou:ϧ:=inClass (top 148) 0
abbrev Q7:ϧ:=inClass (top 148) 1
abbrev WW:ϧ:=inClass (top 148) 2
abbrev RM:ϧ:=inClass (top 148) 3
abbrev uP:ϧ:=inClass (top 148) 4
abbrev Ja:ϧ:=inClass (top 148) 5
abbrev Py:ϧ:=inClass (top 148) 6
abbrev Nb:ϧ:=inClass (top 148) 7
abbrev Q5:ϧ:=inClass (top 148) 8
abbrev Kh:ϧ:=inClass (top 148) 11
abbrev MN:ϧ:=inClass (top 148) 12
abbrev Ir:ϧ:=inClass (top 148) 14
abbrev Nq:ϧ:=inClass (top 148) 15
structure Txt(K:ϩ)(mg:Str->Option ε):Prop where
 qz:DX K mg "is_whole" (top 25)
 tL:DX K mg "made_of" Wz
 Ak:DX K mg "is_number_value" (top 27)
 vD:DX K mg "is_text_value" (top 28)
 Hc:DX K mg "is_value" (top 29)
 vg:DX K mg "value_before" (top 30)
 Fj:DX K mg "value_word" (top 31)
 Cj:DX K mg "are_figures" (top 32)
 vX:DX K mg "read_figures" Fg
 Fp:DX K mg "read_number_word" Wm
 Ea:DX K mg "read_text_word" Jz
 uC:DX K mg "read_value" (top 36)
 Eb:DX K mg "read_values" HB
 Fw:DX K mg "is_name" (top 42)
 Gk:DX K mg "ask_columns" Aa
 lZ:DX K mg "place_of" QF
 Es:DX K mg "row_words" Jw
 Ej:DX K mg "is_row_number" (top 46)
 Cz:DX K mg "is_row" GZ
 Gq:DX K mg "read_order_word" Wd
 wZ:DX K mg "read_order" xY
 Gf:DX K mg "order_text" Oc
 wj:DX K mg "key_of" Ri
 Bp:DX K mg "key_ahead" W7
 Hf:DX K mg "number_of" (top 62)
 G4:DX K mg "rank_of" (top 63)
 Dl:DX K mg "sorted_by" uZ
 BL:DX K mg "let_through" TF
 BZ:DX K mg "line_of" xK
 Bh:DX K mg "lies_ahead" (top 67)
 vd:DX K mg "cut_place" Qp
 vR:DX K mg "ask_size" (top 71)
 zu:DX K mg "copy_of_cut" Qa
 yU:DX K mg "cut_beside" Pn
 uR:DX K mg "leaf_between" qW
 GX:DX K mg "leaf_forth" Mq
 zX:DX K mg "leaf_back" JN
 GK:DX K mg "check_of" RZ
 rH:DX K mg "check_word" (top 82)
 pL:DX K mg "word_at" (top 108)
 pG:DX K mg "text_between" (top 109)
 xr:DX K mg "read_column" JS
 Ex:DX K mg "read_word" VJ
 Dj:DX K mg "read_none" WL
 DY:DX K mg "read_of_value" Ho
 Jy:DX K mg "read_of_sieves" Ks
 PB:DX K mg "read_part" Jq
 Zt:DX K mg "read_sieve" Ow
 Ae:DX K mg "cut_text" Eo
 Dz:DX K mg "mark_text" Oa
 CJ:DX K mg "read_make" Uw
 yw:DX K mg "read_whole" HW
 Hg:DX K mg "read_side" (top 130)
 Gu:DX K mg "read_cut" Hj
 Bb:DX K mg "read_body" SJ
 v5:DX K mg "read_mark" Rc
 yS:DX K mg "rows_of_list" Nk
 Am:DX K mg "is_untouched" (top 136)
 Eu:DX K mg "mark_at" (top 137)
 jR:DX K mg "leaf_from" xH
 xu:DX K mg "begin_of" (top 139)
 Bu:DX K mg "first_leaf" (top 140)
 BW:DX K mg "last_leaf" (top 141)
 uo:DX K mg "read_good_mark" Td
 yc:DX K mg "turn_forth" O9
 xN:DX K mg "turn_back" Rr
 Et:DX K mg "told_rows" VD
 lH:DX K mg "_law_draw" V1
 yH:DX K mg "_law_values" Dg
 Gz:DX K mg "_law_deed" wJ
 DG:DX K mg "_law_order" (top 153)
 zK:DX K mg "_law_order_words" J4
 Dd:DX K mg "_law_sieve_words" (top 155)
 zH:DX K mg "_law_lets" (top 156)
 wY:DX K mg "_law_ahead" MK
 Bm:DX K mg "_law_line" vC
 Bv:DX K mg "_law_cut" S6
 Fe:DX K mg "_law_leaf" Mp
 DW:DX K mg "_law_refused" La
 GC:DX K mg "_law_bent" Fd
 Aw:DX K mg "_law_kept" Ol
 aiB:DX K mg "law" jc
 Az:Gc mg "NUMBER" (.str "number")
 Vi:Gc mg "TEXT" (.str "text")
 Yp:Gc mg "FIGURES" (.str "0123456789")
 aeP:Gc mg "LETTERS" (.str "abcdefghijklmnopqrstuvwxyz")
 aha:Gc mg "TEXT_SIGNS" (.str "abcdefghijklmnopqrstuvwxyz0123456789-")
 O6:Gc mg "LARGEST" (.int 1000000000000000000)
 aij:Gc mg "LONGEST" (.int 20)
 QQ:Gc mg "NONE_WORD" (.str "?")
 Qi:Gc mg "TEXT_AHEAD" (.str "'")
 ahF:Gc mg "BELOW_AHEAD" (.str "-")
 Z8:Gc mg "MOST_COLUMNS" (.int 6)
 ajH:Gc mg "LONGEST_NAME" (.int 8)
 Kf:Gc mg "LARGEST_ROW" (.int 1000000000)
 ag8:Gc mg "MOST_IN_ORDER" (.int 4)
 Ji:Gc mg "UP_AHEAD" (.str "+")
 Hn:Gc mg "DOWN_AHEAD" (.str "-")
 Qo:Gc mg "START" (.str "start")
 M6:Gc mg "END" (.str "end")
 sS:Gc mg "AHEAD" (.str "ahead")
 Bo:Gc mg "BEHIND" (.str "behind")
 Yi:Gc mg "LARGEST_SIZE" (.int 100)
 abt:Gc mg "BASE" (.int 137)
 agf:Gc mg "REST_BY" (.int 9973)
 ahc:Gc mg "FIGURES_OF_CHECK" (.int 4)
 Yv:Gc mg "MOST_WORDS" (.int 60)
 Uq:Gc mg "MOST_WITHIN" (.int 20)
 M7:Gc mg "ALL" (.str "all")
 OD:Gc mg "NONE" (.str "none")
 Ep:Gc mg "IS" (.str "is")
 yI:Gc mg "UNDER" (.str "under")
 Cy:Gc mg "OVER" (.str "over")
 zF:Gc mg "HOLDS" (.str "holds")
 zG:Gc mg "NOT" (.str "not")
 yV:Gc mg "BOTH" (.str "both")
 aat:Gc mg "EITHER" (.str "either")
 Dq:Gc mg "LIVING" (.str "living")
 Ly:Gc mg "STILL" (.str "still")
 Zg:Gc mg "LATEST" (.int 5000)
 aiQ:Gc mg "PARTS" (.int 5)
 HD:Gc mg "PARTING" (.str "/")
 Ad:Gc mg "STOP" (.str ".")
 Pz:Gc mg "AHEAD_SIGN" (.str "<")
 Tu:Gc mg "BEHIND_SIGN" (.str ">")
 QS:mg "all"=none
 Xg:mg "bool"=none
 Zv:mg "enumerate"=none
 Jv:mg "int"=none
 yq:mg "isinstance"=none
 bY:mg "len"=none
 jW:mg "list"=none
 TJ:mg "max"=none
 Nz:mg "min"=none
 agF:mg "ord"=none
 afQ:mg "range"=none
 Zu:mg "reversed"=none
 NB:mg "set"=none
 tD:mg "sorted"=none
 qd:mg "str"=none
 Su:mg "tuple"=none
 Cq:mg "zip"=none
 agt:mg "NoMark"=some (.ref (θ mg "NoMark"))
 wR:mg "Sieve"=some (.ref (θ mg "Sieve"))
 ag9:mg "AllSieve"=some (.ref (θ mg "AllSieve"))
 ade:mg "NoneSieve"=some (.ref (θ mg "NoneSieve"))
 YK:mg "IsSieve"=some (.ref (θ mg "IsSieve"))
 ah8:mg "OverSieve"=some (.ref (θ mg "OverSieve"))
 aad:mg "HoldsSieve"=some (.ref (θ mg "HoldsSieve"))
 adb:mg "NotSieve"=some (.ref (θ mg "NotSieve"))
 afI:mg "EitherSieve"=some (.ref (θ mg "EitherSieve"))
 agK:mg "Book"=some (.ref (θ mg "Book"))
 OJ:v8 K mg "NoMark"
 Oz:p6 K mg "LeafError"
 Ac:XC K mg "LeafError" "NoMark"
 xx:Ϛ K (θ mg "AllSieve")
 acs:OI K (θ mg "AllSieve") "Sieve.__init__" Hk
 Xd:OM K (θ mg "AllSieve") "lets" "Sieve.lets" K8
 aae:OM K (θ mg "AllSieve") "shown" "Sieve.shown" jL
 Q9:Ψ K (θ mg "AllSieve") "text"
 qO:Ϛ K (θ mg "NoneSieve")
 ajh:OI K (θ mg "NoneSieve") "NoneSieve.__init__" Vc
 aaR:OM K (θ mg "NoneSieve") "lets" "NoneSieve.lets" Jd
 aeh:OM K (θ mg "NoneSieve") "shown" "Sieve.shown" jL
 Kc:Ψ K (θ mg "NoneSieve") "text"
 Nr:Ψ K (θ mg "NoneSieve") "place"
 oE:Ϛ K (θ mg "IsSieve")
 aby:OI K (θ mg "IsSieve") "ValueSieve.__init__" v7
 ahP:OM K (θ mg "IsSieve") "fits" "ValueSieve.fits" TY
 adE:OM K (θ mg "IsSieve") "lets" "ValueSieve.lets" tZ
 aaa:OM K (θ mg "IsSieve") "shown" "Sieve.shown" jL
 KN:Ψ K (θ mg "IsSieve") "text"
 Uz:Ψ K (θ mg "IsSieve") "place"
 Qn:Ψ K (θ mg "IsSieve") "value"
 pR:Ϛ K (θ mg "OverSieve")
 aa7:OI K (θ mg "OverSieve") "ValueSieve.__init__" v7
 aaI:OM K (θ mg "OverSieve") "fits" "OverSieve.fits" Vq
 Zo:OM K (θ mg "OverSieve") "lets" "ValueSieve.lets" tZ
 Y6:OM K (θ mg "OverSieve") "shown" "Sieve.shown" jL
 S8:Ψ K (θ mg "OverSieve") "text"
 Ul:Ψ K (θ mg "OverSieve") "place"
 Io:Ψ K (θ mg "OverSieve") "value"
 pJ:Ϛ K (θ mg "HoldsSieve")
 afw:OI K (θ mg "HoldsSieve") "ValueSieve.__init__" v7
 af0:OM K (θ mg "HoldsSieve") "fits" "HoldsSieve.fits" Ot
 ada:OM K (θ mg "HoldsSieve") "lets" "ValueSieve.lets" tZ
 Xj:OM K (θ mg "HoldsSieve") "shown" "Sieve.shown" jL
 Iu:Ψ K (θ mg "HoldsSieve") "text"
 Sv:Ψ K (θ mg "HoldsSieve") "place"
 Wi:Ψ K (θ mg "HoldsSieve") "value"
 rJ:Ϛ K (θ mg "NotSieve")
 abw:OI K (θ mg "NotSieve") "NotSieve.__init__" R6
 abJ:OM K (θ mg "NotSieve") "lets" "NotSieve.lets" Nv
 ajM:OM K (θ mg "NotSieve") "shown" "Sieve.shown" jL
 QZ:Ψ K (θ mg "NotSieve") "text"
 Vr:Ψ K (θ mg "NotSieve") "one"
 nQ:Ϛ K (θ mg "EitherSieve")
 aiI:OI K (θ mg "EitherSieve") "PairSieve.__init__" Jf
 acy:OM K (θ mg "EitherSieve") "lets" "EitherSieve.lets" T7
 aeI:OM K (θ mg "EitherSieve") "shown" "Sieve.shown" jL
 Vz:Ψ K (θ mg "EitherSieve") "text"
 R4:Ψ K (θ mg "EitherSieve") "one"
 Vs:Ψ K (θ mg "EitherSieve") "other"
 ϛ:Ϛ K (θ mg "Book")
 YS:OI K (θ mg "Book") "Book.__init__" Ou
 Je:OM K (θ mg "Book") "ask_row" "Book.ask_row" WW
 Cu:OM K (θ mg "Book") "ask_there" "Book.ask_there" RM
 afP:OM K (θ mg "Book") "change" "Book.change" Py
 vV:OM K (θ mg "Book") "columns" "Book.columns" Q7
 Aq:OM K (θ mg "Book") "do" "Book.do" uP
 afR:OM K (θ mg "Book") "done_behind" "Book.done_behind" Nq
 Zw:OM K (θ mg "Book") "let_go" "Book.let_go" Ir
 pW:OM K (θ mg "Book") "moment" "Book.moment" Q5
 agb:OM K (θ mg "Book") "now_rows" "Book.now_rows" MN
 adp:OM K (θ mg "Book") "put" "Book.put" Ja
 abN:OM K (θ mg "Book") "since" "Book.since" Kh
 aeU:OM K (θ mg "Book") "take" "Book.take" Nb
 zE:Ψ K (θ mg "Book") "heads"
 rK:Ψ K (θ mg "Book") "rows"
 zY:Ψ K (θ mg "Book") "touched"
 uH:Ψ K (θ mg "Book") "done"
 Dc:Ψ K (θ mg "Book") "known"
 uJ:Ψ K (θ mg "Book") "now"
 wV:OB K (θ mg "Sieve") "__init__" "Sieve.__init__" Hk
abbrev aca:List Str:=["self","values","value"]
theorem Tt:Ρ aca ["self","values"] (ω tZ):=by room
abbrev agO:List Str:=["self","row","values","was"]
theorem PX:Ρ agO ["self","row","values"] (ω uP):=by room
abbrev agw:List Str:=["word","most","number"]
theorem Hr:Ρ agw ["word","most"] (ω Fg):=by room
abbrev aap:List Str:=["word","below","number"]
theorem Rp:Ρ aap ["word"] (ω Wm):=by room
abbrev adC:List Str:=["word"]
theorem Vf:Ρ adC ["word"] (ω Jz):=by room
abbrev aiT:List Str:=["columns","name","kind","names"]
theorem Qe:Ρ aiT ["columns"] (ω Aa):=by room
abbrev agz:List Str:=["columns","name","place","column"]
theorem PQ:Ρ agz ["columns","name"] (ω QF):=by room
abbrev ajI:List Str:=["columns","row","values"]
theorem Pb:Ρ ajI ["columns","row","values"] (ω GZ):=by room
abbrev Ys:List Str:=["columns","word","sign","name"]
theorem VM:Ρ Ys ["columns","word"] (ω Wd):=by room
abbrev af9:List Str:=["columns","text","words","order","names"]
theorem Tv:Ρ af9 ["columns","text"] (ω xY):=by room
abbrev adM:List Str:=["order","one","other","column","value","against"]
theorem RG:Ρ adM ["order","one","other"] (ω W7):=by room
def ju:Array ε:=yF #[182,4,183,38] "sorted_by.<locals>.rank"
abbrev Sw:List Str:=["rows","place","up","rank"]
theorem JD:Ρ Sw ["rows","place","up"] (ω uZ):=by room
abbrev U0:List Str:=["columns","order","rows","line","name","up"]
theorem Vd:Ρ U0 ["columns","order","rows"] (ω xK):=by room
abbrev ahz:List Str:=["columns","order","line","cut","low","high","middle","row","values"]
theorem Km:Ρ ahz ["columns","order","line","cut"] (ω Qp):=by room
abbrev ahK:List Str:=["cut","values","row"]
theorem MP:Ρ ahK ["cut"] (ω Qa):=by room
abbrev ajz:List Str:=["columns","order","side","rows","cut","row","values"]
theorem RC:Ρ ajz ["columns","order","side","rows","cut"] (ω Pn):=by room
abbrev aaX:List Str:=["columns","order","line","cut","start","stop","here","back","forth"]
theorem V5:Ρ aaX ["columns","order","line","cut","start","stop"] (ω qW):=by room
abbrev ahV:List Str:=["columns","order","line","cut","size","start"]
theorem W5:Ρ ahV ["columns","order","line","cut","size"] (ω Mq):=by room
abbrev ah3:List Str:=["columns","order","line","cut","size","stop"]
theorem Qd:Ρ ah3 ["columns","order","line","cut","size"] (ω JN):=by room
abbrev ZJ:List Str:=["text","total","power","sign"]
theorem TV:Ρ ZJ ["text"] (ω RZ):=by room
abbrev ahx:List Str:=["columns","words","place","column"]
theorem Ug:Ρ ahx ["columns","words","place"] (ω JS):=by room
abbrev Zy:List Str:=["kind","words","place","word","value"]
theorem W4:Ρ Zy ["kind","words","place"] (ω VJ):=by room
abbrev abB:List Str:=["columns","words","start","column"]
theorem Ie:Ρ abB ["columns","words","start"] (ω WL):=by room
abbrev XJ:List Str:=["columns","words","start","word","column","kind","value","text"]
theorem Ip:Ρ XJ ["columns","words","start"] (ω Ho):=by room
abbrev aia:List Str:=["columns","words","start","within","word","one","behind","other","text"]
theorem wy:Ρ aia ["columns","words","start","within"] (ω Ks):=by room
abbrev Z0:List Str:=["columns","words","start","within","word"]
theorem xR:Ρ Z0 ["columns","words","start","within"] (ω Jq):=by room
abbrev acG:List Str:=["columns","text","words","sieve","behind"]
theorem N7:Ρ acG ["columns","text"] (ω Ow):=by room
abbrev ag7:List Str:=["cut","values","row","sign"]
theorem KH:Ρ ag7 ["cut"] (ω Eo):=by room
abbrev YM:List Str:=["mark","make","moment","order","sieve","cut","body"]
theorem Ww:Ρ YM ["mark"] (ω Oa):=by room
abbrev aeK:List Str:=["letter","make"]
theorem QJ:Ρ aeK ["letter"] (ω Uw):=by room
abbrev adR:List Str:=["word","most","number"]
theorem J6:Ρ adR ["word","most"] (ω HW):=by room
abbrev aam:List Str:=["columns","order","text","side","words","row","kinds"]
theorem KR:Ρ aam ["columns","order","text"] (ω Hj):=by room
abbrev ZS:List Str:=["columns","body","parts","make","moment","order","sieve"]
theorem J8:Ρ ZS ["columns","body"] (ω SJ):=by room
abbrev afs:List Str:=["columns","text","body","stop","check"]
theorem xM:Ρ afs ["columns","text"] (ω Rc):=by room
abbrev Zx:List Str:=["book","make","begin","sieve","rows"]
theorem Mi:Ρ Zx ["book","make","begin","sieve"] (ω Nk):=by room
abbrev ajc:List Str:=["book","mark","size","onward","make","begin","order","text","cut","columns","line","here","back","forth","ahead","rows","moment"]
theorem VB:Ρ ajc ["book","mark","size","onward"] (ω xH):=by room
abbrev YJ:List Str:=["book","text","mark"]
theorem vH:Ρ YJ ["book","text"] (ω Td):=by room
abbrev ae1:List Str:=["book","mark","size"]
theorem KY:Ρ ae1 ["book","mark","size"] (ω O9):=by room
abbrev ag5:List Str:=["book","mark","size"]
theorem Wq:Ρ ag5 ["book","mark","size"] (ω Rr):=by room
abbrev agA:List Str:=["_law_script","_law_k","_law_many","_law_cell","_law_seed"]
theorem R3:Ρ agA ["_law_script","_law_k","_law_many"] (ω V1):=by room
abbrev afN:List Str:=["_law_script","_law_base","_law_number"]
theorem Jo:Ρ afN ["_law_script","_law_base"] (ω Dg):=by room
abbrev ab6:List Str:=["_law_script","_law_k","_law_way","_law_book","_law_table","_law_row","_law_values_here"]
theorem QB:Ρ ab6 ["_law_script","_law_k","_law_way","_law_book","_law_table"] (ω wJ):=by room
abbrev afG:List Str:=["_law_order_here","_law_one","_law_other","_law_name","_law_up","_law_at","_law_first","_law_second","_law_before"]
theorem R5:Ρ afG ["_law_order_here","_law_one","_law_other"] (ω MK):=by room
abbrev ac3:List Str:=["_law_table","_law_order_here","_law_sieve","_law_since","_law_line_here","_law_row","_law_one","_law_at"]
theorem QL:Ρ ac3 ["_law_table","_law_order_here","_law_sieve","_law_since"] (ω vC):=by room
abbrev acg:List Str:=["_law_order_here","_law_line_here","_law_one","_law_behind","_law_place","_law_other"]
theorem R0:Ρ acg ["_law_order_here","_law_line_here","_law_one","_law_behind"] (ω S6):=by room
abbrev ajs:List Str:=["_law_leaf_here","_law_line_here","_law_at","_law_after","_law_moment","_law_rows","_law_back","_law_forth","_law_many","_law_ahead_here","_law_told"]
theorem Uu:Ρ ajs ["_law_leaf_here","_law_line_here","_law_at","_law_after","_law_moment"] (ω Mp):=by room
abbrev adk:List Str:=["_law_book","_law_mark","_law_ways","_law_good","e"]
theorem Rj:Ρ adk ["_law_book","_law_mark","_law_ways"] (ω La):=by room
abbrev aje:List Str:=["_law_script","_law_k","_law_mark","_law_signs","_law_at","_law_sign","_law_other","_law_bent_here","_law_pair"]
theorem Ux:Ρ aje ["_law_script","_law_k","_law_mark"] (ω Fd):=by room
abbrev aaf:List Str:=["_law_script","_law_k","_law_book","_law_mark","_law_one","_law_behind","_law_order_here","_law_line_here","_law_size","_law_place","_law_leaf_here","_law_bent_here"]
theorem T5:Ρ aaf ["_law_script","_law_k","_law_book","_law_mark","_law_one","_law_behind","_law_order_here","_law_line_here"] (ω Ol):=by room
abbrev xX:List Str:=["_law_script","_law_book","_law_table","_law_k","_law_order_here","_law_text","_law_sieve","_law_words","_law_since","_law_first","_law_last","_law_line_here","_law_leaf_here"]
theorem JX:Ρ xX ["_law_script"] (ω jc):=by room
section
variable{P:Ϯ}{w:Ϭ}{K:ϩ}{mg:Str->Option ε}{base:ϫ}{cc:Bool}{k:Nat}{sp:Sp}
end
end _K
namespace _K
open PySem _L PyProof.Rows _M _V _W
section
variable{P:Ϯ}{w:Ϭ}{K:ϩ}{mg:Str->Option ε}{base:ϫ}
abbrev acZ:Prop:=∀{P:Ϯ}{w:Ϭ}{K:ϩ}{mg:Str->Option ε}{base:ϫ}(T:Txt K mg)(hN:cM K mg base "sorted_by"){f:δ}{fd:ah2}(F:cH K "law" "law" jc f fd),cT P w K mg base (b7 P w) true 60 f fd ["_law_script"] (Dy K "sorted_by" ju)
end
end _K
set_option genInjectivity false in
set_option genSizeOf false in
structure PySem.W.Fast:Prop where(tw1481057440276436361 tw11684364723525197017 tw4421963549197063746 tw13805590455976108665 tw5869659142577355126 tw13450508749153465777 tw5134885873208452100 tw13226254266739093363 tw1275528014714767795 tw13038258863305388061 tw14064690212401697846 tw2111618277363522395 tw4237922442882827079 tw7197709966276954774 tw7800404844326239496 tw18343286583975765120 tw13311908890284341355 tw6140334517305854387 tw13823995151550328194 tw6581603191869595947 tw8368540479495058402 tw10677662076313853869 tw7560562361133204975 tw11014581115690326490 tw5038140484347577300 tw10784057091250377160 tw10637619859036573419 tw3227756543016561854 tw11508134070381037182 tw2246512199216090263 tw11443782498347748006 tw14234126734548383393 tw9315487191818586063 tw16318721791783999487 tw13989618562026669451 tw7455809072615732527 tw8643157395548482469 tw12041661462436176641 tw17382221587278529084 tw4661844284175090952 tw425609125221757348 tw2173278299059884028 tw12382812744443024917 tw5937579056984057785 tw10233077157210259277 tw3806746666321189450 tw16791582189812173698 tw6373721893512568185 tw17890428222432440700 tw12748360526457030835 tw3222288169994941668 tw9529959857659364836 tw1108378170991494209 tw10300414537179963638 tw11792159648949025075 tw4237626930588909435 tw13268415728756466141 tw9120178477558626571 tw3969219781774479830 tw3489856455456697191 tw17869493879235447613 tw8241583761701617242 tw17303543328461634045 tw8302502287127418443 tw18155021606216194367 tw8287696030165436617 tw4598105110721288057 tw16159688758647492710 tw13221619237564211036 tw3203418247565471071 tw9690982303483139179 tw17744928122866322925 tw8951368245542966435 tw12205002151064985682 tw8664301819404110975 tw6467886661319507833 tw12713644092451055708 tw382383869607752150 tw4992111730984633151 tw9613838436587978318 tw8783819758302606182 tw486045953075931219 tw17422541922973142823 tw5932623798352544645 tw14010738632804126514 tw81737807542182842 tw10007612983766076363 tw7146762818666214007 tw3142609242263994179 tw5338151921597624922 tw14406210457281975638 tw12895952782616881514 tw8052150492890735563 tw9828931335783690890 tw678478406010911375 tw1344148194130489432 tw15345460339247418462 tw14894662421876620348 tw8246780389951956376 tw12773828276189741082 tw4846486177610696108 tw11583519173720767046 tw7016176637887689363 tw15832260215238844164 tw2612217446080735325 tw10792521197784045087 tw14711764442135973272 tw6475395834024832971 tw152330132829942788 tw3223756572119810282 tw17761472124998781265 tw13120606977651838610 tw12372055773117141249 tw1466005159161872701 tw17642845353594644184 tw2873078006714770944 tw8603094152179878111 tw10407893761845647251 tw9492237707121792112 tw8986990304463624054 tw14423035358126026770 tw4385704902874875911 tw90642468650719095 tw9932206189194441037 tw6786139536308004666 tw2446672894866854084 tw10566794537721420352 tw8773871758922554358 tw13285601779714455799 tw5798326382882450120 tw3314645298150373563 tw2602487467901762414 tw4720085534268689108 tw2742563106771848234 tw8921108522819914938 tw18086969225035574422 tw12861787645439892511 tw13133546680072971174 tw6540431952753395944 tw15946857263944105497 tw11752587465896114784 tw8337183710169556275 tw4024794237184321533 tw3750748298272291661 tw11690242510210204244 tw8608082426557051318 tw10884999605191531164 tw10251493928475346586 tw6145574124114432841 tw6440300408389244619 tw2431466730858573638 tw15449269149415778226 tw10577790870304511026 tw9146935137173223378 tw8370690193078356627 tw18236116650686373243 tw15501394010361749783 tw9489939349999510811 tw9366027548032488304 tw14072340736869819136 tw1447940028783053126 tw12656065434605068917 tw14283680626850881168 tw4262293969696501794 tw17959695263268351312 tw535757658129571534 tw7215961605807780543 tw16738215465993348602 tw14645884435971268877 tw8491047363460647955 tw5699571135363199374 tw13254611618277112290 tw5978175211971474562 tw14522373173408053612 tw15547414737587875076 tw15288889597923788166 tw11571796364050709825 tw2327752859514410210 tw15919560171175511136 tw15109198750240413837 tw10460587682271979223 tw2949855186514914917 tw11742884780587449595 tw10300367595050847720 tw18090313848468795177 tw1433488009809570702 tw17993392743982085937 tw13585155864912408786 tw3296108405533688598 tw15947551572548024789 tw15288748356367562693 tw7742027043766760084 tw16525340450800313478 tw15710750447928195503 tw16869252614087435631 tw8338900333816098188 tw17447566447648745617 tw6102124103391022091 tw10552655247495822893 tw421630992662099544 tw1258375431604135989 tw1341071266626250615 tw2366906496430883417 tw2899388196314616055 tw13181346643756567023 tw15225730642654575989 tw12046129213318358819 tw17983214935893185800 tw12600398904839659099 tw12570640679625956737 tw4572095201498087749 tw13314911214952506923 tw13473582279090192623 tw7416116767185681648 tw14746315858181157945 tw2019705356720798915 tw15859538702145510738 tw984495300447948859 tw3703013086131409388 tw13531607841851443301 tw6087618120149723201 tw14754218595004829867 tw7174961495910796500 tw3617122507750879240 tw6603080124348475885 tw3029281503421826654 tw13528139443352938271 tw11980503401336566403 tw5803893925722221591 tw16300033170422444770 tw1636111333543645562 tw17245311017404804756 tw3521700532016379317 tw6897346582073906039 tw13918413363946922186 tw9886236789267089090 tw1324045797736687794 tw7632078743819220224 tw9942158176187159400 tw15883606197292295566 tw10966879327539078521 tw469568303839875359 tw3402544802908448991 tw6990571345663361721 tw2956023368371895823 tw2215434418010697889 tw13128256664485585008 tw1765647272535513926 tw17887033185650552164 tw754471953144104823 tw16170372599524763019 tw6559333526649650776 tw5327812703024139182 tw9470174217738972557 tw10187663403298792803 tw6231875977058896156 tw13594163857174181364 tw7885484214545666828 tw3514808183097939789 tw1437721852418028532 tw4084747830550785201 tw1493623513961712457 tw10356629245691732990 tw17731838987574447252 tw907353107518885882 tw12737371853857715651 tw208693608579196231 tw2035508192249584944 tw3365476004765745317 tw13422259395125520007 tw9818978794681971716 tw9948566240679372651 tw11094744896002101829 tw8983476046875578231 tw3630862792097016118 tw16517814940733506441 tw445144581760385527 tw18280367255933446502 tw8344862517982555868 tw5103618373459956444 tw10938009338418860221 tw2502205972140235036 tw17429895804269130314 tw5224607468194404200 tw13105303988225908098 tw15739100083872119591 tw2858568484892326238 tw9224849430183306653 tw3154044408150567083 tw325695119436537964 tw3012415282325029630 tw17190391896857196301 tw2446297894398914057 tw1374025354345258737 tw7083996567116497602 tw1161067324975982861 tw17526934358060507114 tw17952411065014970125 tw16701236589958892590 tw3206235417431751383 tw5305926819340079388 tw5871218610986875223 tw17508397146353491615 tw10230881047208918827 tw4410225564375523119 tw2039826724376750004 tw4131917669232617892 tw17408462722786430378 tw9011475457943062685 tw10361142185124245010 tw10028192980644889919 tw15488162765696961848 tw16234797826030963327 tw1081432031748667257 tw15227522368360340132 tw11074130504562294351 tw13911213838679244290 tw17258203584628917948 tw13467794121410371755 tw14461167803524071834 tw5929406797487835508 tw5684541581825978710 tw16487934064800822522 tw4169989841691963093 tw11550705227970743450 tw2712127834633706671 tw2218547817978784047 tw15088953750587052869 tw1221672562008056283 tw4889820559018321646 tw16519125492876963833 tw2820076571576098486 tw17494141542807894267 tw649131095832074677 tw11972339992782030138 tw382973720076110557 tw12765035252475320072 tw5550629490511383706 tw6808761153198643454 tw14443255874189298586 tw8629769531178188712 tw10691495235501460401 tw5054781728203982175 tw5680900666418408098 tw4068669698332531083 tw6992962016452994075 tw16796121232831677758 tw16532292654321394577 tw1607060388896137577 tw6533096962978911355 tw12407819530554748013 tw17689445936253724223 tw9629015739574477462 tw8565659678020045352 tw11266123426342022839 tw14970898122786974490 tw1192130670452492867 tw15905973876683068437 tw4744499450626213230 tw16625688315162193830 tw7243924588799063890 tw10915325352646472701 tw6975855293884378222 tw2191871742762223574 tw1025474109800484279 tw12152345542263805736 tw4407227822030749683 tw8642500096744215048 tw4706865486185641418 tw16237959100566075835 tw10499183838837280120 tw12274733188952637525 tw6698386620071247200 tw2771307565354519850 tw14175693958036118500 tw7426248688220773081 tw16730315755101797605 tw10725383782377950669 tw5140441955701677370 tw16450387567947595243 tw13313500376628884071 tw2595166417101911899 tw2003176166642198803 tw18301066039739483900 tw16341212949564314986 tw15368672082220999113 tw14907981695614940070 tw13293773317185713210 tw1041702085770137687 tw3782251142483291051 tw2299617627265528071 tw17966534262980777704 tw3195471366897396775 tw1952784350877151414 tw17429655104638618378 tw17096288449542214587 tw16046805397522110006 tw14474286175217813106 tw351026018865979670 tw5743027616811803718 tw8812357578902567439 tw3685333321922134265 tw3162737001599898891 tw5239746317438368470 tw15636287783063143915 tw11223783471942473290 tw14079515864363579238 tw14731638463949001240 tw9065270991687490665 tw14584028331035981241 tw5375082956359054272 tw2067120243640147270 tw11315050584320425418 tw5656588196038382419 tw16664056207355723685 tw16225090043797307181 tw1302446233088530382 tw12234425821289384019 tw11983453831966268579 tw9860052257720311055 tw8866579468808396530 tw18083881689825028456 tw5062201123668078861 tw951981529226535722 tw10660472376155572816 tw17469911044889251086 tw6578595951689308132 tw828922011060324757 tw126471963272310797 tw4435323632204751880 tw7588002923913683787 tw14535167597389650916 tw11585228280590277122 tw4255878543947982004 tw18236394320877430050 tw17539436719183289384 tw16576792626639643522 tw10533332300956295409 tw1792726269512915586 tw864189451146210684 tw675458863041239319 tw692964173358670720 tw15370152178682886788 tw3578918090825669395 tw10454971595973044698 tw16375040832712027418 tw8944410222283317082 tw12806341718724187522 tw4567394258161133784 tw16401753928759210742 tw15891792978670298566 tw7574499628624489795 tw14941920888857136008 tw13847857362831721683 tw8511467473217225430 tw15770632683853040747 tw17826183517261068884 tw11018720080420293407 tw14161600370518805624 tw12880630019878060141 tw5278919861450803859 tw13203592562418096007 tw13510431135354762594 tw7771954844055510906 tw2131188440893357929 tw17060428617037593087 tw15453823388332701642 tw12388515799476154481 tw4280428459027459587 tw6652501219923901351 tw3121607856408173740 tw8818775791955028982 tw6714785151261474567 tw4632902320771881120 tw8204304216625078911 tw5658678994581551354 tw7408336919906711593 tw4623181889307886444 tw17377863733276533367 tw7799917437260878416 tw17999573298036189094 tw11886480566970807579 tw10622818682206908504 tw7315338780409953340 tw16064348237196849921 tw13137776956710883221 tw15759364445044751679 tw79478508583217397 tw6992528728629625335 tw17022773774988686593 tw14899700721262823937 tw14117306108211518889 tw10307341471259754125 tw101135826465165878 tw3409152081849329535 tw17095320483884437962 tw14514110774666230906 tw10467163263555583533 tw8291052836388540163 tw17941114761637686109 tw8602876972078979218 tw4975003962025153783 tw15417275960798086611 tw12702910841213011720 tw5198536242350371971 tw2268240947574850640 tw12635548331970042271 tw2866179421481596269 tw2832145835874774204 tw9634229546706032630 tw1480920985890224889 tw8362409407096641058 tw11756168702369001156 tw8864091066351274965 tw11143648133131342981 tw9780732191701471404 tw5342569072260722078 tw4527097370587261640 tw13579574742430775611 tw6921264778126768914 tw17549742387995437193 tw6129183695485891281 tw13042557790539497853 tw12096323314615205945 tw10811821133382883173 tw900646139259509442 tw5968370087346508569 tw3078527235939250788 tw15219449994538921368 tw16447696840071763695 tw10449082423925254675 tw17628421243329434625 tw16282710433133510916 tw16186208532690583732 tw311028121127871669 tw8389453912753987460 tw8267905390011180353 tw820070997582247771 tw18332719721228525847 tw9809966246866477486 tw10735487404748722918 tw9791216565312416676 tw8593906993728586777 tw5903643699570527030 tw15515236118596893526 tw12307985977797005032 tw7802333217545239473 tw14136342288898370040 tw9847038631702068543 tw7986812494340639882 tw7086660316818157019 tw65831164104910235 tw5846291518236736393 tw14971577028526289253 tw10238929572894957893 tw2391790308627702667 tw13369350659390133892 tw325284869488188616 tw2175690493277287668 tw741579168120598600 tw3262414363546983772 tw7057146083652608203 tw6563904054900185413 tw3624516795855636434 tw17924941282450896924 tw16142783551224799521 tw15616206386782746805 tw15167236225084427069 tw12352391306481360898 tw11266428664927610256 tw10218793383373974704 tw7173048911487960045 tw5745752060823069227 tw17866999237157254253 tw7336682268723800964 tw6556183365718723696 tw6430223953244463530 tw4670133455944403083 tw2096581067441865309 tw13886486225419227214 tw13215979637161365108 tw8864758397062068062 tw7656130443641278108 tw7636104944901798752 tw7136992523331748170 tw17020222641260802131 tw10906102055938646888 tw9615966589925878485 tw5824723888916185406 tw17440278513456178405 tw12214126987516712675 tw1154862730931934209 tw4618564584686558709 tw212383553896016356 tw12511831837893814 tw2107131738880346380 tw11664169492802718037 tw11326048953551937190 tw7374367709137976141 tw13980400258297411203 tw2861659742723520854 tw14076892466491611679 tw8526509702972530430 tw8457857544734577491 tw641108013237559983 tw8755362270455430559 tw15451007288845817893 tw8148279963222985292 tw15876652107426980070 tw15715218876123395707 tw6227731211847015829 tw5725186252960731853 tw2510141175998551301 tw10511546857991439959 tw8614062767124440841 tw15774256386954820325 tw593428841845380810 tw5052058275565655740 tw17374072116661570047 tw1294403788696002455 tw11964170208030153193 tw11902777839964895977 tw4535062414172912922 tw8350011718397147993 tw16888043318152682132 tw8647272263651095421 tw5589256095558568169 tw4668833200540916382 tw3332773637538282821 tw10579862764955702621 tw8390922590743058238 tw1880227010560066535 tw9284706906849402328 tw6508519162260453426 tw4170689578541943624 tw3022576483912278793 tw17861946003342412183 tw15006156867002415139 tw16565410590835292922 tw14884481079704247692 tw1142363525798263523 tw6702898089448881769 tw575520472145616906 tw5394006253958918532 tw2903503364368891492 tw14609191090909127647 tw13993690839671999705 tw10058019057151921636 tw5532320617390794785 tw2308896310670029283 tw10499987777449495329 tw11931942775888319507 tw6285785034949799180 tw159391095956268017 tw9691623436605746999 tw9495844572341107996 tw5798781365040704087 tw17939142682851853880 tw7546888297171560190 tw1437167060295530924 tw6104841499524935348 tw18034190358708779393 tw9773168288215941074 tw1068425144246653799 tw327795914284936974 tw17577492846860143439 tw15368923134239539020 tw14647928372455702912 tw8573937976892175257 tw15300358972972744902 tw9343467050253037737 tw6843275210096172422 tw6817488810568992829 tw4523030781323814391 tw2289955338892349242 tw16196973568622303646 tw8292436129354060769 tw5846244003903558498 tw2342859306340517277 tw8935234125372790782 tw5981268827783175422 tw11211504945771520693 tw1835052576325736127 tw9785317617373798899 tw6125622014694013234 tw1547450166006450878 tw16050942029466090058 tw987386944418334458 tw2741734922794806297 tw13864363406641755942 tw10082982042113892531 tw4464224673613157173 tw14756585680961589026 tw8406417592090787908 tw15469700516875525244 tw2173998096611899235 tw847717984550203300 tw7465847057052573675 tw7065985178717984242 tw6148363081309031223 tw3384199297104335880 tw2904335290301096852 tw17534424455419199778 tw17232471453808488968 tw14716051302065537678 tw13388514784731461426 tw1321066166561462532 tw12992959632552282337 tw12517744041583424110 tw11566608410736351347 tw10980335783291710091 tw9833877931090900675 tw7131710731680652792 tw6593061658780778557 tw6216618439887997531 tw5171850838435703409 tw4896300871768581534 tw3438680750914527546 tw2575791779076222205 tw16819465516672000267 tw16731924714860684532 tw16266809498701357418 tw13885554400314579821 tw1172273972172190136 tw10773539429406895114 tw15925204647262623608 tw4079658528578396591 tw15830910875487702277 tw13761105924767166910 tw1762362871108530923 tw791095402855208646 tw368582901424197642 tw2039089079450306191 tw18105574635016790537 tw1367100957269175529 tw11105338209667909493 tw7520863252720889881 tw6193039476706409784 tw430561660129801602 tw2900672965735376872 tw14013311025302287595 tw7098705438267980873 tw476510696816257488 tw13600486253780802199 tw3262011856442295488 tw6613313323435141091 tw6244195849775352118 tw6165404665349409621 tw5087020268359234989 tw387387237982464177 tw2740504041125157778 tw17586704991628231632 tw16347602099687041765 tw15814519777039915096 tw15229576563672265258 tw14719057664754067499 tw14510548113501153933 tw14235742480185068177 tw10355320280195022418 tw17292807601180403036 tw13584346862693147117 tw12441432499873898147 tw6268745161484468117 tw5572728707272616822 tw6073247209094687916 tw6887551281282552912:True)
namespace _K
open PySem _L PyProof.Rows
end _K
section
open PySem PySem.W PyProof.Rows
theorem PySem.Challenge.PySem.W.holds_open{r:OpenRow}{q:PySem.Program}{loose:List PySem.Str}{Xt:PySem.Shared→Bool}{XP:(PySem.Str→Option PySem.Value)→PySem.Heap→Prop}{α:Type}{Yf:PySem.Shared→α}{Ya:PySem.World→α}{YP:PySem.World→PySem.Heap→Prop}{d:DefRec}{kwd:List (PySem.Str×PySem.Expr)}{N:Nat}(a:LeftO r.prog q loose Xt Yf Ya N)(b:∀w s,Yf s=Ya w→YP w s.heap)(c:∀w h h',YP w h→(∀b o,h.get? b=some o→h'.get? b=some o)→YP w h')(e:∀s,Xt s=true→XP (s.heap.nsMap mainGlobals) s.heap)(f:∀mg h h',XP mg h→(∀b o,h.get? b=some o→h'.get? b=some o)→XP mg h')(g:defOf q r.name=some (d,kwd))(i:r.prog.theDef r.name=some (d.params,d.body,d.scope))(j:kwWritten? d.params.kwonlyargs d.params.kw_defaults=some kwd)(k:∀s,Xt s=true→RecFacts r.records s.heap)(l:(!r.writes || r.records.isEmpty)=true)(m:_K.acZ∧r.wellSaid=true)(n:(chainsOk q && opensWell r.prog && (frees r.toRowW && r.within.isEmpty))=true)(o:r.prog.bare)(p:r.toRowW.promised)(u:_K.acZ→WalkO q loose XP YP r.toRowW d kwd λf v=>PySem.call f v):r.Holds:=_root_.PySem.W.holds_open a b c e f g i j k l m.2 n o p (u m.1)
set_option maxRecDepth 100000 in
set_option maxHeartbeats 0 in
theorem PySem.Challenge.t0(g : _K.acZ):PySem.Challenge.rw_turnleaf_k95_whole_marks_kept.Holds := by
 w_on;o_law;have gs:_K.acZ∧PySem.Challenge.rw_turnleaf_k95_whole_marks_kept.row.wellSaid=true:=⟨g,by assumption⟩;k_head;(case hw=>w_witness2)
 intro g;k_fill
 show _L.ae3 (l:=PySem.Challenge.rw_turnleaf_k95_whole_marks_kept) (n:=63) (k:=60) (x:="_law_script") (xn:="sorted_by") (ps:=_K.ju) (CX:=λw=>_L.b7 PySem.Challenge.rw_turnleaf_k95_whole_marks_kept.prog w) (cc:=true) (sp:=λw=>_L.Dy _ "sorted_by" _K.ju) rfl (by decide) rfl #[λ_=>rfl,by decide,by decide] (λw h Y=>PySem.W.km_in_of Y) ?R ?B ?F (λ_ _ a ns i j m=>#[a,ns,rfl,j,i,m,λ_=>rfl]) (λ_ _ _ _ _ z=>_L.b7.never z)
 case R=>kernel_rfl
 case B=>intro w;kernel_rfl
 case F=>
  intro w mg D h c G e;let T:_K.Txt (_L.W0 c) mg:=by
   clear g;dsimp only[_L.W0];constructor
   all_goals first|refine' _L.ab8 c G ..|refine' _L.ab1 c G ..|refine' _L.acS c G ..|refine' _L.ago c G ..|refine' _L.aee c G ..|refine' _L.ajy c G ..|refine' _L.aeV c G ..|refine' _L.acE c G ..|refine' _L.t_k c G ..|refine' _L.abI c G ..|refine' _L.afA c G ..|refine' _L.X7 c G ..|refine' _L.ahM c G ..|refine' _L.Yu c G ..|refine' _L.Yx c G ..|refine' _L.abC c G ..|refine' _L.ah6 c G ..|refine' _L.adJ (mg:=mg) (_L.gJ c G ?_ (_L.gJ c G ?_ (_L.gJ c G ?_ (_L.gJ c G ?_ (_L.gJ c G ?_ (_L.gJ c G ?_ (_L.gJ c G ?_ (_L.gJ c G ?_ (_L.gJ c G ?_ (_L.gJ c G ?_ (_L.gJ c G ?_ (_L.gJ c G ?_ _L.jt.nil)))))))))))) ?_
   any_goals try delta _L.bQ
   any_goals try delta _L.pQ
   any_goals first|k_is|k_exc|kernel_rfl|decide
  let#[f,fd,F,o]:=T.aiB;let p:=e.symm.trans o;cases p;let#[oc,od,kV,q,pm,an,E,ct,v,rfl,lk,y]:=id F.ex;show#[_,λs u=>.of_eq rfl,λbase H I C=>g T C F]
end
namespace _K
open PySem _L PyProof.Rows _M _V _W
section
variable{P:Ϯ}{w:Ϭ}{K:ϩ}{mg:Str->Option ε}{base:ϫ}
theorem lH(T:Txt K mg):Def P w K mg base true 1 "_law_draw" ["_law_script","_law_k","_law_many"] (Rx K):=by
 show Γ (S:=R3) T.lH (λ_ _ _ _ _ H vs Q E l h=>?_);intro X _;let#[a,ns,k,m,rfl,g,n,i,j,o,q]:=h;let n1:=T.bY;let nd:=R3.nd;let f:(ns.map V.int).length=ns.length:=aav ..;w_up;cbv;rw[f];let fin:∀c:Int,c=vG ns k->Q (.int ((c % 1000003+31*k*k+1)*48271 % 999983*7919 % 524287 % m)) H:=λc e=>by rw[e];show q
 show Η (λh=>?_) (λh=>?_)
 .cbv;rw[f];cbv;show Ϡ g (ahg 0 (ane _ ()) (alN _ ())) ?_;cbv;show fin _ (by unfold vG;rw[if_pos ()])
 .cbv;show fin _ (by unfold vG;rw[if_neg ()])
def ϓ(a:Str)(v:V):Prop:=v=.non\/(a="number"/\∃i,v=.int i/\ -1000000000000000000<=i/\i<=1000000000000000000)\/(¬a="number"/\∃z,v=.str z/\z.length<=20/\∀c∈z.cps.toList,c∈SG)
theorem ϓ.sc{a:Str}{v:V}(h:ϓ a v):scalar v=true:=by
 obtain rfl|⟨_,i,rfl,_⟩|⟨_,z,rfl,_⟩:=h<;>rfl
theorem ϓ.jQ{a:Str}{v:V}(h:ϓ a v):jQ v=true/\∀z,v=.str z->iD 4000 z:=by
 obtain rfl|⟨_,i,rfl,_⟩|⟨_,z,rfl,f,c⟩:=h
 .show#[rfl,λz e=>by cases e]
 .show#[rfl,λz e=>by cases e]
 .show#[rfl,λy e=>by cases e;show iD.sg () c]
theorem pX{α β:Type}{R:α->β->Prop}:∀{l:List α}{m:List β},m.length=l.length->(∀(i:Nat) b,m[i]?=some b->∃a,l[i]?=some a/\R a b)->ς R l m
 |[],[],_,_=>.nil
 |[],_::_,h,_=>by simp at h
 |_::_,[],h,_=>by simp at h
 |a::l,b::m,h,g=>by
  let#[a',e,r]:=g 0 b rfl;have:a=a':=by simpa using e
  subst this;show .cons r (pX (by simpa using h) λi x e=>by simpa using g (i+1) x (by simpa using e))
theorem Tq:∀{cs:List ξ}{z:Str}{m:Nat}{c:ξ},m<ϊ cs z->cs[m]?=some c->¬c.1=z
 |[],_,_,_,h,_=>by simp[ϊ]at h
 |d::r,z,m,c,h,e=>by
  unfold ϊ at h;split at h
  .omega
  .rename_i hd;cases m with
   |zero=>simp at e;subst e;show hd
   |succ m=>show Tq (cs:=r) (m:=m) () (by simpa using e)
theorem ahX{cs:List ξ}{z:Str}(h:∃c∈cs,c.1=z):(cs.map Prod.fst)[ϊ cs z]?=some z:=by
 let#[c,e1,a]:=Ez h;rw[abD,e1, <-a];rfl
theorem abg{cs:List ξ}{z:Str}{m:Nat}{y:Str}(h:m<ϊ cs z)(e:(cs.map Prod.fst)[m]?=some y):¬y=z:=by
 rw[abD]at e;cases e2:cs[m]? with
 |none=>rw[e2]at e;cases e
 |some c=>
  rw[e2]at e;let a:c.1=y:=by simpa using e
  rw[<-a];show Tq h e2
theorem adY{cs:List ξ}(h:ώ cs=true):1<=cs.length/\cs.length<=6:=by
 unfold ώ at h;simp only[aa2,decide_eq_true_eq]at h;show h.1.1
def ni(c:ε)(r:Option V)(H:Hp)(Q:VK)(E:XK):=∀H',ζ H H'->match r with
 |some v=>Q v H'
 |none=>False
inductive wN (c:ε) (vs:List V) (H:Hp) (Q:VK) (E:XK):Prop
 |mk (z):vs=[.str z]->z.length<=4000->ni c (qj (gf z.cps.toList)) H Q E->wN c vs H Q E
inductive uF (c:ε) (vs:List V) (H:Hp) (Q:VK) (E:XK):Prop
 |mk (z):vs=[.str z]->z.length<=4000->ni c (uX (iT z)) H Q E->uF c vs H Q E
inductive uK (c:ε) (vs:List V) (H:Hp) (Q:VK) (E:XK):Prop
 |mk (k) (z):vs=[.str k,.str z]->z.length<=4000->ni c (dI k z) H Q E->uK c vs H Q E
inductive yC (c:ε) (vs:List V) (H:Hp) (Q:VK) (E:XK):Prop
 |mk (a) (cs):vs=[.ref a]->ϟ H a cs->cs.length<=4000->Gs cs->(∀H',ζ H H'->if ώ cs=true then Q .non H' else False)->yC c vs H Q E
inductive yr (c:ε) (vs:List V) (H:Hp) (Q:VK) (E:XK):Prop
 |mk (a) (cs) (z):vs=[.ref a,.str z]->ϟ H a cs->z.length<=4000->(∀H',ζ H H'->iG cs z=none->False)->(∀p o H',ζ H H'->iG cs z=some o->H' p=some (.tup [.str o.1,.bl o.2])->Q (.ref p) H')->yr c vs H Q E
inductive wM (c:ε) (vs:List V) (H:Hp) (Q:VK) (E:XK):Prop
 |mk (a) (cs) (z):vs=[.ref a,.str z]->ϟ H a cs->z.length<=4000->(∀H',ζ H H'->iC cs z=none->False)->(∀p os H',ζ H H'->iC cs z=some os->H p=none->aH H' p os->Q (.ref p) H')->wM c vs H Q E
inductive W3 (K:ϩ) (mg:Str->Option ε) (vs:List V) (H:Hp) (Q:VK) (E:XK):Prop
 |mk (a:δ) (ws:List Str) (p:Nat):vs=[.ref a,.int p]->η K H a (ws.map V.str)->ws.length<=4000->p<=100000->(¬(p<ws.length/\p<60)->False)->(∀z,ws[p]?=some z->p<60->Q (.str z) H)->W3 K mg vs H Q E
theorem pL(T:Txt K mg):Def P w K mg base true 3 "word_at" ["words","place"] (W3 K mg):=by
 show Γ (N:=["words","place"]) T.pL (λ_ _ _ _ _ H vs Q E j h=>?_);intro X _;let#[a,ws,p,rfl,g,l,m,c,q]:=h;let n1:=T.bY;let n:=T.Yv;let i:(ws.map V.str).length=ws.length:=aav ..;w_up;cbv;rw[i];show Η (λh=>?_) (λh=>?_)
 .show(c ()).elim
 .cbv;show Η (λh2=>?_) (λh2=>?_)
  .show(c ()).elim
  .cbv;let e:p<ws.length:=()
   let f:ws[p]?=some ws[p]:=aah e;show Ϡ g (ϣ (by rw[abD,f];rfl)) ?_;show q _ f ()
def cj(ws:List Str)(s b:Nat):Str:=aeM " " ((ws.drop s).take (b-s))
inductive Ss (K:ϩ) (vs:List V) (H:Hp) (Q:VK) (E:XK):Prop
 |mk (a:δ) (ws:List Str) (s b:Nat):vs=[.ref a,.int s,.int b]->η K H a (ws.map V.str)->ws.length<=4000->(∀z∈ws,z.length<=1000)->s<=b->b<=ws.length->(∀H',ζ H H'->Q (.str (cj ws s b)) H')->Ss K vs H Q E
theorem QH:∀{l:List Str},(∀z∈l,z.length<=1000)->(l.map (·.length)).sum<=l.length*1000
 |[],_=>by simp
 |z::l,h=>by
  let h1:=QH (l:=l) λy a=>h y (by simp[a])
  let h2:=h z (by simp);simp only[ad4,anf,acV];omega
theorem pG(T:Txt K mg):Def P w K mg base true 1 "text_between" ["words","start","behind"] (Ss K):=by
 show Γ (N:=["words","start","behind"]) T.pG (λ_ _ _ _ _ H vs Q E v h=>?_);intro X _;let#[a,ws,i,j,rfl,g,x,m,n,y,q]:=h;let o:(" ":Str).length=1:=by fin2
 let hsz:=ϱ;f_len;show ψ ?_;cbv;show nO g λp s=>?_
 let e:bV (ws.map V.str) (some (i:Int)) (some (j:Int))=((ws.drop i).take (j-i)).map V.str:=by
  unfold bV;let c:(ws.map V.str).length=ws.length:=aav ..;let e1:_H.Β (ws.map V.str).length 0 (some (i:Int))=i:=by
   rw[c];unfold _H.Β;split
   .rename_i h;cases h
   .rename_i h;cases h;rw[if_neg ()];omega
  let u:_H.Β (ws.map V.str).length (ws.map V.str).length (some (j:Int))=j:=by
   rw[c];unfold _H.Β;split
   .rename_i h;cases h
   .rename_i h;cases h;rw[if_neg ()];omega
  rw[e1,u, <-apk, <-apl]
 rw[e];let#[f,ep]:=ϒ s (.lst (((ws.drop i).take (j-i)).map V.str));generalize upd H p (.lst (((ws.drop i).take (j-i)).map V.str))=H2 at f ep⊢;cbv;show rW (η.of ep) ?_ (q H2 f);let h1:=QH (l:=(ws.drop i).take (j-i)) λz h=>m z (ael (aeR h))
 let h2:((ws.drop i).take (j-i)).length<=4000:=by
  rw[afM,aeB];omega
 rw[o];omega
theorem ahd{cs:List ξ}{z:Str}:∀{i:Nat}{c:ξ}(j:Nat),cs[i]?=some c->(∀k c,k<i->cs[k]?=some c->¬c.1=z)->c.1=z->gn cs z j=.int ((j+i:Nat):Int):=by
 induction cs with
 |nil=>intro i c j e;simp at e
 |cons d r f=>
  intro i c j e h a;unfold gn;cases i with
  |zero=>
   simp at e;subst e;rw[if_pos a];rfl
  |succ i=>
   rw[if_neg (h 0 d () rfl)];rw[f (j+1) (by simpa using e) (λk c l g=>h (k+1) c () (by simpa using g)) a]
   congr 2
   omega
theorem abd{cs:List ξ}{z:Str}:∀(j:Nat),(∀c∈cs,¬c.1=z)->gn cs z j=.non:=by
 induction cs with
 |nil=>intro j h;rfl
 |cons d r a=>
  intro j h;unfold gn;rw[if_neg (h d (by simp)),a (j+1) λc e=>h c (by simp[e])]
theorem lZ(T:Txt K mg):Def P w K mg base true 1 "place_of" ["columns","name"] U8:=by
 show Γ (S:=PQ) T.lZ (λ_ _ _ _ _ H vs Q E I h=>?_);intro X _;let#[a,cs,z,rfl,#[vs,B,f],q]:=h;let n1:=T.Zv;let nd:=PQ.nd;w_up;show ajp (by walk_at"po") (by rfl) (by rfl) n1 (by rfl) ?_;cbv;show#[a,vs,rfl,B,λi σ H'=>(∃p s,σ=[some (.ref a),some (.str z),p,s])/\ζ H H'/\∀k c,k<i->cs[k]?=some c->¬c.1=z,#[#[none,none,rfl],ζ.refl _,λk c j=>()],λi σ H' hi g=>.inl (.inl (g.2.1 _ _ B)),λi x u σ H' D g F=>?_,λσ H' g=>?_]
 .let#[#[p,s,rfl],v,l]:=g;let#[c,m,t,rfl,G]:=f.get D;let n :=v.trans (ζ.upd (o:=.tup [.int i,.ref t]) F);let C:(upd H' u (.tup [.int i,.ref t])) u=some (.tup [.int i,.ref t]):=υ;generalize upd H' u (.tup [.int i,.ref t])=H2 at n C⊢;show ϥ (ρ.of C) (Δ (Α nd (by rfl) (.inl rfl) (.inl rfl) (Δ (Α nd (by rfl) (.inl rfl) (.inl rfl) (aa ?_)))));f_len;cbv;show ϑ (ρ.of (n _ _ G)) (show Ω [V.str c.1,V.str c.2] 0=some (V.str c.1)from rfl) ?_;cbv;show Η (λh=>?_) (λh=>?_)
  .let y:c.1=z:=by injection h
   cbv;have:=ahd 0 m l y;rw[am5]at this;rw[<-this];show q H2 n
  .let y:¬c.1=z:=λe=>h (by rw[e])
   cbv;show#[#[_,_,rfl],n,λk d j hd=>?_];by_cases e:k=i
   .subst e;rw[m]at hd;cases hd;show y
   .show l k d () hd
 .let#[#[p,s,rfl],v,l]:=g;f_len;cbv;have:=abd (cs:=cs) (z:=z) 0 λc m=>by
   let#[k,j,e]:=aow m;show l k c (by rw[f.len];show j) (by rw[<-e];show aah j)
  rw[<-this];show q H' v
def eY(cs:List ξ)(ws:List Str)(p:Nat):Option Nat:=if p<60 then match ws[p]? with
 |none=>none
 |some z=>if cs.any (λc=>decide (c.1=z))=true then some (ϊ cs z)else none
 else none
inductive Jm (K:ϩ) (mg:Str->Option ε) (vs:List V) (H:Hp) (Q:VK) (E:XK):Prop
 |mk (b:δ) (cs:List ξ) (a:δ) (ws:List Str) (p:Nat):vs=[.ref b,.ref a,.int p]->ϟ H b cs->η K H a (ws.map V.str)->ws.length<=4000->p<=100000->(eY cs ws p=none->False)->(∀i H',ζ H H'->eY cs ws p=some i->Q (.int (i:Nat)) H')->Jm K mg vs H Q E
theorem xr(T:Txt K mg):Def P w K mg base true 4 "read_column" ["columns","words","place"] (Jm K mg):=by
 show Γ (S:=Ug) T.xr (λ_ _ _ _ _ H vs Q E v h=>?_);intro X _;let#[b,cs,a,ws,p,rfl,m,n,o,s,f,q]:=h;let nd:=Ug.nd;let x:= @lZ P w K mg base T;let y:= @pL P w K mg base T;w_up;cbv;show#[a,ws,p,rfl,n,o,s,λB=>f ?_,λz l g=>?_]
 .unfold eY;by_cases g:p<60
  .rw[if_pos g,anq ()]
  .rw[if_neg g]
 .cbv;show#[b,cs,z,rfl,m,λH2 u=>?_];by_cases i:∃c∈cs,c.1=z
  .let e:eY cs ws p=some (ϊ cs z):=by
    unfold eY;rw[if_pos g,l];show if_pos (by rw[aly];let#[c,j,e]:=i;show#[c,j,decide_eq_true e])
   rw[rG 0 i,am5];cbv;show q _ H2 u e
  .let e:eY cs ws p=none:=by
    unfold eY;rw[if_pos g,l];show if_neg (by rw[aly];rintro⟨c,j,e⟩;show i #[c,j,of_decide_eq_true e])
   show(f e).elim
theorem vg(T:Txt K mg):Def P w K mg base true 1 "value_before" ["one","other"] Jb:=by
 show Γ (N:=["one","other"]) T.vg (λ_ _ _ _ _ H vs Q E a h=>?_);intro X _;let#[x,y,rfl,hs,q]:=h;w_up;cbv;show Η (λh=>?_) (λh=>?_)
 .subst h;cbv;let e:before x .non=false:=by cases x<;>rfl
  rw[e]at q;show q
 .cbv;show Η (λh2=>?_) (λh2=>?_)
  .subst h2;cbv;let e:before .non y=true:=by cases y<;>first|rfl|show absurd rfl h
   rw[e]at q;show q
  .obtain e|e|⟨i,j,rfl,rfl⟩|⟨i,j,rfl,rfl⟩:=hs
   .show absurd e h2
   .show absurd e h
   .cbv;show q
   .cbv;show q
inductive lY (K:ϩ) (vs:List V) (H:Hp) (Q:VK) (E:XK):Prop
 |mk (a C dx:δ) (fs:List (Str×V)) (z:Str):vs=[.ref a,.str z]->H a=some (.ins C dx fs)->Ϛ K C->Ψ K C "text"->fs.length<900->Q .non (upd H a (.ins C dx (ϡ "text" (.str z) fs)))->lY K vs H Q E
theorem qF{cc:Bool}:FD P w K mg base cc 1 "__init__" "Sieve.__init__" Hk ["self","text"] (lY K):=by
 show aO (N:=["self","text"]) (λ_ _ _ _ _ H vs Q E g h=>?_);intro X _;let#[a,C,dx,fs,z,rfl,c,e,f,i,q]:=h;f_len;show dM ?_;f_are;f_are;show#[a,C,dx,fs,rfl,c,e,f,(),q]
inductive CZ (K:ϩ) (vs:List V) (H:Hp) (Q:VK) (E:XK):Prop
 |mk (a C dx:δ) (fs:List (Str×V)) (z:Str) (p:V):vs=[.ref a,.str z,p]->H a=some (.ins C dx fs)->Ϛ K C->Ψ K C "text"->Ψ K C "place"->fs.length<800->Q .non (upd (upd H a (.ins C dx (ϡ "text" (.str z) fs))) a (.ins C dx (ϡ "place" p (ϡ "text" (.str z) fs))))->CZ K vs H Q E
theorem agm(T:Txt K mg){cc:Bool}:FD P w K mg base cc 2 "__init__" "NoneSieve.__init__" Vc ["self","text","place"] (CZ K):=by
 show aO (N:=["self","text","place"]) (λ_ _ _ _ _ H vs Q E f h=>?_);intro X _;let#[a,C,dx,fs,z,p,rfl,g,e,i,c,j,q]:=h;let B:oA P w K mg base cc 1 "Sieve" "__init__" ["self","text"] (lY K):=qF.asked T.wR T.wV;let l:=jY "text" (V.str z) fs;w_up;show aV ?_;show ye (pl:=_) B f id ϋ ?_;cbv;show#[a,C,dx,fs,z,rfl,g,e,i,(),?_];f_len;show dM ?_;f_are;f_are;show#[a,C,dx,_,rfl,υ,e,c,(),q]
inductive sX (K:ϩ) (vs:List V) (H:Hp) (Q:VK) (E:XK):Prop
 |mk (a C dx:δ) (fs:List (Str×V)) (z:Str) (p v:V):vs=[.ref a,.str z,p,v]->H a=some (.ins C dx fs)->Ϛ K C->Ψ K C "text"->Ψ K C "place"->Ψ K C "value"->fs.length<800->(∀H',H' a=some (.ins C dx (ϡ "value" v (ϡ "place" p (ϡ "text" (.str z) fs))))->(∀b o,b≠a->H b=some o->H' b=some o)->Q .non H')->sX K vs H Q E
theorem BP(T:Txt K mg){cc:Bool}:FD P w K mg base cc 2 "__init__" "ValueSieve.__init__" v7 ["self","text","place","value"] (sX K):=by
 show aO (N:=["self","text","place","value"]) (λ_ _ _ _ _ H vs Q E i h=>?_);intro X _;let#[a,C,dx,fs,z,p,v,rfl,j,c,l,f,m,s,q]:=h;let B:oA P w K mg base cc 1 "Sieve" "__init__" ["self","text"] (lY K):=qF.asked T.wR T.wV;let u:=jY "text" (V.str z) fs;let n:=jY "place" p (ϡ "text" (V.str z) fs);w_up;show aV ?_;show ye (pl:=_) B i id ϋ ?_;cbv;show#[a,C,dx,fs,z,rfl,j,c,l,(),?_];w_up;show dM ?_;f_are;f_are;show#[a,C,dx,_,rfl,υ,c,f,(),?_];f_len;show dM ?_;f_are;f_are;show#[a,C,dx,_,rfl,υ,c,m,(),q _ υ λb o g e=>?_];rw[ο g,ο g,ο g];show e
inductive Lk|is|over|holds
def u5:Lk->V->V->Bool
 |.is,x,v=>decide (x=v)
 |.over,x,v=>before v x
 |.holds,.str x,.str v=> !(Builtin.Str.occurrences x v 0 x.length 1).isEmpty
 |.holds,_,_=>false
abbrev F3(z:Str)(p:Nat)(v:V):List (Str×V):=[("text",.str z),("place",.int p),("value",v)]
def Du:Lk->V->V->Prop
 |.holds,x,v=>∃y z,x=.str y/\v=.str z
 |_,x,v=>scalar x=true/\scalar v=true/\aJ x v
inductive tK (l:Lk) (C:δ) (vs:List V) (H:Hp) (Q:VK) (E:XK):Prop
 |mk (a dx:δ) (z:Str) (p:Nat) (x v:V):vs=[.ref a,x]->H a=some (.ins C dx (F3 z p v))->Du l x v->Q (.bl (u5 l x v)) H->tK l C vs H Q E
theorem acv{cc:Bool}{C:δ}(c:Ϛ K C)(n:Ψ K C "value"):FD P w K mg base cc 2 "fits" "ValueSieve.fits" TY ["self","value"] (tK .is C):=by
 show aO (N:=["self","value"]) (λ_ _ _ _ _ H vs Q E i h=>?_);intro X _;let#[a,dx,z,p,x,v,rfl,e,#[f,g,j],q]:=h;f_len;show ψ ?_;f_are;f_are;show ao ?_;f_are;show#[a,C,dx,_,v,rfl,e,c,n,rfl,?_];show Cd (wA f g) ?_;show q
theorem ad1{x y:V}(h:aJ x y):aJ y x:=by
 obtain h|h|⟨i,j,a,b⟩|⟨i,j,a,b⟩:=h
 .show .inr (.inl h)
 .show .inl h
 .show .inr (.inr (.inl #[j,i,b,a]))
 .show .inr (.inr (.inr #[j,i,b,a]))
theorem ahy(T:Txt K mg){C:δ}(c:Ϛ K C)(n:Ψ K C "value"):FD P w K mg base true 2 "fits" "OverSieve.fits" Vq ["self","value"] (tK .over C):=by
 show aO (N:=["self","value"]) (λ_ _ _ _ _ H vs Q E g h=>?_);intro X _;let#[a,dx,z,p,x,v,rfl,e,#[i,j,f],q]:=h;let l:= @vg P w K mg base T;f_len;show ψ ?_;cbv;show ao ?_;f_are;show#[a,C,dx,_,v,rfl,e,c,n,rfl,?_];cbv;show#[v,x,rfl,ad1 f,q]
theorem ahb{cc:Bool}{C:δ}(c:Ϛ K C)(n:Ψ K C "value"):FD P w K mg base cc 2 "fits" "HoldsSieve.fits" Ot ["self","value"] (tK .holds C):=by
 show aO (N:=["self","value"]) (λ_ _ _ _ _ H vs Q E f h=>?_);intro X _;let#[a,dx,z,p,x,v,rfl,e,#[y,u,rfl,rfl],q]:=h;f_len;show ψ ?_;f_are;show ao ?_;f_are;show#[a,C,dx,_,_,rfl,e,c,n,rfl,?_];cbv;show q
inductive Hi (K:ϩ) (l:Lk) (C:δ) (vs:List V) (H:Hp) (Q:VK) (E:XK):Prop
 |mk (a dx:δ) (z:Str) (p:Nat) (v:V) (b:δ) (xs:List V) (x:V):vs=[.ref a,.ref b]->H a=some (.ins C dx (F3 z p v))->η K H b xs->xs[p]?=some x->(x=.non\/Du l x v)->Q (.bl (!decide (x=.non)&&u5 l x v)) H->Hi K l C vs H Q E
theorem FW{l:Lk}{C:δ}(M:ϙ P w K mg base true 2 C "fits" ["self","value"] (tK l C))(n:Ψ K C "place"):FD P w K mg base true 3 "lets" "ValueSieve.lets" tZ ["self","values"] (Hi K l C):=by
 show aO (S:=Tt) (λ_ _ _ _ _ H vs Q E f h=>?_);intro X _;let#[a,dx,z,p,v,b,xs,x,rfl,c,g,i,j,q]:=h;let nd:=Tt.nd;w_up;cbv;show ao ?_;f_are;show#[a,C,dx,_,_,rfl,c,M.cls,n,rfl,?_];show Ϡ g (ϣ i) ?_;cbv;show ji (λh=>?_) (λh=>?_)
 .let e:¬x=.non:=by simpa using h
  show Q0 ?_;show cz (pl:=_) f ϋ (h:=?_);f_are;show#[a,C,dx,_,_,_,_,_,rfl,c,rfl,M,by decide,λ_=>rfl,?_];cbv;show#[a,dx,z,p,x,v,rfl,c,j.resolve_left e,?_];rw[h,alf]at q;show q
 .rw[h]at q;show q
theorem tL(T:Txt K mg):Def P w K mg base true 1 "made_of" ["text","signs"] JG:=by
 show Γ (N:=["text","signs"]) T.tL (λ_ _ _ _ _ H vs Q E p h=>?_);intro X _;let#[z,g,rfl,s,q]:=h;let n1:=T.QS;f_len;show ψ ?_;f_are;f_are;show ado ["sign","signs"] (σ':=[none,some (.str g)]) (by rfl) (by rfl) (du (ω Wz)) (by fin2) (by rfl) (by rfl) (by intro _;rfl) ?_;f_are;show#[z,rfl,?_,λi v=>∃c,z.cps.toList[i]?=some c/\v=.bl (decide (c∈g.cps.toList)),λfp f C u x i c H2 j e=>?_,λf H2 xs y l m n e=>?_]
 .have :z.cps.size=z.length:=rfl;let h2:ϰ=16777216:=ϱ;omega
 .cbv;show#[#[c,j,by rw[StrLaws.found_one]],ζ.refl _]
 .let ex:=jD (ys:=z.cps.toList) (λc=>V.bl (decide (c∈g.cps.toList))) (by rw[l];simp) m;let a:xs=(z.cps.toList.map λc=>decide (c∈g.cps.toList)).map V.bl:=by rw[ex,afC];rfl
  subst a;cbv;show W6 (by rfl) (η.of n) ?_;let o:(z.cps.toList.map λc=>decide (c∈g.cps.toList)).all id=d7 z g:=by rw[aoO];rfl
  rw[o];show q _ e
theorem vD(T:Txt K mg):Def P w K mg base true 2 "is_text_value" ["value"] Ui:=by
 show Γ (N:=["value"]) T.vD (λ_ _ _ _ _ H vs Q E g h=>?_);intro X _;let#[v,rfl,hs,c,q]:=h;let j:=T.aij;let l:=T.aha;let n1:=T.yq;let n2:=T.qd;let m:=T.bY;let n:= @tL P w K mg base T;let hsz:=ϱ;f_len;show ψ ?_;cases v with
 |int i=>
  cbv;show q H (ζ.refl _)
 |non=>
  cbv;show q H (ζ.refl _)
 |str z=>
  let a:z.length<=4000:=c;cbv;show Η (λh=>?_) (λh=>?_)
  .cbv;show#[z,_,rfl,a,λH' f=>?_];let e:iB (.str z)=d7 z uc:=by
    let h':z.length<=20:=()
    unfold iB;simp[h']
   rw[e]at q;show q H' f
  .let e:iB (.str z)=false:=by
    let h':¬z.length<=20:=()
    unfold iB;simp[h']
   rw[e]at q;show q H (ζ.refl _)
 |_=>cases hs
theorem Cj(T:Txt K mg):Def P w K mg base true 2 "are_figures" ["word"] Nx:=by
 show Γ (N:=["word"]) T.Cj (λ_ _ _ _ _ H vs Q E s h=>?_);intro X _;let#[z,rfl,n,q]:=h;let u:=T.Yp;let y:= @tL P w K mg base T;let hsz:=ϱ;let i:("0":Str).cps.toList=[48]:=by fin2
 let e1:("":Str).cps.toList=[]:=by fin2
 unfold cW at q;f_len;show ψ ?_;cbv;show Η (λh=>?_) (λh=>?_)
 .let h':z.cps.toList=[48]:=by cases h;show i
  rw[h']at q;show q H (ζ.refl _)
 .let h':¬z.cps.toList=[48]:=λh2=>h (by rw[gm (h2.trans i.symm)])
  rw[decide_eq_false h',an0]at q;cbv;show dJ (λh2=>?_) (λh2=>?_)
  .let a:z.cps.toList≠[]:=λe=>h2 (by rw[gm (e.trans e1.symm)])
   rw[decide_eq_true a,alf]at q;let#[c,r,o]:=anA a;let g:z.cps.toList[0]?=some c:=by rw[o];rfl
   cbv;show gY () (ϣ (j:=0) g) ?_;cbv;rw[g]at q;show dJ (λe=>?_) (λe=>?_)
   .let f:some c≠some 48:=λl=>e (by cases l;show congrArg V.str (gm i.symm))
    rw[decide_eq_true f,alf]at q;cbv;show#[z,_,rfl,n,λH' p=>?_];rw[afY];show q H' p
   .let f:¬(some c≠some 48):=λl=>l (by
     have:=congrArg (λv:V=>match v with|.str x=>x.cps.toList|_=>[]) e;let m:[c]=("0":Str).cps.toList:=this;rw[i]at m;cases m;rfl)
    rw[decide_eq_false f,amV]at q;show q H (ζ.refl _)
  .let a:¬z.cps.toList≠[]:=λe=>e (by cases h2;show e1)
   rw[decide_eq_false a,amV]at q;show q H (ζ.refl _)
theorem vX(T:Txt K mg):Def P w K mg base true 3 "read_figures" ["word","most"] QW:=by
 show Γ (S:=Hr) T.vX (λ_ _ _ _ _ H vs Q E p h=>?_);intro X _;let#[z,m,k,rfl,g,s,i,j,c,k1,k2,q]:=h;let n1:=T.bY;let n2:=T.qd;let u:=T.Jv;let nd:=Hr.nd;let v:= @Cj P w K mg base T;let hsz:=ϱ;let y:=_L.len_list z;let out:∀(H1:Hp)(o:Option V),ζ H H1->gH z.cps.toList m=none->Ο X ((aB Fg).drop 1) {nx:=λ_ H'=>Q .non H',rt:=Q} [some (.str z),some (.int m),o] H1:=by
  intro H1 o l e;let q1:=q H1 l;rw[e]at q1;f_len;cbv;show q1
 w_up;cbv;show#[z,rfl,g,λH1 a =>?_];cbv;show ji (λh1=>?_) (λh1=>?_)
 .cbv;show rB (qH i) ?_;cbv;rw[j];show Η (λh2=>?_) (λh2=>?_)
  .cbv;let#[hd,n]:=T4 h1;show aiy (intText_digits hd n ()) () ?_;cbv;show Η (λf=>?_) (λf=>?_)
   .let q1:=q H1 a;let e:gH z.cps.toList m=some _:=if_pos #[h1,f];rw[e]at q1;cbv;show q1
   .show Ε (out H1 _ a (if_neg λx=>f x.2))
  .show Ε (out H1 _ a (if_neg λx=>h2 ?_));have:=Gi x.1 x.2 c k1;omega
 .show Ε (out H1 _ a (if_neg λx=>by rw[h1]at x;show aaN x.1))
theorem Fp(T:Txt K mg):Def P w K mg base true 4 "read_number_word" ["word"] (wN (.ref (θ mg "NoValue"))):=by
 show Γ (S:=Rp) T.Fp (λ_ _ _ _ _ H vs Q E s h=>?_);intro X _;let#[z,rfl,u,q]:=h;let v:=T.ahF;let x:=T.O6;let nd:=Rp.nd;let y:= @vX P w K mg base T;let hsz:=ϱ;let l:(Ϫ (toString (1000000000000000000:Int))).length=19:=by fin2
 let f:gf z.cps.toList=none->False:=λn=>by
  let c:=q H (ζ.refl _);rw[n]at c;show c
 w_up;cbv;show RW ?_;rw[show Txt.startswith z "-"=decide (z.cps.toList[0]?=some 45)from Ru z 45];generalize m:decide (z.cps.toList[0]?=some 45)=o;cbv;cases o with
 |true=>
  let g:=of_decide_eq_true m;cbv;show gZ () ?_;cbv;let p:=lQ z (some 1) none;show#[_,_,19,rfl,(),by decide,by decide,l,by decide,by decide,by decide,λH1 j =>?_];rw[show(Ι z (some 1) none).cps.toList=z.cps.toList.drop 1 from xj z 1];let a:=ajj g;cases e:gH (z.cps.toList.drop 1) 1000000000000000000 with
  |none=>
   rw[e]at a;show(f a).elim
  |some i=>
   rw[e]at a;dsimp only at a;simp only[Ek];cbv;show Η (λh1=>?_) (λh1=>?_)
   .let h2:i=0:=by injection h1
    rw[if_pos h2]at a;show(f a).elim
   .let h2:¬i=0:=λe=>h1 (by rw[e])
    rw[if_neg h2]at a;let c:=q H1 j;rw[a]at c;show Ε ?_;cbv;show c
 |false=>
  let g:=of_decide_eq_false m;cbv;show#[_,_,19,rfl,(),by decide,by decide,l,by decide,by decide,by decide,λH1 j =>?_];let a:=K6 g;cases e:gH z.cps.toList 1000000000000000000 with
  |none=>
   rw[e]at a;show(f a).elim
  |some i=>
   rw[e]at a;simp only[Ek];let c:=q H1 j;rw[a]at c;cbv;show c
theorem Ea(T:Txt K mg):Def P w K mg base true 3 "read_text_word" ["word"] (uF (.ref (θ mg "NoValue"))):=by
 show Γ (S:=Vf) T.Ea (λ_ _ _ _ _ H vs Q E j h=>?_);intro X _;let#[z,rfl,l,q]:=h;let m:=T.Qi;let nd:=Vf.nd;let n:= @vD P w K mg base T;let hsz:=ϱ;let e1:Ϫ "'"=#[#v[39]]:=by fin2
 let o:=lQ z (some 1) none;let e:iT z=none->False:=λf=>by
  let a:=q H (ζ.refl _);rw[f]at a;show a
 w_up;cbv;show RW ?_;cbv;rw[e1,Ru];show Η (λh1=>?_) (λh1=>?_)
 .cbv;show gZ () ?_;cbv;show#[_,rfl,rfl,(show(Ι z (some 1) none).length<=4000 by omega),λH1 g =>?_];cbv;show ji (λh2=>?_) (λh2=>?_)
  .cbv;show gZ () ?_;let a:=q H1 g;let i:iT z=some (Ι z (some 1) none):=by
    unfold iT;rw[if_pos #[h1,h2]]
   rw[i]at a;show a
  .show(e ?_).elim;unfold iT;rw[if_neg λc=>by rw[h2]at c;show aaN c.2]
 .show(e ?_).elim;unfold iT;rw[if_neg λc=>h1 c.1]
theorem uC(T:Txt K mg):Def P w K mg base true 5 "read_value" ["kind","word"] (uK (.ref (θ mg "NoValue"))):=by
 show Γ (N:=["kind","word"]) T.uC (λ_ _ _ _ _ H vs Q E j h=>?_);intro X _;let#[k,z,rfl,g,q]:=h;let l:=T.QQ;let m:=T.Az;let n:= @Fp P w K mg base T;let o:= @Ea P w K mg base T;w_up;cbv;show Η (λh1=>?_) (λh1=>?_)
 .let h2:z="?":=by cases h1;rfl
  let i:=q H (ζ.refl _);let a:dI k z=some .non:=by unfold dI;rw[if_pos h2]
  rw[a]at i;cbv;show i
 .let h2:¬z="?":=λe=>h1 (by rw[e])
  let a:dI k z=if k="number" then qj (gf z.cps.toList)else uX (iT z):=by unfold dI;rw[if_neg h2]
  rw[a]at q;cbv;show Η (λc=>?_) (λc=>?_)
  .let f:k="number":=by cases c;rfl
   rw[if_pos f]at q;cbv;show#[z,rfl,g,q]
  .let f:¬k="number":=λe=>c (by rw[e])
   rw[if_neg f]at q;cbv;show#[z,rfl,g,q]
inductive Ny (K:ϩ) (vs:List V) (H:Hp) (Q:VK) (E:XK):Prop
 |mk (kd:Str) (a:δ) (ws:List Str) (p:Nat) (z:Str) (v:V):vs=[.str kd,.ref a,.int p]->η K H a (ws.map V.str)->ws.length<=4000->ws[p]?=some z->p<60->z.length<=4000->dI kd z=some v->¬v=.non->(∀H',ζ H H'->Q v H')->Ny K vs H Q E
theorem Ex(T:Txt K mg):Def P w K mg base true 6 "read_word" ["kind","words","place"] (Ny K):=by
 show Γ (S:=W4) T.Ex (λ_ _ _ _ _ H vs Q E B h=>?_);intro X _;let#[i,a,ws,p,z,v,rfl,j,l,g,m,n,o,s,q]:=h;let nd:=W4.nd;let C:= @pL P w K mg base T;let D:= @uC P w K mg base T;let f:=(aai.mp g).1;w_up;cbv;show#[a,ws,p,rfl,j,l,(),λu=>absurd #[f,m] u,λz' e _=>?_];rw[g]at e;cases e;w_up;show GD (λ_ _ _ _=>False) rfl rfl (λF pn xo po=>?_) (λσ c d H' x=>x.elim);f_len;cbv;show#[i,z,rfl,n,λH' y=>?_];rw[o];show Ε ?_;w_up;cbv;rw[decide_eq_false s];cbv;show q H' y
inductive dq|all|none (p:Nat)|look (l:Lk) (p:Nat) (v:V)
def xQ(mg:Str->Option ε):Lk->δ
 |.is=>θ mg "IsSieve"
 |.over=>θ mg "OverSieve"
 |.holds=>θ mg "HoldsSieve"
def pI(mg:Str->Option ε)(H:Hp)(a:δ):dq->Str->Prop
 |.all,z=>∃dx,H a=some (.ins (θ mg "AllSieve") dx [("text",.str z)])
 |.none p,z=>∃dx,H a=some (.ins (θ mg "NoneSieve") dx [("text",.str z),("place",.int p)])
 |.look l p v,z=>∃dx,H a=some (.ins (xQ mg l) dx (F3 z p v))
theorem pI.same{mg:Str->Option ε}{H H':Hp}{a:δ}{s:dq}{z:Str}(h:pI mg H a s z)(e:ζ H H'):pI mg H' a s z:=by
 cases s<;>let#[dx,h]:=h<;>show#[dx,e _ _ h]
def Cp(mg:Str->Option ε)(H:Hp)(p:δ)(s:dq)(z:Str)(n:Nat):=∃t,H p=some (.tup [.ref t,.int n])/\pI mg H t s z
inductive Hs (K:ϩ) (mg:Str->Option ε) (vs:List V) (H:Hp) (Q:VK) (E:XK):Prop
 |mk (b:δ) (cs:List ξ) (a:δ) (ws:List Str) (s i:Nat):vs=[.ref b,.ref a,.int s]->ϟ H b cs->η K H a (ws.map V.str)->ws.length<=4000->(∀z∈ws,z.length<=1000)->s+2<=ws.length->eY cs ws (s+1)=some i->(∀p H',ζ H H'->Cp mg H' p (.none i) (cj ws s (s+2)) (s+2)->Q (.ref p) H')->Hs K mg vs H Q E
theorem Dj(T:Txt K mg):Def P w K mg base true 5 "read_none" ["columns","words","start"] (Hs K mg):=by
 show Γ (S:=Ie) T.Dj (λ_ _ _ _ _ H vs Q E C h=>?_);intro X _;let#[b,cs,a,ws,f,i,rfl,D,n,s,F,g,hi,q]:=h;let nd:=Ie.nd;let hsz:=ϱ;let L:= @xr P w K mg base T;let O:= @pG P w K mg base T;let M:jF P w K mg base true 2 "NoneSieve" (θ mg "NoneSieve") ["self","text","place"] (CZ K):=(agm T).make T.ade T.ajh;w_up;cbv;show#[b,cs,a,ws,f+1,by simp,D,n,s,(),λe=>(by rw[hi]at e;cases e),λR H2 u e=>?_];rw[hi]at e;cases e;cbv;show kh M C (by decide) (λ_=>rfl) ϋ ?_;cbv;show#[a,ws,f,f+2,by simp,u.seq n,s,F,(),g,λv j=>?_];cbv;intro y dx l m U;show#[y,_,dx,[],cj ws f (f+2),_,rfl,υ,T.qO,T.Kc,T.Nr,by simp,rfl,?_];cbv;show#[Ζ,λp x=>?_];generalize z:upd (upd (upd (upd v dx (.own y)) y (.ins (θ mg "NoneSieve") dx [])) y _) y _=G at x⊢;let I:ζ v G:=λc o e=>by
  rw[<-z,ο (Ϗ e l),ο (Ϗ e l),ο (Ϗ e l),ο (Ϗ e m)];show e
 let J:G y=some (.ins (θ mg "NoneSieve") dx [("text",.str (cj ws f (f+2))),("place",.int i)]):=by
  rw[<-z];show υ
 let B:ζ G (upd G p (.tup [.ref y,.int (f+2)])):=ζ.upd x;show q p _ (((u.trans j).trans I).trans B) #[y,υ,dx,B _ _ J]
def mq:Lk->Str
 |.is=>"is"
 |.over=>"over"
 |.holds=>"holds"
inductive V8 (K:ϩ) (mg:Str->Option ε) (vs:List V) (H:Hp) (Q:VK) (E:XK):Prop
 |mk (l:Lk) (b:δ) (cs:List ξ) (a:δ) (ws:List Str) (s i:Nat) (c:ξ) (z:Str) (v:V):vs=[.ref b,.ref a,.int s]->ϟ H b cs->η K H a (ws.map V.str)->ws.length<=4000->(∀z∈ws,z.length<=1000)->s+3<=ws.length->s+2<60->ws[s]?=some (mq l)->eY cs ws (s+1)=some i->cs[i]?=some c->(l=.holds->c.2="text")->ws[s+2]?=some z->dI c.2 z=some v->¬v=.non->(∀p H',ζ H H'->Cp mg H' p (.look l i v) (cj ws s (s+3)) (s+3)->Q (.ref p) H')->V8 K mg vs H Q E
theorem DY(T:Txt K mg):Def P w K mg base true 7 "read_of_value" ["columns","words","start"] (V8 K mg):=by
 show Γ (S:=Ip) T.DY (λ_ _ _ _ _ H vs Q E W h=>?_);intro X _;let#[l,b,cs,a,ws,f,i,c,z,v,rfl,hC,n,B,D,C,Y,hw,hi,hc,hh,F,Z,Ϲ,q]:=h;let nd:=Ip.nd;let hsz:=ϱ;let g1:=T.zF;let g2:=T.Vi;let g3:=T.Ep;let g4:=T.yI;let g5:=T.Cy;let D1:= @xr P w K mg base T;let D2:= @pG P w K mg base T;let D3:= @Ex P w K mg base T;w_up;cbv;show Ϡ n (ϣ (by rw[abD,hw];rfl)) ?_;cbv;show#[b,cs,a,ws,f+1,by simp,hC,n,B,(),λe=>(by rw[hi]at e;cases e),λi' H2 m e=>?_];rw[hi]at e;cases e;let#[vs,hb,ab]:=hC.same m;let#[cv,gc,t,rfl,ht]:=ab.get' hc;w_up;cbv;show Ϡ (η.of hb) (ϣ gc) ?_;cbv;show ϑ (ρ.of ht) (show Ω [V.str c.1,V.str c.2] 1=some (V.str c.2)from rfl) ?_;cases l with
 |is=>
  let M:jF P w K mg base true 2 "IsSieve" (θ mg "IsSieve") ["self","text","place","value"] (sX K):=(BP T).make T.YK T.aby
  w_up;cbv;show cG ?_;show Ε ?_;w_up;cbv;show#[c.2,a,ws,f+2,z,v,by simp,m.seq n,B,F,Y,by have:=D z (aaM F);omega,Z,Ϲ,λH3 g=>?_];cbv;show#[a,ws,f,f+3,by simp,(m.trans g).seq n,B,D,(),C,λI J =>?_];w_up;cbv;show eV ?_;cbv;show kh M W (by decide) (λ_=>rfl) ϋ ?_;cbv;intro y dx s j u;show#[y,_,dx,[],cj ws f (f+3),_,v,rfl,υ,T.oE,T.KN,T.Uz,T.Qn,by simp,λG L O=>#[rfl,?_]];cbv;show#[Ζ,λp R=>?_];let U:ζ I G:=λc o e=>O c o (Ϗ e s) (by rw[ο (Ϗ e s),ο (Ϗ e j)];show e)
  let x:ζ G (upd G p (.tup [.ref y,.int (f+3)])):=ζ.upd R;show q p _ ((((m.trans g).trans J).trans U).trans x) #[y,υ,dx,x _ _ L]
 |over=>
  let M:jF P w K mg base true 2 "OverSieve" (θ mg "OverSieve") ["self","text","place","value"] (sX K):=(BP T).make T.ah8 T.aa7;w_up;cbv;show cG ?_;show Ε ?_;w_up;cbv;show#[c.2,a,ws,f+2,z,v,by simp,m.seq n,B,F,Y,by have:=D z (aaM F);omega,Z,Ϲ,λH3 g=>?_];cbv;show#[a,ws,f,f+3,by simp,(m.trans g).seq n,B,D,(),C,λI J =>?_];w_up;cbv;show cG ?_;show Ε ?_;w_up;cbv;show cG ?_;show Ε ?_;w_up;cbv;show eV ?_;cbv;show kh M W (by decide) (λ_=>rfl) ϋ ?_;cbv;intro y dx s j u;show#[y,_,dx,[],cj ws f (f+3),_,v,rfl,υ,T.pR,T.S8,T.Ul,T.Io,by simp,λG L O=>#[rfl,?_]];cbv;show#[Ζ,λp R=>?_];let U:ζ I G:=λc o e=>O c o (Ϗ e s) (by rw[ο (Ϗ e s),ο (Ϗ e j)];show e)
  let x:ζ G (upd G p (.tup [.ref y,.int (f+3)])):=ζ.upd R;show q p _ ((((m.trans g).trans J).trans U).trans x) #[y,υ,dx,x _ _ L]
 |holds=>
  let M:jF P w K mg base true 2 "HoldsSieve" (θ mg "HoldsSieve") ["self","text","place","value"] (sX K):=(BP T).make T.aad T.afw;w_up;cbv;show eV ?_;cbv;rw[hh rfl,decide_eq_true rfl];walk_at"t";show Ε ?_;w_up;cbv;show#[c.2,a,ws,f+2,z,v,by simp,m.seq n,B,F,Y,by have:=D z (aaM F);omega,Z,Ϲ,λH3 g=>?_];cbv;show#[a,ws,f,f+3,by simp,(m.trans g).seq n,B,D,(),C,λI J =>?_];w_up;cbv;show cG ?_;show Ε ?_;w_up;cbv;show cG ?_;show Ε ?_;w_up;cbv;show cG ?_;cbv;show kh M W (by decide) (λ_=>rfl) ϋ ?_;cbv;intro y dx s j u;show#[y,_,dx,[],cj ws f (f+3),_,v,rfl,υ,T.pJ,T.Iu,T.Sv,T.Wi,by simp,λG L O=>#[rfl,?_]];cbv;show#[Ζ,λp R=>?_];let U:ζ I G:=λc o e=>O c o (Ϗ e s) (by rw[ο (Ϗ e s),ο (Ϗ e j)];show e)
  let x:ζ G (upd G p (.tup [.ref y,.int (f+3)])):=ζ.upd R;show q p _ ((((m.trans g).trans J).trans U).trans x) #[y,υ,dx,x _ _ L]
def pH(cs:List ξ)(ws:List Str)(s:Nat):dq->Nat->Prop
 |.all,n=>ws[s]?=some "all"/\n=s+1
 |.none i,n=>ws[s]?=some "none"/\s+2<=ws.length/\eY cs ws (s+1)=some i/\n=s+2
 |.look l i v,n=>s+3<=ws.length/\s+2<60/\ws[s]?=some (mq l)/\eY cs ws (s+1)=some i/\(∃c z,cs[i]?=some c/\(l=.holds->c.2="text")/\ws[s+2]?=some z/\dI c.2 z=some v)/\(¬v=.non)/\n=s+3
theorem ag3{ws:List Str}{s:Nat}{z:Str}(h:ws[s]?=some z):cj ws s (s+1)=z:=by
 unfold cj;let e:(ws.drop s).take (s+1-s)=[z]:=by
  rw[show s+1-s=1 by omega,qM h];rfl
 rw[e];show join_one _ z
inductive Sg (K:ϩ) (mg:Str->Option ε) (vs:List V) (H:Hp) (Q:VK) (E:XK):Prop
 |mk (b:δ) (cs:List ξ) (a:δ) (ws:List Str) (s n:Nat) (k:Int) (sv:dq):vs=[.ref b,.ref a,.int s,.int k]->ϟ H b cs->η K H a (ws.map V.str)->ws.length<=4000->(∀z∈ws,z.length<=1000)->s<60->pH cs ws s sv n->(∀p H',ζ H H'->Cp mg H' p sv (cj ws s n) n->Q (.ref p) H')->Sg K mg vs H Q E
theorem ah9(T:Txt K mg):Def P w K mg base true 8 "read_part" ["columns","words","start","within"] (Sg K mg):=by
 show Γ (S:=xR) T.PB (λ_ _ _ _ _ H vs Q E Z h=>?_);intro X _;let#[b,cs,a,ws,m,n,k,L,rfl,O,B,C,R,jH,f,q]:=h;let nd:=xR.nd;let hsz:=ϱ;let g1:=T.zF;let g2:=T.M7;let g3:=T.Ep;let g4:=T.yI;let g5:=T.Cy;let g6:=T.OD;let D1:= @pL P w K mg base T;let D2:= @Dj P w K mg base T;let D3:= @DY P w K mg base T;let M:jF P w K mg base true 1 "AllSieve" (θ mg "AllSieve") ["self","text"] (lY K):=qF.make T.ag9 T.acs;let g:∃z,ws[m]?=some z:=by
  cases L with
  |all=>show#[_,f.1]
  |none i=>show#[_,f.1]
  |look l i v=>show#[_,f.2.2.1]
 let#[z0,g]:=g;let D:=(aai.mp g).1;w_up;cbv;show#[a,ws,m,rfl,B,C,(),λhb=>absurd #[D,jH] hb,λz' s _=>?_];rw[g]at s;cases s;w_up;cbv;cases L with
 |all=>
  let#[h1,rfl]:=f;rw[g]at h1;cases h1;show eV ?_;cbv;show kh M Z (by decide) (λ_=>rfl) ϋ ?_;cbv;intro y dx U F Ϲ;show#[y,_,dx,[],_,rfl,υ,T.xx,T.Q9,by simp,rfl,?_];cbv;show#[Ζ,λp j=>?_];generalize W:upd (upd (upd H dx (.own y)) y (.ins (θ mg "AllSieve") dx [])) y _=G at j⊢;let d8:ζ H G:=λc o e=>by
   rw[<-W,ο (Ϗ e U),ο (Ϗ e U),ο (Ϗ e F)];show e
  let ey:G y=some (.ins (θ mg "AllSieve") dx [("text",.str "all")]):=by
   rw[<-W];show υ
  let Y:ζ G (upd G p (.tup [.ref y,.int (m+1)])):=ζ.upd j;show q p _ (d8.trans Y) #[y,υ,dx,?_];rw[ag3 g];show Y _ _ ey
 |none i=>
  let#[h1,h2,u,rfl]:=f;rw[g]at h1;cases h1;show cG ?_;show Ε ?_;w_up;cbv;show eV ?_;cbv;show#[b,cs,a,ws,m,i,rfl,O,B,C,R,h2,u,λp H' I j=>q p H' I j]
 |look l i v=>
  let#[h1,h2,u,h4,#[c,z,h5,h6,h7,h8],h9,rfl]:=f;rw[g]at u;cases u;let e1:¬V.str (mq l)=V.str ("all":Str):=by cases l<;>fin2
  let e2:¬V.str (mq l)=V.str ("none":Str):=by cases l<;>fin2
  let e3:gW (V.str (mq l)) [V.str ("is":Str),V.str ("under":Str),V.str ("over":Str),V.str ("holds":Str)]=true:=by cases l<;>fin2
  show Η (λh=>absurd h e1) (λ_=>?_);show Ε ?_;w_up;cbv;show Η (λh=>absurd h e2) (λ_=>?_);show Ε ?_;w_up;cbv;show#[Ζ,λtp J=>?_];show pC (ρ.of υ) ?_;rw[e3];let x:ζ H (upd H tp (.tup [.str "is",.str "under",.str "over",.str "holds"])):=ζ.upd J;generalize upd H tp (.tup [.str "is",.str "under",.str "over",.str "holds"])=H2 at x⊢;cbv;show#[l,b,cs,a,ws,m,i,c,z,v,rfl,O.same x,x.seq B,C,R,h1,h2,g,h4,h5,h6,h7,h8,h9,λp H' I j=>q p H' (x.trans I) j]
inductive WK (vs:List V) (H:Hp) (Q:VK) (E:XK):Prop
 |mk (x) (y):vs=[x,y]->Q (.bl true) H->WK vs H Q E
theorem XD{cc:Bool}:FD P w K mg base cc 1 "lets" "Sieve.lets" K8 ["self","values"] WK:=by
 show aO (N:=["self","values"]) (λ_ _ _ _ _ H vs Q E a h=>?_);intro X _;let#[x,y,rfl,q]:=h;f_len;cbv;show q
inductive Qs (K:ϩ) (vs:List V) (H:Hp) (Q:VK) (E:XK):Prop
 |mk (a C dx:δ) (fs:List (Str×V)) (p:Nat) (b:δ) (xs:List V) (x:V):vs=[.ref a,.ref b]->H a=some (.ins C dx fs)->Ϛ K C->Ψ K C "place"->fs.lookup ("place":Str)=some (V.int p)->η K H b xs->xs[p]?=some x->Q (.bl (decide (x=.non))) H->Qs K vs H Q E
theorem acW{cc:Bool}:FD P w K mg base cc 1 "lets" "NoneSieve.lets" Jd ["self","values"] (Qs K):=by
 show aO (N:=["self","values"]) (λ_ _ _ _ _ H vs Q E l h=>?_);intro X _;let#[a,C,dx,fs,p,b,xs,x,rfl,c,e,f,g,i,j,q]:=h;f_len;show ψ ?_;cbv;show ao ?_;f_are;show#[a,C,dx,fs,_,rfl,c,e,f,g,?_];show Ϡ i (ϣ j) ?_;cbv;show q
inductive Ag (K:ϩ) (vs:List V) (H:Hp) (Q:VK) (E:XK):Prop
 |mk (a C dx:δ) (fs:List (Str×V)) (z:Str) (p:V):vs=[.ref a,.str z,p]->H a=some (.ins C dx fs)->Ϛ K C->Ψ K C "text"->Ψ K C "one"->fs.length<800->Q .non (upd (upd H a (.ins C dx (ϡ "text" (.str z) fs))) a (.ins C dx (ϡ "one" p (ϡ "text" (.str z) fs))))->Ag K vs H Q E
theorem aeg(T:Txt K mg){cc:Bool}:FD P w K mg base cc 2 "__init__" "NotSieve.__init__" R6 ["self","text","one"] (Ag K):=by
 show aO (N:=["self","text","one"]) (λ_ _ _ _ _ H vs Q E f h=>?_);intro X _;let#[a,C,dx,fs,z,p,rfl,g,e,i,c,j,q]:=h;let B:oA P w K mg base cc 1 "Sieve" "__init__" ["self","text"] (lY K):=qF.asked T.wR T.wV;let l:=jY "text" (V.str z) fs;w_up;show aV ?_;show ye (pl:=_) B f id ϋ ?_;cbv;show#[a,C,dx,fs,z,rfl,g,e,i,(),?_];f_len;show dM ?_;f_are;f_are;show#[a,C,dx,_,rfl,υ,e,c,(),q]
inductive Ba (K:ϩ) (vs:List V) (H:Hp) (Q:VK) (E:XK):Prop
 |mk (a C dx:δ) (fs:List (Str×V)) (z:Str) (p v:V):vs=[.ref a,.str z,p,v]->H a=some (.ins C dx fs)->Ϛ K C->Ψ K C "text"->Ψ K C "one"->Ψ K C "other"->fs.length<800->(∀H',H' a=some (.ins C dx (ϡ "other" v (ϡ "one" p (ϡ "text" (.str z) fs))))->(∀b o,b≠a->H b=some o->H' b=some o)->Q .non H')->Ba K vs H Q E
theorem YZ(T:Txt K mg){cc:Bool}:FD P w K mg base cc 2 "__init__" "PairSieve.__init__" Jf ["self","text","one","other"] (Ba K):=by
 show aO (N:=["self","text","one","other"]) (λ_ _ _ _ _ H vs Q E i h=>?_);intro X _;let#[a,C,dx,fs,z,p,v,rfl,j,c,l,f,m,s,q]:=h;let B:oA P w K mg base cc 1 "Sieve" "__init__" ["self","text"] (lY K):=qF.asked T.wR T.wV;let u:=jY "text" (V.str z) fs;let n:=jY "one" p (ϡ "text" (V.str z) fs);w_up;show aV ?_;show ye (pl:=_) B i id ϋ ?_;cbv;show#[a,C,dx,fs,z,rfl,j,c,l,(),?_];w_up;show dM ?_;f_are;f_are;show#[a,C,dx,_,rfl,υ,c,f,(),?_];f_len;show dM ?_;f_are;f_are;show#[a,C,dx,_,rfl,υ,c,m,(),q _ υ λb o g e=>?_];rw[ο g,ο g,ο g];show e
inductive Tr
 |one (s:dq)
 |nt (t:Tr)
 |ei (t u:Tr)
def Tr.dep:Tr->Nat
 |.one _=>0
 |.nt t=>t.dep+1
 |.ei t u=>max t.dep u.dep+1
def Reads(cs:List ξ)(ws:List Str):Tr->Nat->Nat->Prop
 |.one a,s,e=>s<60/\pH cs ws s a e
 |.nt t,s,e=>s<60/\ws[s]?=some "not"/\Reads cs ws t (s+1) e
 |.ei t u,s,e=>s<60/\ws[s]?=some "either"/\∃m,Reads cs ws t (s+1) m/\Reads cs ws u m e
theorem pH.le{cs:List ξ}{ws:List Str}{s e:Nat}:∀{a:dq},pH cs ws s a e->s<e/\e<=ws.length
 |.all,h=>by
   let#[h1,rfl]:=h;have:=(aai.mp h1).1;omega
 |.none i,h=>by
   let#[_,h2,_,rfl]:=h;omega
 |.look l i v,h=>by
   let#[h1,_,_,_,_,_,rfl]:=h;omega
theorem Reads.le{cs:List ξ}{ws:List Str}:∀{t:Tr}{s e:Nat},Reads cs ws t s e->s<e/\e<=ws.length
 |.one a,s,e,h=>pH.le h.2
 |.nt t,s,e,h=>by have:=Reads.le (t:=t) h.2.2;omega
 |.ei t u,s,e,h=>by
   let#[_,_,m,h1,h2]:=h;have:=Reads.le (t:=t) h1;have:=Reads.le (t:=u) h2;omega
def cC(mg:Str->Option ε)(H:Hp):Tr->δ->Str->Prop
 |.one s,a,z=>pI mg H a s z
 |.nt t,a,z=>∃dx b y,H a=some (.ins (θ mg "NotSieve") dx [("text",.str z),("one",.ref b)])/\cC mg H t b y
 |.ei t u,a,z=>∃dx b c y x,H a=some (.ins (θ mg "EitherSieve") dx [("text",.str z),("one",.ref b),("other",.ref c)])/\cC mg H t b y/\cC mg H u c x
theorem cC.same{mg:Str->Option ε}{H H':Hp}(e:ζ H H'):∀{t:Tr}{a:δ}{z:Str},cC mg H t a z->cC mg H' t a z
 |.one s,a,z,h=>pI.same h e
 |.nt t,a,z,h=>by
   let#[dx,b,y,h1,h2]:=h;show#[dx,b,y,e _ _ h1,cC.same e h2]
 |.ei t u,a,z,h=>by
   let#[dx,b,c,y,x,h1,h2,f]:=h;show#[dx,b,c,y,x,e _ _ h1,cC.same e h2,cC.same e f]
theorem XX{k:Nat}{x:Str}{ps:List Str}{sp sp':Sp}(F:Def P w K mg base true k x ps sp)(h:∀vs H Q E,sp' vs H Q E->sp vs H Q E):Def P w K mg base true k x ps sp':=by
 let#[f,fd,h1,h2,e,c]:=F.ex;show#[f,fd,h1,h2,e,#[λvs H Q E z=>c.len vs H Q E (h vs H Q E z),λA outer s H a us vs Q E g i j r z=>c.run A outer s H a us vs Q E g i j r (h vs H Q E z)]]
theorem yW{k k':Nat}{C:δ}{x:Str}{ps:List Str}{sp sp':Sp}(F:ϙ P w K mg base true k C x ps sp)(e:k<=k')(h:∀vs H Q E,sp' vs H Q E->sp vs H Q E):ϙ P w K mg base true k' C x ps sp':=by
 let#[f,fd,h1,h2,c]:=F.ex;let c:=c.mono e;show#[F.cls,f,fd,h1,h2,#[λvs H Q E z=>c.len vs H Q E (h vs H Q E z),λA outer s H a us vs Q E g i j r z=>c.run A outer s H a us vs Q E g i j r (h vs H Q E z)]]
inductive nG (K:ϩ) (mg:Str->Option ε) (t:Tr) (vs:List V) (H:Hp) (Q:VK) (E:XK):Prop
 |mk (b:δ) (cs:List ξ) (a:δ) (ws:List Str) (s e:Nat) (k:Int):vs=[.ref b,.ref a,.int s,.int k]->ϟ H b cs->η K H a (ws.map V.str)->ws.length<=4000->(∀z∈ws,z.length<=1000)->0<=k->k+t.dep<=20->Reads cs ws t s e->(∀p v H',ζ H H'->H' p=some (.tup [.ref v,.int e])->cC mg H' t v (cj ws s e)->Q (.ref p) H')->nG K mg t vs H Q E
inductive uI (K:ϩ) (mg:Str->Option ε) (t:Tr) (vs:List V) (H:Hp) (Q:VK) (E:XK):Prop
 |mk (b:δ) (cs:List ξ) (a:δ) (ws:List Str) (s e:Nat) (k:Int):vs=[.ref b,.ref a,.int s,.int k]->ϟ H b cs->η K H a (ws.map V.str)->ws.length<=4000->(∀z∈ws,z.length<=1000)->1<=k->k+t.dep<=21->k<=20->Reads cs ws t s e->(∀p v H',ζ H H'->H' p=some (.tup [.ref v,.int e])->cC mg H' t v (cj ws s e)->Q (.ref p) H')->uI K mg t vs H Q E
theorem ahY(T:Txt K mg)(c:dq):Def P w K mg base true 8 "read_part" ["columns","words","start","within"] (nG K mg (.one c)):=XX (ah9 T) λvs H Q E h=>by
 let#[b,cs,a,ws,s,e,k,rfl,g,i,j,l,m,u,f,q]:=h;show#[b,cs,a,ws,s,e,k,c,rfl,g,i,j,l,f.1,f.2,λp H' n o=>?_];let#[v,h1,h2]:=o;show q p v H' n h1 h2
def zN:Tr->Option Str
 |.one _=>none
 |.nt _=>some "not"
 |.ei _ _=>some "either"
theorem ZX{cs:List ξ}{ws:List Str}{t:Tr}{s e:Nat}{z:Str}(h:Reads cs ws t s e)(a:zN t=some z):s<60/\ws[s]?=some z:=by
 cases t with
 |one _=>cases a
 |nt t=>cases a;show#[h.1,h.2.1]
 |ei t u=>cases a;show#[h.1,h.2.1]
theorem yj{t:Tr}{z:Str}(a:zN t=some z):z="not"\/z="both"\/z="either":=by
 cases t with
 |one _=>cases a
 |nt t=>cases a;show .inl rfl
 |ei t u=>cases a;show .inr (.inr rfl)
theorem WN(T:Txt K mg){t:Tr}{z:Str}{lv:Nat}(f:zN t=some z)(Z:3<=lv)(D:Def P w K mg base true lv "read_of_sieves" ["columns","words","start","within"] (uI K mg t)):Def P w K mg base true (lv+1) "read_part" ["columns","words","start","within"] (nG K mg t):=by
 show Γ (S:=xR) T.PB (λ_ _ A _ _ H vs Q E hr h=>?_);intro X _;let#[b,cs,a,ws,n,e,k,rfl,C,o,s,F,G,hk,g,q]:=h;let nd:=xR.nd;let hsz:=ϱ;let g1:=T.zF;let g2:=T.M7;let g3:=T.Ep;let g4:=T.yI;let g5:=T.Cy;let g6:=T.OD;let g7:=T.zG;let g8:=T.yV;let g9:=T.aat;let D1:= @pL P w K mg base T;let#[I,i]:=ZX g f;let l:=(aai.mp i).1;let CV:1<=t.dep:=by
  cases t with
  |one _=>cases f
  |nt t=>show 1<=t.dep+1;omega
  |ei t u=>show 1<=max t.dep u.dep+1;omega
 let e1:¬V.str z=V.str ("all":Str):=by obtain rfl|rfl|rfl:=yj f<;>fin2
 let J:¬V.str z=V.str ("none":Str):=by obtain rfl|rfl|rfl:=yj f<;>fin2
 let L:gW (V.str z) [V.str ("is":Str),V.str ("under":Str),V.str ("over":Str),V.str ("holds":Str)]=false:=by obtain rfl|rfl|rfl:=yj f<;>fin2
 let M:gW (V.str z) [V.str ("not":Str),V.str ("both":Str),V.str ("either":Str)]=true:=by obtain rfl|rfl|rfl:=yj f<;>fin2
 k_go;show#[a,ws,n,rfl,o,s,(),λO=>absurd #[l,I] O,λz' j _=>?_];rw[i]at j;cases j;w_up;show Θ ?_;lk;show Η (λh=>absurd h e1) (λ_=>?_);show Ε ?_;w_up;show Θ ?_;lk;show Η (λh=>absurd h J) (λ_=>?_);show Ε ?_;w_up;show Θ ?_;lk;show#[Ζ,λtp m=>?_];show pC (ρ.of υ) ?_;rw[L];let x:ζ H (upd H tp (.tup [.str "is",.str "under",.str "over",.str "holds"])):=ζ.upd m;generalize upd H tp (.tup [.str "is",.str "under",.str "over",.str "holds"])=H2 at x⊢;lk;show Ε ?_;w_up;show Θ ?_;lk;show#[Ζ,λy R=>?_];show pC (ρ.of υ) ?_;rw[M];let B:ζ H2 (upd H2 y (.tup [.str "not",.str "both",.str "either"])):=ζ.upd R;generalize upd H2 y (.tup [.str "not",.str "both",.str "either"])=H3 at B⊢;lk;let c:=x.trans B;f_len;show ψ ?_;lk;show#[b,cs,a,ws,n,e,k+1,rfl,C.same c,c.seq o,s,F,(),(),(),g,λp v H' U W Y=>q p v H' (c.trans U) W Y]
theorem ac0(T:Txt K mg){t:Tr}{lv x:Nat}(D1:Def P w K mg base true x "read_part" ["columns","words","start","within"] (nG K mg t))(h1:x<=lv)(h3:3<=lv):Def P w K mg base true (lv+1) "read_of_sieves" ["columns","words","start","within"] (uI K mg (.nt t)):=by
 show Γ (S:=wy) T.Jy (λ_ _ A _ _ H vs Q E R h=>?_);intro X _;let#[b,cs,a,ws,f,e,k,rfl,U,i,z,B,W,Y,Z,g,q]:=h;let nd:=wy.nd;let hsz:=ϱ;let g1:=T.Uq;let g2:=T.zG;let g3:=T.yV;let DB:= @pG P w K mg base T;let hle:=g.le;let hd:k+(t.dep+1:Nat)<=21:=Y;let#[jH,j,C]:=g;let aiK:=C.le;let sw:η K H a (ws.map V.str):=i;let e1:(f:Int)+1=((f+1:Nat):Int):=()
 w_up;show Θ ?_;lk;show Η (λh=>absurd h ()) (λ_=>?_);show Ε ?_;k_go;show Ϡ sw (v:=.str ("not":Str)) (ϣ (by rw[abD,j];rfl)) ?_;w_up;show dO ?_;lk;rw[e1];show#[b,cs,a,ws,f+1,_,k,rfl,U,i,z,B,(),(),C,λp1 D H1 F l m=>?_];show ϥ (ρ.of l) (Δ (Α nd (by rfl) (.inl rfl) (.inl rfl) (Δ (Α nd (by rfl) (.inl rfl) (.inl rfl) (aa ?_)))));w_up;show Θ ?_;lk;show eV ?_;f_len;show ψ ?_;let M:jF P w K mg base true 2 "NotSieve" (θ mg "NotSieve") ["self","text","one"] (Ag K):=(aeg T).make T.adb T.abw;lk;show kh M R () (λ_=>rfl) ϋ ?_;lk;show#[a,ws,f,e,rfl,F.seq i,z,B,(),(),λH2 I =>?_];lk;intro y dx n s Ϲ;show#[y,_,dx,[],_,_,rfl,υ,T.rJ,T.QZ,T.Vr,by simp,rfl,?_];lk;show#[Ζ,λp J=>?_];generalize L:upd (upd (upd (upd H2 dx (.own y)) y (.ins (θ mg "NotSieve") dx [])) y _) y _=G at J⊢;let O:ζ H2 G:=λc o e=>by
  rw[<-L,ο (Ϗ e n),ο (Ϗ e n),ο (Ϗ e n),ο (Ϗ e s)];show e
 let ey:G y=some (.ins (θ mg "NotSieve") dx [("text",.str (cj ws f e)),("one",.ref D)]):=by
  rw[<-L];show υ
 let u:ζ G (upd G p (.tup [.ref y,.int e])):=ζ.upd J;show q p y _ (((F.trans I).trans O).trans u) υ #[dx,D,_,u _ _ ey,((m.same I).same O).same u]
theorem afJ(T:Txt K mg){t u:Tr}{lv L O:Nat}(D1:Def P w K mg base true L "read_part" ["columns","words","start","within"] (nG K mg t))(h1:L<=lv)(R:True->Def P w K mg base true O "read_part" ["columns","words","start","within"] (nG K mg u))(h2:O<=lv)(h3:3<=lv):Def P w K mg base true (lv+1) "read_of_sieves" ["columns","words","start","within"] (uI K mg (.ei t u)):=by
 show Γ (S:=wy) T.Jy (λ_ _ A _ _ H vs Q E hr h=>?_);intro X _;let#[b,cs,a,ws,f,e,k,rfl,U,i,j,l,hk0,hk,ac6,g,q]:=h;let nd:=wy.nd;let hsz:=ϱ;let g1:=T.Uq;let g2:=T.zG;let g3:=T.yV;let DB:= @pG P w K mg base T;let hle:=g.le;let hd:k+(max t.dep u.dep+1:Nat)<=21:=hk;let#[jH,n,m,W,Y]:=g;let amR:=Y.le;let aiK:=W.le;let sw:η K H a (ws.map V.str):=i;let e1:(f:Int)+1=((f+1:Nat):Int):=()
 w_up;show Θ ?_;lk;show Η (λh=>absurd h ()) (λ_=>?_);show Ε ?_;k_go;show Ϡ sw (v:=.str ("either":Str)) (ϣ (by rw[abD,n];rfl)) ?_;w_up;show dO ?_;lk;rw[e1];show#[b,cs,a,ws,f+1,_,k,rfl,U,i,j,l,(),(),W,λp1 Z H1 s x z=>?_];show ϥ (ρ.of x) (Δ (Α nd (by rfl) (.inl rfl) (.inl rfl) (Δ (Α nd (by rfl) (.inl rfl) (.inl rfl) (aa ?_)))));w_up;show Θ ?_;lk;show cG ?_;clear D1;let R:=R trivial;show Ε ?_;w_up;show dO ?_;lk;show#[b,cs,a,ws,m,e,k,rfl,U.same s,s.seq i,j,l,(),(),Y,λp2 v2 H2 Λ B C=>?_];show ϥ (ρ.of B) (Δ (Α nd (by rfl) (.inl rfl) (.inl rfl) (Δ (Α nd (by rfl) (.inl rfl) (.inl rfl) (aa ?_)))));let pq:=s.trans Λ;k_go;show#[a,ws,f,e,rfl,pq.seq i,j,l,(),(),λH3 D=>?_];let M:jF P w K mg base true 2 "EitherSieve" (θ mg "EitherSieve") ["self","text","one","other"] (Ba K):=(YZ T).make T.afI T.aiI;w_up;show Θ ?_;lk;show cG ?_;show Ε ?_;f_len;show ψ ?_;lk;show kh M hr () (λ_=>rfl) ϋ ?_;lk;intro y dx hy F Ϲ;show#[y,_,dx,[],_,_,_,rfl,υ,T.nQ,T.Vz,T.R4,T.Vs,by simp,λG I keep=>#[rfl,?_]];lk;show#[Ζ,λp hp=>?_];let d8:ζ H3 G:=λc o e=>keep _ _ (Ϗ e hy) (by rw[ο (Ϗ e hy),ο (Ϗ e F)];show e)
 let I:G y=some (.ins (θ mg "EitherSieve") dx [("text",.str (cj ws f e)),("one",.ref Z),("other",.ref v2)]):=I;let aD:ζ G (upd G p (.tup [.ref y,.int e])):=ζ.upd hp;let J:=(D.trans d8).trans aD;show q p y _ (pq.trans J) υ #[dx,Z,v2,_,_,aD _ _ I,(z.same Λ).same J,C.same J]
theorem xm(T:Txt K mg):∀t:Tr,Def P w K mg base true (8+2*t.dep) "read_part" ["columns","words","start","within"] (nG K mg t)
 |.one a=>ahY T a
 |.nt t=>by
   let h:=WN T (z:="not") (lv:=8+2*t.dep+1) rfl () (ac0 T (lv:=8+2*t.dep) (xm T t) (ϭ _) ());let e:8+2*(Tr.nt t).dep=8+2*t.dep+1+1:=by show 8+2*(t.dep+1)=_;omega
   rw[e];show h
 |.ei t u=>by
   let h:=WN T (z:="either") (lv:=8+2*max t.dep u.dep+1) rfl () (afJ T (lv:=8+2*max t.dep u.dep) (xm T t) () (λ_=>xm T u) () ());let e:8+2*(Tr.ei t u).dep=8+2*max t.dep u.dep+1+1:=by show 8+2*(max t.dep u.dep+1)=_;omega
   rw[e];show h
inductive JT (mg:Str->Option ε) (t:Tr) (vs:List V) (H:Hp) (Q:VK) (E:XK):Prop
 |mk (b:δ) (cs:List ξ) (z:Str):vs=[.ref b,.str z]->ϟ H b cs->z.length<=3000->(∀y∈ό 32 z,y.length<=1000)->t.dep<=20->Reads cs (ό 32 z) t 0 (ό 32 z).length->(∀v H',ζ H H'->cC mg H' t v (cj (ό 32 z) 0 (ό 32 z).length)->Q (.ref v) H')->JT mg t vs H Q E
theorem Ur(T:Txt K mg)(t:Tr):Def P w K mg base true (9+2*t.dep) "read_sieve" ["columns","text"] (JT mg t):=by
 let l:9+2*t.dep=(8+2*t.dep)+1:=()
 rw[l];show Γ (S:=N7) T.Zt (λ_ _ _ _ s H vs Q E B h=>?_);intro X _;let#[b,cs,z,rfl,m,C,a,n,e,q]:=h;let nd:=N7.nd;let n1:=T.bY;let hsz:=ϱ;let D:= @xm P w K mg base T t;let o:=Ph 32 z;w_up;f_tup;show dw F.plainAttrs_str F.slot_str_split F.type_str_split (h:=?_);cbv;show m_split (c:=32) λp u=>?_
 let#[f,ep]:=ϒ u (.lst ((ό 32 z).map V.str));generalize upd H p (.lst ((ό 32 z).map V.str))=H1 at f ep⊢;w_up;show dO ?_;lk;show#[b,cs,p,ό 32 z,0,_,0,rfl,m.same f,η.of ep,(),a,by decide,(),e,λG v H2 j g i=>?_];show ϥ (ρ.of g) (Δ (Α nd (by rfl) (.inl rfl) (.inl rfl) (Δ (Α nd (by rfl) (.inl rfl) (.inl rfl) (aa ?_)))));let x:η K H2 p ((ό 32 z).map V.str):=η.of (j _ _ ep);let y:((ό 32 z).map V.str).length=(ό 32 z).length:=aav ..;w_up;cbv;rw[y];show Η (λh=>absurd h ()) (λ_=>?_);cbv;show q v H2 (f.trans j) i
def ahr(xs:List V):dq->Bool
 |.all=>true
 |.none p=>decide ((xs[p]?).getD .non=.non)
 |.look l p v=> !decide ((xs[p]?).getD .non=.non)&&u5 l ((xs[p]?).getD .non) v
def SM(xs:List V):dq->Prop
 |.all=>True
 |.none p=>p<xs.length
 |.look l p v=>∃x,xs[p]?=some x/\(x=.non\/Du l x v)
def Ϝ(xs:List V):Tr->Bool
 |.one s=>ahr xs s
 |.nt t=> !Ϝ xs t
 |.ei t u=>Ϝ xs t||Ϝ xs u
def pZ(xs:List V):Tr->Prop
 |.one s=>SM xs s
 |.nt t=>pZ xs t
 |.ei t u=>pZ xs t/\pZ xs u
def dR(mg:Str->Option ε):Tr->δ
 |.one .all=>θ mg "AllSieve"
 |.one (.none _)=>θ mg "NoneSieve"
 |.one (.look l _ _)=>xQ mg l
 |.nt _=>θ mg "NotSieve"
 |.ei _ _=>θ mg "EitherSieve"
inductive gM (K:ϩ) (mg:Str->Option ε) (t:Tr) (vs:List V) (H:Hp) (Q:VK) (E:XK):Prop
 |mk (a b:δ) (z:Str) (xs:List V):vs=[.ref a,.ref b]->cC mg H t a z->η K H b xs->pZ xs t->Q (.bl (Ϝ xs t)) H->gM K mg t vs H Q E
theorem cC.ins{mg:Str->Option ε}{H:Hp}:∀{t:Tr}{a:δ}{z:Str},cC mg H t a z->∃dx fs,H a=some (.ins (dR mg t) dx fs)/\fs.lookup ("lets":Str)=none
 |.one .all,a,z,h=>by let#[dx,h]:=h;show#[dx,_,h,rfl]
 |.one (.none p),a,z,h=>by let#[dx,h]:=h;show#[dx,_,h,rfl]
 |.one (.look l p v),a,z,h=>by let#[dx,h]:=h;show#[dx,_,h,rfl]
 |.nt t,a,z,h=>by let#[dx,b,y,h,_]:=h;show#[dx,_,h,rfl]
 |.ei t u,a,z,h=>by let#[dx,b,c,y,x,h,_]:=h;show#[dx,_,h,rfl]
theorem agG(T:Txt K mg)(l:Lk)(p:Nat)(v:V):ϙ P w K mg base true 3 (xQ mg l) "lets" ["self","values"] (Hi K l (xQ mg l)):=by
 cases l with
 |is=>show(FW ((acv T.oE T.Qn).meth T.oE T.ahP) T.Uz).meth T.oE T.adE
 |over=>show(FW ((ahy T T.pR T.Io).meth T.pR T.aaI) T.Ul).meth T.pR T.Zo
 |holds=>show(FW ((ahb T.pJ T.Wi).meth T.pJ T.af0) T.Sv).meth T.pJ T.ada
theorem ajm(T:Txt K mg){t:Tr}{lv:Nat}(M:ϙ P w K mg base true lv (dR mg t) "lets" ["self","values"] (gM K mg t)):FD P w K mg base true (lv+1) "lets" "NotSieve.lets" Nv ["self","values"] (gM K mg (.nt t)):=by
 show aO (N:=["self","values"]) (λ_ _ _ _ _ H vs Q E f h=>?_);intro X _;let#[a,b,z,xs,rfl,#[dx,c,y,g,e],i,j,q]:=h;let#[dc,n,l,m]:=e.ins;f_len;show ψ ?_;lk;show cz (pl:=_) f ϋ (h:=?_);show ao ?_;f_are;show#[a,_,_,_,_,rfl,g,T.rJ,T.Vr,rfl,?_];show#[c,dR mg t,dc,_,true,lv,_,gM K mg t,rfl,l,m,M,ϭ _,id,?_];lk;show#[c,b,y,xs,rfl,e,i,j,?_];lk;show q
theorem aet(T:Txt K mg){t u:Tr}{lv e f:Nat}(M1:ϙ P w K mg base true e (dR mg t) "lets" ["self","values"] (gM K mg t))(h1:e<=lv)(M2:ϙ P w K mg base true f (dR mg u) "lets" ["self","values"] (gM K mg u))(h2:f<=lv):FD P w K mg base true (lv+1) "lets" "EitherSieve.lets" T7 ["self","values"] (gM K mg (.ei t u)):=by
 show aO (N:=["self","values"]) (λ_ _ _ _ _ H vs Q E g h=>?_);intro X _;let#[a,b,z,xs,rfl,#[dx,c,d,y,x,i,j,hd],l,m,q]:=h;let#[dc,v,n,o]:=j.ins;let#[dd,fd,p,ld]:=hd.ins;f_len;show ψ ?_;lk;show cz (pl:=_) g ϋ (h:=?_);show ao ?_;f_are;show#[a,_,_,_,_,rfl,i,T.nQ,T.R4,rfl,?_];show#[c,dR mg t,dc,_,true,e,_,gM K mg t,rfl,n,o,M1,h1,id,?_];lk;show#[c,b,y,xs,rfl,j,l,m.1,?_];let q:Q (.bl (Ϝ xs t||Ϝ xs u)) H:=q;generalize Ϝ xs t=s at q⊢;cases s with
 |false=>
  lk;show cz (pl:=_) g ϋ (h:=?_);show ao ?_;f_are;show#[a,_,_,_,_,rfl,i,T.nQ,T.Vs,rfl,?_];show#[d,dR mg u,dd,_,true,f,_,gM K mg u,rfl,p,ld,M2,h2,id,?_];lk;show#[d,b,x,xs,rfl,hd,l,m.2,?_];show q
 |true=>
  lk;show q
theorem xO(T:Txt K mg):∀t:Tr,ϙ P w K mg base true (3+t.dep) (dR mg t) "lets" ["self","values"] (gM K mg t)
 |.one .all=>yW (XD.meth T.xx T.Xd) (by decide) λvs H Q E h=>by
   let#[a,b,z,xs,rfl,_,_,_,q]:=h;show#[_,_,rfl,q]
 |.one (.none p)=>yW (acW.meth T.qO T.aaR) (by show 1<=3+0;decide) λvs H Q E h=>by
   let#[a,b,z,xs,rfl,#[dx,c],f,g,q]:=h;let j:p<xs.length:=g;let e:xs[p]?=some xs[p]:=aah j;show#[a,_,dx,_,p,b,xs,xs[p],rfl,c,T.qO,T.Nr,rfl,f,e,?_];let q:Q (.bl (decide ((xs[p]?).getD .non=.non))) H:=q;rw[e]at q;show q
 |.one (.look l p v)=>yW (agG T l p v) (by show 3<=3+0;decide) λvs H Q E h=>by
   let#[a,b,z,xs,rfl,#[dx,c],f,#[x,i,g],q]:=h;show#[a,dx,z,p,v,b,xs,x,rfl,c,f,i,g,?_];let q:Q (.bl (!decide ((xs[p]?).getD .non=.non)&&u5 l ((xs[p]?).getD .non) v)) H:=q;rw[i]at q;show q
 |.nt t=>(ajm T (xO T t)).meth T.rJ T.abJ
 |.ei t u=>(aet T (lv:=3+max t.dep u.dep) (xO T t) () (xO T u) ()).meth T.nQ T.acy
theorem Gq(T:Txt K mg):Def P w K mg base true 2 "read_order_word" ["columns","word"] (yr (.ref (θ mg "NoOrder"))):=by
 show Γ (S:=VM) T.Gq (λ_ _ _ _ _ H vs Q E B h=>?_);intro X _;let#[a,cs,z,rfl,l,C,g,q]:=h;let D:=T.Ji;let F:=T.Hn;let nd:=VM.nd;let G:= @lZ P w K mg base T;let hsz:=ϱ;let m:=lQ z (some 1) none;let e1:("+":Str).cps.toList=[43]:=by fin2
 let i:("-":Str).cps.toList=[45]:=by fin2
 let es:(Ι z none (some 1)).cps.toList=z.cps.toList.take 1:=vO z 1;let e:∀c:Nat,z.cps.toList.take 1=[c]↔z.cps.toList[0]?=some c:=λc=>by
  cases z.cps.toList with
  |nil=>simp
  |cons x r=>simp
 let k1:V.str (Ι z none (some 1))=V.str "+"↔z.cps.toList[0]?=some 43:=by
  rw[<-e];constructor
  .intro h;let h2:Ι z none (some 1)=Ϫ "+":=by injection h
   rw[<-es,h2,e1]
  .intro h;let h2:Ι z none (some 1)=Ϫ "+":=gm (by rw[es,h,e1]);rw[h2]
 let k2:V.str (Ι z none (some 1))=V.str "-"↔z.cps.toList[0]?=some 45:=by
  rw[<-e];constructor
  .intro h;let h2:Ι z none (some 1)=Ϫ "-":=by injection h
   rw[<-es,h2,i]
  .intro h;let h2:Ι z none (some 1)=Ϫ "-":=gm (by rw[es,h,i]);rw[h2]
 w_up;cbv;show gZ () ?_;cbv;show gZ () ?_;cbv;show#[Ζ,λp n=>?_];let#[f,ep]:=ϒ n (.tup [.str "+",.str "-"]);generalize upd H p (.tup [.str "+",.str "-"])=I at f ep⊢;show WD (ρ.of ep) ?_;let ei:gW (V.str (Ι z none (some 1))) [.str "+",.str "-"]=decide (z.cps.toList[0]?=some 43\/z.cps.toList[0]?=some 45):=by
  let j:∀y:Str,fM (V.str y) (V.str (Ι z none (some 1)))=decide (V.str (Ι z none (some 1))=V.str y):=λy=>by
   rw[ahR,decide_eq_true_eq];constructor
   .intro h;have:V.str y=V.str (Ι z none (some 1)):=by simpa [fM]using h
    show this.symm
   .intro h;rw[h];simp[fM]
  rw[ahR,decide_eq_true_eq, <-k1, <-k2];show((fM _ _||(fM _ _||false))=true)↔_;rw[j,j,anY,anb,decide_eq_true_eq,decide_eq_true_eq]
 rw[ei];cbv;show dJ (λh=>?_) (λh=>?_)
 .show(g H (ζ.refl _) (if_neg λx=>h x.1)).elim
 .show Ε ?_;cbv;show#[a,cs,_,rfl,l.same f,λH1 o =>?_];let s :=f.trans o;cbv;show Η (λh2=>?_) (λh2=>?_)
  .show(g H (ζ.refl _) (if_neg λx=>x.2 h2)).elim
  .show Ε ?_;cbv;show#[Ζ,λt u=>?_];show q t _ _ (s.trans (ζ.upd u)) (if_pos #[h,h2]) ?_;rw[υ];let v:decide (V.str (Ι z none (some 1))=V.str ("+":Str))=decide (z.cps.toList[0]?=some 43):=decide_eq_decide.mpr k1;rw[v]
theorem wZ(T:Txt K mg):Def P w K mg base true 3 "read_order" ["columns","text"] (wM (.ref (θ mg "NoOrder"))):=by
 show Γ (S:=Tv) T.wZ (λf _ _ _ s H vs Q E hr h=>?_);intro X _;let#[a,cs,z,rfl,hC,hz,j,q]:=h;let g1:=T.ag8;let n1:=T.bY;let n2:=T.NB;let nd:=Tv.nd;let qg:(["word","columns"]:List Str).Nodup:=by fin2
 let bR:(["name","up"]:List Str).Nodup:=by fin2
 let D1:= @Gq P w K mg base T;let hsz:=ϱ;unfold iC at j q;w_up;cbv;show Η (λh=>?_) (λh=>?_)
 .let h':z="":=by injection h
  cbv;show#[Ζ,λp J=>?_];show q p [] _ (ζ.upd J) (if_pos h') J #[[],υ,.nil]
 .let h':¬z="":=λe=>h (by rw[e])
  rw[if_neg h']at j q;show Ε ?_;w_up;f_tup;show dw PySem.F.plainAttrs_str PySem.F.slot_str_split PySem.F.type_str_split (h:=?_);cbv;show m_split (c:=32) λp1 W=>?_
  let Y:=Ph 32 z;let B:=λy=> @abf 32 z y
  generalize ό 32 z=ws at j q Y B⊢;let#[L,pD]:=ϒ W (.lst (ws.map V.str));generalize upd H p1 (.lst (ws.map V.str))=H1 at L pD⊢;let M:(ws.map V.str).length=ws.length:=aav ..;let S1:η K H1 p1 (ws.map V.str):=η.of pD;cbv;rw[M];show Η (λh2=>?_) (λh2=>?_)
  .show(j H (ζ.refl _) (if_pos ())).elim
  .rw[if_neg ()]at j q;show Ε ?_;w_up;show acI ["word","columns"] (σ':=[none,some (.ref a)]) (by rfl) ϋ rfl rfl (by rfl) (by rfl) (du (ω xY)) (by intro _;rfl) nd (by rfl) (by rfl) ?_;cbv;show#[p1,_,rfl,S1,by rw[M];omega,λD=>∃o,D=[o,some (.ref a)],λl i v H'=>∃y,ws[i]?=some y/\∃o,iG cs y=some o/\∃t,v=.ref t/\t≠l/\H' t=some (.tup [.str o.1,.bl o.2]),#[none,rfl],λl i v H2 Z ys _ hk J=>?_,λfp l C s3 H0 F i D x H2 Z xo hE hi n Λ G hG=>?_,λl H2 xs hE hl O e2 Λ =>?_]
   .let#[y,a1,o,a2,t,a3,a4,a5]:=J;show#[y,a1,o,a2,t,a3,a4,hk t _ a4 a5]
   .let#[o,rfl]:=n;let#[O,rfl]:=hG;rw[abD]at O;let#[y,ey,rfl]:=aiq.mp O;let hyl:=B y (aaM ey);show Α qg (by rfl) (.inl rfl) (.inr rfl) ?_;cbv;let g:=L.trans Λ;show#[a,cs,y,rfl,hC.same g,(),λH' m e=>?_,λt o H' m e et=>?_]
    .show j H' (g.trans m) (by rw[V9 (aaM ey) e])
    .let#[ys,ab,_]:=G;show#[#[_,rfl],#[y,ey,o,e,t,rfl,λz=>?_,et],m];rw[z,m _ _ ab]at et;cases et
   .let#[os,eo,ha]:=Wn (f:=iG cs) (R:=rZ H2) (ws:=ws) (xs:=xs) (by rw[hl,M]) λi v e=>by
     let#[y,a1,o,a2,t,a3,a4,a5]:=O i v e;show#[y,a1,o,a2,t,a3,a5]
    rw[eo]at j q;let ac:=ha.len;let g:=L.trans Λ;let ae:H l=none:=by
     cases e:H l with
     |none=>rfl
     |some u=>rw[L _ _ e]at hE;cases hE
    w_up;show qR ["name","up"] (σ':=[none,none]) (du (ω xY)) nd ?_;cbv;show#[l,xs,rfl,η.of e2,by rw[hl,M];omega,λD=>∃o1 o2,D=[o1,o2],λE2 i u H'=>∃c,os[i]?=some c/\u=.str c.1,#[none,none,rfl],λE2 i u H2 Z ys _ _ p=>p,λfp E2 C s3 H0 i D x H4 Z bj hi n m G hG=>?_,λE2 H4 ys bj af ag e4 m =>?_]
    .let#[o1,o2,rfl]:=n;let#[cI,rfl]:=hG;let#[c,hc,t,rfl,ht]:=ha.get cI;show ϥ (ρ.of (m _ _ ht)) (Δ (Α bR (by rfl) (.inl rfl) (.inr rfl) (Δ (Α bR (by rfl) (.inl rfl) (.inr rfl) (aa ?_)))));cbv;show#[#[_,_,rfl],#[c,hc,rfl],ζ.refl _]
    .let ey:=jD (ys:=os) (λc=>V.str c.1) (by rw[af,ac]) ag;let jJ:ys=(os.map Prod.fst).map V.str:=by rw[ey,afC];rfl
     subst jJ;let I:(os.map Prod.fst).length<=4000:=by simp;omega
     w_up;cbv;show JL (by rfl) (η.of e4) I λS hS=>?_
     cbv;show Qm υ I ?_;cbv;show Ab (.inl (η.of ((ζ.upd hS) _ _ e4))) ?_;cbv;let U:ζ H2 (upd H4 S (mJ X S (os.map Prod.fst))):=m.trans (ζ.upd hS);let Wx:=Ha _ (os.map Prod.fst) rfl;generalize upd H4 S (mJ X S (os.map Prod.fst))=H5 at U⊢;rw[aav (f:=V.str)];show dJ (λh3=>?_) (λh3=>?_)
     .let h4:¬(os.map Prod.fst).Nodup:=λz=>h3 (by rw[Wx.mpr z])
      show(j H (ζ.refl _) (if_neg h4)).elim
     .let h4:(os.map Prod.fst).Nodup:=Wx.mp (by injection h3 with h5;omega);show Ε ?_;cbv;show q l os H5 (g.trans U) (if_pos h4) ae #[xs,U _ _ e2,ha.imp λu c r=>r.same U]
abbrev Row:=Int×List V
def gO(H:Hp)(v:V)(r:Row):=∃t l,v=.ref t/\H t=some (.tup [.int r.1,.ref l])/\H l=some (.lst r.2)
theorem gO.same{H H':Hp}{v:V}{r:Row}(h:gO H v r)(s:ζ H H'):gO H' v r:=by
 let#[t,l,e,a,c]:=h;show#[t,l,e,s _ _ a,s _ _ c]
def dX(H:Hp)(a:δ)(rs:List Row):=∃vs:List V,H a=some (.lst vs)/\ς (gO H) vs rs
theorem dX.same{H H':Hp}{a:δ}{rs:List Row}(h:dX H a rs)(s:ζ H H'):dX H' a rs:=by
 let#[vs,e,q]:=h;show#[vs,s _ _ e,q.imp λa b r=>r.same s]
def ύ(cs:List ξ)(r:Row):Prop:=ς (λc x=>ϓ c.2 x) cs r.2
theorem ϓ.aJ{c:Str}{x y:V}(h:ϓ c x)(g:ϓ c y):aJ x y:=by
 obtain rfl|⟨e,i,rfl,_⟩|⟨e,z,rfl,_⟩:=h
 .show .inl rfl
 .obtain rfl|⟨_,j,rfl,_⟩|⟨a,z,rfl,_⟩:=g
  .show .inr (.inl rfl)
  .show .inr (.inr (.inl #[_,_,rfl,rfl]))
  .show absurd e a
 .obtain rfl|⟨a,j,rfl,_⟩|⟨_,z,rfl,_⟩:=g
  .show .inr (.inl rfl)
  .show absurd a e
  .show .inr (.inr (.inr #[_,_,rfl,rfl]))
theorem xU(x:V):before x x=false:=by
 cases x with
 |non=>rfl
 |int i=>show decide_eq_false ()
 |str z=>show decide_eq_false (ape _)
 |_=>rfl
theorem Lz{f:Str}{x y z:V}(g:ϓ f x)(l:ϓ f y)(m:ϓ f z)(h1:before x y=true)(h2:before y z=true):before x z=true:=by
 obtain rfl|⟨e,k,rfl,_⟩|⟨e,z,rfl,_⟩:=m
 .cases y<;>cases h2
 .obtain rfl|⟨_,i,rfl,_⟩|⟨c,z,rfl,_⟩:=g
  .rfl
  .obtain rfl|⟨_,j,rfl,_⟩|⟨c,z,rfl,_⟩:=l
   .cases h1
   .let a:=of_decide_eq_true h1;let b:=of_decide_eq_true h2;show decide_eq_true ()
   .show absurd e c
  .show absurd e c
 .obtain rfl|⟨c,i,rfl,_⟩|⟨_,u,rfl,_⟩:=g
  .rfl
  .show absurd c e
  .obtain rfl|⟨c,j,rfl,_⟩|⟨_,v,rfl,_⟩:=l
   .cases h1
   .show absurd c e
   .show decide_eq_true (apj (of_decide_eq_true h1) (of_decide_eq_true h2))
theorem rR{x y:V}(h:aJ x y)(l:scalar x=true)(a:scalar y=true)(c:¬x=y):before y x= !before x y:=by
 cases x with
 |non=>
  cases y with
  |non=>show absurd rfl c
  |int j=>rfl
  |str z=>rfl
  |_=>show absurd a aaN
 |int i=>
  cases y with
  |non=>rfl
  |int j=>
   let m:¬i=j:=λe=>c (by rw[e])
   show decide (j<i)= !decide (i<j);by_cases h1:i<j
   .rw[decide_eq_true h1,decide_eq_false ()];rfl
   .rw[decide_eq_false h1,decide_eq_true ()];rfl
  |str z=>obtain z|z|⟨_,_,_,z⟩|⟨_,_,z,_⟩:=h<;>cases z
  |_=>show absurd a aaN
 |str z=>
  cases y with
  |non=>rfl
  |int j=>obtain z|z|⟨_,_,z,_⟩|⟨_,_,_,z⟩:=h<;>cases z
  |str y=>
   let f:¬z.cps.toList=y.cps.toList:=λe=>c (by rw[gm e])
   show decide (y.cps.toList<z.cps.toList)= !decide (z.cps.toList<y.cps.toList);by_cases h1:z.cps.toList<y.cps.toList
   .rw[decide_eq_true h1,decide_eq_false (List.lt_asymm h1)];rfl
   .let h2:y.cps.toList<z.cps.toList:=by
     by_cases g:y.cps.toList<z.cps.toList
     .show g
     .show absurd (List.le_antisymm (apb.mp g) (apb.mp h1)) f
    rw[decide_eq_false h1,decide_eq_true h2];rfl
  |_=>show absurd a aaN
 |_=>show absurd l aaN
def mL(cs:List ξ)(z:Str):Str:=match cs[ϊ cs z]? with
 |some c=>c.2
 |none=>Ϫ ""
def cZ(cs:List ξ)(os:List Ord)(xs:List V):Prop:=ς (λ(o:Ord) x=>ϓ (mL cs o.1) x) os xs
theorem wX:∀{os:List Ord}{xs:List V}{n k:Int},xs.length=os.length->aq os xs xs n k=decide (n<k)
 |[],[],n,k,_=>rfl
 |o::os,x::xs,n,k,h=>by
  show(if x=x then aq os xs xs n k else _)=_;rw[if_pos rfl];show wX (by simpa using h)
 |[],_::_,_,_,h=>by simp at h
 |_::_,[],_,_,h=>by simp at h
theorem Ku{cs:List ξ}{n k:Int}:∀{os:List Ord}{xs ys:List V},cZ cs os xs->cZ cs os ys->¬xs=ys->aq os ys xs k n= !aq os xs ys n k
 |[],_,_,a,c,h=>by cases a;cases c;show absurd rfl h
 |o::os,_,_,a,c,h=>by
  cases a with| @cons _ x _ xs a tx=>
  cases c with| @cons _ y _ ys c ty=>
  show(if y=x then aq os ys xs k n else decide (before y x=o.2))= !(if x=y then aq os xs ys n k else decide (before x y=o.2));by_cases e:x=y
  .rw[if_pos e,if_pos e.symm];show Ku tx ty λf=>h (by rw[e,f])
  .rw[if_neg e,if_neg (Ne.symm e),rR (a.aJ c) a.sc c.sc e];cases before x y<;>cases o.2<;>rfl
theorem sV{cs:List ξ}{n k m:Int}:∀{os:List Ord}{xs ys zs:List V},cZ cs os xs->cZ cs os ys->cZ cs os zs->aq os xs ys n k=true->aq os ys zs k m=true->aq os xs zs n m=true
 |[],_,_,_,i,j,l,h1,h2=>by
  cases i;cases j;cases l;let a:=of_decide_eq_true h1;let b:=of_decide_eq_true h2;show decide_eq_true ()
 |o::os,_,_,_,i,j,l,h1,h2=>by
  cases i with| @cons _ x _ xs i tx=>
  cases j with| @cons _ y _ ys j ty=>
  cases l with| @cons _ z _ zs l s=>
  let g:(if x=y then aq os xs ys n k else decide (before x y=o.2))=true:=h1;let f:(if y=z then aq os ys zs k m else decide (before y z=o.2))=true:=h2;show(if x=z then aq os xs zs n m else decide (before x z=o.2))=true;by_cases e1:x=y
  .rw[if_pos e1]at g;subst e1;by_cases p:x=z
   .rw[if_pos p]at f⊢;show sV tx ty s g f
   .rw[if_neg p]at f⊢;show f
  .rw[if_neg e1]at g;by_cases p:y=z
   .subst p;rw[if_neg e1];show g
   .rw[if_neg p]at f;let a:=of_decide_eq_true g;let b:=of_decide_eq_true f;cases ho:o.2 with
    |true=>
     rw[ho]at a b;let c:=Lz i j l a b;let q:¬x=z:=λe=>by rw[e,xU]at c;cases c
     rw[if_neg q];show decide_eq_true c
    |false=>
     rw[ho]at a b;let u:before y x=true:=by rw[rR (i.aJ j) i.sc j.sc e1,a];rfl
     let v:before z y=true:=by rw[rR (j.aJ l) j.sc l.sc p,b];rfl
     let c:=Lz l j i v u;let q:¬x=z:=λe=>by rw[e,xU]at c;cases c
     rw[if_neg q];let d:=rR (i.aJ l) i.sc l.sc q;rw[c]at d;show decide_eq_true ?_;cases hb:before x z with
     |true=>rw[hb]at d;cases d
     |false=>rfl
theorem bN{cs:List ξ}{r:Row}(h:ύ cs r):∀{os:List Ord},bw cs os->cZ cs os (Ξ cs os r.2)
 |[],_=>.nil
 |o::os,a=>by
  show .cons ?_ (bN h λx f=>a x (by simp[f]));let#[c,e,_]:=Ez (a o (by simp));let#[v,g,i]:=h.get e;show ϓ (mL cs o.1) (aQ cs r.2 o.1);unfold mL aQ;rw[e,g];show i
theorem cZ.aJ{cs:List ξ}{os:List Ord}{xs ys:List V}(h:cZ cs os xs)(g:cZ cs os ys):xs.length=os.length/\ys.length=os.length/\∀(i:Nat) x y,xs[i]?=some x->ys[i]?=some y->scalar x=true/\scalar y=true/\aJ x y:=by
 show#[h.len.symm,g.len.symm,λi x y e1 f=>?_];let#[o,j,c]:=h.get' e1;let#[o',a,e]:=g.get' f;rw[j]at a;cases a;show#[c.sc,e.sc,c.aJ e]
def aL(cs:List ξ)(os:List Ord)(r q:Row):Bool:=aq os (Ξ cs os r.2) (Ξ cs os q.2) r.1 q.1
def Line(cs:List ξ)(os:List Ord)(rs:List Row):Prop:=rs.Pairwise λr q=>aL cs os r q=true
theorem wK{α:Type}{p:α->Bool}:∀{l:List α},l.Pairwise (λa b=>p b=true->p a=true)->(∀x∈l.take (l.countP p),p x=true)/\∀x∈l.drop (l.countP p),p x=false
 |[],_=>by simp
 |a::l,h=>by
  let#[h1,h2]:=alX.mp h;let#[g,i]:=wK h2;cases ha:p a with
  |true=>
   rw[List.countP_cons_of_pos ha];show#[λx c=>by
    rcases ϲ.mp (by simpa using c)with e|e
    .rw[e];show ha
    .show g x e,λx c=>i x (by simpa using c)]
  |false=>
   let f:∀x∈l,p x=false:=λx c=>by
    cases hp:p x with
    |false=>rfl
    |true=>have:=h1 x c hp;rw[ha]at this;cases this
   let j:l.countP p=0:=List.countP_eq_zero.mpr λx c=>by rw[f x c];show aaN
   rw[List.countP_cons_of_neg (by rw[ha];show aaN),j];show#[by simp,λx c=>?_];rcases ϲ.mp (by simpa using c)with e|e
   .rw[e];show ha
   .show f x e
inductive Ct
 |start
 |fin
 |at_ (ahead:Bool) (xs:List V) (n:Int)
def DK(os:List Ord):Ct->List V->Int->Bool
 |.at_ true ys k,xs,n=>aq os xs ys n k
 |.at_ false ys k,xs,n=> !aq os ys xs k n
 |_,_,_=>false
def aU(cs:List ξ)(os:List Ord)(c:Ct)(r:Row):Bool:=DK os c (Ξ cs os r.2) r.1
def jE(cs:List ξ)(os:List Ord):Ct->Prop
 |.at_ _ xs _=>cZ cs os xs
 |_=>True
theorem Zc{cs:List ξ}{os:List Ord}(f:bw cs os){c:Ct}(g:jE cs os c){r q:Row}(l:ύ cs r)(m:ύ cs q)(h:aL cs os r q=true)(e:aU cs os c q=true):aU cs os c r=true:=by
 let i:=bN l f;let j:=bN m f;cases c with
 |start=>cases e
 |fin=>cases e
 |at_ sd xs n=>
  cases sd with
  |true=>show sV i j g h e
  |false=>
   let a:(!aq os xs (Ξ cs os q.2) n q.1)=true:=e;show(!aq os xs (Ξ cs os r.2) n r.1)=true;cases hx:aq os xs (Ξ cs os r.2) n r.1 with
   |false=>rfl
   |true=>
    rw[sV g i j hx h]at a;cases a
theorem xZ{cs:List ξ}{os:List Ord}(g:bw cs os){c:Ct}(i:jE cs os c):∀{rs:List Row},(∀r∈rs,ύ cs r)->Line cs os rs->rs.Pairwise (λa b=>aU cs os c b=true->aU cs os c a=true)
 |[],_,_=>.nil
 |r::rs,f,h=>by
  let#[h1,h2]:=alX.mp h;show .cons (λq e j=>Zc g i (f r (by simp)) (f q (by simp[e])) (h1 q e) j) (xZ g i (λq e=>f q (by simp[e])) h2)
theorem abT{cs:List ξ}{os:List Ord}(f:bw cs os){rs:List Row}{r:Row}(j:∀q∈rs,ύ cs q)(n:ύ cs r)(h:Line cs os rs)(o:∀q∈rs,¬q.1=r.1):Line cs os (gQ rs (rs.countP λq=>aL cs os q r) r):=by
 let c:=bN n f;let p:jE cs os (.at_ true (Ξ cs os r.2) r.1):=c;let s:=xZ f p j h;let#[p1,p2]:=wK s;let u:(λq=>aL cs os q r)=aU cs os (.at_ true (Ξ cs os r.2) r.1):=rfl;rw[u];unfold gQ;let g:Line cs os (rs.take (rs.countP (aU cs os (.at_ true (Ξ cs os r.2) r.1)))++rs.drop (rs.countP (aU cs os (.at_ true (Ξ cs os r.2) r.1)))):=by
  rw[amA];show h
 let#[v,y,z]:=aot.mp g;show aot.mpr #[v,alX.mpr #[λq a=>?_,y],λx l q a=>?_]
 .let hf':=j q (ael a);let e:=p2 q a;let B:=bN hf' f;let C:=o q (ael a);let i:aq os (Ξ cs os q.2) (Ξ cs os r.2) q.1 r.1=false:=e;show aq os (Ξ cs os r.2) (Ξ cs os q.2) r.1 q.1=true;by_cases m:Ξ cs os q.2=Ξ cs os r.2
  .rw[m,wX (cZ.aJ c c).1]at i⊢;have:=of_decide_eq_false i;show decide_eq_true ()
  .rw[Ku B c m,i];rfl
 .obtain e|e:=ϲ.mp a
  .rw[e];show p1 x l
  .show z x l q e
def jA:V->List V
 |.non=>[]
 |x=>[x]
def jm(rs:List Row)(q:List Nat):List Row:=q.map λi=>rs.getD i (0,[])
theorem Bl{R:V->Row->Prop}{ws:List V}{rs:List Row}(h:ς R ws rs):∀{q:List Nat},(∀i∈q,i<ws.length)->ς R (dh ws q) (jm rs q)
 |[],_=>.nil
 |i::q,a=>by
  let hi:=a i (by simp);let e:ws[i]?=some (ws[i]'hi):=aah hi;let#[r,c,f]:=h.get e;show ς R (ws.getD i .non::dh ws q) (rs.getD i (0,[])::jm rs q);rw[acO,acO,e,c];show .cons f (Bl h λj g=>a j (by simp[g]))
theorem map_getD{α:Type}(d:α):∀(l:List α),(aeZ l.length).map (λi=>l.getD i d)=l
 |[]=>rfl
 |a::l=>by
  rw[acV,aod,ad4,afC];show a::_=_
  congr 1
  show map_getD d l
theorem V2{rs:List Row}{lt:Nat->Nat->Bool}{q:List Nat}(h:dW rs.length lt q):(jm rs q).Perm rs:=by
 have:=h.1.map λi=>rs.getD i (0,[])
 rw[map_getD]at this;show this
theorem lL{rs:List Row}{i:Nat}(h:i<rs.length):rs.getD i (0,[])=rs[i]:=by
 rw[acO,aah h];rfl
theorem Jg{f:Str}{x y:V}(g:ϓ f x)(a:ϓ f y):aM (jA x) (jA y)=before x y:=by
 obtain rfl|⟨e,i,rfl,_⟩|⟨e,z,rfl,_⟩:=g
 .obtain rfl|⟨_,j,rfl,_⟩|⟨_,z,rfl,_⟩:=a<;>rfl
 .obtain rfl|⟨_,j,rfl,_⟩|⟨c,z,rfl,_⟩:=a
  .rfl
  .rfl
  .show absurd e c
 .obtain rfl|⟨c,j,rfl,_⟩|⟨_,z,rfl,_⟩:=a
  .rfl
  .show absurd c e
  .rfl
theorem agr{cs:List ξ}{rs:List Row}{q:List Nat}(l:(rs.map Prod.fst).Nodup)(f:dW rs.length (iI false λi j=>decide ((rs.getD i (0,[])).1<(rs.getD j (0,[])).1)) q):Line cs [] (jm rs q):=by
 unfold Line jm;rw[anT];let g:q.Nodup:=(f.1.nodup_iff).mpr ao2;show(f.2.and g).imp_of_mem λ{i j} hi m h=>?_;let#[h,n]:=h;let a:=lE f hi;let c:=lE f m;show decide ((rs.getD i (0,[])).1<(rs.getD j (0,[])).1)=true;let hd:¬(rs.getD i (0,[])).1=(rs.getD j (0,[])).1:=λe=>by
  rw[lL a,lL c]at e;let o:(rs.map Prod.fst)[i]'(by simpa using a)=(rs.map Prod.fst)[j]'(by simpa using c):=by simpa using e
  show n ((aoP l).mp o)
 obtain h|⟨h,_⟩:=h
 .show h
 .let h':decide ((rs.getD j (0,[])).1<(rs.getD i (0,[])).1)=false:=h;have:=of_decide_eq_false h';show decide_eq_true ()
def aY(rs:List Row)(p:Nat)(i:Nat):List V:=jA (((rs.getD i (0,[])).2[p]?).getD .non)
theorem ai1{cs:List ξ}{os:List Ord}{o:Ord}{rs:List Row}{q:List Nat}(v:bw cs (o::os))(z:∀r∈rs,ύ cs r)(h:Line cs os rs)(p:dW rs.length (iI (!o.2) λi j=>aM (aY rs (ϊ cs o.1) i) (aY rs (ϊ cs o.1) j)) q):Line cs (o::os) (jm rs q):=by
 unfold Line jm;rw[anT];let s:q.Nodup:=(p.1.nodup_iff).mpr ao2;show(p.2.and s).imp_of_mem λ{i j} hi C f=>?_;let#[f,F]:=f;let a:=lE p hi;let c:=lE p C;let D:rs.getD i (0,[])∈rs:=by rw[lL a];show agJ a
 let E:rs.getD j (0,[])∈rs:=by rw[lL c];show agJ c
 let g:ϓ (mL cs o.1) (aQ cs (rs.getD i (0,[])).2 o.1):=by
  cases bN (z _ D) v with|cons h _=>show h
 let l:ϓ (mL cs o.1) (aQ cs (rs.getD j (0,[])).2 o.1):=by
  cases bN (z _ E) v with|cons h _=>show h
 let m:aM (aY rs (ϊ cs o.1) i) (aY rs (ϊ cs o.1) j)=before (aQ cs (rs.getD i (0,[])).2 o.1) (aQ cs (rs.getD j (0,[])).2 o.1):=Jg g l;let n:aM (aY rs (ϊ cs o.1) j) (aY rs (ϊ cs o.1) i)=before (aQ cs (rs.getD j (0,[])).2 o.1) (aQ cs (rs.getD i (0,[])).2 o.1):=Jg l g;let an:=rR (g.aJ l) g.sc l.sc;let old:i<j->aL cs os (rs.getD i (0,[])) (rs.getD j (0,[]))=true:=λu=>by
  rw[lL a,lL c];show anI.mp h i j a c u
 show(if aQ cs (rs.getD i (0,[])).2 o.1=aQ cs (rs.getD j (0,[])).2 o.1 then aL cs os (rs.getD i (0,[])) (rs.getD j (0,[]))else decide (before (aQ cs (rs.getD i (0,[])).2 o.1) (aQ cs (rs.getD j (0,[])).2 o.1)=o.2))=true;generalize aQ cs (rs.getD i (0,[])).2 o.1=x at g m n an⊢;generalize aQ cs (rs.getD j (0,[])).2 o.1=y at l m n an⊢;by_cases e:x=y
 .rw[if_pos e];show old ?_;subst e;obtain h1|⟨_,h1⟩:=f
  .unfold iI at h1;split at h1
   .let h1:aM (aY rs (ϊ cs o.1) j) (aY rs (ϊ cs o.1) i)=true:=h1;rw[n,xU]at h1;cases h1
   .let h1:aM (aY rs (ϊ cs o.1) i) (aY rs (ϊ cs o.1) j)=true:=h1;rw[m,xU]at h1;cases h1
  .show h1
 .rw[if_neg e];let B:=an e;show decide_eq_true ?_;cases hu:o.2 with
  |true=>
   rw[hu]at f;obtain h1|⟨h1,_⟩:=f
   .let h1:aM (aY rs (ϊ cs o.1) i) (aY rs (ϊ cs o.1) j)=true:=h1;rw[m]at h1;show h1
   .let h1:aM (aY rs (ϊ cs o.1) j) (aY rs (ϊ cs o.1) i)=false:=h1;rw[n,B]at h1;simpa using h1
  |false=>
   rw[hu]at f;obtain h1|⟨h1,_⟩:=f
   .let h1:aM (aY rs (ϊ cs o.1) j) (aY rs (ϊ cs o.1) i)=true:=h1;rw[n,B]at h1;simpa using h1
   .let h1:aM (aY rs (ϊ cs o.1) i) (aY rs (ϊ cs o.1) j)=false:=h1;rw[m]at h1;show h1
theorem Xo{cs:List ξ}{o:Ord}{rs:List Row}(j:∃c∈cs,c.1=o.1)(l:∀r∈rs,ύ cs r):oU (aY rs (ϊ cs o.1)):=by
 let a:∀i,ϓ (mL cs o.1) (((rs.getD i (0,[])).2[ϊ cs o.1]?).getD .non):=λi=>by
  by_cases hi:i<rs.length
  .let m:rs.getD i (0,[])∈rs:=by rw[lL hi];show agJ hi
   cases bN (os:=[o]) (l _ m) (λp q=>by cases acN.mp q;show j)with|cons h _=>show h
  .let e:rs.getD i (0,[])=(0,[]):=by rw[acO,anq ()];rfl
   rw[e];show .inl rfl
 show#[λi=>?_,?_]
 .show nD (jA _);obtain e|⟨_,n,e,_⟩|⟨_,z,e,_⟩:=a i<;>rw[e]
  .show .inl rfl
  .show .inr #[_,rfl]
  .show .inr #[_,rfl]
 .by_cases g:mL cs o.1="number"
  .show .inl λi x h=>?_
   let h:jA (((rs.getD i (0,[])).2[ϊ cs o.1]?).getD .non)=[x]:=h;obtain e|⟨_,n,e,_⟩|⟨f,z,e,_⟩:=a i
   .rw[e]at h;cases h
   .rw[e]at h;cases h;show#[n,rfl]
   .show absurd g f
  .show .inr λi x h=>?_
   let h:jA (((rs.getD i (0,[])).2[ϊ cs o.1]?).getD .non)=[x]:=h;obtain e|⟨f,n,e,_⟩|⟨_,z,e,_⟩:=a i
   .rw[e]at h;cases h
   .show absurd f g
   .rw[e]at h;cases h;show#[z,rfl]
inductive J0 (K:ϩ) (vs:List V) (H:Hp) (Q:VK) (E:XK):Prop
 |mk (t:δ) (n:Int) (x:V):vs=[.ref t]->H t=some (.tup [.int n,x])->Q (.int n) H->J0 K vs H Q E
theorem Hf(T:Txt K mg):Def P w K mg base true 1 "number_of" ["told"] (J0 K):=by
 show Γ (N:=["told"]) T.Hf (λ_ _ _ _ _ H vs Q E c h=>?_);intro X _;let#[t,n,x,rfl,a,q]:=h;f_len;show ψ ?_;lk;show ϑ (ρ.of a) (show Ω [V.int n,x] 0=some (V.int n)from rfl) ?_;show q
inductive Vb (K:ϩ) (vs:List V) (H:Hp) (Q:VK) (E:XK):Prop
 |mk (x:V):vs=[x]->(∀p H',ζ H H'->H p=none->H' p=some (.tup (jA x))->Q (.ref p) H')->Vb K vs H Q E
theorem G4(T:Txt K mg):Def P w K mg base true 1 "rank_of" ["value"] (Vb K):=by
 show Γ (N:=["value"]) T.G4 (λ_ _ _ _ _ H vs Q E c h=>?_);intro X _;let#[x,rfl,q]:=h;let hsz:=ϱ;f_len;show ψ ?_;lk;show Η (λe=>?_) (λe=>?_)
 .lk;show#[Ζ,λp a=>?_];subst e;show q p _ (ζ.upd a) a υ
 .lk;show#[Ζ,λp a=>?_];let ex:jA x=[x]:=by
   cases x with
   |non=>show absurd rfl e
   |_=>rfl
  show q p _ (ζ.upd a) a (by rw[ex];show υ)
inductive yP (K:ϩ) (vs:List V) (H:Hp) (Q:VK) (E:XK):Prop
 |mk (p:δ) (i:Nat) (up:Bool) (ws:List V) (rs:List Row):vs=[.ref p,.int i,.bl up]->H p=some (.lst ws)->ς (gO H) ws rs->rs.length<64->(∀r∈rs,i<r.2.length)->oU (aY rs i)->H (cJ K "sorted_by")=some (.tbl ju)->(∀q pl H',ζ H H'->H pl=none->dW rs.length (iI (!up) λa b=>aM (aY rs i a) (aY rs i b)) q->H' pl=some (.lst (dh ws q))->Q (.ref pl) H')->yP K vs H Q E
theorem Dl(T:Txt K mg)(R:cM K mg base "sorted_by"):Def P w K mg base true 6 "sorted_by" ["rows","place","up"] (yP K):=by
 show ai0 T.Dl R JD (λ_ _ _ _ _ _ us S=>by let#[_,_,_,rfl]:=WR S;rfl) (λvs H Q E h=>by let#[p,i,up,ws,rs,rfl,_]:=h;rfl) (λf A outer s H vs Q E U h=>?_);let#[p,i,up,ws,rs,rfl,hp,D,h64,F,O,hP,q]:=h;let nd:=JD.nd;let n1:=T.tD;let G:=D.len;let hsz:=ϱ;w_up;show ai4 (c:=ie K "sorted_by") (P:=cJ K "sorted_by") (ps:=ju) (j:=3) (qual:="sorted_by.<locals>.rank") (clos:=[("place",s.heap.objs.size+1)]) nd (by rfl) (by rfl) (by rfl) R.code R.bm (by rfl) hP (ajl _ _) (by change (Ϫ "sorted_by"++Ϫ ".<locals>.")++Ϫ "rank"=_;fin2) (by rfl) (by rfl) (by rfl) ?_;intro C c' oc doc pm ctv vs t' H1 m hfr Y n Z hq;let#[u1,n]:=n;let hK:∀(X:Cx)(σ:_L.St),X=iM true P w K mg base Sw "sorted_by" (ω uZ) f (.ref (ie K "sorted_by")) A outer s H E->σ=[some (.ref p),some (.int i),some (.bl up),some (.ref C)]->tR X σ (.ref C) ws H1 (Kz (aY rs i)):=by
  intro X σ eX ab;subst eX;subst ab;show#[λk v H2 H3 J h=>?_,λk x u ϵ o H2 hx ru J I=>?_]
  .let#[a,e,h]:=h;show#[a,e,J _ _ h]
  .let#[r,B,t,l,rfl,ht,S]:=D.get hx;let hkl:=(aai.mp B).1;let L:=F r (aaM B);let bc:=m.trans J;show aeT (j:=1) (v:=.ref t) (z:=.int i) (x:="told") (y:="place") I (J _ _ Y) (J _ _ n) Z hq U.in1.in1.depth (λ_ _ _ _ _=>rfl) (by rfl) (by rfl) (by rfl) (by rfl) (by rfl) (by fin2) (λa ha=>?_) (by rfl) (by rfl) (by rfl) (by rfl) ru ?_
   .let h:=PySem.mem_of_lookup ha;change (a,NameKind.free)∈[(Ϫ "told",NameKind.local),(Ϫ "place",NameKind.free),(Ϫ "rank_of",NameKind.globalImplicit)]at h;obtain e|h:=ϲ.mp h
    .cases e
    .obtain e|h:=ϲ.mp h
     .show congrArg Prod.fst e
     .cases acN.mp h
   .let D1:= @G4 P w K mg base T;let hr':=((U.in1).in1).deeper (W.envX "sorted_by.<locals>.rank" (ω (ajQ (aB uZ) 0)) o.heap.objs.size C (.ref c') [("place",s.heap.objs.size+1)]);f_len;show ψ ?_;lk;show ϑ (ρ.of (bc _ _ ht)) (show Ω [V.int r.1,V.ref l] 1=some (V.ref l)from rfl) ?_;lk;show Ϡ (η.of (bc _ _ S)) (ϣ (aah L)) ?_;lk;show#[_,rfl,λa H3 s3 ha h3=>?_];show#[s3,a,rfl,?_];rw[h3];unfold aY;rw[acO,B];show _=some (HO.tup (jA ((r.2[i]?).getD .non)));rw[aah L];rfl
 let hu:=U.in1.in1.units0;change Ο _ _ _ [some (.ref p),some (.int i),some (.bl up),some (.ref C)] H1;w_up;show Θ ?_;lk;cases up with
 |true=>
  walk_at"t";f_len;show ψ ?_;show Vh n1 ?_;lk;show#[p,C,ws,_,_,rfl,rfl,η.of (m _ _ hp),(),Tw O,hK _ _ rfl rfl,Rq hu O,λpl H2 qq o g M=>?_];rw[G]at M;show q qq pl _ ((m.trans o).trans (ζ.upd g)) ((m.trans o).free g) M υ
 |false=>
  walk_at"t";show Ε ?_;f_len;show ψ ?_;show acA (b:=true) (by rfl) n1 (by rfl) ?_;lk;show#[rfl,p,C,ws,_,_,rfl,rfl,η.of (m _ _ hp),(),Tw O,hK _ _ rfl rfl,Rq hu O,λpl H2 qq o g M=>?_];rw[G]at M;show q qq pl _ ((m.trans o).trans (ζ.upd g)) ((m.trans o).free g) M υ
def fj(q:δ)(H H':Hp)(v:V)(r:Row):=∃t l,v=.ref t/\H t=none/\H l=none/\l≠q/\H' t=some (.tup [.int r.1,.ref l])/\H' l=some (.lst r.2)
theorem fj.row{q:δ}{H H':Hp}{v:V}{r:Row}(h:fj q H H' v r):gO H' v r:=by
 let#[t,l,e,_,_,_,h1,h2]:=h;show#[t,l,e,h1,h2]
theorem fj.same{q:δ}{H H' H2:Hp}{v:V}{r:Row}(h:fj q H H' v r)(s:ζ H' H2):fj q H H2 v r:=by
 let#[t,l,e,a,b,c,h1,h2]:=h;show#[t,l,e,a,b,c,s _ _ h1,s _ _ h2]
theorem fj.turn{q f:δ}{H H':Hp}{v:V}{r:Row}(h:fj q H H' v r)(g:H' f=none):fj f H H' v r:=by
 let#[t,l,e,a,b,c,h1,h2]:=h;show#[t,l,e,a,b,(λz=>by rw[z,g]at h2;cases h2),h1,h2]
inductive BK (K:ϩ) (vs:List V) (H:Hp) (Q:VK) (E:XK):Prop
 |mk (c b p:δ) (cs:List ξ) (os:List Ord) (rs:List Row):vs=[.ref c,.ref b,.ref p]->ϟ H c cs->aH H b os->dX H p rs->cs.length<=6->os.length<=6->bw cs os->rs.length<64->(∀r∈rs,ύ cs r)->(rs.map Prod.fst).Nodup->H (cJ K "sorted_by")=some (.tbl ju)->(∀q ws ls H',ζ H H'->H q=none->H' q=some (.lst ws)->ς (fj q H H') ws ls->Line cs os ls->ls.Perm rs->Q (.ref q) H')->BK K vs H Q E
theorem BZ(T:Txt K mg)(hN:cM K mg base "sorted_by"):Def P w K mg base true 8 "line_of" ["columns","order","rows"] (BK K):=by
 show Γ (S:=Vd) T.BZ (λf Ϻ A outer s H vs Q E g h=>?_);let#[c,b,p,cs,os,rs,rfl,hC,#[ov,hb,Z],#[ws,hp,ab],hc6,lA,ϻ,h64,ac,ah,hP,q]:=h;let nd:=Vd.nd;let n1:=T.tD;let n2:=T.Zu;let n3:=T.jW;let hwl:=ab.len;let ai:=Z.len;let hsz:=ϱ;let bR:(["row","values"]:List Str).Nodup:=by fin2
 let D1:= @Hf P w K mg base T;let D2:= @lZ P w K mg base T;let D3:Def P w K mg base true 6 "sorted_by" ["rows","place","up"] (yP K):=Dl T hN;w_up;f_tup;show Vh n1 ?_;show nW ["row","values"] (σ':=[none,none]) (du (ω xK)) ?_;lk;show#[p,ws,rfl,η.of hp,(),λτ=>∃o1 o2,τ=[o1,o2],λE2 k u H'=>∃r,rs[k]?=some r/\fj E2 H H' u r,#[none,none,rfl],λE2 k u H2 H3 ys hE L p=>?_,λfp E2 C s3 H0 k τ x H4 H5 bj hi al Φ R hG=>?_,λq0 H2 us hq0 m am e2 s2=>?_]
 .let#[r,g,t,l,e,h1,h2,h3,h4,h5]:=p;show#[r,g,t,l,e,h1,h2,h3,L _ _ (λz=>by rw[z,hE]at h4;cases h4) h4,L _ _ h3 h5]
 .let#[o1,o2,rfl]:=al;let#[cI,rfl]:=hG;let#[r,g,t,l,rfl,ht,hl]:=ab.get cI;let#[ys,R]:=R;show ϥ (ρ.of (Φ _ _ ht)) (Δ (Α bR (by rfl) (.inl rfl) (.inr rfl) (Δ (Α bR (by rfl) (.inl rfl) (.inr rfl) (aa ?_)))));lk;show jr (.inl (η.of (Φ _ _ hl))) λa m=>?_
  let#[G,e5]:=ϒ m (.lst r.2);let nl:a≠E2:=λe=>by rw[e,R]at m;cases m
  generalize upd H4 a (.lst r.2)=H5 at G e5⊢;lk;show#[Ζ,λt2 bu=>?_];let s6:ζ H5 (upd H5 t2 (.tup [.int r.1,.ref a])):=ζ.upd bu;show#[#[_,_,rfl],#[r,g,t2,a,rfl,(Φ.trans G).free bu,Φ.free m,nl,υ,s6 _ _ e5],G.trans s6]
 let U:ς (fj q0 H H2) us rs:=pX () λk r g=>by
  let L:k<us.length:=by have:=(aai.mp g).1;omega
  let#[r',ae,hn]:=am k _ (aah L);rw[g]at ae;cases ae;show#[_,aah L,hn]
 let jN:=U.len;let#[fa,ar,uU]:=afD (σ:=[some (.ref c),some (.ref b),some (.ref p),none,none,none]) (X:=iM true P w K mg base U0 "line_of" (ω xK) f Ϻ A outer s H E) (H:=H2) (xs:=us) (KV:=Nj λi=>(rs.getD i (0,[])).1) D1 (g.mono (show 1+2<=7 by decide)) (λi v H H' _ h=>h) (λi x H' hx y=>by
  let#[r,g,t,l,rfl,_,_,_,ht,hl]:=U.get hx;show#[t,r.1,.ref l,rfl,y _ _ ht,ζ.refl _,?_];show V.int r.1=V.int (rs.getD i (0,[])).1;rw[acO,g];rfl)
 show abk ar (by rfl) (by decide) ?_;show#[q0,fa,us,_,_,rfl,rfl,η.of e2,(),acY,uU,abp,λp1 H3 n s3 I M=>?_];rw[jN]at M;let j:ς (fj p1 H (upd H3 p1 (.lst (dh us n)))) (dh us n) (jm rs n):=(Bl U λi hi=>by rw[jN];show lE M hi).imp λu r z=>((z.same s3).turn I).same (ζ.upd I)
 let B:=agr (cs:=cs) ah M;let D:=V2 M;let cD:ζ H (upd H3 p1 (.lst (dh us n))):=(s2.trans s3).trans (ζ.upd I);let au:H p1=none:=(s2.trans s3).free I;let pD:(upd H3 p1 (.lst (dh us n))) p1=some (.lst (dh us n)):=υ;generalize upd H3 p1 (.lst (dh us n))=H4 at j cD pD⊢;generalize dh us n=w1 at j pD;generalize jm rs n=l1 at j B D;w_up;show adt (by walk_at"po") (by rfl) (by rfl) n2 (by rfl) ?_;lk;show#[b,ov,rfl,η.of (cD _ _ hb),λi σ H'=>(∃o4 o5 O W a,σ=[some (.ref c),some (.ref b),some (.ref p),some (.ref O),o4,o5]/\ζ H H'/\H O=none/\H' O=some (.lst W)/\ς (fj O H H') W a/\Line cs (os.drop (os.length-i)) a/\a.Perm rs),?_,λi σ' H' _ F=>?_,λi x σ' H' hi hx F=>?_,λσ' H' F=>?_]
 .show#[none,none,p1,w1,l1,rfl,cD,au,pD,j,?_,D];rw[anE,an9];show B
 .let#[_,_,_,_,_,_,y,_]:=F;show η.of (y _ _ hb)
 .let#[o4,o5,O,W,a,rfl,y,af,Ed,hA,hL,bJ]:=F;let#[o,ho,t,rfl,ht]:=Z.get hx;let J:=ϻ o (aaM ho);let hlt:=pP J;let m:a.length=rs.length:=bJ.length_eq;let av:=hA.len;let yR:∀r∈a,ύ cs r:=λr g=>ac r (bJ.mem_iff.mp g)
  show ϥ (ρ.of (y _ _ ht)) (Δ (Α nd (by rfl) (.inl rfl) (.inl rfl) (Δ (Α nd (by rfl) (.inl rfl) (.inl rfl) (aa ?_)))));f_len;f_tup;lk;show#[c,cs,o.1,rfl,hC.same y,λH5 G=>?_];rw[rG 0 J,am5];lk;show#[O,ϊ cs o.1,o.2,W,a,rfl,G _ _ Ed,hA.imp λu r z=>(z.same G).row,(),λr g=>by have:=(yR r g).len;omega,Xo J yR,G _ _ (y _ _ hP),λn pl H6 s6 ag M aw=>?_];let xW:=(y.trans G).trans s6;let ax:H pl=none:=(y.trans G).free ag;show#[_,_,pl,dh W n,jm a n,rfl,xW,ax,aw,(Bl hA λi hi=>by rw[av];show lE M hi).imp λu r z=>?_,?_,(V2 M).trans bJ]
  .show((z.same G).turn ag).same s6
  .let Y:os.drop (os.length-(i+1))=o::os.drop (os.length-i):=by
    let L:os.length-(i+1)<os.length:=()
    rw[show ov.length-1-i=os.length-(i+1)by omega]at ho;rw[afE L];let e1:=aah L;rw[ho]at e1;cases e1;rw[show os.length-(i+1)+1=os.length-i by omega]
   rw[Y];show ai1 (λo' ay=>by
    obtain rfl|h:=ϲ.mp ay
    .show J
    .show ϻ _ (ael h)) yR hL M
 .let#[o4,o5,O,W,a,rfl,y,af,Ed,hA,hL,bJ]:=F;f_len;show ψ ?_;lk;rw[ai,apt,amW]at hL;show q O W a H' y af Ed hA hL bJ
def dF(B:Bk)(row:Int)(o:Option (List V)):Bk:=
 {B with rows:=(match o with|none=>bK B.rows row|some xs=>aF B.rows row xs),touched:=(match o with|none=>bK B.touched row|some _=>aF B.touched row (B.now+1)),
         done:=B.done++[#[B.now+1,row,Μ B.rows row,o]],now:=B.now+1}
def tU(B:Bk):Prop:=B.rows.length<1000000/\B.touched.length<1000000/\B.done.length<1000000
def nu(B:Bk):=∀i,Μ B.rows i=none↔ Μ B.touched i=none
abbrev cB(mg:Str->Option ε):δ:=θ mg "Book"
inductive jO (mg:Str->Option ε) (vs:List V) (H:Hp) (Q:VK) (E:XK):Prop
 |mk (A:BA) (B:Bk) (row:Int) (v:V) (o:Option (List V)):vs=[.ref A.b,.int row,v]->Κ (cB mg) H A B->mZ H v o->(o=none->Μ B.rows row≠none/\ Μ B.touched row≠none)->tU B->(∀H',Out A.fp H H'->Κ (cB mg) H' A (dF B row o)->Q (.int (B.now+1)) H')->jO mg vs H Q E
theorem Ff(T:Txt K mg):FD P w K mg base true 1 "do" "Book.do" uP ["self","row","values"] (jO mg):=by
 show aO (S:=PX) (λf Ϻ A' outer s H vs Q E hr h=>?_);intro X _;let#[A,B,row,v,o,rfl,m,U,W,#[z1,z2,z3],q]:=h;let nd:=PX.nd;let hsz:=ϱ;let g:=T.ϛ;let Y:=T.rK;let a2:=T.zY;let a3:=T.uH;let J:=T.uJ;let Z:_+1<cLine:=afZ (aiv (by decide:1<=64) _) hr.units;let kR:=m.rows;let#[Ϸ,er,hR]:=id kR;let#[tvs,et,hT]:=m.touched;let#[ds,ed,hD]:=m.done;let kI:=m.ins;w_up;f_tup;show afa Z (by constructor<;>rfl) ?_;show ao ?_;f_are;show#[A.b,_,_,_,_,rfl,kI,g,Y,rfl,A.r,rfl,.inl #[_,.inl er],?_];f_are;show#[_,az.k (k:=Sum.inl row) er,?_];let hw:mZ H ((aj Ϸ (Sum.inl row)).getD .non) (Μ B.rows row):=by
  obtain⟨e1,i⟩|⟨u,x,e1,i,r⟩:=jU hR row
  .rw[e1,i];rfl
  .rw[e1,i];show r
 generalize(aj Ϸ (Sum.inl row)).getD .non=L at hw⊢;w_up;show aho ?_;f_are;show#[A.b,_,_,_,_,rfl,kI,g,J,rfl,?_];f_are;show#[_,_,rfl,rfl,_,_,kI,by show 6<1000;decide,?_];let k1:=m.EY B.known (B.now+1);let M:Out A.fp H _:=Out.upd (H:=H) (a:=A.b) (o:=.ins (cB mg) A.dx [("heads",.ref A.h),("rows",.ref A.r),("touched",.ref A.t),("done",.ref A.d),("known",.int B.known),("now",.int (B.now+1))]) (by simp[BA.fp]);change Ο _ _ _ _ (upd H A.b (.ins (cB mg) A.dx [("heads",.ref A.h),("rows",.ref A.r),("touched",.ref A.t),("done",.ref A.d),("known",.int B.known),("now",.int (B.now+1))]));generalize upd H A.b _=H1 at k1 M⊢;let j4:=k1.ins;let fin:∀(H2:Hp)(n:Bk),Out A.fp H H2->Κ (cB mg) H2 A n->n={dF B row o with done:=B.done}->Ο X ((aB uP).drop 3) {nx:=λ_ H'=>Q .non H',rt:=Q} [some (.ref A.b),some (.int row),some v,some L] H2:=by
  intro H2 n j k2 i;let p:n.now=B.now+1/\n.done=B.done:=by rw[i];show#[rfl,rfl]
  let l:=k2.ins;let#[QD,RV,y]:=k2.done;let st:=m.tup j;let ab:=hw.stay st;let zV:=U.stay st;let ac:=y.len;rw[p.2]at ac y;rw[p.1]at l;w_up;show aV (dw F.plainAttrs_list F.slot_list_append F.type_list_append (h:=?_));show ao ?_;f_are;show#[A.b,_,_,_,_,rfl,l,g,a3,rfl,.inl #[rfl,_,η.of RV],?_];cbv;show ao ?_;f_are;show#[A.b,_,_,_,_,rfl,l,g,J,rfl,?_];cbv;show#[Ζ,λt ht=>?_];let#[z,C]:=ϒ ht (.tup [.int (B.now+1),.int row,L,v]);generalize upd H2 t (.tup [.int (B.now+1),.int row,L,v])=D at z C⊢;let k3:=k2.same z;cbv;show iW zq #[A.d,_,_,rfl,rfl,z _ _ RV,(),?_];let ur:ς (oX D) (QD++[V.ref t]) (B.done++[#[B.now+1,row,Μ B.rows row,o]]):=ς.app (ς.imp (λv d h=>h.stay λb ys e=>z _ _ e) y) (.cons #[t,L,v,rfl,C,ab.stay λb ys e=>z _ _ e,zV.stay λb ys e=>z _ _ e] .nil);let k4:=k3.XN ur;let o4:Out A.fp H _:=(j.trans (Out.of z)).trans (Out.upd (H:=D) (a:=A.d) (o:=.lst (QD++[V.ref t])) (by simp[BA.fp]));generalize upd D A.d _=H4 at k4 o4⊢;let ae:=k4.ins;f_len;show ψ ?_;show ao ?_;f_are;show#[A.b,_,_,_,_,rfl,ae,g,J,rfl,?_];let e4:{n with done:=B.done++[#[B.now+1,row,Μ B.rows row,o]]}=dF B row o:=by rw[i];rfl
  rw[e4]at k4;have:=q H4 o4 k4;show Q (.int n.now) H4;rw[p.1];show this
 let#[O,Gp,R]:=k1.rows;let#[al7,et1,af]:=k1.touched;let ag:=R.len;let htl:=af.len;let Qk:O.length<1000000:=by rw[ag];show z1
 cases o with
 |none=>
  let ah:v=.non:=U;subst ah;let#[g1,g2]:=W rfl;w_up;cbv;show yJ ?_;show ao ?_;f_are;obtain⟨_,i⟩|⟨u,x,e1,_,_⟩:=jU R row
  .show absurd i g1
  show#[A.b,_,_,_,_,rfl,j4,g,Y,rfl,A.r,rfl,.inl #[_,.inl Gp],?_];f_are;show#[O,Sum.inl row,u,Gp,rfl,e1,?_];let k2:=k1.tH (Cr R row);let j:Out A.fp H _:=M.trans (Out.upd (H:=H1) (a:=A.r) (o:=.dK (gD O (Sum.inl row))) (by simp[BA.fp]));generalize upd H1 A.r _=H2 at k2 j⊢;let l:=k2.ins;let#[G,C,c]:=k2.touched;f_len;show aV (yJ ?_);show ao ?_;f_are;obtain⟨_,i⟩|⟨u2,x2,e3,_,_⟩:=jU c row
  .show absurd i g2
  show#[A.b,_,_,_,_,rfl,l,g,a2,rfl,A.t,rfl,.inl #[_,.inl C],?_];f_are;show#[G,Sum.inl row,u2,C,rfl,e3,?_];let k3:=k2.Tf (Cr c row);let I:Out A.fp H _:=j.trans (Out.upd (H:=H2) (a:=A.t) (o:=.dK (gD G (Sum.inl row))) (by simp[BA.fp]));generalize upd H2 A.t _=D at k3 I⊢;show fin D _ I k3 rfl
 |some xs=>
  let#[t,rfl,ht]:=id U;w_up;cbv;show Df Z ?_;f_are;show ao ?_;f_are;show#[A.b,_,_,_,_,rfl,j4,g,Y,rfl,?_];f_are;show#[A.r,_,rfl,jy.k (k:=Sum.inl row) Gp (),?_];let k2:=k1.tH (yE R row (v:=.ref t) (x:=xs) #[t,rfl,m.tup M _ _ ht]);let j:Out A.fp H _:=M.trans (Out.upd (H:=H1) (a:=A.r) (o:=.dK (putK O (Sum.inl row) (.ref t))) (by simp[BA.fp]));generalize upd H1 A.r _=H2 at k2 j⊢;let l:=k2.ins;let#[G,C,c]:=k2.touched;let TQ:G.length<1000000:=by rw[c.len];show z2
  f_len;show Df Z ?_;show ao ?_;f_are;show#[A.b,_,_,_,_,rfl,l,g,J,rfl,?_];show ao ?_;f_are;show#[A.b,_,_,_,_,rfl,l,g,a2,rfl,?_];f_are;show#[A.t,_,rfl,jy.k (k:=Sum.inl row) C (),?_];let k3:=k2.Tf (yE c row (v:=.int (B.now+1)) (x:=B.now+1) rfl);let I:Out A.fp H _:=j.trans (Out.upd (H:=H2) (a:=A.t) (o:=.dK (putK G (Sum.inl row) (.int (B.now+1)))) (by simp[BA.fp]));generalize upd H2 A.t _=D at k3 I⊢;show fin D _ I k3 rfl
theorem qz(T:Txt K mg):Def P w K mg base true 1 "is_whole" ["value"] Th:=by
 show Γ (N:=["value"]) T.qz (λ_ _ _ _ _ H vs Q E a h=>?_);intro X _;let#[v,rfl,hs,q]:=h;let n1:=T.yq;let n2:=T.Jv;let c:=T.Xg;f_len;show ψ ?_;cases v with
 |non=>
  cbv;show q
 |int i=>
  cbv;show q
 |str z=>
  cbv;show q
 |_=>cases hs
theorem Ak(T:Txt K mg):Def P w K mg base true 2 "is_number_value" ["value"] O4:=by
 show Γ (N:=["value"]) T.Ak (λ_ _ _ _ _ H vs Q E a h=>?_);intro X _;let#[v,rfl,hs,q]:=h;let c:=T.O6;let f:= @qz P w K mg base T;f_len;show ψ ?_;cbv;show#[v,rfl,hs,?_];cbv;cases v with
 |int i=>
  show ji (λ_=>?_) (λh=>by cases h);cbv;show Η (λh=>?_) (λh=>?_)
  .cbv;let e:isNum (.int i)=decide (i<=1000000000000000000):=by unfold isNum;simp[h]
   rw[e]at q;show q
  .let e:isNum (.int i)=false:=by unfold isNum;simp[h]
   rw[e]at q;show q
 |non=>show ji (λh=>by cases h) (λ_=>q)
 |str z=>show ji (λh=>by cases h) (λ_=>q)
 |_=>cases hs
theorem Hc(T:Txt K mg):Def P w K mg base true 3 "is_value" ["kind","value"] HH:=by
 show Γ (N:=["kind","value"]) T.Hc (λ_ _ _ _ _ H vs Q E g h=>?_);intro X _;let#[k,v,rfl,hs,f,q]:=h;let i:=T.Az;let j:= @Ak P w K mg base T;let l:= @vD P w K mg base T;w_up;cbv;show Η (λh=>?_) (λh=>?_)
 .subst h;cbv;show q H (ζ.refl _)
 .cbv;let a:isVal k v=if k="number" then isNum v else iB v:=by cases v<;>first|rfl|show absurd rfl h
  show Η (λh2=>?_) (λh2=>?_)
  .let c:k="number":=by cases h2;rfl
   rw[if_pos c]at a;rw[a]at q;cbv;show#[v,rfl,hs,q H (ζ.refl _)]
  .let c:¬k="number":=λe=>h2 (by rw[e])
   rw[if_neg c]at a;rw[a]at q;cbv;show#[v,rfl,hs,f,q]
theorem Fw(T:Txt K mg):Def P w K mg base true 2 "is_name" ["name"] JH:=by
 show Γ (N:=["name"]) T.Fw (λ_ _ _ _ _ H vs Q E c h=>?_);intro X _;let#[z,rfl,a,q]:=h;let n1:=T.bY;let e:=T.ajH;let f:=T.aeP;let hsz:=ϱ;let g:= @tL P w K mg base T;f_len;show ψ ?_;cbv;unfold isName at q;show Η (λh=>?_) (λh=>?_)
 .cbv;show Η (λh2=>?_) (λh2=>?_)
  .cbv;rw[decide_eq_true (show 1<=z.length/\z.length<=8 by omega)]at q;show#[z,_,rfl,a,q]
  .rw[decide_eq_false (show ¬(1<=z.length/\z.length<=8)by omega)]at q;show q H (ζ.refl _)
 .rw[decide_eq_false (show ¬(1<=z.length/\z.length<=8)by omega)]at q;cbv;show q H (ζ.refl _)
theorem Xf(k a b:Str):gW (.str k) [.str a,.str b]=decide (k=a\/k=b):=by
 let e:∀a:Str,(a==k)=decide (k=a):=λa=>by rw[ahR,beq_iff_eq,decide_eq_true_iff];show eq_comm
 show((a==k)||((b==k)||false))=_;rw[e,e,anY,apf]
theorem Gk(T:Txt K mg):Def P w K mg base true 3 "ask_columns" ["columns"] (yC (.ref (θ mg "NoColumns"))):=by
 show Γ (S:=Qe) T.Gk (λ_ _ _ _ _ H vs Q E hr h=>?_);intro X _;let#[a,cs,rfl,#[vs,F,f],hcl,G,q]:=h;let n1:=T.bY;let n2:=T.NB;let g1:=T.Z8;let g2:=T.Az;let g3:=T.Vi;let nd:=Qe.nd;let hsz:=ϱ;let sa:η K H a vs:=.inl (.inl F);let gB:=f.len;let D1:= @Fw P w K mg base T;let U:(["name","kind"]:List Str).Nodup:=by fin2
 let hok:ώ cs=true:=by
  cases e:ώ cs with
  |true=>rfl
  |false=>
   have:=q H (ζ.refl _);rw[e]at this;show this.elim
 rw[hok]at q;unfold ώ at hok;rw[aa2,aa2,decide_eq_true_eq,acX,decide_eq_true_eq]at hok;let#[#[hl6,s],ZD]:=hok;w_up;cbv;show Η (λh1=>?_) (λh1=>absurd h1 ());cbv;show dJ (λh2=>absurd h2 ()) (λh2=>?_);show Ε ?_;w_up;show uv (by walk_at"po") (by rfl) (by intro _;rfl) ?_;cbv;show#[a,vs,rfl,sa,λi σ H'=>(∃l m I,σ=[some (.ref a),l,m,I])/\ζ H H',#[#[none,none,none,rfl],ζ.refl _],λi σ H' hi v=>.inl (.inl (v.2 _ _ F)),λi x σ H' y v=>?_,λσ H' v=>?_]
 .let#[#[l,m,I,rfl],n]:=v;let#[c,J,t,rfl,L]:=f.get y;let z:=aaM J;let M:=G c z;let g:=s c z;rw[aa2]at g;show ϥ (ρ.of (n _ _ L)) (Δ (Α nd (by rfl) (.inl rfl) (.inl rfl) (Δ (Α nd (by rfl) (.inl rfl) (.inl rfl) (aa ?_)))));w_up;cbv;show#[c.1,rfl,M.1,λH2 B =>?_];rw[g.1];cbv;let j:=n.trans B;show#[Ζ,λp hp=>?_];let Φ :=j.trans (ζ.upd (o:=.tup [.str "number",.str "text"]) hp);show WD (ρ.of υ) ?_;rw[show gW (.str c.2) [.str "number",.str "text"]=p8 c.2 from Xf _ _ _,g.2];cbv;show#[#[_,_,_,rfl],Φ]
 .let#[#[l,m,I,rfl],n]:=v;w_up;show qR ["name","kind"] (σ':=[none,none]) (du (ω Aa)) nd ?_;cbv;show#[a,vs,rfl,.inl (.inl (n _ _ F)),(),λW=>∃l m,W=[l,m],λO i u H'=>∃c,cs[i]?=some c/\u=.str c.1,#[none,none,rfl],λO i u H2 H3 ys _ _ p=>p,λfp O C s3 H0 i W x H2 H3 hE hi R B hys hG=>?_,λO H2 ys hE hl y Y B =>?_]
  .let#[l,m,rfl]:=R;let#[y,rfl]:=hG;let#[c,J,t,rfl,L]:=f.get y;show ϥ (ρ.of (B _ _ (n _ _ L))) (Δ (Α U (by rfl) (.inl rfl) (.inr rfl) (Δ (Α U (by rfl) (.inl rfl) (.inr rfl) (aa ?_)))));cbv;show#[#[_,_,rfl],#[c,J,rfl],ζ.refl _]
  .let ey:=jD (ys:=cs) (λc=>V.str c.1) (by rw[hl,gB]) y;let jJ:ys=(cs.map Prod.fst).map V.str:=by rw[ey,afC];rfl
   subst jJ;let D:(cs.map Prod.fst).length<=4000:=by simp;omega
   let j:=n.trans B;f_len;cbv;show JL (by rfl) (η.of Y) D λS Z=>?_
   cbv;show Qm υ D ?_;cbv;show Ab (.inl (η.of ((ζ.upd Z) _ _ Y))) ?_;cbv;show dJ (λh5=>(h5 ?_).elim) (λh5=>?_)
   .rw[(Ha _ (cs.map Prod.fst) rfl).mpr ZD];simp
   .show Ε (q _ (j.trans (ζ.upd Z)))
theorem Ej(T:Txt K mg):Def P w K mg base true 2 "is_row_number" ["row"] Rb:=by
 show Γ (N:=["row"]) T.Ej (λ_ _ _ _ _ H vs Q E c h=>?_);intro X _;let#[v,rfl,a,q]:=h;let e:=T.Kf;let f:= @qz P w K mg base T;f_len;show ψ ?_;cbv;show#[v,rfl,a,?_];cases v with
 |int i=>
  change Q (.bl (decide (0<=i/\i<=1000000000))) H at q;rw[show oK (V.int i)=true from rfl];cbv;show Η (λh=>?_) (λh=>?_)
  .cbv;rw[show decide (0<=i/\i<=1000000000)=decide (i<=1000000000)from by rw[decide_eq_decide];omega]at q;show q
  .cbv;rw[decide_eq_false (show ¬(0<=i/\i<=1000000000)by omega)]at q;show q
 |non=>
  rw[show oK V.non=false from rfl];cbv;show q
 |str z=>
  rw[show oK (V.str z)=false from rfl];cbv;show q
 |_=>cases a
theorem RX:∀{cs:List ξ}{xs:List V}{bs:List Bool},xs.length=cs.length->bs.length=cs.length->(∀(i:Nat)(b:Bool),bs[i]?=some b->∃c x,cs[i]?=some c/\xs[i]?=some x/\b=isVal c.2 x)->bs.all id=lW cs xs
 |[],[],[],_,_,_=>rfl
 |c::cs,x::xs,b::bs,h1,h2,h=>by
  let#[g,j,e1,a,f]:=h 0 b rfl;cases e1;cases a;rw[anZ];unfold lW;rw[RX (by simpa using h1) (by simpa using h2) λi b e=>by simpa using h (i+1) b (by simpa using e)];rw[f];rfl
 |[],_::_,_,h1,_,_=>by simp at h1
 |_::_,[],_,h1,_,_=>by simp at h1
 |[],[],_::_,_,h2,_=>by simp at h2
 |_::_,_::_,[],_,h2,_=>by simp at h2
theorem VR:∀{xs:List V},(∀(i:Nat) v,xs[i]?=some v->∃b,v=.bl b)->∃bs:List Bool,xs=bs.map V.bl
 |[],_=>#[[],rfl]
 |x::xs,h=>by
  let#[b,rfl]:=h 0 x rfl;let#[bs,rfl]:=VR (xs:=xs) λi v e=>h (i+1) v (by simpa using e)
  show#[b::bs,rfl]
theorem Cz(T:Txt K mg):Def P w K mg base true 4 "is_row" ["columns","row","values"] Qg:=by
 show Γ (S:=Pb) T.Cz (λ_ _ _ _ _ H vs Q E hr h=>?_);intro X _;let#[a,cs,v,b,xs,rfl,#[vs,F,f],W,Y,G,m,q]:=h;let n1:=T.bY;let n2:=T.QS;let Z:=T.Cq;let hsz:=ϱ;let nd:=Pb.nd;let sa:η K H a vs:=.inl (.inl F);let sb:η K H b xs:=.inl (.inl G);let gB:=f.len;let D1:= @Ej P w K mg base T;let D2:= @Hc P w K mg base T;let I:(["column","value"]:List Str).Nodup:=by fin2
 unfold vK at q;w_up;cbv;show#[v,rfl,Y,?_];cbv;show Zd (λh1=>?_) (λh1=>?_)
 .rw[h1,amV,amV]at q;cbv;show q H (ζ.refl _)
 .rw[h1,alf]at q;cbv;show dJ (λh2=>?_) (λh2=>?_)
  .let j:¬xs.length=cs.length:=λe=>h2 (by rw[gB,e])
   rw[decide_eq_false j,amV]at q;cbv;show q H (ζ.refl _)
  .let j:xs.length=cs.length:=by
    have:(xs.length:Int)=vs.length:=by injection h2
    omega
   rw[decide_eq_true j,alf]at q;show Ε ?_;f_len;show ψ ?_;f_are;f_are;show Wh ["column","value"] (σ':=[none,none]) (du (ω GZ)) Z ?_;cbv;show#[a,b,vs,xs,rfl,rfl,F,G,(),λJ=>∃L M,J=[L,M],λn i u H'=>∃c x,cs[i]?=some c/\xs[i]?=some x/\u=.bl (isVal c.2 x),#[none,none,rfl],λn i u H2 H3 ys _ _ p=>p,λfp n C s3 H0 i J x H2 H3 hE hi o s hys hG=>?_,λn H2 ys hE hl O z s=>?_]
   .let#[L,M,rfl]:=o;let#[l,y,u,rfl,hT,rfl,hy,R]:=hG;let#[c,hc,t,rfl,ht]:=f.get hy;let B :ζ H2 (upd H2 l (.tup [.ref t,u])):=ζ.upd hT;let U:(upd H2 l (.tup [.ref t,u])) l=some (.tup [.ref t,u]):=υ;generalize upd H2 l (.tup [.ref t,u])=H4 at B U⊢;show ϥ (ρ.of U) (Δ (Α I (by rfl) (.inl rfl) (.inr rfl) (Δ (Α I (by rfl) (.inl rfl) (.inr rfl) (aa ?_)))));cbv;show ϑ (ρ.of (B _ _ (s _ _ ht))) (show Ω [V.str c.1,V.str c.2] 1=some (V.str c.2)from rfl) ?_;cbv;let g:=m u (aaM R);show#[c.2,u,rfl,g.1,g.2,λH5 dN=>#[#[_,_,rfl],#[c,u,hc,R,rfl],B.trans dN]]
   .let#[bs,rfl]:=VR λi v e=>by
     let#[c,x,_,_,e]:=O i v e;show#[_,e]
    let D:bs.length=cs.length:=by rw[aav]at hl;omega
    let eb:bs.all id=lW cs xs:=RX j D λi b e=>by
     let#[c,x,e1,z,e3]:=O i (.bl b) (by rw[abD,e];rfl);show#[c,x,e1,z,by injection e3]
    cbv;show W6 (by rfl) (η.of z) ?_;rw[eb];show q _ s
def qp(cs:List ξ)(row:Int)(xs:List V):Prop:=0<=row/\row<=1000000000/\ς (λc x=>ϓ c.2 x) cs xs
theorem Av:∀c∈SG,c∈uc.cps.toList:=by fin2
theorem ϓ.is{a:Str}{v:V}(h:ϓ a v):isVal a v=true/\scalar v=true/\short v:=by
 obtain rfl|⟨h1,i,rfl,h2,e⟩|⟨h1,z,rfl,h2,e⟩:=h
 .show#[rfl,rfl,trivial]
 .show#[?_,rfl,trivial];show(if a="number" then isNum (.int i)else iB (.int i))=true;rw[if_pos h1];show decide_eq_true #[h2,e]
 .show#[?_,rfl,by show z.length<=4000;omega];show(if a="number" then isNum (.str z)else iB (.str z))=true;rw[if_neg h1];show(decide (z.length<=20)&&d7 z _)=true;rw[decide_eq_true h2,alf];show acX.mpr λc f=>decide_eq_true (Av c (e c f))
theorem Ih{cs:List ξ}{xs:List V}(h:ς (λ(c:ξ) x=>ϓ c.2 x) cs xs):lW cs xs=true/\∀x∈xs,scalar x=true/\short x:=by
 induction h with
 |nil=>show#[rfl,λx a=>by simp at a]
 |cons h _ f=>
  show#[?_,λx a=>?_]
  .show(isVal _ _&&lW _ _)=true;rw[h.is.1,f.1];rfl
  .obtain e|e:=ϲ.mp a
   .rw[e];show h.is.2
   .show f.2 x e
theorem qp.ok{cs:List ξ}{row:Int}{xs:List V}(h:qp cs row xs):vK cs (.int row) xs=true:=by
 unfold vK;rw[(Ih h.2.2).1,decide_eq_true h.2.2.len.symm];show(decide (0<=row/\row<=1000000000)&&true&&true)=true;rw[decide_eq_true #[h.1,h.2.1]];rfl
inductive oG (mg:Str->Option ε) (vs:List V) (H:Hp) (Q:VK) (E:XK):Prop
 |mk (A:BA) (B:Bk) (row:Int) (b:δ) (xs:List V):vs=[.ref A.b,.int row,.ref b]->Κ (cB mg) H A B->H b=some (.lst xs)->B.heads.length<=6->qp B.heads row xs->(∀H',ζ H H'->Q .non H')->oG mg vs H Q E
theorem RN(T:Txt K mg):FD P w K mg base true 5 "ask_row" "Book.ask_row" WW ["self","row","values"] (oG mg):=by
 show aO (N:=["self","row","values"]) (λf m n outer s H vs Q E o h=>?_);intro X _;let#[A,B,row,b,xs,rfl,a,e,p,c,q]:=h;let u:= @Cz P w K mg base T;let g:=T.ϛ;let i:=T.zE;let j:=a.ins;f_len;cbv;show ao ?_;f_are;show#[A.b,_,_,_,_,rfl,j,g,i,rfl,?_];cbv;show#[A.h,B.heads,.int row,b,xs,rfl,a.heads,(),rfl,e,(Ih c.2.2).2,λH' l=>?_];rw[c.ok];cbv;show q H' l
inductive km (mg:Str->Option ε) (vs:List V) (H:Hp) (Q:VK) (E:XK):Prop
 |mk (A:BA) (B:Bk) (row:Int):vs=[.ref A.b,.int row]->Κ (cB mg) H A B->0<=row->row<=1000000000->(Μ B.rows row=none->False)->(Μ B.rows row≠none->Q .non H)->km mg vs H Q E
theorem Ay(T:Txt K mg):FD P w K mg base true 3 "ask_there" "Book.ask_there" RM ["self","row"] (km mg):=by
 show aO (N:=["self","row"]) (λf p v outer s H vs Q E g h=>?_);intro X _;let#[A,B,row,rfl,e,y,z,a,q]:=h;let i:=T.ϛ;let j:=T.rK;let l:=e.ins;let m:_+1<cLine:=afZ (aiv (by decide:1<=64) _) g.units;let#[Ϸ,n,o]:=e.rows;f_len;cbv;show ao ?_;f_are;show#[A.b,_,_,_,_,rfl,l,i,j,rfl,?_];show Og m (az.k (k:=Sum.inl row) n) ?_;obtain⟨e1,c⟩|⟨u,x,e1,c,_⟩:=jU o row
 .rw[show(aj Ϸ (Sum.inl row)).isSome=false by rw[e1];rfl,Bool.not_false];show(a c).elim
 .rw[show(aj Ϸ (Sum.inl row)).isSome=true by rw[e1];rfl,Bool.not_true];cbv;show q (by rw[c];simp)
inductive uG (mg:Str->Option ε) (vs:List V) (H:Hp) (Q:VK) (E:XK):Prop
 |mk (A:BA) (B:Bk) (row:Int) (b:δ) (xs:List V):vs=[.ref A.b,.int row,.ref b]->Κ (cB mg) H A B->H b=some (.lst xs)->B.heads.length<=6->qp B.heads row xs->tU B->(Μ B.rows row≠none->False)->(Μ B.rows row=none->∀H',Out A.fp H H'->Κ (cB mg) H' A (dF B row (some xs))->Q (.int (B.now+1)) H')->uG mg vs H Q E
theorem Ve{X:Cx}{H:Hp}{Q:VK}{p:δ}{ys:List V}(h:η X.K H p ys)(g:∀l,H l=none->Q (.ref l) (upd H l (.tup ys))):CL X (.type "tuple") [.ref p] H Q:=dB aec #[p,ys,rfl,.inl #[h,g]]
theorem ace(T:Txt K mg):FD P w K mg base true 6 "put" "Book.put" Ja ["self","row","values"] (uG mg):=by
 show aO (N:=["self","row","values"]) (λf O R outer s H vs Q E a h=>?_);intro X _;let#[A,B,row,b,xs,rfl,c,o,y,z,g,i,q]:=h;let M1:ϙ P w K mg base true 5 (cB mg) "ask_row" ["self","row","values"] (oG mg):=(RN T).meth T.ϛ T.Je;let M2:ϙ P w K mg base true 1 (cB mg) "do" ["self","row","values"] (jO mg):=(Ff T).meth T.ϛ T.Aq;let C:=T.ϛ;let n1:=T.Su;let D:=T.rK;let F:_+1<cLine:=afZ (aiv (by decide:1<=64) _) a.units;w_up;show aV ?_;show cz (pl:=_) a ϋ (h:=?_);f_are;show#[A.b,cB mg,A.dx,_,true,5,_,oG mg,rfl,c.ins,by rfl,M1,by decide,id,?_];cbv;show#[A,B,row,b,xs,rfl,c,o,y,z,λH1 j=>?_];let k1:=c.same j;let p:=k1.ins;let l:=j _ _ o;let#[Ϸ,G,I]:=k1.rows;w_up;cbv;show ao ?_;f_are;show#[A.b,_,_,_,_,rfl,p,C,D,rfl,?_];show aeX F (az.k (k:=Sum.inl row) G) ?_;obtain⟨e1,m⟩|⟨u,x,e1,m,_⟩:=jU I row
 .rw[show(aj Ϸ (Sum.inl row)).isSome=false by rw[e1];rfl];cbv;show cz (pl:=_) a ϋ (h:=?_);f_are;show#[A.b,cB mg,A.dx,_,true,1,_,jO mg,rfl,p,by rfl,M2,by decide,id,?_];cbv;show Ve (η.of l) λt J=>?_
  let#[n,v]:=ϒ J (.tup xs);generalize upd H1 t (.tup xs)=H2 at n v⊢;cbv;show#[A,B,row,.ref t,some xs,rfl,k1.same n,#[t,rfl,v],(λe=>by cases e),g,λL M k3=>?_];show q m L ((Out.of (j.trans n)).trans M) k3
 .rw[show(aj Ϸ (Sum.inl row)).isSome=true by rw[e1];rfl];show(i (by rw[m];simp)).elim
inductive vL (mg:Str->Option ε) (vs:List V) (H:Hp) (Q:VK) (E:XK):Prop
 |mk (A:BA) (B:Bk) (row:Int) (b:δ) (xs:List V):vs=[.ref A.b,.int row,.ref b]->Κ (cB mg) H A B->H b=some (.lst xs)->B.heads.length<=6->qp B.heads row xs->tU B->(Μ B.rows row=none->False)->(Μ B.rows row≠none->∀H',Out A.fp H H'->Κ (cB mg) H' A (dF B row (some xs))->Q (.int (B.now+1)) H')->vL mg vs H Q E
theorem af8(T:Txt K mg):FD P w K mg base true 6 "change" "Book.change" Py ["self","row","values"] (vL mg):=by
 show aO (N:=["self","row","values"]) (λf F G outer s H vs Q E a h=>?_);intro X _;let#[A,B,row,b,xs,rfl,c,p,x,g,i,j,q]:=h;let M1:ϙ P w K mg base true 5 (cB mg) "ask_row" ["self","row","values"] (oG mg):=(RN T).meth T.ϛ T.Je;let M2:ϙ P w K mg base true 1 (cB mg) "do" ["self","row","values"] (jO mg):=(Ff T).meth T.ϛ T.Aq;let y:ϙ P w K mg base true 3 (cB mg) "ask_there" ["self","row"] (km mg):=(Ay T).meth T.ϛ T.Cu;let I:=T.ϛ;let n1:=T.Su;w_up;show aV ?_;show cz (pl:=_) a ϋ (h:=?_);f_are;show#[A.b,cB mg,A.dx,_,true,5,_,oG mg,rfl,c.ins,by rfl,M1,by decide,id,?_];cbv;show#[A,B,row,b,xs,rfl,c,p,x,g,λH1 l=>?_];let k1:=c.same l;let u:=k1.ins;let m:=l _ _ p;w_up;show aV ?_;show cz (pl:=_) a ϋ (h:=?_);f_are;show#[A.b,cB mg,A.dx,_,true,3,_,km mg,rfl,u,by rfl,y,by decide,id,?_];cbv;show#[A,B,row,rfl,k1,g.1,g.2.1,λn=>j n,λn=>?_];f_len;show ψ ?_;show cz (pl:=_) a ϋ (h:=?_);f_are;show#[A.b,cB mg,A.dx,_,true,1,_,jO mg,rfl,u,by rfl,M2,by decide,id,?_];cbv;show Ve (η.of m) λt z=>?_
 let#[o,v]:=ϒ z (.tup xs);generalize upd H1 t (.tup xs)=H2 at o v⊢;cbv;show#[A,B,row,.ref t,some xs,rfl,k1.same o,#[t,rfl,v],(λe=>by cases e),i,λC D k3=>?_];show q n C ((Out.of (l.trans o)).trans D) k3
inductive wB (mg:Str->Option ε) (vs:List V) (H:Hp) (Q:VK) (E:XK):Prop
 |mk (A:BA) (B:Bk) (row:Int):vs=[.ref A.b,.int row]->Κ (cB mg) H A B->0<=row->row<=1000000000->tU B->nu B->(Μ B.rows row=none->False)->(Μ B.rows row≠none->∀H',Out A.fp H H'->Κ (cB mg) H' A (dF B row none)->Q (.int (B.now+1)) H')->wB mg vs H Q E
theorem afx(T:Txt K mg):FD P w K mg base true 4 "take" "Book.take" Nb ["self","row"] (wB mg):=by
 show aO (N:=["self","row"]) (λf o p outer s H vs Q E j h=>?_);intro X _;let#[A,B,row,rfl,a,l,m,c,e,g,q]:=h;let M2:ϙ P w K mg base true 1 (cB mg) "do" ["self","row","values"] (jO mg):=(Ff T).meth T.ϛ T.Aq;let n:ϙ P w K mg base true 3 (cB mg) "ask_there" ["self","row"] (km mg):=(Ay T).meth T.ϛ T.Cu;w_up;show aV ?_;show cz (pl:=_) j ϋ (h:=?_);f_are;show#[A.b,cB mg,A.dx,_,true,3,_,km mg,rfl,a.ins,by rfl,n,by decide,id,?_];cbv;show#[A,B,row,rfl,a,l,m,g,λi=>?_];f_len;show ψ ?_;show cz (pl:=_) j ϋ (h:=?_);f_are;show#[A.b,cB mg,A.dx,_,true,1,_,jO mg,rfl,a.ins,by rfl,M2,by decide,id,?_];cbv;show#[A,B,row,.non,none,rfl,a,rfl,λ_=>#[i,λz=>i ((e row).mpr z)],c,q i]
inductive dj (mg:Str->Option ε) (g:Bk->Int) (vs:List V) (H:Hp) (Q:VK) (E:XK):Prop
 |mk (A:BA) (B:Bk):vs=[.ref A.b]->Κ (cB mg) H A B->Q (.int (g B)) H->dj mg g vs H Q E
theorem oR(T:Txt K mg):FD P w K mg base true 1 "moment" "Book.moment" Q5 ["self"] (dj mg Bk.now):=by
 show aO (N:=["self"]) (λf e g outer s H vs Q E i h=>?_);intro X _;let#[A,B,rfl,a,q]:=h;let c:=T.ϛ;f_len;show ψ (ao ?_);f_are;show#[A.b,_,_,_,_,rfl,a.ins,c,T.uJ,rfl,q]
inductive iU (mg:Str->Option ε) (vs:List V) (H:Hp) (Q:VK) (E:XK):Prop
 |mk (A:BA) (B:Bk):vs=[.ref A.b]->Κ (cB mg) H A B->(∀p H',ζ H H'->H p=none->ϟ H' p B.heads->Q (.ref p) H')->iU mg vs H Q E
theorem vY(T:Txt K mg):FD P w K mg base true 1 "columns" "Book.columns" Q7 ["self"] (iU mg):=by
 show aO (N:=["self"]) (λf n u outer s H vs Q E x h=>?_);intro X _;let#[A,B,rfl,a,q]:=h;let j:=T.ϛ;let n1:=T.jW;let#[vs,l,m]:=a.heads;f_len;show ψ ?_;cbv;show ao ?_;f_are;show#[A.b,_,_,_,_,rfl,a.ins,j,T.zE,rfl,?_];cbv;show jr (.inl (η.of l)) λp g=>?_
 let i:=ζ.upd (H:=H) (o:=.lst vs) g;show q p _ i g #[vs,υ,ς.imp (λv c ⟨t,e,h⟩=>#[t,e,i _ _ h]) m]
inductive xP (mg:Str->Option ε) (vs:List V) (H:Hp) (Q:VK) (E:XK):Prop
 |mk (A:BA) (B:Bk) (row:Int):vs=[.ref A.b,.int row]->Κ (cB mg) H A B->0<=row->row<=1000000000->nu B->(Μ B.rows row=none->False)->(∀i,Μ B.touched row=some i->Q (.int i) H)->xP mg vs H Q E
theorem ZV(T:Txt K mg):FD P w K mg base true 4 "since" "Book.since" Kh ["self","row"] (xP mg):=by
 show aO (N:=["self","row"]) (λf D F outer s H vs Q E j h=>?_);intro X _;let#[A,B,row,rfl,a,l,m,c,e,q]:=h;let n:ϙ P w K mg base true 3 (cB mg) "ask_there" ["self","row"] (km mg):=(Ay T).meth T.ϛ T.Cu;let o:=T.ϛ;let p:_+1<cLine:=afZ (aiv (by decide:1<=64) _) j.units;let#[Ϸ,v,y]:=a.touched;w_up;show aV ?_;show cz (pl:=_) j ϋ (h:=?_);f_are;show#[A.b,cB mg,A.dx,_,true,3,_,km mg,rfl,a.ins,by rfl,n,by decide,id,?_];cbv;show#[A,B,row,rfl,a,l,m,e,λz=>?_];obtain⟨e1,g⟩|⟨u,x,e1,g,C⟩:=jU y row
 .show absurd ((c row).mpr g) z
 let i:u=.int x:=C;subst i;f_len;show ψ ?_;show afg p (by intro _ _;rfl) ?_;show ao ?_;f_are;show#[A.b,_,_,_,_,rfl,a.ins,o,T.zY,rfl,?_];f_are;show#[A.t,.int x,rfl,?_,q x g];have:=az.k (k:=Sum.inl row) v;rw[e1]at this;show this
theorem abq{cs:List ξ}(h:ώ cs=true):1<=cs.length/\cs.length<=6:=by
 unfold ώ at h;rw[aa2,aa2,decide_eq_true_eq]at h;show h.1.1
theorem afo{cs:List ξ}(h:ώ cs=true):Gs cs:=by
 unfold ώ p8 at h;rw[aa2,aa2,acX]at h;intro c a;let h1:=h.1.2 c a;rw[aa2,decide_eq_true_eq]at h1;let#[h2,f]:=h1;unfold isName at h2;rw[aa2,decide_eq_true_eq]at h2;show#[(),?_];obtain e|e:=f<;>rw[e]
 .show(by fin2:("number":Str).length<=4000)
 .show(by fin2:("text":Str).length<=4000)
inductive Rf (mg:Str->Option ε) (vs:List V) (H:Hp) (Q:VK) (E:XK):Prop
 |mk (y dx a:δ) (cs:List ξ):vs=[.ref y,.ref a]->H y=some (.ins (cB mg) dx [])->H dx=some (.own y)->ϟ H a cs->ώ cs=true->(∀(H':Hp)(A:BA),A.b=y->A.dx=dx->H A.h=none->H A.r=none->H A.t=none->H A.d=none->Out [y] H H'->Κ (cB mg) H' A #[cs,[],[],[],0,0]->Q .non H')->Rf mg vs H Q E
theorem Yy(T:Txt K mg):FD P w K mg base true 4 "__init__" "Book.__init__" Ou ["self","columns"] (Rf mg):=by
 show aO (N:=["self","columns"]) (λf Ϻ A' outer s H vs Q E hr h=>?_);intro X _;let#[y,dx,a,cs,rfl,m,i,hC,hok,q]:=h;let D1:= @Gk P w K mg base T;let l:=T.ϛ;let n1:=T.jW;let hsz:=ϱ;w_up;cbv;show#[a,cs,rfl,hC,by have:=abq hok;omega,afo hok,λH1 B =>?_];rw[if_pos hok];let#[vs,ha,J]:=hC;let hy1:=B _ _ m;let Q8:dx≠y:=λe=>by rw[e,m]at i;cases i
 w_up;show dM ?_;cbv;show jr (.inl (η.of (B _ _ ha))) λh hh=>?_
 let L:ζ H (upd H1 h (.lst vs)):=B.trans (ζ.upd hh);let eh:(upd H1 h (.lst vs)) h=some (.lst vs):=υ;let M:H h=none:=B.free hh;generalize upd H1 h (.lst vs)=H2 at L eh⊢;f_are;show#[y,_,dx,_,rfl,L _ _ m,l,T.zE,by show 0<1000;decide,?_];let n:h≠y:=λe=>by rw[e,m]at M;cases M
 let o3:Out [y] H (upd H2 y (.ins (cB mg) dx [("heads",.ref h)])):=(Out.of L).trans (Out.upd (by simp));let V6:(upd H2 y (.ins (cB mg) dx [("heads",.ref h)])) h=some (.lst vs):=by rw[ο n];show eh
 let O:(upd H2 y (.ins (cB mg) dx [("heads",.ref h)])) y=some (.ins (cB mg) dx [("heads",.ref h)]):=υ;change Ο _ _ _ _ (upd H2 y (.ins (cB mg) dx [("heads",.ref h)]));generalize upd H2 y (.ins (cB mg) dx [("heads",.ref h)])=C at o3 V6 O⊢;let step:∀(H':Hp)(p:δ)(o o1:HO),H' y=some o1->Out [y] H H'->H' p=none->(H p=none/\p≠y/\∀fs,Out [y] H (upd (upd H' p o) y fs)/\(upd (upd H' p o) y fs) y=some fs/\(upd (upd H' p o) y fs) p=some o/\∀b u,b≠y->H' b=some u->b≠p/\(upd (upd H' p o) y fs) b=some u):=by
  intro H' p o o1 ey ho D;let j:p≠y:=λe=>by rw[e,ey]at D;cases D
  let keep:∀fs b u,b≠y->H' b=some u->b≠p/\(upd (upd H' p o) y fs) b=some u:=λfs b u g e=>by
   let Vg:b≠p:=λz=>by rw[z,D]at e;cases e
   show#[Vg,?_];rw[ο g,ο Vg];show e
  show#[?_,j,λfs=>#[λb u g e=>?_,υ,by rw[ο j];show υ,keep fs]]
  .cases e1:H p with
   |none=>rfl
   |some u=>
    have:=ho p u (by simpa using j) e1;rw[D]at this;cases this
  .show(keep fs b u (by simpa using g) (ho b u g e)).2
 w_up;show dM ?_;show Eh λr R=>?_
 f_are;let#[rn,ry,x]:=step C r (.dK []) _ O o3 R;let S:(upd C r (.dK [])) y=some (.ins (cB mg) dx [("heads",.ref h)]):=by rw[ο (Ne.symm ry)];show O
 show#[y,_,dx,_,rfl,S,l,T.rK,by show 1<1000;decide,?_];let#[o4,U,Ma,k4]:=x (.ins (cB mg) dx [("heads",.ref h),("rows",.ref r)]);change Ο _ _ _ _ (upd (upd C r (.dK [])) y (.ins (cB mg) dx [("heads",.ref h),("rows",.ref r)]));let NZ:=(k4 _ _ n V6).2;generalize upd (upd C r (.dK [])) y (.ins (cB mg) dx [("heads",.ref h),("rows",.ref r)])=F at o4 U Ma NZ⊢;w_up;show dM ?_;show Eh λt W=>?_
 f_are;let#[tn,ty,x]:=step F t (.dK []) _ U o4 W;let Z7:(upd F t (.dK [])) y=some (.ins (cB mg) dx [("heads",.ref h),("rows",.ref r)]):=by rw[ο (Ne.symm ty)];show U
 show#[y,_,dx,_,rfl,Z7,l,T.zY,by show 2<1000;decide,?_];let#[o5,Y,Tj,k5]:=x (.ins (cB mg) dx [("heads",.ref h),("rows",.ref r),("touched",.ref t)]);change Ο _ _ _ _ (upd (upd F t (.dK [])) y (.ins (cB mg) dx [("heads",.ref h),("rows",.ref r),("touched",.ref t)]));let Vp:=(k5 _ _ n NZ).2;let#[rt,Qy]:=k5 _ _ ry Ma;generalize upd (upd F t (.dK [])) y (.ins (cB mg) dx [("heads",.ref h),("rows",.ref r),("touched",.ref t)])=G at o5 Y Tj Qy Vp⊢;w_up;show dM ?_;cbv;show#[Ζ,λd Z=>?_];f_are;let#[dn,dy,x]:=step G d (.lst []) _ Y o5 Z;let ab:(upd G d (.lst [])) y=some (.ins (cB mg) dx [("heads",.ref h),("rows",.ref r),("touched",.ref t)]):=by rw[ο (Ne.symm dy)];show Y
 show#[y,_,dx,_,rfl,ab,l,T.uH,by show 3<1000;decide,?_];let#[I,Hy,Ti,k6]:=x (.ins (cB mg) dx [("heads",.ref h),("rows",.ref r),("touched",.ref t),("done",.ref d)]);change Ο _ _ _ _ (upd (upd G d (.lst [])) y (.ins (cB mg) dx [("heads",.ref h),("rows",.ref r),("touched",.ref t),("done",.ref d)]));let#[ac,Qx]:=k6 _ _ n Vp;let#[_,NQ]:=k6 _ _ ry Qy;let#[_,Rw]:=k6 _ _ ty Tj;generalize upd (upd G d (.lst [])) y (.ins (cB mg) dx [("heads",.ref h),("rows",.ref r),("touched",.ref t),("done",.ref d)])=H6 at I Hy Ti Rw NQ Qx⊢;w_up;show dM ?_;f_are;f_are;show#[y,_,dx,_,rfl,Hy,l,T.Dc,by show 4<1000;decide,?_];f_len;show dM ?_;f_are;f_are;show#[y,_,dx,_,rfl,υ,l,T.uJ,by show 5<1000;decide,?_];let fin:∀b u,b≠y->H6 b=some u->(upd (upd H6 y (.ins (cB mg) dx [("heads",.ref h),("rows",.ref r),("touched",.ref t),("done",.ref d),("known",.int 0)])) y (.ins (cB mg) dx [("heads",.ref h),("rows",.ref r),("touched",.ref t),("done",.ref d),("known",.int 0),("now",.int 0)])) b=some u:=λb u g e=>by
  rw[ο g,ο g];show e
 let Ro:∀t' ys,H t'=some (.tup ys)->t'≠y:=λt' ys e z=>by rw[z,m]at e;cases e
 show q (upd (upd H6 y (.ins (cB mg) dx [("heads",.ref h),("rows",.ref r),("touched",.ref t),("done",.ref d),("known",.int 0)])) y (.ins (cB mg) dx [("heads",.ref h),("rows",.ref r),("touched",.ref t),("done",.ref d),("known",.int 0),("now",.int 0)])) #[y,dx,h,r,t,d] rfl rfl M rn tn dn (λb u g e=>fin b u (by simpa using g) (I b u g e)) ?_;show#[υ,fin _ _ Q8 (I _ _ (by simpa using Q8) i),#[vs,fin _ _ n Qx,ς.imp (λv c ⟨u,e,hu⟩=>#[u,e,fin _ _ (Ro _ _ hu) (I _ _ (by simpa using Ro _ _ hu) hu)]) J],#[[],fin _ _ ry NQ,.nil],#[[],fin _ _ ty Rw,.nil],#[[],fin _ _ dy Ti,.nil],rt,ac]
def Fo(a H:Hp)(v:V)(p:Int×List V):=∃t l,v=.ref t/\H t=some (.tup [.int p.1,.ref l])/\H l=some (.lst p.2)/\a l=none/\a t=none
def bW(rows:List (Int×List V))(ks:List Int):List (Int×List V):=ks.map λk=>(k,(Μ rows k).getD [])
inductive Ke (C:Unit) (vs:List V) (H:Hp) (Q:VK) (E:XK):Prop
 |mk (a:δ) (rows:List (Int×List V)):vs=[.ref a]->DictAt (TupAt H) H a rows->rows.length<64->(∀p ys ks H',ζ H H'->H p=none->ks.Perm (rows.map (·.1))->ks.Pairwise (· <= ·)->H' p=some (.lst ys)->ς (Fo H H') ys (bW rows ks)->Q (.ref p) H')->Ke C vs H Q E
theorem Et(T:Txt K mg):Def P w K mg base true 1 "told_rows" ["rows"] (Ke PUnit.unit):=by
 show Γ (N:=["rows"]) T.Et (λ_ _ _ _ _ H vs Q E hr h=>?_);intro X _;let#[a,rows,rfl,#[Ϸ,ea,hR],hl,q]:=h;let n1:=T.tD;let n2:=T.jW;let hsz:=ϱ;let hu:_+1<cLine:=afZ (aiv (by decide:1<=64) _) hr.units;let D:(["row","rows"]:List Str).Nodup:=by fin2
 f_len;show ψ ?_;show nW ["row","rows"] (σ':=[none,some (.ref a)]) (du (ω VD)) ?_;walk_at"cb";cbv;show Aj (ks:=rows.map (·.1)) ea (En hR) (by rw[aav];show hl) λL ks hL F hs=>?_
 let#[n,eL]:=ϒ hL (.lst (ks.map V.int));generalize upd H L (.lst (ks.map V.int))=H1 at n eL⊢;let hkl:ks.length=rows.length:=by rw[F.length_eq,aav]
 let f:(ks.map V.int).length=ks.length:=aav ..;show#[L,_,rfl,η.of eL,(),λτ=>∃o1,τ=[o1,some (.ref a)],λo i u H'=>∃k t l,ks[i]?=some k/\u=.ref t/\t≠o/\l≠o/\H' t=some (.tup [.int k,.ref l])/\H' l=some (.lst ((Μ rows k).getD []))/\H l=none/\H t=none,#[none,rfl],λo i u H2 H3 ys y1 y2 y3=>?_,λfp o C s3 H0 i τ x H4 H3 bj hi G Φ I hG=>?_,λL2 H2 ys J g M e2 Λ =>?_]
 .let#[k,t,l,O,S,U,W,Y,Z,z7,z8]:=y3;show#[k,t,l,O,S,U,W,y2 _ _ U Y,y2 _ _ W Z,z7,z8]
 .let#[o1,rfl]:=G;let#[hx,rfl]:=hG;let IV:i<ks.length:=by rw[f]at hi;show hi
  let hk:ks[i]?=some ks[i]:=aah IV;rw[abD,hk]at hx;let ab:x=.int ks[i]:=by simpa using hx.symm
  subst ab;let j:ks[i]∈rows.map (·.1):=F.mem_iff.mp (agJ IV);let s:=n.trans Φ;let ac:=s _ _ ea;show Α D (by rfl) (.inl rfl) (.inr rfl) ?_;cbv;rcases jU hR ks[i]with⟨_,e3⟩|⟨u,xs,e1,e3,t0,rfl,ae⟩
  .show absurd j (Em.mp e3)
  let g4:=az.k (k:=Sum.inl ks[i]) ac;rw[e1]at g4;show xV hu g4 ?_;cbv;show jr (.inr (ρ.of (s _ _ ae))) λl y=>?_
  let#[z,el]:=ϒ y (.lst xs);generalize upd H4 l (.lst xs)=H5 at z el⊢;cbv;show#[Ζ,λt B=>?_];let au:ζ H5 (upd H5 t (.tup [.int ks[i],.ref l])):=ζ.upd B;let#[ys0,hE]:=I;show#[#[_,rfl],#[ks[i],t,l,hk,rfl,λe=>?_,λe=>?_,υ,?_,s.free y,(s.trans z).free B],z.trans au]
  .rw[e,z _ _ hE]at B;cases B
  .rw[e,hE]at y;cases y
  .rw[e3];show au _ _ el
 .show q L2 ys ks H2 (n.trans Λ) (n.free J) F hs e2 (pX (R:=λv p=>Fo H H2 v p) (l:=ys) (m:=bW rows ks) (by unfold bW;rw[aav,g,f]) λi p c=>?_);unfold bW at c;rw[abD]at c;let hi:i<ys.length:=by
   rw[g,f];cases e:ks[i]? with
   |none=>rw[e]at c;cases c
   |some k=>show(aai.mp e).1
  let hy:ys[i]?=some ys[i]:=aah hi;let#[k,t,l,O,S,U,W,Y,Z,z7,z8]:=M i _ hy;rw[O]at c;let af:p=(k,(Μ rows k).getD []):=by simpa using c.symm
  rw[af];show#[_,hy,t,l,S,Y,Z,z7,z8]
inductive wL (mg:Str->Option ε) (vs:List V) (H:Hp) (Q:VK) (E:XK):Prop
 |mk (A:BA) (B:Bk):vs=[.ref A.b]->Κ (cB mg) H A B->B.rows.length<64->(∀p ys ks H',ζ H H'->H p=none->ks.Perm (B.rows.map (·.1))->ks.Pairwise (· <= ·)->H' p=some (.lst ys)->ς (Fo H H') ys (bW B.rows ks)->Q (.ref p) H')->wL mg vs H Q E
theorem aan(T:Txt K mg):FD P w K mg base true 2 "now_rows" "Book.now_rows" MN ["self"] (wL mg):=by
 show aO (N:=["self"]) (λf e g outer s H vs Q E i h=>?_);intro X _;let#[A,B,rfl,a,c,q]:=h;let j:= @Et P w K mg base T;f_len;show ψ ?_;cbv;show ao ?_;f_are;show#[A.b,_,_,_,_,rfl,a.ins,T.ϛ,T.rK,rfl,?_];cbv;show#[A.r,B.rows,rfl,a.rows,c,q]
theorem _root_._V.ς.yO{α β:Type}{R:α->β->Prop}:∀{l:List α}{m:List β},ς R l m->∀b∈m,∃a,a∈l/\R a b
 |_,_,.nil,b,c=>by simp at c
 |_,_,.cons (a:=a) r t,b,c=>by
  obtain e|e:=ϲ.mp c
  .subst e;show#[a,by simp,r]
  .let#[f,h1,h2]:=t.yO b e;show#[f,by simp[h1],h2]
theorem ϓ.word{g:Str}{v:V}(h:ϓ g v)(q:g="number"\/g="text"):dI g (wordOf v)=some v/\(wordOf v).length<=21/\32∉(wordOf v).cps.toList/\¬wordOf v=Ϫ "*"/\(∀c∈(wordOf v).cps.toList,c<1114112):=by
 obtain rfl|⟨l,i,rfl,h1,h2⟩|⟨l,z,rfl,s,o⟩:=h
 .show#[?_,by fin2,by fin2,by fin2,by fin2];unfold dI;rw[if_pos (show wordOf .non=Ϫ "?" from rfl)]
 .subst l;let m:=yx i;show#[ai2 h1 h2,?_,λh=>?_,λh=>?_,λc f=>?_]
  .have :=wg (i:=i) (k:=19) ();show(Ϫ (toString i)).length<=21;omega
  .have :=m 32 h;omega
  .let h':Ϫ (toString i)=Ϫ "*":=h;let e:("*":Str).cps.toList=[42]:=by fin2
   have:=m 42 (by rw[h',e];simp);omega
  .have :=m c f;omega
 .let n:g="text":=q.resolve_left l;subst n;let e1:("'":Str).length=1:=by fin2
  let u:=len_app ("'":Str) z;let j:∀c∈SG,¬c=32/\c<1114112:=by fin2
  let a:∀c∈(Ϫ "'"++z).cps.toList,c=39\/c∈SG:=λc f=>by
   rw[aK,wF]at f;obtain h|h:=adU.mp f
   .show .inl (by simpa using h)
   .show .inr (o c h)
  show#[afr s o,by show(Ϫ "'"++z).length<=21;omega,λh=>?_,λh=>?_,λc f=>?_]
  .obtain e|e:=a 32 h
   .omega
   .show(j 32 e).1 rfl
  .let h':Ϫ "'"++z=Ϫ "*":=h;let e:("*":Str).cps.toList=[42]:=by fin2
   let p:(Ϫ "'"++z).cps.toList[0]?=some 39:=by rw[aK,wF];rfl
   rw[h',e]at p;simp at p
  .obtain e|e:=a c f
   .omega
   .show(j c e).2
def plainS(z:Str):=∀c∈z.cps.toList,32<=c/\c<=122/\c≠46/\c≠47
theorem plainS.app{a b:Str}(h:plainS a)(g:plainS b):plainS (a++b):=λc hc=>by
 rw[aK]at hc;obtain hc|hc:=adU.mp hc
 .show h c hc
 .show g c hc
theorem plainS.join:∀{ps:List Str},(∀p∈ps,plainS p)->plainS (aeM " " ps)
 |[],_=>by
  intro c a;have:c∈([]:List Nat):=a;simp at this
 |[p],h=>h p (by simp)
 |p::q::r,h=>by
  let e:plainS (" ":Str):=by unfold plainS;fin2
  show((h p (by simp)).app e).app (plainS.join λx f=>h x (by simp[f]))
theorem aac:∀c∈SG,32<=c/\c<=122/\c≠46/\c≠47:=by fin2
theorem Bf(i:Int):plainS (Ϫ (toString i)):=λc a=>by
 have:=yx i c a;omega
theorem ϓ.plain{e:Str}{v:V}(h:ϓ e v):plainS (wordOf v):=by
 obtain rfl|⟨f,i,rfl,h1,h2⟩|⟨f,z,rfl,l,g⟩:=h
 .unfold plainS;fin2
 .show Bf i
 .show plainS.app (a:=Ϫ "'") ?_ λc j=>aac c (g c j)
  unfold plainS;fin2
theorem By{z:Str}(h:isName z=true):plainS z:=by
 unfold isName at h;rw[aa2]at h;intro c e;let h2:=h.2;unfold d7 at h2;rw[acX]at h2;let f:=of_decide_eq_true (h2 c e);let a:∀c∈KZ.cps.toList,32<=c/\c<=122/\c≠46/\c≠47:=by fin2
 show a c f
theorem jX:∀ps:List Str,(aeM " " ps).length<=(ps.map (·.length)).sum+ps.length
 |[]=>by show(0:Nat)<=_;omega
 |[p]=>by
  show p.length<=_;simp
 |p::q::r=>by
  let a:=jX (q::r);let c:(" ":Str).length=1:=by fin2
  show(p++Ϫ " "++aeM " " (q::r)).length<=_;rw[len_app,len_app,c];simp only[ad4,anf,acV]at a⊢;omega
theorem mD(ps:List Str)(n:Nat)(h:∀p∈ps,p.length<=n):(ps.map (·.length)).sum<=ps.length*n:=by
 induction ps with
 |nil=>simp
 |cons p ps a=>
  let h1:=a λx c=>h x (by simp[c])
  let h2:=h p (by simp);simp only[ad4,anf,acV,Nat.succ_mul];omega
theorem rN{z:Str}(h:isName z=true):z.length<=8:=by
 unfold isName at h;rw[aa2]at h;show(of_decide_eq_true h.1).2
theorem mC{cs:List ξ}(a:ώ cs=true){z:Str}(g:z∈cs.map Prod.fst):isName z=true:=by
 let#[c,f,e]:=adw.mp g;unfold ώ at a;simp only[aa2,acX]at a;rw[<-e];show(a.1.2 c f).1
def gG(nm:Nat->Str):dq->List Str
 |.all=>["all"]
 |.none p=>["none",nm p]
 |.look l p v=>[mq l,nm p,wordOf v]
def wT(nm:Nat->Str):Tr->List Str
 |.one s=>gG nm s
 |.nt t=>"not"::wT nm t
 |.ei t u=>"either"::(wT nm t++wT nm u)
def Ν(cs:List ξ)(p:Nat):Str:=match cs[p]? with
 |some c=>c.1
 |none=>Ϫ ""
def yo(cs:List ξ):dq->Prop
 |.all=>True
 |.none p=>p<cs.length
 |.look l p v=>∃c,cs[p]?=some c/\ϓ c.2 v/\v≠.non/\(l=.holds->c.2="text")
def gU(cs:List ξ):Tr->Prop
 |.one s=>yo cs s
 |.nt t=>gU cs t
 |.ei t u=>gU cs t/\gU cs u
def AtW(nm:Nat->Str)(ws:List Str)(t:Tr)(s:Nat):=∃a,ws.drop s=wT nm t++a
theorem drop_cons{α:Type}{ws r:List α}{s:Nat}{x:α}(h:ws.drop s=x::r):ws[s]?=some x/\ws.drop (s+1)=r:=by
 let hs:s<ws.length:=by
  let h2:(ws.drop s).length=(x::r).length:=by rw[h]
  rw[aeB,acV]at h2;omega
 rw[afE hs]at h;injection h with h1 h2
 show#[by rw[aah hs,h1],h2]
theorem acj{α:Type}{ws a r:List α}{s:Nat}(h:ws.drop s=a++r):ws.drop (s+a.length)=r:=by
 rw[<-aov,h];simp
theorem Kg{α:Type}{ws a r:List α}{s:Nat}(h:ws.drop s=a++r)(c:a≠[]):s+a.length<=ws.length:=by
 let h2:(ws.drop s).length=(a++r).length:=by rw[h]
 rw[aeB,abK]at h2;have:0<a.length:=aoA.mpr c;omega
theorem vM(nm:Nat->Str)(s:dq):gG nm s≠[]:=by cases s<;>simp[gG]
theorem Tz(nm:Nat->Str)(t:Tr):wT nm t≠[]:=by
 cases t with
 |one s=>show vM nm s
 |nt t=>simp[wT]
 |ei t u=>simp[wT]
theorem Ld:∀{cs:List ξ}{p:Nat}{c:ξ},(cs.map Prod.fst).Nodup->cs[p]?=some c->ϊ cs c.1=p
 |d::r,0,c,f,e=>by
  have:d=c:=by simpa using e
  subst this;show(if d.1=d.1 then 0 else ϊ r d.1+1)=0;rw[if_pos rfl]
 |d::r,p+1,c,f,e=>by
  let g:r[p]?=some c:=by simpa using e
  let a:=aml.mp f;let i:¬d.1=c.1:=λz=>a.1 (by rw[z];show adw.mpr #[c,aaM g,rfl])
  show(if d.1=c.1 then 0 else ϊ r c.1+1)=p+1;rw[if_neg i,Ld a.2 g]
theorem ux{cs:List ξ}{p:Nat}{c:ξ}(e:cs[p]?=some c):Ν cs p=c.1:=by
 unfold Ν;rw[e]
theorem N6{cs:List ξ}(f:(cs.map Prod.fst).Nodup){ws:List Str}{p s:Nat}{c:ξ}(a:cs[p]?=some c)(hs:s<60)(e:ws[s]?=some c.1):eY cs ws s=some p:=by
 unfold eY;rw[if_pos hs,e];show(if cs.any (λd=>decide (d.1=c.1))=true then some (ϊ cs c.1)else none)=some p;rw[if_pos (by rw[aly];show#[c,aaM a,decide_eq_true rfl]),Ld f a]
theorem Xp{cs:List ξ}(hok:ώ cs=true){ws a:List Str}{s:Nat}:∀{f:dq},ws.drop s=gG (Ν cs) f++a->s+(gG (Ν cs) f).length<=60->yo cs f->pH cs ws s f (s+(gG (Ν cs) f).length)
 |.all,e,i,_=>#[(drop_cons (r:=a) e).1,rfl]
 |.none p,e,i,m=>by
   let n:(cs.map Prod.fst).Nodup:=by
    unfold ώ at hok;simp only[aa2,decide_eq_true_eq]at hok;show hok.2
   let#[e1,o]:=drop_cons (r:=[Ν cs p]++a) e;let#[g,_]:=drop_cons (r:=a) o;let q:=Kg e (vM (Ν cs) (.none p));let u:s+2<=60:=i;let x:cs[p]?=some cs[p]:=aah m;rw[ux x]at g;show#[e1,q,N6 n x () g,rfl]
 |.look l p v,e,i,m=>by
   let n:(cs.map Prod.fst).Nodup:=by
    unfold ώ at hok;simp only[aa2,decide_eq_true_eq]at hok;show hok.2
   let#[c,j,y,z,hh]:=m;let#[e1,o]:=drop_cons (r:=[Ν cs p,wordOf v]++a) e;let#[g,B]:=drop_cons (r:=[wordOf v]++a) o;let#[C,_]:=drop_cons (r:=a) B;let q:=Kg e (vM (Ν cs) (.look l p v));let u:s+3<=60:=i;rw[ux j]at g;let D:c.2="number"\/c.2="text":=by
    unfold ώ at hok;simp only[aa2,acX]at hok;have:=(hok.1.2 c (aaM j)).2;unfold p8 at this;show of_decide_eq_true this
   show#[q,(),e1,N6 n j () g,#[c,_,j,hh,C,(y.word D).1],z,rfl]
theorem rC{cs:List ξ}(hok:ώ cs=true){ws:List Str}:∀{t:Tr}{s:Nat},AtW (Ν cs) ws t s->s+(wT (Ν cs) t).length<=60->gU cs t->Reads cs ws t s (s+(wT (Ν cs) t).length)
 |.one i,s,e,c,f=>by
   let#[a,e]:=e;let o:0<(gG (Ν cs) i).length:=aoA.mpr (vM (Ν cs) i);let j:s+(gG (Ν cs) i).length<=60:=c;show#[(),Xp hok e c f]
 |.nt t,s,e,c,f=>by
   let#[a,e]:=e;let#[e1,g]:=drop_cons (r:=wT (Ν cs) t++a) e;let j:s+((wT (Ν cs) t).length+1)<=60:=c;show#[(),e1,?_];have:=rC hok (t:=t) #[a,g] () f;let m:s+(wT (Ν cs) (.nt t)).length=s+1+(wT (Ν cs) t).length:=by show s+((wT (Ν cs) t).length+1)=_;omega
   rw[m];show this
 |.ei t u,s,e,c,f=>by
   let#[a,e]:=e;let#[e1,g]:=drop_cons (r:=(wT (Ν cs) t++wT (Ν cs) u)++a) e;rw[amK]at g;let n:=acj g;let l:(wT (Ν cs) (.ei t u)).length=(wT (Ν cs) t).length+(wT (Ν cs) u).length+1:=by show((wT (Ν cs) t++wT (Ν cs) u).length+1)=_;rw[abK]
   rw[l]at c⊢;show#[(),e1,s+1+(wT (Ν cs) t).length,rC hok (t:=t) #[_,g] () f.1,?_];have:=rC hok (t:=u) #[_,n] () f.2;rw[show s+((wT (Ν cs) t).length+(wT (Ν cs) u).length+1)=s+1+(wT (Ν cs) t).length+(wT (Ν cs) u).length by omega];show this
theorem NK{z:Str}(h:isName z=true):32∉z.cps.toList:=λa=>by
 unfold isName d7 at h;rw[aa2,acX]at h;show absurd (of_decide_eq_true (h.2 32 a)) (by fin2)
theorem XH{cs:List ξ}(hok:ώ cs=true):∀{j:dq},yo cs j->∀z∈gG (Ν cs) j,z.length<=21/\32∉z.cps.toList/\plainS z
 |.all,_,z,f=>by
   have:z=Ϫ "all":=by simpa [gG]using f
   subst this;show#[by fin2,by fin2,by unfold plainS;fin2]
 |.none p,g,z,f=>by
   let a:z=Ϫ "none"\/z=Ν cs p:=by simpa [gG]using f
   obtain rfl|rfl:=a
   .show#[by fin2,by fin2,by unfold plainS;fin2]
   .let n:cs[p]?=some cs[p]:=aah g;rw[ux n];let e:=mC hok (adw.mpr #[cs[p],agJ g,rfl]);show#[by have:=rN e;omega,λh=>by have:=(NK e);show this h,By e]
 |.look l p v,g,z,f=>by
   let#[c,i,m,q,hh]:=g;let a:z=mq l\/z=Ν cs p\/z=wordOf v:=by simpa [gG]using f
   let e:=mC hok (adw.mpr #[c,aaM i,rfl]);let o:c.2="number"\/c.2="text":=by
    unfold ώ at hok;simp only[aa2,acX]at hok;have:=(hok.1.2 c (aaM i)).2;unfold p8 at this;show of_decide_eq_true this
   obtain rfl|rfl|rfl:=a
   .cases l<;>show#[by fin2,by fin2,by unfold plainS;fin2]
   .rw[ux i];show#[by have:=rN e;omega,NK e,By e]
   .let hw:=m.word o;show#[hw.2.1,hw.2.2.1,m.plain]
theorem ph{cs:List ξ}(hok:ώ cs=true):∀{t:Tr},gU cs t->∀z∈wT (Ν cs) t,z.length<=21/\32∉z.cps.toList/\plainS z
 |.one s,a,z,hz=>XH hok a z hz
 |.nt t,a,z,hz=>by
   obtain rfl|hz:=ϲ.mp hz
   .show#[by fin2,by fin2,by unfold plainS;fin2]
   .show ph hok (t:=t) a z hz
 |.ei t u,a,z,hz=>by
   obtain rfl|hz:=ϲ.mp hz
   .show#[by fin2,by fin2,by unfold plainS;fin2]
   .obtain hz|hz:=adU.mp hz
    .show ph hok a.1 z hz
    .show ph hok a.2 z hz
def qP(cs:List ξ)(z:Str)(n d:Nat):=∃t,gU cs t/\t.dep<=d/\z=aeM " " (wT (Ν cs) t)/\(wT (Ν cs) t).length<=n
theorem qP.len{cs:List ξ}(hok:ώ cs=true){z:Str}{n d:Nat}(h:qP cs z n d):z.length<=22*n:=by
 let#[t,a,_,rfl,e]:=h;let h1:=mD (wT (Ν cs) t) 21 λp c=>(ph hok a p c).1
 let h2:=jX (wT (Ν cs) t);omega
theorem qP.good{cs:List ξ}(hok:ώ cs=true){z:Str}{n d:Nat}(h:qP cs z n d)(m:n<=60)(hd:d<=20):plainS z/\z.length<=2800/\(∀y∈ό 32 z,y.length<=900)/\∃t:Tr,t.dep<=20/\Reads cs (ό 32 z) t 0 (ό 32 z).length:=by
 let c:=h.len hok;let#[t,e,g,rfl,o]:=h;let a:=ph hok e;let f:ό 32 (aeM " " (wT (Ν cs) t))=wT (Ν cs) t:=yt (Tz (Ν cs) t) λz i=>(a z i).2.1
 show#[plainS.join λp j=>(a p j).2.2,(),by rw[f];show λy l=>by have:=(a y l).1;omega,t,(),?_];rw[f];have:=rC hok (ws:=wT (Ν cs) t) (t:=t) (s:=0) #[[],by simp] () e;rw[am5]at this;show this
theorem Fj(T:Txt K mg):Def P w K mg base true 1 "value_word" ["value"] U3:=by
 show Γ (N:=["value"]) T.Fj (λ_ _ _ _ _ H vs Q E f h=>?_);intro X _;let#[v,rfl,hs,a,c,q]:=h;let n1:=T.yq;let n2:=T.qd;let g:=T.QQ;let j:=T.Qi;let hsz:=ϱ;w_up;cases v with
 |non=>
  cbv;show q
 |int i=>
  cbv;show rB (c i rfl) ?_;show q
 |str z=>
  let e:z.length<=4000:=a;let l:("'":Str).length=1:=by fin2
  cbv;show fB () ?_;show q
 |_=>cases hs
def RP(x:V):Prop:=scalar x=true/\short x/\∀i,x=.int i->i.natAbs<10^60
inductive VP (vs:List V) (H:Hp) (Q:VK) (E:XK):Prop
 |mk (i:Int) (l:δ) (xs:List V):vs=[.int i,.ref l]->i.natAbs<10^60->H l=some (.lst xs)->xs.length<=1000->(∀x∈xs,RP x)->(∀p H',ζ H H'->H p=none->H' p=some (.lst ((Ϫ (toString i)::xs.map wordOf).map V.str))->Q (.ref p) H')->VP vs H Q E
theorem Es(T:Txt K mg):Def P w K mg base true 2 "row_words" ["row","values"] VP:=by
 show Γ (N:=["row","values"]) T.Es (λ_ _ _ _ _ H vs Q E U h=>?_);intro X _;let#[i,l,xs,rfl,hi,D,W,F,q]:=h;let n1:=T.qd;let G:(["value"]:List Str).Nodup:=by fin2
 let hsz:=ϱ;let Y:= @Fj P w K mg base T;f_len;show ψ ?_;cbv;show rB (qH hi) ?_;cbv;show#[Ζ,λb I=>?_];let#[a,s]:=ϒ I (.lst [.str (Ϫ (toString i))]);change EV _ _ _ (upd H b (.lst [.str (Ϫ (toString i))])) _;generalize upd H b (.lst [.str (Ϫ (toString i))])=H1 at a s⊢;show nW ["value"] (σ':=[none]) (du (ω Jw)) ?_;f_are;show#[l,xs,rfl,η.of (a _ _ D),(),λv=>∃y,v=[y],λf i u H'=>∃x,xs[i]?=some x/\u=.str (wordOf x),#[none,rfl],λf i u H2 J ys _ _ p=>p,λfp f C Z H0 i v x L J M hi g c O R=>?_,λf L ys M m n S c =>?_]
 .let#[y,rfl]:=g;let#[z,rfl]:=R;let o:=F x (aaM z);show Α G (by rfl) (.inl rfl) (.inr rfl) ?_;cbv;show#[x,rfl,o.1,o.2.1,λj e=>qH (o.2.2 j e),?_];show#[#[_,rfl],#[x,z,rfl],ζ.refl _]
 .let ey:=jD (ys:=xs) (λx=>V.str (wordOf x)) m n;subst ey;show ah0 (c _ _ s) S (by rw[aav];show 1+xs.length<=ϰ;omega) λp B=>?_
  show q p _ ((a.trans c).trans (ζ.upd B)) ((a.trans c).free B) ?_;rw[υ,ad4,afC];rfl
theorem GK(T:Txt K mg):Def P w K mg base true 1 "check_of" ["text"] RL:=by
 show Γ (S:=TV) T.GK (λ_ _ _ _ _ H vs Q E m h=>?_);intro X _;let#[z,rfl,n,g,q]:=h;let s:=T.abt;let u:=T.agf;let n1:=T.agF;let nd:=TV.nd;w_up;cbv;show afq (by walk_at"po") (by rfl) (by intro _;rfl) ?_;f_are;show#[z,rfl,λi σ H'=>H'=H/\∃t p o,σ=[some (.str z),some (.int t),some (.int p),o]/\0<=t/\t<9973/\0<=p/\p<9973/\(t+p* Υ (z.cps.toList.drop i)) % 9973=Υ z.cps.toList,#[rfl,0,1,none,rfl,by decide,by decide,by decide,by decide,?_],λi c σ H' hi a=>?_,λσ H' a=>?_]
 .have :=fD z.cps.toList;rw[amW,apq,Int.one_mul];show aoN this.1 this.2
 .let#[rfl,t,p,o,rfl,t0,f,p0,p1,e]:=a;let j:=g c (aaM hi);let hd:z.cps.toList.drop i=c::z.cps.toList.drop (i+1):=by
   let#[h1,h2]:=aai.mp hi;rw[afE h1,h2]
  rw[hd]at e;show Α nd (by rfl) (.inl rfl) (.inl rfl) ?_;w_up;cbv;show#[rfl,_,_,_,rfl,ane _ (by decide),alN _ (by decide),ane _ (by decide),alN _ (by decide),ZL e]
 .let#[rfl,t,p,o,rfl,t0,f,p0,p1,e]:=a;rw[an9]at e;let l:t=Υ z.cps.toList:=by
   rw[<-e];show t=(t+p*0) % 9973;rw[Int.mul_zero,Int.add_zero,aoN t0 f]
  cbv;rw[l];show q
theorem rH(T:Txt K mg):Def P w K mg base true 2 "check_word" ["text"] Te:=by
 show Γ (N:=["text"]) T.rH (λ_ _ _ _ _ H vs Q E e h=>?_);intro X _;let#[z,rfl,a,c,q]:=h;let f:=T.ahc;let n1:=T.qd;let g:= @GK P w K mg base T;f_len;show ψ ?_;show dw F.plainAttrs_str F.slot_str_zfill F.type_str_zfill (h:=?_);cbv;show#[z,rfl,a,c,?_];let i:=fD z.cps.toList;cbv;show rB (qH ?_) ?_
 .have :(Υ z.cps.toList).natAbs<9973:=()
  show abM this (by fin2)
 .cbv;show acH (by decide) (by decide) ?_;show q
theorem Gf(T:Txt K mg):Def P w K mg base true 1 "order_text" ["order"] Gr:=by
 show Γ (N:=["order"]) T.Gf (λ_ _ _ _ _ H vs Q E hr h=>?_);intro X _;let#[a,os,rfl,#[vs,M,e],hl,y,q]:=h;let g1:=T.Ji;let g2:=T.Hn;let z:(["name","up"]:List Str).Nodup:=by fin2
 let hsz:=ϱ;let O:=e.len;let B:("+":Str).length=1:=by fin2
 let D:("-":Str).length=1:=by fin2
 let R:(" ":Str).length=1:=by fin2
 f_len;show ψ ?_;show dw F.plainAttrs_str F.slot_str_join F.type_str_join (h:=?_);f_are;show#[by rfl,eF (by rfl) ?_];show nW ["name","up"] (σ':=[none,none]) (du (ω Oc)) ?_;f_are;show#[a,vs,rfl,η.of M,(),λG=>∃I J,G=[I,J],λg i u H'=>∃c,os[i]?=some c/\u=.str (Ϙ c),#[none,none,rfl],λg i u H2 S ys _ _ p=>p,λfp g C s3 H0 i G x L S U hi j m W Y=>?_,λg L ys U n s Z m =>?_]
 .let#[I,J,rfl]:=j;let#[cI,rfl]:=Y;let#[c,v,t,rfl,ht]:=e.get cI;let hcn:=y c (aaM v);show ϥ (ρ.of (m _ _ ht)) (Δ (Α z (by rfl) (.inl rfl) (.inr rfl) (Δ (Α z (by rfl) (.inl rfl) (.inr rfl) (aa ?_)))));cbv;show ji (λh=>?_) (λh=>?_)
  .cbv;show fB (by rw[B];omega) ?_;show#[#[_,_,rfl],#[c,v,by unfold Ϙ;rw[if_pos h]],ζ.refl _]
  .cbv;show fB (by rw[D];omega) ?_;show#[#[_,_,rfl],#[c,v,by unfold Ϙ;rw[if_neg (by rw[h];show aaN)]],ζ.refl _]
 .let ey:=jD (ys:=os) (λc=>V.str (Ϙ c)) (by rw[n,O]) s;let jJ:ys=(os.map Ϙ).map V.str:=by rw[ey,afC];rfl
  subst jJ;cbv;show rW (η.of Z) ?_ (q L m);rw[R,aav];let f:∀l:List Ord,(∀o∈l,o.1.length<=1000)->((l.map Ϙ).map (·.length)).sum<=l.length*1001:=by
   intro l;induction l with
   |nil=>intro _;simp
   |cons o l ih=>
    intro h;let h1:=ih λx hx=>h x (by simp[hx])
    let h2:=h o (by simp);let h3:(Ϙ o).length<=1001:=by
     unfold Ϙ;rw[len_app];split
     .rw[B];omega
     .rw[D];omega
    simp only[ad4,anf,acV];omega
  have:=f os y;omega
theorem afy{cs:List ξ}{c:ξ}:∀(i:Nat),c∈cs->gn cs c.1 i≠.non:=by
 induction cs with
 |nil=>intro i h;simp at h
 |cons d r a=>
  intro i h;unfold gn;by_cases e:d.1=c.1
  .rw[if_pos e];intro z;cases z
  .rw[if_neg e];obtain z|z:=ϲ.mp h
   .subst z;show absurd rfl e
   .show a (i+1) z
theorem NP:("+":Str).cps.toList=[43]/\("-":Str).cps.toList=[45]/\(" ":Str).cps.toList=[32]/\("":Str).cps.toList=[]:=by fin2
theorem ahe{x:Nat}{n:Str}:Ι (#[#v[x]]++n) (some 1) none=n:=by
 apply gm;rw[show(Ι (#[#v[x]]++n) (some 1) none).cps.toList=(#[#v[x]]++n:Str).cps.toList.drop 1 from xj _ 1,aK];rfl
theorem Ym{cs:List ξ}{o:Ord}{c:ξ}(f:c∈cs)(e:c.1=o.1):iG cs (Ϙ o)=some o:=by
 let#[n,up]:=o;let g:gn cs n 0≠.non:=by rw[<-show c.1=n from e];show afy 0 f
 let a:∀x:Nat,(x=43\/x=45)->iG cs (#[#v[x]]++n)=some (n,decide (x=43)):=λx i=>by
  unfold iG;rw[ahe];let j:(#[#v[x]]++n:Str).cps.toList[0]?=some x:=by rw[aK];rfl
  rw[j,if_pos #[by obtain z|z:=i<;>simp[z],g]];simp
 unfold Ϙ;cases up with
 |true=>show a 43 (.inl rfl)
 |false=>show a 45 (.inr rfl)
theorem aeD{o:Ord}(h:32∉o.1.cps.toList):32∉(Ϙ o).cps.toList:=by
 unfold Ϙ;rw[aK];let#[e1,a,_]:=NP;split
 .rw[e1];simpa using h
 .rw[a];simpa using h
theorem acQ:∀{ps:List Str},aeM " " ps=""->ps=[]\/ps=[Ϫ ""]
 |[],_=>.inl rfl
 |[p],h=>.inr (by rw[show p="" from h])
 |p::q::r,h=>by
  let e:(aeM " " (p::q::r)).cps.toList=fG 32 ((p::q::r).map λp=>p.cps.toList):=oV 32 _;rw[h]at e;let a:([]:List Nat)=p.cps.toList++32::fG 32 ((q::r).map λp=>p.cps.toList):=e;have:=congrArg aji a;simp at this
theorem M9{cs:List ξ}{os:List Ord}(J:os.length<=4)(n:(os.map Prod.fst).Nodup)(q:∀o∈os,∃c∈cs,c.1=o.1)(s:∀o∈os,32∉o.1.cps.toList):iC cs (bz os)=some os:=by
 unfold iC bz;by_cases l:os=[]
 .subst l;show if_pos (by fin2)
 .let h1:os.map Ϙ≠[]:=by simpa using l
  let u:∀p∈os.map Ϙ,32∉p.cps.toList:=λp v=>by
   let#[o,m,rfl]:=adw.mp v;show aeD (s o m)
  let B:os.map Ϙ≠[Ϫ ""]:=λe=>by
   have:Ϫ ""∈os.map Ϙ:=by rw[e];simp
   let#[o,m,a]:=adw.mp this;let C:=congrArg (λz:Str=>z.cps.toList.length) a;let D:(Ϙ o).cps.toList.length=1+o.1.cps.toList.length:=by
    unfold Ϙ;rw[aK,abK];let#[E,F,_]:=NP;split
    .rw[E];rfl
    .rw[F];rfl
   let G:("":Str).cps.toList.length=0:=by fin2
   let f:(Ϙ o).cps.toList.length=("":Str).cps.toList.length:=C;rw[D,G]at f;omega
  rw[if_neg (λz=>(acQ z).elim h1 B),yt h1 u,aav,if_neg ()];let H:jK (iG cs) (os.map Ϙ)=some os:=by
   show Jx (by simp) λi x y e1 a=>?_
   rw[abD,a]at e1;let g:Ϙ y=x:=Option.some.inj e1;let#[c,j,I]:=q y (aaM a);rw[<-g];show Ym j I
  rw[H];show(if(os.map Prod.fst).Nodup then some os else none)=some os;rw[if_pos n]
structure Cut where
 ahead:Bool
 row:Nat
 xs:List V
structure Mk where
 living:Bool
 moment:Nat
 os:List Ord
 sieve:Str
 cut:Cut
def bA(b:Bool):Str:=if b=true then Ϫ "ahead" else Ϫ "behind"
def gh(b:Bool):Str:=if b=true then Ϫ "<" else Ϫ ">"
def eN(b:Bool):Str:=if b=true then Ϫ "living" else Ϫ "still"
def j9(b:Bool):Str:=if b=true then Ϫ "l" else Ϫ "s"
def oH(H:Hp)(c:δ)(C:Cut):=∃k v,H c=some (.tup [.str (bA C.ahead),.ref k])/\H k=some (.tup [.ref v,.int C.row])/\H v=some (.lst C.xs)
theorem oH.same{H H':Hp}{c:δ}{C:Cut}(h:oH H c C)(s:ζ H H'):oH H' c C:=by
 let#[k,v,h1,h2,a]:=h;show#[k,v,s _ _ h1,s _ _ h2,s _ _ a]
def ahN(H:Hp)(p:δ)(M:Mk):=∃o c,H p=some (.tup [.str (eN M.living),.int M.moment,.ref o,.str M.sieve,.ref c])/\aH H o M.os/\oH H c M.cut
def cR(C:Cut):List Str:=Ϫ (toString (C.row:Int))::C.xs.map wordOf
def dH(C:Cut):Str:=gh C.ahead++aeM " " (cR C)
def c7(M:Mk):List Str:=[j9 M.living,Ϫ (toString (M.moment:Int)),bz M.os,M.sieve,dH M.cut]
def ϗ(M:Mk):Str:=aeM "/" (c7 M)
def bO(M:Mk):Str:=ϗ M++Ϫ "."++ak (Υ (ϗ M).cps.toList)
theorem ahE{ps:List Str}(h:ps≠[])(a:∀p∈ps,47∉p.cps.toList):ό 47 (aeM "/" ps)=ps:=by
 unfold ό;let e:(aeM "/" ps).cps.toList=fG 47 (ps.map λp=>p.cps.toList):=oV 47 ps;rw[e,uD (by simpa using h) λp c=>?_,afC]
 .have :((λl:List Nat=>(#[l.toArray]:Str))∘λp:Str=>p.cps.toList)=id:=by
   funext p;rfl
  rw[this,an5]
 .let#[q,f,rfl]:=adw.mp c;show a q f
def je(cs:List ξ)(z:Str):Str:=match cs[ϊ cs z]? with
 |some c=>c.2
 |none=>Ϫ ""
structure aZ(cs:List ξ)(M:Mk):Prop where
 moment:M.moment<=5000
 len:M.os.length<=4
 names:∀o∈M.os,o.1∈cs.map Prod.fst
 nodup:(M.os.map Prod.fst).Nodup
 row:M.cut.row<=1000000000
 vals:ς (λ(o:Ord) x=>ϓ (je cs o.1) x) M.os M.cut.xs
 plain:plainS M.sieve
 short:M.sieve.length<=2800
 words:∀y∈ό 32 M.sieve,y.length<=900
 reads:∃t:Tr,t.dep<=20/\Reads cs (ό 32 M.sieve) t 0 (ό 32 M.sieve).length
theorem abH(b:Bool):plainS (j9 b):=by cases b<;>(unfold plainS;fin2)
theorem aio(b:Bool):plainS (gh b):=by cases b<;>(unfold plainS;fin2)
theorem aiC{o:Ord}(h:plainS o.1):plainS (Ϙ o):=by
 unfold Ϙ;show plainS.app ?_ h;let h1:plainS ("+":Str):=by unfold plainS;fin2
 let h2:plainS ("-":Str):=by unfold plainS;fin2
 split
 .show h1
 .show h2
theorem YH{cs:List ξ}{M:Mk}(h:aZ cs M):∀p∈cR M.cut,plainS p:=λp hp=>by
 obtain rfl|hp:=ϲ.mp hp
 .show Bf _
 .let#[x,a,rfl]:=adw.mp hp;let#[o,_,c]:=h.vals.yO x a;show c.plain
theorem Ef{cs:List ξ}(a:ώ cs=true){M:Mk}(h:aZ cs M):∀p∈c7 M,plainS p:=λp i=>by
 let f:p=j9 M.living\/p=Ϫ (toString (M.moment:Int))\/p=bz M.os\/p=M.sieve\/p=dH M.cut:=by simpa [c7]using i
 obtain rfl|rfl|rfl|rfl|rfl:=f
 .show abH _
 .show Bf _
 .show plainS.join λq j=>?_
  let#[o,l,rfl]:=adw.mp j;show aiC (By ?_);let#[c,g,e]:=adw.mp (h.names o l);unfold ώ at a;simp only[aa2,acX]at a;rw[<-e];show(a.1.2 c g).1
 .show h.plain
 .show(aio _).app (plainS.join (YH h))
theorem Za{cs:List ξ}(a:ώ cs=true){M:Mk}(h:aZ cs M):ό 47 (ϗ M)=c7 M:=
 ahE (by simp[c7]) λp c e=>(Ef a h p c 47 e).2.2.2 rfl
theorem xg(n:Int)(a:0<=n:=by omega)(h1:n<9973:=by omega):46∉(ak n).cps.toList/\(ak n).length=4:=by
 let#[m,rfl]:=acf a;have:=vP (n:=m) ();unfold qI at this;simp only[aa2,decide_eq_true_eq,acX]at this;show#[λc=>?_,this.1];have:=this.2.1 46 c;unfold nZ at this;simp at this
theorem zg(M:Mk):Txt.rpartition (bO M) #[#v[46]]=(ϗ M,#[#v[46]],ak (Υ (ϗ M).cps.toList)):=by
 let f:=fD (ϗ M).cps.toList;let c:=xg (Υ (ϗ M).cps.toList);let e:(bO M).cps.toList=(ϗ M).cps.toList++46::(ak (Υ (ϗ M).cps.toList)).cps.toList:=by
  unfold bO;rw[aK,aK,show(".":Str).cps.toList=[46]from by fin2,amK];rfl
 let a:∀z:Str,(#[z.cps.toList.toArray]:Str)=z:=λz=>by
  let#[#[l]]:=z;rfl
 rw[UW e c.1,a,a]
theorem KJ:∀ps:List Str,(aeM "/" ps).length<=(ps.map (·.length)).sum+ps.length
 |[]=>by show(0:Nat)<=_;omega
 |[p]=>by
  show p.length<=_;simp
 |p::q::r=>by
  let a:=KJ (q::r);let c:("/":Str).length=1:=by fin2
  show(p++Ϫ "/"++aeM "/" (q::r)).length<=_;rw[len_app,len_app,c];simp only[ad4,anf,acV]at a⊢;omega
theorem Ws{cs:List ξ}(a:ώ cs=true){z:Str}(i:z∈cs.map Prod.fst):je cs z="number"\/je cs z="text":=by
 let#[c,f,e]:=adw.mp i;let g:ϊ cs z<cs.length:=pP #[c,f,e];unfold je;rw[aah g];unfold ώ at a;simp only[aa2,acX]at a;let h2:=(a.1.2 cs[ϊ cs z] (agJ g)).2;unfold p8 at h2;show of_decide_eq_true h2
theorem aZ.Hb{cs:List ξ}(f:ώ cs=true){M:Mk}(h:aZ cs M):∀x∈M.cut.xs,RP x/\(wordOf x).length<=21/\32∉(wordOf x).cps.toList:=λx g=>by
 let#[o,l,a]:=h.vals.yO x g;let c:=a.word (Ws f (h.names o l));show#[#[a.sc,?_,λi e=>?_],c.2.1,c.2.2.1]
 .obtain rfl|⟨_,i,rfl,_⟩|⟨_,z,rfl,m,_⟩:=a
  .trivial
  .trivial
  .show z.length<=4000;omega
 .subst e;obtain e|⟨_,j,e,h1,h2⟩|⟨_,z,e,_⟩:=a
  .cases e
  .cases e;have:(10:Nat)^60>1000000000000000000:=by decide
   omega
  .cases e
theorem aZ.MJ{cs:List ξ}{M:Mk}(h:aZ cs M):M.cut.xs.length<=4:=by
 have:=h.vals.len;have:=h.len;omega
theorem Fb{cs:List ξ}(a:ώ cs=true){M:Mk}(h:aZ cs M):(∀p∈cR M.cut,p.length<=21)/\(cR M.cut).length<=5:=by
 show#[λp hp=>?_,?_]
 .obtain rfl|hp:=ϲ.mp hp
  .have :=wg (i:=(M.cut.row:Int)) (k:=10) (by have:=h.row;have:(10:Nat)^10>1000000000:=(by decide);omega);omega
  .let#[x,c,rfl]:=adw.mp hp;show(h.Hb a x c).2.1
 .have :=h.MJ;show(M.cut.xs.map wordOf).length+1<=5;rw[aav];omega
theorem WT{cs:List ξ}(a:ώ cs=true){M:Mk}(h:aZ cs M):(dH M.cut).length<=200:=by
 let#[h1,h2]:=Fb a h;let c:=mD _ 21 h1;let e:=jX (cR M.cut);let f:(gh M.cut.ahead).length=1:=by cases M.cut.ahead<;>fin2
 unfold dH;rw[len_app];omega
inductive Wr (vs:List V) (H:Hp) (Q:VK) (E:XK):Prop
 |mk (c:δ) (M:Mk) (cs:List ξ):vs=[.ref c]->oH H c M.cut->ώ cs=true->aZ cs M->(∀H',ζ H H'->Q (.str (dH M.cut)) H')->Wr vs H Q E
theorem Ae(T:Txt K mg):Def P w K mg base true 3 "cut_text" ["cut"] Wr:=by
 show Γ (S:=KH) T.Ae (λ_ _ A _ _ H vs Q E u h=>?_);intro X _;let#[c,M,cs,rfl,#[k,v,g,l,m],j,a,q]:=h;let nd:=KH.nd;let y:=T.sS;let z:=T.Pz;let B:=T.Tu;let hsz:=ϱ;let n:(" ":Str).length=1:=by fin2
 let C:= @Es P w K mg base T;let#[h1,h2]:=Fb j a;let D:=mD _ 21 h1;let F:=jX (cR M.cut);w_up;show dO ?_;lk;show ϑ (ρ.of g) (i:=1) rfl ?_;show ϥ (ρ.of l) (Δ (Α nd (by rfl) (.inl rfl) (.inl rfl) (Δ (Α nd (by rfl) (.inl rfl) (.inl rfl) (aa ?_)))));let rest:Ο X ((aB Eo).drop 2) {nx:=λ_ H'=>Q .non H',rt:=Q} [some (.ref c),some (.ref v),some (.int M.cut.row),some (.str (gh M.cut.ahead))] H:=by
  let G:(gh M.cut.ahead).length=1:=by cases M.cut.ahead<;>fin2
  f_len;show ψ ?_;lk;show#[(M.cut.row:Int),v,M.cut.xs,rfl,?_,m,by have:=a.MJ;omega,λx o=>(a.Hb j x o).1,λp H1 s I e1=>?_]
  .have :=a.row;have:(10:Nat)^60>1000000000:=by decide
   omega
  lk;show rW (ys:=cR M.cut) (η.of e1) (by rw[n];omega) ?_;lk;show fB () ?_;show q H1 s
 k_go;show ϑ (ρ.of g) (i:=0) rfl ?_;lk;have:M.cut.ahead=true\/M.cut.ahead=false:=by cases M.cut.ahead<;>simp
 obtain e|e:=this
 .let e1:V.str (bA M.cut.ahead)=V.str ("ahead":Str):=by rw[e];rfl
  let f:gh M.cut.ahead=Ϫ "<":=by rw[e];rfl
  show Η (λ_=>?_) (λh=>absurd e1 h);lk;rw[f]at rest;show rest
 .let e1:¬V.str (bA M.cut.ahead)=V.str ("ahead":Str):=by rw[e];fin2
  let f:gh M.cut.ahead=Ϫ ">":=by rw[e];rfl
  show Η (λh=>absurd h e1) (λ_=>?_);lk;rw[f]at rest;show rest
theorem QM{cs:List ξ}(a:ώ cs=true){M:Mk}(h:aZ cs M):(bz M.os).length<=100:=by
 let h1:=mD (M.os.map Ϙ) 9 λp c=>by
  let#[o,e,rfl]:=adw.mp c;have:=rN (mC a (h.names o e));let f:("+":Str).length=1:=by fin2
  let g:("-":Str).length=1:=by fin2
  unfold Ϙ;rw[len_app];split <;>omega
 let h2:=jX (M.os.map Ϙ);let i:=h.len;rw[aav]at h1 h2;unfold bz;omega
theorem vz{cs:List ξ}(a:ώ cs=true){M:Mk}(h:aZ cs M):((c7 M).map (·.length)).sum<=3200/\(ϗ M).length<=3300:=by
 let h1:(j9 M.living).length=1:=by cases M.living<;>fin2
 let h2:=wg (i:=(M.moment:Int)) (k:=4) (by have:=h.moment;have:(10:Nat)^4>5000:=(by decide);omega);let c:=QM a h;let f:=h.short;let g:=WT a h;let e:((c7 M).map (·.length)).sum=(j9 M.living).length+((Ϫ (toString (M.moment:Int))).length+((bz M.os).length+(M.sieve.length+((dH M.cut).length+0)))):=rfl;let j:=KJ (c7 M);let l:(c7 M).length=5:=rfl;unfold ϗ;omega
theorem Mt{cs:List ξ}(a:ώ cs=true){M:Mk}(h:aZ cs M):∀c∈(ϗ M).cps.toList,c<1114112:=by
 let f:∀ps:List Str,(∀p∈ps,plainS p)->∀c∈(aeM "/" ps).cps.toList,c<1114112:=by
  intro ps;induction ps with
  |nil=>intro _ c a;have:c∈([]:List Nat):=a;simp at this
  |cons p r i=>
   intro g c hcm;cases r with
   |nil=>have:=g p (by simp) c hcm;omega
   |cons q r=>
    let e:(aeM "/" (p::q::r)).cps.toList=(p++Ϫ "/"++aeM "/" (q::r)).cps.toList:=rfl;rw[e,aK,aK]at hcm;obtain hcm|hcm:=adU.mp hcm
    .obtain hcm|hcm:=adU.mp hcm
     .have :=g p (by simp) c hcm;omega
     .have :∀c∈("/":Str).cps.toList,c<1114112:=by fin2
      show this c hcm
    .show i (λx j=>g x (by simp[j])) c hcm
 show f _ (Ef a h)
inductive HQ (vs:List V) (H:Hp) (Q:VK) (E:XK):Prop
 |mk (p:δ) (M:Mk) (cs:List ξ):vs=[.ref p]->ahN H p M->ώ cs=true->aZ cs M->(∀H',ζ H H'->Q (.str (bO M)) H')->HQ vs H Q E
theorem Dz(T:Txt K mg):Def P w K mg base true 4 "mark_text" ["mark"] HQ:=by
 show Γ (S:=Ww) T.Dz (λ_ _ A _ _ H vs Q E F h=>?_);intro X _;let#[p,M,cs,rfl,#[o,c,ep,j,m],e,a,q]:=h;let nd:=Ww.nd;let G:=T.HD;let I:=T.Ad;let n1:=T.qd;let hsz:=ϱ;let ls:("/":Str).length=1:=by fin2
 let J:(".":Str).length=1:=by fin2
 let L:= @Gf P w K mg base T;let O:= @Ae P w K mg base T;let R:= @rH P w K mg base T;let#[U,W]:=vz e a;w_up;show dO ?_;lk;show ϥ (ρ.of ep) (Δ (Α nd (by rfl) (.inl rfl) (.inl rfl) (Δ (Α nd (by rfl) (.inl rfl) (.inl rfl) (Δ (Α nd (by rfl) (.inl rfl) (.inl rfl) (Δ (Α nd (by rfl) (.inl rfl) (.inl rfl) (Δ (Α nd (by rfl) (.inl rfl) (.inl rfl) (aa ?_)))))))))));k_go;let s:∃n,Ω (eN M.living).cps.toList 0=some n/\j9 M.living=#[#v[n]]/\(eN M.living).length<=6:=by
  cases M.living
  .show#[115,by fin2,by fin2,by fin2]
  .show#[108,by fin2,by fin2,by fin2]
 let#[n,u,v,y]:=s;show gY () u ?_;lk;show rB (qH ?_) ?_
 .have :=a.moment;have:(10:Nat)^60>5000:=by decide
  omega
 lk;show#[o,M.os,rfl,j,by have:=a.len;omega,λx z=>by have:=rN (mC e (a.names x z));omega,λH1 g =>?_];lk;show#[c,M,cs,rfl,m.same g,e,a,λH2 B =>?_];lk;show#[Ζ,λl C=>?_];let#[sl,i]:=ϒ C (.lst ((c7 M).map V.str));let f:(HO.lst [V.str #[#v[n]],V.str (Ϫ (toString (M.moment:Int))),V.str (bz M.os),V.str M.sieve,V.str (dH M.cut)])=.lst ((c7 M).map V.str):=by
  rw[<-v];rfl
 rw[f];generalize upd H2 l (.lst ((c7 M).map V.str))=D at sl i⊢;lk;show rW (ys:=c7 M) (η.of i) (by rw[ls];show _+5*1<=_;omega) ?_;f_len;show ψ ?_;lk;show fB (by show(ϗ M).length+_<=_;omega) ?_;lk;show#[ϗ M,rfl,(),Mt e a,?_];let Y:=fD (ϗ M).cps.toList;let Z:=xg (Υ (ϗ M).cps.toList);show fB (by rw[len_app];show(ϗ M).length+_+_<=_;omega) ?_;show q D ((g.trans B).trans sl)
inductive uN (K:ϩ) (vs:List V) (H:Hp) (Q:VK) (E:XK):Prop
 |mk (a C dx:δ) (fs:List (Str×V)) (v:V):vs=[.ref a]->H a=some (.ins C dx fs)->Ϛ K C->Ψ K C "text"->fs.lookup ("text":Str)=some v->Q v H->uN K vs H Q E
theorem mV{cc:Bool}:FD P w K mg base cc 1 "shown" "Sieve.shown" jL ["self"] (uN K):=by
 show aO (N:=["self"]) (λ_ _ _ _ _ H vs Q E i h=>?_);intro X _;let#[a,C,dx,fs,v,rfl,c,e,f,g,q]:=h;f_len;show ψ ?_;show ao ?_;f_are;show#[a,C,dx,fs,v,rfl,c,e,f,g,q]
theorem cC.txt{mg:Str->Option ε}{H:Hp}:∀{t:Tr}{a:δ}{z:Str},cC mg H t a z->∃dx fs,H a=some (.ins (dR mg t) dx fs)/\fs.lookup ("text":Str)=some (.str z)/\fs.lookup ("shown":Str)=none
 |.one .all,a,z,h=>by let#[dx,h]:=h;show#[dx,_,h,rfl,rfl]
 |.one (.none p),a,z,h=>by let#[dx,h]:=h;show#[dx,_,h,rfl,rfl]
 |.one (.look l p v),a,z,h=>by let#[dx,h]:=h;show#[dx,_,h,rfl,rfl]
 |.nt t,a,z,h=>by let#[dx,b,y,h,_]:=h;show#[dx,_,h,rfl,rfl]
 |.ei t u,a,z,h=>by let#[dx,b,c,y,x,h,_]:=h;show#[dx,_,h,rfl,rfl]
theorem ack(T:Txt K mg):∀t:Tr,ϙ P w K mg base true 1 (dR mg t) "shown" ["self"] (uN K)/\Ϛ K (dR mg t)/\ Ψ K (dR mg t) "text"
 |.one .all=>#[mV.meth T.xx T.aae,T.xx,T.Q9]
 |.one (.none _)=>#[mV.meth T.qO T.aeh,T.qO,T.Kc]
 |.one (.look .is _ _)=>#[mV.meth T.oE T.aaa,T.oE,T.KN]
 |.one (.look .over _ _)=>#[mV.meth T.pR T.Y6,T.pR,T.S8]
 |.one (.look .holds _ _)=>#[mV.meth T.pJ T.Xj,T.pJ,T.Iu]
 |.nt _=>#[mV.meth T.rJ T.ajM,T.rJ,T.QZ]
 |.ei _ _=>#[mV.meth T.nQ T.aeI,T.nQ,T.Vz]
inductive U9 (K:ϩ) (vs:List V) (H:Hp) (Q:VK) (E:XK):Prop
 |mk (p q:δ) (cs:List ξ) (xs:List V):vs=[.ref p,.ref q]->H p=some (.lst ((cs.map Prod.snd).map V.str))->H q=some (.lst ((xs.map wordOf).map V.str))->cs.length<=1000->(∀c∈cs,c.2="number"\/c.2="text")->ς (λc x=>ϓ c.2 x) cs xs->(∀r H',ζ H H'->H r=none->H' r=some (.lst xs)->Q (.ref r) H')->U9 K vs H Q E
theorem Eb(T:Txt K mg):Def P w K mg base true 6 "read_values" ["kinds","words"] (U9 K):=by
 show Γ (N:=["kinds","words"]) T.Eb (λ_ _ _ _ _ H vs Q E hr h=>?_);intro X _;let#[p,G,cs,xs,rfl,I,J,hcl,hk,a,q]:=h;let n1:=T.bY;let n2:=T.Cq;let L:(["kind","word"]:List Str).Nodup:=by fin2
 let hsz:=ϱ;let D1:= @uC P w K mg base T;let hl:=a.len;let l:((cs.map Prod.snd).map V.str).length=cs.length:=by rw[aav,aav]
 let M:((xs.map wordOf).map V.str).length=xs.length:=by rw[aav,aav]
 let SP:η K H p ((cs.map Prod.snd).map V.str):=η.of I;let SQ:η K H G ((xs.map wordOf).map V.str):=η.of J;w_up;cbv;rw[l,M, <-hl];rw[decide_eq_true (rfl:V.int ((cs.length:Nat):Int)=V.int ((cs.length:Nat):Int))];walk_at"t";show Ε ?_;f_len;show ψ ?_;show Wh ["kind","word"] (σ':=[none,none]) (du (ω HB)) n2 ?_;f_are;f_are;show#[p,G,_,_,rfl,rfl,I,J,by rw[l];omega,λO=>∃R S,O=[R,S],λj i u H'=>∃x,xs[i]?=some x/\u=x,#[none,none,rfl],λj i u H2 H3 ys _ _ p=>p,λfp j C s3 H0 i O x f H6 U hi m W hys hG=>?_,λj f ys U n o e5 W=>?_]
 .let#[R,S,rfl]:=m;let#[t,y,z,rfl,s,rfl,g,v]:=hG;rw[abD,abD]at g v;obtain⟨c,Y,rfl⟩:∃c,cs[i]?=some c/\V.str c.2=y:=by
   cases e:cs[i]? with
   |none=>rw[e]at g;cases g
   |some c=>rw[e]at g;show#[c,rfl,Option.some.inj g]
  let#[x,Z,hv]:=a.get Y;rw[Z]at v;let B:z=.str (wordOf x):=(Option.some.inj v).symm;subst B;let hw:=hv.word (hk c (aaM Y));let au:ζ f (upd f t (.tup [.str c.2,.str (wordOf x)])):=ζ.upd s;show ϥ (ρ.of υ) (Δ (Α L (by rfl) (.inl rfl) (.inr rfl) (Δ (Α L (by rfl) (.inl rfl) (.inr rfl) (aa ?_)))));generalize upd f t (.tup [.str c.2,.str (wordOf x)])=H7 at au⊢;cbv;show#[c.2,wordOf x,rfl,(),λH8 D=>?_];rw[hw.1];show#[#[_,_,rfl],#[x,Z,rfl],au.trans D]
 .let F:ys.length=xs.length:=by rw[n,l,M];omega
  let ey:=jD (ys:=xs) (λx=>x) F o;rw[List.map_id']at ey;subst ey;show q j f W U e5
theorem aiZ{i:Nat}{m:Int}(h:(i:Int)<=m):gH (Ϫ (toString (i:Int))).cps.toList m=some (i:Int):=by
 let#[a,b]:=Gm i;unfold gH;rw[a,b,if_pos #[rfl,h]]
inductive PN (vs:List V) (H:Hp) (Q:VK) (E:XK):Prop
 |mk (b:Bool):vs=[.str (j9 b)]->(∀H',ζ H H'->Q (.str (eN b)) H')->PN vs H Q E
theorem CJ(T:Txt K mg):Def P w K mg base true 1 "read_make" ["letter"] PN:=by
 show Γ (S:=QJ) T.CJ (λ_ _ _ _ _ H vs Q E m h=>?_);intro X _;let#[b,rfl,q]:=h;let nd:=QJ.nd;let p:=T.Dq;let s:=T.Ly;let hsz:=ϱ;w_up;show agQ (by walk_at"po") (by rfl) (by intro _;rfl) ?_;lk;show#[Ζ,λt l=>?_];let#[st,j]:=ϒ l (.tup [.str ("living":Str),.str ("still":Str)]);show#[t,_,rfl,ρ.of j,λi σ H'=>(∃o,σ=[some (.str (j9 b)),o])/\H'=upd H t (.tup [.str ("living":Str),.str ("still":Str)])/\(1<=i->b=false)/\i<2,#[#[none,rfl],rfl,λh=>absurd h (),()],λi σ' H' hi c=>?_,λi x σ' H' e c=>?_,λσ' H' c=>?_]
 .let#[_,rfl,_]:=c;show ρ.of j
 .let#[#[o,rfl],rfl,f,g]:=c;show Α nd (by rfl) (.inl rfl) (.inl rfl) ?_
  match i,g,e with
  |0,_,e=>
   let a:x=.str ("living":Str):=(Option.some.inj e).symm;subst a;f_len;show Θ ?_;lk;show gY (n:=108) (by rw[hsz];fin2) (by fin2) ?_;lk;cases b with
   |true=>
    show Η (λ_=>?_) (λh=>absurd (by fin2) h);f_len;show ψ ?_;lk;show q _ st
   |false=>
    show cG ?_;show Ε #[#[_,rfl],rfl,λ_=>rfl,()]
  |1,_,e=>
   let a:x=.str ("still":Str):=(Option.some.inj e).symm;subst a;let f:=f ();subst f;f_len;show Θ ?_;lk;show gY (n:=115) (by rw[hsz];fin2) (by fin2) ?_;lk;show Η (λ_=>?_) (λh=>absurd (by fin2) h);f_len;show ψ ?_;lk;show q _ st
 .let#[_,_,_,h]:=c;show absurd h (by show ¬2<2;omega)
inductive R1 (vs:List V) (H:Hp) (Q:VK) (E:XK):Prop
 |mk (i:Nat) (m:Int):vs=[.str (Ϫ (toString (i:Int))),.int m]->(m=5000\/m=1000000000)->(i:Int)<=m->(∀H',ζ H H'->Q (.int (i:Int)) H')->R1 vs H Q E
theorem yw(T:Txt K mg):Def P w K mg base true 4 "read_whole" ["word","most"] R1:=by
 show Γ (S:=J6) T.yw (λ_ _ A _ _ H vs Q E j h=>?_);intro X _;let#[i,m,rfl,c,e,q]:=h;let nd:=J6.nd;let l:= @vX P w K mg base T;let n:(10:Nat)^60>1000000000:=by decide
 let o:=wg (i:=(i:Int)) (k:=10) (by have:(10:Nat)^10>1000000000:=(by decide);omega);obtain⟨k,f,a,k1,k2⟩:∃k,(Ϫ (toString m)).length=k/\m<((10^k:Nat):Int)/\1<=k/\k<=600:=by
  obtain rfl|rfl:=c
  .show#[4,by fin2,by decide,(),()]
  .show#[10,by fin2,by decide,(),()]
 k_go;show#[_,m,k,rfl,(),(),(),f,a,k1,k2,λH1 g =>?_];rw[aiZ e];w_up;show Θ ?_;lk;show Ε ?_;f_len;show ψ ?_;lk;show q H1 g
inductive HF (vs:List V) (H:Hp) (Q:VK) (E:XK):Prop
 |mk (b:Bool):vs=[.str (gh b)]->Q (.str (bA b)) H->HF vs H Q E
theorem Hg(T:Txt K mg):Def P w K mg base true 1 "read_side" ["sign"] HF:=by
 show Γ (N:=["sign"]) T.Hg (λ_ _ _ _ _ H vs Q E a h=>?_);intro X _;let#[b,rfl,q]:=h;let c:=T.Pz;let e:=T.Tu;let f:=T.sS;let g:=T.Bo;w_up;show Θ ?_;lk;cases b with
 |true=>
  show eV ?_;f_len;show ψ ?_;lk;show q
 |false=>
  show cG ?_;show Ε ?_;w_up;show Θ ?_;lk;show eV ?_;f_len;show ψ ?_;lk;show q
theorem age{cs:List ξ}{z:Str}(h:∃c∈cs,c.1=z):∃c,cs[ϊ cs z]?=some c/\c.2=je cs z:=by
 let a:=pP h;show#[cs[ϊ cs z],aah a,?_];unfold je;rw[aah a]
theorem aZ.Mr{cs:List ξ}{M:Mk}(h:aZ cs M):∀o∈M.os,∃c∈cs,c.1=o.1:=λo a=>by
 let#[c,f,e]:=adw.mp (h.names o a);show#[c,f,e]
theorem adI(C:Cut):∃n,gh C.ahead=#[#v[n]]/\(dH C).cps.toList=n::(aeM " " (cR C)).cps.toList:=by
 unfold dH;cases C.ahead
 .show#[62,by fin2,by rw[aK,show(gh false).cps.toList=[62]from by fin2];rfl]
 .show#[60,by fin2,by rw[aK,show(gh true).cps.toList=[60]from by fin2];rfl]
theorem agP{cs:List ξ}(a:ώ cs=true){M:Mk}(h:aZ cs M):ό 32 (aeM " " (cR M.cut))=cR M.cut:=by
 show yt (by simp[cR]) λp hp=>?_
 obtain rfl|hp:=ϲ.mp hp
 .intro c;have:=yx (M.cut.row:Int) 32 c;omega
 .let#[x,e,rfl]:=adw.mp hp;show(h.Hb a x e).2.2
def rQ(cs:List ξ)(os:List Ord):List ξ:=os.map λo=>(o.1,je cs o.1)
theorem Rv{cs:List ξ}:∀{os:List Ord}{xs:List V},ς (λ(o:Ord) x=>ϓ (je cs o.1) x) os xs->ς (λ(c:ξ) x=>ϓ c.2 x) (rQ cs os) xs
 |_,_,.nil=>.nil
 |_,_,.cons r t=>.cons r (Rv t)
inductive J9 (vs:List V) (H:Hp) (Q:VK) (E:XK):Prop
 |mk (a b:δ) (M:Mk) (cs:List ξ):vs=[.ref a,.ref b,.str (dH M.cut)]->ϟ H a cs->aH H b M.os->ώ cs=true->aZ cs M->(∀p H',ζ H H'->H p=none->oH H' p M.cut->(∀k v,H' p=some (.tup [.str (bA M.cut.ahead),.ref k])->H' k=some (.tup [.ref v,.int M.cut.row])->H v=none)->Q (.ref p) H')->J9 vs H Q E
theorem Gu(T:Txt K mg):Def P w K mg base true 7 "read_cut" ["columns","order","text"] J9:=by
 show Γ (S:=KR) T.Gu (λ_ _ A _ s H vs Q E hr h=>?_);intro X _;let#[a,b,M,cs,rfl,hC,#[ws,hb,l],z,j,q]:=h;let nd:=KR.nd;let g1:=T.Kf;let hsz:=ϱ;let ud:(["name","up","columns"]:List Str).Nodup:=by fin2
 let D1:= @Hg P w K mg base T;let D2:= @yw P w K mg base T;let D3:= @Eb P w K mg base T;let D4:= @lZ P w K mg base T;let hlen:=WT z j;let#[n,en,Nm]:=adI M.cut;let eS:Ι (dH M.cut) none (some 1)=gh M.cut.ahead:=by
  apply gm;rw[show Ι (dH M.cut) none (some 1)=Ι (dH M.cut) none (some ((1:Nat):Int))from rfl,vO,Nm,en];rfl
 let eR:Ι (dH M.cut) (some 1) none=aeM " " (cR M.cut):=by
  apply gm;have:=xj (dH M.cut) 1;rw[show((1:Nat):Int)=1 from rfl]at this;rw[this,Nm];rfl
 let L:=l.len;let akA:=j.len;k_go;show gZ () ?_;rw[eS];lk;show#[M.cut.ahead,rfl,?_];w_up;f_tup;show dw F.plainAttrs_str F.slot_str_split F.type_str_split (h:=?_);lk;show gZ () ?_;rw[eR];lk;let#[Yq,kl2]:=Fb z j;let ama:=mD _ 21 Yq;let kj:=jX (cR M.cut);show m_split (c:=32) λl1 h1=>?_
 rw[agP z j];let#[s1,e1]:=ϒ h1 (.lst ((cR M.cut).map V.str));generalize upd H l1 (.lst ((cR M.cut).map V.str))=H1 at s1 e1⊢;k_go;show Ϡ (η.of e1) (show Ω ((cR M.cut).map V.str) ((0:Nat):Int)=some (V.str (Ϫ (toString (M.cut.row:Int))))from ϣ rfl) ?_;lk;show#[M.cut.row,1000000000,rfl,.inr rfl,by have:=j.row;omega,λH2 s2=>?_];let g:=s1.trans s2;w_up;show qR ["name","up","columns"] (σ':=[none,none,some (.ref a)]) (du (ω Hj)) nd ?_;f_are;show#[b,ws,rfl,η.of (g _ _ hb),(),λτ=>∃o1 o2,τ=[o1,o2,some (.ref a)],λB i u H'=>∃o,M.os[i]?=some o/\u=.str (je cs o.1),#[none,none,rfl],λB i u H2 H3 ys _ _ p=>p,λfp B C s3 H0 i τ x H4 H3 bj hi O m hys hG=>?_,λB H4 ys bj R U e4 m =>?_]
 .let#[o1,o2,rfl]:=O;let#[cI,rfl]:=hG;let#[o,D,t,rfl,ht]:=l.get cI;show ϥ (ρ.of (m _ _ (g _ _ ht))) (Δ (Α ud (by rfl) (.inl rfl) (.inr rfl) (Δ (Α ud (by rfl) (.inl rfl) (.inr rfl) (aa ?_)))));lk;let Im:=(hC.same g).same m;show#[a,cs,o.1,rfl,Im,λH5 dN=>?_];let y:=j.Mr o (aaM D);rw[rG 0 y,am5];let#[c,hg,W]:=age y;let#[vs,ea,Y]:=Im.same dN;let#[cv,gc,tc,rfl,Z]:=Y.get' hg;show Ϡ (η.of ea) (ϣ gc) ?_;lk;show ϑ (ρ.of Z) (show Ω [V.str c.1,V.str c.2] 1=some (V.str c.2)from rfl) ?_;show#[#[_,_,rfl],#[o,D,by rw[W]],dN]
 .let ey:=jD (ys:=M.os) (λo=>V.str (je cs o.1)) (by rw[R,L]) U;let jJ:ys=((rQ cs M.os).map Prod.snd).map V.str:=by rw[ey];unfold rQ;rw[afC,afC];rfl
  subst jJ;let V7:=g.trans m;let ab:=m _ _ (s2 _ _ e1);f_len;show ψ ?_;lk;show nO (η.of ab) λl2 h2=>?_
  let ac:bV ((cR M.cut).map V.str) (some 1) none=(M.cut.xs.map wordOf).map V.str:=by
   rw[show(some (1:Int))=some ((1:Nat):Int)from rfl,Sx];rfl
  rw[ac];let#[G,e5]:=ϒ h2 (.lst ((M.cut.xs.map wordOf).map V.str));generalize upd H4 l2 (.lst ((M.cut.xs.map wordOf).map V.str))=H5 at G e5⊢;lk;show#[B,l2,rQ cs M.os,M.cut.xs,rfl,G _ _ e4,e5,by unfold rQ;rw[aav];omega,λc ae=>?_,Rv j.vals,λv H6 s6 hv ev=>?_]
  .let#[o,D,rfl]:=adw.mp ae;show Ws z (j.names o D)
  lk;show#[Ζ,λk W=>?_];let#[I,e7]:=ϒ W (.tup [.ref v,.int M.cut.row]);generalize upd H6 k (.tup [.ref v,.int M.cut.row])=H7 at I e7⊢;lk;show#[Ζ,λp hp=>?_];let J:ζ H7 (upd H7 p (.tup [.str (bA M.cut.ahead),.ref k])):=ζ.upd hp;let eU:=V7.trans (G.trans s6);let af:H v=none:=(V7.trans G).free hv;show q p _ (eU.trans (I.trans J)) ((eU.trans I).free hp) #[k,v,υ,J _ _ e7,J _ _ (I _ _ ev)] λk' v' e f=>?_
  rw[υ]at e;injection e with e
  injection e with e
  injection e with _ e
  injection e with e _
  injection e with e
  subst e;rw[J _ _ e7]at f;injection f with f
  injection f with f
  injection f with f _
  injection f with f
  subst f;show af
inductive Xb (vs:List V) (H:Hp) (Q:VK) (E:XK):Prop
 |mk (a:δ) (M:Mk) (cs:List ξ):vs=[.ref a,.str (ϗ M)]->ϟ H a cs->ώ cs=true->aZ cs M->(∀p o c k v H',ζ H H'->H' p=some (.tup [.str (eN M.living),.int M.moment,.ref o,.str M.sieve,.ref c])->H o=none->aH H' o M.os->H' c=some (.tup [.str (bA M.cut.ahead),.ref k])->H' k=some (.tup [.ref v,.int M.cut.row])->H v=none->H' v=some (.lst M.cut.xs)->o≠v->Q (.ref p) H')->Xb vs H Q E
theorem Bb(T:Txt K mg):Def P w K mg base true 51 "read_body" ["columns","body"] Xb:=by
 show Γ (S:=J8) T.Bb (λ_ _ A _ s H vs Q E hr h=>?_);intro X _;let#[a,M,cs,rfl,B,j,f,q]:=h;let nd:=J8.nd;let g1:=T.HD;let g2:=T.aiQ;let g3:=T.Zg;let n1:=T.bY;let hsz:=ϱ;let#[t,C,D]:=f.reads;let D1:= @CJ P w K mg base T;let D2:= @yw P w K mg base T;let D3:= @wZ P w K mg base T;let D4:= @Ur P w K mg base T t;let D5:= @Gu P w K mg base T;let#[M2,kc,na]:=ack (P:=P) (w:=w) (base:=base) T t;let#[b1,b2]:=vz j f;w_up;f_tup;show dw F.plainAttrs_str F.slot_str_split F.type_str_split (h:=?_);lk;show m_split (c:=47) λW h1=>?_
 rw[Za j f];let#[g,e1]:=ϒ h1 (.lst ((c7 M).map V.str));generalize upd H W (.lst ((c7 M).map V.str))=H1 at g e1⊢;let l:η K H1 W ((c7 M).map V.str):=η.of e1;w_up;show Θ ?_;lk;show dJ (λh=>absurd rfl h) (λ_=>?_);show Ε ?_;k_go;show Ϡ l (i:=0) rfl ?_;lk;show#[M.living,rfl,λH2 Y=>?_];k_go;show Ϡ (Y.seq l) (i:=1) rfl ?_;lk;show#[M.moment,5000,rfl,.inl rfl,by have:=f.moment;omega,λH3 s3=>?_];let u:=Y.trans s3;k_go;show Ϡ (u.seq l) (i:=2) rfl ?_;lk;let Z:iC cs (bz M.os)=some M.os:=M9 f.len f.nodup f.Mr λo G hm=>by
  let I:=mC j (f.names o G);unfold isName d7 at I;rw[aa2,acX]at I;show absurd (of_decide_eq_true (I.2 32 hm)) (by fin2)
 show#[a,cs,bz M.os,rfl,B.same (g.trans u),(by have:=QM j f;omega),(λH' sm e=>by rw[Z]at e;cases e),λo os H4 s4 x G J=>?_];rw[Z]at x;cases x;let L:=u.trans s4;let Mj:H o=none:=(g.trans u).free G;k_go;show Ϡ (L.seq l) (i:=3) rfl ?_;lk;show#[a,cs,M.sieve,rfl,B.same (g.trans L),(by have:=f.short;omega),(λy hy=>by have:=f.words y hy;omega),C,D,λsv H5 z m=>?_];let O:=L.trans z;let Yr:cj (ό 32 M.sieve) 0 (ό 32 M.sieve).length=M.sieve:=by
  unfold cj;rw[amW,anE,am0,ag4]
 rw[Yr]at m;let#[dx,fs,es,et,R]:=m.txt;f_len;show ψ ?_;lk;show dZ (pl:=_) hr ϋ ?_;f_are;show#[sv,dR mg t,dx,_,true,1,_,uN K,rfl,es,R,M2,by decide,id,sv,dR mg t,dx,fs,_,rfl,es,kc,na,et,?_];lk;show Ϡ (O.seq l) (i:=4) rfl ?_;lk;show#[a,o,M,cs,rfl,B.same (g.trans O),J.same z,j,f,λc H6 s6 hc0 lR hv=>?_];lk;show#[Ζ,λp hp=>?_];let#[k,v,z1,z2,z3]:=lR;let n:ζ H6 (upd H6 p (.tup [.str (eN M.living),.int M.moment,.ref o,.str M.sieve,.ref c])):=ζ.upd hp;let fJ:=g.trans O;let U:=hv k v z1 z2;let#[ws,x,_]:=J.same z;show q p o c k v _ (fJ.trans (s6.trans n)) υ Mj ((J.same z).same (s6.trans n)) (n _ _ z1) (n _ _ z2) (fJ.free U) (n _ _ z3) λe=>?_
 rw[<-e,x]at U;cases U
inductive HJ (vs:List V) (H:Hp) (Q:VK) (E:XK):Prop
 |mk (a:δ) (M:Mk) (cs:List ξ):vs=[.ref a,.str (bO M)]->ϟ H a cs->ώ cs=true->aZ cs M->(∀p o c k v H',ζ H H'->H' p=some (.tup [.str (eN M.living),.int M.moment,.ref o,.str M.sieve,.ref c])->H o=none->aH H' o M.os->H' c=some (.tup [.str (bA M.cut.ahead),.ref k])->H' k=some (.tup [.ref v,.int M.cut.row])->H v=none->H' v=some (.lst M.cut.xs)->o≠v->Q (.ref p) H')->HJ vs H Q E
theorem v5(T:Txt K mg):Def P w K mg base true 52 "read_mark" ["columns","text"] HJ:=by
 show Γ (S:=xM) T.v5 (λ_ _ _ _ _ H vs Q E D h=>?_);intro X _;let#[a,M,cs,rfl,i,f,g,q]:=h;let nd:=xM.nd;let G:=T.Ad;let hsz:=ϱ;let I:= @Bb P w K mg base T;let J:= @rH P w K mg base T;let#[L,O]:=vz f g;let R:=fD (ϗ M).cps.toList;let U:=xg (Υ (ϗ M).cps.toList);let W:(".":Str).length=1:=by fin2
 w_up;show dO ?_;show dw PySem.F.plainAttrs_str PySem.F.slot_str_rpartition PySem.F.type_str_rpartition (h:=?_);lk;show Um (c:=46) (by unfold bO;rw[len_app,len_app];omega) λt j=>?_
 let p1:(Txt.rpartition (bO M) #[#v[46]]).1=ϗ M:=by rw[zg]
 let p2:(Txt.rpartition (bO M) #[#v[46]]).2.1=#[#v[46]]:=by rw[zg]
 let p3:(Txt.rpartition (bO M) #[#v[46]]).2.2=ak (Υ (ϗ M).cps.toList):=by rw[zg]
 rw[p1,p2,p3];show ϥ (ρ.of υ) (Δ (Α nd (by rfl) (.inl rfl) (.inl rfl) (Δ (Α nd (by rfl) (.inl rfl) (.inl rfl) (Δ (Α nd (by rfl) (.inl rfl) (.inl rfl) (aa ?_)))))));let e:ζ H (upd H t (.tup [.str (ϗ M),.str #[#v[46]],.str (ak (Υ (ϗ M).cps.toList))])):=ζ.upd j;generalize upd H t (.tup [.str (ϗ M),.str #[#v[46]],.str (ak (Υ (ϗ M).cps.toList))])=H1 at e⊢;w_up;show Θ ?_;lk;show cG ?_;lk;show#[ϗ M,rfl,(),Mt f g,?_];generalize ak (Υ (ϗ M).cps.toList)=Y;lk;show dJ (λh=>absurd rfl h) (λ_=>?_);show Ε ?_;f_len;show GD (λ_ _ _ _=>False) rfl rfl (λF pn xo po=>?_) (λσ c d H' l=>l.elim);f_len;show ψ ?_;lk;show#[a,M,cs,rfl,i.same e,f,g,λp o c k v H' m n s u x y z B C=>q p o c k v H' (e.trans m) n (e.free s) u x y (e.free z) B C]
theorem wj(T:Txt K mg):Def P w K mg base true 2 "key_of" ["columns","order","row","values"] Ml:=by
 show Γ (N:=["columns","order","row","values"]) T.wj (λ_ _ _ _ _ H vs Q E hr h=>?_);intro X _;let#[a,b,n,c,cs,os,xs,rfl,S,#[ws,U,g],W,iQ,Y,Z,ϻ,q]:=h;let D:(["name","up","columns","values"]:List Str).Nodup:=by fin2
 let hsz:=ϱ;let m:=g.len;let D1:= @lZ P w K mg base T;f_len;show ψ ?_;show Kd ?_;show eF (by rfl) ?_;show nW ["name","up","columns","values"] (σ':=[none,none,some (.ref a),some (.ref c)]) (du (ω Ri)) ?_;f_are;show#[b,ws,rfl,η.of U,(),λF=>∃G I,F=[G,I,some (.ref a),some (.ref c)],λj i u H'=>∃o,os[i]?=some o/\u=aQ cs xs o.1,#[none,none,rfl],λj i u H2 H3 ys _ _ p=>p,λfp j C s3 H0 i F x s H3 J hi v f hys hG=>?_,λj s ys J y z e4 f =>?_]
 .let#[G,I,rfl]:=v;let#[cI,rfl]:=hG;let#[o,L,t,rfl,ht]:=g.get cI;show ϥ (ρ.of (f _ _ ht)) (Δ (Α D (by rfl) (.inl rfl) (.inr rfl) (Δ (Α D (by rfl) (.inl rfl) (.inr rfl) (aa ?_)))));cbv;show#[a,cs,o.1,rfl,S.same f,λH5 M=>?_];let l:=ϻ o (aaM L);rw[rG 0 l,am5];let hlt:=pP l;let O:xs[ϊ cs o.1]?=some xs[ϊ cs o.1]:=aah ();show Ϡ (η.of (M _ _ (f _ _ W))) (ϣ O) ?_;show#[#[_,_,rfl],#[o,L,by unfold aQ;rw[O];rfl],M]
 .let ey:=jD (ys:=os) (λo=>aQ cs xs o.1) (by rw[y,m]) z;cbv;show#[Ζ,λp B=>?_];let pn:H p=none:=by
   cases e:H p with
   |none=>rfl
   |some u=>rw[f _ _ e]at B;cases B
  let R:ζ s (upd s p (.tup [.ref j,.int n])):=ζ.upd B;show q p j _ (f.trans R) pn J ?_ υ;rw[R _ _ e4,ey];rfl
theorem Bp(T:Txt K mg):Def P w K mg base true 2 "key_ahead" ["order","one","other"] Us:=by
 show Γ (S:=RG) T.Bp (λ_ _ _ _ _ H vs Q E hr h=>?_);intro X _;let#[b,p,q,os,xs,ys,n,k,rfl,#[ws,O,g],#[l,R,U],#[m,W,Y],Z,s,Yb,a]:=h;let nd:=RG.nd;let n1:=T.Cq;let hwl:=g.len;let D1:= @vg P w K mg base T;w_up;show acx (by walk_at"po") (by rfl) (by rfl) n1 (by rfl) (by rfl) (by rfl) ?_;cbv;show ϑ (ρ.of R) (show Ω [V.ref l,V.int n] 0=some (V.ref l)from rfl) ?_;cbv;show ϑ (ρ.of W) (show Ω [V.ref m,V.int k] 0=some (V.ref m)from rfl) ?_;show#[b,l,m,ws,xs,ys,#[rfl,rfl,rfl],O,U,Y,(),(),λi σ H'=>(∃D F G,σ=[some (.ref b),some (.ref p),some (.ref q),D,F,G])/\ζ H H'/\∀j x y,j<i->xs[j]?=some x->ys[j]?=some y->x=y,
  #[#[none,none,none,rfl],ζ.refl _,λj x y hj=>()],λi σ H' c=>#[η.of (c.2.1 _ _ O),η.of (c.2.1 _ _ U),η.of (c.2.1 _ _ Y)],λi v x y I σ H' hv J L c hT=>?_,λσ H' c=>?_]
 .let#[#[D,F,G,rfl],u,B]:=c;let#[o,ho,t,rfl,ht]:=g.get hv;let C :=u.trans (ζ.upd (o:=.tup [.ref t,x,y]) hT);let eT:(upd H' I (.tup [.ref t,x,y])) I=some (.tup [.ref t,x,y]):=υ;generalize upd H' I (.tup [.ref t,x,y])=H2 at C eT⊢;let#[sx,sy,M]:=Yb i x y J L;show ϥ (ρ.of eT) (Δ (Α nd (by rfl) (.inl rfl) (.inl rfl) (Δ (Α nd (by rfl) (.inl rfl) (.inl rfl) (Δ (Α nd (by rfl) (.inl rfl) (.inl rfl) (aa ?_)))))));f_len;cbv;show El (wA sx sy) ?_;cbv;show ji (λh=>?_) (λh=>?_)
  .let Ϲ:¬x=y:=by simpa using h
   cbv;show#[x,y,rfl,M,?_];cbv;show ϑ (ρ.of (C _ _ ht)) (show Ω [V.str o.1,V.bl o.2] 1=some (V.bl o.2)from rfl) ?_;cbv;let e:=Tg (n:=n) (k:=k) Z s ho J L B Ϲ;let f:decide (V.bl (before x y)=V.bl o.2)=decide (before x y=o.2):=by
    congr 1
    show propext #[λz=>by injection z,λz=>by rw[z]]
   rw[f, <-e];show a H2 C
  .let he:x=y:=by simpa using h
   cbv;show#[#[_,_,_,rfl],C,λj x' y' hj e1 f=>?_];by_cases e:j=i
   .subst e;rw[J]at e1;rw[L]at f;cases e1;cases f;show he
   .show B j x' y' () e1 f
 .let#[#[D,F,G,rfl],u,B]:=c;f_len;cbv;show ϑ (ρ.of (u _ _ R)) (show Ω [V.ref l,V.int n] 1=some (V.int n)from rfl) ?_;cbv;show ϑ (ρ.of (u _ _ W)) (show Ω [V.ref m,V.int k] 1=some (V.int k)from rfl) ?_;cbv;rw[<-Om (n:=n) (k:=k) Z s λj x y hj e1 f=>B j x y () e1 f];show a H' u
def dC(H:Hp)(v:V):Ct->Prop
 |.start=>∃t,v=.ref t/\H t=some (.tup [.str "start"])
 |.fin=>∃t,v=.ref t/\H t=some (.tup [.str "end"])
 |.at_ sd xs n=>∃t k,v=.ref t/\H t=some (.tup [.str (bA sd),.ref k])/\nA H k xs n
theorem dC.same{H H':Hp}{v:V}{c:Ct}(h:dC H v c)(s:ζ H H'):dC H' v c:=by
 cases c with
 |start=>let#[t,e,h]:=h;show#[t,e,s _ _ h]
 |fin=>let#[t,e,h]:=h;show#[t,e,s _ _ h]
 |at_ sd xs n=>let#[t,k,e,h,g]:=h;show#[t,k,e,s _ _ h,g.same s]
inductive Rh (vs:List V) (H:Hp) (Q:VK) (E:XK):Prop
 |mk (b p:δ) (v:V) (os:List Ord) (cs:List ξ) (sd:Bool) (xs ys:List V) (n k:Int):vs=[.ref b,.ref p,v]->aH H b os->nA H p xs n->dC H v (.at_ sd ys k)->cZ cs os xs->cZ cs os ys->(∀H',ζ H H'->Q (.bl (DK os (.at_ sd ys k) xs n)) H')->Rh vs H Q E
theorem Bh(T:Txt K mg):Def P w K mg base true 3 "lies_ahead" ["order","key","cut"] Rh:=by
 show Γ (N:=["order","key","cut"]) T.Bh (λ_ _ _ _ _ H vs Q E l h=>?_);intro X _;let#[b,p,v,os,cs,sd,xs,ys,n,k,rfl,c,e,#[t,kk,rfl,f,g],i,j,q]:=h;let m:=T.sS;let o:= @Bp P w K mg base T;cases sd with
 |true=>
  let a:H t=some (.tup [.str ("ahead":Str),.ref kk]):=f;let#[x1,x2,x3]:=i.aJ j;w_up;show Θ ?_;lk;show ϑ (ρ.of a) (show Ω [V.str ("ahead":Str),.ref kk] 0=some (V.str ("ahead":Str))from rfl) ?_;lk;show eV ?_;f_len;show ψ ?_;lk;show ϑ (ρ.of a) (show Ω [V.str ("ahead":Str),.ref kk] 1=some (V.ref kk)from rfl) ?_;lk;show#[b,p,kk,os,xs,ys,n,k,rfl,c,e,g,x1,x2,x3,λH' s'=>q H' s']
 |false=>
  let a:H t=some (.tup [.str ("behind":Str),.ref kk]):=f;let#[x1,x2,x3]:=j.aJ i;w_up;show Θ ?_;lk;show ϑ (ρ.of a) (show Ω [V.str ("behind":Str),.ref kk] 0=some (V.str ("behind":Str))from rfl) ?_;lk;show cG ?_;show Ε ?_;f_len;show ψ ?_;lk;show ϑ (ρ.of a) (show Ω [V.str ("behind":Str),.ref kk] 1=some (V.ref kk)from rfl) ?_;lk;show#[b,kk,p,os,ys,xs,k,n,rfl,c,g,e,x1,x2,x3,λH' s'=>?_];lk;show q H' s'
def aA(cs:List ξ)(os:List Ord)(c:Ct)(rs:List Row):Nat:=match c with
 |.start=>0
 |.fin=>rs.length
 |.at_ sd xs n=>rs.countP (aU cs os (.at_ sd xs n))
theorem oZ{cs:List ξ}{os:List Ord}{c:Ct}{rs:List Row}:aA cs os c rs<=rs.length:=by
 cases c with
 |start=>show agn _
 |fin=>show ϭ _
 |at_ sd xs n=>show amF
structure mQ(cs:List ξ)(os:List Ord)(rs:List Row):Prop where
 cols:1<=cs.length/\cs.length<=6
 RB:os.length<=4
 inc:bw cs os
 fit:∀r∈rs,ύ cs r
 line:Line cs os rs
 few:rs.length<=1000
inductive LQ (vs:List V) (H:Hp) (Q:VK) (E:XK):Prop
 |mk (a b p:δ) (v:V) (cs:List ξ) (os:List Ord) (rs:List Row) (c:Ct):vs=[.ref a,.ref b,.ref p,v]->ϟ H a cs->aH H b os->dX H p rs->dC H v c->mQ cs os rs->jE cs os c->(∀H',ζ H H'->Q (.int (aA cs os c rs:Nat)) H')->LQ vs H Q E
theorem vd(T:Txt K mg):Def P w K mg base true 4 "cut_place" ["columns","order","line","cut"] LQ:=by
 show Γ (S:=Km) T.vd (λ_ _ A _ s H vs Q E o h=>?_);intro X _;let#[a,b,p,v,cs,os,rs,c,rfl,hC,Y,#[ws,hp,u],D,f,x,q]:=h;let nd:=Km.nd;let g1:=T.Qo;let g2:=T.M6;let n1:=T.bY;let hsz:=ϱ;let D1:= @wj P w K mg base T;let D2:= @Bh P w K mg base T;let y:=u.len;let qQ:η K H p ws:=η.of hp;let#[c1,c6]:=f.cols;let o4:=f.RB;let few:=f.few;cases c with
 |start=>
  let#[t,rfl,g]:=D;w_up;show Θ ?_;lk;show ϑ (ρ.of g) (show Ω [V.str ("start":Str)] 0=some (V.str ("start":Str))from rfl) ?_;lk;show eV ?_;f_len;show ψ ?_;lk;show q H (ζ.refl _)
 |fin=>
  let#[t,rfl,g]:=D;w_up;show Θ ?_;lk;show ϑ (ρ.of g) (show Ω [V.str ("end":Str)] 0=some (V.str ("end":Str))from rfl) ?_;lk;show cG ?_;show Ε ?_;w_up;show Θ ?_;lk;show ϑ (ρ.of g) (show Ω [V.str ("end":Str)] 0=some (V.str ("end":Str))from rfl) ?_;lk;show eV ?_;f_len;show ψ ?_;lk;rw[y];show q H (ζ.refl _)
 |at_ sd xs n=>
  let J:=D;let#[t,k,rfl,g,hk]:=D;let#[p1,p2]:=wK (xZ f.inc x f.fit f.line);let Z:rs.countP (aU cs os (.at_ sd xs n))<=rs.length:=amF;let qN:∀H',ζ H H'->Q (.int (rs.countP (aU cs os (.at_ sd xs n)):Nat)) H':=q;generalize hN:rs.countP (aU cs os (.at_ sd xs n))=N at p1 p2 Z qN;let z:bA sd≠Ϫ "start"/\bA sd≠Ϫ "end":=by cases sd<;>fin2
  w_up;show Θ ?_;lk;show ϑ (ρ.of g) (show Ω [V.str (bA sd),.ref k] 0=some (V.str (bA sd))from rfl) ?_;lk;show Η (λh=>absurd (V.str.inj h) z.1) (λ_=>?_);show Ε ?_;w_up;show Θ ?_;lk;show ϑ (ρ.of g) (show Ω [V.str (bA sd),.ref k] 0=some (V.str (bA sd))from rfl) ?_;lk;show Η (λh=>absurd (V.str.inj h) z.2) (λ_=>?_);show Ε ?_;k_go;k_go;rw[y];w_up;show JV (by walk_at"po") (λm σ H'=>∃(lo hi:Nat)(F G I:Option V),σ=[some (.ref a),some (.ref b),some (.ref p),some (.ref t),some (.int lo),some (.int hi),F,G,I]/\lo<=N/\N<=hi/\hi<=rs.length/\m=hi-lo/\ζ H H') rs.length #[0,rs.length,none,none,none,rfl,(),Z,(),(),ζ.refl _] (λm σ H' hW=>?_);let#[lo,hi,F,G,I,rfl,h1,h2,h3,rfl,j]:=hW;lk;show Η (λhlt=>?_) (λhge=>?_)
  rotate_left
  .let e:N=lo:=()
   f_len;show ψ ?_;lk;rw[<-e];show qN H' j
  let hlt':lo<hi:=()
  show#[λσ H'=>∃m',m'<hi-lo/\∃(lo hi:Nat)(F G I:Option V),σ=[some (.ref a),some (.ref b),some (.ref p),some (.ref t),some (.int lo),some (.int hi),F,G,I]/\lo<=N/\N<=hi/\hi<=rs.length/\m'=hi-lo/\ζ H H',λσ' H' h=>h,?_];k_go;let em:((lo:Int)+(hi:Int)) / 2=(((lo+hi) / 2:Nat):Int):=()
  show aaU #[by decide,by decide] ?_;rw[em];let L:lo<=(lo+hi) / 2:=()
  let M:(lo+hi) / 2<hi:=()
  generalize(lo+hi) / 2=mi at L M⊢;let o:rs[mi]?=some (rs[mi]'()):=aah _;generalize hrr:rs[mi]'()=r at o;let#[wv,gw,tt,l,rfl,O,hl]:=u.get' o;let mR:=f.fit r (aaM o);let kr:=bN mR f.inc;w_up;show dO ?_;lk;show Ϡ (j.seq qQ) (ϣ gw) ?_;show ϥ (ρ.of (j _ _ O)) (Δ (Α nd (by rfl) (.inl rfl) (.inl rfl) (Δ (Α nd (by rfl) (.inl rfl) (.inl rfl) (aa ?_)))));f_len;show Θ ?_;lk;show#[a,b,r.1,l,cs,os,r.2,rfl,hC.same j,Y.same j,j _ _ hl,(ς.len mR).symm,(),(),f.inc,λkp kl H2 s2 _ _ R U=>?_];let W :=j.trans s2;lk;show#[b,kp,.ref t,os,cs,sd,_,xs,r.1,n,rfl,Y.same W,#[kl,U,R],J.same W,kr,x,λH3 s3=>?_];let B:=W.trans s3;rw[show DK os (.at_ sd xs n) (Ξ cs os r.2) r.1=aU cs os (.at_ sd xs n) r from rfl];cases hla:aU cs os (.at_ sd xs n) r with
  |true=>
   let C:mi<N:=by
    by_cases h:mi<N
    .show h
    .have :r∈rs.drop N:=by
      show aaM (i:=mi-N) ?_;rw[anF,show N+(mi-N)=mi by omega,o]
     rw[p2 r this]at hla;cases hla
   lk;f_len;f_tup;lk;show#[hi-(mi+1),(),mi+1,hi,_,_,_,rfl,(),h2,h3,rfl,B]
  |false=>
   let C:N<=mi:=by
    by_cases h:mi<N
    .have :r∈rs.take N:=by
      show aaM (i:=mi) ?_;rw[List.getElem?_take,if_pos h,o]
     rw[p1 r this]at hla;cases hla
    .omega
   lk;f_len;f_tup;lk;show#[mi-lo,(),lo,mi,_,_,_,rfl,h1,C,(),rfl,B]
def cX(H:Hp)(v:V):Option Ct->Prop
 |none=>v=.non
 |some c=>dC H v c
theorem cX.same{H H':Hp}{v:V}{c:Option Ct}(h:cX H v c)(s:ζ H H'):cX H' v c:=by
 cases c with
 |none=>show h
 |some c=>show dC.same h s
def dY(r:Row):PyData:=.tuple [.int r.1,.list (r.2.map dV)]
theorem ύ.lay{cs:List ξ}{r:Row}(h:ύ cs r):∀x∈r.2,jQ x=true/\∀z,x=.str z->iD 4000 z:=by
 let#[n,xs]:=r;let h':ς (λ(c:ξ) x=>ϓ c.2 x) cs xs:=h;show ∀x∈xs,_;clear h;induction h' with
 |nil=>intro x hx;cases hx
 |cons r t a=>
  intro x hx;obtain e|hx:=ϲ.mp hx
  .subst e;show r.jQ
  .show a x hx
theorem Xl{cs:List ξ}{H:Hp}{vs:List V}{rs:List Row}(h:ς (gO H) vs rs)(g:∀r∈rs,ύ cs r):fW K H vs (rs.map dY):=by
 induction h with
 |nil=>show .nil
 |cons r t a=>
  let#[p,l,rfl,h1,h2]:=r;show .cons (.tup (ρ.of h1) (.cons (.int _) (.cons (.lst (η.of h2) (Cv ?_)) .nil))) (a λr c=>g r (by simp[c]));show acX.mpr λx e=>((g _ (by simp)).lay x e).1
theorem adK{cs:List ξ}{H:Hp}{p:δ}{rs:List Row}(h:dX H p rs)(g:∀r∈rs,ύ cs r):RD K H (.ref p) (.list (rs.map dY)):=by
 let#[vs,e,a]:=h;show .lst (η.of e) (Xl a g)
theorem af3{cs:List ξ}{r:Row}(h:ύ cs r):(dY r).canLay0=true:=by
 show(true&&((PyData.list (r.2.map dV)).canLay0&&true))=true;rw[Ei λx a=>h.lay x a];rfl
theorem Nf{cs:List ξ}:∀{rs:List Row},(∀r∈rs,ύ cs r)->(PyData.list (rs.map dY)).canLay0=true
 |[],_=>rfl
 |r::rs,h=>by
  let a:=Nf (rs:=rs) λd hd=>h d (by simp[hd])
  show((dY r).canLay0&&PyData.canLayAll0 (rs.map dY))=true;rw[af3 (h r (by simp))];show a
theorem afk(r:Row):(dY r).depth<=4:=by
 have:=BV r.2;simp only[dY,PyData.depth,PyData.depthAll];omega
theorem Nh:∀rs:List Row,PyData.depthAll (rs.map dY)<=4
 |[]=>by show(0:Nat)<=4;omega
 |r::rs=>by
  let a:=Nh rs;let h1:=afk r;show max (dY r).depth (PyData.depthAll (rs.map dY))<=4;omega
theorem aa9(rs:List Row):(PyData.list (rs.map dY)).depth<=60:=by
 have:=Nh rs;simp only[PyData.depth];omega
inductive Xa (vs:List V) (H:Hp) (Q:VK) (E:XK):Prop
 |mk (n:Int):vs=[.int n]->1<=n->n<=100->Q .non H->Xa vs H Q E
theorem vR(T:Txt K mg):Def P w K mg base true 2 "ask_size" ["size"] Xa:=by
 show Γ (N:=["size"]) T.vR (λ_ _ _ _ _ H vs Q E a h=>?_);intro X _;let#[n,rfl,h1,h2,q]:=h;let c:=T.Yi;let e:= @qz P w K mg base T;f_len;show Θ ?_;lk;show#[_,rfl,rfl,?_];rw[show oK (V.int n)=true from rfl];lk;show Η (λ_=>?_) (λh=>absurd h1 h);lk;show dJ (λh=>absurd h2 h) (λ_=>?_);show Ε q
theorem Gy(k a b:Str):gW (.str k) [.str a,.str b]=decide (k=a\/k=b):=by
 let e:∀a:Str,(a==k)=decide (k=a):=λa=>by rw[ahR,beq_iff_eq,decide_eq_true_iff];show eq_comm
 show((a==k)||((b==k)||false))=_;rw[e,e,anY,apf]
inductive Uj (K:ϩ) (vs:List V) (H:Hp) (Q:VK) (E:XK):Prop
 |mk (v:V) (c:Ct):vs=[v]->dC H v c->(∀sd xs n,c=.at_ sd xs n->xs.length<=1000)->(∀v' H',ζ H H'->dC H' v' c->Q v' H')->Uj K vs H Q E
theorem zu(T:Txt K mg):Def P w K mg base true 1 "copy_of_cut" ["cut"] (Uj K):=by
 show Γ (S:=MP) T.zu (λ_ _ _ _ _ H vs Q E J h=>?_);intro X _;let#[v,c,rfl,j,F,q]:=h;let nd:=MP.nd;let L:=T.sS;let M:=T.Bo;let n1:=T.jW;let hsz:=ϱ;cases c with
 |start=>
  let#[t,rfl,e]:=j;w_up;show Θ ?_;lk;show ϑ (ρ.of e) (show Ω [V.str ("start":Str)] 0=some (V.str ("start":Str))from rfl) ?_;lk;show#[Ζ,λy g=>?_];let#[a,f]:=ϒ g (.tup [.str ("ahead":Str),.str ("behind":Str)]);generalize upd H y (.tup [.str ("ahead":Str),.str ("behind":Str)])=H1 at a f⊢;show pC (ρ.of f) ?_;rw[Gy];show#[_,rfl,?_];show cG ?_;show Ε ?_;f_len;show ψ ?_;lk;show q _ _ a #[t,rfl,a _ _ e]
 |fin=>
  let#[t,rfl,e]:=j;w_up;show Θ ?_;lk;show ϑ (ρ.of e) (show Ω [V.str ("end":Str)] 0=some (V.str ("end":Str))from rfl) ?_;lk;show#[Ζ,λy g=>?_];let#[a,f]:=ϒ g (.tup [.str ("ahead":Str),.str ("behind":Str)]);generalize upd H y (.tup [.str ("ahead":Str),.str ("behind":Str)])=H1 at a f⊢;show pC (ρ.of f) ?_;rw[Gy];show#[_,rfl,?_];show cG ?_;show Ε ?_;f_len;show ψ ?_;lk;show q _ _ a #[t,rfl,a _ _ e]
 |at_ sd xs n=>
  let#[t,k,rfl,e,l,G,m]:=j;let O:=F sd xs n rfl;w_up;show Θ ?_;lk;show ϑ (ρ.of e) (show Ω [V.str (bA sd),.ref k] 0=some (V.str (bA sd))from rfl) ?_;lk;show#[Ζ,λy g=>?_];let#[a,f]:=ϒ g (.tup [.str ("ahead":Str),.str ("behind":Str)]);generalize upd H y (.tup [.str ("ahead":Str),.str ("behind":Str)])=H1 at a f⊢;show pC (ρ.of f) ?_;rw[Gy];show#[_,rfl,?_];show Η (λ_=>?_) (λh=>absurd (by cases sd<;>fin2) h);w_up;show dO ?_;lk;show ϑ (ρ.of (a _ _ e)) (show Ω [V.str (bA sd),.ref k] 1=some (V.ref k)from rfl) ?_;show ϥ (ρ.of (a _ _ G)) (Δ (Α nd (by rfl) (.inl rfl) (.inl rfl) (Δ (Α nd (by rfl) (.inl rfl) (.inl rfl) (aa ?_)))));f_len;show ψ ?_;lk;show ϑ (ρ.of (a _ _ e)) (show Ω [V.str (bA sd),.ref k] 0=some (V.str (bA sd))from rfl) ?_;lk;show jr (.inl (η.of (a _ _ m))) λi o=>?_
  let#[x,z]:=ϒ o (.lst xs);generalize upd H1 i (.lst xs)=H2 at x z⊢;lk;show#[Ζ,λk2 p=>?_];let#[s,B]:=ϒ p (.tup [.ref i,.int n]);generalize upd H2 k2 (.tup [.ref i,.int n])=C at s B⊢;lk;show#[Ζ,λD I=>?_];let u:ζ C (upd C D (.tup [.str (bA sd),.ref k2])):=ζ.upd I;show q _ _ (((a.trans x).trans s).trans u) #[D,k2,rfl,υ,i,u _ _ B,u _ _ (s _ _ z)]
def iV(cs:List ξ)(os:List Ord)(sd:Bool)(rs:List Row)(c:Ct):Ct:=match rs with
 |[]=>c
 |r::_=>.at_ sd (Ξ cs os r.2) r.1
inductive Ra (K:ϩ) (vs:List V) (H:Hp) (Q:VK) (E:XK):Prop
 |mk (a b p:δ) (sd:Bool) (v:V) (cs:List ξ) (os:List Ord) (rs:List Row) (c:Ct):vs=[.ref a,.ref b,.str (bA sd),.ref p,v]->ϟ H a cs->aH H b os->dX H p rs->dC H v c->(∀sd xs n,c=.at_ sd xs n->xs.length<=1000)->cs.length<=6->os.length<=4->bw cs os->rs.length<=1000->(∀r∈rs,ύ cs r)->(∀v' H',ζ H H'->dC H' v' (iV cs os sd rs c)->Q v' H')->Ra K vs H Q E
theorem yU(T:Txt K mg):Def P w K mg base true 3 "cut_beside" ["columns","order","side","rows","cut"] (Ra K):=by
 show Γ (S:=RC) T.yU (λ_ _ _ _ _ H vs Q E z h=>?_);intro X _;let#[a,b,p,sd,v,cs,os,rs,c,rfl,B,C,#[ws,s,g],D,j,Y,o4,F,few,e,q]:=h;let nd:=RC.nd;let hsz:=ϱ;let Z:= @wj P w K mg base T;let D2:= @zu P w K mg base T;let G:=g.len;w_up;show Θ ?_;lk;show#[Ζ,λy I=>?_];let#[f,u]:=ϒ I (.lst []);generalize upd H y (.lst [])=H1 at f u⊢;show Z5 z.units (adK (dX.same #[ws,s,g] f) e) (.lst (η.of u) .nil) (Nf e) (by rfl) (aa9 rs) ?_;cases rs with
 |nil=>
  rw[show PyData.eqv (.list (([]:List Row).map dY)) (.list [])=true from rfl];show#[_,rfl,?_];show Ο _ _ _ _ _;f_len;show ψ ?_;lk;show#[v,c,rfl,D.same f,j,λJ H' s' h'=>q J H' (f.trans s') h']
 |cons r rs=>
  rw[show PyData.eqv (.list ((r::rs).map dY)) (.list [])=false from rfl];show#[_,rfl,?_];show Ο _ _ _ _ _;let#[wv,L,t,l,rfl,M,O]:=g.get' (i:=0) (b:=r) rfl;show Ε ?_;w_up;show dO ?_;lk;show Ϡ (η.of (f _ _ s)) (show Ω ws ((0:Nat):Int)=some (.ref t)from ϣ L) ?_;show ϥ (ρ.of (f _ _ M)) (Δ (Α nd (by rfl) (.inl rfl) (.inl rfl) (Δ (Α nd (by rfl) (.inl rfl) (.inl rfl) (aa ?_)))));f_len;show ψ ?_;lk;show#[a,b,r.1,l,cs,os,r.2,rfl,B.same f,C.same f,f _ _ O,(ς.len (e r (by simp))).symm,(),(),F,λkp R H2 U _ _ m n=>?_];lk;show#[Ζ,λx W=>?_];let o:ζ H2 (upd H2 x (.tup [.str (bA sd),.ref kp])):=ζ.upd W;show q _ _ ((f.trans U).trans o) #[x,kp,rfl,υ,R,o _ _ n,o _ _ m]
def iK(q:δ)(H H':Hp)(v:V)(r:Row):=∃t l,v=.ref t/\H t=none/\H l=none/\l≠q/\H' t=some (.tup [.int r.1,.ref l])/\H' l=some (.lst r.2)
theorem iK.row{q:δ}{H H':Hp}{v:V}{r:Row}(h:iK q H H' v r):gO H' v r:=by
 let#[t,l,e,_,_,_,h1,h2]:=h;show#[t,l,e,h1,h2]
theorem iK.same{q:δ}{H H' H2:Hp}{v:V}{r:Row}(h:iK q H H' v r)(s:ζ H' H2):iK q H H2 v r:=by
 let#[t,l,e,a,b,c,h1,h2]:=h;show#[t,l,e,a,b,c,s _ _ h1,s _ _ h2]
def Τ{α:Type}(xs:List α)(i j:Nat):List α:=(xs.drop i).take (j-i)
theorem Oq(xs:List V)(i j:Nat)(a:i<=j)(c:j<=xs.length):bV xs (some (i:Int)) (some (j:Int))=Τ xs i j:=by
 unfold bV Τ;rw[_H.mX,_H.mX,ajr c,ajr (aeO a c)]
theorem Z9(xs:List V):bV xs (some (-1)) none=xs.drop (xs.length-1):=by
 let e:_H.Β xs.length 0 (some (-1))=xs.length-1:=by
  unfold _H.Β;simp;omega
 unfold bV;rw[_H.tG,e];show ahv (by rw[aeB];show ϭ _)
structure Lf where
 rows:List Row
 back:Option Ct
 bL:Option Ct
 start:Nat
def bx(cs:List ξ)(os:List Ord)(rs:List Row)(c:Ct)(i j:Nat):Lf:=
 #[Τ rs i j,if 0<i then some (iV cs os true ((Τ rs i j).take 1) c)else none,if j<rs.length then some (iV cs os false ((Τ rs i j).drop ((Τ rs i j).length-1)) c)else none,i]
inductive Qt (K:ϩ) (vs:List V) (H:Hp) (Q:VK) (E:XK):Prop
 |mk (a b p:δ) (v:V) (cs:List ξ) (os:List Ord) (rs:List Row) (c:Ct) (i j:Nat):vs=[.ref a,.ref b,.ref p,v,.int i,.int j]->ϟ H a cs->aH H b os->dX H p rs->dC H v c->mQ cs os rs->jE cs os c->i<=j->j<=rs.length->(∀(t q:δ)(us:List V)(x y:V) H',ζ H H'->H q=none->H' t=some (.tup [.ref q,x,y,.int i])->H' q=some (.lst us)->ς (iK q H H') us (bx cs os rs c i j).rows->cX H' x (bx cs os rs c i j).back->cX H' y (bx cs os rs c i j).bL->Q (.ref t) H')->Qt K vs H Q E
theorem jE.len{cs:List ξ}{os:List Ord}{c:Ct}(h:jE cs os c)(a:os.length<=4):∀sd xs n,c=.at_ sd xs n->xs.length<=1000:=λsd xs n e=>by
 subst e;have:=ς.len h;omega
theorem Wc{α β:Type}{R:α->β->Prop}{l:List α}{m:List β}{i j:Nat}(h:ς R l m):ς R (Τ l i j) (Τ m i j):=(h.drop i).take (j-i)
theorem uR(T:Txt K mg):Def P w K mg base true 4 "leaf_between" ["columns","order","line","cut","start","stop"] (Qt K):=by
 show Γ (S:=V5) T.uR (λ_ _ A _ s H vs Q E f h=>?_);intro X _;let#[a,b,p,v,cs,os,rs,c,i,j,rfl,hC,hO,#[ws,hp,M],hc,L,ab,ac,hj,q]:=h;let nd:=V5.nd;let g1:=T.sS;let g2:=T.Bo;let n1:=T.jW;let n2:=T.bY;let hsz:=ϱ;let bR:(["row","values"]:List Str).Nodup:=by fin2
 let D1:= @yU P w K mg base T;let ae:=M.len;let#[c1,c6]:=L.cols;let o4:=L.RB;let few:=L.few;let O:=ab.len o4;w_up;show qR ["row","values"] (σ':=[none,none]) (du (ω qW)) nd ?_;lk;show nO (η.of hp) λp1 af=>?_
 rw[Oq ws i j ac ()];let#[s1,e1]:=ϒ af (.lst (Τ ws i j));generalize upd H p1 (.lst (Τ ws i j))=H1 at s1 e1⊢;let R:ς (gO H) (Τ ws i j) (Τ rs i j):=Wc M;let hll:=R.len;let hlr:(Τ rs i j).length=j-i:=by
  unfold Τ;rw[afM,aeB];omega
 let F:∀r∈ Τ rs i j,ύ cs r:=λr f=>L.fit r (ael (aeR f))
 show#[p1,_,rfl,η.of e1,(),λτ=>∃o1 o2,τ=[o1,o2],λE2 k u H'=>∃r,(Τ rs i j)[k]?=some r/\iK E2 H H' u r,#[none,none,rfl],λE2 k u H2 H3 ys hE U p=>?_,λfp E2 C W H0 k τ x H4 D bj hi ag Φ G hG=>?_,λI H2 us ah n ai e2 Λ =>?_]
 .let#[r,f,t,l,e,h1,h2,h3,h4,h5]:=p;show#[r,f,t,l,e,h1,h2,h3,U _ _ (λz=>by rw[z,hE]at h4;cases h4) h4,U _ _ h3 h5]
 .let#[o1,o2,rfl]:=ag;let#[cI,rfl]:=hG;let#[r,f,t,l,rfl,ht,hl]:=R.get cI;let g:=s1.trans Φ;let#[ys,G]:=G;let al:=F r (aaM f);let hrl:=ς.len al;show ϥ (ρ.of (g _ _ ht)) (Δ (Α bR (by rfl) (.inl rfl) (.inr rfl) (Δ (Α bR (by rfl) (.inl rfl) (.inr rfl) (aa ?_)))));lk;show jr (.inl (η.of (g _ _ hl))) λl2 n=>?_
  let#[o,e5]:=ϒ n (.lst r.2);let nl:l2≠E2:=λe=>by rw[e,G]at n;cases n
  generalize upd H4 l2 (.lst r.2)=D at o e5⊢;lk;show#[Ζ,λt2 bu=>?_];let s6:ζ D (upd D t2 (.tup [.int r.1,.ref l2])):=ζ.upd bu;show#[#[_,_,rfl],#[r,f,t2,l2,rfl,(g.trans o).free bu,g.free n,nl,υ,s6 _ _ e5],o.trans s6]
 let B:ς (iK I H H2) us (Τ rs i j):=pX () λk r f=>by
  let U:k<us.length:=by have:=(aai.mp f).1;omega
  let#[r',Y,hn]:=ai k _ (aah U);rw[f]at Y;cases Y;show#[_,aah U,hn]
 let pq:=s1.trans Λ;let am:H I=none:=s1.free ah;let jN:=B.len;let amS:dX H2 I (Τ rs i j):=#[us,e2,B.imp λu r x=>x.row];let tail:∀(x:V)(H3:Hp),ζ H2 H3->cX H3 x (bx cs os rs c i j).back->Ο X ((aB qW).drop 3) {nx:=λ_ H'=>Q .non H',rt:=Q} [some (.ref a),some (.ref b),some (.ref p),some v,some (.int i),some (.int j),some (.ref I),some x,none] H3:=λx H3 W hx=>by
  let Ka:=pq.trans W;let fin:∀(y:V)(H4:Hp),ζ H3 H4->cX H4 y (bx cs os rs c i j).bL->Ο X ((aB qW).drop 5) {nx:=λ_ H'=>Q .non H',rt:=Q} [some (.ref a),some (.ref b),some (.ref p),some v,some (.int i),some (.int j),some (.ref I),some x,some y] H4:=λy H4 m Z=>by
   f_len;show ψ ?_;lk;show#[Ζ,λt ht=>?_];let o:ζ H4 (upd H4 t (.tup [.ref I,x,y,.int i])):=ζ.upd ht;let mF:=(W.trans m).trans o;show q t I us x y _ (pq.trans mF) am υ (mF _ _ e2) (B.imp λu r z=>z.same mF) ((hx.same m).same o) (Z.same o)
  k_go;w_up;show Θ ?_;let qQ:η K H3 p ws:=η.of (Ka _ _ hp);lk;rw[ae];show Η (λh=>?_) (λh=>?_)
  .let h':j<rs.length:=()
   f_len;f_tup;lk;show nO (η.of (W _ _ e2)) λp2 J=>?_
   rw[Z9];let#[m,e4]:=ϒ J (.lst (us.drop (us.length-1)));generalize upd H3 p2 (.lst (us.drop (us.length-1)))=H4 at m e4⊢;let g:=Ka.trans m;lk;show#[a,b,p2,false,v,cs,os,(Τ rs i j).drop ((Τ rs i j).length-1),c,rfl,hC.same g,hO.same g,#[_,e4,?_],hc.same g,O,c6,o4,L.inc,by rw[aeB];omega,λr f=>F r (ael f),λy D o Z=>?_]
   .rw[jN];show(B.imp λu r z=>(z.same (W.trans m)).row).drop _
   .show fin y D (m.trans o) ?_;show cX D y (if j<rs.length then _ else none);rw[if_pos h'];show Z
  .show Ε (fin .non H3 (ζ.refl _) ?_);show cX H3 .non (if j<rs.length then _ else none);rw[if_neg ()];rfl
 k_go;w_up;show Θ ?_;lk;show Η (λh=>?_) (λh=>?_)
 .let h':0<i:=()
  f_len;f_tup;lk;show nO (η.of e2) λp2 J=>?_
  rw[show(some (1:Int))=some ((1:Nat):Int)from rfl,adB];let#[m,e4]:=ϒ J (.lst (us.take 1));generalize upd H2 p2 (.lst (us.take 1))=H4 at m e4⊢;let g:=pq.trans m;lk;show#[a,b,p2,true,v,cs,os,(Τ rs i j).take 1,c,rfl,hC.same g,hO.same g,#[_,e4,(B.imp λu r z=>(z.same m).row).take 1],hc.same g,O,c6,o4,L.inc,by rw[afM];omega,λr f=>F r (aeR f),λy D o Z=>?_];show tail y D (m.trans o) ?_;show cX D y (if 0<i then _ else none);rw[if_pos h'];show Z
 .show Ε (tail .non H2 (ζ.refl _) ?_);show cX H2 .non (if 0<i then _ else none);rw[if_neg ()];rfl
def adh(H:Hp)(Q:VK)(L:Lf):=∀(t q:δ)(us:List V)(x y:V) H',ζ H H'->H q=none->H' t=some (.tup [.ref q,x,y,.int L.start])->H' q=some (.lst us)->ς (iK q H H') us L.rows->cX H' x L.back->cX H' y L.bL->Q (.ref t) H'
def Kq(cs:List ξ)(os:List Ord)(rs:List Row)(c:Ct)(n:Nat):Lf:=bx cs os rs c (aA cs os c rs) (min (aA cs os c rs+n) rs.length)
def IK(cs:List ξ)(os:List Ord)(rs:List Row)(c:Ct)(n:Nat):Lf:=bx cs os rs c (aA cs os c rs-n) (aA cs os c rs)
inductive Dv (K:ϩ) (way:List ξ->List Ord->List Row->Ct->Nat->Lf) (vs:List V) (H:Hp) (Q:VK) (E:XK):Prop
 |mk (a b p:δ) (v:V) (cs:List ξ) (os:List Ord) (rs:List Row) (c:Ct) (n:Nat):vs=[.ref a,.ref b,.ref p,v,.int n]->ϟ H a cs->aH H b os->dX H p rs->dC H v c->mQ cs os rs->jE cs os c->1<=n->n<=100->adh H Q (way cs os rs c n)->Dv K way vs H Q E
theorem GX(T:Txt K mg):Def P w K mg base true 5 "leaf_forth" ["columns","order","line","cut","size"] (Dv K Kq):=by
 show Γ (S:=W5) T.GX (λ_ _ A _ _ H vs Q E Z h=>?_);intro X _;let#[a,b,p,v,cs,os,rs,c,n,rfl,s,B,i,C,j,g,n1,D,q]:=h;let nd:=W5.nd;let b1:=T.bY;let b2:=T.Nz;let D1:= @vR P w K mg base T;let D2:= @vd P w K mg base T;let D3:= @uR P w K mg base T;let few:=j.few;let jk:=oZ (cs:=cs) (os:=os) (c:=c) (rs:=rs);w_up;show aV ?_;lk;show#[n,rfl,(),(),?_];k_go;show#[a,b,p,v,cs,os,rs,c,rfl,s,B,i,C,j,g,λH1 f=>?_];let#[ws,F,m]:=i.same f;let qQ:η K H1 p ws:=η.of F;let o:=m.len;f_len;show ψ ?_;lk;show Ni (by rfl) ?_;let em:(if((ws.length:Nat):Int)<((aA cs os c rs:Nat):Int)+((n:Nat):Int)then((ws.length:Nat):Int)else((aA cs os c rs:Nat):Int)+((n:Nat):Int))=((min (aA cs os c rs+n) rs.length:Nat):Int):=by
  rw[o];split <;>omega
 rw[em];lk;show#[a,b,p,v,cs,os,rs,c,_,_,rfl,s.same f,B.same f,i.same f,C.same f,j,g,(),amZ _ _,λt G us x y H' s' h1 h2 I J L M=>q t G us x y H' (f.trans s') (f.free h1) h2 I (J.imp λu r z=>by
  let#[t,l,e,O,R,U,W,Y]:=z;show#[t,l,e,f.free O,f.free R,U,W,Y]) L M]
theorem zX(T:Txt K mg):Def P w K mg base true 5 "leaf_back" ["columns","order","line","cut","size"] (Dv K IK):=by
 show Γ (S:=Qd) T.zX (λ_ _ A _ _ H vs Q E W h=>?_);intro X _;let#[a,b,p,v,cs,os,rs,c,n,rfl,j,m,o,s,i,g,n1,B,q]:=h;let nd:=Qd.nd;let Y:=T.TJ;let Z:= @vR P w K mg base T;let D2:= @vd P w K mg base T;let D3:= @uR P w K mg base T;let few:=i.few;let C:=oZ (cs:=cs) (os:=os) (c:=c) (rs:=rs);w_up;show aV ?_;lk;show#[n,rfl,(),(),?_];k_go;show#[a,b,p,v,cs,os,rs,c,rfl,j,m,o,s,i,g,λH1 f=>?_];f_len;show ψ ?_;lk;show Q4 (by rfl) ?_;let em:(if(0:Int)>((aA cs os c rs:Nat):Int)-((n:Nat):Int)then(0:Int)else((aA cs os c rs:Nat):Int)-((n:Nat):Int))=((aA cs os c rs-n:Nat):Int):=by
  split <;>omega
 rw[em];lk;show#[a,b,p,v,cs,os,rs,c,_,_,rfl,j.same f,m.same f,o.same f,s.same f,i,g,Nat.sub_le _ _,C,λt D us x y H' s' h1 h2 F G I J=>q t D us x y H' (f.trans s') (f.free h1) h2 F (G.imp λu r z=>by
  let#[t,l,e,L,M,O,R,U]:=z;show#[t,l,e,f.free L,f.free M,O,R,U]) I J]
def tE(H H':Hp)(v:V)(r:Row):=∃t l,v=.ref t/\H' t=some (.tup [.int r.1,.ref l])/\H l=some (.lst r.2)
theorem tE.row{H H':Hp}{v:V}{r:Row}(h:tE H H' v r)(s:ζ H H'):gO H' v r:=by
 let#[t,l,e,e1,a]:=h;show#[t,l,e,e1,s _ _ a]
theorem Xi{α β:Type}{R:α->β->Prop}{l:List α}{m:List β}{a:α}{b:β}{k:Nat}(h:ς R l m)(r:R a b):ς R (gQ l k a) (gQ m k b):=(h.take k).app (.cons r (h.drop k))
inductive Oh (K:ϩ) (mg:Str->Option ε) (t:Tr) (vs:List V) (H:Hp) (Q:VK) (E:XK):Prop
 |mk (a p:δ) (z:Str) (rs:List Row):vs=[.ref a,.ref p]->cC mg H t a z->dX H p rs->rs.length<=1000->(∀r∈rs,pZ r.2 t)->(∀q ws H',ζ H H'->H q=none->H' q=some (.lst ws)->ς (tE H H') ws (rs.filter λr=>Ϝ r.2 t)->Q (.ref q) H')->Oh K mg t vs H Q E
theorem afH(rs:List Row)(f:Row->Bool):(jq (λi=>f (rs.getD i (0,[]))) rs.length).map (λi=>rs.getD i (0,[]))=rs.filter f:=by
 unfold jq;let h:=map_getD (0,[]) rs
 conv=>rhs;rw[<-h]
 rw[apc];rfl
theorem Ge{α β c:Type}{R:α->c->Prop}(g:β->c):∀{l:List α}{m:List β},ς (λa b=>R a (g b)) l m->ς R l (m.map g)
 |_,_,.nil=>.nil
 |_,_,.cons h t=>.cons h (Ge g t)
theorem BL(T:Txt K mg)(t:Tr):Def P w K mg base true (4+t.dep) "let_through" ["sieve","rows"] (Oh K mg t):=by
 rw[show 4+t.dep=(3+t.dep)+1 by omega];show Γ (N:=["sieve","rows"]) T.BL (λ_ _ _ _ _ H vs Q E U h=>?_);intro X _;let#[a,p,z,rs,rfl,G,#[ws,W,g],hl,Y,q]:=h;let hsz:=ϱ;let o:=g.len;let I:(["row","values","sieve"]:List Str).Nodup:=by fin2
 f_len;show ψ ?_;show aaS ["row","values","sieve"] (σ':=[none,none,some (.ref a)]) (by rfl) (by rfl) (du (ω TF)) (by intro _;rfl) ?_;lk;show#[p,ws,rfl,η.of W,(),λJ=>∃L M,J=[L,M,some (.ref a)],λi=>Ϝ (rs.getD i (0,[])).2 t,λj i u H'=>u≠.ref j/\tE H H' u (rs.getD i (0,[])),#[none,none,rfl],λj i v H2 H3 ys Z hk h=>?_,λfp j C s3 H0 i J x H2 O hx s f c=>?_,λj H2 us O e2 R f=>?_]
 .let#[h0,y,l,e,h1,h2]:=h;show#[h0,y,l,e,hk _ _ (λz=>by rw[z,Z]at h1;cases h1) h1,h2]
 .let#[L,M,rfl]:=s;let#[r,m,tr,S,rfl,B,n]:=g.get hx;let#[ys,c]:=c;let D:rs.getD i (0,[])=r:=by rw[acO,m];rfl
  let#[da,fa,ea,la]:=(G.same f).ins;show ϥ (ρ.of (f _ _ B)) (Δ (Α I (by rfl) (.inl rfl) (.inr rfl) (Δ (Α I (by rfl) (.inl rfl) (.inr rfl) (aa ?_)))));show M5 (λ_=>by rfl) ?_;show cz (pl:=_) U (by walk_at"xo") (by rfl) (by rfl) (by rfl) ?_;f_are;show#[a,dR mg t,da,_,true,3+t.dep,_,gM K mg t,rfl,ea,la,xO T t,ϭ _,id,?_];lk;show#[a,S,z,r.2,rfl,G.same f,η.of (f _ _ n),Y r (aaM m),?_];show#[_,rfl,(by show Ϝ r.2 t=Ϝ (rs.getD i (0,[])).2 t;rw[D]),#[_,_,rfl],ζ.refl _,λ_=>?_];lk;show#[Ζ,λy F=>?_];show#[#[λz=>?_,y,S,rfl,by rw[D];show υ,by rw[D];show n],ζ.upd F];injection z with z
  rw[z,c]at F;cases F
 .rw[o]at R;let Fv:ς (tE H H2) us (rs.filter λr=>Ϝ r.2 t):=by
   rw[<-afH rs λr=>Ϝ r.2 t];show Ge _ (R.imp λu i z=>by
    show z.2)
  show q j us H2 f O e2 Fv
theorem Wl{cs:List ξ}{os:List Ord}(g:bw cs os):∀{l m:List Row},(∀r∈l,ύ cs r)->l.Perm m->Line cs os l->Line cs os m->l=m
 |[],m,_,h,_,_=>List.Perm.nil_eq h
 |a::l,[],_,h,_,_=>absurd h.length_eq (by simp)
 |a::l,b::m,i,h,h1,h2=>by
  let c:=alX.mp h1;let f:=alX.mp h2;let e:a=b:=by
   let ha:a∈b::m:=h.mem_iff.mp (by simp);let hb:b∈a::l:=h.mem_iff.mpr (by simp);obtain e|ha:=ϲ.mp ha
   .show e
   .obtain e|hb:=ϲ.mp hb
    .show e.symm
    .let x1:aL cs os a b=true:=c.1 b hb;let x2:aL cs os b a=true:=f.1 a ha;let j:=bN (i a (by simp)) g;let n:=bN (i b (by simp[hb])) g;let x3:aq os (Ξ cs os a.2) (Ξ cs os a.2) a.1 a.1=true:=sV j n j x1 x2;rw[wX (aie cs os a.2)]at x3;show absurd (of_decide_eq_true x3) ()
  subst e;rw[Wl g (λr o=>i r (by simp[o])) (List.Perm.cons_inv h) c.2 f.2]
theorem O7{α:Type}:∀{m:List (Int×α)}{p:Int×α},(m.map (·.1)).Nodup->p∈m->Μ m p.1=some p.2
 |q::m,p,f,hp=>by
  let a:=aml.mp f;obtain rfl|hp:=ϲ.mp hp
  .unfold Μ;rw[adZ,decide_eq_true rfl];rfl
  .let g:¬q.1=p.1:=λe=>a.1 (adw.mpr #[p,hp,e.symm])
   let c:=O7 a.2 hp;unfold Μ at c⊢;rw[adZ,decide_eq_false g];show c
theorem T6{rows:List (Int×List V)}{ks:List Int}(a:(rows.map (·.1)).Nodup)(h:ks.Perm (rows.map (·.1))):(bW rows ks).Perm rows:=by
 let h1:(bW rows ks).Perm (bW rows (rows.map (·.1))):=h.map _;let h2:bW rows (rows.map (·.1))=rows:=by
  unfold bW;rw[afC];have:rows.map ((λk=>(k,(Μ rows k).getD []))∘λx=>x.1)=rows.map id:=ajx λp c=>by
   show(p.1,(Μ rows p.1).getD [])=p;rw[O7 a c];rfl
  rw[this,an5]
 rw[h2]at h1;show h1
theorem afL{cs:List ξ}{xs:List V}(h:ς (λ(c:ξ) x=>ϓ c.2 x) cs xs):∀{n:dq},yo cs n->SM xs n
 |.all,_=>trivial
 |.none p,f=>by
   have:=h.len;show p<xs.length;let s:p<cs.length:=f;omega
 |.look l p v,f=>by
   let#[c,u,o,q,hh]:=f;let#[x,B,g]:=h.get u;show#[x,B,?_];obtain e|⟨a,i,rfl,_⟩|⟨a,y,rfl,_⟩:=g
   .show .inl e
   .right;obtain e|⟨_,j,rfl,_⟩|⟨m,_⟩:=o
    .show absurd e q
    .cases l with
     |holds=>rw[hh rfl]at a;show absurd a (by fin2)
     |is=>show#[rfl,rfl,.inr (.inr (.inl #[i,j,rfl,rfl]))]
     |over=>show#[rfl,rfl,.inr (.inr (.inl #[i,j,rfl,rfl]))]
    .show absurd a m
   .right;obtain e|⟨m,_⟩|⟨_,z,rfl,_⟩:=o
    .show absurd e q
    .show absurd m a
    .cases l with
     |holds=>show#[y,z,rfl,rfl]
     |is=>show#[rfl,rfl,.inr (.inr (.inr #[y,z,rfl,rfl]))]
     |over=>show#[rfl,rfl,.inr (.inr (.inr #[y,z,rfl,rfl]))]
theorem yu{cs:List ξ}{xs:List V}(h:ς (λ(c:ξ) x=>ϓ c.2 x) cs xs):∀{t:Tr},gU cs t->pZ xs t
 |.one s,a=>afL h a
 |.nt t,a=>yu h (t:=t) a
 |.ei t u,a=>#[yu h a.1,yu h a.2]
theorem acM{H:Hp}{a:δ}{xs:List V}(h:η K H a xs):H a≠none\/∀H',η K H' a xs:=by
 rcases h with(h|⟨u,h⟩)|h
 .show .inl (by rw[h];nofun)
 .show .inl (by rw[h];nofun)
 .show .inr λ_=>.inr h
def NT(H:Hp)(S:List δ):=∀x∈S,∀ys,H x≠some (.tup ys)
theorem NT.tup{H H':Hp}{S:List δ}(h:NT H S)(o:Out S H H'):∀b ys,H b=some (.tup ys)->H' b=some (.tup ys):=λb ys e=>o b _ (λz=>h b z ys e) e
def _root_._V.BA.six(A:BA):List δ:=[A.h,A.r,A.t,A.d,A.b,A.dx]
theorem _root_._V.Κ.KD{C:δ}{H:Hp}{A:BA}{B:Bk}(k:Κ C H A B):∀x∈A.six,H x≠none:=by
 intro x c;let a:x=A.h\/x=A.r\/x=A.t\/x=A.d\/x=A.b\/x=A.dx:=by simpa [BA.six]using c
 let#[_,e,_]:=k.heads;let#[_,f,_]:=k.rows;let#[_,g,_]:=k.touched;let#[_,i,_]:=k.done;obtain rfl|rfl|rfl|rfl|rfl|rfl:=a
 .rw[e];nofun
 .rw[f];nofun
 .rw[g];nofun
 .rw[i];nofun
 .rw[k.ins];nofun
 .rw[k.own];nofun
theorem Zn{A:BA}{x:δ}(c:x∈[A.b,A.dx,A.h,A.r,A.t,A.d]):x∈A.six:=by
 let a:x=A.b\/x=A.dx\/x=A.h\/x=A.r\/x=A.t\/x=A.d:=by simpa using c
 obtain rfl|rfl|rfl|rfl|rfl|rfl:=a<;>simp[BA.six]
theorem _root_._V.Κ.out{C:δ}{H H':Hp}{A:BA}{B:Bk}{S:List δ}(k:Κ C H A B)(o:Out S H H')(nt:NT H S)(a:∀x∈A.six,x∉S):Κ C H' A B:=
 k.stay (nt.tup o) λx u c e=>o x u (a x (Zn c)) e
theorem made{C:δ}{H H':Hp}{y dx:δ}{A:BA}(f:H y=none)(a:H dx=none)(i:A.b=y)(j:A.dx=dx)(l:(upd (upd H dx (.own y)) y (.ins C dx [])) A.h=none)(m:(upd (upd H dx (.own y)) y (.ins C dx [])) A.r=none)(n:(upd (upd H dx (.own y)) y (.ins C dx [])) A.t=none)(p:(upd (upd H dx (.own y)) y (.ins C dx [])) A.d=none)(o:Out [y] (upd (upd H dx (.own y)) y (.ins C dx [])) H'):ζ H H'/\∀x∈A.six,H x=none:=by
 let c:ζ H (upd (upd H dx (.own y)) y (.ins C dx [])):=λb u e=>by
  rw[ο (λz=>by rw[z,f]at e;cases e),ο (λz=>by rw[z,a]at e;cases e)];show e
 show#[λb u e=>o b u (λz=>by rw[acN.mp z,f]at e;cases e) (c b u e),λx q=>?_];let g:x=A.h\/x=A.r\/x=A.t\/x=A.d\/x=A.b\/x=A.dx:=by simpa [BA.six]using q
 obtain rfl|rfl|rfl|rfl|rfl|rfl:=g
 .show c.free l
 .show c.free m
 .show c.free n
 .show c.free p
 .rw[i];show f
 .rw[j];show a
def ι:List ξ:=[(Ϫ "size",Ϫ "number"),(Ϫ "word",Ϫ "text")]
def fY(k:Int):List Ord:=if k=1 then[(Ϫ "size",true)]else if k=2 then[(Ϫ "word",false)]else if k=3 then[(Ϫ "size",false),(Ϫ "word",true)]else if k=4 then[(Ϫ "word",true),(Ϫ "size",true)]else[]
def ϝ:Nat->Tr
 |1=>.one (.look .over 0 (.int (-1)))
 |2=>.nt (.one (.none 1))
 |3=>.ei (.one (.look .is 0 (.int 0))) (.one (.look .holds 1 (.str ("a":Str))))
 |_=>.one .all
theorem lG:ώ ι=true:=by fin2
theorem vo{P:List Ord->Prop}(k:Int)(a:P [])(h1:P [(Ϫ "size",true)])(h2:P [(Ϫ "word",false)])(c:P [(Ϫ "size",false),(Ϫ "word",true)])(e:P [(Ϫ "word",true),(Ϫ "size",true)]):P (fY k):=by
 unfold fY;split
 .show h1
 .split
  .show h2
  .split
   .show c
   .split
    .show e
    .show a
theorem afS(k:Int):bw ι (fY k):=by
 let s:∃c∈ι,c.1=Ϫ "size":=#[_,aex ..,rfl];let t:∃c∈ι,c.1=Ϫ "word":=#[_,adP _ (aex ..),rfl];show vo (P:=bw ι) k ?_ ?_ ?_ ?_ ?_<;>intro o ho
 .cases ho
 .rw[acN.mp ho];show s
 .rw[acN.mp ho];show t
 .obtain e|ho:=ϲ.mp ho
  .rw[e];show s
  .rw[acN.mp ho];show t
 .obtain e|ho:=ϲ.mp ho
  .rw[e];show t
  .rw[acN.mp ho];show s
theorem ajS(k:Int):(fY k).length<=4:=vo (P:=λl=>l.length<=4) k (by decide) (by decide) (by decide) (by decide) (by decide)
theorem X5(k:Int):((fY k).map Prod.fst).Nodup:=vo (P:=λl=>(l.map Prod.fst).Nodup) k (by fin2) (by fin2) (by fin2) (by fin2) (by fin2)
theorem ahp(k:Int):∀o∈fY k,o.1.length<=1000:=vo (P:=λl=>∀o∈l,o.1.length<=1000) k (by fin2) (by fin2) (by fin2) (by fin2) (by fin2)
theorem zT{P:Nat->Tr->Prop}(k:Nat)(e:k<4)(a:P 0 (.one .all))(h1:P 1 (.one (.look .over 0 (.int (-1)))))(h2:P 2 (.nt (.one (.none 1))))(c:P 3 (.ei (.one (.look .is 0 (.int 0))) (.one (.look .holds 1 (.str ("a":Str)))))):P k (ϝ k):=by
 obtain _|_|_|_|k:=k
 .show a
 .show h1
 .show h2
 .show c
 .omega
theorem acF{k:Nat}(a:k<4):gU ι (ϝ k):=by
 show zT (P:=λ_ t=>gU ι t) k a trivial #[_,rfl,.inr (.inl #[rfl, -1,rfl,by decide,by decide]),(λe=>by cases e),(λe=>by cases e)] (show 1<2 by decide) #[#[_,rfl,.inr (.inl #[rfl,0,rfl,by decide,by decide]),(λe=>by cases e),(λe=>by cases e)],#[_,rfl,.inr (.inr #[by fin2,_,rfl,by fin2,by fin2]),(λe=>by cases e),λ_=>rfl]]
theorem Vy{k:Nat}(a:k<4):(ϝ k).dep<=1/\(wT (Ν ι) (ϝ k)).length<=60:=by
 show zT (P:=λ_ t=>t.dep<=1/\(wT (Ν ι) t).length<=60) k a #[by show 0<=1;decide,by show 1<=60;decide] #[by show 0<=1;decide,by show 3<=60;decide] #[by show 1<=1;decide,by show 3<=60;decide] #[by show 1<=1;decide,by show 7<=60;decide]
def Ck:List Str:=[Ϫ "all",Ϫ "over size -1",Ϫ "not none word",Ϫ "either is size 0 holds word 'a"]
theorem aiU{k:Nat}(a:k<4):Ck[k]?=some (aeM " " (wT (Ν ι) (ϝ k))):=by
 show zT (P:=λk t=>Ck[k]?=some (aeM " " (wT (Ν ι) t))) k a ?_ ?_ ?_ ?_<;>fin2
theorem aes{r:Row}(h:ύ ι r):∃x y,r.2=[x,y]/\ϓ ("number":Str) x/\ϓ ("text":Str) y:=by
 let#[n,xs]:=r;let h':ς (λ(c:ξ) x=>ϓ c.2 x) ι xs:=h;cases h' with
 |cons a t=>
  cases t with
  |cons b t=>
   cases t;show#[_,_,rfl,a,b]
inductive Ib (vs:List V) (H:Hp) (Q:VK) (E:XK):Prop
 |mk (k:Int):vs=[.int k]->(∀p H',ζ H H'->H p=none->aH H' p (fY k)->Q (.ref p) H')->Ib vs H Q E
theorem DG(T:Txt K mg):Def P w K mg base true 1 "_law_order" ["_law_k"] Ib:=by
 show Γ (N:=["_law_k"]) T.DG (λ_ _ _ _ _ H vs Q E x h=>?_);intro X _;let#[k,rfl,q]:=h;let hsz:=ϱ;let one:∀(o:Ord)(t p:δ),H t=none->(upd H t (.tup [.str o.1,.bl o.2])) p=none->fY k=[o]->Q (.ref p) (upd (upd H t (.tup [.str o.1,.bl o.2])) p (.lst [.ref t])):=λo t p c a e=>by
  let i:ζ H (upd H t (.tup [.str o.1,.bl o.2])):=ζ.upd c;let g:=ζ.upd (o:=.lst [.ref t]) a;show q p _ (i.trans g) (i.free a) (by rw[e];show#[_,υ,.cons #[t,rfl,g _ _ υ] .nil])
 let two:∀(o f:Ord)(t u p:δ),H t=none->(upd H t (.tup [.str o.1,.bl o.2])) u=none->(upd (upd H t (.tup [.str o.1,.bl o.2])) u (.tup [.str f.1,.bl f.2])) p=none->fY k=[o,f]->Q (.ref p) (upd (upd (upd H t (.tup [.str o.1,.bl o.2])) u (.tup [.str f.1,.bl f.2])) p (.lst [.ref t,.ref u])):=λo f t u p c j a e=>by
  let i:ζ H (upd H t (.tup [.str o.1,.bl o.2])):=ζ.upd c;let g:=ζ.upd (o:=.tup [.str f.1,.bl f.2]) j;let l:=ζ.upd (o:=.lst [.ref t,.ref u]) a;show q p _ ((i.trans g).trans l) ((i.trans g).free a) (by rw[e];show#[_,υ,.cons #[t,rfl,(g.trans l) _ _ υ] (.cons #[u,rfl,l _ _ υ] .nil)])
 w_up;show Θ ?_;lk;show Η (λh1=>?_) (λh1=>?_)
 .let e:k=1:=by injection h1
  f_len;show ψ ?_;lk;show#[Ζ,λt c=>?_];lk;show#[Ζ,λp a=>?_];show one (Ϫ "size",true) t p c a (by rw[e];rfl)
 let n1:¬k=1:=λe=>h1 (by rw[e])
 show Ε ?_;w_up;show Θ ?_;lk;show Η (λh2=>?_) (λh2=>?_)
 .let e:k=2:=by injection h2
  f_len;show ψ ?_;lk;show#[Ζ,λt c=>?_];lk;show#[Ζ,λp a=>?_];show one (Ϫ "word",false) t p c a (by rw[e];rfl)
 let n2:¬k=2:=λe=>h2 (by rw[e])
 show Ε ?_;w_up;show Θ ?_;lk;show Η (λm=>?_) (λm=>?_)
 .let e:k=3:=by injection m
  f_len;show ψ ?_;lk;show#[Ζ,λt c=>?_];lk;show#[Ζ,λu j=>?_];lk;show#[Ζ,λp a=>?_];show two (Ϫ "size",false) (Ϫ "word",true) t u p c j a (by rw[e];rfl)
 let s:¬k=3:=λe=>m (by rw[e])
 show Ε ?_;w_up;show Θ ?_;lk;show Η (λn=>?_) (λn=>?_)
 .let e:k=4:=by injection n
  f_len;show ψ ?_;lk;show#[Ζ,λt c=>?_];lk;show#[Ζ,λu j=>?_];lk;show#[Ζ,λp a=>?_];show two (Ϫ "word",true) (Ϫ "size",true) t u p c j a (by rw[e];rfl)
 let v:¬k=4:=λe=>n (by rw[e])
 show Ε ?_;f_len;show ψ ?_;lk;show#[Ζ,λp a=>?_];show q p _ (ζ.upd a) a ?_;rw[show fY k=[]by unfold fY;rw[if_neg n1,if_neg n2,if_neg s,if_neg v]];show#[_,υ,.nil]
theorem zK(T:Txt K mg):Def P w K mg base true 1 "_law_order_words" ["_law_order_here"] Gr:=by
 show Γ (N:=["_law_order_here"]) T.zK (λ_ _ _ _ _ H vs Q E hr h=>?_);intro X _;let#[a,os,rfl,#[vs,L,e],hl,z,q]:=h;let M:(["_law_one"]:List Str).Nodup:=by fin2
 let hsz:=ϱ;let O:=e.len;let B:("+":Str).length=1:=by fin2
 let D:("-":Str).length=1:=by fin2
 let R:(" ":Str).length=1:=by fin2
 f_len;show ψ ?_;show dw F.plainAttrs_str F.slot_str_join F.type_str_join (h:=?_);f_are;show#[by rfl,eF (by rfl) ?_];show nW ["_law_one"] (σ':=[none]) (du (ω J4)) ?_;f_are;show#[a,vs,rfl,η.of L,(),λG=>∃I,G=[I],λj i u H'=>∃c,os[i]?=some c/\u=.str (Ϙ c),#[none,rfl],λj i u H2 S ys _ _ p=>p,λfp j C s3 H0 i G x J S U hi m f W Y=>?_,λj J ys U n s Z f =>?_]
 .let#[I,rfl]:=m;let#[cI,rfl]:=Y;let#[c,v,t,rfl,y]:=e.get cI;let hcn:=z c (aaM v);show Α M (by rfl) (.inl rfl) (.inr rfl) ?_;lk;show ϑ (ρ.of (f _ _ y)) (show Ω [V.str c.1,V.bl c.2] 1=some (V.bl c.2)from rfl) ?_;lk;show ji (λh=>?_) (λh=>?_)
  .lk;show ϑ (ρ.of (f _ _ y)) (show Ω [V.str c.1,V.bl c.2] 0=some (V.str c.1)from rfl) ?_;show fB (by rw[B];omega) ?_;show#[#[_,rfl],#[c,v,by unfold Ϙ;rw[if_pos h]],ζ.refl _]
  .lk;show ϑ (ρ.of (f _ _ y)) (show Ω [V.str c.1,V.bl c.2] 0=some (V.str c.1)from rfl) ?_;show fB (by rw[D];omega) ?_;show#[#[_,rfl],#[c,v,by unfold Ϙ;rw[if_neg (by rw[h];show aaN)]],ζ.refl _]
 .let ey:=jD (ys:=os) (λc=>V.str (Ϙ c)) (by rw[n,O]) s;let jJ:ys=(os.map Ϙ).map V.str:=by rw[ey,afC];rfl
  subst jJ;cbv;show rW (η.of Z) ?_ (q J f);rw[R,aav];let g:∀l:List Ord,(∀o∈l,o.1.length<=1000)->((l.map Ϙ).map (·.length)).sum<=l.length*1001:=by
   intro l;induction l with
   |nil=>intro _;simp
   |cons o l ih=>
    intro h;let h1:=ih λx hx=>h x (by simp[hx])
    let h2:=h o (by simp);let h3:(Ϙ o).length<=1001:=by
     unfold Ϙ;rw[len_app];split
     .rw[B];omega
     .rw[D];omega
    simp only[ad4,anf,acV];omega
  have:=g os z;omega
inductive Le (vs:List V) (H:Hp) (Q:VK) (E:XK):Prop
 |mk (k:Nat):vs=[.int (k:Nat)]->k<4->(∀H',ζ H H'->Q (.str (aeM " " (wT (Ν ι) (ϝ k)))) H')->Le vs H Q E
theorem Dd(T:Txt K mg):Def P w K mg base true 1 "_law_sieve_words" ["_law_sieve"] Le:=by
 show Γ (N:=["_law_sieve"]) T.Dd (λ_ _ _ _ _ H vs Q E e h=>?_);intro X _;let#[k,rfl,a,q]:=h;let hsz:=ϱ;f_len;show ψ ?_;lk;show#[Ζ,λp c=>?_];lk;show Ϡ (η.of (xs:=Ck.map V.str) υ) (v:=.str (aeM " " (wT (Ν ι) (ϝ k)))) (ϣ (by rw[abD,aiU a];rfl)) ?_;show q _ (ζ.upd c)
inductive R7 (vs:List V) (H:Hp) (Q:VK) (E:XK):Prop
 |mk (k:Nat) (l:δ) (r:Row):vs=[.int (k:Nat),.ref l]->k<4->H l=some (.lst r.2)->ύ ι r->Q (.bl (Ϝ r.2 (ϝ k))) H->R7 vs H Q E
theorem zH(T:Txt K mg):Def P w K mg base true 1 "_law_lets" ["_law_sieve","_law_values_here"] R7:=by
 show Γ (N:=["_law_sieve","_law_values_here"]) T.zH (λ_ _ _ _ _ H vs Q E G h=>?_);intro X _;let#[k,l,r,rfl,I,a,B,q]:=h;let#[x,y,C,j,u]:=aes B;rw[C]at a q;let m:Ω [x,y] 0=some x:=rfl;let n:Ω [x,y] 1=some y:=rfl;let fin:∀b:Bool,b=Ϝ [x,y] (ϝ k)->Q (.bl b) H:=λb e=>by rw[e];show q
 w_up;show Θ ?_;lk;show Η (λh1=>?_) (λh1=>?_)
 .let e:k=1:=by injection h1 with h1;omega
  subst e;f_len;show ψ ?_;lk;show Ϡ (η.of a) m ?_;obtain rfl|⟨_,i,rfl,_⟩|⟨f,_⟩:=j
  .lk;show fin _ rfl
  .lk;show Ϡ (η.of a) m ?_;lk;show fin _ rfl
  .show absurd rfl f
 show Ε ?_;w_up;show Θ ?_;lk;show Η (λh2=>?_) (λh2=>?_)
 .let e:k=2:=by injection h2 with h2;omega
  subst e;f_len;show ψ ?_;lk;show Ϡ (η.of a) n ?_;obtain rfl|⟨f,_⟩|⟨_,z,rfl,_⟩:=u
  .lk;show fin _ rfl
  .show absurd f (by fin2)
  .lk;show fin _ rfl
 show Ε ?_;w_up;show Θ ?_;lk;show Η (λg=>?_) (λg=>?_)
 .let e:k=3:=by injection g with g;omega
  subst e;let o:∀b:Bool,b=Ϝ [x,y] (.one (.look .is 0 (.int 0)))->(b=true->Q (.bl true) H):=λb e1 p=>fin _ (by show true=(Ϝ [x,y] (.one (.look .is 0 (.int 0)))||_);rw[<-e1,p];rfl)
  let s:∀b:Bool,b=Ϝ [x,y] (.one (.look .is 0 (.int 0)))->b=false->∀c:Bool,c=Ϝ [x,y] (.one (.look .holds 1 (.str ("a":Str))))->Q (.bl c) H:=λb e1 p c D=>fin _ (by show c=(Ϝ [x,y] (.one (.look .is 0 (.int 0)))||Ϝ [x,y] (.one (.look .holds 1 (.str ("a":Str)))));rw[<-e1,p,D];rfl)
  let ex:∀b:Bool,b=decide (x=.int 0)->b=Ϝ [x,y] (.one (.look .is 0 (.int 0))):=λb e=>by
   rw[e];obtain rfl|⟨_,i,rfl,_⟩|⟨f,_⟩:=j
   .rfl
   .rfl
   .show absurd rfl f
  let F:=j.sc;f_len;show ψ ?_;f_are;f_are;f_are;f_are;f_are;show Ϡ (η.of a) m ?_;f_are;show Cd (wA F rfl) ?_;walk_at"t";show Η (λh=>?_) (λh=>?_)
  .show o _ (ex _ rfl) (decide_eq_true h)
  .lk;show Ϡ (η.of a) n ?_;let v:=s _ (ex _ rfl) (decide_eq_false h);obtain rfl|⟨f,_⟩|⟨_,z,rfl,_⟩:=u
   .lk;show v _ rfl
   .show absurd f (by fin2)
   .lk;show Ϡ (η.of a) n ?_;lk;show v _ rfl
 show Ε ?_;f_len;show ψ ?_;lk;let e:k=0:=by
  have:¬k=1:=λe=>h1 (by rw[e];rfl)
  have:¬k=2:=λe=>h2 (by rw[e];rfl)
  have:¬k=3:=λe=>g (by rw[e];rfl)
  omega
 subst e;show fin _ rfl
def iw(H:Hp)(v:V)(r:Row):=∃t l ys,v=.ref t/\H t=some (.tup (.int r.1:: .ref l::ys))/\H l=some (.lst r.2)
theorem iw.same{H H':Hp}{v:V}{r:Row}(h:iw H v r)(s:ζ H H'):iw H' v r:=by
 let#[t,l,ys,e,a,c]:=h;show#[t,l,ys,e,s _ _ a,s _ _ c]
inductive Iv (vs:List V) (H:Hp) (Q:VK) (E:XK):Prop
 |mk (b:δ) (u v:V) (os:List Ord) (r q:Row):vs=[.ref b,u,v]->aH H b os->bw ι os->iw H u r->iw H v q->ύ ι r->ύ ι q->(∀H',ζ H H'->Q (.bl (aL ι os r q)) H')->Iv vs H Q E
theorem wY(T:Txt K mg):Def P w K mg base true 1 "_law_ahead" ["_law_order_here","_law_one","_law_other"] Iv:=by
 show Γ (S:=R5) T.wY (λ_ _ A _ s H vs Q E hr h=>?_);intro X _;let#[b,u,v,os,r,q,rfl,#[ws,hb,C],Y,#[t1,Z,Qf,rfl,D,ab],#[t2,l2,Mm,rfl,bu,ac],G,Jp,g]:=h;let nd:=R5.nd;let hsz:=ϱ;let hwl:=C.len;let kr:=bN G Y;let kq:=bN Jp Y;let#[x1,x2,x3]:=kr.aJ kq;let hlr:=G.len;let hlq:=Jp.len;w_up;show uv (by walk_at"po") (by rfl) (by intro _;rfl) ?_;lk;show#[b,ws,rfl,η.of hb,λi σ H'=>(∃o1 o2 o3 o4 o5 o6,σ=[some (.ref b),some (.ref t1),some (.ref t2),o1,o2,o3,o4,o5,o6])/\ζ H H'/\∀j x y,j<i->(Ξ ι os r.2)[j]?=some x->(Ξ ι os q.2)[j]?=some y->x=y,#[#[none,none,none,none,none,none,rfl],ζ.refl _,λj x y h=>()],λi σ H' _ I=>η.of (I.2.1 _ _ hb),λi wv σ H' hx I=>?_,λσ H' I=>?_]
 .let#[#[o1,o2,o3,o4,o5,o6,rfl],l,a]:=I;let#[o,O,tt,rfl,ae]:=C.get hx;let J:=Y o (aaM O);let hpl:=pP J;let ex:r.2[ϊ ι o.1]?=some (aQ ι r.2 o.1):=by
   unfold aQ;rw[aah ()];rfl
  let ey:q.2[ϊ ι o.1]?=some (aQ ι q.2 o.1):=by
   unfold aQ;rw[aah ()];rfl
  let R:(Ξ ι os r.2)[i]?=some (aQ ι r.2 o.1):=by
   unfold Ξ;rw[abD,O];rfl
  let U:(Ξ ι os q.2)[i]?=some (aQ ι q.2 o.1):=by
   unfold Ξ;rw[abD,O];rfl
  let#[sx,L,f]:=x3 i _ _ R U;let yK:=λW=>Tg (n:=r.1) (k:=q.1) x1 x2 O R U a W
  generalize aQ ι r.2 o.1=x at ex R sx f yK;generalize aQ ι q.2 o.1=y at ey U L f yK;show ϥ (ρ.of (l _ _ ae)) (Δ (Α nd (by rfl) (.inl rfl) (.inl rfl) (Δ (Α nd (by rfl) (.inl rfl) (.inl rfl) (aa ?_)))));w_up;f_tup;show dw F.plainAttrs_list F.slot_list_index F.type_list_index (h:=?_);lk;show#[Ζ,λp hp=>?_];let s1:ζ H' (upd H' p (.lst ((ι.map Prod.fst).map V.str))):=ζ.upd hp;let e1:(upd H' p (.lst ((ι.map Prod.fst).map V.str))) p=some (.lst ((ι.map Prod.fst).map V.str)):=υ;show#[.inl #[rfl,_,η.of υ],?_];change EA _ _ _ (upd H' p (.lst ((ι.map Prod.fst).map V.str))) _;generalize upd H' p (.lst ((ι.map Prod.fst).map V.str))=H1 at s1 e1⊢;let B :=l.trans s1;lk;show ajb (η.of e1) (ahX J) (λm y h e=>abg h e) ?_;k_go;show ϑ (ρ.of (B _ _ D)) (show Ω (V.int r.1::V.ref Z::Qf) 1=some (V.ref Z)from ϣ (j:=1) rfl) ?_;lk;show Ϡ (η.of (B _ _ ab)) (ϣ ex) ?_;k_go;show ϑ (ρ.of (B _ _ bu)) (show Ω (V.int q.1::V.ref l2::Mm) 1=some (V.ref l2)from ϣ (j:=1) rfl) ?_;lk;show Ϡ (η.of (B _ _ ac)) (ϣ ey) ?_;f_len;show Θ ?_;lk;show El (wA sx L) ?_;lk;show ji (λh=>?_) (λh=>?_)
  .let W:¬x=y:=by simpa using h
   let fin:∀(c:Bool),c=before x y->Q (.bl (decide (V.bl c=V.bl o.2))) H1:=λc ec=>by
    rw[show decide (V.bl c=V.bl o.2)=aL ι os r q by
     show _=aq os (Ξ ι os r.2) (Ξ ι os q.2) r.1 q.1;rw[yK W,ec]
     congr 1
     show propext #[λz=>by injection z,λz=>by rw[z]]]
    show g H1 B
   cases x with
   |non=>
    cases y with
    |non=>show absurd rfl W
    |int j=>
     cbv;show fin _ rfl
    |str z=>
     cbv;show fin _ rfl
    |_=>show absurd L aaN
   |int i1=>
    cases y with
    |non=>
     cbv;show fin _ rfl
    |int j=>
     cbv;show fin _ rfl
    |str z=>obtain z|z|⟨_,_,_,z⟩|⟨_,_,z,_⟩:=f<;>cases z
    |_=>show absurd L aaN
   |str z1=>
    cases y with
    |non=>
     cbv;show fin _ rfl
    |int j=>obtain z|z|⟨_,_,z,_⟩|⟨_,_,_,z⟩:=f<;>cases z
    |str z=>
     cbv;show fin _ rfl
    |_=>show absurd L aaN
   |_=>show absurd sx aaN
  .let he:x=y:=by simpa using h
   show Ε #[#[_,_,_,_,_,_,rfl],B,λj x' y' hj e1 M=>?_];by_cases e:j=i
   .subst e;rw[R]at e1;rw[U]at M;cases e1;cases M;show he
   .show a j x' y' () e1 M
 .let#[#[o1,o2,o3,o4,o5,o6,rfl],l,a]:=I;f_len;show ψ ?_;lk;show ϑ (ρ.of (l _ _ D)) (show Ω (V.int r.1::V.ref Z::Qf) 0=some (V.int r.1)from ϣ (j:=0) rfl) ?_;lk;show ϑ (ρ.of (l _ _ bu)) (show Ω (V.int q.1::V.ref l2::Mm) 0=some (V.int q.1)from ϣ (j:=0) rfl) ?_;lk;rw[<-Om (n:=r.1) (k:=q.1) x1 x2 λj x y hj e1 M=>a j x y () e1 M];show g _ l
def jV:List V:=[.non,.str ("":Str),.str ("a":Str),.str ("ab":Str),.str ("b":Str),.str ("ba":Str)]
theorem aiD:∀v∈jV,ϓ ("text":Str) v:=by
 let tx:∀z:Str,z.length<=20/\(∀c∈z.cps.toList,c∈SG)->ϓ ("text":Str) (.str z):=λz h=>.inr (.inr #[by fin2,z,rfl,h.1,h.2])
 intro v a;simp only[jV,ϲ,ahh,or_false]at a;obtain rfl|rfl|rfl|rfl|rfl|rfl:=a
 .show .inl rfl
 all_goals show tx _ (by fin2)
inductive Qw (K:ϩ) (vs:List V) (H:Hp) (Q:VK) (E:XK):Prop
 |mk (a:δ) (ns:List Int) (k:Int):vs=[.ref a,.int k]->η K H a (ns.map V.int)->ns.length<=63->0<=k->k<=40000->(∀p xs H',ζ H H'->H p=none->H' p=some (.lst xs)->ς (λ(c:ξ) x=>ϓ c.2 x) ι xs->Q (.ref p) H')->Qw K vs H Q E
theorem yH(T:Txt K mg):Def P w K mg base true 2 "_law_values" ["_law_script","_law_base"] (Qw K):=by
 show Γ (S:=Jo) T.yH (λ_ _ A _ s H vs Q E C h=>?_);intro X _;let#[a,ns,k,rfl,g,i,u,z,q]:=h;let nd:=Jo.nd;let hsz:=ϱ;let D:= @lH P w K mg base T;let tail:∀x:V,ϓ ("number":Str) x->Ο X ((aB Dg).drop 2) {nx:=λ_ H'=>Q .non H',rt:=Q} [some (.ref a),some (.int k),some x] H:=by
  intro x B;f_len;show ψ ?_;lk;show#[Ζ,λp1 f=>?_];let#[c,e1]:=ϒ f (.lst jV);change EV _ _ _ (upd H p1 (.lst jV)) _;generalize upd H p1 (.lst jV)=H1 at c e1⊢;lk;show#[a,ns,k+1,6,rfl,c.seq g,i,(),(),by decide,?_];let e:=eQ ns (k+1) (m:=6) (by decide);let c1:=fK ns (k+1) (m:=6) (by decide);generalize cA ns (k+1) 6=d at e c1⊢;let#[j,rfl]:=acf e;let l:j<jV.length:=by show j<6;omega
  show Ϡ (η.of e1) (v:=jV[j]) (ϣ (aah l)) ?_;let n:=aiD _ (agJ l);generalize jV[j]=y at n⊢;lk;show#[Ζ,λp o=>?_];show q p _ _ (c.trans (ζ.upd o)) (c.free o) υ (.cons B (.cons n .nil))
 k_go;show#[a,ns,k,6,rfl,g,i,(),(),by decide,?_];let e:=eQ ns k (m:=6) (by decide);let c1:=fK ns k (m:=6) (by decide);generalize cA ns k 6=d at e c1⊢;lk;w_up;show Θ ?_;lk;show Η (λh=>?_) (λh=>?_)
 .f_len;f_tup;lk;show tail .non (.inl rfl)
 .show Ε (tail _ (.inr (.inl #[rfl,_,rfl,(),()])))
abbrev eZ:=Int×List V×Bool
def fV(H:Hp)(v:V)(r:eZ):=∃t l,v=.ref t/\H t=some (.tup [.int r.1,.ref l,.bl r.2.2])/\H l=some (.lst r.2.1)
theorem fV.same{H H':Hp}{v:V}{r:eZ}(h:fV H v r)(s:ζ H H'):fV H' v r:=by
 let#[t,l,e,a,c]:=h;show#[t,l,e,s _ _ a,s _ _ c]
structure sJ where
 rows:List eZ
 back:V
 bL:V
 many:Int
 ahead:Int
 moment:Int
def gk(r:eZ):PyData:=.tuple [.int r.1,.list (r.2.1.map dV),.bool r.2.2]
def aar(x:V):Prop:=jQ x=true/\∀z,x=.str z->iD 4000 z
def layR(rs:List eZ):=∀r∈rs,∀x∈r.2.1,aar x
theorem V3:∀{rs:List eZ},layR rs->PyData.canLayAll0 (rs.map gk)=true
 |[],_=>rfl
 |r::rs,h=>by
  let a:=V3 (rs:=rs) λd hd=>h d (by simp[hd])
  let h1:(PyData.list (r.2.1.map dV)).canLay0=true:=Ei λx c=>h r (by simp) x c
  show((gk r).canLay0&&PyData.canLayAll0 (rs.map gk))=true;rw[a,Bool.and_true];show(true&&((PyData.list (r.2.1.map dV)).canLay0&&(true&&true)))=true;rw[h1];rfl
theorem Y8(r:eZ):(gk r).depth<=4:=by
 have:=BV r.2.1;simp only[gk,PyData.depth,PyData.depthAll];omega
theorem M8:∀rs:List eZ,PyData.depthAll (rs.map gk)<=4
 |[]=>by show(0:Nat)<=4;omega
 |r::rs=>by
  let a:=M8 rs;let h1:=Y8 r;show max (gk r).depth (PyData.depthAll (rs.map gk))<=4;omega
theorem PJ{H:Hp}{vs:List V}{rs:List eZ}(h:ς (fV H) vs rs)(g:layR rs):fW K H vs (rs.map gk):=by
 induction h with
 |nil=>show .nil
 |cons r t a=>
  let#[p,l,rfl,h1,h2]:=r;show .cons (.tup (ρ.of h1) (.cons (.int _) (.cons (.lst (η.of h2) (Cv ?_)) (.cons (.bl _) .nil)))) (a λr c=>g r (by simp[c]));show acX.mpr λx e=>(g _ (by simp) x e).1
abbrev sT(cs:List ξ)(t:Tr):Str:=aeM " " (wT (Ν cs) t)
def cN(lv:Bool)(mo:Nat)(os:List Ord)(z:Str):Option Ct->V
 |some (.at_ sd xs n)=>.str (bO #[lv,mo,os,z,#[sd,n.toNat,xs]])
 |_=>.non
def lD(cs:List ξ)(os:List Ord)(c:Ct):=∃sd xs n,c=.at_ sd xs n/\cZ cs os xs/\0<=n/\n<=1000000000
structure u6(cs:List ξ)(os:List Ord)(t:Tr)(mo:Nat):Prop where
 ok:ώ cs=true
 o4:os.length<=4
 inc:bw cs os
 rD:(os.map Prod.fst).Nodup
 gt:gU cs t
 dp:t.dep<=20
 Iz:(wT (Ν cs) t).length<=60
 mo:mo<=5000
theorem u6.good{cs:List ξ}{os:List Ord}{t:Tr}{mo:Nat}(h:u6 cs os t mo){lv sd:Bool}{xs:List V}{n:Int}(a:cZ cs os xs)(h1:n<=1000000000):aZ cs #[lv,mo,os,sT cs t,#[sd,n.toNat,xs]]:=by
 let#[f,g,i,j]:=qP.good h.ok (z:=sT cs t) (n:=60) (d:=20) #[t,h.gt,h.dp,rfl,h.Iz] (by decide) (by decide);show#[h.mo,h.o4,λo l=>by let#[c,m,e]:=h.inc o l;show adw.mpr #[c,m,e],h.rD,by show n.toNat<=_;omega,a,f,g,i,j]
def dm:Bool->List ξ->List Ord->List Row->Ct->Nat->Lf
 |true=>Kq
 |false=>IK
def pF(cs:List ξ)(os:List Ord)(on:Bool)(c:Ct):Prop:=(on=true/\c=.start)\/(on=false/\c=.fin)\/lD cs os c
theorem pF.ok{cs:List ξ}{os:List Ord}{on:Bool}{c:Ct}(h:pF cs os on c):jE cs os c:=by
 obtain⟨_,rfl⟩|⟨_,rfl⟩|⟨sd,xs,n,rfl,a,_⟩:=h
 .trivial
 .trivial
 .show a
theorem Vw{cs:List ξ}{os:List Ord}{sd:Bool}{rs:List Row}{c:Ct}(e:bw cs os)(f:∀r∈rs,ύ cs r)(a:∀r∈rs,0<=r.1/\r.1<=1000000000)(g:rs=[]->lD cs os c):lD cs os (iV cs os sd rs c):=by
 cases rs with
 |nil=>show g rfl
 |cons r rs=>show#[sd,_,_,rfl,bN (f r (by simp)) e,(a r (by simp)).1,(a r (by simp)).2]
theorem Ij{α:Type}(l:List α){i j:Nat}(h:j<=l.length):(Τ l i j).length=j-i:=by
 unfold Τ;rw[afM,aeB];omega
theorem TX{cs:List ξ}{os:List Ord}{on:Bool}{c:Ct}{rs:List Row}{n:Nat}(h:mQ cs os rs)(o:∀r∈rs,0<=r.1/\r.1<=1000000000)(n1:1<=n)(p:pF cs os on c):∀d,(dm on cs os rs c n).back=some d\/(dm on cs os rs c n).bL=some d->lD cs os d:=by
 let s:=oZ (cs:=cs) (os:=os) (c:=c) (rs:=rs);let g:∀i j:Nat,i<=j->j<=rs.length->(i=j->(0<i\/j<rs.length)->lD cs os c)->∀d,(bx cs os rs c i j).back=some d\/(bx cs os rs c i j).bL=some d->lD cs os d:=by
  intro i j u v q d hd;let sub:∀r∈ Τ rs i j,r∈rs:=λr f=>ael (aeR f)
  let sl:=Ij rs (i:=i) v;obtain hd|hd:=hd
  .let a:(if 0<i then some (iV cs os true ((Τ rs i j).take 1) c)else none)=some d:=hd;split at a
   .next hi=>
    cases a;show Vw h.inc (λr f=>h.fit r (sub r (aeR f))) (λr f=>o r (sub r (aeR f))) λe=>q ?_ (.inl hi)
    have:=congrArg aji e;rw[afM,sl,aoi]at this;omega
   .cases a
  .let a:(if j<rs.length then some (iV cs os false ((Τ rs i j).drop ((Τ rs i j).length-1)) c)else none)=some d:=hd;split at a
   .next hi=>
    cases a;show Vw h.inc (λr f=>h.fit r (sub r (ael f))) (λr f=>o r (sub r (ael f))) λe=>q ?_ (.inr hi)
    have:=congrArg aji e;rw[aeB,sl,aoi]at this;omega
   .cases a
 cases on with
 |true=>
  show g (aA cs os c rs) (min (aA cs os c rs+n) rs.length) () (amZ ..) λe l=>?_
  obtain⟨_,rfl⟩|⟨z,_⟩|z:=p
  .let m:aA cs os .start rs=0:=rfl;rw[m]at e l;omega
  .cases z
  .show z
 |false=>
  show g (aA cs os c rs-n) (aA cs os c rs) () s λe l=>?_
  obtain⟨z,_⟩|⟨_,rfl⟩|z:=p
  .cases z
  .let m:aA cs os .fin rs=rs.length:=rfl;rw[m]at e l;omega
  .show z
def mO(H H':Hp)(p:δ)(L:sJ):=∃q vs,H' p=some (.tup [.ref q,L.back,L.bL,.int L.many,.int L.ahead,.int L.moment])/\H q=none/\H' q=some (.lst vs)/\ς (λv(r:eZ)=>∃t l,v=V.ref t/\H' t=some (.tup [.int r.1,.ref l,.bl r.2.2])/\H l=none/\H' l=some (.lst r.2.1)) vs L.rows
theorem mO.old{a H H':Hp}{p:δ}{L:sJ}(h:mO H H' p L)(s:ζ a H):mO a H' p L:=by
 let#[q,vs,h1,h2,c,f]:=h;show#[q,vs,h1,s.free h2,c,f.imp λv r z=>by
  let#[t,l,e,g,i,j]:=z;show#[t,l,e,g,s.free i,j]]
def gP(H:Hp)(mk:δ)(lv:Bool)(mo:Nat)(os:List Ord)(z:Str)(c:Ct):=∃o v,H mk=some (.tup [.str (eN lv),.int (mo:Nat),.ref o,.str z,v])/\aH H o os/\dC H v c
theorem gP.same{H H':Hp}{mk:δ}{lv:Bool}{mo:Nat}{os:List Ord}{z:Str}{c:Ct}(h:gP H mk lv mo os z c)(s:ζ H H'):gP H' mk lv mo os z c:=by
 let#[o,v,h1,h2,a]:=h;show#[o,v,s _ _ h1,h2.same s,a.same s]
inductive O1 (vs:List V) (H:Hp) (Q:VK) (E:XK):Prop
 |mk (mk:δ) (v:V) (lv:Bool) (cs:List ξ) (os:List Ord) (t:Tr) (mo:Nat) (c:Ct) (d:Option Ct):vs=[.ref mk,v]->gP H mk lv mo os (sT cs t) c->u6 cs os t mo->cX H v d->(∀x,d=some x->lD cs os x)->(∀H',ζ H H'->Q (cN lv mo os (sT cs t) d) H')->O1 vs H Q E
theorem Eu(T:Txt K mg):Def P w K mg base true 5 "mark_at" ["mark","cut"] O1:=by
 show Γ (N:=["mark","cut"]) T.Eu (λ_ _ _ _ _ H vs Q E S h=>?_);intro X _;let#[mk,v,lv,cs,os,t,mo,c,d,rfl,#[o,u,e,G,U],s,y,hd,q]:=h;let hsz:=ϱ;let W:= @Dz P w K mg base T;f_len;show ψ ?_;cases d with
 |none=>
  cases y;lk;show q H (ζ.refl _)
 |some x=>
  let#[sd,xs,n,rfl,I,J,n1]:=hd x rfl;let#[tc,k,rfl,f,L,g,i]:=y;lk;show ag6 (ρ.of e) (show ¬(_H.Β 5 0 none=0/\_H.Β 5 5 (some (-1))=5)by decide) λp M=>?_
  let#[B,e1]:=ϒ M (.tup [.str (eN lv),.int (mo:Nat),.ref o,.str (sT cs t)]);change EV _ _ _ (upd H p (.tup [.str (eN lv),.int (mo:Nat),.ref o,.str (sT cs t)])) _;generalize upd H p (.tup [.str (eN lv),.int (mo:Nat),.ref o,.str (sT cs t)])=H1 at B e1⊢;lk;show#[Ζ,λp2 j=>?_];let#[l,C]:=ϒ j (.tup [.ref tc]);generalize upd H1 p2 (.tup [.ref tc])=H2 at l C⊢;show bD abW #[p,p2,_,_,rfl,rfl,ρ.of (l _ _ e1),ρ.of C,by simp,Ζ,(λz=>by cases z),λ_ p3 m=>?_];let#[D,F]:=ϒ m (.tup [.str (eN lv),.int (mo:Nat),.ref o,.str (sT cs t),.ref tc]);change EA _ _ _ (upd H2 p3 (.tup [.str (eN lv),.int (mo:Nat),.ref o,.str (sT cs t),.ref tc])) _;generalize upd H2 p3 (.tup [.str (eN lv),.int (mo:Nat),.ref o,.str (sT cs t),.ref tc])=Y at D F⊢;let a:=(B.trans l).trans D;lk;show#[p3,#[lv,mo,os,sT cs t,#[sd,n.toNat,xs]],cs,rfl,#[o,tc,F,G.same a,k,L,a _ _ f,?_,a _ _ i],s.ok,s.good I n1,λO R=>q O (a.trans R)];rw[show(((#[sd,n.toNat,xs]:Cut).row:Nat):Int)=n from anz J];show a _ _ g
abbrev kW:Str:=Ϫ "living"
def aX(B:Bk)(mo:Nat)(row:Int):Bool:=decide ((Μ B.touched row).getD 0<=(mo:Nat))
structure pU(mg:Str->Option ε)(H:Hp)(A:BA)(B:Bk)(mo:Nat):Prop where
 bk:Κ (cB mg) H A B
 le:(mo:Int)<=B.now
 wf:nu B
 r64:B.rows.length<64
 nd:(B.rows.map Prod.fst).Nodup
 fit:∀r∈B.rows,ύ B.heads r/\0<=r.1/\r.1<=1000000000
theorem pU.same{H H':Hp}{A:BA}{B:Bk}{mo:Nat}(h:pU mg H A B mo)(s:ζ H H'):pU mg H' A B mo:=#[h.bk.same s,h.le,h.wf,h.r64,h.nd,h.fit]
inductive HX (K:ϩ) (mg:Str->Option ε) (t:Tr) (vs:List V) (H:Hp) (Q:VK) (E:XK):Prop
 |mk (A:BA) (B:Bk) (mo:Nat) (a:δ) (z:Str):vs=[.ref A.b,.str kW,.int (mo:Nat),.ref a]->pU mg H A B mo->cC mg H t a z->gU B.heads t->(∀q ws rs H',ζ H H'->H q=none->H' q=some (.lst ws)->ς (gO H') ws rs->rs.Perm (B.rows.filter λr=>Ϝ r.2 t)->Q (.ref q) H')->HX K mg t vs H Q E
theorem yS(T:Txt K mg)(t:Tr):Def P w K mg base true (5+t.dep) "rows_of_list" ["book","make","begin","sieve"] (HX K mg t):=by
 rw[show 5+t.dep=(4+t.dep)+1 by omega];show Γ (S:=Mi) T.yS (λf O R outer s H vs Q E j h=>?_);intro X _;let#[A,B,mo,a,z,rfl,g,D,m,q]:=h;let nd:=Mi.nd;let U:=T.Dq;let M2:ϙ P w K mg base true 2 (cB mg) "now_rows" ["self"] (wL mg):=(aan T).meth T.ϛ T.agb;let W:= @BL P w K mg base T t;k_go;show eV ?_;show dZ (pl:=_) j ϋ ?_;f_are;show#[A.b,cB mg,A.dx,_,true,2,_,wL mg,rfl,g.bk.ins,by rfl,M2,(),id,A,B,rfl,g.bk,g.r64,λp1 ys ks H1 n F o G p v=>?_];let c:=T6 (rows:=B.rows) g.nd o;let y:dX H1 p1 (bW B.rows ks):=#[ys,p,v.imp λu r z=>by
  let#[t,l,e,h1,h2,_]:=z;show#[t,l,e,h1,h2]]
 generalize bW B.rows ks=rs at c y;let I:=c.length_eq;let J:=g.r64;f_len;show ψ ?_;lk;show#[a,p1,z,rs,rfl,D.same n,y,(),λr j=>yu (g.fit r (c.mem_iff.mp j)).1 m,λp2 L H2 C x i M=>?_];show q p2 L _ H2 (n.trans C) (n.free x) i (M.imp λu r z=>z.row C) (c.filter _)
inductive Oi (mg:Str->Option ε) (vs:List V) (H:Hp) (Q:VK) (E:XK):Prop
 |mk (A:BA) (B:Bk) (mo:Nat) (r:Row):vs=[.ref A.b,.str kW,.int (mo:Nat),.int r.1]->pU mg H A B mo->r∈B.rows->Q (.bl (aX B mo r.1)) H->Oi mg vs H Q E
theorem Am(T:Txt K mg):Def P w K mg base true 5 "is_untouched" ["book","make","begin","row"] (Oi mg):=by
 show Γ (N:=["book","make","begin","row"]) T.Am (λf l m outer s H vs Q E g h=>?_);intro X _;let#[A,B,mo,r,rfl,a,c,q]:=h;let n:=T.Ly;let M1:ϙ P w K mg base true 4 (cB mg) "since" ["self","row"] (xP mg):=(ZV T).meth T.ϛ T.abN;f_len;show ψ ?_;lk;show Η (λh=>absurd (V.str.inj h) (by fin2)) (λ_=>?_);lk;show cz (pl:=_) g ϋ (h:=?_);f_are;show#[A.b,cB mg,A.dx,_,true,4,_,xP mg,rfl,a.bk.ins,by rfl,M1,by decide,id,?_];lk;let#[_,j,n1]:=a.fit r c;show#[A,B,r.1,rfl,a.bk,j,n1,a.wf,λz=>absurd (List.mem_map_of_mem (f:=Prod.fst) c) (Em.mp z),λi hi=>?_];lk;let e:aX B mo r.1=decide (i<=(mo:Nat)):=by
  unfold aX;rw[hi];rfl
 rw[<-e];show q
def yp(B:Bk)(mo:Nat)(os:List Ord)(z:Str)(many:Nat)(L:Lf):sJ:=#[L.rows.map λr=>(r.1,r.2,aX B mo r.1),cN true mo os z L.back,cN true mo os z L.bL,many,L.start,B.now]
structure jw(K:ϩ)(mg:Str->Option ε)(H:Hp)(A:BA)(B:Bk)(os:List Ord)(t:Tr)(mo n:Nat):Prop where
 bk:pU mg H A B mo
 li:u6 B.heads os t mo
 n1:1<=n
 n2:n<=100
 tb:H (cJ K "sorted_by")=some (.tbl ju)
theorem jw.same{H H':Hp}{A:BA}{B:Bk}{os:List Ord}{t:Tr}{mo n:Nat}(h:jw K mg H A B os t mo n)(s:ζ H H'):jw K mg H' A B os t mo n:=#[h.bk.same s,h.li,h.n1,h.n2,s _ _ h.tb]
def pN(B:Bk)(os:List Ord)(t:Tr)(mo n:Nat)(on:Bool)(c:Ct)(H:Hp)(Q:VK):=∀p ls H',ζ H H'->Line B.heads os ls->ls.Perm (B.rows.filter λr=>Ϝ r.2 t)->mO H H' p (yp B mo os (sT B.heads t) ls.length (dm on B.heads os ls c n))->Q (.ref p) H'
theorem pN.same{B:Bk}{os:List Ord}{t:Tr}{mo n:Nat}{on:Bool}{c:Ct}{H H':Hp}{Q:VK}(h:pN B os t mo n on c H Q)(s:ζ H H'):pN B os t mo n on c H' Q:=λp ls H2 a h1 h2 e=>h p ls H2 (s.trans a) h1 h2 (e.old s)
inductive kJ (K:ϩ) (mg:Str->Option ε) (t:Tr) (on:Bool) (vs:List V) (H:Hp) (Q:VK) (E:XK):Prop
 |mk (A:BA) (B:Bk) (mk:δ) (os:List Ord) (mo n:Nat) (c:Ct):vs=[.ref A.b,.ref mk,.int (n:Nat),.bl on]->jw K mg H A B os t mo n->gP H mk true mo os (sT B.heads t) c->pF B.heads os on c->pN B os t mo n on c H Q->kJ K mg t on vs H Q E
theorem jR(T:Txt K mg)(hN:cM K mg base "sorted_by")(t:Tr)(on:Bool):Def P w K mg base true (10+2*t.dep) "leaf_from" ["book","mark","size","onward"] (kJ K mg t on):=by
 rw[show 10+2*t.dep=(9+2*t.dep)+1 by omega];show Γ (S:=VB) T.jR (λf Ϻ A' outer s H vs Q E g h=>?_);intro X _;let#[A,B,mk,os,mo,n,ct,rfl,a,#[o,v,ab,hO,O],nj,q]:=h;let nd:=VB.nd;let n1:=T.bY;let g1:=T.Dq;let hsz:=ϱ;let R:=a.li.gt;let hok:=a.li.ok;let ϻ:=a.li.inc;let lA:=a.li.o4;let#[c1,c6]:=adY hok;let Mv:(["row","values","book","make","begin"]:List Str).Nodup:=by fin2
 let D1:= @Ur P w K mg base T t;let D2:= @yS P w K mg base T t;let D3:Def P w K mg base true 8 "line_of" ["columns","order","rows"] (BK K):=BZ T hN;let D4:= @GX P w K mg base T;let D5:= @zX P w K mg base T;let D6:= @Am P w K mg base T;let D7:= @Eu P w K mg base T;let M2:ϙ P w K mg base true 1 (cB mg) "moment" ["self"] (dj mg Bk.now):=(oR T).meth T.ϛ T.pW;let M3:ϙ P w K mg base true 1 (cB mg) "columns" ["self"] (iU mg):=(vY T).meth T.ϛ T.vV;let hw:=ph hok R;let lR:ό 32 (sT B.heads t)=wT (Ν B.heads) t:=yt (Tz (Ν B.heads) t) λz hz=>(hw z hz).2.1
 let VL:=a.li.Iz;let CQ:(sT B.heads t).length<=3000:=by
  let h1:=mD (wT (Ν B.heads) t) 21 λp hp=>(hw p hp).1
  let h2:=jX (wT (Ν B.heads) t);show(aeM " " (wT (Ν B.heads) t)).length<=3000;omega
 let ah:Reads B.heads (wT (Ν B.heads) t) t 0 (wT (Ν B.heads) t).length:=by
  have:=rC hok (ws:=wT (Ν B.heads) t) (t:=t) (s:=0) #[[],by simp] () R;rw[am5]at this;show this
 let ai:=a.bk.r64;let Bg:=a.bk.fit;w_up;show dO ?_;lk;show ϥ (ρ.of ab) (Δ (Α nd (by rfl) (by first|show Or.inl rfl|show Or.inr rfl) (by first|show Or.inl rfl|show Or.inr rfl) (Δ (Α nd (by rfl) (by first|show Or.inl rfl|show Or.inr rfl) (by first|show Or.inl rfl|show Or.inr rfl) (Δ (Α nd (by rfl) (.inl rfl) (.inl rfl) (Δ (Α nd (by rfl) (.inl rfl) (.inl rfl) (Δ (Α nd (by rfl) (.inl rfl) (.inl rfl) (aa ?_)))))))))));w_up;f_tup;show dZ (pl:=_) g ϋ ?_;f_are;show⟨A.b,cB mg,A.dx,_,true,1,_,iU mg,rfl,a.bk.bk.ins,by rfl,M3,(),id,A,B,rfl,a.bk.bk,λc H1 s1 hc0 hC=>?_⟩;k_go;show#[c,B.heads,_,rfl,hC,CQ,by rw[lR];show λy J=>by have:=(hw y J).1;omega,a.li.dp,by rw[lR];show ah,λsv H2 s2 hv=>?_];generalize cj (ό 32 (sT B.heads t)) 0 (ό 32 (sT B.heads t)).length=zz at hv;let bc:=s1.trans s2;lk;show#[A,B,mo,sv,zz,rfl,a.bk.same bc,hv,R,λp2 Ga rs H3 s3 hp2 ac al G=>?_];let cD:=bc.trans s3;let am:(B.rows.filter λr=>Ϝ r.2 t).length<=B.rows.length:=ahW ..;let ar:rs.length<64:=afZ (aeO (al5 G.length_eq) am) ai;let M:∀r∈rs,r∈B.rows:=λr g=>(ahZ.mp (G.mem_iff.mp g)).1
 let au:(rs.map Prod.fst).Nodup:=(G.map Prod.fst).nodup_iff.mpr (a.bk.nd.sublist (List.Sublist.map _ aoy));lk;show#[c,o,p2,B.heads,os,rs,rfl,hC.same (s2.trans s3),hO.same cD,#[Ga,ac,al],c6,(),ϻ,ar,λr g=>(Bg r (M r g)).1,au,cD _ _ a.tb,λln lw ls H4 s4 gF Sh LK hL bJ=>?_];let Y:=cD.trans s4;let mU:=LK.len;let av:=bJ.trans G;let hll:ls.length=rs.length:=bJ.length_eq;let m:∀r∈ls,r∈B.rows:=λr g=>M r (bJ.mem_iff.mp g)
 let Ey:mQ B.heads os ls:=#[#[c1,c6],lA,ϻ,λr g=>(Bg r (m r g)).1,hL,()];let ae:∀r∈ls,0<=r.1/\r.1<=1000000000:=λr g=>(Bg r (m r g)).2
 let Qj:dX H4 ln ls:=#[lw,Sh,LK.imp λu r z=>by
  let#[t,l,e,_,_,_,h1,h2]:=z;show#[t,l,e,h1,h2]]
 let CW:=TX Ey ae a.n1 nj
 let rest:∀(F:δ)(us:List V)(x y:V)(H5:Hp),ζ H4 H5->H4 F=none->H5 F=some (.lst us)->ς (iK F H4 H5) us (dm on B.heads os ls ct n).rows->cX H5 x (dm on B.heads os ls ct n).back->cX H5 y (dm on B.heads os ls ct n).bL->
   Ο X ((aB xH).drop 4) {nx:=λ_ H'=>Q .non H',rt:=Q} [some (.ref A.b),some (.ref mk),some (.int (n:Nat)),some (.bl on),some (.str kW),some (.int (mo:Nat)),some (.ref o),some (.str (sT B.heads t)),some v,some (.ref c),some (.ref ln),some (.ref F),some x,some y,some (.int ((dm on B.heads os ls ct n).start:Nat)),none,none] H5:=by
  intro F us x y H5 Z I hq i hx J;let HY:∀r∈(dm on B.heads os ls ct n).rows,r∈ls:=λr g=>by
   cases on<;>show ael (aeR g)
  generalize af:dm on B.heads os ls ct n=L at i hx J CW HY⊢;let jN:=i.len;let fJ:=Y.trans Z;let hLr:L.rows.length<=1000:=by
   have:=i.len;rw[<-af];cases on
   .show(Τ ls _ _).length<=1000;unfold Τ;rw[afM,aeB];omega
   .show(Τ ls _ _).length<=1000;unfold Τ;rw[afM,aeB];omega
  w_up;show qR ["row","values","book","make","begin"] (σ':=[none,none,some (.ref A.b),some (.str kW),some (.int (mo:Nat))]) (du (ω xH)) nd ?_;lk;show#[F,us,rfl,η.of hq,(),λτ=>∃o1 o2,τ=[o1,o2,some (.ref A.b),some (.str kW),some (.int (mo:Nat))],λE2 j u H'=>u≠.ref E2/\∃r t l,L.rows[j]?=some r/\u=.ref t/\H' t=some (.tup [.int r.1,.ref l,.bl (aX B mo r.1)])/\H4 l=none/\H5 l=some (.lst r.2),#[none,none,rfl],λE2 j u H8 H9 ys hE hk p=>?_,λfp E2 C s9 H8 j τ x H6 H7 bj hi aw xW U hG=>?_,λq1 H6 Up ax hl6 ay e6 s6=>?_]
  .let#[h0,r,t,l,g,e,h1,h2,h3]:=p;show#[h0,r,t,l,g,e,hk _ _ (λz=>h0 (by rw[e,z])) h1,h2,h3]
  .let#[o1,o2,rfl]:=aw;let#[cI,rfl]:=hG;let#[r,D,tr,lr,rfl,amU,aC,_,aD,aE]:=i.get cI;let#[ys,U]:=U;show ϥ (ρ.of (xW _ _ aD)) (Δ (Α Mv (by rfl) (.inl rfl) (.inr rfl) (Δ (Α Mv (by rfl) (.inl rfl) (.inr rfl) (aa ?_)))));lk;show#[A,B,mo,r,rfl,a.bk.same (fJ.trans xW),m r (HY r (aaM D)),?_];lk;show#[Ζ,λt2 bu=>?_];show#[#[_,_,rfl],#[λz=>?_,r,t2,lr,D,rfl,υ,aC,aE],ζ.upd bu];injection z with z
   rw[z,U]at bu;cases bu
  let eU:=fJ.trans s6;let ag:gP H6 mk true mo os (sT B.heads t) ct:=gP.same #[o,v,ab,hO,O] eU;let aI:η K H6 ln lw:=(Z.trans s6).seq (η.of Sh);k_go;show eV ?_;show dZ (pl:=_) g ϋ ?_;f_are;show#[A.b,cB mg,A.dx,_,true,1,_,dj mg Bk.now,rfl,(a.bk.bk.same eU).ins,by rfl,M2,(),id,A,B,rfl,a.bk.bk.same eU,?_];f_len;show ψ ?_;lk;show#[mk,x,true,B.heads,os,t,mo,ct,L.back,rfl,ag,a.li,hx.same s6,λd e=>CW d (.inl e),λH7 W=>?_];lk;show#[mk,y,true,B.heads,os,t,mo,ct,L.bL,rfl,ag.same W,a.li,J.same (s6.trans W),λd e=>CW d (.inr e),λH8 s8=>?_];let sq8:η K H8 ln lw:=(W.trans s8).seq aI;lk;show#[Ζ,λp9 aS=>?_];let s9:=ζ.upd (o:=.tup [.ref q1,cN true mo os (sT B.heads t) L.back,cN true mo os (sT B.heads t) L.bL,.int (lw.length:Nat),.int (L.start:Nat),.int B.now]) aS;show q p9 ls _ (((eU.trans W).trans s8).trans s9) hL av ?_;rw[af];show#[q1,Up,by rw[υ,mU];rfl,fJ.free ax,((W.trans s8).trans s9) _ _ e6,pX (by show(L.rows.map _).length=_;rw[aav];omega) λj r' aT=>?_];let JZ:(L.rows.map λr=>(r.1,r.2,aX B mo r.1))[j]?=some r':=aT;rw[abD]at JZ;let#[r,g,rfl]:=aiq.mp JZ;let hj:j<Up.length:=by have:=(aai.mp g).1;omega
  let#[_,r2,t2,l2,D,e,h1,h2,h3]:=ay j _ (aah hj);rw[g]at D;cases D;show#[_,aah hj,t2,l2,e,((W.trans s8).trans s9) _ _ h1,Y.free h2,((s6.trans W).trans (s8.trans s9)) _ _ h3]
 w_up;show Θ ?_;lk;cases on with
 |true=>
  lk;f_len;show dO ?_;lk;show#[c,o,ln,v,B.heads,os,ls,ct,n,rfl,hC.same ((s2.trans s3).trans s4),hO.same Y,Qj,O.same Y,Ey,nj.ok,a.n1,a.n2,λt4 F us x y H5 Z I zO hq i hx J=>?_];show ϥ (ρ.of zO) (Δ (Α nd (by rfl) (.inl rfl) (.inl rfl) (Δ (Α nd (by rfl) (.inl rfl) (.inl rfl) (Δ (Α nd (by rfl) (.inl rfl) (.inl rfl) (Δ (Α nd (by rfl) (.inl rfl) (.inl rfl) (aa ?_)))))))));show rest F us x y H5 Z I hq i hx J
 |false=>
  lk;f_len;show dO ?_;lk;show#[c,o,ln,v,B.heads,os,ls,ct,n,rfl,hC.same ((s2.trans s3).trans s4),hO.same Y,Qj,O.same Y,Ey,nj.ok,a.n1,a.n2,λt4 F us x y H5 Z I zO hq i hx J=>?_];show ϥ (ρ.of zO) (Δ (Α nd (by rfl) (.inl rfl) (.inl rfl) (Δ (Α nd (by rfl) (.inl rfl) (.inl rfl) (Δ (Α nd (by rfl) (.inl rfl) (.inl rfl) (Δ (Α nd (by rfl) (.inl rfl) (.inl rfl) (aa ?_)))))))));show rest F us x y H5 Z I hq i hx J
inductive Mu (mg:Str->Option ε) (vs:List V) (H:Hp) (Q:VK) (E:XK):Prop
 |mk (A:BA) (B:Bk) (zo z:Str) (v:V) (os:List Ord) (c:Ct) (mo:Nat):vs=[.ref A.b,.str kW,.str zo,.str z,v]->Κ (cB mg) H A B->B.now=(mo:Nat)->zo.length<=4000->iC B.heads zo=some os->dC H v c->(∀p H',ζ H H'->gP H' p true mo os z c->Q (.ref p) H')->Mu mg vs H Q E
theorem xu(T:Txt K mg):Def P w K mg base true 4 "begin_of" ["book","make","order","sieve","cut"] (Mu mg):=by
 show Γ (N:=["book","make","order","sieve","cut"]) T.xu (λf M O outer s H vs Q E l h=>?_);intro X _;let#[A,B,x,z,v,os,ct,mo,rfl,a,g,y,m,i,q]:=h;let hsz:=ϱ;let R:= @wZ P w K mg base T;let M2:ϙ P w K mg base true 1 (cB mg) "moment" ["self"] (dj mg Bk.now):=(oR T).meth T.ϛ T.pW;let C:ϙ P w K mg base true 1 (cB mg) "columns" ["self"] (iU mg):=(vY T).meth T.ϛ T.vV;f_len;show ψ ?_;lk;show dZ (pl:=_) l ϋ ?_;f_are;show#[A.b,cB mg,A.dx,_,true,1,_,dj mg Bk.now,rfl,a.ins,by rfl,M2,by decide,id,A,B,rfl,a,?_];lk;show dZ (pl:=_) l ϋ ?_;f_are;show#[A.b,cB mg,A.dx,_,true,1,_,iU mg,rfl,a.ins,by rfl,C,by decide,id,A,B,rfl,a,λc H1 n D F=>?_];lk;show#[c,B.heads,x,rfl,F,y,(λH' _ e=>by rw[m]at e;cases e),λb G H2 u e I J=>?_];rw[m]at e;cases e;lk;show#[Ζ,λp L=>?_];let j:=ζ.upd (o:=.tup [.str kW,.int B.now,.ref b,.str z,v]) L;show q p _ ((n.trans u).trans j) #[b,v,by rw[υ,g];rfl,J.same j,i.same ((n.trans u).trans j)]
def GQ(on:Bool):Ct:=if on=true then .start else .fin
inductive um (K:ϩ) (mg:Str->Option ε) (t:Tr) (on:Bool) (vs:List V) (H:Hp) (Q:VK) (E:XK):Prop
 |mk (A:BA) (B:Bk) (os:List Ord) (zo:Str) (mo n:Nat):vs=[.ref A.b,.str kW,.str zo,.str (sT B.heads t),.int (n:Nat)]->jw K mg H A B os t mo n->B.now=(mo:Nat)->zo.length<=4000->iC B.heads zo=some os->pN B os t mo n on (GQ on) H Q->um K mg t on vs H Q E
theorem Bu(T:Txt K mg)(i:cM K mg base "sorted_by")(t:Tr):Def P w K mg base true (11+2*t.dep) "first_leaf" ["book","make","order","sieve","size"] (um K mg t true):=by
 rw[show 11+2*t.dep=(10+2*t.dep)+1 by omega];show Γ (N:=["book","make","order","sieve","size"]) T.Bu (λf v x outer s H vs Q E y h=>?_);intro X _;let#[A,B,os,j,mo,n,rfl,e,c,l,m,q]:=h;let hsz:=ϱ;let z:=T.Qo;let C:= @xu P w K mg base T;let D:Def P w K mg base true (10+2*t.dep) "leaf_from" ["book","mark","size","onward"] (kJ K mg t true):=jR T i t true;f_len;show ψ ?_;lk;show#[Ζ,λp o=>?_];let#[a,e1]:=ϒ o (.tup [.str ("start":Str)]);change EA _ _ _ (upd H p (.tup [.str ("start":Str)])) _;generalize upd H p (.tup [.str ("start":Str)])=H1 at a e1⊢;lk;show#[A,B,j,_,_,os,.start,mo,rfl,(e.same a).bk.bk,c,l,m,#[p,rfl,e1],λmk H2 g u=>?_];lk;show#[A,B,mk,os,mo,n,.start,rfl,e.same (a.trans g),u,.inl #[rfl,rfl],q.same (a.trans g)]
theorem BW(T:Txt K mg)(i:cM K mg base "sorted_by")(t:Tr):Def P w K mg base true (11+2*t.dep) "last_leaf" ["book","make","order","sieve","size"] (um K mg t false):=by
 rw[show 11+2*t.dep=(10+2*t.dep)+1 by omega];show Γ (N:=["book","make","order","sieve","size"]) T.BW (λf v x outer s H vs Q E y h=>?_);intro X _;let#[A,B,os,j,mo,n,rfl,e,c,l,m,q]:=h;let hsz:=ϱ;let z:=T.M6;let C:= @xu P w K mg base T;let D:Def P w K mg base true (10+2*t.dep) "leaf_from" ["book","mark","size","onward"] (kJ K mg t false):=jR T i t false;f_len;show ψ ?_;lk;show#[Ζ,λp o=>?_];let#[a,e1]:=ϒ o (.tup [.str ("end":Str)]);change EA _ _ _ (upd H p (.tup [.str ("end":Str)])) _;generalize upd H p (.tup [.str ("end":Str)])=H1 at a e1⊢;lk;show#[A,B,j,_,_,os,.fin,mo,rfl,(e.same a).bk.bk,c,l,m,#[p,rfl,e1],λmk H2 g u=>?_];lk;show#[A,B,mk,os,mo,n,.fin,rfl,e.same (a.trans g),u,.inr (.inl #[rfl,rfl]),q.same (a.trans g)]
inductive Qv (mg:Str->Option ε) (vs:List V) (H:Hp) (Q:VK) (E:XK):Prop
 |mk (A:BA) (B:Bk) (M:Mk):vs=[.ref A.b,.str (bO M)]->Κ (cB mg) H A B->ώ B.heads=true->aZ B.heads M->(M.moment:Int)<=B.now->(∀p H',ζ H H'->gP H' p M.living M.moment M.os M.sieve (.at_ M.cut.ahead M.cut.xs M.cut.row)->Q (.ref p) H')->Qv mg vs H Q E
theorem uo(T:Txt K mg):Def P w K mg base true 53 "read_good_mark" ["book","text"] (Qv mg):=by
 show Γ (S:=vH) T.uo (λf R U outer s H vs Q E j h=>?_);intro X _;let#[A,B,M,rfl,a,hok,n,u,q]:=h;let nd:=vH.nd;let W:= @v5 P w K mg base T;let M2:ϙ P w K mg base true 1 (cB mg) "moment" ["self"] (dj mg Bk.now):=(oR T).meth T.ϛ T.pW;let x:ϙ P w K mg base true 1 (cB mg) "columns" ["self"] (iU mg):=(vY T).meth T.ϛ T.vV;w_up;generalize y:bO M=z;f_tup;lk;show dZ (pl:=_) j ϋ ?_;f_are;show#[A.b,cB mg,A.dx,_,true,1,_,iU mg,rfl,a.ins,by rfl,x,by decide,id,A,B,rfl,a,λc H1 C D F=>?_];lk;show#[c,M,B.heads,by rw[y],F,hok,n,λp o l k v H2 G m Y I e J L O _=>?_];let g:=C.trans G;w_up;show Θ ?_;lk;show ϑ (ρ.of m) (i:=1) rfl ?_;lk;show dZ (pl:=_) j ϋ ?_;f_are;show#[A.b,cB mg,A.dx,_,true,1,_,dj mg Bk.now,rfl,(a.same g).ins,by rfl,M2,by decide,id,A,B,rfl,a.same g,?_];lk;show Η (λh=>?_) (λ_=>?_)
 .show absurd h ()
 show Ε ?_;f_len;show ψ ?_;lk;show q p H2 g #[o,.ref l,m,I,l,k,rfl,e,v,J,O]
inductive qu (K:ϩ) (mg:Str->Option ε) (t:Tr) (on:Bool) (vs:List V) (H:Hp) (Q:VK) (E:XK):Prop
 |mk (A:BA) (B:Bk) (os:List Ord) (mo n:Nat) (sd:Bool) (xs:List V) (k:Int):vs=[.ref A.b,cN true mo os (sT B.heads t) (some (.at_ sd xs k)),.int (n:Nat)]->jw K mg H A B os t mo n->cZ B.heads os xs->0<=k->k<=1000000000->pN B os t mo n on (.at_ sd xs k) H Q->qu K mg t on vs H Q E
theorem yc(T:Txt K mg)(i:cM K mg base "sorted_by")(t:Tr)(j:t.dep<=20):Def P w K mg base true 54 "turn_forth" ["book","mark","size"] (qu K mg t true):=by
 show Γ (S:=KY) T.yc (λf u v outer s H vs Q E x h=>?_);intro X _;let#[A,B,os,mo,n,sd,xs,k,rfl,a,e,k0,k1,q]:=h;let y:= @uo P w K mg base T;let C:Def P w K mg base true (10+2*t.dep) "leaf_from" ["book","mark","size","onward"] (kJ K mg t true):=jR T i t true;let l:(((k.toNat:Nat):Int))=k:=anz k0;let m:=a.li.good (lv:=true) (sd:=sd) e k1;f_len;show ψ ?_;generalize o:cN true mo os (sT B.heads t) (some (.at_ sd xs k))=z;lk;show#[A,B,#[true,mo,os,sT B.heads t,#[sd,k.toNat,xs]],by first|rfl|(rw[<-o];rfl),a.bk.bk,a.li.ok,m,a.bk.le,λmk H1 g p=>?_];lk;show#[A,B,mk,os,mo,n,.at_ sd xs k,rfl,a.same g,?_,.inr (.inr #[sd,xs,k,rfl,e,k0,k1]),q.same g];let c:gP H1 mk true mo os (sT B.heads t) (.at_ sd xs ((k.toNat:Nat):Int)):=p;rw[l]at c;show c
theorem xN(T:Txt K mg)(i:cM K mg base "sorted_by")(t:Tr)(j:t.dep<=20):Def P w K mg base true 54 "turn_back" ["book","mark","size"] (qu K mg t false):=by
 show Γ (S:=Wq) T.xN (λf u v outer s H vs Q E x h=>?_);intro X _;let#[A,B,os,mo,n,sd,xs,k,rfl,a,e,k0,k1,q]:=h;let y:= @uo P w K mg base T;let C:Def P w K mg base true (10+2*t.dep) "leaf_from" ["book","mark","size","onward"] (kJ K mg t false):=jR T i t false;let l:(((k.toNat:Nat):Int))=k:=anz k0;let m:=a.li.good (lv:=true) (sd:=sd) e k1;f_len;show ψ ?_;generalize o:cN true mo os (sT B.heads t) (some (.at_ sd xs k))=z;lk;show#[A,B,#[true,mo,os,sT B.heads t,#[sd,k.toNat,xs]],by first|rfl|(rw[<-o];rfl),a.bk.bk,a.li.ok,m,a.bk.le,λmk H1 g p=>?_];lk;show#[A,B,mk,os,mo,n,.at_ sd xs k,rfl,a.same g,?_,.inr (.inr #[sd,xs,k,rfl,e,k0,k1]),q.same g];let c:gP H1 mk true mo os (sT B.heads t) (.at_ sd xs ((k.toNat:Nat):Int)):=p;rw[l]at c;show c
structure GF(B:Bk)(mo:Nat):Prop where
 now:B.now=(mo:Nat)
 kn:B.known=0
 dl:B.done.length=mo
inductive xG (mg:Str->Option ε) (vs:List V) (H:Hp) (Q:VK) (E:XK):Prop
 |mk (A:BA) (B:Bk) (mo:Nat):vs=[.ref A.b,.int (mo:Nat)]->Κ (cB mg) H A B->GF B mo->(∀p,H p=none->Q (.ref p) (upd H p (.lst [])))->xG mg vs H Q E
theorem agE(T:Txt K mg):FD P w K mg base true 3 "done_behind" "Book.done_behind" Nq ["self","moment"] (xG mg):=by
 show aO (N:=["self","moment"]) (λf x y outer s H vs Q E z h=>?_);intro X _;let#[A,B,mo,rfl,g,e,q]:=h;let a:=T.ϛ;let i:=T.Dc;let j:=T.uJ;let l:=T.uH;let c:=g.ins;let C:=e.now;let m:=e.kn;let D:=e.dl;let#[ds,n,o]:=g.done;let u:=o.len;w_up;cbv;show ao ?_;f_are;show#[A.b,_,_,_,_,rfl,c,a,i,rfl,?_];cbv;show Η (λh=>absurd h ()) (λh=>?_);show Ε ?_;w_up;cbv;show ao ?_;f_are;show#[A.b,_,_,_,_,rfl,c,a,j,rfl,?_];cbv;show Η (λh2=>absurd h2 ()) (λh2=>?_);show Ε ?_;f_len;show ψ ?_;cbv;show ao ?_;f_are;show#[A.b,_,_,_,_,rfl,c,a,l,rfl,?_];cbv;show ao ?_;f_are;show#[A.b,_,_,_,_,rfl,c,a,i,rfl,?_];cbv;show nO (η.of n) λp v=>?_
 rw[show bV ds (some ((mo:Nat)-B.known)) none=[]by rw[m,Int.sub_zero,Sx];show alJ ()];show q p v
inductive u9 (mg:Str->Option ε) (vs:List V) (H:Hp) (Q:VK) (E:XK):Prop
 |mk (A:BA) (B:Bk) (mo:Nat):vs=[.ref A.b,.int (mo:Nat)]->Κ (cB mg) H A B->GF B mo->(∀d' ds kn H',(d'=A.d\/H d'=none)->ds.length<=B.done.length->Out [A.b] H H'->Κ (cB mg) H' {A with d:=d'} {B with done:=ds,known:=kn}->Q .non H')->u9 mg vs H Q E
theorem aiG(T:Txt K mg):FD P w K mg base true 4 "let_go" "Book.let_go" Ir ["self","moment"] (u9 mg):=by
 show aO (N:=["self","moment"]) (λf S U outer s H vs Q E y h=>?_);intro X _;let#[A,B,mo,rfl,c,C,q]:=h;let i:=T.ϛ;let l:=T.Dc;let D:=T.uH;let m:=c.ins;let M1:ϙ P w K mg base true 3 (cB mg) "done_behind" ["self","moment"] (xG mg):=(agE T).meth T.ϛ T.afR;f_len;show Θ ?_;lk;show ao ?_;f_are;show#[A.b,_,_,_,_,rfl,m,i,l,rfl,?_];lk;show Η (λh=>?_) (λh=>?_)
 .w_up;show dM ?_;show cz (pl:=_) y ϋ (h:=?_);f_are;show#[A.b,cB mg,A.dx,_,true,3,_,xG mg,rfl,m,by rfl,M1,by decide,id,?_];cbv;show#[A,B,mo,rfl,c,C,λp g=>?_];let#[j,ep]:=ϒ g (.lst []);generalize upd H p (.lst [])=H1 at j ep⊢;let k1:=c.same j;f_are;show#[A.b,_,_,_,rfl,k1.ins,i,D,by show 6<1000;decide,?_];let n1:p≠A.b:=λe=>by have:=c.ins;rw[<-e,g]at this;cases this
  let n:Out [A.b] H _:=(Out.of j).trans (Out.upd (H:=H1) (a:=A.b) (o:=.ins (cB mg) A.dx [("heads",.ref A.h),("rows",.ref A.r),("touched",.ref A.t),("done",.ref p),("known",.int B.known),("now",.int B.now)]) (by simp));let k2:Κ (cB mg) (upd H1 A.b (.ins (cB mg) A.dx [("heads",.ref A.h),("rows",.ref A.r),("touched",.ref A.t),("done",.ref p),("known",.int B.known),("now",.int B.now)])) {A with d:=p} {B with done:=[]}:=by
   let kk:=(k1.EY B.known B.now);let#[F,G,I,J,W,Y,Z,m8,m9,L,M,O]:=k1.ne;let st:∀b ys,H1 b=some (.tup ys)->(upd H1 A.b (.ins (cB mg) A.dx [("heads",.ref A.h),("rows",.ref A.r),("touched",.ref A.t),("done",.ref p),("known",.int B.known),("now",.int B.now)])) b=some (.tup ys):=λb ys e=>by
    rw[ο (λz=>by rw[z,k1.ins]at e;cases e)];show e
   show#[υ,by rw[ο (Ne.symm F)];show k1.own,k1.heads.stay (λxs e=>by rw[ο (Ne.symm G)];show e) st,?_,?_,#[[],by rw[ο n1];show ep,.nil],k1.rt,λe=>?_]
   .let#[Ϸ,e,h]:=k1.rows;show#[Ϸ,by rw[ο (Ne.symm I)];show e,il h λv x h=>h.stay st]
   .let#[Ϸ,e,h]:=k1.touched;show#[Ϸ,by rw[ο (Ne.symm J)];show e,h]
   .let R:A.h=p:=e;let#[_,u,_]:=c.heads;rw[R,g]at u;cases u
  change Ο _ _ _ _ (upd H1 A.b (.ins (cB mg) A.dx [("heads",.ref A.h),("rows",.ref A.r),("touched",.ref A.t),("done",.ref p),("known",.int B.known),("now",.int B.now)]));generalize upd H1 A.b _=H2 at k2 n⊢;f_len;show dM ?_;cbv;show#[A.b,_,_,_,rfl,k2.ins,i,l,by show 6<1000;decide,?_];let k3:=k2.EY mo B.now;show q p [] mo _ (.inr g) (agn _) (n.trans (Out.upd (by simp))) k3
 .show Ε (q A.d B.done B.known _ (.inl rfl) (ϭ _) (Out.refl _ _) c)
abbrev rM:Int:=30
theorem ae9:rM<=90:=by decide
theorem Ai:0<rM:=by decide
structure yL(A:BA)(d:δ)(F:List δ):Prop where
 nd:d∉A.six
 inF:∀x∈d::A.fp,x∈F
theorem De{A:BA}:∀x∈A.fp,x∈A.six:=λx c=>by
 let a:x=A.b\/x=A.r\/x=A.t\/x=A.d:=by simpa [BA.fp]using c
 obtain rfl|rfl|rfl|rfl:=a<;>simp[BA.six]
section
variable{F:List δ}{A:BA}{d:δ}{H H':Hp}{B B':Bk}
end
structure iJ(B:Bk)(i:Nat):Prop where
 heads:B.heads=ι
 nd:(B.rows.map (·.1)).Nodup
 wf:nu B
 ok:∀p∈B.rows,ύ ι p
 keys:∀p∈B.rows,0<=p.1/\p.1<90
 rl:B.rows.length<=i
 tl:B.touched.length<=i
 dl:B.done.length<=i
theorem Q3{α:Type}{m:List (Int×α)}{i:Int}{x:α}{p:Int×α}(h:p∈aF m i x):p∈m/\¬p.1=i\/p=(i,x):=by
 unfold aF at h;split at h
 .let#[q,c,e]:=adw.mp h;split at e
  .next a=>show .inr (by rw[<-e,a])
  .next a=>show .inl (by rw[<-e];show#[c,a])
 .next f=>
  obtain h|h:=adU.mp h
  .show .inl #[h,λe=>f (aly.mpr #[p,h,decide_eq_true e])]
  .show .inr (acN.mp h)
theorem Uy{α:Type}(m:List (Int×α))(i:Int)(x:α):(aF m i x).length<=m.length+1:=by
 unfold aF;split
 .rw[aav];omega
 .rw[abK,afe];omega
theorem PL{α:Type}(m:List (Int×α))(i:Int):(bK m i).length<=m.length:=ahW ..
theorem nu.deed{B:Bk}(h:nu B)(row:Int)(o:Option (List V)):nu (dF B row o):=λi=>by
 cases o with
 |none=>
  show Μ (bK B.rows row) i=none↔ Μ (bK B.touched row) i=none;rw[yZ,yZ];by_cases e:i=row
  .rw[if_pos e,if_pos e];show#[λ_=>rfl,λ_=>rfl]
  .rw[if_neg e,if_neg e];show h i
 |some xs=>
  show Μ (aF B.rows row xs) i=none↔ Μ (aF B.touched row (B.now+1)) i=none;rw[vJ,vJ];by_cases e:i=row
  .rw[if_pos e,if_pos e];show#[(λz=>by cases z),(λz=>by cases z)]
  .rw[if_neg e,if_neg e];show h i
theorem iJ.deed{B:Bk}{i:Nat}(h:iJ B i){row:Int}{o:Option (List V)}(a:0<=row)(h1:row<90)(c:∀xs,o=some xs->ύ ι (row,xs)):iJ (dF B row o) (i+1):=by
 let e:=h.tl;let f:=h.dl;let g:=h.rl;let hd:(dF B row o).done.length<=i+1:=by
  show(B.done++[_]).length<=i+1;rw[abK,afe];omega
 cases o with
 |none=>
  show#[h.heads,Y7 h.nd,h.wf.deed row none,λp hp=>h.ok p (ahZ.mp hp).1,λp hp=>h.keys p (ahZ.mp hp).1,?_,?_,hd]
  .show(bK B.rows row).length<=i+1;have:=PL B.rows row;omega
  .show(bK B.touched row).length<=i+1;have:=PL B.touched row;omega
 |some xs=>
  show#[h.heads,ajg h.nd,h.wf.deed row (some xs),λp hp=>?_,λp hp=>?_,?_,?_,hd]
  .obtain hp|hp:=Q3 hp
   .show h.ok p hp.1
   .rw[hp];show c xs rfl
  .obtain hp|hp:=Q3 hp
   .show h.keys p hp.1
   .rw[hp];show#[a,h1]
  .show(aF B.rows row xs).length<=i+1;have:=Uy B.rows row xs;omega
  .show(aF B.touched row (B.now+1)).length<=i+1;have:=Uy B.touched row (B.now+1);omega
theorem iJ.small{B:Bk}{i:Nat}(h:iJ B i)(hi:i<1000000):tU B:=by
 let h1:=h.tl;let h2:=h.dl;let a:=h.rl;show#[(),(),()]
end
end _K
namespace _K
open PySem _L PyProof.Rows _M _V _W
section
variable{P:Ϯ}{w:Ϭ}{K:ϩ}{mg:Str->Option ε}{base:ϫ}
def bf(B:Bk):List (Int×(List V×Int)):=B.rows.map λr=>(r.1,(r.2,(Μ B.touched r.1).getD 0))
theorem JW(B:Bk):(bf B).length=B.rows.length:=aav ..
theorem Lq(B:Bk):(bf B).map (·.1)=B.rows.map (·.1):=by
 unfold bf;rw[afC];rfl
theorem O5(B:Bk)(row:Int):Μ (bf B) row=(Μ B.rows row).map λxs=>(xs,(Μ B.touched row).getD 0):=by
 unfold bf Μ;induction B.rows with
 |nil=>rfl
 |cons r m a=>
  rw[ad4,adZ,adZ];by_cases e:r.1=row
  .rw[decide_eq_true e];show some (r.2,_)=some (r.2,_);rw[e]
  .rw[decide_eq_false e];show a
theorem CT{R:V->(List V×Int)->Prop}{B:Bk}{Ϸ:List (Key×V)}(h:ς (PR R) Ϸ (bf B))(row:Int):(aj Ϸ (Sum.inl row)=none/\ Μ B.rows row=none)\/∃v xs,aj Ϸ (Sum.inl row)=some v/\ Μ B.rows row=some xs/\R v (xs,(Μ B.touched row).getD 0):=by
 obtain⟨e1,a⟩|⟨v,x,e1,a,c⟩:=jU h row
 .rw[O5,aoc]at a;show .inl #[e1,a]
 .rw[O5]at a;let#[xs,e,f]:=aiq.mp a;show .inr #[v,xs,e1,e,by rw[f];show c]
theorem ai7(B:Bk)(row:Int)(xs:List V):bf (dF B row (some xs))=aF (bf B) row (xs,B.now+1):=by
 show(aF B.rows row xs).map (λr=>(r.1,(r.2,(Μ (aF B.touched row (B.now+1)) r.1).getD 0)))=aF (bf B) row (xs,B.now+1);let c:∀r:Int×List V,¬r.1=row->(Μ (aF B.touched row (B.now+1)) r.1).getD 0=(Μ B.touched r.1).getD 0:=λr h=>by rw[vJ,if_neg h]
 let a:∀r:Int×List V,r.1=row->(Μ (aF B.touched row (B.now+1)) r.1).getD 0=B.now+1:=λr h=>by rw[vJ,if_pos h];rfl
 let f:((bf B).any λp=>decide (p.1=row))=B.rows.any λp=>decide (p.1=row):=by
  unfold bf;rw[List.any_map];rfl
 unfold aF;rw[f];by_cases e:(B.rows.any λp=>decide (p.1=row))=true
 .rw[if_pos e,if_pos e];unfold bf;rw[afC,afC];show ajx λr _=>?_
  by_cases h:r.1=row
  .let h1:=a (r.1,xs) h;unfold aF at h1;simp only[Function.comp,if_pos h];rw[h1]
  .let h1:=c r h;unfold aF at h1;simp only[Function.comp,if_neg h];rw[h1]
 .rw[if_neg e,if_neg e];unfold bf;rw[anx];let h1:=a (row,xs) rfl;unfold aF at h1;show congr (congrArg _ (ajx λr g=>?_)) ?_
  .let h2:=c r λz=>e (aly.mpr #[r,g,decide_eq_true z])
   unfold aF at h2;rw[h2]
  .show [(row,(xs,_))]=_;rw[h1]
theorem aei(B:Bk)(row:Int):bf (dF B row none)=bK (bf B) row:=by
 show(bK B.rows row).map (λr=>(r.1,(r.2,(Μ (bK B.touched row) r.1).getD 0)))=bK (bf B) row;unfold bf;let e:bK (B.rows.map λr=>(r.1,(r.2,(Μ B.touched r.1).getD 0))) row=(bK B.rows row).map λr=>(r.1,(r.2,(Μ B.touched r.1).getD 0)):=by
  unfold bK;rw[apc];rfl
 rw[e];show ajx λr a=>?_
 rw[yZ,if_neg (of_decide_eq_true (ahZ.mp a).2)]
def TR(F:List δ)(H:Hp)(v:V)(x:List V×Int):=∃t l,v=.ref t/\H t=some (.tup [.ref l,.int x.2])/\H l=some (.lst x.1)/\t∉F/\l∉F
theorem TR.out{F S:List δ}{H H':Hp}{v:V}{x:List V×Int}(h:TR F H v x)(o:Out S H H')(hs:∀y∈S,y∈F):TR F H' v x:=by
 let#[t,l,e,h1,h2,a,c]:=h;show#[t,l,e,o _ _ (λz=>a (hs _ z)) h1,o _ _ (λz=>c (hs _ z)) h2,a,c]
theorem TR.same{F:List δ}{H H':Hp}{v:V}{x:List V×Int}(h:TR F H v x)(s:ζ H H'):TR F H' v x:=h.out (Out.of (S:=[]) s) (λ_ z=>by cases z)
structure fH(mg:Str->Option ε)(F:List δ)(A:BA)(d:δ)(H:Hp)(B:Bk):Prop where
 bk:Κ (cB mg) H A B
 ro:DictAt (TR F H) H d (bf B)
section
variable{F:List δ}{A:BA}{d:δ}{H H':Hp}{B B':Bk}
theorem fH.same(h:fH mg F A d H B)(a:ζ H H'):fH mg F A d H' B:=by
 let#[k1,e1,h1]:=h.ro;show#[h.bk.same a,#[k1,a _ _ e1,il h1 λv x z=>z.same a]]
theorem fH.tH(ap:yL A d F)(c:Κ (cB mg) H A B){k0 Ϸ:List (Key×V)}(e:H d=some (.dK k0))(f:ς (PR (TR F H)) Ϸ (bf B)):fH mg F A d (upd H d (.dK Ϸ)) B:=by
 show#[c.out (S:=[d]) (Out.upd (by simp)) (λy a ys z=>by rw[acN.mp a,e]at z;cases z) λy a g=>?_,#[Ϸ,υ,il f λv x z=>z.out (S:=[d]) (Out.upd (by simp)) λy a=>by rw[acN.mp a];show ap.inF _ (by simp)]];rw[acN.mp g]at a;show ap.nd a
theorem fH.book(ap:yL A d F)(h:fH mg F A d H B)(o:Out A.fp H H'):DictAt (TR F H') H' d (bf B):=by
 let#[k1,e1,h1]:=h.ro;show#[k1,o _ _ (λz=>ap.nd (De _ z)) e1,il h1 λv x z=>z.out o λy a=>ap.inF _ (by simp[a])]
end
inductive Jr (K:ϩ) (mg:Str->Option ε) (vs:List V) (H:Hp) (Q:VK) (E:XK):Prop
 |mk (F:List δ) (A:BA) (B:Bk) (i:Nat) (sc d:δ) (ns:List Int) (k way:Int):vs=[.ref sc,.int k,.int way,.ref A.b,.ref d]->η K H sc (ns.map V.int)->ns.length<=63->0<=k->k<=10000->fH mg F A d H B->yL A d F->(∀x∈F,H x≠none)->iJ B i->i<64->(∀row o H',0<=row->row<90->(∀xs,o=some xs->ύ ι (row,xs))->(Μ B.rows row=none->o≠none)->Out (d::A.fp) H H'->fH mg F A d H' (dF B row o)->Q .non H')->Jr K mg vs H Q E
theorem Gz(T:Txt K mg):Def P w K mg base true 7 "_law_deed" ["_law_script","_law_k","_law_way","_law_book","_law_table"] (Jr K mg):=by
 show Γ (S:=QB) T.Gz (λf Ϻ A' outer s0 H vs Q E W h=>?_);intro X _;let#[F,A,B,i,sc,d,ns,k,Y,rfl,hS,hl,k0,k1,hT,ap,gB,C,hi,q]:=h;let nd:=QB.nd;let n2:=T.jW;let n3:=T.bY;let n4:=T.tD;let hsz:=ϱ;let Z:_+1<cLine:=afZ (aiv (by decide:1<=64) _) W.units;let D:=C.small ();let hrl:=C.rl;let h6:B.heads.length<=6:=by rw[C.heads];decide
 let D0:= @lH P w K mg base T;let D2:= @yH P w K mg base T;let M1:ϙ P w K mg base true 6 (cB mg) "put" ["self","row","values"] (uG mg):=(ace T).meth T.ϛ T.adp;let M2:ϙ P w K mg base true 6 (cB mg) "change" ["self","row","values"] (vL mg):=(af8 T).meth T.ϛ T.afP;let M3:ϙ P w K mg base true 4 (cB mg) "take" ["self","row"] (wB mg):=(afx T).meth T.ϛ T.aeU;let Gn:∀{H2 H3:Hp},Out A.fp H2 H3->Out (d::A.fp) H2 H3:=λo=>o.mono λx hx=>by simp[hx]
 let#[Ϸ,er,hR]:=id hT.ro;let ab:=hR.len;rw[JW]at ab;let M4:ϙ P w K mg base true 1 (cB mg) "moment" ["self"] (dj mg Bk.now):=(oR T).meth T.ϛ T.pW
 let tail:∀(row:Int)(v:δ)(xs:List V)(H3:Hp),0<=row->row<90->ύ ι (row,xs)->Out (d::A.fp) H H3->Κ (cB mg) H3 A (dF B row (some xs))->DictAt (TR F H3) H3 d (bf B)->H3 v=some (.lst xs)->v∉F->
   Ο X ((aB wJ).drop 4) {nx:=λ_ H'=>Q .non H',rt:=Q} [some (.ref sc),some (.int k),some (.int Y),some (.ref A.b),some (.ref d),some (.int row),some (.ref v)] H3:=by
  intro row v xs H3 s r1 hok a l ac J M;let#[zc,G,sG]:=ac;let ae:=sG.len;rw[JW]at ae;f_len;show Df Z ?_;lk;show dZ (pl:=_) W ϋ ?_;f_are;show#[A.b,cB mg,A.dx,_,true,1,_,dj mg Bk.now,rfl,l.ins,by rfl,M4,by decide,id,A,_,rfl,l,?_];lk;show#[Ζ,λt O=>?_];let#[I,e4]:=ϒ O (.tup [.ref v,.int (B.now+1)]);let af:t∉F:=λz=>by
   by_cases hm:t∈d::A.fp
   .obtain e|hm:=ϲ.mp hm
    .rw[e,G]at O;cases O
    .show l.KD t (De t hm) O
   .cases e:H t with
    |none=>show gB t z e
    |some u=>rw[a _ _ hm e]at O;cases O
  change EV _ _ _ (upd H3 t (.tup [.ref v,.int (B.now+1)])) _;generalize upd H3 t (.tup [.ref v,.int (B.now+1)])=H4 at I e4⊢;lk;show#[d,_,rfl,jy.k (k:=Sum.inl row) (I _ _ G) (),?_];show q row (some xs) _ s r1 (λys e=>by cases e;show hok) (λ_ z=>by cases z) ((a.trans (Out.of I)).trans (Out.upd (by simp))) (fH.tH ap (l.same I) (I _ _ G) ?_);rw[ai7];show yE (il sG λv x z=>z.same I) row (x:=(xs,B.now+1)) #[t,v,rfl,e4,I _ _ J,af,M]
 let rest:∀(row:Int)(H1:Hp),0<=row->row<90->ζ H H1->Ο X ((aB wJ).drop 2) {nx:=λ_ H'=>Q .non H',rt:=Q} [some (.ref sc),some (.int k),some (.int Y),some (.ref A.b),some (.ref d),some (.int row),none] H1:=by
  intro row H1 s r1 s1;k_go;show#[sc,ns,300+2*k,rfl,s1.seq hS,hl,(),(),λv xs H2 s2 ag J c=>?_];let bc:=s1.trans s2;let M:v∉F:=λz=>gB v z (s1.free ag)
  let n:=hT.same bc;let R:=n.bk;let g2:=az.k (k:=Sum.inl row) (bc _ _ er);let hok:ύ ι (row,xs):=c;w_up;show Θ ?_;lk;show Og Z g2 ?_;obtain⟨e1,U⟩|⟨u,x,e1,U,_⟩:=CT hR row
  .rw[show(aj Ϸ (Sum.inl row)).isSome=false by rw[e1];rfl];lk;f_len;show aV ?_;show cz (pl:=_) W ϋ (h:=?_);f_are;show#[A.b,cB mg,A.dx,_,true,6,_,uG mg,rfl,R.ins,by rfl,M1,by decide,id,?_];lk;show jr (.inl (η.of J)) λb hb=>?_
   let#[g,eb]:=ϒ hb (.lst xs);generalize upd H2 b (.lst xs)=H8 at g eb⊢;lk;show#[A,B,row,b,xs,rfl,R.same g,eb,h6,#[s,(),by rw[C.heads];show c],D,λz=>absurd U z,λ_ H3 a k3=>?_];show tail row v xs H3 s r1 hok ((Out.of (bc.trans g)).trans (Gn a)) k3 ((n.same g).book ap a) (a _ _ (λz=>M (ap.inF _ (by simp[z]))) (g _ _ J)) M
  .rw[show(aj Ϸ (Sum.inl row)).isSome=true by rw[e1];rfl];lk;f_len;show Θ ?_;lk;show Η (λhw=>?_) (λhw=>?_)
   .w_up;show aV ?_;show cz (pl:=_) W ϋ (h:=?_);f_are;show#[A.b,cB mg,A.dx,_,true,4,_,wB mg,rfl,R.ins,by rfl,M3,by decide,id,?_];lk;show#[A,B,row,rfl,R,s,(),D,C.wf,(λz=>by rw[U]at z;cases z),λ_ H3 a k3=>?_];let#[zc,G,sG]:=n.book ap a;w_up;show aV (yJ ?_);lk;show#[d,rfl,.inl #[_,.inl G],?_];lk;let ah:∃v,aj zc (Sum.inl row)=some v:=by
     obtain⟨_,z⟩|⟨u,y,z,_⟩:=CT sG row
     .rw[U]at z;cases z
     .show#[u,z]
    let#[vv,zV]:=ah;show#[zc,Sum.inl row,vv,G,rfl,zV,?_];f_len;show Q6 ?_;show q row none _ s r1 (λys e=>by cases e) (λz=>by rw[U]at z;cases z) (((Out.of bc).trans (Gn a)).trans (Out.upd (by simp))) (fH.tH ap k3 G (by rw[aei];show Cr sG row))
   .f_len;show aV ?_;show cz (pl:=_) W ϋ (h:=?_);f_are;show#[A.b,cB mg,A.dx,_,true,6,_,vL mg,rfl,R.ins,by rfl,M2,by decide,id,?_];lk;show jr (.inl (η.of J)) λb hb=>?_
    let#[g,eb]:=ϒ hb (.lst xs);generalize upd H2 b (.lst xs)=H8 at g eb⊢;lk;show#[A,B,row,b,xs,rfl,R.same g,eb,h6,#[s,(),by rw[C.heads];show c],D,(λz=>by rw[U]at z;cases z),λ_ H3 a k3=>?_];show tail row v xs H3 s r1 hok ((Out.of (bc.trans g)).trans (Gn a)) k3 ((n.same g).book ap a) (a _ _ (λz=>M (ap.inF _ (by simp[z]))) (g _ _ J)) M
 k_go;show#[sc,ns,500+k,rM,rfl,hS,hl,(),(),Ai,?_];let j0:=eQ ns (500+k) (m:=rM) Ai;let j1:=Int.lt_of_lt_of_le (fK ns (500+k) (m:=rM) Ai) ae9;generalize cA ns (500+k) rM=row at j0 j1⊢;w_up;show Θ ?_;lk;show Η (λhw=>?_) (λhw=>?_)
 .lk;show Kl er ?_;lk;show Η (λai=>?_) (λai=>?_)
  .f_len;f_tup;lk;show Aj (ks:=B.rows.map (·.1)) er (by rw[En hR,Lq]) (by rw[aav];omega) λL ks hL hp hs=>?_
   let#[cL,eL]:=ϒ hL (.lst (ks.map V.int));generalize upd H L (.lst (ks.map V.int))=H1 at cL eL⊢;let hks:ks.length=Ϸ.length:=by rw[hp.length_eq,aav,ab]
   lk;show Kl (cL _ _ er) ?_;lk;show#[sc,ns,600+k,Ϸ.length,rfl,cL.seq hS,hl,(),(),(),?_];let c0:=eQ ns (600+k) (m:=(Ϸ.length:Nat)) ();let c1:=fK ns (600+k) (m:=(Ϸ.length:Nat)) ();generalize cA ns (600+k) (Ϸ.length:Nat)=jj at c0 c1⊢;let#[j,rfl]:=acf c0;let hj:j<ks.length:=()
   show Ϡ (η.of eL) (v:=.int ks[j]) (ϣ (by rw[abD,aah hj];rfl)) ?_;let hm:ks[j]∈B.rows.map (·.1):=hp.mem_iff.mp (agJ hj);let#[p,al,e]:=adw.mp hm;let hkk:=C.keys p al;show rest ks[j] H1 () () cL
  .show Ε (rest row H j0 j1 (ζ.refl _))
 .lk;show Ε (rest row H j0 j1 (ζ.refl _))
end
end _K
namespace _K
open PySem _L PyProof.Rows _M _V _W
section
variable{P:Ϯ}{w:Ϭ}{K:ϩ}{mg:Str->Option ε}{base:ϫ}
def aew:List ϧ->List ϧ
 |(.If _ t _ _)::_=>t
 |_=>[]
def Jc:List ϧ->List ϧ
 |(.For _ _ b _ _)::_=>b
 |_=>[]
def jo(B:Bk)(mo:Nat)(H:Hp)(p:δ)(H':Hp)(v:V)(r:Row):=∃t l,v=.ref t/\H t=none/\H l=none/\t≠p/\l≠p/\H' t=some (.tup [.int r.1,.ref l,.bl (aX B mo r.1)])/\H' l=some (.lst r.2)
theorem jo.same{B:Bk}{mo:Nat}{H H' H2:Hp}{p:δ}{v:V}{r:Row}(h:jo B mo H p H' v r)(s:ζ H' H2):jo B mo H p H2 v r:=by
 let#[t,l,e,h1,h2,a,c,f,g]:=h;show#[t,l,e,h1,h2,a,c,s _ _ f,s _ _ g]
theorem jo.row{B:Bk}{mo:Nat}{H H':Hp}{p:δ}{v:V}{r:Row}(h:jo B mo H p H' v r):iw H' v r:=by
 let#[t,l,e,h1,h2,f,g,a,c]:=h;show#[t,l,_,e,a,c]
inductive Jj (K:ϩ) (vs:List V) (H:Hp) (Q:VK) (E:XK):Prop
 |mk (F:List δ) (d b:δ) (k mo:Nat) (os:List Ord) (B:Bk):vs=[.ref d,.ref b,.int (k:Nat),.int (mo:Nat)]->DictAt (TR F H) H d (bf B)->aH H b os->bw ι os->k<4->(B.rows.map Prod.fst).Nodup->B.rows.length<64->(∀r∈B.rows,ύ ι r)->(∀p ws ls H',ζ H H'->H p=none->H' p=some (.lst ws)->ς (jo B mo H p H') ws ls->Line ι os ls->ls.Perm (B.rows.filter λr=>Ϝ r.2 (ϝ k))->Q (.ref p) H')->Jj K vs H Q E
theorem Bm(T:Txt K mg):Def P w K mg base true 2 "_law_line" ["_law_table","_law_order_here","_law_sieve","_law_since"] (Jj K):=by
 show Γ (S:=QL) T.Bm (λ_ _ A _ s H vs Q E hr h=>?_);intro X _;let#[F,d,b,k,mo,os,B,rfl,#[Ϸ,er,hR],hO,ϻ,hk,R,Uk,o,q]:=h;generalize U:B.rows=m at R Uk o q;let nd:=QL.nd;let n1:=T.tD;let n2:=T.jW;let n3:=T.bY;let hsz:=ϱ;let W:=afZ (aiv (show 1<=64 by decide) _) hr.units;let D1:= @wY P w K mg base T;let D2:= @zH P w K mg base T;k_go;show#[Ζ,λp hp=>?_];let#[cL,ep]:=ϒ hp (.lst []);generalize upd H p (.lst [])=H0 at cL ep⊢;w_up;show uv (by walk_at"po") (by rfl) (by intro _;rfl) ?_;walk_at"cb";lk;show Aj (ks:=m.map Prod.fst) (cL _ _ er) (by rw[En hR,Lq,U]) (by rw[aav];show Uk) λL ks hL I hso=>?_
 let#[s1,eL]:=ϒ hL (.lst (ks.map V.int));let YD:L≠p:=λe=>by rw[e,ep]at hL;cases hL
 generalize upd H0 L (.lst (ks.map V.int))=H1 at s1 eL⊢;let hkl:ks.length=m.length:=by rw[I.length_eq,aav]
 let ar:(ks.map V.int).length=ks.length:=aav ..;let ae:=T6 R I;let au:=cL.trans s1;show#[L,_,rfl,η.of eL,λi σ H'=>(∃Y Z o3,σ=[some (.ref d),some (.ref b),some (.int (k:Nat)),some (.int (mo:Nat)),some (.ref p),Y,Z,o3])/\ζ H H'/\H' L=some (.lst (ks.map V.int))/\∃ws ls,H' p=some (.lst ws)/\ς (jo B mo H p H') ws ls/\Line ι os ls/\ls.Perm ((bW m (ks.take i)).filter λr=>Ϝ r.2 (ϝ k)),#[#[none,none,none,rfl],au,eL,[],[],s1 _ _ ep,.nil,.nil,List.Perm.refl _],λi σ' H' _ hP=>η.of hP.2.2.1,λi x σ' H' hx hP=>?_,λσ' H' hP=>?_]
 .let#[#[Y,Z,o3,rfl],f,zf,ws,ls,g,n,jG,bJ]:=hP;rw[abD]at hx;let#[row,j,rfl]:=aiq.mp hx;let hi:=(aai.mp j).1;let af:row∈m.map Prod.fst:=I.mem_iff.mp (aaM j);obtain⟨_,z⟩|⟨u,xs,ag,v,t0,l,rfl,ab,ah,_⟩:=CT hR row
  .rw[U]at z;show absurd af (Em.mp z)
  rw[U]at v;let av:(row,xs)∈m:=Xm v;let mR:=o _ av;let y:bW m (ks.take (i+1))=bW m (ks.take i)++[(row,xs)]:=by
   unfold bW;rw[anQ,j,anx];show _++[(row,(Μ m row).getD [])]=_;rw[v];rfl
  let M:∀r∈ls,r∈m/\r.1∈ks.take i:=λr hr=>by
   let h1:=(ahZ.mp (bJ.mem_iff.mp hr)).1;let#[k',ai,e]:=adw.mp h1;let h2:r∈bW m ks:=adw.mpr #[k',aeR ai,e];show#[ae.mem_iff.mp h2,by rw[<-e];show ai]
  let hll:ls.length<=i:=by
   rw[bJ.length_eq];show aeO (ahW _ _) ?_;unfold bW;rw[aav,afM];omega
  let hwl:=n.len;let dg:∀{H2:Hp},ζ H H2->az H2 d (.int row) (some (.ref t0)):=λO=>by
   have:=az.k (k:=Sum.inl row) (O _ _ er);rw[ag]at this;show this
  show Α nd (by rfl) (.inl rfl) (.inl rfl) ?_;f_len;show Θ ?_;lk;show xV W (dg f) ?_;lk;show ϑ (ρ.of (f _ _ ab)) (i:=0) rfl ?_;lk;show#[k,l,(row,xs),rfl,hk,f _ _ ah,mR,?_];cases hlt:Ϝ xs (ϝ k)with
  |false=>
   lk;show Ε #[#[_,_,_,rfl],f,zf,ws,ls,g,n,jG,?_];rw[y,anG,List.filter_cons_of_neg (by show ¬Ϝ xs (ϝ k)=true;rw[hlt];show aaN),apd,am9];show bJ
  |true=>
  lk;k_go;show xV W (dg f) ?_;lk;show ϑ (ρ.of (f _ _ ab)) (i:=0) rfl ?_;lk;show jr (.inl (η.of (f _ _ ah))) λG J=>?_
  let O:ζ H' (upd H' G (.lst xs)):=ζ.upd J;let qx:(upd H' G (.lst xs)) G=some (.lst xs):=υ;generalize upd H' G (.lst xs)=H2 at O qx⊢;lk;show xV W (dg (f.trans O)) ?_;lk;show ϑ (ρ.of ((f.trans O) _ _ ab)) (i:=1) rfl ?_;lk;show#[Ζ,λt ht=>?_];change Ο _ _ _ _ (upd H2 t (.tup [.int row,.ref G,.bl (aX B mo row)]));let#[s3,e3]:=ϒ ht (.tup [.int row,.ref G,.bl (aX B mo row)]);generalize upd H2 t (.tup [.int row,.ref G,.bl (aX B mo row)])=H3 at s3 e3⊢;let jz:=O.trans s3;let aw:=f.trans jz;let ax:iw H3 (.ref t) (row,xs):=#[t,G,_,rfl,e3,s3 _ _ qx];k_go;let ay:=amF (p:=λq=>aL ι os q (row,xs)) (l:=ls);let ac:∀r∈ls,ύ ι r:=λr hr=>o r (M r hr).1
  let kr:=bN mR ϻ;let aC:ls.Pairwise λa b=>aL ι os b (row,xs)=true->aL ι os a (row,xs)=true:=xZ ϻ (c:=.at_ true (Ξ ι os xs) row) kr ac jG
  let#[Pa,IW]:=wK aC;generalize Xv:ls.countP (λq=>aL ι os q (row,xs))=cnt at ay Pa IW;let fin:∀H4,ζ H3 H4->Ο X ((aew (Jc ((aB vC).drop 1))).drop 3) {nx:=λσ H'=>(∃Y Z o3,σ=[some (.ref d),some (.ref b),some (.int (k:Nat)),some (.int (mo:Nat)),some (.ref p),Y,Z,o3])/\ζ H H'/\H' L=some (.lst (ks.map V.int))/\∃ws ls,H' p=some (.lst ws)/\ς (jo B mo H p H') ws ls/\Line ι os ls/\ls.Perm ((bW m (ks.take (i+1))).filter λr=>Ϝ r.2 (ϝ k)),rt:=Q,ct:=λσ H'=>(∃Y Z o3,σ=[some (.ref d),some (.ref b),some (.int (k:Nat)),some (.int (mo:Nat)),some (.ref p),Y,Z,o3])/\ζ H H'/\H' L=some (.lst (ks.map V.int))/\∃ws ls,H' p=some (.lst ws)/\ς (jo B mo H p H') ws ls/\Line ι os ls/\ls.Perm ((bW m (ks.take (i+1))).filter λr=>Ϝ r.2 (ϝ k)),bk:=λσ' H'=>Ο X ((aB vC).drop 2) {nx:=λ_ H'=>Q .non H',rt:=Q} σ' H'} [some (.ref d),some (.ref b),some (.int (k:Nat)),some (.int (mo:Nat)),some (.ref p),some (.int row),some (.ref t),some (.int (cnt:Nat))] H4:=by
   intro H4 C;let qL:=jz.trans C;let Mx:=qL _ _ g;f_len;show aV (dw PySem.F.plainAttrs_list PySem.F.slot_list_insert PySem.F.type_list_insert (h:=?_));f_are;show#[.inl #[rfl,_,η.of Mx],?_];lk;show iW Yw #[p,ws,cnt,_,rfl,rfl,Mx,(),(),?_];let JB:t≠p:=λe=>by rw[e,O _ _ g]at ht;cases ht
   let Ko:G≠p:=λe=>by rw[e,g]at J;cases J
   show#[#[_,_,_,rfl],λe u he=>?_,?_,gQ ws cnt (.ref t),gQ ls cnt (row,xs),υ,Xi (n.imp λu q x=>?_) ?_,?_,?_]
   .rw[ο (Ϗ he hp)];show(f.trans qL) _ _ he
   .rw[ο YD];show qL _ _ zf
   .let#[t',l',rfl,g1,g2,g3,g4,g5,g6]:=x;show#[t',l',rfl,g1,g2,g3,g4,by rw[ο g3];show qL _ _ g5,by rw[ο g4];show qL _ _ g6]
   .show#[t,G,rfl,(f.trans O).free ht,f.free J,JB,Ko,by rw[ο JB];show C _ _ e3,by rw[ο Ko];show(s3.trans C) _ _ qx]
   .rw[<-Xv];show abT ϻ ac mR jG λq hq e=>?_
    let aD:=(M q hq).2;let e2:row∈ks.take i:=by rw[<-show q.1=row from e];show aD
    let aE:ks.Nodup:=I.nodup_iff.mpr R;let h':(ks.take i++ks.drop i).Nodup:=by rw[amA];show aE
    show(anP.mp h').2.2 row e2 row (by rw[qM j];show aex ..) rfl
   .rw[y,anG,show(([(row,xs)]:List Row).filter λr=>Ϝ r.2 (ϝ k))=[(row,xs)]from by rw[alx,if_pos hlt,apd]];unfold gQ;show List.perm_middle.trans ?_;rw[amA];show(List.Perm.cons _ bJ).trans (List.perm_append_singleton _ _).symm
  w_up;show JV (by walk_at"po") (λmm σ H4=>∃a:Nat,σ=[some (.ref d),some (.ref b),some (.int (k:Nat)),some (.int (mo:Nat)),some (.ref p),some (.int row),some (.ref t),some (.int (a:Nat))]/\ζ H3 H4/\a<=cnt/\mm=ls.length-a) ls.length #[0,rfl,ζ.refl _,agn _,rfl] λmm σ H4 hW=>?_
  let#[a,rfl,C,ha,rfl]:=hW;let qQ:η K H4 p ws:=η.of ((jz.trans C) _ _ g);show ym ?_;lk;show Η (λal=>?_) (λal=>?_)
  .let am:a<ls.length:=()
   let aI:ls[a]?=some ls[a]:=aah am;let#[xa,aS,aT]:=n.get' aI;lk;show Ϡ qQ (ϣ aS) ?_;lk;show#[b,xa,.ref t,os,ls[a],(row,xs),rfl,hO.same (aw.trans C),ϻ,((aT.same jz).same C).row,ax.same C,ac _ (agJ am),mR,λH5 s5=>?_];cases hrl:aL ι os ls[a] (row,xs)with
   |true=>
    lk;let D:a<cnt:=Nat.lt_of_not_le λz=>by
     let U:ls[a]∈ls.drop cnt:=List.mem_drop_iff_getElem.mpr #[a-cnt,(),by congr 1;omega];rw[IW _ U]at hrl;cases hrl
    show#[λσ' H'=>∃a':Nat,σ'=[some (.ref d),some (.ref b),some (.int (k:Nat)),some (.int (mo:Nat)),some (.ref p),some (.int row),some (.ref t),some (.int (a':Nat))]/\ζ H3 H'/\a'<=cnt/\a'=a+1,λσ' H' hN=>?_,?_]
    .let#[a',e1,e2,e3,e4]:=hN;show#[ls.length-a',(),a',e1,e2,e3,rfl]
    .f_len;f_tup;lk;show#[a+1,rfl,C.trans s5,D,rfl]
   |false=>
    lk;let D:a=cnt:=Nat.le_antisymm ha (aoT λz=>by
     let U:ls[a]∈ls.take cnt:=List.mem_take_iff_getElem.mpr #[a,(),rfl];rw[Pa _ U]at hrl;cases hrl)
    subst D;show fin H5 (C.trans s5)
  .lk;let D:a=cnt:=()
   subst D;show fin H4 C
 .let#[#[Y,Z,o3,rfl],f,zf,ws,ls,g,n,jG,bJ]:=hP;rw[ar,am0]at bJ;f_len;show ψ ?_;lk;show q p ws ls H' f hp g n jG (bJ.trans (ae.filter _))
theorem aev{os:List Ord}(a:bw ι os){r q p:Row}(c:ύ ι r)(e:ύ ι q)(f:ύ ι p)(h1:aL ι os r q=true)(h2:aL ι os q p=true):aL ι os r p=true:=sV (bN c a) (bN e a) (bN f a) h1 h2
theorem aiz{os:List Ord}(a:bw ι os){r:Row}(c:ύ ι r):aL ι os r r=false:=by
 show aq os _ _ r.1 r.1=false;rw[wX (bN c a).len.symm];show decide_eq_false ()
theorem af2{os:List Ord}(c:bw ι os){r q:Row}(a:ύ ι r)(f:ύ ι q)(h:aL ι os r q=true):aL ι os q r=false:=by
 cases e:aL ι os q r with
 |false=>rfl
 |true=>
  have:=aev c a f a h e;rw[aiz c a]at this;cases this
inductive Ub (vs:List V) (H:Hp) (Q:VK) (E:XK):Prop
 |mk (b ln:δ) (u:V) (bh:Bool) (os:List Ord) (r:Row) (ls:List Row) (lw:List V):vs=[.ref b,.ref ln,u,.bl bh]->aH H b os->bw ι os->iw H u r->ύ ι r->H ln=some (.lst lw)->ς (iw H) lw ls->(∀r∈ls,ύ ι r)->ls.length<64->(∀H',ζ H H'->Q (.int ((aA ι os (.at_ (!bh) (Ξ ι os r.2) r.1) ls:Nat):Int)) H')->Ub vs H Q E
theorem Bv(T:Txt K mg):Def P w K mg base true 2 "_law_cut" ["_law_order_here","_law_line_here","_law_one","_law_behind"] Ub:=by
 show Γ (S:=R0) T.Bv (λ_ _ A _ s H vs Q E U h=>?_);intro X _;let#[b,ln,u,a,os,r,ls,lw,rfl,B,m,C,g,D,F,j,M,q]:=h;let nd:=R0.nd;let hsz:=ϱ;let W:= @wY P w K mg base T;let n:=F.len;let O:∀i,(ls.take i).countP (aU ι os (.at_ (!a) (Ξ ι os r.2) r.1))<=64:=λi=>aeO (amF ..) (by rw[afM];omega)
 k_go;w_up;show uv (by walk_at"po") (by rfl) (by intro _;rfl) ?_;lk;show#[ln,lw,rfl,η.of D,λi σ H'=>(∃o,σ=[some (.ref b),some (.ref ln),some u,some (.bl a),some (.int (((ls.take i).countP (aU ι os (.at_ (!a) (Ξ ι os r.2) r.1)):Nat):Int)),o])/\ζ H H',#[#[none,rfl],ζ.refl _],λi σ' H' _ l=>η.of (l.2 _ _ D),λi x σ' H' R l=>?_,λσ' H' l=>?_]
 .let#[#[o,rfl],f]:=l;let#[y,G,I]:=F.get R;let p:=j y (aaM G);let cnt:(ls.take (i+1)).countP (aU ι os (.at_ (!a) (Ξ ι os r.2) r.1))=(ls.take i).countP (aU ι os (.at_ (!a) (Ξ ι os r.2) r.1))+(if aU ι os (.at_ (!a) (Ξ ι os r.2) r.1) y=true then 1 else 0):=by
   rw[anQ,G,List.countP_append];show _+[y].countP _=_;rw[List.countP_cons,List.countP_nil];omega
  let v:=O i;let yes:∀H2,ζ H' H2->aU ι os (.at_ (!a) (Ξ ι os r.2) r.1) y=true->∀o,(∃o',([some (.ref b),some (.ref ln),some u,some (.bl a),some (.int (((ls.take i).countP (aU ι os (.at_ (!a) (Ξ ι os r.2) r.1)):Nat)+1)),o]:_L.St)=[some (.ref b),some (.ref ln),some u,some (.bl a),some (.int (((ls.take (i+1)).countP (aU ι os (.at_ (!a) (Ξ ι os r.2) r.1)):Nat):Int)),o'])/\ζ H H2:=λH2 c e o=>by
   rw[cnt,if_pos e];show#[#[o,rfl],f.trans c]
  let z:∀H2,ζ H' H2->aU ι os (.at_ (!a) (Ξ ι os r.2) r.1) y=false->∀o,(∃o',([some (.ref b),some (.ref ln),some u,some (.bl a),some (.int (((ls.take i).countP (aU ι os (.at_ (!a) (Ξ ι os r.2) r.1)):Nat):Int)),o]:_L.St)=[some (.ref b),some (.ref ln),some u,some (.bl a),some (.int (((ls.take (i+1)).countP (aU ι os (.at_ (!a) (Ξ ι os r.2) r.1)):Nat):Int)),o'])/\ζ H H2:=λH2 c e o=>by
   rw[cnt,if_neg (by rw[e];show aaN)];show#[#[o,rfl],f.trans c]
  generalize(ls.take i).countP (aU ι os (.at_ (!a) (Ξ ι os r.2) r.1))=Y at yes z v;show Α nd (by rfl) (.inl rfl) (.inl rfl) ?_;f_len;show Θ (ym ?_);lk;show#[b,x,u,os,y,r,rfl,B.same f,m,I.same f,C.same f,p,g,λH2 c=>?_];cases h1:aL ι os y r with
  |true=>
   lk;f_len;f_tup;lk;show yes H2 c ?_ _;cases a
   .show h1
   .show(!aL ι os r y)=true;rw[af2 m p g h1];rfl
  |false=>
   lk;cases a with
   |false=>
    lk;show Ε (z H2 c h1 _)
   |true=>
    lk;show#[b,u,x,os,r,y,rfl,B.same (f.trans c),m,C.same (f.trans c),I.same (f.trans c),g,p,λJ L=>?_];cases h2:aL ι os r y with
    |true=>
     lk;show Ε (z J (c.trans L) ?_ _);show(!aL ι os r y)=false;rw[h2];rfl
    |false=>
     lk;f_len;f_tup;lk;show yes J (c.trans L) ?_ _;show(!aL ι os r y)=true;rw[h2];rfl
 .let#[#[o,rfl],f]:=l;f_len;show ψ ?_;lk;rw[n,am0];show q H' f
def uf(v:V)(c:Prop):Prop:=(v=.non/\c)\/∃z,v=.str z/\¬c
theorem Ht{v:V}{c:Prop}[Decidable c](h:uf v c):decide (v=.non)=decide c:=by
 obtain⟨rfl,h⟩|⟨z,rfl,h⟩:=h
 .rw[decide_eq_true h];rfl
 .rw[decide_eq_false h];rfl
inductive Ii (vs:List V) (H:Hp) (Q:VK) (E:XK):Prop
 |mk (pf ln q0:δ) (B:Bk) (mo:Nat) (ls:List Row) (lw us:List V) (i j:Nat) (now:Int) (bk fo:V):vs=[.ref pf,.ref ln,.int (i:Nat),.int (j:Nat),.int now]->H pf=some (.tup [.ref q0,bk,fo,.int (ls.length:Nat),.int (i:Nat),.int now])->H q0=some (.lst us)->ς (fV H) us ((Τ ls i j).map λr=>(r.1,r.2,aX B mo r.1))->H ln=some (.lst lw)->ς (fV H) lw (ls.map λr=>(r.1,r.2,aX B mo r.1))->(∀r∈ls,ύ ι r)->ls.length<=1000->i<=j->j<=ls.length->uf bk (i=0)->uf fo (j=ls.length)->(∀H',ζ H H'->Q (.bl true) H')->Ii vs H Q E
theorem Fe(T:Txt K mg):Def P w K mg base true 1 "_law_leaf" ["_law_leaf_here","_law_line_here","_law_at","_law_after","_law_moment"] Ii:=by
 show Γ (S:=Uu) T.Fe (λ_ _ _ _ _ H vs Q E l h=>?_);intro X _;let#[pf,ln,q0,B,mo,ls,lw,us,i,j,now,bk,M,rfl,m,n,o,G,I,g,O,p,R,U,s,q]:=h;let nd:=Uu.nd;let n1:=T.bY;let hsz:=ϱ;let W:=l.units;let v:=I.len;rw[aav]at v;w_up;show dO ?_;lk;show ϥ (ρ.of m) ?_
 iterate 6 show Δ (Α nd (by rfl) (.inl rfl) (.inl rfl) ?_)
 show aa (W9 (Θ (ym ?_)));lk;show nO (η.of G) λp3 y=>?_
 rw[Oq lw i j p ()];let#[f,J]:=ϒ y (.lst (Τ lw i j));generalize upd H p3 (.lst (Τ lw i j))=L at f J⊢;let C:Τ (ls.map λr=>((r.1,r.2,aX B mo r.1):eZ)) i j=(Τ ls i j).map λr=>(r.1,r.2,aX B mo r.1):=by
  unfold Τ;rw[<-apk, <-apl]
 let D:ς (fV L) (Τ lw i j) ((Τ ls i j).map λr=>(r.1,r.2,aX B mo r.1)):=by
  rw[<-C];show(Wc I).imp λu r z=>fV.same z f
 let c:layR ((Τ ls i j).map λr=>(r.1,r.2,aX B mo r.1)):=λr l x Y=>by
  let#[Z,F,rfl]:=adw.mp l;show(g Z (ael (aeR F))).lay x Y
 let X8:=o.imp λu r z=>fV.same z f
 let a:(PyData.list (((Τ ls i j).map λr=>(r.1,r.2,aX B mo r.1)).map gk)).canLay0=true:=V3 c;let CV:(PyData.list (((Τ ls i j).map λr=>(r.1,r.2,aX B mo r.1)).map gk)).depth<=60:=by
  have:=M8 ((Τ ls i j).map λr=>(r.1,r.2,aX B mo r.1));simp only[PyData.depth];omega
 show ahT W (.lst (η.of (f _ _ n)) (PJ X8 c)) (.lst (η.of J) (PJ D c)) a a CV ?_;rw[SeqAt.eqv_refl _ a];let sql:η K L ln lw:=η.of (f _ _ G);lk;show dJ (λh=>absurd (by rw[v]) h) (λ_=>?_);lk;show dJ (λh=>absurd rfl h) (λ_=>?_);lk;show dJ (λh=>absurd rfl h) (λ_=>?_);show Ε ?_;f_len;show ψ ?_;let e1:V.bl (decide (bk=V.non))=V.bl (decide (V.int (i:Nat)=V.int 0)):=congrArg V.bl ((Ht U).trans (decide_eq_decide.mpr #[λe=>by rw[e];rfl,λe=>by injection e with e;omega]));let e2:V.bl (decide (M=V.non))=V.bl (decide (V.int (j:Nat)=V.int (lw.length:Nat))):=congrArg V.bl ((Ht s).trans (decide_eq_decide.mpr #[λe=>by rw[e,v],λe=>by injection e with e;omega]));lk;show Η (λ_=>?_) (λh=>absurd e1 h);lk;rw[decide_eq_true e2];show q _ f
def ig(z:Str):Prop:=46∉z.cps.toList\/∃b w,z.cps.toList=b++46::w/\46∉w/\w≠(ak (Υ b)).cps.toList
theorem JK(s:List Nat){x y:Nat}(a:x<9973)(f:y<9973):∀p:List Nat,Υ (p++x::s)=Υ (p++y::s)->x=y
 |[],h=>by
  let e:((x:Int)+137* Υ s) % 9973=((y:Int)+137* Υ s) % 9973:=h;omega+splitNatSub
 |c::p,h=>by
  let e:((c:Int)+137* Υ (p++x::s)) % 9973=((c:Int)+137* Υ (p++y::s)) % 9973:=h;let h1:=fD (p++x::s);let h2:=fD (p++y::s);show JK s a f p (by omega+splitNatSub)
theorem K9(s:List Nat){x y:Nat}(a:x<9973)(f:y<9973):∀p:List Nat,Υ (p++x::y::s)=Υ (p++y::x::s)->x=y
 |[],h=>by
  let e:((x:Int)+137*(((y:Int)+137* Υ s) % 9973)) % 9973=((y:Int)+137*(((x:Int)+137* Υ s) % 9973)) % 9973:=h;omega+splitNatSub
 |c::p,h=>by
  let e:((c:Int)+137* Υ (p++x::y::s)) % 9973=((c:Int)+137* Υ (p++y::x::s)) % 9973:=h;let h1:=fD (p++x::y::s);let h2:=fD (p++y::x::s);show K9 s a f p (by omega+splitNatSub)
theorem KQ{a b:List Nat}(h:(ak (Υ a)).cps.toList=(ak (Υ b)).cps.toList):Υ a=Υ b:=by
 let c:=fD a;let e:=fD b;let#[m,em]:=acf c.1;let#[n,f]:=acf e.1;rw[em,f]at h⊢;let h1:=vP (n:=m) ();let h2:=vP (n:=n) ();unfold qI at h1 h2;simp only[aa2,decide_eq_true_eq]at h1 h2;let e1:=h1.2.2;let g:=h2.2.2;rw[h,g]at e1;rw[e1]
theorem nU(b:List Nat):46∉(ak (Υ b)).cps.toList/\(ak (Υ b)).cps.toList.length=4:=by
 let c:=fD b;let a:=xg (Υ b);show#[a.1,a.2]
theorem Ky:∀l:List Nat,46∉l\/∃b w,l=b++46::w/\46∉w
 |[]=>.inl (by simp)
 |c::l=>by
  obtain h|⟨b,w,e,h⟩:=Ky l
  .by_cases a:c=46
   .subst a;show .inr #[[],l,rfl,h]
   .show .inl λf=>?_
    obtain e|e:=ϲ.1 f
    .show a e.symm
    .show h e
  .show .inr #[c::b,w,by rw[e];rfl,h]
theorem zW{z:Str}{l t:List Nat}(e:z.cps.toList=l++t)(c:46∉t)(g:5<=t.length):ig z:=by
 obtain h|⟨b,w,f,h⟩:=Ky l
 .show .inl λa=>?_
  rw[e]at a;obtain q|q:=adU.1 a
  .show h q
  .show c q
 .show .inr #[b,w++t,by rw[e,f];simp,λa=>?_,λq=>?_]
  .obtain q|q:=adU.1 a
   .show h q
   .show c q
  .have :=congrArg aji q;rw[(nU b).2,abK]at this;omega
theorem aaC{z:Str}{B p s:List Nat}{a x:Nat}(n:B++46::(ak (Υ B)).cps.toList=p++a::s)(e:z.cps.toList=p++x::s)(o:x<9973)(u:∀c∈B,c<9973)(ne:x≠a):ig z:=by
 let#[i,l]:=nU B;obtain⟨as,e1,j⟩|⟨bs,e1,j⟩:=anJ.1 n
 .cases as with
  |nil=>
   let#[rfl,rfl]:=List.cons.inj j;show zW e (λf=>?_) (by simp[l]);obtain q|q:=ϲ.1 f
   .show ne q.symm
   .show i q
  |cons c as=>
   let#[rfl,g]:=List.cons.inj j;let g:(ak (Υ B)).cps.toList=as++a::s:=g;rw[e1]at e;by_cases m:x=46
   .subst m;show .inr #[B++46::as,s,by rw[e],λf=>i (by rw[g];simp[f]),λq=>?_];have:=congrArg aji q;let v:=congrArg aji g;rw[(nU _).2]at this;rw[l,abK,acV]at v;omega
   .show .inr #[B,as++x::s,by rw[e];simp,λf=>?_,λq=>?_]
    .obtain q|q:=adU.1 f
     .show i (by rw[g];simp[q])
     .obtain q|q:=ϲ.1 q
      .show m q.symm
      .show i (by rw[g];simp[q])
    .rw[g]at q;show ne (List.cons.inj (an6 q)).1
 .cases bs with
  |nil=>
   let#[rfl,rfl]:=List.cons.inj j;show zW e (λf=>?_) (by simp[l]);obtain q|q:=ϲ.1 f
   .show ne q.symm
   .show i q
  |cons c bs=>
   let#[rfl,rfl]:=List.cons.inj j;show .inr #[p++x::bs,_,by rw[e];simp,i,λq=>ne ?_];have:=KQ q;rw[e1]at this;show(JK bs (u a (by rw[e1];simp)) o p this).symm
theorem agp{z:Str}{B p s:List Nat}{a c:Nat}(u:B++46::(ak (Υ B)).cps.toList=p++a::c::s)(e:z.cps.toList=p++c::a::s)(m:∀c∈B,c<9973)(ne:a≠c):ig z:=by
 let#[j,n]:=nU B;let nil:B=p->a=46->(ak (Υ B)).cps.toList=c::s->ig z:=λh1 h2 o=>by
  show .inr #[p++[c],s,by rw[e,h2];simp,λg=>j (by rw[o];simp[g]),λq=>?_];have:=congrArg aji q;let v:=congrArg aji o;rw[(nU _).2]at this;rw[n,acV]at v;omega
 obtain⟨as,e1,i⟩|⟨bs,e1,i⟩:=anJ.1 u
 .cases as with
  |nil=>
   let#[h1,h2]:=List.cons.inj i;show nil (by rw[e1];simp) h1.symm h2
  |cons d as=>
   let#[rfl,f]:=List.cons.inj i;let f:(ak (Υ B)).cps.toList=as++a::c::s:=f;rw[e1]at e;show .inr #[B,as++c::a::s,by rw[e];simp,λg=>j ?_,λq=>?_]
   .rw[f];simp only[adU,ϲ]at g⊢;obtain h|h|h|h:=g
    .show .inl h
    .show .inr (.inr (.inl h))
    .show .inr (.inl h)
    .show .inr (.inr (.inr h))
   .rw[f]at q;show ne (List.cons.inj (an6 q)).1.symm
 .cases bs with
  |nil=>
   let#[h1,h2]:=List.cons.inj i;show nil (by rw[e1];simp) h1 h2.symm
  |cons d bs=>
   let#[rfl,f]:=List.cons.inj i;cases bs with
   |nil=>
    let#[rfl,rfl]:=List.cons.inj f;show zW (l:=p++[46]) (t:=a::(ak (Υ B)).cps.toList) (by rw[e];simp) (λg=>?_) (by simp[n]);obtain q|q:=ϲ.1 g
    .show ne q.symm
    .show j q
   |cons d bs=>
    let#[rfl,rfl]:=List.cons.inj f;show .inr #[p++c::a::bs,_,by rw[e];simp,j,λq=>ne ?_];have:=KQ q;rw[e1]at this;show K9 bs (m a (by rw[e1];simp)) (m c (by rw[e1];simp)) p this
inductive Tn (mg:Str->Option ε) (vs:List V) (H:Hp) (Q:VK) (E:XK):Prop
 |mk (a:δ) (z:Str):vs=[.ref a,.str z]->z.length<=100000->(∀c∈z.cps.toList,c<1114112)->ig z->(∀H',ζ H H'->E (.ref (θ mg "NoMark")) (none,true) H')->Tn mg vs H Q E
theorem abG(T:Txt K mg):Def P w K mg base true 3 "read_mark" ["columns","text"] (Tn mg):=by
 show Γ (S:=xM) T.v5 (λ_ _ _ _ _ H vs Q E o h=>?_);intro X _;let#[a,z,rfl,p,g,i,q]:=h;let nd:=xM.nd;let s:=T.Ad;let hsz:=ϱ;let u:= @rH P w K mg base T;w_up;show dO ?_;show dw F.plainAttrs_str F.slot_str_rpartition F.type_str_rpartition (h:=?_);lk;show Um (c:=46) () λt l=>?_
 obtain i|⟨b,w,j,m,ne⟩:=i
 .rw[abj i];show EG _ _ _ _ (upd H t (.tup [.str akO,.str akO,.str z])) _;show ϥ (ρ.of υ) (Δ (Α nd (by rfl) (.inl rfl) (.inl rfl) (Δ (Α nd (by rfl) (.inl rfl) (.inl rfl) (Δ (Α nd (by rfl) (.inl rfl) (.inl rfl) (aa ?_)))))));let e:ζ H (upd H t (.tup [.str akO,.str akO,.str z])):=ζ.upd l;generalize upd H t (.tup [.str akO,.str akO,.str z])=H1 at e⊢;w_up;show Θ ?_;lk;show Η (λ_=>?_) (λh=>absurd (by fin2) h);f_len;show P0 ϋ T.OJ ?_;cbv;show#[by rw[hsz];simp,q H1 e]
 .rw[UW j m];let v:=_L.len_list z;let x:b.length<=100000:=by
   have:=congrArg aji j;rw[abK]at this;omega
  show EG _ _ _ _ (upd H t (.tup [.str #[b.toArray],.str #[#v[46]],.str #[w.toArray]])) _;show ϥ (ρ.of υ) (Δ (Α nd (by rfl) (.inl rfl) (.inl rfl) (Δ (Α nd (by rfl) (.inl rfl) (.inl rfl) (Δ (Α nd (by rfl) (.inl rfl) (.inl rfl) (aa ?_)))))));let e:ζ H (upd H t (.tup [.str #[b.toArray],.str #[#v[46]],.str #[w.toArray]])):=ζ.upd l;generalize upd H t (.tup [.str #[b.toArray],.str #[#v[46]],.str #[w.toArray]])=H1 at e⊢;w_up;show Θ ?_;lk;show cG ?_;lk;show#[#[b.toArray],rfl,by show b.toArray.size<=_;simp;omega,λc n=>g c (by rw[j];show aiM _ (by simpa using n)),?_];let f:(#[w.toArray]:Str)≠ak (Υ (#[b.toArray]:Str).cps.toList):=λh=>ne (by rw[<-show(#[b.toArray]:Str).cps.toList=b from rfl, <-h])
  generalize ak (Υ (#[b.toArray]:Str).cps.toList)=y at f⊢;lk;show dJ (λ_=>?_) (λh=>absurd (V.str.inj h) f);f_len;show P0 ϋ T.OJ ?_;cbv;show#[by rw[hsz];simp,q H1 e]
theorem afK{c H' f H2:Hp}{e:δ}{o:HO}(s:ζ c H')(g:H' e=none)(i:f=upd H' e o)(j:ζ f H2):ζ c (fQ H2 e):=by
 intro b u r;let a:b≠e:=Ϗ (s _ _ r) g;rw[jn a];show j _ _ ?_;rw[i,ο a];show s _ _ r
inductive Pk (mg:Str->Option ε) (vs:List V) (H:Hp) (Q:VK) (E:XK):Prop
 |mk (A:BA) (B:Bk) (z:Str):vs=[.ref A.b,.str z]->Κ (cB mg) H A B->z.length<=100000->(∀c∈z.cps.toList,c<1114112)->ig z->(∀H',ζ H H'->E (.ref (θ mg "NoMark")) (none,true) H')->Pk mg vs H Q E
theorem Mh(T:Txt K mg):Def P w K mg base true 4 "read_good_mark" ["book","text"] (Pk mg):=by
 show Γ (S:=vH) T.uo (λf p u outer s H vs Q E g h=>?_);intro X _;let#[A,B,z,rfl,e,i,a,j,q]:=h;let v:= @abG P w K mg base T;let nd:=vH.nd;let l:ϙ P w K mg base true 1 (cB mg) "columns" ["self"] (iU mg):=(vY T).meth T.ϛ T.vV;k_go;show dZ (pl:=_) g ϋ ?_;f_are;show#[A.b,cB mg,A.dx,_,true,1,_,iU mg,rfl,e.ins,by rfl,l,by decide,id,A,B,rfl,e,λc H1 m n x=>?_];lk;show#[c,z,rfl,i,a,j,λH' o=>q H' (m.trans o)]
inductive tW (mg:Str->Option ε) (vs:List V) (H:Hp) (Q:VK) (E:XK):Prop
 |mk (A:BA) (B:Bk) (z:Str) (n:V):vs=[.ref A.b,.str z,n]->Κ (cB mg) H A B->z.length<=100000->(∀c∈z.cps.toList,c<1114112)->ig z->(∀H',ζ H H'->E (.ref (θ mg "NoMark")) (none,true) H')->tW mg vs H Q E
theorem Xk(T:Txt K mg)(c:cM K mg base "sorted_by"):Def P w K mg base true 11 "turn_forth" ["book","mark","size"] (tW mg):=by
 show Γ (S:=KY) T.yc (λf j l outer s H vs Q E m h=>?_);intro X _;let#[A,B,z,n,rfl,e,g,a,i,q]:=h;let o:= @Mh P w K mg base T;let p:Def P w K mg base true 10 "leaf_from" ["book","mark","size","onward"] (kJ K mg (.one .all) true):=jR T c (.one .all) true;f_len;show ψ ?_;lk;show#[A,B,z,rfl,e,g,a,i,q]
theorem aft(T:Txt K mg)(c:cM K mg base "sorted_by"):Def P w K mg base true 11 "turn_back" ["book","mark","size"] (tW mg):=by
 show Γ (S:=Wq) T.xN (λf j l outer s H vs Q E m h=>?_);intro X _;let#[A,B,z,n,rfl,e,g,a,i,q]:=h;let o:= @Mh P w K mg base T;let p:Def P w K mg base true 10 "leaf_from" ["book","mark","size","onward"] (kJ K mg (.one .all) false):=jR T c (.one .all) false;f_len;show ψ ?_;lk;show#[A,B,z,rfl,e,g,a,i,q]
inductive Gx (mg:Str->Option ε) (vs:List V) (H:Hp) (Q:VK) (E:XK):Prop
 |mk (A:BA) (B:Bk) (z:Str) (on:Bool):vs=[.ref A.b,.str z,.bl on]->Κ (cB mg) H A B->z.length<=100000->(∀c∈z.cps.toList,c<1114112)->ig z->(∀H',ζ H H'->Q (.bl true) H')->Gx mg vs H Q E
theorem DW(T:Txt K mg)(l:cM K mg base "sorted_by"):Def P w K mg base true 12 "_law_refused" ["_law_book","_law_mark","_law_ways"] (Gx mg):=by
 show Γ (S:=Rj) T.DW (λf G I outer s H vs Q E J h=>?_);intro X _;let#[A,B,z,on,rfl,m,n,a,o,q]:=h;let nd:=Rj.nd;let n1:=T.yq;let L:Def P w K mg base true 11 "turn_forth" ["book","mark","size"] (tW mg):=Xk T l;let M:Def P w K mg base true 11 "turn_back" ["book","mark","size"] (tW mg):=aft T l;let p:Gc mg "NoMark" (.ref (θ mg "NoMark")):=#[_,T.agt,rfl];k_go;w_up;show GD (λσ c d H'=>σ=[some (.ref A.b),some (.str z),some (.bl on),some (.bl false),none]/\c=.ref (θ mg "NoMark")/\ζ H H'/\d.1=none) rfl rfl (λF pn xo po=>?_) (λσ c d H' v=>?_)
 .f_len;show Θ ?_;cases on with
  |true=>
   lk;f_len;show aV ?_;lk;show#[A,B,z,_,rfl,m,n,a,o,λH' g=>#[rfl,rfl,g,rfl]]
  |false=>
   lk;f_len;show aV ?_;lk;show#[A,B,z,_,rfl,m,n,a,o,λH' g=>#[rfl,rfl,g,rfl]]
 .let#[rfl,rfl,g,hd]:=v;show ab2 nd (by rfl) (by rfl) (by rfl) T.Oz.at_ (by decide) (ae6 T.Ac T.Oz) (λe pn x=>?_);rw[hd];let i:(upd H' e (xw e (θ mg "NoMark") none)) e=some (xw e (θ mg "NoMark") none):=υ;generalize y:upd H' e (xw e (θ mg "NoMark") none)=O at i⊢;let C:∀{D:Hp} j,(none:Option δ)=some j->∃fs,D j=some (.xd fs):=λj z=>nomatch z
  f_len;f_tup;lk;show aey T.Ac.attr i C (λu z=>z) (abx T.Ac) ?_;show#[i,?_];f_len;show ψ ?_;lk;show q _ (afK g x y.symm (ζ.refl _))
theorem G3{z:Str}{i:Nat}(hi:i<z.length):∃c,z.cps.toList[i]?=some c/\z.cps.toList=z.cps.toList.take i++c::z.cps.toList.drop (i+1):=by
 let a:i<z.cps.toList.length:=by rw[<-_L.len_list];show hi
 show#[z.cps.toList[i],aah a,?_];rw[<-afE a,amA]
theorem W8{z:Str}{k:Nat}(a:k<=z.length):(Ι z (some (k:Int)) none).cps.toList=z.cps.toList.drop k:=by
 let c:=_L.len_list z;rw[zJ,_H.mX,ajr ()];show List.take (z.length-k) _=_;rw[ahv (by rw[aeB];omega)]
theorem Wt(M:Mk):(bO M).cps.toList=(ϗ M).cps.toList++46::(ak (Υ (ϗ M).cps.toList)).cps.toList/\(bO M).length=(ϗ M).length+5:=by
 let e:(bO M).cps.toList=(ϗ M).cps.toList++46::(ak (Υ (ϗ M).cps.toList)).cps.toList:=by
  unfold bO;rw[aK,aK,show(".":Str).cps.toList=[46]from by fin2,amK];rfl
 show#[e,?_];let h:=congrArg aji e;let h1:=_L.len_list (bO M);let h2:=_L.len_list (ϗ M);let a:=(nU (ϗ M).cps.toList).2;rw[abK,acV,a]at h;omega
theorem Kw{cs:List ξ}(a:ώ cs=true){M:Mk}(h:aZ cs M):∀c∈(ϗ M).cps.toList,c<9973:=by
 let f:∀ps:List Str,(∀p∈ps,plainS p)->∀c∈(aeM "/" ps).cps.toList,c<9973:=by
  intro ps;induction ps with
  |nil=>intro _ c a;have:c∈([]:List Nat):=a;simp at this
  |cons p r i=>
   intro g c hcm;cases r with
   |nil=>have:=g p (by simp) c hcm;omega
   |cons q r=>
    let e:(aeM "/" (p::q::r)).cps.toList=(p++Ϫ "/"++aeM "/" (q::r)).cps.toList:=rfl;rw[e,aK,aK]at hcm;obtain hcm|hcm:=adU.mp hcm
    .obtain hcm|hcm:=adU.mp hcm
     .have :=g p (by simp) c hcm;omega
     .have :∀c∈("/":Str).cps.toList,c<9973:=by fin2
      show this c hcm
    .show i (λx j=>g x (by simp[j])) c hcm
 show f _ (Ef a h)
theorem afl{cs:List ξ}(f:ώ cs=true){M:Mk}(h:aZ cs M):∀c∈(bO M).cps.toList,c<9973:=by
 intro c e;rw[(Wt M).1]at e;obtain q|q:=adU.mp e
 .show Kw f h c q
 .obtain q|q:=ϲ.mp q
  .omega
  .let hb:=fD (ϗ M).cps.toList;let#[m,em]:=acf hb.1;let a:=vP (n:=m) ();unfold qI at a;simp only[aa2,decide_eq_true_eq,acX]at a;rw[em]at q;have:=a.2.1 c q;unfold nZ at this;simp at this;omega
abbrev aW:Str:=Ϫ " !\"#$&'()*+,-./0123456789:;<=>?@AZ[]^_abcdefghijklmnopqrstuvwxyz{|}~"
theorem acd:∀c∈aW.cps.toList,Builtin.Str.occurrences aW #[#v[c]] 0 aW.length 1=[aW.cps.toList.idxOf c]:=by fin2
theorem aeq:∀c∈aW.cps.toList,∃x∈aW.cps.toList,aW.cps.toList[(aW.cps.toList.idxOf c+1) % aW.length]?=some x/\x≠c:=by fin2
theorem N8:∀x∈aW.cps.toList,x<127:=by fin2
theorem abX:0<aW.length/\aW.length<=100:=by fin2
inductive Qz (K:ϩ) (vs:List V) (H:Hp) (Q:VK) (E:XK):Prop
 |mk (a:δ) (ns:List Int) (k:Int) (z:Str) (Bc:List Nat):vs=[.ref a,.int k,.str z]->η K H a (ns.map V.int)->ns.length<=63->0<=k->k<=10000->z.cps.toList=Bc++46::(ak (Υ Bc)).cps.toList->(∀c∈Bc,c<9973)->2<=z.length->z.length<=4000->(∀c∈z.cps.toList,c<9973)->(∀(p:δ)(zs:List Str)(H':Hp),ζ H H'->H' p=some (.lst (zs.map V.str))->(∀y∈zs,ig y/\y.length<=100000/\∀c∈y.cps.toList,c<1114112)->Q (.ref p) H')->Qz K vs H Q E
theorem GC(T:Txt K mg):Def P w K mg base true 2 "_law_bent" ["_law_script","_law_k","_law_mark"] (Qz K):=by
 show Γ (S:=Ux) T.GC (λ_ _ A _ s H vs Q E hr h=>?_);intro X _;let#[a,ns,k,z,Bc,rfl,B,C,hk0,hk1,O,R,hz2,hz,f,q]:=h;let nd:=Ux.nd;let n1:=T.bY;let hsz:=ϱ;let D1:= @lH P w K mg base T;let#[sl0,sl1]:=abX;let hsb:=_L.len_list aW;let ls:∀x:Nat,(#[#v[x]]:Str).length=1:=λ_=>rfl
 let hlz:=_L.len_list z;k_go;k_go;show#[a,ns,700+k,(z.length:Nat),rfl,B,C,by omega+splitNatSub,by omega+splitNatSub,by omega+splitNatSub,?_];let U:=eQ ns (700+k) (m:=(z.length:Nat)) (by omega+splitNatSub);let i1:=fK ns (700+k) (m:=(z.length:Nat)) (by omega+splitNatSub);generalize cA ns (700+k) (z.length:Nat)=ii at U i1⊢;let#[i,rfl]:=acf U;let hi:i<z.length:=by omega+splitNatSub
 let#[c,ec,ez]:=G3 hi;let rest:∀x,x<127->x≠c->Ο X ((aB Fd).drop 4) {nx:=λ_ H'=>Q .non H',rt:=Q} [some (.ref a),some (.int k),some (.str z),some (.str aW),some (.int (i:Nat)),some (.str #[#v[x]]),none,none,none] H:=by
  intro x l D;k_go;show#[a,ns,740+k,(z.length:Nat)-1,rfl,B,C,by omega+splitNatSub,by omega+splitNatSub,by omega+splitNatSub,?_];let j0:=eQ ns (740+k) (m:=(z.length:Nat)-1) (by omega+splitNatSub);let j1:=fK ns (740+k) (m:=(z.length:Nat)-1) (by omega+splitNatSub);generalize cA ns (740+k) ((z.length:Nat)-1)=jj at j0 j1⊢;let#[j,rfl]:=acf j0;let W:j+1<z.length:=by omega+splitNatSub
  k_go;show gZ (by omega+splitNatSub) ?_;let y1:=lQ z none (some (i:Int));let y2:=lQ z (some ((i:Int)+1)) none;lk;show fB (by rw[ls];omega+splitNatSub) ?_;lk;show gZ (by omega+splitNatSub) ?_;show fB (by rw[len_app,ls];omega+splitNatSub) ?_;lk;let e1:(Ι z none (some (i:Int))++#[#v[x]]++ Ι z (some ((i:Int)+1)) none).cps.toList=z.cps.toList.take i++x::z.cps.toList.drop (i+1):=by
   rw[aK,aK,vO,show((i:Int)+1)=((i+1:Nat):Int)from rfl,W8 (show i+1<=z.length from hi),amK];rfl
  let G:ig (Ι z none (some (i:Int))++#[#v[x]]++ Ι z (some ((i:Int)+1)) none)/\(Ι z none (some (i:Int))++#[#v[x]]++ Ι z (some ((i:Int)+1)) none).length<=100000/\∀c∈(Ι z none (some (i:Int))++#[#v[x]]++ Ι z (some ((i:Int)+1)) none).cps.toList,c<1114112:=by
   show#[aaC (O.symm.trans ez) e1 (by omega+splitNatSub) R D,by rw[len_app,len_app,ls];omega+splitNatSub,λd hd=>?_];rw[e1]at hd;obtain hd|hd:=adU.mp hd
   .have :=f d (aeR hd);omega+splitNatSub
   .obtain hd|hd:=ϲ.mp hd
    .omega+splitNatSub
    .have :=f d (ael hd);omega+splitNatSub
  generalize Ι z none (some (i:Int))++#[#v[x]]++ Ι z (some ((i:Int)+1)) none=v at G⊢;show#[by show 1<=ϰ;rw[hsz];decide,λp Y=>?_];let#[I,ep]:=ϒ Y (.lst [.str v]);generalize upd H p (.lst [.str v])=H1 at I ep⊢;let#[c1,J,Z]:=G3 (show j<z.length by omega+splitNatSub);let#[c2,o,ez2]:=G3 W;let e3:z.cps.toList.drop (j+1)=c2::z.cps.toList.drop (j+2):=by
   let h1:j+1<z.cps.toList.length:=by omega+splitNatSub
   rw[afE h1];rw[aah h1]at o;rw[Option.some.inj o]
  rw[e3]at Z;w_up;show Θ ?_;lk;show gY (by omega+splitNatSub) (ϣ J) ?_;lk;show gY (by omega+splitNatSub) (ϣ (j:=j+1) o) ?_;lk;show dJ (λh=>?_) (λ_=>?_)
  .let L:c1≠c2:=λz=>h (by rw[z])
   k_go;show gY (by omega+splitNatSub) (ϣ (j:=j+1) o) ?_;lk;show gY (by omega+splitNatSub) (ϣ J) ?_;show fB (by rw[ls,ls];omega+splitNatSub) ?_;f_len;show aV (dw F.plainAttrs_list F.slot_list_append F.type_list_append (h:=?_));f_are;show#[.inl #[rfl,_,η.of ep],?_];lk;show gZ (by omega+splitNatSub) ?_;let v1:=lQ z none (some (j:Int));let v2:=lQ z (some ((j:Int)+2)) none;lk;show fB (by rw[len_app,ls,ls];omega+splitNatSub) ?_;lk;show gZ (by omega+splitNatSub) ?_;show fB (by rw[len_app,len_app,ls,ls];omega+splitNatSub) ?_;lk;let e4:(Ι z none (some (j:Int))++(#[#v[c2]]++#[#v[c1]])++ Ι z (some ((j:Int)+2)) none).cps.toList=z.cps.toList.take j++c2::c1::z.cps.toList.drop (j+2):=by
    rw[aK,aK,aK,vO,show((j:Int)+2)=((j+2:Nat):Int)from rfl,W8 (show j+2<=z.length from W),amK];rfl
   let w2:ig (Ι z none (some (j:Int))++(#[#v[c2]]++#[#v[c1]])++ Ι z (some ((j:Int)+2)) none)/\(Ι z none (some (j:Int))++(#[#v[c2]]++#[#v[c1]])++ Ι z (some ((j:Int)+2)) none).length<=100000/\∀c∈(Ι z none (some (j:Int))++(#[#v[c2]]++#[#v[c1]])++ Ι z (some ((j:Int)+2)) none).cps.toList,c<1114112:=by
    show#[agp (O.symm.trans Z) e4 R L,by rw[len_app,len_app,len_app,ls,ls];omega+splitNatSub,λd hd=>?_];rw[e4]at hd;let m1:=f c1 (aaM J);let m2:=f c2 (aaM o);obtain hd|hd:=adU.mp hd
    .have :=f d (aeR hd);omega+splitNatSub
    .obtain hd|hd:=ϲ.mp hd
     .omega+splitNatSub
     .obtain hd|hd:=ϲ.mp hd
      .omega+splitNatSub
      .have :=f d (ael hd);omega+splitNatSub
   generalize Ι z none (some (j:Int))++(#[#v[c2]]++#[#v[c1]])++ Ι z (some ((j:Int)+2)) none=zy at w2⊢;show iW zq #[p,_,_,rfl,rfl,ep,by show 1<ϰ;omega+splitNatSub,?_];f_len;show ψ ?_;lk;show q p [v,zy] _ (λb u e=>?_) υ λy hy=>?_
   .rw[ο (λz=>by rw[z,Y]at e;cases e)];show I _ _ e
   .obtain rfl|hy:=ϲ.mp hy
    .show G
    .rw[acN.mp hy];show w2
  .show Ε ?_;f_len;show ψ ?_;lk;show q p [v] H1 I ep λy hy=>by rw[acN.mp hy];show G
 k_go
 try (show Cw (show aW.length<=ϰ by omega+splitNatSub) ?_;lk)
 show#[a,ns,720+k,(aW.length:Nat),rfl,B,C,by omega+splitNatSub,by omega+splitNatSub,by omega+splitNatSub,?_];let g0:=eQ ns (720+k) (m:=(aW.length:Nat)) (by omega+splitNatSub);let g1:=fK ns (720+k) (m:=(aW.length:Nat)) (by omega+splitNatSub);generalize cA ns (720+k) (aW.length:Nat)=gg at g0 g1⊢;let#[g,rfl]:=acf g0;let hg:g<aW.cps.toList.length:=by omega+splitNatSub
 show gY (show aW.length<=ϰ by omega+splitNatSub) (ϣ (aah hg)) ?_;let l:=agJ hg;generalize aW.cps.toList[g]=x at l⊢;w_up;show Θ ?_;lk;show gY (by omega+splitNatSub) (ϣ ec) ?_;lk;show Η (λh=>?_) (λh=>?_)
 .let M:x=c:=by
   let e:=V.str.inj h;let e2:(#[#v[x]]:Str).cps.toList=(#[#v[c]]:Str).cps.toList:=by rw[e]
   show(List.cons.inj e2).1
  let#[y,hy,ey,D]:=aeq x l;f_len;f_tup;lk;show acB (acd x l) ?_;lk
  try (show Cw (show aW.length<=ϰ by omega+splitNatSub) ?_;lk)
  show gY (show aW.length<=ϰ by omega+splitNatSub) (n:=y) (ϣ ey) ?_;show rest y (N8 y hy) (by rw[<-M];show D)
 .show Ε (rest x (N8 x l) λe=>h (by rw[e]))
def gA(on:Bool)(n m i:Nat):Nat×Nat:=if on=true then(i,min (i+n) m)else(i-n,i)
theorem uO(on:Bool)(os:List Ord)(ls:List Row)(c:Ct)(n:Nat):dm on ι os ls c n=bx ι os ls c (gA on n ls.length (aA ι os c ls)).1 (gA on n ls.length (aA ι os c ls)).2:=by
 cases on<;>rfl
theorem Wv{on:Bool}{n m i:Nat}(h:i<=m):(gA on n m i).1<=(gA on n m i).2/\(gA on n m i).2<=m:=by
 cases on
 .show#[by show i-n<=i;omega,h]
 .show#[by show i<=min (i+n) m;omega,amZ ..]
abbrev bM(kS:Nat):Str:=sT ι (ϝ kS)
structure aR(K:ϩ)(mg:Str->Option ε)(H:Hp)(A:BA)(B:Bk)(sc ln b:δ)(ns:List Int)(os:List Ord)(kS:Nat)(ls:List Row)(lw:List V)(mo:Nat):Prop where
 scL:η K H sc (ns.map V.int)
 nl:ns.length<=63
 rA:H ln=some (.lst lw)
 rw_:ς (fV H) lw (ls.map λr=>(r.1,r.2,aX B mo r.1))
 ord:aH H b os
 li:Line ι os ls
 pm:ls.Perm (B.rows.filter λr=>Ϝ r.2 (ϝ kS))
 ins:∀n,1<=n->n<=100->jw K mg H A B os (ϝ kS) mo n
 hh:B.heads=ι
 k4:kS<4
section
variable{H H':Hp}{A:BA}{B:Bk}{sc ln b:δ}{ns:List Int}{os:List Ord}{kS:Nat}{ls:List Row}{lw:List V}{mo:Nat}
theorem aR.same(c:aR K mg H A B sc ln b ns os kS ls lw mo)(s:ζ H H'):aR K mg H' A B sc ln b ns os kS ls lw mo:=#[s.seq c.scL,c.nl,s _ _ c.rA,c.rw_.imp λu r z=>fV.same z s,c.ord.same s,c.li,c.pm,λn n1 n2=>(c.ins n n1 n2).same s,c.hh,c.k4]
theorem aR.one(c:aR K mg H A B sc ln b ns os kS ls lw mo):jw K mg H A B os (ϝ kS) mo 1:=c.ins 1 (by decide) (by decide)
theorem aR.mem(c:aR K mg H A B sc ln b ns os kS ls lw mo):∀r∈ls,r∈B.rows:=λr a=>(ahZ.mp (c.pm.mem_iff.mp a)).1
theorem aR.fit(c:aR K mg H A B sc ln b ns os kS ls lw mo):∀r∈ls,ύ ι r:=λr a=>by
 have:=(c.one.bk.fit r (c.mem r a)).1;rw[c.hh]at this;show this
theorem aR.inc(c:aR K mg H A B sc ln b ns os kS ls lw mo):bw ι os:=by
 have:=c.one.li.inc;rw[c.hh]at this;show this
theorem aR.len(c:aR K mg H A B sc ln b ns os kS ls lw mo):ls.length<64:=afZ (aeO (al5 c.pm.length_eq) (ahW ..)) c.one.bk.r64
theorem aR.lok(c:aR K mg H A B sc ln b ns os kS ls lw mo):mQ ι os ls:=#[by decide,c.one.li.o4,c.inc,c.fit,c.li,by have:=c.len;omega]
theorem aR.num(c:aR K mg H A B sc ln b ns os kS ls lw mo):∀r∈ls,0<=r.1/\r.1<=1000000000:=λr a=>(c.one.bk.fit r (c.mem r a)).2
theorem aR.rx(c:aR K mg H A B sc ln b ns os kS ls lw mo):ς (iw H) lw ls:=by
 let h:=c.rw_;show pX (by have:=h.len;rw[aav]at this;show this.symm) λj r a=>?_
 let#[v,f,t,l,e,g,m]:=h.get' (i:=j) (b:=(r.1,r.2,aX B mo r.1)) (by rw[abD,a];rfl);show#[v,f,t,l,_,e,g,m]
theorem Ud{c:Ct}{on:Bool}{n:Nat}(f:mQ ι os ls)(g:∀r∈ls,0<=r.1/\r.1<=1000000000)(n1:1<=n)(l:pF ι os on c)(z:Str):uf (cN true mo os z (dm on ι os ls c n).back) ((gA on n ls.length (aA ι os c ls)).1=0)/\uf (cN true mo os z (dm on ι os ls c n).bL) ((gA on n ls.length (aA ι os c ls)).2=ls.length):=by
 let ok:=TX f g n1 l;let#[_,m]:=Wv (on:=on) (n:=n) (oZ (cs:=ι) (os:=os) (c:=c) (rs:=ls));rw[uO]at ok⊢;generalize(gA on n ls.length (aA ι os c ls)).1=i at ok⊢;generalize(gA on n ls.length (aA ι os c ls)).2=j at ok m⊢;constructor
 .by_cases h:0<i
  .let e:(bx ι os ls c i j).back=some (iV ι os true ((Τ ls i j).take 1) c):=if_pos h;let#[sd,xs,k,a,_]:=ok _ (.inl e);rw[e,a];show .inr #[_,rfl,()]
  .let e:(bx ι os ls c i j).back=none:=if_neg h;rw[e];show .inl #[rfl,()]
 .by_cases h:j<ls.length
  .let e:(bx ι os ls c i j).bL=some (iV ι os false ((Τ ls i j).drop ((Τ ls i j).length-1)) c):=if_pos h;let#[sd,xs,k,a,_]:=ok _ (.inr e);rw[e,a];show .inr #[_,rfl,()]
  .let e:(bx ι os ls c i j).bL=none:=if_neg h;rw[e];show .inl #[rfl,()]
theorem aR.told(c:aR K mg H A B sc ln b ns os kS ls lw mo){on:Bool}{ct:Ct}{n:Nat}{H1 H2:Hp}{i:δ}{f:List Row}(j:Line B.heads os f)(p:f.Perm (B.rows.filter λr=>Ϝ r.2 (ϝ kS)))(a:mO H1 H2 i (yp B mo os (sT B.heads (ϝ kS)) f.length (dm on B.heads os f ct n))):∃m us,H2 i=some (.tup [.ref m,cN true mo os (bM kS) (dm on ι os ls ct n).back,cN true mo os (bM kS) (dm on ι os ls ct n).bL,.int (ls.length:Nat),.int ((gA on n ls.length (aA ι os ct ls)).1:Nat),.int B.now])/\H2 m=some (.lst us)/\ς (fV H2) us ((Τ ls (gA on n ls.length (aA ι os ct ls)).1 (gA on n ls.length (aA ι os ct ls)).2).map λr=>(r.1,r.2,aX B mo r.1)):=by
 rw[c.hh]at j a;let g:=Wl c.inc c.fit (c.pm.trans p.symm) c.li j;subst g;let#[q,us,h1,h2,s,o]:=a;rw[uO]at h1 o;show#[q,us,by rw[uO];show h1,s,o.imp λv r z=>?_];let#[t,l,e,u,y,x]:=z;show#[t,l,e,u,x]
end
inductive yG (K:ϩ) (mg:Str->Option ε) (vs:List V) (H:Hp) (Q:VK) (E:XK):Prop
 |mk (A:BA) (B:Bk) (sc ln b:δ) (ns:List Int) (os:List Ord) (kS:Nat) (ls:List Row) (lw:List V) (mo k:Nat) (bh:Bool) (r:Row) (u:V):vs=[.ref sc,.int (k:Nat),.ref A.b,cN true mo os (bM kS) (some (.at_ (!bh) (Ξ ι os r.2) r.1)),u,.bl bh,.ref b,.ref ln]->aR K mg H A B sc ln b ns os kS ls lw mo->k<=100->iw H u r->ύ ι r->0<=r.1->r.1<=1000000000->(∀H',ζ H H'->Q (.bl true) H')->yG K mg vs H Q E
theorem Aw(T:Txt K mg)(W:cM K mg base "sorted_by"):Def P w K mg base true 56 "_law_kept" ["_law_script","_law_k","_law_book","_law_mark","_law_one","_law_behind","_law_order_here","_law_line_here"] (yG K mg):=by
 show Γ (S:=T5) T.Aw (λf Ϻ A' outer s H vs Q E hr h=>?_);intro X _;let#[A,B,sc,ln,b,ns,os,kS,ls,lw,mo,k,j,r,u,rfl,a,hk,hu,z,Y,M,q]:=h;let nd:=T5.nd;let n1:=T.bY;let n2:=T.Nz;let n3:=T.TJ;let hsz:=ϱ;let#[hdp,_]:=Vy a.k4;let ϻ:=a.inc;let hL:=a.lok;let C:=a.len;let v:=a.num;let g:=bN z ϻ;let mU:=a.rw_.len;rw[aav]at mU;let D0:= @lH P w K mg base T;let D1:= @Bv P w K mg base T;let D2:Def P w K mg base true 54 "turn_forth" ["book","mark","size"] (qu K mg (ϝ kS) true):=yc T W (ϝ kS) ();let D3:Def P w K mg base true 54 "turn_back" ["book","mark","size"] (qu K mg (ϝ kS) false):=xN T W (ϝ kS) ();let D4:= @Fe P w K mg base T;let D5:= @GC P w K mg base T;let D6:Def P w K mg base true 12 "_law_refused" ["_law_book","_law_mark","_law_ways"] (Gx mg):=DW T W;let M2:ϙ P w K mg base true 1 (cB mg) "moment" ["self"] (dj mg Bk.now):=(oR T).meth T.ϛ T.pW;let D:∀{H'},ζ H H'->Κ (cB mg) H' A B:=λs=>(a.same s).one.bk.bk
 let F:=a.one.li;rw[a.hh]at F;let Z:=F.good (lv:=true) (sd:= !j) g M;let G:cN true mo os (bM kS) (some (.at_ (!j) (Ξ ι os r.2) r.1))=.str (bO #[true,mo,os,bM kS,#[!j,r.1.toNat,Ξ ι os r.2]]):=rfl;let#[f1,f2]:=Wt #[true,mo,os,bM kS,#[!j,r.1.toNat,Ξ ι os r.2]];let f3:=Kw lG Z;let f4:=afl lG Z;let#[_,f5]:=vz lG Z;generalize bO #[true,mo,os,bM kS,#[!j,r.1.toNat,Ξ ι os r.2]]=zm at G f1 f2 f4;generalize ϗ #[true,mo,os,bM kS,#[!j,r.1.toNat,Ξ ι os r.2]]=zb at f1 f2 f3 f5;let nj:∀on,pF ι os on (.at_ (!j) (Ξ ι os r.2) r.1):=λon=>.inr (.inr #[_,_,_,rfl,g,Y,M])
 rw[G];k_go;show#[sc,ns,760+(k:Nat),6,rfl,a.scL,a.nl,(),(),by decide,?_];lk;let e0:=eQ ns (760+(k:Nat)) (m:=6) (by decide);let e1:=fK ns (760+(k:Nat)) (m:=6) (by decide);generalize cA ns (760+(k:Nat)) 6=kn at e0 e1⊢;let#[e,rfl]:=acf e0;rw[show(1:Int)+(e:Nat)=((e+1:Nat):Int)by omega];k_go;show#[b,ln,u,j,os,r,ls,lw,rfl,a.ord,ϻ,hu,z,a.rA,a.rx,a.fit,C,λH1 s1=>?_];let jk:=oZ (cs:=ι) (os:=os) (c:=.at_ (!j) (Ξ ι os r.2) r.1) (rs:=ls);generalize l:Ct.at_ (!j) (Ξ ι os r.2) r.1=ct at nj jk G;generalize hp:aA ι os ct ls=p at jk;let bF:=Ud (mo:=mo) hL v (n:=e+1) () (nj true) (bM kS);let bB:=Ud (mo:=mo) hL v (n:=e+1) () (nj false) (bM kS);let tF:= @aR.told K mg H A B sc ln b ns os kS ls lw mo a true ct (e+1);let tB:= @aR.told K mg H A B sc ln b ns os kS ls lw mo a false ct (e+1);rw[hp]at bF bB tF tB;k_go;let i1:=(a.same s1).ins (e+1) () ();show#[A,B,os,mo,e+1, !j,Ξ ι os r.2,r.1,by rw[a.hh,l,G],i1,by rw[a.hh];show g,Y,M,λpf lV H2 s2 jG bJ I=>?_];rw[l]at I;let#[q0,us,g1,g2,g3]:=tF jG bJ I;let O:=s1.trans s2;let c2:=a.same O;let sq2:η K H2 ln lw:=η.of c2.rA;w_up;show Θ ?_;lk;show Ni (by rfl) ?_;rw[show(if(p:Int)+((e+1:Nat):Int)<(lw.length:Nat)then(p:Int)+((e+1:Nat):Int)else(lw.length:Nat))=((min (p+(e+1)) ls.length:Nat):Int)by split <;>omega];lk;show dZ (pl:=_) hr ϋ ?_;f_are;show#[A.b,cB mg,A.dx,_,true,1,_,dj mg Bk.now,rfl,(D O).ins,by rfl,M2,by decide,id,A,B,rfl,D O,?_];lk;show#[pf,ln,q0,B,mo,ls,lw,us,p,min (p+(e+1)) ls.length,B.now,_,_,rfl,g1,g2,g3,c2.rA,c2.rw_,a.fit,(),(),amZ ..,bF.1,bF.2,λH3 s3=>?_];lk;let cD:=O.trans s3;show Ε ?_;k_go;let i3:=(a.same cD).ins (e+1) () ();show#[A,B,os,mo,e+1, !j,Ξ ι os r.2,r.1,by rw[a.hh,l,G],i3,by rw[a.hh];show g,Y,M,λQK K7 H4 s4 Y4 ab Iw=>?_];rw[l]at Iw;let#[q2,ac,g4,g5,g6]:=tB Y4 ab Iw;let R:=cD.trans s4;let c4:=a.same R;w_up;show Θ ?_;lk;show Q4 (by rfl) ?_;rw[show(if(p:Int)-((e+1:Nat):Int)>0 then(p:Int)-((e+1:Nat):Int)else 0)=((p-(e+1):Nat):Int)by split <;>omega];lk;show dZ (pl:=_) hr ϋ ?_;f_are;show#[A.b,cB mg,A.dx,_,true,1,_,dj mg Bk.now,rfl,(D R).ins,by rfl,M2,by decide,id,A,B,rfl,D R,?_];lk;show#[QK,ln,q2,B,mo,ls,lw,ac,p-(e+1),p,B.now,_,_,rfl,g4,g5,g6,c4.rA,c4.rw_,a.fit,(),(),jk,bB.1,bB.2,λH5 s5=>?_];lk;let fJ:=R.trans s5;show Ε ?_;w_up;show uv (by walk_at"po") (by rfl) (by intro _;rfl) ?_;lk;show#[sc,ns,(k:Nat),zm,zb.cps.toList,rfl,(a.same fJ).scL,a.nl,(),(),f1,f3,(),(),f4,λpb zs H6 s6 J ae=>?_];let eU:=fJ.trans s6;show#[pb,_,rfl,η.of J,λi σ H'=>(∃o,σ=[some (.ref sc),some (.int (k:Nat)),some (.ref A.b),some (.str zm),some u,some (.bl j),some (.ref b),some (.ref ln),some (.int ((e+1:Nat):Int)),some (.int (p:Nat)),some (.ref QK),o])/\ζ H6 H',#[#[none,rfl],ζ.refl _],λi σ' H' _ L=>η.of (L.2 _ _ J),λi x σ' H' hx L=>?_,λσ' H' L=>?_]
 .let#[#[o,rfl],U]:=L;rw[abD]at hx;let#[y,hy,rfl]:=aiq.mp hx;let#[y1,y2,y3]:=ae y (aaM hy);let qX:=eU.trans U;show Α nd (by rfl) (.inl rfl) (.inl rfl) ?_;f_len;show Θ ?_;lk;show#[sc,ns,780+(k:Nat),2,rfl,(a.same qX).scL,a.nl,(),(),by decide,?_];lk;show#[A,B,y,_,rfl,D qX,y2,y3,y1,λH8 s8=>?_];lk;show Ε #[#[_,rfl],U.trans s8]
 .let#[#[o,rfl],U]:=L;f_len;show ψ ?_;lk;show q H' (eU.trans U)
end
end _K
namespace _K
open PySem _L PyProof.Rows _M _V _W
section
variable{P:Ϯ}{w:Ϭ}{K:ϩ}{mg:Str->Option ε}{base:ϫ}
structure fU(mg:Str->Option ε)(A:BA)(d:δ)(H:Hp)(B:Bk)(i:Nat):Prop where
 tb:fH mg (d::A.fp) A d H B
 ap:d∉A.six
 dk:iJ B i
 nw:GF B i
section
variable{A:BA}{d:δ}{H H':Hp}{B:Bk}{i:Nat}
theorem fU.same(h:fU mg A d H B i)(s:ζ H H'):fU mg A d H' B i:=#[h.tb.same s,h.ap,h.dk,h.nw]
theorem fU.nt(h:fU mg A d H B i):NT H (d::A.fp):=λx hx ys e=>by
 obtain rfl|hx:=ϲ.mp hx
 .let#[Ϸ,z,_]:=h.tb.ro;rw[e]at z;cases z
 .obtain⟨fs,z⟩|⟨Ϸ,z⟩|⟨xs,z⟩:=h.tb.bk.xT hx<;>rw[e]at z<;>cases z
theorem fU.live(h:fU mg A d H B i):∀x∈d::A.fp,H x≠none:=λx hx e=>by
 obtain rfl|hx:=ϲ.mp hx
 .let#[Ϸ,z,_]:=h.tb.ro;rw[e]at z;cases z
 .obtain⟨fs,z⟩|⟨Ϸ,z⟩|⟨xs,z⟩:=h.tb.bk.xT hx<;>rw[e]at z<;>cases z
theorem fU.deed(h:fU mg A d H B i){row:Int}{o:Option (List V)}(a:0<=row)(c:row<90)(hok:∀xs,o=some xs->ύ ι (row,xs))(e:fH mg (d::A.fp) A d H' (dF B row o)):fU mg A d H' (dF B row o) (i+1):=by
 let n1:=h.nw.now;let n2:=h.nw.dl;show#[e,h.ap,h.dk.deed a c hok,#[by show B.now+1=_;omega,h.nw.kn,by show(B.done++[_]).length=_;rw[abK,afe];omega]]
end
def lM(F:List δ)(H:Hp)(mo:Nat)(os:List Ord)(kS:Nat)(sd:Bool)(us:List V)(v:V):Prop:=v=.non\/∃r t l ys,(if sd=true then us[0]? else us[us.length-1]?)=some (.ref t)/\H t=some (.tup (.int r.1:: .ref l::ys))/\H l=some (.lst r.2)/\l∉F/\ύ ι r/\0<=r.1/\r.1<=1000000000/\v=cN true mo os (bM kS) (some (.at_ sd (Ξ ι os r.2) r.1))
def gC(F:List δ)(H:Hp)(mo:Nat)(os:List Ord)(kS:Nat)(p:δ):=∃q us bk a x y z,H p=some (.tup [.ref q,bk,a,x,y,z])/\H q=some (.lst us)/\q∉F/\us.length<=1000/\lM F H mo os kS true us bk/\lM F H mo os kS false us a
theorem lM.out{F:List δ}{H H':Hp}{mo:Nat}{os:List Ord}{kS:Nat}{sd:Bool}{us:List V}{v:V}(h:lM F H mo os kS sd us v)(nt:NT H F)(o:Out F H H'):lM F H' mo os kS sd us v:=by
 obtain h|⟨r,t,l,ys,e1,c,e,a,f⟩:=h
 .show .inl h
 .show .inr #[r,t,l,ys,e1,nt.tup o _ _ c,o _ _ a e,a,f]
theorem gC.out{F:List δ}{H H':Hp}{mo:Nat}{os:List Ord}{kS:Nat}{p:δ}(h:gC F H mo os kS p)(nt:NT H F)(o:Out F H H'):gC F H' mo os kS p:=by
 let#[q,us,bk,c,x,y,z,e1,e,a,f,g,i]:=h;show#[q,us,bk,c,x,y,z,nt.tup o _ _ e1,o _ _ a e,a,f,g.out nt o,i.out nt o]
theorem ahI{F:List δ}{H H':Hp}{B:Bk}{mo:Nat}{os:List Ord}{kS m:Nat}{ls:List Row}{p:δ}{c:Ct}{i j:Nat}(s:∀x∈F,H x≠none)(y:∀r∈ls,ύ ι r/\0<=r.1/\r.1<=1000000000)(C:j<=ls.length)(R:ls.length<=1000)(u:0<i\/j<ls.length->i<j)(h:mO H H' p (yp B mo os (bM kS) m (bx ι os ls c i j))):gC F H' mo os kS p:=by
 let#[q,us,h1,h2,D,E]:=h;let f:ς (λv(r:eZ)=>∃t l,v=V.ref t/\H' t=some (.tup [.int r.1,.ref l,.bl r.2.2])/\H l=none/\H' l=some (.lst r.2.1)) us ((Τ ls i j).map λr=>(r.1,r.2,aX B mo r.1)):=E;let sl:=Ij ls (i:=i) C;let G:=f.len;rw[aav,sl]at G;let row:∀n,i+n<j->∃r t l ys,ls[i+n]?=some r/\us[n]?=some (.ref t)/\H' t=some (.tup (.int r.1:: .ref l::ys))/\H' l=some (.lst r.2)/\l∉F/\ύ ι r/\0<=r.1/\r.1<=1000000000:=λn S=>by
  let hi:i+n<ls.length:=()
  let e:(Τ ls i j)[n]?=some ls[i+n]:=by
   unfold Τ;rw[anL (),anF,aah hi]
  let#[v,I,t,l,e1,J,L,M]:=f.get' (i:=n) (b:=(ls[i+n].1,ls[i+n].2,aX B mo ls[i+n].1)) (by rw[abD,e];rfl);let#[O,P,Q]:=y ls[i+n] (agJ hi);show#[ls[i+n],t,l,_,aah hi,by rw[I,e1],J,M,λz=>s l z L,O,P,Q]
 show#[q,us,_,_,_,_,_,h1,D,λz=>s q z h2,(),?_,?_]
 .show lM F H' mo os kS true us (cN true mo os (bM kS) (bx ι os ls c i j).back);by_cases h:0<i
  .let hij:=u (.inl h);let#[r,t,l,ys,g,e1,a]:=row 0 ();let o:(bx ι os ls c i j).back=some (.at_ true (Ξ ι os r.2) r.1):=by
    let e:(bx ι os ls c i j).back=some (iV ι os true ((Τ ls i j).take 1) c):=if_pos h;rw[e];unfold Τ;rw[List.take_take,ajr (),afE ()];rw[apu,aah ()]at g;rw[<-Option.some.inj g];rfl
   rw[o];show .inr #[r,t,l,ys,e1,a.1,a.2.1,a.2.2.1,a.2.2.2.1,a.2.2.2.2.1,a.2.2.2.2.2,rfl]
  .let e:(bx ι os ls c i j).back=none:=if_neg h;rw[e];show .inl rfl
 .show lM F H' mo os kS false us (cN true mo os (bM kS) (bx ι os ls c i j).bL);by_cases h:j<ls.length
  .let hij:=u (.inr h);let#[r,t,l,ys,g,e1,a]:=row (j-i-1) ();let o:(bx ι os ls c i j).bL=some (.at_ false (Ξ ι os r.2) r.1):=by
    let e:(bx ι os ls c i j).bL=some (iV ι os false ((Τ ls i j).drop ((Τ ls i j).length-1)) c):=if_pos h;rw[e,sl];unfold Τ;rw[List.drop_take,aov,show j-i-(j-i-1)=1 by omega,afE ()];rw[aah ()]at g;rw[<-Option.some.inj g];rfl
   rw[o];show .inr #[r,t,l,ys,?_,a.1,a.2.1,a.2.2.1,a.2.2.2.1,a.2.2.2.2.1,a.2.2.2.2.2,rfl];show us[us.length-1]?=some (.ref t);rw[show us.length-1=j-i-1 by omega];show e1
  .let e:(bx ι os ls c i j).bL=none:=if_neg h;rw[e];show .inl rfl
theorem ai9{us:List V}{x:V}(h:us[us.length-1]?=some x):Ω us (-1)=some x:=by
 let a:=(aai.mp h).1;unfold Ω j5;rw[if_neg (by decide),if_pos ()];show us[_]?=_;rw[show((-1:Int)+(us.length:Nat)).toNat=us.length-1 by omega];show h
end
end _K
namespace _K
open PySem _L PyProof.Rows _M _V _W
section
variable{P:Ϯ}{w:Ϭ}{K:ϩ}{mg:Str->Option ε}{base:ϫ}
theorem Yz{cs:List ξ}(f:ώ cs=true){os:List Ord}(g:bw cs os)(l:os.length<=4):(bz os).length<=100:=by
 let h1:=mD (os.map Ϙ) 9 λp i=>by
  let#[o,j,rfl]:=adw.mp i;let#[c,a,e]:=g o j;have:=rN (mC f (z:=o.1) (adw.mpr #[c,a,e]));let m:("+":Str).length=1:=by fin2
  let n:("-":Str).length=1:=by fin2
  unfold Ϙ;rw[len_app];split <;>omega
 let h2:=jX (os.map Ϙ);rw[aav]at h1 h2;unfold bz;omega
theorem aak{cs:List ξ}(i:ώ cs=true){os:List Ord}(g:bw cs os)(j:os.length<=4)(a:(os.map Prod.fst).Nodup):iC cs (bz os)=some os:=M9 j a g λo l m=>by
 let#[c,f,e]:=g o l;let a:=mC i (z:=o.1) (adw.mpr #[c,f,e]);unfold isName d7 at a;rw[aa2,acX]at a;show absurd (of_decide_eq_true (a.2 32 m)) (by fin2)
theorem aid(T:Txt K mg)(hN:cM K mg base "sorted_by"){f:δ}{fd:ah2}(F:cH K "law" "law" jc f fd):cT P w K mg base (b7 P w) true 60 f fd ["_law_script"] (Dy K "sorted_by" ju):=by
 show Fz F JX (λvs H Q E h=>by let#[a,ns,rfl,_]:=h;rfl) (λϺ A' outer s0 H vs Q E O h=>?_);let#[a,ns,rfl,G,I,BX,q]:=h;let nd:=JX.nd;let n1:=T.afQ;let hsz:=ϱ;let D0:= @lH P w K mg base T;let D1:= @Gz P w K mg base T;let D2:= @DG P w K mg base T;let D3:= @zK P w K mg base T;let D4:= @Dd P w K mg base T;let D5:= @Bm P w K mg base T;let D8:Def P w K mg base true 56 "_law_kept" ["_law_script","_law_k","_law_book","_law_mark","_law_one","_law_behind","_law_order_here","_law_line_here"] (yG K mg):=Aw T hN;let M2:ϙ P w K mg base true 1 (cB mg) "moment" ["self"] (dj mg Bk.now):=(oR T).meth T.ϛ T.pW;let M3:ϙ P w K mg base true 4 (cB mg) "let_go" ["self","moment"] (u9 mg):=(aiG T).meth T.ϛ T.Zw;let MB:=(Yy (P:=P) (w:=w) (base:=base) T).make T.agK T.YS;let hsl:=acM G;w_up;f_tup;show kh MB O (by decide) (λ_=>rfl) ϋ ?_;lk;show#[Ζ,λZ ab=>?_];lk;show#[Ζ,λt2 bu=>?_];lk;show#[Ζ,λlc Lr=>?_];let sa:=ζ.upd (o:=.tup [.str ("size":Str),.str ("number":Str)]) ab;let sb:=ζ.upd (o:=.tup [.str ("word":Str),.str ("text":Str)]) bu;let sc:=ζ.upd (o:=.lst [.ref Z,.ref t2]) Lr;let bc:=(sa.trans sb).trans sc;let Vn:ϟ (upd (upd (upd H Z (.tup [.str ("size":Str),.str ("number":Str)])) t2 (.tup [.str ("word":Str),.str ("text":Str)])) lc (.lst [.ref Z,.ref t2])) lc ι:=#[_,υ,.cons #[Z,rfl,(sb.trans sc) _ _ υ] (.cons #[t2,rfl,sc _ _ υ] .nil)];change EA _ _ _ (upd (upd (upd H Z (.tup [.str ("size":Str),.str ("number":Str)])) t2 (.tup [.str ("word":Str),.str ("text":Str)])) lc (.lst [.ref Z,.ref t2])) _;generalize upd (upd (upd H Z (.tup [.str ("size":Str),.str ("number":Str)])) t2 (.tup [.str ("word":Str),.str ("text":Str)])) lc (.lst [.ref Z,.ref t2])=H2 at bc Vn⊢;clear sa sb sc ab bu Lr;lk;intro y dx hy ac Ϲ;let Yk:ζ H2 (upd (upd H2 dx (.own y)) y (.ins (cB mg) dx [])):=λb u e=>by
  rw[ο (λz=>by rw[z,hy]at e;cases e),ο (λz=>by rw[z,ac]at e;cases e)];show e
 show#[y,dx,lc,ι,rfl,υ,by rw[ο Ϲ,υ],Vn.same Yk,lG,λH3 A eb Fi f1 f2 f3 f4 o3 k3=>?_];let#[s3,ag]:=made hy ac eb Fi f1 f2 f3 f4 o3;subst eb;show#[rfl,?_];let cD:=bc.trans s3;w_up;f_tup;show Eh λd hd=>?_
 let#[s4,ed]:=ϒ hd (.dK []);generalize upd H3 d (.dK [])=H4 at s4 ed⊢;let d9:=cD.trans s4;let k4:=k3.same s4;let ah:d∉A.six:=λz=>k3.KD d z hd
 let yd:∀x∈d::A.fp,H x=none:=λx hx=>by
  obtain rfl|hx:=ϲ.mp hx
  .show cD.free hd
  .show bc.free (ag x (De x hx))
 let yX:∀{H'},Out (d::A.fp) H4 H'->ζ H H':=λo b u e=>o _ _ (λz=>by rw[yd b z]at e;cases e) (d9 _ _ e)
 let S4:fU mg A d H4 #[ι,[],[],[],0,0] 0:=#[#[k4,[],ed,.nil],ah,#[rfl,.nil,λi=>#[λ_=>rfl,λ_=>rfl],(λp hp=>by cases hp),(λp hp=>by cases hp),ϭ _,ϭ _,ϭ _],#[rfl,rfl,rfl]];w_up;show zA (by walk_at"po") (by rfl) (by rfl) n1 (by rfl) ?_;lk;show#[a,ns,0,9,rfl,d9.seq G,I,by decide,by decide,by decide,?_];lk;let c0:=eQ ns 0 (m:=9) (by decide);let c1:=fK ns 0 (m:=9) (by decide);generalize cA ns 0 9=cc at c0 c1⊢;let#[m0,rfl]:=acf c0;rw[show(1:Int)+(m0:Nat)=((m0+1:Nat):Int)by omega];show#[(),(),λi σ H'=>∃o4,σ=[some (.ref a),some (.ref A.b),some (.ref d),o4,none,none,none,none,none,none,none,none,none]/\Out (d::A.fp) H4 H'/\∃B,fU mg A d H' B i,#[none,rfl,Out.refl _ _,_,S4],λi σ' H' hi C=>?_,λσ' H' C=>?_]
 .let#[o4,rfl,o5,B,s]:=C;show Α nd (by rfl) (.inl rfl) (.inl rfl) ?_;f_len;show aV ?_;lk;show#[d::A.fp,A,B,i,a,d,ns,(i:Nat),0,rfl,(yX o5).seq G,I,(),(),s.tb,#[s.ap,λx hx=>hx],s.live,s.dk,(),λrow o H6 r0 r1 hok ho L ai=>?_];show#[_,rfl,o5.trans L,_,s.deed r0 r1 hok ai]
 let#[o4,rfl,o5,B0,s]:=C;rw[show((m0+1:Nat):Int).toNat=m0+1 from anj _]at s;generalize al:m0+1=mo at s;let al0:mo<=9:=()
 clear al;let fJ:=yX o5;k_go;show#[a,ns,1,5,rfl,fJ.seq G,I,by decide,by decide,by decide,?_];generalize cA ns 1 5=ko;lk;show#[ko,rfl,λb H6 s6 am Dm=>?_];let ϻ:=afS ko;let lA:=ajS ko;let rD:=X5 ko;let ae:=ahp ko;generalize fY ko=os at Dm ϻ lA rD ae;k_go;show#[b,os,rfl,Dm,(),ae,λH7 s7=>?_];let Ng:=s6.trans s7;k_go;show#[a,ns,2,4,rfl,(fJ.trans Ng).seq G,I,by decide,by decide,by decide,?_];let g0:=eQ ns 2 (m:=4) (by decide);let R:=fK ns 2 (m:=4) (by decide);generalize cA ns 2 4=kv at g0 R⊢;let#[kS,rfl]:=acf g0;let lO:kS<4:=()
 k_go;show#[kS,rfl,lO,λM S=>?_];let yQ:=Ng.trans S;let Gw:=fJ.trans yQ;let h8:=s.same yQ;let ar:aH M b os:=Dm.same (s7.trans S);let#[CV,VL]:=Vy lO;let ins:∀{H':Hp}{U:BA}{B:Bk}{i:Nat},Κ (cB mg) H' U B->iJ B i->(mo:Int)<=B.now->i<64->H' (cJ K "sorted_by")=some (.tbl ju)->∀n,1<=n->n<=100->jw K mg H' U B os (ϝ kS) mo n:=λkb dk le hi tb n n1 n2=>by
  let hh:=dk.heads;let rl:=dk.rl;show#[#[kb,le,dk.wf,(),dk.nd,λr O=>by have:=dk.keys r O;rw[hh];show#[dk.ok r O,(),()]],#[by rw[hh];show lG,lA,by rw[hh];show ϻ,rD,by rw[hh];show acF lO,(),by rw[hh];show VL,()],n1,n2,tb]
 let Hd:=s.nw.now;let hh:=s.dk.heads;let rl:=s.dk.rl;w_up;f_tup;show dZ (pl:=_) O ϋ ?_;f_are;show#[A.b,cB mg,A.dx,_,true,1,_,dj mg Bk.now,rfl,h8.tb.bk.ins,by rfl,M2,by decide,id,A,B0,rfl,h8.tb.bk,?_];rw[Hd];let D6:Def P w K mg base true (11+2*(ϝ kS).dep) "first_leaf" ["book","make","order","sieve","size"] (um K mg (ϝ kS) true):=Bu T hN (ϝ kS);let D7:Def P w K mg base true (11+2*(ϝ kS).dep) "last_leaf" ["book","make","order","sieve","size"] (um K mg (ϝ kS) false):=BW T hN (ϝ kS);let Wa:(bz os).length<=4000:=by have:=Yz lG ϻ lA;omega
 let f9:=aak lG ϻ lA rD;let told:∀(on:Bool)(n:Nat)(pf:δ)(ls:List Row)(H1 H2:Hp),1<=n->(∀x∈d::A.fp,H1 x≠none)->ls.Perm (B0.rows.filter λr=>Ϝ r.2 (ϝ kS))->mO H1 H2 pf (yp B0 mo os (sT B0.heads (ϝ kS)) ls.length (dm on B0.heads os ls (GQ on) n))->gC (d::A.fp) H2 mo os kS pf:=λon n pf ls H1 H2 hn gB C W=>by
  rw[hh,uO]at W;let au:ls.length<=1000:=aeO (al5 C.length_eq) (aeO (ahW ..) ());let#[_,jl]:=Wv (on:=on) (n:=n) (oZ (cs:=ι) (os:=os) (c:=GQ on) (rs:=ls));show ahI gB (λr O=>?_) jl au ?_ W
  .let hm:=(ahZ.mp (C.mem_iff.mp O)).1;have:=s.dk.keys r hm;show#[s.dk.ok r hm,(),()]
  .cases on
   .show 0<ls.length-n\/ls.length<ls.length->ls.length-n<ls.length;omega
   .show 0<0\/min (0+n) ls.length<ls.length->0<min (0+n) ls.length;omega
 k_go;show#[a,ns,3,4,rfl,Gw.seq G,I,by decide,by decide,by decide,?_];lk;let e0:=eQ ns 3 (m:=4) (by decide);let e1:=fK ns 3 (m:=4) (by decide);generalize cA ns 3 4=kn at e0 e1⊢;let#[na,rfl]:=acf e0;rw[show(1:Int)+(na:Nat)=((na+1:Nat):Int)by omega];lk;show#[A,B0,os,bz os,mo,na+1,by rw[hh],ins h8.tb.bk s.dk () () (Gw _ _ BX) _ () (),Hd,Wa,by rw[hh];show f9,λpf lV H9 s9 hL2 av W=>?_];let aw:=told true (na+1) pf lV M H9 () h8.live av W;let h9:=h8.same s9;let Ry:=Gw.trans s9;k_go;show#[a,ns,4,4,rfl,Ry.seq G,I,by decide,by decide,by decide,?_];lk;let J:=eQ ns 4 (m:=4) (by decide);let e3:=fK ns 4 (m:=4) (by decide);generalize cA ns 4 4=kn at J e3⊢;let#[nb,rfl]:=acf J;rw[show(1:Int)+(nb:Nat)=((nb+1:Nat):Int)by omega];lk;show#[A,B0,os,bz os,mo,nb+1,by rw[hh],ins h9.tb.bk s.dk () () (Ry _ _ BX) _ () (),Hd,Wa,by rw[hh];show f9,λpg K7 iY D Wu ax ay=>?_];let aC:=told false (nb+1) pg K7 H9 iY () h9.live ax ay;let Yn:=aw.out h9.nt (Out.of D);let af:=h9.same D;let Zi:=(yQ.trans s9).trans D;let aD:=ar.same (s9.trans D);let sZ:∀{H'},Out (d::A.fp) iY H'->ζ H H':=λo=>yX ((o5.trans (Out.of Zi)).trans o)
 let bF:b∉d::A.fp:=λz=>s.live b z am
 w_up;show zA (by walk_at"po") (by rfl) (by rfl) n1 (by rfl) ?_;lk;show#[a,ns,5,31,rfl,(sZ (Out.refl _ _)).seq G,I,by decide,by decide,by decide,?_];let d0:=eQ ns 5 (m:=31) (by decide);let d1:=fK ns 5 (m:=31) (by decide);generalize cA ns 5 31=cc at d0 d1⊢;let#[m1,rfl]:=acf d0;show#[(m1:Nat),rfl,(),(),λi σ H'=>∃o4,σ=[some (.ref a),some (.ref A.b),some (.ref d),o4,some (.ref b),some (.str (bz os)),some (.int (kS:Nat)),some (.str (bM kS)),some (.int (mo:Nat)),some (.ref pf),some (.ref pg),none,none]/\Out (d::A.fp) iY H'/\∃B,fU mg A d H' B (mo+i)/\gC (d::A.fp) H' mo os kS pf/\gC (d::A.fp) H' mo os kS pg,#[_,rfl,Out.refl _ _,_,af,Yn,aC],λi σ' H' hi C=>?_,λσ' H' C=>?_]
 .let#[o4,rfl,L,B,g,y1,y2]:=C;show Α nd (by rfl) (.inl rfl) (.inl rfl) ?_;f_len;show aV ?_;lk;show#[a,ns,40+(i:Nat),4,rfl,(sZ L).seq G,I,(),(),by decide,?_];lk;show#[d::A.fp,A,B,mo+i,a,d,ns,12+(i:Nat),_,rfl,(sZ L).seq G,I,(),(),g.tb,#[g.ap,λx hx=>hx],g.live,g.dk,(),λrow o H7 r0 r1 hok ho o7 Zq=>?_];show#[_,rfl,L.trans o7,_,g.deed r0 r1 hok Zq,y1.out g.nt o7,y2.out g.nt o7]
 let#[o4,rfl,L,B,g,y1,y2]:=C;rw[show((m1:Nat):Int).toNat=m1 from anj m1]at g;let eU:=sZ L;let QR:aH H' b os:=by
  let#[ws,e,hw]:=aD;show#[ws,L _ _ bF e,hw.imp λu o z=>by
   let#[t,e1,J]:=z;show#[t,e1,af.nt.tup L _ _ J]]
 let rest:∀(U:BA)(X:Bk)(H7:Hp),U.b=A.b->ζ H H7->Κ (cB mg) H7 U X->iJ X (mo+m1)->(mo:Int)<=X.now->DictAt (TR (d::A.fp) H7) H7 d (bf X)->aH H7 b os->gC (d::A.fp) H7 mo os kS pf->gC (d::A.fp) H7 mo os kS pg->NT H7 (d::A.fp)->Ο (iM true P w K mg base xX "law" (ω jc) f Ϻ A' outer s0 H E) ((aB jc).drop 12) {nx:=λ_ H'=>Q .non H',rt:=Q} [some (.ref a),some (.ref A.b),some (.ref d),o4,some (.ref b),some (.str (bz os)),some (.int (kS:Nat)),some (.str (bM kS)),some (.int (mo:Nat)),some (.ref pf),some (.ref pg),none,none] H7:=by
  intro U X H7 eA qX kb dk aE aI vN y1 y2 wW;let rl2:=dk.rl;let aS:=dk.heads;k_go;show#[d::A.fp,d,b,kS,mo,os,X,rfl,aI,vN,ϻ,lO,dk.nd,(),dk.ok,λln lw ls M S amc gF aT jG bJ=>?_];let cx:aR K mg M U X a ln b ns os kS ls lw mo:=#[(qX.trans S).seq G,I,gF,Ge _ (aT.imp λu r z=>by
   let#[t,l,e,_,_,_,_,Y,g6]:=z;show#[t,l,e,Y,g6]),vN.same S,jG,bJ,ins (kb.same S) dk aE () ((qX.trans S) _ _ BX),aS,lO]
  let z1:=y1.out wW (Out.of S);let z2:=y2.out wW (Out.of S);let Wg:NT M []:=λx hx=>by cases hx
  let tn:∀{p},gC (d::A.fp) M mo os kS p->gC [] M mo os kS p:=λz=>by
   let#[q,us,bk,fo,x,y,z,e1,J,e3,e4,e5,e6]:=z;show#[q,us,bk,fo,x,y,z,e1,J,(λh=>by cases h),e4,?_,?_]
   .obtain h|⟨r,t,l,ys,R,g2,g3,_,Y⟩:=e5
    .show .inl h
    .show .inr #[r,t,l,ys,R,g2,g3,(λh=>by cases h),Y]
   .obtain h|⟨r,t,l,ys,R,g2,g3,_,Y⟩:=e6
    .show .inl h
    .show .inr #[r,t,l,ys,R,g2,g3,(λh=>by cases h),Y]
  let Qk:=tn z1;let TQ:=tn z2;w_up;show zA (by walk_at"po") (by rfl) (by rfl) n1 (by rfl) ?_;lk;show#[by decide,by decide,λk σ H'=>∃o4 lJ,σ=[some (.ref a),some (.ref A.b),some (.ref d),o4,some (.ref b),some (.str (bz os)),some (.int (kS:Nat)),some (.str (bM kS)),some (.int (mo:Nat)),some (.ref pf),some (.ref pg),some (.ref ln),lJ]/\ζ M H',#[_,_,rfl,ζ.refl _],λk σ' H' hk C=>?_,λσ' H' C=>?_]
  .let#[o4,lJ,rfl,sm]:=C;show Α nd (by rfl) (.inl rfl) (.inl rfl) ?_;k_go;show#[Ζ,λlp a0=>?_];let s9:ζ H' (upd H' lp (.lst [.ref pf,.ref pg])):=ζ.upd a0;let e9:(upd H' lp (.lst [.ref pf,.ref pg])) lp=some (.lst [.ref pf,.ref pg]):=υ;change EV _ _ _ (upd H' lp (.lst [.ref pf,.ref pg])) _;generalize upd H' lp (.lst [.ref pf,.ref pg])=H9 at s9 e9⊢;let my:=sm.trans s9;lk;show#[a,ns,6,2,rfl,(cx.same my).scL,I,by decide,by decide,by decide,?_];lk;let j0:=eQ ns 6 (m:=2) (by decide);generalize cA ns 6 2=jj at j0⊢;let a1:∃p,Ω [V.ref pf,V.ref pg] (((k:Nat)+jj) % 2)=some (.ref p)/\gC [] H9 mo os kS p:=by
    rcases(show((k:Nat)+jj) % 2=0\/((k:Nat)+jj) % 2=1 by omega)with e|e
    .rw[e];show#[pf,rfl,Qk.out Wg (Out.of my)]
    .rw[e];show#[pg,rfl,TQ.out Wg (Out.of my)]
   let#[p,hp,a2]:=a1;show Ϡ (η.of e9) hp ?_;let#[q,us,bk,fo,x,y,z,e1,J,_,e4,e5,e6]:=a2;let two:∀iY,ζ H9 iY->Ο (iM true P w K mg base xX "law" (ω jc) f Ϻ A' outer s0 H E) ((Jc ((aB jc).drop 13)).drop 2) {nx:=λσ H'=>∃o4 lJ,σ=[some (.ref a),some (.ref A.b),some (.ref d),o4,some (.ref b),some (.str (bz os)),some (.int (kS:Nat)),some (.str (bM kS)),some (.int (mo:Nat)),some (.ref pf),some (.ref pg),some (.ref ln),lJ]/\ζ M H',rt:=Q,ct:=λσ H'=>∃o4 lJ,σ=[some (.ref a),some (.ref A.b),some (.ref d),o4,some (.ref b),some (.str (bz os)),some (.int (kS:Nat)),some (.str (bM kS)),some (.int (mo:Nat)),some (.ref pf),some (.ref pg),some (.ref ln),lJ]/\ζ M H',bk:=λσ' H'=>Ο (iM true P w K mg base xX "law" (ω jc) f Ϻ A' outer s0 H E) ((aB jc).drop 14) {nx:=λ_ H'=>Q .non H',rt:=Q} σ' H'} [some (.ref a),some (.ref A.b),some (.ref d),some (.int (k:Nat)),some (.ref b),some (.str (bz os)),some (.int (kS:Nat)),some (.str (bM kS)),some (.int (mo:Nat)),some (.ref pf),some (.ref pg),some (.ref ln),some (.ref p)] iY:=by
    intro iY D;f_len;show Θ ?_;lk;show ϑ (ρ.of (D _ _ e1)) (i:=1) rfl ?_;obtain rfl|⟨r,t,l,ys,R,g2,g3,_,Y,g6,g7,g8⟩:=e5
    .lk;show Ε #[_,_,rfl,my.trans D]
    .let hz:∃zm,bk=.str zm:=#[_,g8];let#[zm,gK]:=hz;rw[gK]at e1 g8;rw[gK];lk;f_len;show Θ ?_;lk;show ϑ (ρ.of (D _ _ e1)) (i:=1) rfl ?_;lk;show ϑ (ρ.of (D _ _ e1)) (i:=0) rfl ?_;lk;show Ϡ (η.of (D _ _ J)) (show Ω us 0=some (.ref t)from ϣ (j:=0) R) ?_;lk;show#[U,X,a,ln,b,ns,os,kS,ls,lw,mo,5+k,false,r,.ref t,?_,cx.same (my.trans D),(),#[t,l,ys,rfl,D _ _ g2,D _ _ g3],Y,g6,g7,λqZ uQ=>?_]
     .rw[eA,g8];rfl
     .lk;show Ε #[_,_,rfl,(my.trans D).trans uQ]
   w_up;show Θ ?_;lk;show ϑ (ρ.of e1) (i:=2) rfl ?_;obtain rfl|⟨r,t,l,ys,R,g2,g3,_,Y,g6,g7,g8⟩:=e6
   .lk;show Ε (two H9 (ζ.refl _))
   .let hz:∃zm,fo=.str zm:=#[_,g8];let#[zm,gK]:=hz;rw[gK]at e1 g8;rw[gK];lk;f_len;show Θ ?_;lk;show ϑ (ρ.of e1) (i:=2) rfl ?_;lk;show ϑ (ρ.of e1) (i:=0) rfl ?_;lk;show Ϡ (η.of J) (ai9 R) ?_;lk;show#[U,X,a,ln,b,ns,os,kS,ls,lw,mo,k,true,r,.ref t,?_,cx.same my,(),#[t,l,ys,rfl,g2,g3],Y,g6,g7,λqZ uQ=>?_]
    .rw[eA,g8];rfl
    .lk;show Ε (two qZ uQ)
  .let#[o4,lJ,rfl,sm]:=C;f_len;show ψ ?_;lk;show q _
 let a3:=g.nw.now;w_up;show Θ ?_;lk;show#[a,ns,7,2,rfl,eU.seq G,I,by decide,by decide,by decide,?_];lk;show Η (λ_=>?_) (λ_=>?_)
 .f_len;show aV ?_;show cz (pl:=_) O ϋ (h:=?_);f_are;show#[A.b,cB mg,A.dx,_,true,4,_,u9 mg,rfl,g.tb.bk.ins,by rfl,M3,by decide,id,?_];lk;show dZ (pl:=_) O ϋ ?_;f_are;show#[A.b,cB mg,A.dx,_,true,1,_,dj mg Bk.now,rfl,g.tb.bk.ins,by rfl,M2,by decide,id,A,B,rfl,g.tb.bk,?_];rw[a3];lk;show#[A,B,mo+m1,rfl,g.tb.bk,g.nw,λd' ds kn H7 hd' a4 o7 WQ=>?_];let oF:Out (d::A.fp) H' H7:=o7.mono λx hx=>by rw[acN.mp hx];simp[BA.fp]
  let a5:d∉[A.b]:=λz=>g.ap (by rw[acN.mp z];simp[BA.six])
  let QX:DictAt (TR (d::A.fp) H7) H7 d (bf B):=by
   let#[Ϸ,e,hR]:=g.tb.ro;show#[Ϸ,o7 _ _ a5 e,il hR λv x z=>z.out oF λy hy=>hy]
  let wW:NT H7 (d::A.fp):=λx hx ys e=>by
   obtain rfl|hx:=ϲ.mp hx
   .let#[Ϸ,z,_]:=QX;rw[e]at z;cases z
   .by_cases hb:x=A.b
    .rw[hb,WQ.ins]at e;cases e
    .obtain⟨fs,z⟩|⟨Ϸ,z⟩|⟨xs,z⟩:=g.tb.bk.xT hx<;>(rw[o7 _ _ (λy=>hb (acN.mp y)) z]at e;cases e)
  let vN:aH H7 b os:=by
   let#[ws,e,hw]:=QR;show#[ws,oF _ _ bF e,hw.imp λu o z=>by
    let#[t,e1,J]:=z;show#[t,e1,g.nt.tup oF _ _ J]]
  let a6:iJ {B with done:=ds,known:=kn} (mo+m1):=#[g.dk.heads,g.dk.nd,g.dk.wf,g.dk.ok,g.dk.keys,g.dk.rl,g.dk.tl,aeO a4 g.dk.dl];show rest {A with d:=d'} {B with done:=ds,known:=kn} H7 rfl (sZ (L.trans oF)) WQ a6 (by show(mo:Int)<=B.now;omega) QX vN (y1.out g.nt oF) (y2.out g.nt oF) wW
 .show Ε (rest A B H' rfl eU g.tb.bk g.dk () g.tb.ro QR y1 y2 g.nt)
end
end _K
theorem PySem.Challenge.cw_turnleaf_k95_whole_marks_kept_holds : PySem.Challenge.rw_turnleaf_k95_whole_marks_kept.Holds := by
 show PySem.Challenge.t0 (by intro P w K mg base;show _K.aid)
#print axioms PySem.Challenge.cw_turnleaf_k95_whole_marks_kept_holds
