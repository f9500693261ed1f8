import PyProof.Rows.All
import Wide.All
import KE.KDictOf
import KE.KFromBytes
import KE.KIntText
import KE.KNestM
import Wide.FinOn
import Lean
import PyProof.EqAt
import PyProof.EqKinds
import PyProof.TupleCall
import PyProof.NeData
import PyProof.ZipIter
import PyProof.WalksEnum
import PyProof.Rows.SetFrom
import PyProof.StrLawsTight
import PyProof.StrLawsChain
import PyProof.StrCalls2
import PyProof.ListStr
import PyProof.Rows.StrOrd
import KE.KRevIter
import PyProof.ExcInit
import PyProof.InstStoreFacts
import PyProof.ExcArgs
import PyProof.ExcAttrAll.ValueError
import PyProof.NsDelKeeps
import PyProof.RulesAs
import OpenK.KCls
import PyProof.Rows.TupAssign
import PyProof.StrLawsIn
import KE.KDictSum
import PyProof.DictWalks
import PyProof.Rows.CountFlat
import KE.KTryMore
import KE.KxWritten
import KE.KStrOpen
import KE.KSortTup
import KE.KNest
import PyProof.FString5
import KE.KDictList
import PySem.Challenge.RW_turnleaf_k63_a_living_list_turned
open PySem renaming Addr->δ,Value->ε,Shared->μ,wpAny->ν,Stmt->π,wpAny_bind->Ϧ,Expr->ϧ,model->ϩ,Heap->ϫ,World->ϭ,Program->Ϯ,sizeLine->ϯ,sizeLine_eq->ϰ,wpAny_pure->ϱ,Around->ϲ,starEach->abP,compareOp->ada,wpAny_mono->adt,wpAny_truthy_bool->aft,wpAny_field->afv,Scope->agV,wpAny_holding->ag9,FuncData->ahh,wpAny_newObj_type->aiN,wpAny_Call_Name_kw->ajv,PassesOwn->ajU,wpAny_passesOwn->ajV,codeAny_mono->aks,wpAny_pyIter_list->akz,SetTable->akV,tupleKind_room_in1->aln,wpAny_setField_rec->alB,ExceptHandler->amh,call_meets->ana,wpAny_seqItems->anb,codeAny_builtin->aon,swapsWith->aoD,wpAny_callSpecial?_slot->aoI,NameKind->aoU,PyData->aoW,wpAny_nextOf_list_item->ao1
open PySem.W renaming Frag->Ϩ,findIn->aey,specialIn->ahm,mg_of->ajh,emptyDict->ak4,hasDictIn->amU,kia_one->anW,keepIn->aok,instObj->apC,plainGet->aqt,mroIn->aqv,readsIn->aqJ,findCls->aqK,methodObj->aqO,plainOver->aqP,codeIn->aqQ,takerIn->aqZ,takesIn->aq1,callWith_K->aq3,methodCall_KW->aq4,typeIn->ard,plainGet_of->arp,isFn->arq,kitOne->ars,fnOf->art,cellsFrom_some->arJ,makesIn->arW,lookIn->asa,nsIn->asq
open PySem.Str renaming ofString->Ϫ,join->adT,length->aqH,empty->aq0
open Nat renaming le_refl->Ϭ,lt_of_lt_of_le->acn,ne_of_lt->acE,lt_of_le_of_lt->ad1,zero_le->ad5,le_trans->ad8,add_le_add_left->aeA,lt_irrefl->ahK,min_eq_left->aiz,le_add_right->ajF,zero_add->akh,ne_of_gt->amA,le_of_eq->am2,min_le_right->aom,le_succ->apb,lt_succ_of_lt->ape,le_of_ble_eq_true->apB,le_of_lt->apD,toDigits_ne_nil->aqz,sub_zero->aqF,mod_lt->aqN,min_eq_right->aqU,sub_self->aq9,mul_le_mul_right->ari,add_zero->arG,lt_succ_self->arI,min_le_left->arX,succ_mul->asi,mul_comm->asj,toDigits->asl
open List renaming mem_cons->ϳ,getElem?_eq_getElem->aaj,getElem?_eq_some_iff->aat,length_map->aaA,mem_of_getElem?->aaD,size_toArray->aaR,mem_map->aa6,length_append->abo,mem_singleton->abv,getElem?_map->abI,getD_eq_getElem?_getD->abJ,length_cons->acj,all_eq_true->ack,mem_cons_of_mem->acr,range->acR,map_cons->ac2,mem_cons_self->ac3,mem_append_right->ac6,mem_append->adb,length_take->adg,length_drop->adh,find?_cons->adk,mem_of_mem_drop->adG,mem_of_mem_take->adM,length_singleton->aeg,toArray->aek,map_map->aep,getElem_mem->aeq,not_mem_nil->aew,lookup_cons->aeO,drop_eq_getElem_cons->aeQ,take_of_length_le->ae2,replicate->afw,length_range->afO,mem_append_left->ags,lookup->ahi,nodup_cons->aid,length_filter_le->aiu,foldl_cons->aiw,mem_range->aiT,mem_filter->ai5,take_length->ajR,mem_filterMap->ake,getElem?_append_left->akG,ne_nil_of_length_eq_add_one->akH,any_cons->alc,filter_cons->al3,drop_zero->amf,dropLast_concat_getLast->amo,pairwise_cons->amt,forIn_cons->am3,getElem?_concat_length->am7,getElem?_eq_none->am9,take_add_one->anf,sum_cons->ang,pairwise_map->anA,getElem?_append_right->anI,pairwise_iff_getElem->aoe,getElem_inj->aoj,length->aoo,replicate_succ->aot,mem_map_of_mem->aov,append_nil->aoJ,length_eq_zero_iff->aoQ,map_append->aoR,drop_eq_nil_of_le->ao7,nodup_append->apj,forIn_nil->apv,length_replicate->apL,countP_le_length->ap0,drop_length->aqb,any_eq_true->aqk,nodup_range->aqr,filterMap_cons->aqu,length_nil->aqw,getElem_of_mem->aqx,map_congr_left->aqA,length_pos_iff->aqB,exists_cons_of_ne_nil->aqC,filter_append->aqG,eq_of_mem_replicate->aqL,mapM_toArray->aqM,all_cons->aqR,map_id->aqT,getElem?_set_self->aqV,drop_of_length_le->aqX,range_succ_eq_map->aqY,of_mem_zip->aq2,nil_append->aq7,range_succ->aq8,pairwise_reverse->ara,getElem?_reverse->arb,take_append_drop->arc,getElem?_set_ne->arf,forall_mem_cons->arh,pairwise_append->arj,length_reverse->ark,filter_sublist->arl,getElem?_range->aro,getElem?_drop->arv,zip_cons_cons->arx,countP_append->arz,reverse_cons->arA,foldl_append->arB,reverse_perm->arC,append_assoc->arE,map_nil->arF,all_map->arH,mem_reverse->arM,zipIdx_cons->arO,cons_append->arQ,ext_getElem->arR,map_reverse->arS,all_toArray->arU,countP_cons->arV,zipIdx_nil->arY,not_lt->ar0,filter_nil->ar3,countP_nil->ar4,drop_drop->ar5,lt_irrefl->ar6,take_zero->ar8,map->asb,lt_trans->asd,countP->aso,Nodup->asr
open PySem.Heap renaming get?_push_of_some->ϴ,get?_push_size->aaT,lt_size->abQ,get?_update_other->acB,get?_update_self->aeD,size_push->aiX,SameBut->aj8,get?_none_of_le->anP,size_after_update->aqW,get?_update_ne->arn,get?_push_ne->arD,size_update->arT,IsList->arZ
open Bool renaming false_ne_true->aaF,and_eq_true->aaO,eq_iff_iff->aex,eq_false_iff->akJ,true_and->alm,false_and->anQ,false_eq_true->aoL,or_eq_true->aoM,or_false->aqs,false_or->aqS,not_eq_true->arN,decide_or->ar7,and_true->ase,true_or->ash
open Int renaming eq_ofNat_of_zero_le->aa7,emod_lt_of_pos->afs,emod_nonneg->ahb,emod_eq_of_lt->anG,toNat_of_nonneg->aow,toNat_natCast->apa,zero_add->aqE,add_emod->aq5,mul_emod->aq6,emod_emod->aru,mul_zero->asm,add_zero->asn,one_mul->asp
open Array renaming getElem?_setIfInBounds_ne->ahx,length_toList->ajb,getElem?_eq_none->ajD,getElem?_eq_some_iff->ajE,getElem?_toList->apW,toList_append->aqy,perm_iff_toList_perm->aqD,forIn_toList->arw,toList_inj->arP,getD->ar9,toList->asf
open Option renaming map_eq_some_iff->amj,isSome_iff_exists->aox,isSome_map->aqI,getD_none->arK,getD_some->arL
set_option maxHeartbeats 4000000
set_option Elab.async false
set_option linter.all false
set_option compiler.extract_closed false
set_option autoImplicit true
set_option maxRecDepth 100000
local macro_rules | `(tactic| walk_at "sc") => `(tactic| exact ⟨rfl, rfl, rfl, by decide +kernel, rfl, by decide +kernel, by decide +kernel⟩)
local macro_rules | `(tactic| omega) => `(tactic| lia)
open Lean in
set_option hygiene false in
local macro_rules(kind:=Lean.Parser.Command.declaration)|s=>do
 let d:=s[1]
 let k:=d[0]
 unless k.isAtom&&k.getPos?.isSome&&s[0][1].getArgs.isEmpty&&s[0][3].getArgs.isEmpty do Macro.throwUnsupported
 let a:=k.getAtomVal
 let z:=d.setArg 0 (mkAtom a)
 let t:=d[2][1]
 if a=="theorem" then return s.setArg 1 z
 if a=="def"&&d[3][1].isOfKind ``Parser.Term.byTactic then return s.setArg 1 (mkNode ``Parser.Command.theorem #[mkAtom "theorem",d[1],mkNode ``Parser.Command.declSig #[d[2][0],t[0]],d[3]])
 if a=="def"||a=="abbrev" then return(s.setArg 1 z).setArg 0 (s[0].setArg 4 (mkNullNode #[mkNode ``Parser.Command.noncomputable #[mkAtom "noncomputable"]]))
 Macro.throwUnsupported
open Lean Parser.Tactic in
local macro_rules(kind:=Lean.Parser.Tactic.tacticLet__)|s=>do
 let rec g:Nat->Term->MacroM (TSyntax `rcasesPat)
  |0,_=>Macro.throwUnsupported
  |n+1,s=>do match s with
   |`(#[$x,*])=>let y<-x.getElems.mapM λz=>do let z<-g n z;`(rcasesPatLo|$z:rcasesPat)
                `(rcasesPat|⟨$y,*⟩)
   |`(_)=>`(rcasesPat|_)
   |`($i:ident)=>`(rcasesPat|$i:ident)
   |_=>Macro.throwUnsupported
 match s with
 |`(tactic|let $p:term:=$e)=>do
  let q<-g 9 p
  `(tactic|obtain $q:rcasesPat:=$e)
 |_=>return(s.setKind ``tacticHave__).setArg 0 (mkAtom "have")
local macro_rules|`(#[$x,*])=>`(⟨$x,*⟩)
local macro_rules|`(#v[$x,*])=>`(List.toArray [$x,*])
local macro_rules|`(tactic|show $e)=>`(tactic|refine $e)
local macro_rules|`(tactic|lk)=>`(tactic|walk_at "ex")
local macro_rules|`(tactic|cbv)=>`(tactic|walk_at "go")
local macro_rules|`(tactic|f_are)=>`(tactic|walk_at "e")
local macro_rules|`(tactic|f_tup)=>`(tactic|walk_at "s")
local macro_rules|`(tactic|k_go)=>`(tactic|walk_at "A")
local macro_rules|`(tactic|room)=>`(tactic|walk_at "sc")
local macro_rules|`(tactic|w_up)=>`(tactic|walk_at "c")
local macro_rules|`(tactic|f_len)=>`(tactic|walk_at "n")
local macro_rules|`(())=>`(by omega)
local macro_rules|`(tactic|fin2)=>`(tactic|decide+kernel)
namespace _L
open PySem PySem.Spec PyProof.Rows
abbrev Key:=Sum Int Str
def qM:Key->ε->Bool
 |.inl k,v=>Value.isInt k v
 |.inr x,v=>Value.isStrOf x v
def abF(w:ϭ):Key->Int
 |.inl k=>hashInt k
 |.inr x=>hashStr w x
theorem iQ:∀{k:Key}{v:ε},qM k v=true->(∃i t,k=Sum.inl i/\v=Value.int i t)\/(∃x t,k=Sum.inr x/\v=Value.str x t)
 |.inl i,v,h=>by
   let#[t,e]:=Value.isInt_shape (k:=i) (v:=v) h;show .inl #[i,t,rfl,e]
 |.inr x,v,h=>by
   let#[t,e]:=Value.isStrOf_shape (x:=x) (v:=v) h;show .inr #[x,t,rfl,e]
def ale(i:Int)(t:Tok):qM (.inl i) (.int i t)=true:=by simp[qM,Value.isInt]
def afT(x:Str)(t:Tok):qM (.inr x) (.str x t)=true:=by simp[qM,Value.isStrOf]
def aea(a b:Int):decide ((Sum.inl a:Key)=Sum.inl b)=(a==b):=by
 by_cases e:a=b
 .subst e;simp
 .let h:¬(Sum.inl a:Key)=Sum.inl b:=λq=>e (Sum.inl.inj q)
  rw[decide_eq_false h];show(beq_eq_false_iff_ne.mpr e).symm
def af8(a b:Str):decide ((Sum.inr a:Key)=Sum.inr b)=decide (a=b):=by
 by_cases e:a=b
 .subst e;simp
 .let h:¬(Sum.inr a:Key)=Sum.inr b:=λq=>e (Sum.inr.inj q)
  rw[decide_eq_false h,decide_eq_false e]
theorem ajc(a:Int)(b:Str):decide ((Sum.inl a:Key)=Sum.inr b)=false:=decide_eq_false (λq=>nomatch q)
theorem afa(a:Str)(b:Int):decide ((Sum.inr a:Key)=Sum.inl b)=false:=decide_eq_false (λq=>nomatch q)
def cH(prog:Ϯ)(w:ϭ):PySem.KeyKind prog w Key where
 is:=qM
 hash:=abF w
 inj:=λv a b g f=>by
  obtain⟨i,t,rfl,rfl⟩|⟨x,t,rfl,rfl⟩:=iQ g
  .obtain⟨j,u,rfl,e⟩|⟨y,u,rfl,e⟩:=iQ f
   .injection e with e1 _;rw[e1]
   .show nomatch e
  .obtain⟨j,u,rfl,e⟩|⟨y,u,rfl,e⟩:=iQ f
   .show nomatch e
   .injection e with e1 _;rw[e1]
 byValue:=λk v h=>by
  obtain⟨i,t,rfl,rfl⟩|⟨x,t,rfl,rfl⟩:=iQ h<;>rfl
 pyHash:=λc h=>by
  obtain⟨i,t,rfl,rfl⟩|⟨x,t,rfl,rfl⟩:=iQ c
  .show wpAny_pyHash_int h
  .show wpAny_pyHash_str h
 eqBool:=λl c h=>by
  obtain⟨i,t,rfl,rfl⟩|⟨x,t,rfl,rfl⟩:=iQ l
  .obtain⟨j,u,rfl,rfl⟩|⟨y,u,rfl,rfl⟩:=iQ c
   .rw[aea]at h;show wpAny_eqBool_int h
   .rw[ajc]at h;show SeqAt.EqAt.int_str i t y u _ _ _ _ h
  .obtain⟨j,u,rfl,rfl⟩|⟨y,u,rfl,rfl⟩:=iQ c
   .rw[afa]at h;show SeqAt.EqAt.str_int x t j u _ _ _ _ h
   .rw[af8]at h;show wpAny_eqBool_str h
 «strs» :=λk x t v h=>by
  obtain⟨i,u,rfl,e⟩|⟨y,u,rfl,e⟩:=iQ h
  .show nomatch e
  .injection e with e1 _
   subst e1;cases v<;>rfl
theorem alx(prog:Ϯ)(w:ϭ)(i:Int)(t:Tok):(cH prog w).is (.inl i) (.int i t)=true:=ale i t
theorem aik(prog:Ϯ)(w:ϭ)(x:Str)(t:Tok):(cH prog w).is (.inr x) (.str x t)=true:=afT x t
inductive V where
 |non|bl (b:Bool)|int (i:Int)|str (x:Str)|byt (b:Array UInt8)|flt (b:UInt64)|ref (a:δ)|ty (n:String)
 deriving DecidableEq
def RelV:V->ε->Prop
 |.non,u=>u=Value.none
 |.bl b,u=>u=Value.bool b
 |.int i,u=>∃t,u=Value.int i t
 |.str x,u=>∃t,u=Value.str x t
 |.byt b,u=>∃t,u=Value.bytes b t
 |.flt b,u=>∃t,u=Value.float b t
 |.ref a,u=>u=Value.ref a
 |.ty n,u=>u=Value.type n
abbrev Vals:List V->List ε->Prop:=Paired RelV
theorem Vals.length(r:Vals xs us):xs.length=us.length:=Paired.length r
theorem Vals.get:∀{xs:List V}{us:List ε}{i:Nat}{x:V},Vals xs us->xs[i]?=some x->∃u,us[i]?=some u/\RelV x u
 |_,_,_,_,.nil,e=>by simp at e
 |_,_,0,_,.cons r _,e=>by simp at e;subst e;show#[_,rfl,r]
 |_,_,i+1,x,.cons _ t,e=>by
  let#[u,h1,h2]:=Vals.get (i:=i) (x:=x) t (by simpa using e);show#[u,by simpa using h1,h2]
theorem Vals.append:∀{xs ys:List V}{us ws:List ε},Vals xs us->Vals ys ws->Vals (xs++ys) (us++ws)
 |_,_,_,_,.nil,s=>s
 |_,_,_,_,.cons r t,s=>.cons r (Vals.append t s)
theorem Vals.take:∀{xs:List V}{us:List ε}(n:Nat),Vals xs us->Vals (xs.take n) (us.take n)
 |_,_,0,_=>.nil
 |_,_,_+1,.nil=>.nil
 |_,_,n+1,.cons r t=>.cons r (Vals.take n t)
theorem Vals.drop:∀{xs:List V}{us:List ε}(n:Nat),Vals xs us->Vals (xs.drop n) (us.drop n)
 |_,_,0,r=>r
 |_,_,_+1,.nil=>.nil
 |_,_,n+1,.cons _ t=>Vals.drop n t
def cT:Option V->Option ε->Prop
 |some v,some u=>RelV v u
 |none,none=>True
 |_,_=>False
def KV{κ:Type}:List (κ×V)->List (κ×ε)->Prop:=Paired λ(p:κ×V)(q:κ×ε)=>p.1=q.1/\RelV p.2 q.2
def kV:Key->V
 |.inl i=>.int i
 |.inr x=>.str x
inductive HO where
 |lst (xs:List V)
 |tup (xs:List V)
 |dK (Ϸ:List (Key×V))|dT (Ϸ:List (List Key×V))
 |set (S:Int->Bool) (n:Nat)
 |ins (C dx:δ) (fs:List (Str×V))
 |own (x:δ)
 |xd (fs:List (Str×V))
 |met (f x:δ)
 |rng (lo hi:Int)
 |frz (o:Obj) (u:HO)
 |tbl (ps:Array ε)
 |ext (φ:ϫ->Prop)
theorem Β(h:n.ble 1000=true:=by rfl):n<=ϯ:=ad8 (apB h) (by rw[ϰ];decide)
abbrev Hp:=δ->Option HO
def upd(H:Hp)(a:δ)(o:HO):Hp:=λb=>if b=a then some o else H b
def ς:upd H a o a=some o:=by unfold upd;rw[if_pos rfl]
def ξ(h:b≠a):upd H a o b=H b:=by unfold upd;rw[if_neg h]
def abN{H:Hp}{o u:HO}(h:H a=some o)(h':H b=some u)(d:o≠u):a≠b:=by
 intro e;subst e;rw[h]at h';show d (Option.some.inj h')
def ϑ{H:Hp}{o:HO}(h:H a=some o)(h':H b=none):a≠b:=by
 intro e;subst e;rw[h]at h';cases h'
section
variable(P:Ϯ)(w:ϭ)
def ώ(H:Hp)(h:ϫ)(a:δ):HO->Prop
 |.lst xs=>xs.length<=ϯ/\∃(e:List ε)(n:Nat),Vals xs e/\h.get? a=some {cls:=.type "list",data:=.seq e.toArray n}
 |.tup xs=>xs.length<=ϯ/\∃e:List ε,Vals xs e/\IsTup h a e.toArray
 |.dK Ϸ=>Ϸ.length<=ϯ/\(a==sysModules)=false/\∃vs,KV Ϸ vs/\h.DictOf (cH P w) a vs
 |.dT Ϸ=>Ϸ.length<=ϯ/\(a==sysModules)=false/\∃xs:List (List Key×δ×ε),
   Paired (λ(p:List Key×V)(q:List Key×δ×ε)=>p.1=q.1/\H q.2.1=some (.tup (p.1.map kV))/\RelV p.2 q.2.2) Ϸ xs/\
   ∃o es ep,h.get? a=some o/\o.ExactDict/\o.data=.dict es ep/\es.toList=xs.map (entryOfKey (tupleKind (cH P w)))/\(xs.map (·.1)).Nodup
 |.set S n=>h.SetOf (intKind P w) a S n
 |.ins C dx fs=>H dx=some (.own a)/\fs.length<=1000/\dx≠a/\h.get? a=some (apC C dx)/\
   ∃mA,h.Ns1 dx mA/\(∀f,cT (fs.lookup f) (mA f))/\PySem.Within mA (fs.map (·.1))
 |.own _=>∃o,h.get? a=some o
 |.xd fs=>∃mA,h.Ns1 a mA/\∀f,cT (fs.lookup f) (mA f)
 |.rng lo hi=>∃t u v,h.get? a=some {cls:=.type "range",data:=.fields #v[.int lo t,.int hi u,.int 1 v]}
 |.frz o u=>h.get? a=some o/\ώ H h a u
 |.tbl ps=>∃g:Array ε,h.get? a=some {cls:=.none,data:=.fields g}/\TriplesOk g.toList/\∀(p:Pos)(i:ε),codeAmong p g.toList=some i->∃c oc u q t vs t',i=.ref c/\codeAmong p ps.toList=some (.str q t)/\H c=some (.frz oc u)/\oc.data=.fields vs/\vs[1]?=some (.str q t')
 |.met f x=>h.get? a=some (aqO (.ref f) (.ref x))
 |.ext φ=>φ h/\(∃o,h.get? a=some o)/\∀h1 h2:ϫ,φ h1->(∀o,h1.get? a=some o->h2.get? a=some o)->φ h2
def aB(H:Hp)(h:ϫ):=∀a o,H a=some o->ώ P w H h a o
end
section
variable{P:Ϯ}{w:ϭ}{H H':Hp}{h h':ϫ}{a:δ}{o:HO}
def ώ.there(x:ώ P w H h a o):∃ob,h.get? a=some ob:=by
 cases o with
 |lst xs=>let#[_,_,_,_,e]:=x;show#[_,e]
 |tup xs=>let#[_,_,_,ob,e,_]:=x;show#[_,e]
 |dK Ϸ=>let#[_,_,_,_,o,_,_,e,_]:=x;show#[_,e]
 |dT Ϸ=>let#[_,_,_,_,o,_,_,e,_]:=x;show#[_,e]
 |set S n=>let#[o,_,_,_,e,_]:=x;show#[_,e]
 |ins C dx fs=>let#[_,_,_,e,_]:=x;show#[_,e]
 |own y=>let#[_,e]:=x;show#[_,e]
 |xd fs=>let#[_,#[_,_,_,e,_],_]:=x;show#[_,e]
 |rng lo hi=>let#[_,_,_,e]:=x;show#[_,e]
 |frz ob u=>let#[e,_]:=x;show#[_,e]
 |tbl ps=>let#[_,e,_]:=x;show#[_,e]
 |met f y=>show#[_,(show h.get? a=some _ from x)]
 |ext φ=>let#[_,#[_,e],_]:=x;show#[_,e]
def ώ.lt(x:ώ P w H h a o):a<h.objs.size:=by
 let#[_,e]:=x.there;show abQ e
theorem Paired.mapP{α β:Type}{F G:α->β->Prop}:∀{c:List α}{e:List β},Paired F c e->(∀a b,F a b->G a b)->Paired G c e
 |_,_,.nil,_=>.nil
 |_,_,.cons r t,f=>.cons (f _ _ r) (Paired.mapP t f)
def ώ.stay(x:ώ P w H h a o)(k:∀b u,(b=a\/H b=some (.own a))->h.get? b=some u->h'.get? b=some u)(l:∀b,H b=some (.own a)->H' b=some (.own a))(m:∀b xs,H b=some (.tup xs)->H' b=some (.tup xs))(s:∀b g u,H b=some (.frz g u)->H' b=some (.frz g u):=by show λ_ _ _ q=>q):ώ P w H' h' a o:=by
 induction o with
 |lst xs=>let#[z,i,n,r,e]:=x;show#[z,i,n,r,k _ _ (.inl rfl) e]
 |tup xs=>let#[z,i,r,g,e,c]:=x;show#[z,i,r,g,k _ _ (.inl rfl) e,c]
 |dK Ϸ=>let#[z,y,vs,r,g,es,ep,e,c]:=x;show#[z,y,vs,r,g,es,ep,k _ _ (.inl rfl) e,c]
 |dT Ϸ=>
  let#[z,y,xs,r,g,es,ep,e,c]:=x;show#[z,y,xs,Paired.mapP r λp q z=>#[z.1,m _ _ z.2.1,z.2.2],g,es,ep,k _ _ (.inl rfl) e,c]
 |set S n=>let#[g,es,ep,t,e,c]:=x;show#[g,es,ep,t,k _ _ (.inl rfl) e,c]
 |ins C dx fs=>
  let#[d,z,ne,e,mA,#[od,es,ep,j,c],r]:=x;show#[l _ d,z,ne,k _ _ (.inl rfl) e,mA,#[od,es,ep,k _ _ (.inr d) j,c],r]
 |own y=>let#[g,e]:=x;show#[g,k _ _ (.inl rfl) e]
 |xd fs=>let#[mA,#[od,es,ep,e,c],r]:=x;show#[mA,#[od,es,ep,k _ _ (.inl rfl) e,c],r]
 |rng lo hi=>let#[t,u,v,e]:=x;show#[t,u,v,k _ _ (.inl rfl) e]
 |frz g u B=>let#[e,q]:=x;show#[k _ _ (.inl rfl) e,B q]
 |tbl ps=>
  let#[D,e,tr,z]:=x;show#[D,k _ _ (.inl rfl) e,tr,λp E F=>?_];let#[c,oc,u,q,t,vs,t',e1,j,G,I]:=z p E F;show#[c,oc,u,q,t,vs,t',e1,j,s _ _ _ G,I]
 |met f y=>
  let e:h.get? a=some (aqO (.ref f) (.ref y)):=x;show h'.get? a=some (aqO (.ref f) (.ref y));show k a _ (.inl rfl) e
 |ext φ=>let#[p,#[o,e],st]:=x;show#[st _ _ p λo q=>k _ _ (.inl rfl) q,#[o,k _ _ (.inl rfl) e],st]
theorem aB.lt(x:aB P w H h)(e:H a=some o):a<h.objs.size:=(x a o e).lt
def aB.fresh(x:aB P w H h)(e:h.objs.size<=a):H a=none:=by
 cases q:H a with
 |none=>rfl
 |some u=>show absurd (acn (x.lt q) e) (ahK _)
theorem aB.kept(x:aB P w H h)(k:∀b u,h.get? b=some u->h'.get? b=some u):aB P w H h':=λa o e=>
 (x a o e).stay (λb u _ q=>k b u q) (λ_ q=>q) λ_ _ q=>q
theorem aB.laid(x:aB P w H h)(k:∀b u,h.get? b=some u->h'.get? b=some u)(i:h.objs.size<=a)(new:ώ P w (upd H a o) h' a o):aB P w (upd H a o) h':=λb u e=>by
 let f:=x.fresh i;by_cases g:b=a
 .subst g;rw[ς]at e;cases e;show new
 .rw[ξ g]at e;show(x b u e).stay (λc v _ q=>k c v q) (λc q=>by rw[ξ (ϑ q f)];show q) (λc xs q=>by rw[ξ (ϑ q f)];show q) λc j v q=>by rw[ξ (ϑ q f)];show q
end
def Rd(H:Hp)(a:δ)(u:HO):Prop:=H a=some u\/∃o,H a=some (.frz o u)
def Rd.ok(r:Rd H a u)(x:aB P w H h):ώ P w H h a u:=by
 obtain r|⟨o,r⟩:=r
 .show x a u r
 .let#[_,q]:=x a _ r;show q
def v5:Option HO->Prop
 |some (.lst _)=>True
 |some (.dK _)=>True
 |some (.dT _)=>True
 |some (.set _ _)=>True
 |some (.ins _ _ _)=>True
 |some (.ext _)=>True
 |_=>False
theorem aB.write(ok:aB P w H h)(g:v5 (H x))(m:e=x\/H e=some (.own x))(k:∀b u,b≠e->h.get? b=some u->h'.get? b=some u)(l:∃u,h'.get? e=some u)(new:ώ P w (upd H x o') h' x o'):aB P w (upd H x o') h':=λb u q=>by
 let f:∀c y,H c=some (.own y)->c≠x:=λc y r z=>by subst z;rw[r]at g;show g
 let i:∀c xs,H c=some (.tup xs)->c≠x:=λc xs r z=>by subst z;rw[r]at g;show g
 by_cases j:b=x
 .subst j;rw[ς]at q;cases q;show new
 .rw[ξ j]at q;by_cases a:b=e
  .let n:H b=some (.own x):=by
    obtain z|z:=m
    .show absurd (a.trans z) j
    .rw[a];show z
   rw[q]at n;cases n;let#[v,p]:=l;show#[v,by rw[a];show p]
  .show(ok b u q).stay (λc v hc r=>k c v ?_ r) (λc r=>by rw[ξ (f c b r)];show r) (λc xs r=>by rw[ξ (i c xs r)];show r) λc s v r=>by rw[ξ (λz=>by subst z;rw[r]at g;show g)];show r
   obtain rfl|hc:=hc
   .show a
   .rintro rfl
    obtain z|z:=m
    .show f c b hc z
    .rw[hc]at z;cases z;show j rfl
structure Un(fs ex:List δ)(H H':Hp)(h h':ϫ):Prop where
 keep:∀b o,h.get? b=some o->H b=none->b∉fs->b∉ex->h'.get? b=some o
 slot:∀b o,h.get? b=some o->H b=none->b∈fs->b∉ex->∃sl,h'.get? b=some {o with slots:=sl}
 free:∀b o,h.get? b=some o->H b=none->b∉ex->H' b=none
 there:∀b o,h.get? b=some o->b∉ex->∃o',h'.get? b=some o'
 tups:∀b xs,H b=some (.tup xs)->H' b=some (.tup xs)
 frzs:∀b o u,H b=some (.frz o u)->H' b=some (.frz o u)
 tbls:∀b ps,H b=some (.tbl ps)->∃more,H' b=some (.tbl (ps++more))
section
variable{fs fs' ex ex':List δ}{H H1 H2:Hp}{h h1 h2 h':ϫ}{a x e:δ}{o:HO}
def Un.any(u:Un fs ex H H1 h h1){a:Obj}(q:h.get? b=some a)(n:H b=none)(c:b∉ex):∃sl,h1.get? b=some {a with slots:=sl}:=by
 by_cases e:b∈fs
 .show u.slot b a q n e c
 .show#[a.slots,u.keep b a q n e c]
theorem Un.kept(k:∀b u,h.get? b=some u->h'.get? b=some u):Un fs ex H H h h':=
 #[λb a q _ _ _=>k b a q,λb a q _ _ _=>#[a.slots,k b a q],λ_ _ _ n _=>n,λb a q _=>#[a,k b a q],λ_ _ q=>q,λ_ _ _ q=>q,λ_ ps q=>#[#v[],by rw[q];simp]]
theorem Un.refl:Un fs ex H H h h:=Un.kept λ_ _ q=>q
theorem Un.laid(k:∀b u,h.get? b=some u->h'.get? b=some u)(e:h.objs.size<=a)(c:H a=none):Un fs ex H (upd H a o) h h' where
 keep:=λb u q _ _ _=>k b u q
 slot:=λb u q _ _ _=>#[u.slots,k b u q]
 free:=λb u q n _=>by rw[ξ (acE (acn (abQ q) e))];show n
 there:=λb u q _=>#[u,k b u q]
 tups:=λb xs q=>by rw[ξ (ϑ q c)];show q
 frzs:=λb u xs q=>by rw[ξ (ϑ q c)];show q
 tbls:=λb ps q=>#[#v[],by rw[ξ (ϑ q c),q];simp]
def Un.write(c:v5 (H x))(l:e=x\/H e=some (.own x))(k:∀b u,b≠e->h.get? b=some u->h'.get? b=some u)(f:∃u,h'.get? e=some u):Un fs ex H (upd H x o) h h':=by
 let i:∀b,H b=none->b≠x:=λb n z=>by subst z;rw[n]at c;show c
 let j:∀b,H b=none->b≠e:=λb n z=>by
  subst z;obtain r|r:=l
  .show i b n r
  .rw[n]at r;cases r
 let g:∀b u,H b=some u->¬v5 (some u)->b≠x:=λb u q nm z=>by subst z;rw[q]at c;show nm c
 show#[λb u q n _ _=>k b u (j b n) q,λb u q n _ _=>#[u.slots,k b u (j b n) q],λb u q n _=>by rw[ξ (i b n)];show n,λb u q _=>?_,
  λb xs q=>by rw[ξ (g b _ q λz=>z)];show q,λb u xs q=>by rw[ξ (g b _ q λz=>z)];show q,λb ps q=>#[#v[],by rw[ξ (g b _ q λz=>z),q];simp]]
 by_cases a:b=e
 .subst a;show f
 .show#[u,k b u a q]
end
def jN(h:ϫ)(H:Hp):List δ:=(acR h.objs.size).filter λa=>(H a).isSome
def jr(h:ϫ)(H:Hp):ϫ:=W.hideAll h (jN h H)
theorem amy(h:ϫ)(H:Hp):(jr h H).objs.size=h.objs.size:=W.hideAll_size _ _
theorem ajQ(e:h.get? b=some o)(n:H b=none):(jr h H).get? b=some o:=
 W.hideAll_get _ e λa=>by
  let q:(H b).isSome=true:=(ai5.mp a).2;rw[n]at q;simp at q
def abO(e:(jr h H).get? b=some o):h.get? b=some o/\H b=none:=by
 let a:h.get? b=some o:=W.of_hideAll (jN h H) e;show#[a,?_];cases q:H b with
 |none=>rfl
 |some x=>
  let c:b∈jN h H:=ai5.mpr #[aiT.mpr (abQ a),by simp[q]];let z:(jr h H).get? b=none:=W.hideAll_none (jN h H) c;rw[z]at e;cases e
def ahG(g h:ϫ)(L:δ):List (δ×Obj):=(acR h.objs.size).filterMap λa=>if a=L\/(g.get? a).isSome=true then none else(h.get? a).map λo=>(a,o)
def rest(g h:ϫ)(L d:δ):List (δ×Obj):=(ahG g h L).filter λp=>decide (p.1≠d)
structure Mod(K:Ϩ)(mg:Str->Option ε)(base:ϫ):Prop where
 kin:K.In base
 glob:base.Ns mainGlobals mg
 blt:∃mb,base.Ns builtinsNs mb/\∀x:Str,x≠"__name__"->mb x=bootBuiltins x
 nolimit:base.NoLimit
structure Cx where
 prog:Ϯ
 w:ϭ
 K:Ϩ
 mg:Str->Option ε
 base:ϫ
 A:ϲ
 N:List Str
 s₀:μ
 H₀:Hp
 env:Env
 outer:List Env
 stack:List Env
 ex:List δ
 fn:Str->Bool
 calm:Bool
 pn:List (δ×Obj)
 xe:ε->μ->Prop
def dC(l:List Env):List δ:=l.filterMap (·.frame)
abbrev Cx.fs(X:Cx):List δ:=dC X.outer
def uf(sc:agV)(x:Str):Prop:=sc.names.lookup x=some .local\/sc.names.lookup x=some .cell\/sc.names.lookup x=some .free
def Loc(sc:agV)(x:Str):Prop:=sc.names.lookup x=some .local\/sc.names.lookup x=some .cell
def Look(env:Env)(h:ϫ)(m:Str->Option ε)(x:Str)(u:ε):Prop:=
 (env.kindOf x=some .local/\m x=some u)\/((env.kindOf x=some .cell\/env.kindOf x=some .free)/\∃c,env.cells.lookup x=some c/\h.IsCell c (some u))
structure Cx.Ok(X:Cx):Prop where
 mod:Mod X.K X.mg X.base
 kind:X.env.scope.kind=.function
 glob:X.env.globals=mainGlobals
 blt:X.env.builtins=builtinsNs
 above:X.s₀.heap.objs.size<=X.env.locals
 inj:∀x y c,X.env.cells.lookup x=some c->X.env.cells.lookup y=some c->x=y
 has:∀x,(X.env.kindOf x=some .cell\/X.env.kindOf x=some .free)->∃c,X.env.cells.lookup x=some c
 cab:∀x c,X.fn x=true->X.env.cells.lookup x=some c->X.s₀.heap.objs.size<=c
 hd:X.calm=true->X.A.handled=none
 frames:X.A.frames=some X.stack
 stk:X.stack=X.outer\/(X.stack=X.env::X.outer/\X.env.frame=some X.env.locals)
 exf:∀b∈X.ex,b≠X.env.locals/\∀x c,X.env.cells.lookup x=some c->c≠b
 bs:∀b o,X.base.get? b=some o->X.s₀.heap.get? b=some o/\X.H₀ b=none
 bsz:X.base.objs.size<=X.s₀.heap.objs.size
 noex:∀b o,X.base.get? b=some o->b∉X.ex
 exfs:∀b∈X.ex,b∉X.fs
 funs:X.s₀.heap.FunFrames X.base X.outer
 frf:∀b∈X.fs,X.H₀ b=none
structure Inv(X:Cx)(ϵ:List (δ×Obj))(σ:List (Option V))(H:Hp)(s:μ):Prop where
 ok:X.Ok
 os:s.os=X.s₀.os
 bare:AllBare s.gens
 base:Un X.fs X.ex X.H₀ H X.s₀.heap s.heap
 loc:∃m,s.heap.Ns X.env.locals m/\∀(i:Nat)(x:Str)(v:V),X.N[i]?=some x->σ[i]?=some (some v)->uf X.env.scope x->∃u,RelV v u/\Look X.env s.heap m x u
 cell:∀x c,X.env.cells.lookup x=some c->∃v,s.heap.IsCell c v
 free:H X.env.locals=none
 freeC:∀x c,X.env.cells.lookup x=some c->H c=none
 pin:∀p∈X.pn++ϵ,s.heap.get? p.1=some p.2/\H p.1=none/\p.1≠X.env.locals/\p.1∉X.fs/\∀v,p.2.data≠.cell v
 hok:aB X.prog X.w H s.heap
 len:σ.length=X.N.length
section
variable{X:Cx}{ϵ:List (δ×Obj)}{σ:List (Option V)}{H H':Hp}{s:μ}{h':ϫ}
theorem Cx.Ok.nofr(ok:X.Ok)(e:X.base.get? b=some o):b∉X.fs:=λa=>by
 have:=(ok.funs.mem a).1;rw[e]at this;cases this
theorem Inv.bs(I:Inv X ϵ σ H s):∀b o,X.base.get? b=some o->s.heap.get? b=some o/\H b=none:=λb o e=>
 #[I.base.keep b o (I.ok.bs b o e).1 (I.ok.bs b o e).2 (I.ok.nofr e) (I.ok.noex b o e),I.base.free b o (I.ok.bs b o e).1 (I.ok.bs b o e).2 (I.ok.noex b o e)]
theorem Inv.bk(I:Inv X ϵ σ H s):∀b o,X.base.get? b=some o->s.heap.get? b=some o:=λb o e=>(I.bs b o e).1
theorem Inv.mod(I:Inv X ϵ σ H s):Mod X.K X.mg X.base:=I.ok.mod
theorem Inv.kIn(I:Inv X ϵ σ H s):X.K.In s.heap:=I.ok.mod.kin.keeps I.bk
theorem Inv.nolimit(I:Inv X ϵ σ H s):s.heap.NoLimit:=I.ok.mod.nolimit.keeps I.bk
theorem Inv.lt(I:Inv X ϵ σ H s):X.env.locals<s.heap.objs.size:=let⟨_,hn,_⟩:=I.loc;hn.lt
theorem Inv.sz(I:Inv X ϵ σ H s):X.s₀.heap.objs.size<=s.heap.objs.size:=ad8 I.ok.above (apD I.lt)
theorem Inv.nofs(I:Inv X ϵ σ H s){a:δ}(h:s.heap.objs.size<=a):a∉X.fs:=λc=>by
 let#[_,o,e,_]:=I.ok.funs.mem c;show absurd (acn (abQ e) (ad8 I.sz h)) (ahK _)
theorem Inv.cne(I:Inv X ϵ σ H s):∀x c,X.env.cells.lookup x=some c->c≠X.env.locals:=λx c e z=>by
 let#[v,o,g,hd]:=I.cell x c e;let#[m,#[o',es,ep,a,f,_],_]:=I.loc;rw[z,a]at g;cases g;rw[f]at hd;cases hd
def Inv.funs(I:Inv X ϵ σ H s):s.heap.FunFrames X.base X.outer:=by
 let all:∀(l:List Env),(∀b∈dC l,b∈X.fs)->X.s₀.heap.FunFrames X.base l->s.heap.FunFrames X.base l:=by
  intro l;induction l with
  |nil=>intro _ _;trivial
  |cons env r g=>
   intro hs hl;let#[i,#[L,o,a,j,m,hd],n]:=hl;let c:L∈X.fs:=hs L (by unfold dC;rw[aqu,a];show ac3);let#[sl,e]:=I.base.slot L o m (I.ok.frf L c) c λz=>I.ok.exfs L z c
   show#[i,#[L,_,a,j,e,hd],g (λb f=>hs b (by unfold dC;rw[aqu,a];show acr _ f)) n]
 show all X.outer (λ_ f=>f) I.ok.funs
def Inv.stack(I:Inv X ϵ σ H s):s.heap.FunFrames X.base X.stack:=by
 obtain e|⟨e,a⟩:=I.ok.stk
 .rw[e];show I.funs
 .rw[e];let#[m,c,_]:=I.loc;show .cons (by rw[I.ok.kind];decide) a c ?_ I.funs;show anP (ad8 I.ok.bsz I.ok.above)
theorem Inv.stkSub(I:Inv X ϵ σ H s):∀b∈dC X.stack,b∈X.env.locals::X.fs:=λb a=>by
 obtain e|⟨e,c⟩:=I.ok.stk
 .rw[e]at a;show acr _ a
 .rw[e]at a;unfold dC at a;rw[aqu,c]at a;show a
theorem Inv.stkFree(I:Inv X ϵ σ H s):∀b∈dC X.stack,H b=none:=λb hb=>by
 rcases ϳ.mp (I.stkSub b hb)with e|hb
 .rw[e];show I.free
 .let#[_,o,a,_]:=I.ok.funs.mem hb;show I.base.free b o a (I.ok.frf b hb) λz=>I.ok.exfs b z hb
def Inv.step{t':Nat}{d':Drawn}{ch:List δ}(I:Inv X ϵ σ H s)(f:∀b∈ch,(b∈X.ex\/X.s₀.heap.get? b=none)/\b≠X.env.locals/\(∀x c,X.env.cells.lookup x=some c->c≠b)/\∀p∈X.pn++ϵ,p.1≠b)(keep:∀b o,b≠X.env.locals->b∉X.fs->b∉ch->s.heap.get? b=some o->H b=none->h'.get? b=some o)(slot:∀b o,b≠X.env.locals->b∈X.fs->b∉ch->s.heap.get? b=some o->H b=none->∃sl,h'.get? b=some {o with slots:=sl})(free:∀b o,b∉ch->s.heap.get? b=some o->H b=none->H' b=none)(there:∀b o,b∉ch->s.heap.get? b=some o->∃o',h'.get? b=some o')(tups:∀b xs,H b=some (.tup xs)->H' b=some (.tup xs))(frzs:∀b o u,H b=some (.frz o u)->H' b=some (.frz o u))(tbls:∀b ps,H b=some (.tbl ps)->∃E,H' b=some (.tbl (ps++E)))(ns:∀m,s.heap.Ns X.env.locals m->h'.Ns X.env.locals m)(hok:aB X.prog X.w H' h')(P:AllBare g'):Inv X ϵ σ H' {s with heap:=h',gens:=g',drawn:=d',toks:=t'}:=by
 let F:∀b o,X.s₀.heap.get? b=some o->b≠X.env.locals:=λb o e=>acE (acn (abQ e) I.ok.above)
 let y:∀b o,X.s₀.heap.get? b=some o->b∉X.ex->b∉ch:=λb o e a B=>by
  rcases(f b B).1 with z|z
  .show a z
  .rw[e]at z;cases z
 let g:∀x c,X.env.cells.lookup x=some c->∀v,s.heap.IsCell c v->h'.IsCell c v:=λx c e v ⟨o,D,hd⟩=>by
  let j:c∉ch:=λz=>(f c z).2.2.1 x c e rfl
  by_cases L:c∈X.fs
  .let#[sl,q]:=slot c o (I.cne x c e) L j D (I.freeC x c e);show#[_,q,hd]
  .show#[o,keep c o (I.cne x c e) L j D (I.freeC x c e),hd]
 show#[I.ok,I.os,P,#[λb o e n B a=>?_,λb o e n B a=>?_,λb o e n a=>?_,λb o e a=>?_,λb xs e=>tups b xs (I.base.tups b xs e),λb o xs e=>frzs b o xs (I.base.frzs b o xs e),λb ps e=>?_],?_,λx c e=>?_,?_,λx c e=>?_,λp M=>?_,hok,I.len]
 .show keep b o (F b o e) B (y b o e a) (I.base.keep b o e n B a) (I.base.free b o e n a)
 .let#[sl,e1]:=I.base.slot b o e n B a;let#[J,G]:=slot b _ (F b o e) B (y b o e a) e1 (I.base.free b o e n a);show#[J,G]
 .let#[o',e1]:=I.base.there b o e a;show free b o' (y b o e a) e1 (I.base.free b o e n a)
 .let#[o',e1]:=I.base.there b o e a;show there b o' (y b o e a) e1
 .let#[m1,e1]:=I.base.tbls b ps e;let#[m2,G]:=tbls b _ e1;show#[m1++m2,by rw[G,Array.append_assoc]]
 .let#[m,Q,hl]:=I.loc;show#[m,ns m Q,λi x v e1 G R=>?_];let#[u,r,l]:=hl i x v e1 G R;show#[u,r,?_];obtain l|⟨k,c,e,z⟩:=l
  .show .inl l
  .show .inr #[k,c,e,g x c e _ z]
 .let#[v,z]:=I.cell x c e;show#[v,g x c e v z]
 .let#[m,#[o,_,_,D,_],_]:=I.loc;show free _ o (λz=>(f _ z).2.1 rfl) D I.free
 .let#[v,o,D,hd]:=I.cell x c e;show free c o (λz=>(f c z).2.2.1 x c e rfl) D (I.freeC x c e)
 .let#[e,n,ne,O,d]:=I.pin p M;let j:p.1∉ch:=λz=>(f p.1 z).2.2.2 p M rfl
  show#[keep p.1 p.2 ne O j e n,free p.1 p.2 j e n,ne,O,d]
def Inv.un(I:Inv X ϵ σ H s)(u:Un X.fs [] H H' s.heap h')(hok:aB X.prog X.w H' h'):Inv X ϵ σ H' {s with heap:=h',toks:=t'}:=by
 let#[m,#[o,es,ep,i,r],_]:=id I.loc;let#[sl,j]:=u.any i I.free (by simp);show I.step (g':=s.gens) (d':=s.drawn) (ch:=[]) (λ_ z=>nomatch z) (λb o _ c _ e n=>u.keep b o e n c (by simp)) (λb o _ c _ e n=>u.slot b o e n c (by simp)) (λb o _ e n=>u.free b o e n (by simp)) (λb o _ e=>u.there b o e (by simp)) u.tups u.frzs u.tbls (λm' l=>by
  let#[o',f,g,a,p]:=l;rw[i]at a;cases a;show#[_,f,g,j,p]) hok I.bare
def Inv.call(I:Inv X ϵ σ H s)(u:Un (dC X.stack) ch H H' s.heap h')(hok:aB X.prog X.w H' h')(v:AllBare g')(f:∀b∈ch,(b∈X.ex\/X.s₀.heap.get? b=none)/\b≠X.env.locals/\(∀x c,X.env.cells.lookup x=some c->c≠b)/\∀p∈X.pn++ϵ,p.1≠b):Inv X ϵ σ H' {s with heap:=h',gens:=g',drawn:=d',toks:=t'}:=by
 let#[m,#[o,es,ep,q,r],_]:=id I.loc;let#[sl,i]:=u.any q I.free λz=>(f _ z).2.1 rfl
 show I.step (ch:=ch) f (λb o i y a e n=>u.keep b o e n (λz=>(ϳ.mp (I.stkSub b z)).elim i y) a) (λb o _ _ a e n=>u.any e n a) (λb o a e n=>u.free b o e n a) (λb o a e=>u.there b o e a) u.tups u.frzs u.tbls (λm' B=>by
  let#[o',j,l,g,D]:=B;rw[q]at g;cases g;show#[_,j,l,i,D]) hok v
def Inv.turned(I:Inv X ϵ σ H s)(k:∀b o,b≠it->s.heap.get? b=some o->h'.get? b=some o)(i:H it=none)(g:it≠X.env.locals)(h1:it∈X.ex\/X.s₀.heap.get? it=none)(h2:∀x c,X.env.cells.lookup x=some c->c≠it)(j:∀p∈X.pn++ϵ,p.1≠it):Inv X ϵ σ H {s with heap:=h',toks:=t'}:=by
 let f:∀b u,H b=some u->b≠it:=λb u e z=>by rw[z,i]at e;cases e
 show I.step (g':=s.gens) (d':=s.drawn) (ch:=[it]) (λb l=>?_) (λb o _ _ a e _=>k b o (λz=>a (by simp[z])) e) (λb o _ _ a e _=>#[o.slots,k b o (λz=>a (by simp[z])) e]) (λ_ _ _ _ n=>n)
  (λb o a e=>#[o,k b o (λz=>a (by simp[z])) e]) (λ_ _ e=>e) (λ_ _ _ e=>e) (λb ps e=>#[#v[],by rw[e];simp]) (λm y=>?_) (λb u e=>?_) I.bare
 .let e:b=it:=by simpa using l
  subst e;show#[h1,g,h2,j]
 .let#[o,es,ep,B,r]:=y;show#[o,es,ep,k _ o (Ne.symm g) B,r]
 .show(I.hok b u e).stay (λc v a q=>k c v ?_ q) (λ_ q=>q) λ_ _ q=>q
  obtain z|z:=a
  .rw[z];show f b u e
  .show f c _ z
theorem Inv.tok(I:Inv X ϵ σ H s)(t:Nat):Inv X ϵ σ H {s with toks:=t}:=I.un (h':=s.heap) (t':=t) Un.refl I.hok
theorem Inv.kept(I:Inv X ϵ σ H s)(k:∀b u,s.heap.get? b=some u->h'.get? b=some u):Inv X ϵ σ H {s with heap:=h',toks:=t'}:=I.un (Un.kept k) (I.hok.kept k)
theorem Inv.laid{a:δ}{t':Nat}(I:Inv X ϵ σ H s)(k:∀b u,s.heap.get? b=some u->h'.get? b=some u)(c:s.heap.objs.size<=a)(new:ώ X.prog X.w (upd H a o) h' a o):Inv X ϵ σ (upd H a o) {s with heap:=h',toks:=t'}:=I.un (Un.laid k c (I.hok.fresh c)) (I.hok.laid k c new)
theorem Inv.write(I:Inv X ϵ σ H s)(c:v5 (H x))(f:e=x\/H e=some (.own x))(k:∀b u,b≠e->s.heap.get? b=some u->h'.get? b=some u)(a:∃u,h'.get? e=some u)(new:ώ X.prog X.w (upd H x o) h' x o):Inv X ϵ σ (upd H x o) {s with heap:=h',toks:=t'}:=I.un (Un.write c f k a) (I.hok.write c f k a new)
theorem Inv.pins_of(I:Inv X ϵ σ H s)(h:∀p∈pins',s.heap.get? p.1=some p.2/\H p.1=none/\p.1≠X.env.locals/\p.1∉X.fs/\∀v,p.2.data≠.cell v):Inv X pins' σ H s:=
 #[I.ok,I.os,I.bare,I.base,I.loc,I.cell,I.free,I.freeC,λp a=>(adb.mp a).elim (λz=>I.pin p (ags _ z)) (h p),I.hok,I.len]
def Q6{N:List Str}(c:N.Nodup){i j:Nat}(a:N[i]?=some x)(b:N[j]?=some x):i=j:=by
 let#[h1,e1]:=aat.mp a;let#[h2,e]:=aat.mp b;show(aoj c).mp (e1.trans e.symm)
def vW(I:Inv X ϵ σ H s)(hN:X.N.Nodup)(hi:X.N[i]?=some x)(g:Loc X.env.scope x)(r:RelV v u)(h:∀s',Inv X ϵ (σ.set i (some v)) H s'->(∃a,aj8 a s.heap s'.heap/\(a=X.env.locals\/X.env.cells.lookup x=some a))->Q PUnit.unit s')(hf:X.fn x=true\/X.env.scope.names.lookup x=some .local:=by first|show .inl rfl|show .inr rfl|assumption):ν M A (storeName X.env x u) Q E s:=by
 let#[m,W,hl]:=id I.loc;let L:(X.env.scope.kind==.class||(X.env.scope.kind==.module&&X.env.locals !=X.env.globals))=false:=by rw[I.ok.kind];rfl
 let D:i<σ.length:=by rw[I.len];show(aat.mp hi).1
 let cne:=I.cne;let f:∀{a:δ}{h':ϫ},(∃o,s.heap.get? a=some o/\H a=none)->aj8 a s.heap h'->aB X.prog X.w H h':=λ{a h'} ha hs b ob e=>by
  let#[_,_,l]:=ha;show(I.hok b ob e).stay (λc T hc q=>(hs.2 c ?_).trans q) (λ_ q=>q) λ_ _ q=>q
  rintro rfl
  obtain rfl|hc:=hc
  .rw[l]at e;cases e
  .rw[l]at hc;cases hc
 obtain hk|hk:=g
 .show wpAny_storeName_local hk W (λh' Y hs=>?_) L;let#[oL,_,_,Z,_]:=id W;show h _ #[I.ok,I.os,I.bare,#[λb o e n F g=>?_,λb o e n F g=>?_,I.base.free,λb o e g=>?_,I.base.tups,I.base.frzs,I.base.tbls],#[_,Y,λj y v' e1 B e3=>?_],λy c e=>?_,I.free,I.freeC,λp hp=>?_,f #[oL,Z,I.free] hs,by simpa using I.len] #[_,hs,.inl rfl]
  .show(hs.2 b (acE (acn (abQ e) I.ok.above))).trans (I.base.keep b o e n F g)
  .let#[sl,e1]:=I.base.slot b o e n F g;show#[sl,(hs.2 b (acE (acn (abQ e) I.ok.above))).trans e1]
  .let#[o',e1]:=I.base.there b o e g;show#[o',(hs.2 b (acE (acn (abQ e) I.ok.above))).trans e1]
  .by_cases G:j=i
   .subst G;rw[hi]at e1;cases e1;rw[aqV D]at B;cases B;show#[u,r,.inl #[hk,by simp]]
   .rw[arf (Ne.symm G)]at B;let#[u',r',q]:=hl j y v' e1 B e3;show#[u',r',?_];obtain⟨k,e⟩|⟨k,c,e,z⟩:=q
    .show .inl #[k,?_];have:y≠x:=λe=>G (Q6 hN e1 (e▸hi))
     simp[this,e]
    .show .inr #[k,c,e,z.sameBut hs (cne y c e)]
  .let#[T,z]:=I.cell y c e;show#[T,z.sameBut hs (cne y c e)]
  .let#[e,n,ne,nf,d]:=I.pin p hp;show#[(hs.2 p.1 ne).trans e,n,ne,nf,d]
 .let J:X.fn x=true:=by
   obtain z|z:=hf
   .show z
   .rw[z]at hk;cases hk
  let#[c,hc]:=I.ok.has x (.inl hk);let#[T,z]:=I.cell x c hc;show wpAny_storeName_cell I.ok.kind hk hc z (λh' O hs=>?_);let#[oc,P,R]:=id z;show h {s with heap:=h'} #[I.ok,I.os,I.bare,#[λb o e n F g=>?_,λb o e n F g=>?_,I.base.free,λb o e g=>?_,I.base.tups,I.base.frzs,I.base.tbls],#[m,W.sameBut hs (Ne.symm (cne x c hc)),λj y v' e1 B e3=>?_],λy U e=>?_,I.free,I.freeC,λp hp=>?_,f #[oc,P,I.freeC x c hc] hs,by simpa using I.len] #[c,hs,.inr hc]
  .show(hs.2 b (acE (acn (abQ e) (I.ok.cab x c J hc)))).trans (I.base.keep b o e n F g)
  .let#[sl,e1]:=I.base.slot b o e n F g;show#[sl,(hs.2 b (acE (acn (abQ e) (I.ok.cab x c J hc)))).trans e1]
  .let#[o',e1]:=I.base.there b o e g;show#[o',(hs.2 b (acE (acn (abQ e) (I.ok.cab x c J hc)))).trans e1]
  .by_cases G:j=i
   .subst G;rw[hi]at e1;cases e1;rw[aqV D]at B;cases B;show#[u,r,.inr #[.inl hk,c,hc,O]]
   .rw[arf (Ne.symm G)]at B;let#[u',r',q]:=hl j y v' e1 B e3;show#[u',r',?_];obtain q|⟨k,U,e,z'⟩:=q
    .show .inl q
    .show .inr #[k,U,e,z'.sameBut hs ?_]
     rintro rfl
     show G (Q6 hN e1 (I.ok.inj _ _ _ e hc▸hi))
  .by_cases S:U=c
   .subst S;show#[_,O]
   .let#[w2,z2]:=I.cell y U e;show#[w2,z2.sameBut hs S]
  .let#[e,n,ne,nf,d]:=I.pin p hp;show#[(hs.2 p.1 ?_).trans e,n,ne,nf,d];intro q;rw[q,P]at e;let q':oc=p.2:=Option.some.inj e;show d T (by rw[<-q'];show R)
theorem Lq(I:Inv X ϵ σ H s)(a:X.N.Nodup)(hi:X.N[i]?=some x)(c:Loc X.env.scope x)(r:RelV v u)(h:∀s',Inv X ϵ (σ.set i (some v)) H s'->Q PUnit.unit s')(e:X.fn x=true\/X.env.scope.names.lookup x=some .local:=by first|show .inl rfl|show .inr rfl|assumption):ν M A (storeName X.env x u) Q E s:=
 vW I a hi c r (λs' f _=>h s' f) e
def Inv.call'(I:Inv X ϵ σ H s)(f:s'.os=s.os)(u:Un (dC X.stack) ch H H' s.heap s'.heap)(hok:aB X.prog X.w H' s'.heap)(g:AllBare s'.gens)(a:∀b∈ch,(b∈X.ex\/X.s₀.heap.get? b=none)/\b≠X.env.locals/\(∀x c,X.env.cells.lookup x=some c->c≠b)/\∀p∈X.pn++ϵ,p.1≠b):Inv X ϵ σ H' s':=by
 let#[h',g',d',t',o']:=s';let e:o'=s.os:=f;subst e;show I.call (g':=g') (t':=t') (d':=d') u hok g a
end
abbrev XK:=ε->Option δ×Bool->Hp->Prop
abbrev St:=List (Option V)
abbrev VK:=V->Hp->Prop
abbrev TE:=St->Hp->VK->Prop
abbrev TT:=St->Hp->(Bool->Hp->Prop)->Prop
abbrev TA:=St->Hp->(List V->Hp->Prop)->Prop
structure Ends where
 nx:St->Hp->Prop
 rt:VK
 bk:St->Hp->Prop:=λ_ _=>False
 ct:St->Hp->Prop:=λ_ _=>False
abbrev TS:=Ends->St->Hp->Prop
def EP(X:Cx)(ϵ:List (δ×Obj))(σ:St)(Q:VK)(u:ε)(s':μ):=∃v H',Inv X ϵ σ H' s'/\RelV v u/\Q v H'
def TP(X:Cx)(ϵ:List (δ×Obj))(σ:St)(Q:Bool->Hp->Prop)(b:Bool)(s':μ):=∃H',Inv X ϵ σ H' s'/\Q b H'
def AP(X:Cx)(ϵ:List (δ×Obj))(σ:St)(Q:List V->Hp->Prop)(us:List ε)(s':μ):=∃vs H',Inv X ϵ σ H' s'/\Vals vs us/\Q vs H'
def SP(X:Cx)(ϵ:List (δ×Obj))(D:Ends)(f:Flow)(s':μ):Prop:=
 match f with
 |.next=>∃σ' H',Inv X ϵ σ' H' s'/\D.nx σ' H'
 |.brk=>∃σ' H',Inv X ϵ σ' H' s'/\D.bk σ' H'
 |.cont=>∃σ' H',Inv X ϵ σ' H' s'/\D.ct σ' H'
 |.ret u=>∃v σ' H',Inv X ϵ σ' H' s'/\RelV v u/\D.rt v H'
def PE(X:Cx)(e:ϧ)(t:TE):Prop:=
 ∀(ϵ:List (δ×Obj))(s:μ)(σ:St)(H:Hp)(Q:VK),Inv X ϵ σ H s->t σ H Q->ν (ϩ X.prog X.w) X.A (eval e X.env) (EP X ϵ σ Q) X.xe s
def PT(X:Cx)(e:ϧ)(t:TT):Prop:=
 ∀(ϵ:List (δ×Obj))(s:μ)(σ:St)(H:Hp)(Q:Bool->Hp->Prop),Inv X ϵ σ H s->t σ H Q->ν (ϩ X.prog X.w) X.A (isTrue e X.env (eval e X.env)) (TP X ϵ σ Q) X.xe s
def PW(X:Cx)(e:ϧ)(t:TT):Prop:=
 ∀(a:Sem ε)(ϵ:List (δ×Obj))(s:μ)(σ:St)(H:Hp)(Q:Bool->Hp->Prop),Inv X ϵ σ H s->t σ H Q->ν (ϩ X.prog X.w) X.A (isTrue e X.env a) (TP X ϵ σ Q) X.xe s
theorem PW.pt(h:PW X e t):PT X e t:=h _
def PS(X:Cx)(st:π)(t:TS):Prop:=
 ∀(ϵ:List (δ×Obj))(s:μ)(σ:St)(H:Hp)(D:Ends),Inv X ϵ σ H s->t D σ H->ν (ϩ X.prog X.w) X.A (exec st X.env) (SP X ϵ D) X.xe s
def Fb(X:Cx)(st:List π)(t:TS):Prop:=
 ∀(ϵ:List (δ×Obj))(s:μ)(σ:St)(H:Hp)(D:Ends),Inv X ϵ σ H s->t D σ H->ν (ϩ X.prog X.w) X.A (execs st X.env) (SP X ϵ D) X.xe s
theorem υ{α:Type}{t:Sem α}{Q c:α->μ->Prop}{A:ϲ}{E:ε->μ->Prop}{s:μ}(h:ν M A t Q E s)(e:∀a s,Q a s->c a s):ν M A t c E s:=adt h e λ_ _ x=>x
section
variable{X:Cx}
def ah7(i:Nat):TE:=λσ H Q=>∃v,σ[i]?=some (some v)/\Q v H
def tC(v:V):TE:=λ_ H Q=>Q v H
def ab6{x:Str}{pos:Pos}(j:X.N[i]?=some x)(n:uf X.env.scope x)(hd:(x==("__debug__":Str))=false:=by decide)(f:(x==("__classdict__":Str))=false:=by decide):PE X (.Name x pos) (ah7 i):=by
 intro ϵ s σ H Q I h;let#[v,e,h]:=h;let#[m,p,hl]:=I.loc;let#[u,r,l]:=hl i x v j e n;let fin:EP X ϵ σ Q u s:=#[v,H,I,r,h];obtain⟨hk,q⟩|⟨hk,c,g,a⟩:=l
 .show wpAny_Name (wpAny_loadName_local I.ok.kind hk p q fin) hd
 .obtain hk|hk:=hk
  .show wpAny_Name (wpAny_loadName_cell I.ok.kind hk g a fin) hd
  .show wpAny_Name (wpAny_loadName_free I.ok.kind hk g a fin f) hd
def Gl(X:Cx)(x:Str):Prop:=X.env.kindOf x=some .globalImplicit
theorem Cr{E:ε->μ->Prop}{s:μ}{σ:St}{H:Hp}{x:Str}{u:ε}{pos:Pos}{Q:ε->μ->Prop}(I:Inv X ϵ σ H s)(a:Gl X x)(c:X.mg x=some u)(h:Q u s)(hd:(x==("__debug__":Str))=false:=by decide):ν (ϩ X.prog X.w) X.A (eval (.Name x pos) X.env) Q E s:=
 Calls.Name_function_global I.ok.kind a (Calls.loadGlobal_global (by rw[I.ok.glob];show I.mod.glob.keeps I.bk) c h) hd
def ju{E:ε->μ->Prop}{s:μ}{σ:St}{H:Hp}{x:Str}{u:ε}{pos:Pos}{Q:ε->μ->Prop}(I:Inv X ϵ σ H s)(a:Gl X x)(c:X.mg x=none)(e:bootBuiltins x=some u)(h:Q u s)(f:x≠"__name__":=by decide)(hd:(x==("__debug__":Str))=false:=by decide):ν (ϩ X.prog X.w) X.A (eval (.Name x pos) X.env) Q E s:=by
 let#[mb,h1,h2]:=I.mod.blt;show Calls.Name_function_global I.ok.kind a (Calls.loadGlobal_builtin (by rw[I.ok.glob];show I.mod.glob.keeps I.bk) c (by rw[I.ok.blt];show h1.keeps I.bk) ((h2 x f).trans e) h) hd
theorem MF(a:Gl X x)(c:X.mg x=some u)(r:RelV v u)(hd:(x==("__debug__":Str))=false:=by decide):PE X (.Name x pos) (tC v):=
 λ_ _ _ H _ I h=>Cr I a c #[v,H,I,r,h] hd
end
def η(K:Ϩ)(H:Hp)(a:δ)(xs:List V):Prop:=
 Rd H a (.lst xs)\/
  ∃(o:Obj)(c:Array ε)(n:Nat),K.lookup a=some o/\o.cls=.type "list"/\o.dict=none/\o.data=.seq c n/\c.size<=ϯ/\Vals xs c.toList
def ι(K:Ϩ)(H:Hp)(a:δ)(xs:List V):Prop:=
 Rd H a (.tup xs)\/
  ∃(o:Obj)(c:Array ε)(n:Nat),K.lookup a=some o/\o.cls=.type "tuple"/\o.data=.seq c n/\c.size<=ϯ/\Vals xs c.toList
def acU:ε->Option V
 |.none=>some .non
 |.bool b=>some (.bl b)
 |.int i _=>some (.int i)
 |.str x _=>some (.str x)
 |.bytes b _=>some (.byt b)
 |.float b _=>some (.flt b)
 |.ref a=>some (.ref a)
 |.type n=>some (.ty n)
 |_=>none
def RelV.abs(r:RelV x u):acU u=some x:=by
 cases x with
 |non=>cases r;rfl
 |bl _=>cases r;rfl
 |int _=>let#[t,rfl]:=r;rfl
 |str _=>let#[t,rfl]:=r;rfl
 |byt _=>let#[t,rfl]:=r;rfl
 |flt _=>let#[t,rfl]:=r;rfl
 |ref _=>cases r;rfl
 |ty _=>cases r;rfl
theorem RelV.inj(r:RelV x u)(q:RelV y u):x=y:=Option.some.inj (r.abs.symm.trans q.abs)
def Vals.inj(h:Vals xs us)(g:Vals ys us):xs=ys:=by
 induction h generalizing ys with
 |nil=>cases g;rfl
 |cons r t a=>cases g with|cons c t'=>rw[r.inj c,a t']
section
variable{X:Cx}{ϵ:List (δ×Obj)}{σ:St}{H:Hp}{s:μ}{a:δ}{xs ys:List V}
theorem η.of{K:Ϩ}(h:H a=some (.lst xs)):η K H a xs:=.inl (.inl h)
theorem ι.of{K:Ϩ}(h:H a=some (.tup xs)):ι K H a xs:=.inl (.inl h)
def Inv.list(I:Inv X ϵ σ H s)(h:η X.K H a xs):∃c:List ε,Vals xs c/\PlainL s.heap a c.toArray/\xs.length<=ϯ:=by
 obtain h|⟨o,c,n,f,g,hd,hs,i,r⟩:=h
 .let#[z,c,n,r,e]:=h.ok I.hok;show#[c,r,#[_,n,e,rfl,rfl,rfl],z]
 .show#[c.toList,r,#[o,n,I.kIn a o f,g,hd,by simpa using hs],?_];let e:=r.length;simp only[ajb]at e;omega
def Inv.tuple(I:Inv X ϵ σ H s)(h:ι X.K H a xs):∃c:List ε,Vals xs c/\IsTup s.heap a c.toArray/\xs.length<=ϯ:=by
 obtain h|⟨o,c,n,f,g,hs,i,r⟩:=h
 .let#[z,c,r,p]:=h.ok I.hok;show#[c,r,p,z]
 .show#[c.toList,r,#[o,I.kIn a o f,g,n,by simpa using hs],?_];let e:=r.length;simp only[ajb]at e;omega
def Inv.list_inj(I:Inv X ϵ σ H s)(h:η X.K H a xs)(h':η X.K H a ys):xs=ys:=by
 let#[f,r,#[o,n,e,_,_,d],_]:=I.list h;let#[its',g,#[o',j,c,_,_,d'],_]:=I.list h';rw[e]at c;cases c;rw[d]at d';injection d' with i _
 have:f=its':=by simpa using congrArg asf i
 subst this;show r.inj g
def Inv.tuple_inj(I:Inv X ϵ σ H s)(h:ι X.K H a xs)(h':ι X.K H a ys):xs=ys:=by
 let#[f,r,#[o,e,_,n,d],_]:=I.tuple h;let#[its',g,#[o',c,_,j,d'],_]:=I.tuple h';rw[e]at c;cases c;rw[d]at d';injection d' with i _
 have:f=its':=by simpa using congrArg asf i
 subst this;show r.inj g
end
def Inv.quiet{σ:St}{H:Hp}{s:μ}(I:Inv X ϵ σ H s):interactive X.env=false:=by simp[interactive,I.ok.kind]
abbrev TG:=V->St->Hp->(St->Hp->Prop)->Prop
def ajK(c:TT)(tb:TS):TS:=λD σ H=>∃W:Nat->St->Hp->Prop,(∃m,W m σ H)/\∀m σ H,W m σ H->
 c σ H λb H1=>if b=true then ∃N:St->Hp->Prop,(∀σ' H',N σ' H'->∃m',m'<m/\W m' σ' H')/\tb {D with nx:=N,ct:=N,bk:=D.nx} σ H1 else D.nx σ H1
def aaM(u:ajU (ϩ X.prog X.w) X.A X.env X.xe)(z:PT X c tc)(B:Fb X body tb):PS X (.While c body [] pos) (ajK tc tb):=by
 intro ϵ s σ H D I h;let#[W,#[E,F],turn]:=h;show wpAny_While (codeAny_whileLoop (λn s'=>∃σ' H',Inv X ϵ σ' H' s'/\W n σ' H') ?_ E #[σ,H,I,F])
 rintro n G ⟨e,H1,J,L⟩
 show ajV u (υ (z ϵ G e H1 _ J (turn n e H1 L)) λb M O=>?_);let#[H2,x,i]:=O;cases b with
 |true=>
  let#[N,y,i]:=i;rw[if_pos rfl];show ajV u (υ (B ϵ M e H2 _ x i) λf P j=>?_);cases f with
  |next=>
   let#[a,g,l,m]:=j;let#[m',p,q]:=y a g m;show#[m',p,a,g,l,q]
  |cont=>
   let#[a,g,l,m]:=j;let#[m',p,q]:=y a g m;show#[m',p,a,g,l,q]
  |brk=>show j
  |ret v=>show j
 |false=>
  rw[if_neg aaF];show wpAny_execs_nil #[e,H2,x,i]
structure It where
 go:Nat->Hp->Prop
 yld:Nat->Hp->V->Hp->Prop
 stop:Nat->Hp->Prop
def bR(X:Cx)(ϵ:List (δ×Obj))(H:Hp)(b:δ):Prop:=
 H b=none/\b≠X.env.locals/\b∉X.fs/\(b∈X.ex\/X.s₀.heap.get? b=none)/\(∀x c,X.env.cells.lookup x=some c->c≠b)/\∀p∈X.pn++ϵ,p.1≠b
def Inv.fpOk{X:Cx}{σ:St}{H H':Hp}{s:μ}{b:δ}(I:Inv X ϵ σ H s)(a:s.heap.objs.size<=b)(f:H' b=none):bR X ϵ H' b:=by
 show#[f,amA (acn I.lt a),I.nofs a,.inr (anP (ad8 I.sz a)),λx c e z=>?_,λp g z=>?_]
 .let#[v,q]:=I.cell x c e;show absurd (acn q.lt (by rw[z];show a)) (ahK _)
 .show absurd (acn (abQ (I.pin p g).1) (by rw[z];show a)) (ahK _)
structure Turn(P:Ϯ)(w:ϭ)(K:Ϩ)(tg:ϧ)(J:It)(fp:List δ)(it:δ)(tn:Nat->ϫ->Prop):Prop where
 mem:it∈fp
 obj:∀i h,tn i h->∀b∈fp,∃o,h.get? b=some o/\∀v,o.data≠.cell v
 keep:∀i h h',tn i h->(∀b∈fp,∀o,h.get? b=some o->h'.get? b=some o)->tn i h'
 item:∀(X:Cx),X.prog=P->X.w=w->X.K=K->X.calm=true->∀(i:Nat)(ϵ:List (δ×Obj))(s:μ)(σ:St)(H:Hp)(E:ε->μ->Prop),Inv X ϵ σ H s->(∀b∈fp,bR X ϵ H b)->tn i s.heap->J.go i H->
  ν (ϩ P w) X.A (pyNext (.ref it)) (λr s1=>∃u,r=some u/\
   ν (ϩ P w) X.A (letOwnedTupleGo tg (.ref it) u) (λ_ s2=>∃x H',Inv X ϵ σ H' s2/\RelV x u/\J.yld i H x H'/\tn (i+1) s2.heap/\∀b∈fp,H' b=none) E s1) E s
 done:∀(X:Cx),X.prog=P->X.w=w->X.K=K->X.calm=true->∀(i:Nat)(ϵ:List (δ×Obj))(s:μ)(σ:St)(H:Hp)(E:ε->μ->Prop),Inv X ϵ σ H s->(∀b∈fp,bR X ϵ H b)->tn i s.heap->J.stop i H->
  ν (ϩ P w) X.A (pyNext (.ref it)) (λr s1=>r=none/\Inv X ϵ σ H s1) E s
 self:∀(A:ϲ)(i:Nat)(s:μ)(Q:ε->μ->Prop)(E:ε->μ->Prop),tn i s.heap->Q (.ref it) s->ν (ϩ P w) A (pyIter (.ref it)) Q E s
abbrev TI:=St->Hp->(It->Hp->Prop)->Prop
def Ax(X:Cx)(ϵ:List (δ×Obj))(σ:St)(tg:ϧ)(R:It->Hp->Prop)(a:ε)(c:μ):Prop:=
 ∃(it:δ)(fp:List δ)(e:Nat->ϫ->Prop)(J:It)(H':Hp),a=.ref it/\Inv X ϵ σ H' c/\Turn X.prog X.w X.K tg J fp it e/\e 0 c.heap/\(∀b∈fp,bR X ϵ H' b)/\R J H'
def PI(X:Cx)(tg iter:ϧ)(a:TI):Prop:=
 ∀(ϵ:List (δ×Obj))(s:μ)(σ:St)(H:Hp)(R:It->Hp->Prop),Inv X ϵ σ H s->a σ H R->
  ν (ϩ X.prog X.w) X.A (eval iter X.env) (λv c=>ν (ϩ X.prog X.w) X.A (pyIter v) (Ax X ϵ σ tg R) X.xe c) X.xe s
def sZ(c:s.heap.get? it=some o)(e:o.cls=.type n)(hd:o.data=.fields vs)(f:["enumerate","zip","dict_itemiterator","dict_reverseitemiterator","odict_iterator","itertools.zip_longest","itertools.pairwise"].contains n=false)(a:Q PUnit.unit s):ν M A (letOwnedTupleGo tg (.ref it) u) Q E s:=by
 unfold letOwnedTupleGo;cases tg<;>first
  |show ϱ a
  |(cases u<;>first
   |show ϱ a
   |(show Ϧ (wpAny_load c ?_)
     rw[e,hd];show ν M A (if(["enumerate","zip","dict_itemiterator","dict_reverseitemiterator","odict_iterator","itertools.zip_longest","itertools.pairwise"].contains n&&vs[0]?==some (rawInt _))=true then _ else _) Q E s;rw[if_neg (by intro h;rw[f,anQ]at h;cases h)];show ϱ a))
def kW(K:Ϩ)(a:δ):It:=
 #[λi H=>∃xs x,η K H a xs/\xs[i]?=some x,λi H x H'=>H'=H/\∀xs,η K H a xs->xs[i]?=some x,λi H=>∃xs,η K H a xs/\xs.length<=i]
def qp(K:Ϩ)(a:δ):It:=
 #[λi H=>∃xs x,ι K H a xs/\xs[i]?=some x,λi H x H'=>H'=H/\∀xs,ι K H a xs->xs[i]?=some x,λi H=>∃xs,ι K H a xs/\xs.length<=i]
def lN(lo:Int)(n:Nat):It:=#[λi _=>i<n,λi H x H'=>H'=H/\x=.int (lo+i),λi _=>n<=i]
theorem aen{P:Ϯ}{w:ϭ}{K:Ϩ}{tg:ϧ}(a it:δ):Turn P w K tg (kW K a) [it] it (λi h=>h.IsListIter it a i)where
 mem:=by simp
 obj:=λi h st b f=>by
  let e:b=it:=by simpa using f
  subst e;let#[o,e,c,d]:=st;show#[o,e,λv z=>by rw[d]at z;cases z]
 keep:=λi h h' st k=>st.at λo e=>k it (by simp) o e
 item:=by
  intro X m n q O i ϵ s σ H E I j st y;subst m n q;let#[xs,x,l,B]:=y;let#[Q,D,p,R]:=I.list l;let#[u,S,T]:=D.get B;let#[F,G,U,J,L,M]:=j it (by simp);show wpAny_pyNext_list_item st p.isList (x:=u) (by simpa using S) λh' g W=>?_
  let Y:Inv X ϵ σ H {s with heap:=h'}:=I.turned (t':=s.toks) (λb o f e=>(W.2 b f).trans e) F G J L M;let#[o,e,c,d]:=id g;show#[u,rfl,sZ (s:={s with heap:=h'}) e c d (by decide) #[x,H,Y,T,#[rfl,λys Z=>by rw[I.list_inj Z l];show B],g,λb f=>(j b f).1]]
 done:=by
  intro X m n q O i ϵ s σ H E I j st y;subst m n q;let#[xs,l,B]:=y;let#[Q,D,p,R]:=I.list l;let#[F,G,U,J,L,M]:=j it (by simp);let hl:=D.length;show wpAny_pyNext_list_end (I.ok.hd O) st p.isList (by simp;omega) λh' eb=>#[rfl,I.turned (t':=s.toks) (λb o f e=>eb b o f e) F G J L M]
 self:=λ_ _ _ _ _ st h=>wpAny_pyIter_listiter st h
theorem ae4{P:Ϯ}{w:ϭ}{K:Ϩ}{tg:ϧ}(a it:δ):Turn P w K tg (qp K a) [it] it (λi h=>h.IsTupleIter it a i)where
 mem:=by simp
 obj:=λi h st b f=>by
  let e:b=it:=by simpa using f
  subst e;let#[o,e,c,d]:=st;show#[o,e,λv z=>by rw[d]at z;cases z]
 keep:=λi h h' st k=>st.at λo e=>k it (by simp) o e
 item:=by
  intro X m n q Q i ϵ s σ H E I j st y;subst m n q;let#[xs,x,l,B]:=y;let#[D,F,p,R]:=I.tuple l;let#[u,S,T]:=F.get B;let#[G,J,U,L,M,O]:=j it (by simp);show wpAny_pyNext_tuple_item st (show s.heap.IsTuple a D.toArray from p) (x:=u) (by simpa using S) λh' g W=>?_
  let Y:Inv X ϵ σ H {s with heap:=h'}:=I.turned (t':=s.toks) (λb o f e=>(W.2 b f).trans e) G J L M O;let#[o,e,c,d]:=id g;show#[u,rfl,sZ (s:={s with heap:=h'}) e c d (by decide) #[x,H,Y,T,#[rfl,λys Z=>by rw[I.tuple_inj Z l];show B],g,λb f=>(j b f).1]]
 done:=by
  intro X m n q Q i ϵ s σ H E I j st y;subst m n q;let#[xs,l,B]:=y;let#[D,F,p,R]:=I.tuple l;let#[G,J,U,L,M,O]:=j it (by simp);let hl:=F.length;show wpAny_pyNext_tuple_end (I.ok.hd Q) st (show s.heap.IsTuple a D.toArray from p) (by simp;omega) λh' eb=>#[rfl,I.turned (t':=s.toks) (λb o f e=>eb b o f e) G J L M O]
 self:=λ_ _ _ _ _ st h=>wpAny_pyIter_tupleiter st h
theorem ajt{P:Ϯ}{w:ϭ}{K:PySem.W.Frag}{tg:ϧ}(it:δ)(lo:Int)(n:Nat):Turn P w K tg (lN lo n) [it] it (λi h=>IsRangeIter h it (lo+(i:Nat)*1) ((n:Int)-(i:Nat)) 1)where
 mem:=by simp
 obj:=λi h st b a=>by
  let e:b=it:=by simpa using a
  subst e;show#[_,st,λv z=>by
   let z':Data.fields _=Data.cell v:=z;cases z']
 keep:=λi h h' st k=>k it (by simp) _ st
 item:=by
  intro X g j l m i ϵ s σ H E I f st p;subst g j l;let#[q,u,D,x,y,B]:=f it (by simp);let W:=Walks.range (prog:=X.prog) (w:=X.w) (I.ok.hd m) it lo 1 n;show W.item i s _ _ p st λv h' tk F c kk=>?_
  let#[t,rfl]:=F;let G:Inv X ϵ σ H {s with heap:=h',toks:=tk}:=I.turned (λb o a e=>kk b o (by simpa using a) e) q u x y B;show#[_,rfl,sZ (s:={s with heap:=h',toks:=tk}) (n:="range_iterator") c rfl rfl (by decide) #[.int (lo+i),H,G,#[t,?_],#[rfl,rfl],c,λb a=>(f b a).1]];rw[Int.mul_one]
 done:=by
  intro X g j l m i ϵ s σ H E I f st p;subst g j l;let#[q,u,D,x,y,B]:=f it (by simp);show wpAny_pyNext_range_end (I.ok.hd m) st (by have:n<=i:=p;omega) λh' J=>#[rfl,I.turned (t':=s.toks) (λb o a e=>J b o a e) q u x y B]
 self:=λ_ _ _ _ _ st h=>wpAny_pyIter_rangeiter st h
def akr{σ:St}{H:Hp}{s:μ}{R:It->Hp->Prop}{E:ε->μ->Prop}{lo hi:Int}{t u v:Tok}{tk:Nat}(I:Inv X ϵ σ H s)(h1: -(2^62)<=lo)(h2:lo<2^62)(c: -(2^62)<=hi)(f:hi<2^62)(q:R (lN lo (hi-lo).toNat) H):ν (ϩ X.prog X.w) X.A (pyIter (.ref s.heap.objs.size)) (Ax X ϵ σ tg R) E {s with heap:=s.heap.push {cls:=.type "range",data:=.fields #v[.int lo t,.int hi u,.int 1 v]},toks:=tk}:=by
 show wpAny_pyIter_range (IsRange.new ..) (small_one h1 h2 c f) ?_;let a:Inv X ϵ σ H {s with heap:=s.heap.push {cls:=.type "range",data:=.fields #v[.int lo t,.int hi u,.int 1 v]},toks:=tk}:=I.kept λb o e=>ϴ _ e
 show#[(s.heap.push {cls:=.type "range",data:=.fields #v[.int lo t,.int hi u,.int 1 v]}).objs.size,[(s.heap.push {cls:=.type "range",data:=.fields #v[.int lo t,.int hi u,.int 1 v]}).objs.size],_,_,H,rfl,
  a.kept (t':=tk) λb o e=>ϴ _ e,ajt _ lo (hi-lo).toNat,?_,λb g=>?_,q]
 .let e1:lo+((0:Nat):Int)*1=lo:=by simp
  let i:(((hi-lo).toNat:Nat):Int)-((0:Nat):Int)=Builtin.Range.rangeSize lo hi 1:=by rw[rangeSize_one];split <;>omega
  show IsRangeIter _ _ (lo+((0:Nat):Int)*1) ((((hi-lo).toNat:Nat):Int)-((0:Nat):Int)) 1;rw[e1,i];show aaT _ rfl
 .let e:b=(s.heap.push {cls:=.type "range",data:=.fields #v[.int lo t,.int hi u,.int 1 v]}).objs.size:=by simpa using g
  subst e;show a.fpOk (Ϭ _) (a.hok.fresh (Ϭ _))
def gU(fp:List δ)(h:ϫ):List (δ×Obj):=fp.filterMap λb=>(h.get? b).map λo=>(b,o)
theorem zX(a:b∈fp)(e:h.get? b=some o):(b,o)∈gU fp h:=ake.mpr #[b,a,by rw[e];rfl]
def abh(a:p∈gU fp h):p.1∈fp/\h.get? p.1=some p.2:=by
 let#[b,c,e]:=ake.mp a;cases q:h.get? b with
 |none=>rw[q]at e;cases e
 |some o=>
  rw[q]at e;let f:(b,o)=p:=Option.some.inj e;subst f;show#[c,q]
theorem Inv.pinned{σ:St}{H:Hp}{s:μ}(I:Inv X ϵ σ H s)(f:∀b∈fp,bR X ϵ H b)(g:∀b∈fp,∃o,s.heap.get? b=some o/\∀v,o.data≠.cell v):Inv X (ϵ++gU fp s.heap) σ H s:=
 I.pins_of λp i=>(adb.mp i).elim (λz=>I.pin p (ac6 _ z)) λz=>by
  let#[a,e]:=abh z;let#[j,l,m,_]:=f p.1 a;let#[o,c,d]:=g p.1 a;rw[e]at c;cases c;show#[e,j,l,m,d]
theorem Inv.unpinned{σ:St}{H:Hp}{s:μ}(I:Inv X (ϵ++pl) σ H s):Inv X ϵ σ H s:=I.pins_of λp a=>I.pin p (ac6 _ (ags _ a))
def ahg{K:PySem.W.Frag}{a:δ}{g:TG}{tb:TS}{D:Ends}{σ:St}{H:Hp}(c:Nat->St->Hp->Prop)(l:c 0 σ H)(hl:∀i σ H,i<=xs.length->c i σ H->η K H a xs)(hs:∀i x σ H,xs[i]?=some x->c i σ H->g x σ H λf H2=>tb {D with nx:=c (i+1),ct:=c (i+1),bk:=D.nx} f H2)(hd:∀σ H,c xs.length σ H->D.nx σ H):∃W:Nat->Nat->St->Hp->Prop,(∃m,W 0 m σ H)/\∀i m σ H,W i m σ H->
   ((kW K a).stop i H/\D.nx σ H)\/((kW K a).go i H/\∃N:St->Hp->Prop,(∀σ' H',N σ' H'->∃m',m'<m/\W (i+1) m' σ' H')/\∀x H',(kW K a).yld i H x H'->g x σ H' λf H2=>tb {D with nx:=N,ct:=N,bk:=D.nx} f H2):=by
 show#[λi m σ H=>m=xs.length-i/\i<=xs.length/\c i σ H,#[xs.length,by simp,ad5 _,l],?_]
 rintro i m σ H ⟨rfl,hi,p⟩
 let q:=hl i σ H hi p;by_cases j:i<xs.length
 .show .inr #[#[xs,xs[i],q,by simp[j]],c (i+1),λσ' H' p'=>#[xs.length-(i+1),(),rfl,j,p'],λx H' y=>?_];let#[e,y]:=y;subst e;show hs i x σ _ (y xs q) p
 .let e:i=xs.length:=()
  subst e;show .inl #[#[xs,q,Ϭ _],hd σ H p]
def amI{K:PySem.W.Frag}{a:δ}{g:TG}{tb:TS}{D:Ends}{σ:St}{H:Hp}(c:Nat->St->Hp->Prop)(l:c 0 σ H)(hl:∀i σ H,i<=xs.length->c i σ H->ι K H a xs)(hs:∀i x σ H,xs[i]?=some x->c i σ H->g x σ H λf H2=>tb {D with nx:=c (i+1),ct:=c (i+1),bk:=D.nx} f H2)(hd:∀σ H,c xs.length σ H->D.nx σ H):∃W:Nat->Nat->St->Hp->Prop,(∃m,W 0 m σ H)/\∀i m σ H,W i m σ H->
   ((qp K a).stop i H/\D.nx σ H)\/((qp K a).go i H/\∃N:St->Hp->Prop,(∀σ' H',N σ' H'->∃m',m'<m/\W (i+1) m' σ' H')/\∀x H',(qp K a).yld i H x H'->g x σ H' λf H2=>tb {D with nx:=N,ct:=N,bk:=D.nx} f H2):=by
 show#[λi m σ H=>m=xs.length-i/\i<=xs.length/\c i σ H,#[xs.length,by simp,ad5 _,l],?_]
 rintro i m σ H ⟨rfl,hi,p⟩
 let q:=hl i σ H hi p;by_cases j:i<xs.length
 .show .inr #[#[xs,xs[i],q,by simp[j]],c (i+1),λσ' H' p'=>#[xs.length-(i+1),(),rfl,j,p'],λx H' y=>?_];let#[e,y]:=y;subst e;show hs i x σ _ (y xs q) p
 .let e:i=xs.length:=()
  subst e;show .inl #[#[xs,q,Ϭ _],hd σ H p]
def abj{lo:Int}{g:TG}{tb:TS}{D:Ends}{σ:St}{H:Hp}(a:Nat->St->Hp->Prop)(j:a 0 σ H)(hs:∀i σ H,i<n->a i σ H->g (.int (lo+i)) σ H λc H2=>tb {D with nx:=a (i+1),ct:=a (i+1),bk:=D.nx} c H2)(hd:∀σ H,a n σ H->D.nx σ H):∃W:Nat->Nat->St->Hp->Prop,(∃m,W 0 m σ H)/\∀i m σ H,W i m σ H->
   ((lN lo n).stop i H/\D.nx σ H)\/((lN lo n).go i H/\∃N:St->Hp->Prop,(∀σ' H',N σ' H'->∃m',m'<m/\W (i+1) m' σ' H')/\∀x H',(lN lo n).yld i H x H'->g x σ H' λc H2=>tb {D with nx:=N,ct:=N,bk:=D.nx} c H2):=by
 show#[λi m σ H=>m=n-i/\i<=n/\a i σ H,#[n,by simp,ad5 _,j],?_]
 rintro i m σ H ⟨rfl,hi,p⟩
 by_cases f:i<n
 .show .inr #[f,a (i+1),λσ' H' p'=>#[n-(i+1),(),rfl,f,p'],λx H' y=>?_];let#[e,y]:=y;subst e y;show hs i σ _ f p
 .let e:i=n:=()
  subst e;show .inl #[Ϭ _,hd σ H p]
abbrev R2:=V->V->Hp->VK->Prop
def aV(X:Cx)(f:ε->ε->Sem ε)(r:R2):Prop:=
 ∀(ϵ:List (δ×Obj))(s:μ)(σ:St)(H:Hp)(x y:V)(v u:ε)(Q:VK),Inv X ϵ σ H s->RelV x v->RelV y u->r x y H Q->
  ν (ϩ X.prog X.w) X.A (f v u) (EP X ϵ σ Q) X.xe s
def yK(X:Cx)(f:ε->Sem ε)(r:V->Hp->VK->Prop):Prop:=
 ∀(ϵ:List (δ×Obj))(s:μ)(σ:St)(H:Hp)(x:V)(v:ε)(Q:VK),Inv X ϵ σ H s->RelV x v->r x H Q->
  ν (ϩ X.prog X.w) X.A (f v) (EP X ϵ σ Q) X.xe s
def iR(X:Cx)(f:ε)(r:List V->Hp->VK->Prop):Prop:=
 ∀(ϵ:List (δ×Obj))(s:μ)(σ:St)(H:Hp)(xs:List V)(us:List ε)(Q:VK),Inv X ϵ σ H s->Vals xs us->r xs H Q->
  ν (ϩ X.prog X.w) X.A (call f us) (EP X ϵ σ Q) X.xe s
def ag7(X:Cx)(r:V->Hp->(Bool->Hp->Prop)->Prop):Prop:=
 ∀(ϵ:List (δ×Obj))(s:μ)(σ:St)(H:Hp)(x:V)(v:ε)(Q:Bool->Hp->Prop),Inv X ϵ σ H s->RelV x v->r x H Q->
  ν (ϩ X.prog X.w) X.A (truthy v) (TP X ϵ σ Q) X.xe s
def rI(C:Int->Int->Prop)(g:Int->Int->V):R2:=λx y H Q=>∃i j,x=.int i/\y=.int j/\C i j/\Q (g i j) H
def mR(g:Int->Int->V):R2:=λx y H Q=>∃i j,x=.int i/\y=.int j/\Q (g i j) H
def rU(g:Int->V):V->Hp->VK->Prop:=λx H Q=>∃i,x=.int i/\Q (g i) H
def Jt(j:PE X a ta)(l:PE X b tb){s:μ}{σ:St}{H:Hp}{R:V->V->Hp->Prop}(I:Inv X ϵ σ H s)(h:ta σ H λx H1=>tb σ H1 λy H2=>R x y H2){Q:ε->μ->Prop}{f:ε->ε->Sem ε}(m:∀v u g x y H2,Inv X ϵ σ H2 g->RelV x v->RelV y u->R x y H2->ν (ϩ X.prog X.w) X.A (f v u) Q X.xe g):ν (ϩ X.prog X.w) X.A (eval a X.env) (λv c=>ν (ϩ X.prog X.w) X.A (eval b X.env) (λu e=>ν (ϩ X.prog X.w) X.A (f v u) Q X.xe e) X.xe c) X.xe s:=by
 show υ (j ϵ s σ H _ I h) λv n i=>?_
 let#[x,H1,p,q,z]:=i;show υ (l ϵ n σ H1 _ p z) λu g i=>?_
 let#[y,H2,B,D,E]:=i;show m v u g x y H2 B q D E
def yj{C:Int->Int->Prop}{g:Int->Int->Int}(rule:∀(i j:Int)(t u:Tok)(s:μ)(Q:ε->μ->Prop)(E:ε->μ->Prop),C i j->Q (.int (g i j) s.toks) {s with toks:=s.toks+1}->ν (ϩ X.prog X.w) X.A (f (.int i t) (.int j u)) Q E s):aV X f (rI C λi j=>.int (g i j)):=by
 intro ϵ s σ H x y v u Q I rx ry h;let#[i,j,rfl,rfl,a,q]:=h;let#[t,rfl]:=rx;let#[t',rfl]:=ry;show rule i j t t' s _ _ a #[.int (g i j),H,I.tok _,#[_,rfl],q]
def Vt{g:Int->Int->Int}(rule:∀(i j:Int)(t u:Tok)(s:μ)(Q:ε->μ->Prop)(E:ε->μ->Prop),Q (.int (g i j) s.toks) {s with toks:=s.toks+1}->ν (ϩ X.prog X.w) X.A (f (.int i t) (.int j u)) Q E s):aV X f (mR λi j=>.int (g i j)):=by
 intro ϵ s σ H x y v u Q I rx ry h;let#[i,j,rfl,rfl,q]:=h;let#[t,rfl]:=rx;let#[t',rfl]:=ry;show rule i j t t' s _ _ #[.int (g i j),H,I.tok _,#[_,rfl],q]
def Cg{g:Int->Int->Bool}(rule:∀(i j:Int)(t u:Tok)(s:μ)(Q:ε->μ->Prop)(E:ε->μ->Prop),Q (.bool (g i j)) s->ν (ϩ X.prog X.w) X.A (f (.int i t) (.int j u)) Q E s):aV X f (mR λi j=>.bl (g i j)):=by
 intro ϵ s σ H x y v u Q I rx ry h;let#[i,j,rfl,rfl,q]:=h;let#[t,rfl]:=rx;let#[t',rfl]:=ry;show rule i j t t' s _ _ #[.bl (g i j),H,I,rfl,q]
def aap(i j:Int):Prop:=0<j/\j<1073741824
def VF(i j:Int):Prop:=0<=j/\j<=1000000/\i.natAbs<2^64
def yJ(i j:Int):Prop:=(-(2^64)<i/\i<2^64)\/(-(2^64)<j/\j<2^64)
def yJ.ok(h:yJ i j):IntMulOk i j:=by
 obtain⟨h1,h2⟩|⟨h1,h2⟩:=h
 .show .of_left (intBits_le_64 h1 h2)
 .show .of_right (intBits_le_64 h1 h2)
theorem ajx:aV X (binaryOp .Add) (mR λi j=>.int (i+j)):=Vt λ_ _ _ _ _ _ _ q=>add_int q
theorem adK:aV X (binaryOp .Sub) (mR λi j=>.int (i-j)):=Vt λ_ _ _ _ _ _ _ q=>sub_int q
theorem ahH:aV X (binaryOp .Mult) (rI yJ λi j=>.int (i*j)):=yj λ_ _ _ _ _ _ _ a q=>mul_int q a.ok
theorem aiP:aV X (binaryOp .FloorDiv) (rI aap λi j=>.int (i / j)):=yj λi j _ _ _ _ _ a q=>by
 let h1:(0:Int)<j:=a.1;let h2:j<1073741824:=a.2;show floordiv_int () (by rw[Int.fdiv_eq_ediv_of_nonneg i ()];show q) (.inl (PyProof.noPylong_small ()))
theorem adJ:aV X (binaryOp .Mod) (rI (λ_ j=>0<j) λi j=>.int (i % j)):=yj λi j _ _ _ _ _ a q=>by
 let h1:(0:Int)<j:=a;show mod_int' () (by rw[Int.fmod_eq_emod_of_nonneg i ()];show q)
theorem ady:aV X (binaryOp .Pow) (rI VF λi j=>.int (i^j.toNat)):=yj λ_ _ _ _ _ _ _ a q=>pow_int_small a.1 a.2.1 a.2.2 q
def unI{g:Int->Int}(rule:∀(i:Int)(t:Tok)(s:μ)(Q:ε->μ->Prop)(E:ε->μ->Prop),Q (.int (g i) s.toks) {s with toks:=s.toks+1}->ν (ϩ X.prog X.w) X.A (f (.int i t)) Q E s):yK X f (rU λi=>.int (g i)):=by
 intro ϵ s σ H x v Q I rx h;let#[i,rfl,q]:=h;let#[t,rfl]:=rx;show rule i t s _ _ #[.int (g i),H,I.tok _,#[_,rfl],q]
theorem ak3:yK X (unaryOp .USub) (rU λi=>.int (-i)):=unI λ_ _ _ _ _ q=>neg_int q
def wL:V->V->Bool
 |.non,.non=>true|.non,.int _=>true|.int _,.non=>true|.non,.bl _=>true|.bl _,.non=>true|.non,.str _=>true|.str _,.non=>true
 |.int _,.int _=>true|.bl _,.bl _=>true|.str _,.str _=>true|.byt _,.byt _=>true
 |.int _,.str _=>true|.str _,.int _=>true|.bl _,.str _=>true|.str _,.bl _=>true
 |_,_=>false
def rEq:R2:=λx y H Q=>wL x y=true/\Q (.bl (decide (x=y))) H
def rNe:R2:=λx y H Q=>wL x y=true/\Q (.bl (!decide (x=y))) H
def aaa:decide (V.int i=V.int j)=(i==j):=by
 rw[aex];simp
def QF:decide (V.bl i=V.bl j)=(i==j):=by
 rw[aex];simp
def Z4:decide (V.str i=V.str j)=(i==j):=by
 rw[aex];simp
def NP:decide (V.byt i=V.byt j)=(i.toList==j.toList):=by
 rw[aex];cases i;cases j;simp
def aa{σ:St}{H:Hp}{s:μ}{Q:VK}{k k':Bool}(I:Inv X ϵ σ H s)(q:Q (.bl k) H)(e:k=k'):EP X ϵ σ Q (.bool k') s:=by
 subst e;show#[.bl k,H,I,rfl,q]
def adS:aV X (ada .Eq) rEq:=by
 intro ϵ s σ H x y v u Q I rx ry h;let#[hs,q]:=h;cases x with
 |non=>
  cases rx;cases y with
  |non=>cases ry;show PySem.EqNone.eq_none_none (aa I q (by simp))
  |bl j=>cases ry;show PySem.EqNone.eq_none_bool (aa I q (by simp))
  |int j=>let#[t',rfl]:=ry;show PySem.EqNone.eq_none_int (aa I q (by simp))
  |str j=>let#[t',rfl]:=ry;show PySem.EqNone.eq_none_str (aa I q (by simp))
  |_=>show absurd (show false=true from hs) aaF
 |bl i=>
  cases rx;cases y with
  |non=>cases ry;show PySem.EqNone.eq_bool_none (aa I q (by simp))
  |bl j=>cases ry;show eq_bool (aa I q QF)
  |str j=>let#[t',rfl]:=ry;show PySem.EqMixed.eq_bool_str (aa I q (by simp))
  |_=>show absurd (show false=true from hs) aaF
 |int i=>
  let#[t,rfl]:=rx;cases y with
  |non=>cases ry;show PySem.EqNone.eq_int_none (aa I q (by simp))
  |int j=>let#[t',rfl]:=ry;show eq_int (aa I q aaa)
  |str j=>let#[t',rfl]:=ry;show PySem.EqMixed.eq_int_str (aa I q (by simp))
  |_=>show absurd (show false=true from hs) aaF
 |str i=>
  let#[t,rfl]:=rx;cases y with
  |non=>cases ry;show PySem.EqNone.eq_str_none (aa I q (by simp))
  |bl j=>cases ry;show PySem.EqMixed.eq_str_bool (aa I q (by simp))
  |int j=>let#[t',rfl]:=ry;show PySem.EqMixed.eq_str_int (aa I q (by simp))
  |str j=>let#[t',rfl]:=ry;show eq_str (aa I q Z4)
  |_=>show absurd (show false=true from hs) aaF
 |byt i=>
  let#[t,rfl]:=rx;cases y with
  |byt j=>let#[t',rfl]:=ry;show W.eq_bytes (aa I q NP)
  |_=>show absurd (show false=true from hs) aaF
 |_=>cases y<;>show absurd (show false=true from hs) aaF
def ai1:aV X (ada .NotEq) rNe:=by
 intro ϵ s σ H x y v u Q I rx ry h;let#[hs,q]:=h;cases x with
 |non=>
  cases rx;cases y with
  |non=>cases ry;show PySem.EqNone.ne_none_none (aa I q (by simp))
  |bl j=>cases ry;show PySem.EqNone.ne_none_bool (aa I q (by simp))
  |int j=>let#[t',rfl]:=ry;show PySem.EqNone.ne_none_int (aa I q (by simp))
  |str j=>let#[t',rfl]:=ry;show PySem.EqNone.ne_none_str (aa I q (by simp))
  |_=>show absurd (show false=true from hs) aaF
 |bl i=>
  cases rx;cases y with
  |non=>cases ry;show PySem.EqNone.ne_bool_none (aa I q (by simp))
  |bl j=>cases ry;show ne_bool (aa I q (congrArg not QF))
  |str j=>let#[t',rfl]:=ry;show PySem.EqMixed.ne_bool_str (aa I q (by simp))
  |_=>show absurd (show false=true from hs) aaF
 |int i=>
  let#[t,rfl]:=rx;cases y with
  |non=>cases ry;show PySem.EqNone.ne_int_none (aa I q (by simp))
  |int j=>let#[t',rfl]:=ry;show ne_int (aa I q (congrArg not aaa))
  |str j=>let#[t',rfl]:=ry;show PySem.EqMixed.ne_int_str (aa I q (by simp))
  |_=>show absurd (show false=true from hs) aaF
 |str i=>
  let#[t,rfl]:=rx;cases y with
  |non=>cases ry;show PySem.EqNone.ne_str_none (aa I q (by simp))
  |bl j=>cases ry;show PySem.EqMixed.ne_str_bool (aa I q (by simp))
  |int j=>let#[t',rfl]:=ry;show PySem.EqMixed.ne_str_int (aa I q (by simp))
  |str j=>let#[t',rfl]:=ry;show ne_str (aa I q (congrArg not Z4))
  |_=>show absurd (show false=true from hs) aaF
 |byt i=>
  let#[t,rfl]:=rx;cases y with
  |byt j=>let#[t',rfl]:=ry;show W.ne_bytes (aa I q (congrArg not NP))
  |_=>show absurd (show false=true from hs) aaF
 |_=>cases y<;>show absurd (show false=true from hs) aaF
theorem ahr:aV X (ada .Lt) (mR λi j=>.bl (decide (i<j))):=Cg λ_ _ _ _ _ _ _ q=>lt_int q
theorem aaN:aV X (ada .LtE) (mR λi j=>.bl (decide (i<=j))):=Cg λ_ _ _ _ _ _ _ q=>le_int q
theorem adR:aV X (ada .Gt) (mR λi j=>.bl (decide (j<i))):=Cg λ_ _ _ _ _ _ _ q=>gt_int q
theorem air:aV X (ada .GtE) (mR λi j=>.bl (decide (j<=i))):=Cg λ_ _ _ _ _ _ _ q=>ge_int q
def aeW:aV X (ada .Lt) (λx y H Q=>∃i j,x=.str i/\y=.str j/\Q (.bl (decide (i.cps.toList<j.cps.toList))) H):=by
 intro ϵ s σ H x y v u Q I rx ry h;let#[i,j,rfl,rfl,q]:=h;let#[t,rfl]:=rx;let#[t',rfl]:=ry;show lt_str (aa I q rfl)
def alD:aV X (ada .In) (λx y H Q=>∃i j,x=.str i/\y=.str j/\Q (.bl (!(Builtin.Str.occurrences j i 0 j.length 1).isEmpty)) H):=by
 intro ϵ s σ H x y v u Q I rx ry h;let#[i,j,rfl,rfl,q]:=h;let#[t,rfl]:=rx;let#[t',rfl]:=ry;show in_str (aa I q rfl)
def abb:aV X (ada .Is) (λx y H Q=>y=.non/\Q (.bl (decide (x=.non))) H):=by
 intro ϵ s σ H x y v u Q I rx ry h;let#[rfl,q]:=h;cases ry;show is_none_gen (aa I q ?_);cases x<;>first
  |(cases rx;rfl)
  |(let#[t,rfl]:=rx;rfl)
def afM:aV X (ada .IsNot) (λx y H Q=>y=.non/\Q (.bl (!decide (x=.non))) H):=by
 intro ϵ s σ H x y v u Q I rx ry h;let#[rfl,q]:=h;cases ry;show isnot_none_gen (aa I q ?_);cases x<;>first
  |(cases rx;rfl)
  |(let#[t,rfl]:=rx;rfl)
def Nx(b:ϧ)(h:op≠ .In:=by decide)(h2:op≠ .NotIn:=by decide):behindInMarks op b=false:=by
 let e1:(op==CmpOp.In)=false:=by cases op<;>first|rfl|show absurd rfl h
 let a:(op==CmpOp.NotIn)=false:=by cases op<;>first|rfl|show absurd rfl h2
 cases b<;>simp[behindInMarks,e1,a]
def Jo(K:Ϩ)(x:V)(H:Hp)(k:Bool):Prop:=
 match x with
 |.non=>k=false
 |.bl b=>k=b
 |.int i=>k=(i !=0)
 |.str y=>y.length<=ϯ/\k=((y.length:Int) !=0)
 |.byt y=>y.size<=ϯ/\k=((y.size:Int) !=0)
 |.ref p=>(∃xs,η K H p xs/\k= !xs.isEmpty)\/(∃xs,ι K H p xs/\k= !xs.isEmpty)\/∃Ϸ,H p=some (.dK Ϸ)/\k= !Ϸ.isEmpty
 |_=>False
def alq{κ:Type}{Ϸ:List (κ×V)}{vs:List (κ×ε)}(r:KV Ϸ vs):(!vs.isEmpty)= !Ϸ.isEmpty:=by
 cases r<;>rfl
def WN{a:List ε}(r:Vals xs a):(!a.toArray.isEmpty)= !xs.isEmpty:=by
 cases r<;>simp
def rB:(ϯ:Nat)<2^63:=by rw[ϰ];decide
def acY:ag7 X (λx H Q=>∃k,Jo X.K x H k/\Q k H):=by
 intro ϵ s σ H x v Q I rx h;let#[k,e,q]:=h;let hl:=rB;let hs:ϯ=16777216:=ϰ;cases x with
 |non=>
  cases rx;let a:k=false:=e;subst a;show truthy_none #[H,I,q]
 |bl b=>
  cases rx;let a:k=b:=e;subst a;show aft #[H,I,q]
 |int i=>
  let#[t,rfl]:=rx;let a:k=(i !=0):=e;subst a;show PySem.P.truthy_int #[H,I,q]
 |str y=>
  let#[t,rfl]:=rx;obtain⟨j,a⟩:y.length<=ϯ/\k=((y.length:Int) !=0):=e;subst a;show PySem.P.truthy_str () #[H,I.tok _,q]
 |byt y=>
  let#[t,rfl]:=rx;obtain⟨j,a⟩:y.size<=ϯ/\k=((y.size:Int) !=0):=e;subst a;show W.truthy_bytes () #[H,I.tok _,q]
 |ref p=>
  cases rx;let a:(∃xs,η X.K H p xs/\k= !xs.isEmpty)\/(∃xs,ι X.K H p xs/\k= !xs.isEmpty)\/∃Ϸ,H p=some (.dK Ϸ)/\k= !Ϸ.isEmpty:=e;obtain⟨xs,f,a⟩|⟨xs,f,a⟩|⟨Ϸ,f,a⟩:=a
  .subst a;let#[l,r,pl,g]:=I.list f;let c:=r.length;show wpAny_truthy_list pl.isList (by simp only[aaR];omega) #[H,I.tok _,by rw[WN r];show q]
  .subst a;let#[l,r,pl,g]:=I.tuple f;let c:=r.length;show truthy_tuple pl (by simp only[aaR];omega) #[H,I.tok _,by rw[WN r];show q]
  .subst a;obtain⟨g,n,vs,r,m⟩:Ϸ.length<=ϯ/\(p==sysModules)=false/\∃vs,KV Ϸ vs/\s.heap.DictOf (cH X.prog X.w) p vs:=I.hok p _ f;let c:Ϸ.length=vs.length:=Paired.length r;show wpAny_truthy_dict n m () #[H,I.tok _,by rw[alq r];show q]
 |_=>show(show False from e).elim
def amM:aV X (binaryOp .Add) (λx y H Q=>∃i j,x=.str i/\y=.str j/\i.length+j.length<=ϯ/\Q (.str (i++j)) H):=by
 intro ϵ s σ H x y v u Q I rx ry h;let#[i,j,rfl,rfl,a,q]:=h;let#[t,rfl]:=rx;let#[t',rfl]:=ry;show add_str (λt' tk=>#[.str (i++j),H,I.tok _,#[_,rfl],q]) a
def vals1(r:Vals [x] us):∃u,us=[u]/\RelV x u:=by
 cases r with
 |cons a c=>cases c;show#[_,rfl,a]
def vals2(r:Vals [x,y] us):∃u w',us=[u,w']/\RelV x u/\RelV y w':=by
 cases r with
 |cons a c=>
  cases c with
  |cons e f=>cases f;show#[_,_,rfl,a,e]
def ab0(c:X.calm=true):iR X (.builtin "max") (λxs H Q=>∃i j,xs=[.int i,.int j]/\Q (.int (if j>i then j else i)) H):=by
 intro ϵ s σ H xs us Q I r h;let#[i,j,rfl,q]:=h;let#[u,e,rfl,#[t,rfl],#[t',rfl]]:=vals2 r;show max_two_ints (I.ok.hd c) λh' tk k=>#[_,H,I.kept k,?_,q]
 by_cases a:j>i
 .rw[if_pos a,if_pos a];show#[_,rfl]
 .rw[if_neg a,if_neg a];show#[_,rfl]
def alh(c:X.calm=true):iR X (.builtin "min") (λxs H Q=>∃i j,xs=[.int i,.int j]/\Q (.int (if j<i then j else i)) H):=by
 intro ϵ s σ H xs us Q I r h;let#[i,j,rfl,q]:=h;let#[u,e,rfl,#[t,rfl],#[t',rfl]]:=vals2 r;show min_two_ints (I.ok.hd c) λh' tk k=>#[_,H,I.kept k,?_,q]
 by_cases a:j<i
 .rw[if_pos a,if_pos a];show#[_,rfl]
 .rw[if_neg a,if_neg a];show#[_,rfl]
def akg:iR X (.type "int") (λxs H Q=>(∃i,xs=[.int i]/\Q (.int i) H)\/∃k,xs=[.bl k]/\Q (.int (if k then 1 else 0)) H):=by
 intro ϵ s σ H xs us Q I r h;obtain⟨i,rfl,q⟩|⟨k,rfl,q⟩:=h
 .let#[u,rfl,t,rfl]:=vals1 r;show call_int_int #[.int i,H,I,#[_,rfl],q]
 .let#[u,rfl,a]:=vals1 r;cases a;show call_int_bool #[.int (if k then 1 else 0),H,I.tok _,#[_,rfl],q]
def akx:iR X (.type "str") (λxs H Q=>∃i,xs=[.int i]/\i.natAbs.log2<1920/\Q (.str (toString i)) H):=by
 intro ϵ s σ H xs us Q I r h;let#[i,rfl,a,q]:=h;let#[u,rfl,t,rfl]:=vals1 r;show PySem.P.str_of_int a #[.str _,H,I.tok _,#[_,rfl],q]
structure oK(h:ϫ)(x dx C:δ)(mA:Str->Option ε):Prop where
 obj:h.get? x=some (apC C dx)
 ns:h.Ns1 dx mA
 ne:dx≠x
def adi{h:ϫ}{mA:Str->Option ε}(n:h.Ns1 dx mA):∃od,h.get? dx=some od/\∀name,asa name od=some (mA name):=by
 let#[o,es,ep,f,hd,g,_,i]:=n;show#[o,f,λname=>?_];let e:=i name;unfold nsFind findBy at e;rw[<-Array.find?_toList]at e;unfold asa;rw[hd];dsimp only;split
 .rename_i y q;rw[q]at e;show congrArg some e
 .rename_i q;rw[q]at e;let a:es.toList.any (·.refKey)=false:=by
   rw[List.any_eq_false];intro y j;let#[z,t,c]:=g y (Array.mem_toList_iff.mp j);simp[DictEntry.refKey,c]
  let l:¬es.toList.any (·.refKey)=true:=by rw[a];show aaF
  rw[if_neg l];show congrArg some e
theorem oK.look(I:oK h x dx C mA):∃od,W.InstAt h x (apC C dx) C (some od)/\∀name,asa name od=some (mA name):=
 let⟨od,ho,hl⟩:=adi I.ns
 #[od,#[I.obj,rfl,rfl,ho],hl]
section
variable{prog:Ϯ}{w:ϭ}{A:ϲ}{E:ε->μ->Prop}{s:μ}{K:Ϩ}{x dx C f:δ}{mA:Str->Option ε}{name:Str}{v:ε}
def get_map(X:K.In s.heap)(I:oK s.heap x dx C mA)(e:aqt K C name=true)(hh:amU K C=true)(f:aey K (.ref C) name=some none)(g:mA name=some v)(c:W.handedIn v=true)(h:Q v {s with toks:=s.toks+1}):ν (ϩ prog w) A (getAttr (.ref x) name a) Q E s:=by
 let#[od,J,hl]:=I.look;show W.get_value X J (arp e).1 (W.findObj_own hh f rfl (by rw[hl,g])) c h
def agO(X:K.In s.heap)(I:oK s.heap x dx C mA)(a:aqt K C name=true)(c:aey K (.ref C) name=some (some (.ref f)))(e:arq K (.ref f)=true)(g:mA name=none)(h:Q (.ref f,[.ref x]) s):ν (ϩ prog w) A (getMethod (.ref x) name pl) Q E s:=by
 let#[od,J,hl]:=I.look;show W.method_fn X J (arp a).1 (arp a).2 c (beq_iff_eq.mp e) (by show(asa name od).map (·.isSome)=some false;rw[hl,g];rfl) h
def ajA(X:K.In s.heap)(I:oK s.heap x dx C mA)(hs:aey K (.ref C) "__setattr__"=some (some (.builtin "object.__setattr__")))(l:aqP K C=true)(m:aqZ K C name=some none)(hh:amU K C=true)(n:PySem.Within mA ns)(hsz:ns.length<=ϯ)(h:∀h',oK h' x dx C (λy=>if y=name then some v else mA y)->aj8 dx s.heap h'->Q PUnit.unit {s with heap:=h',toks:=s.toks+2}):ν (ϩ prog w) A (setAttr (.ref x) name v) Q E s:=by
 let#[od,J,hl]:=I.look;show W.set_plain X J hs (W.osa_open (s:={s with toks:=s.toks+1}) (r:=none) X J l m λb=>?_);let#[cd,p,f]:=W.any_some hh;let q:s.heap.get? x=some #[.ref C,some dx,.plain, #v[]]:=I.obj;show Ϧ (ϱ (Ϧ (Ϧ (wpAny_loadPart q (Ϧ (W.Looks.here (s:={s with toks:=s.toks+1}) (W.looks_clsIn X p) ?_))))));rw[f];show ϱ (a:=some dx) (Ϧ (ϱ (Ϧ ?_)));show wpAny_nsSet1 (s:={s with toks:=s.toks+1}) I.ns λh' c e=>?_
 let#[B,u,z,g,i,j]:=c.count (PySem.Within.cons name v n);show Ϧ (wpAny_lookBehind g (by rw[i];show pastItsLine_dict (ad8 j (by rw[acj];omega))) ?_);show ϱ (h _ #[(e.2 _ (Ne.symm I.ne)).trans I.obj,c,I.ne] e)
def amz(X:K.In s.heap)(a:arW K C=true)(hi:aey K (.ref C) "__init__"=some (some (.ref f)))(c:ard K (.ref f)=some (.type "function"))(h:codeAny (ϩ prog w) (A.under (.builtin "type.__call__" #[.ref C::vs,kw])) (.call (.ref f) #[.ref (s.heap.objs.size+1)::vs,kw]) (W.InitBack (s.heap.objs.size+1) R)
   {s with heap:=(s.heap.push ak4).push (apC C s.heap.objs.size)}):codeAny (ϩ prog w) A (.call (.ref C) #[vs,kw]) R s:=by
 let#[hh,g,d,t,os]:=s;show W.make_core (W.makes_of X a) (W.looks_findIn X hi) (λself=>W.bind_fn X self c) (.inl rfl) h
end
def aq(f:Str)(v:V):List (Str×V)->List (Str×V)
 |[]=>[(f,v)]
 |(g,x)::r=>if g=f then(g,v)::r else(g,x)::aq f v r
theorem ZF(f g:Str)(v:V):∀fs:List (Str×V),(aq f v fs).lookup g=if g=f then some v else fs.lookup g
 |[]=>by
  show ahi g [(f,v)]=_;by_cases h:g=f
  .let a:(g==f)=true:=beq_iff_eq.mpr h;simp only[ahi,a,if_pos h]
  .let a:(g==f)=false:=beq_eq_false_iff_ne.mpr h;simp only[ahi,a,if_neg h]
 |(k,x)::r=>by
  let i:=ZF f g v r;rw[show aq f v ((k,x)::r)=(if k=f then(k,v)::r else(k,x)::aq f v r)from rfl];by_cases c:k=f
  .rw[if_pos c];by_cases h:g=k
   .let a:(g==k)=true:=beq_iff_eq.mpr h;simp only[ahi,a,if_pos (h.trans c)]
   .let a:(g==k)=false:=beq_eq_false_iff_ne.mpr h;simp only[ahi,a,if_neg (λe:g=f=>h (e.trans c.symm))]
  .rw[if_neg c];by_cases h:g=k
   .let a:(g==k)=true:=beq_iff_eq.mpr h;simp only[ahi,a,if_neg (λe:g=f=>c (h.symm.trans e))]
   .let a:(g==k)=false:=beq_eq_false_iff_ne.mpr h;simp only[ahi,a];show i
theorem Dr(f:Str)(v:V):∀fs:List (Str×V),f∈(aq f v fs).map (·.1)/\∀g,g∈fs.map (·.1)->g∈(aq f v fs).map (·.1)
 |[]=>#[by simp[aq],λg h=>by simp at h]
 |(k,x)::r=>by
  let#[c,i]:=Dr f v r;rw[show aq f v ((k,x)::r)=(if k=f then(k,v)::r else(k,x)::aq f v r)from rfl];by_cases a:k=f
  .rw[if_pos a];subst a;show#[by simp,λg h=>by simpa using h]
  .rw[if_neg a];show#[?_,λg h=>?_]
   .rw[ac2];show acr _ c
   .rw[ac2]at h⊢;obtain e|e:=ϳ.mp h
    .show ϳ.mpr (.inl e)
    .show acr _ (i g e)
theorem rW(f:Str)(v:V):∀fs:List (Str×V),(aq f v fs).length<=fs.length+1
 |[]=>by simp[aq]
 |(k,x)::r=>by
  let c:=rW f v r;rw[show aq f v ((k,x)::r)=(if k=f then(k,v)::r else(k,x)::aq f v r)from rfl];by_cases a:k=f
  .rw[if_pos a,acj,acj];omega
  .rw[if_neg a,acj,acj];omega
def cT.some_of(r:cT (some v) o):∃u,o=some u/\RelV v u:=by
 cases o with
 |none=>show(show False from r).elim
 |some u=>show#[u,rfl,r]
def cT.none_of(r:cT none o):o=none:=by
 cases o with
 |none=>rfl
 |some u=>show(show False from r).elim
def ade(r:RelV v u):W.handedIn u=true:=by
 cases v with
 |non=>cases(show u=Value.none from r);rfl
 |bl b=>cases(show u=Value.bool b from r);rfl
 |int i=>let#[t,e]:=(show ∃t,u=Value.int i t from r);cases e;rfl
 |str x=>let#[t,e]:=(show ∃t,u=Value.str x t from r);cases e;rfl
 |byt b=>let#[t,e]:=(show ∃t,u=Value.bytes b t from r);cases e;rfl
 |flt b=>let#[t,e]:=(show ∃t,u=Value.float b t from r);cases e;rfl
 |ref a=>cases(show u=Value.ref a from r);rfl
 |ty n=>cases(show u=Value.type n from r);rfl
def yC(hok:aB P w H h)(e:H a=some (.ins C dx fs)):∃mA,oK h a dx C mA/\(∀f,cT (fs.lookup f) (mA f))/\PySem.Within mA (fs.map (·.1))/\fs.length<=1000/\H dx=some (.own a):=by
 let#[d,z,ne,c,mA,n,r,q]:=(show ώ P w H h a (.ins C dx fs)from hok a _ e);show#[mA,#[c,n,ne],r,q,z,d]
structure ϛ(K:Ϩ)(C:δ):Prop where
 pg:aqt K C aq0=true
 hd:amU K C=true
 po:aqP K C=true
 sa:aey K (.ref C) "__setattr__"=some (some (.builtin "object.__setattr__"))
theorem ϛ.get{K:Ϩ}(c:ϛ K C)(f:Str):aqt K C f=true:=c.pg
def ό(K:Ϩ)(C:δ)(f:Str):Prop:=aey K (.ref C) f=some none
def ό.taker{K:Ϩ}{f:Str}(n:ό K C f):aqZ K C f=some none:=by
 unfold aqZ;rw[show aey K (.ref C) f=some none from n];rfl
structure Meth(K:Ϩ)(C:δ)(m:Str)(f:δ):Prop where
 at_:aey K (.ref C) m=some (some (.ref f))
 fn:arq K (.ref f)=true
 kp:aok K (.ref f)=true
section
variable{X:Cx}{ϵ:List (δ×Obj)}{σ:St}{H:Hp}{s:μ}{a C dx:δ}{fs:List (Str×V)}{f:Str}{v:V}{A:ϲ}{E:ε->μ->Prop}
def R9(I:Inv X ϵ σ H s)(e:H a=some (.ins C dx fs))(c:ϛ X.K C)(n:ό X.K C f)(l:fs.lookup f=some v)(h:∀u s',Inv X ϵ σ H s'->RelV v u->Q u s'):ν (ϩ X.prog X.w) A (getAttr (.ref a) f b) Q E s:=by
 let#[mA,O,r,_,_,_]:=yC I.hok e;let#[u,i,g]:=cT.some_of (v:=v) (o:=mA f) (by rw[<-l];show r f);show get_map I.kIn O (c.get f) c.hd n i (ade g) (h u _ (I.tok _) g)
def Um(I:Inv X ϵ σ H s)(e:H a=some (.ins C dx fs))(c:ϛ X.K C)(k:Meth X.K C m g)(l:fs.lookup m=none)(h:Q (.ref g,[.ref a]) s):ν (ϩ X.prog X.w) A (getMethod (.ref a) m pl) Q E s:=by
 let#[mA,O,r,_,_,_]:=yC I.hok e;let f:mA m=none:=cT.none_of (by rw[<-l];show r m);show agO I.kIn O (c.get m) k.at_ k.fn f h
def Wz(I:Inv X ϵ σ H s)(e:H a=some (.ins C dx fs))(c:ϛ X.K C)(n:ό X.K C f)(hl:fs.length<1000)(ry:RelV y u)(h:∀s',Inv X ϵ σ (upd H a (.ins C dx (aq f y fs))) s'->Q PUnit.unit s'):ν (ϩ X.prog X.w) A (setAttr (.ref a) f u) Q E s:=by
 let#[mA,O,r,j,_,l]:=yC I.hok e;let m:(fs.map (·.1)).length<=ϯ:=by rw[aaA,ϰ];omega
 show ajA I.kIn O c.sa c.po n.taker c.hd j m λh' i p=>h _ ?_
 let hd:∃o,h'.get? dx=some o:=let⟨o,_,_,e',_⟩:=i.ns;#[o,e'];show I.write (x:=a) (e:=dx) (by rw[e];show True.intro) (.inr l) (λb q v z=>(p.2 b v).trans z) hd ?_;show#[by rw[ξ O.ne];show l,?_,O.ne,i.obj,_,i.ns,λg=>?_,λg B=>?_]
 .have :=rW f y fs;omega
 .show cT ((aq f y fs).lookup g) (if g=f then some u else mA g);rw[ZF];by_cases q:g=f
  .rw[if_pos q,if_pos q];show ry
  .rw[if_neg q,if_neg q];show r g
 .by_cases q:g=f
  .rw[q];show(Dr f y fs).1
  .show(Dr f y fs).2 g (j g λz=>B ?_);show(if g=f then some u else mA g)=none;rw[if_neg q];show z
def Inv.made(I:Inv X ϵ σ H s):Inv X ϵ σ (upd (upd H s.heap.objs.size (.own (s.heap.objs.size+1))) (s.heap.objs.size+1) (.ins C s.heap.objs.size []))
  {s with heap:=(s.heap.push ak4).push (apC C s.heap.objs.size)}:=by
 let e1:(s.heap.push ak4).get? s.heap.objs.size=some ak4:=aaT s.heap rfl;let c:((s.heap.push ak4).push (apC C s.heap.objs.size)).get? (s.heap.objs.size+1)=some (apC C s.heap.objs.size):=by
  have:=aaT (s.heap.push ak4) (o:=apC C s.heap.objs.size) rfl
  rwa [aiX]at this
 let f:(s.heap.push ak4).Ns s.heap.objs.size (λ_=>none):=#[ak4, #v[],_,e1,rfl,(λe g=>absurd g (by simp)),λ_=>rfl];let i:=I.laid (a:=s.heap.objs.size) (o:=.own (s.heap.objs.size+1)) (h':=s.heap.push ak4) (t':=s.toks) (λb u q=>ϴ _ q) (Ϭ _) #[_,e1];show i.laid (a:=s.heap.objs.size+1) (o:=.ins C s.heap.objs.size []) (t':=s.toks) (λb u q=>ϴ _ q) (am2 (aiX _ _)) ?_;let ne:s.heap.objs.size≠s.heap.objs.size+1:=acE (arI _);show#[by rw[ξ ne,ς],ad5 _,ne,c,λ_=>none,(Heap.Ns1.of_empty f).at λo q=>ϴ _ q,λ_=>True.intro,λy j=>absurd rfl j]
theorem ak0(c:attributeBase e f env (eval e env)=eval e env)(h:ν (ϩ prog w) A (eval e env) (λo a=>ν (ϩ prog w) A (getAttr o f true) Q E a) E s):ν (ϩ prog w) A (eval (.Attribute e f pos) env) Q E s:=
 Attribute_any_ h (by rw[arm_eval_Attribute,c])
end
def adp(K:Ϩ)(ta tv:TE)(f:Str):TS:=λD σ H=>tv σ H λy H1=>ta σ H1 λx H2=>∃a C dx fs,x=.ref a/\H2 a=some (.ins C dx fs)/\ϛ K C/\ό K C f/\fs.length<1000/\
 D.nx σ (upd H2 a (.ins C dx (aq f y fs)))
def LK(X:Cx)(op:Operator)(rd:V->V->Hp->VK->Prop):Prop:=
 ∀(ϵ:List (δ×Obj))(s:μ)(σ:St)(H:Hp)(x y:V)(u v:ε)(Q:VK),Inv X ϵ σ H s->RelV x u->RelV y v->rd x y H Q->ν (ϩ X.prog X.w) X.A (inplaceOp op u v) (EP X ϵ σ Q) X.xe s
def acL(K:Ϩ)(ta tv:TE)(rd:V->V->Hp->VK->Prop)(f:Str):TS:=λD σ H=>ta σ H λx H1=>∃a C dx fs v,x=.ref a/\H1 a=some (.ins C dx fs)/\ϛ K C/\ό K C f/\fs.lookup f=some v/\
 tv σ H1 λy H2=>rd v y H2 λz e=>∃c fs',e a=some (.ins C c fs')/\fs'.length<1000/\D.nx σ (upd e a (.ins C c (aq f z fs')))
def aem(e:PE X o ta)(g:PE X value tv)(hs:aoD value (some (.Attribute o f pos')) pos.line X.env=pure false):PS X (.Assign [.Attribute o f pos'] value pos) (adp X.K ta tv f):=by
 intro ϵ s σ H D I h;show plainObj_wpAny_Assign_Attribute (υ (g ϵ s σ H _ I h) λu i ⟨y,H1,j,ry,q⟩=>υ (e ϵ i σ H1 _ j q) λm F p=>?_) hs;let#[x,H2,v,rx,a,C,dx,fs,ex,z,c,n,l,B]:=p;subst ex;obtain rfl:m=Value.ref a:=rx;show Wz v z c n l ry λG E=>#[σ,_,E,B]
def agW(j:PE X o ta)(m:PE X value tv)(e:LK X op rd):PS X (.AugAssign (.Attribute o f tpos) op value pos) (acL X.K ta tv rd f):=by
 intro ϵ s σ H D I h;show wpAny_AugAssign_AttributeAny (υ (j ϵ s σ H _ I h) λp W g=>?_);let#[x,H1,B,rx,a,C,dx,fs,v,ex,E,c,n,l,q]:=g;subst ex;obtain rfl:p=Value.ref a:=rx;show R9 B E c n l λu F G J=>υ (m ϵ F σ H1 _ G q) λL M ⟨y,H2,O,ry,P⟩=>υ (e ϵ M σ H2 v y u L _ O J ry P) λY Z g=>?_
 let#[z,H3,Q,R,S,fs',i,l',T]:=g;show Wz Q i c n l' R λs5 U=>#[σ,_,U,T]
def Mh:V->V->Hp->VK->Prop:=λx y H Q=>∃i j,x=.int i/\y=.int j/\Q (.int (i+j)) H
def aaV:LK X .Add Mh:=by
 rintro ϵ s σ H x y u v Q I rx ry ⟨i,j,rfl,rfl,q⟩
 let#[t,rfl]:=(show ∃t,u=Value.int i t from rx);let#[t',rfl]:=(show ∃t',v=Value.int j t' from ry);show PyProof.Rows.iadd_int #[.int (i+j),H,I.tok _,#[_,rfl],q]
section
variable{X:Cx}{ϵ:List (δ×Obj)}{σ:St}{H:Hp}{s:μ}{A:ϲ}{E:ε->μ->Prop}{Q:ε->μ->Prop}{c:ε}{b:Bool}
inductive di (K:Ϩ) (H:Hp):V->ε->Prop where
 |non:di K H .non (.type "NoneType")
 |bl (x:Bool):di K H (.bl x) (.type "bool")
 |int (i:Int):di K H (.int i) (.type "int")
 |str (x:Str):di K H (.str x) (.type "str")
 |flt (x:UInt64):di K H (.flt x) (.type "float")
 |lst {a:δ} {xs:List V} (e:H a=some (.lst xs)):di K H (.ref a) (.type "list")
 |frz {a:δ} {o:Obj} {xs:List V} (e:H a=some (.frz o (.lst xs))):di K H (.ref a) (.type "list")
 |tup {a:δ} {xs:List V} (e:H a=some (.tup xs)):di K H (.ref a) (.type "tuple")
 |dK {a:δ} {Ϸ:List (Key×V)} (e:H a=some (.dK Ϸ)):di K H (.ref a) (.type "dict")
 |dT {a:δ} {Ϸ:List (List Key×V)} (e:H a=some (.dT Ϸ)):di K H (.ref a) (.type "dict")
 |ins {a C dx:δ} {fs:List (Str×V)} (e:H a=some (.ins C dx fs)) (cl:ϛ K C) (ha:aey K (.ref C) "__class__"=some (some (.builtin "object.__class__")))
  (hn:ahm K (.builtin "object.__class__") "__get__"=some (some (.builtin "getset_descriptor.__get__"))) (htk:aq1 K (.builtin "object.__class__")=some true)
  (hm:aqv K C (.type "object")=some true):di K H (.ref a) (.ref C)
def aet(I:Inv X ϵ σ H s)(rx:RelV x u)(ty:di X.K H x t)(e:ars X.K t c=some b)(h:∀tk,Q (.bool b) {s with toks:=tk}):ν (ϩ X.prog X.w) A (call (.builtin "isinstance") [u,c]) Q E s:=by
 cases ty with
 |non=>cases(show u=Value.none from rx);show anW W.kitx_none I.kIn True.intro e (λz=>nomatch z) h
 |bl y=>cases(show u=Value.bool y from rx);show anW W.kitx_bool I.kIn True.intro e (λz=>nomatch z) h
 |int i=>let#[t,q]:=(show ∃t,u=Value.int i t from rx);cases q;show anW W.kitx_int I.kIn True.intro e (λz=>nomatch z) h
 |str y=>let#[t,q]:=(show ∃t,u=Value.str y t from rx);cases q;show anW W.kitx_str I.kIn True.intro e (λz=>nomatch z) h
 |flt y=>let#[t,q]:=(show ∃t,u=Value.float y t from rx);cases q;show anW W.kitx_float I.kIn True.intro e (λz=>nomatch z) h
 | @lst a xs f=>
   cases(show u=Value.ref a from rx);let#[_,_,n,_,h1]:=(show ώ X.prog X.w H s.heap a (.lst xs)from I.hok a _ f);show anW W.kitx_list I.kIn #[_,h1,rfl] e (λz=>nomatch z) h
 | @frz a j xs f=>
   cases(show u=Value.ref a from rx);let#[_,_,_,n,_,h1]:=(show ώ X.prog X.w H s.heap a (.frz j (.lst xs))from I.hok a _ f);show anW W.kitx_list I.kIn #[_,h1,rfl] e (λz=>nomatch z) h
 | @tup a xs f=>
   cases(show u=Value.ref a from rx);let#[_,_,_,p]:=(show ώ X.prog X.w H s.heap a (.tup xs)from I.hok a _ f);let#[o,h1,h2,_]:=p;show anW W.kitx_tuple I.kIn #[o,h1,h2] e (λz=>nomatch z) h
 | @dK a Ϸ f=>
   cases(show u=Value.ref a from rx);let#[_,_,vs,_,p]:=(show ώ X.prog X.w H s.heap a (.dK Ϸ)from I.hok a _ f);let#[o,es,ep,h1,h2,_]:=p;show anW W.kitx_dict I.kIn #[o,h1,h2.1] e (λz=>nomatch z) h
 | @dT a Ϸ f=>
   cases(show u=Value.ref a from rx);let#[_,_,xs,_,o,es,ep,h1,h2,_]:=(show ώ X.prog X.w H s.heap a (.dT Ϸ)from I.hok a _ f);show anW W.kitx_dict I.kIn #[o,h1,h2.1] e (λz=>nomatch z) h
 | @ins a C dx fs f cl l m g v=>
   cases(show u=Value.ref a from rx);let#[mA,O,_]:=yC I.hok f;let#[od,J,_]:=O.look;show anW (W.kitx_own (cl.get _) cl.hd l m g v) I.kIn J e (λz=>nomatch z) h
end
structure Ϙ(cc:Bool)(k:Nat)(A:ϲ):Prop where
 hd:cc=true->A.handled=none
 dp:A.depth+3*k+5<recursionLimit
 un:A.units+16*k+200<cLine
theorem Ϙ.mono(r:Ϙ cc k A)(h:j<=k):Ϙ cc j A:=#[r.hd,by have:=r.dp;omega,by have:=r.un;omega]
theorem Ϙ.deeper(r:Ϙ cc (k+1) A)(env:Env):Ϙ cc k (A.deeper env):=
 #[r.hd,by have:=r.dp;show A.depth+1+3*k+5<_;omega,by have:=r.un;show A.units+3+16*k+200<_;omega]
theorem Ϙ.in1(r:Ϙ cc (k+1) A):Ϙ cc k A.in1:=
 #[r.hd,by have:=r.dp;show A.depth+3*k+5<_;omega,by have:=r.un;show A.units+1+16*k+200<_;omega]
def aiS{A:ϲ}{C:δ}:(A.under (.builtin "type.__call__" #[.ref C::us,kw])).depth=A.depth+1:=by
 first|rfl|simp[Around.under,Code.weight,Code.isCreation,Code.isGuard,Code.isCaller,Code.frames,Code.isFrame,guardIds]
def abl{A:ϲ}{C:δ}:(A.under (.builtin "type.__call__" #[.ref C::us,kw])).units=A.units+1:=by
 first|rfl|simp[Around.under,Code.cUnits,Code.frames,Code.isFrame]
theorem Ϙ.make(r:Ϙ cc (k+1) A)(C:δ)(us:List ε)(kw:List (Str×ε)):Ϙ cc k (A.under (.builtin "type.__call__" #[.ref C::us,kw])):=
 #[r.hd,by have:=r.dp;rw[aiS];omega,by have:=r.un;rw[abl];omega]
def Ϙ.depth(r:Ϙ cc k A):A.depth<recursionLimit:=by have:=r.dp;omega
def Ϙ.units(r:Ϙ cc k A):A.units+64<cLine:=by have:=r.un;omega
def Ϙ.units0(r:Ϙ cc k A):A.units<cLine:=by have:=r.un;omega
abbrev Sp:=List V->Hp->VK->XK->Prop
abbrev gF:=List Env->Hp->μ->XK->ε->μ->Prop
structure pK(P:Ϯ)(w:ϭ)(K:Ϩ)(mg:Str->Option ε)(base:ϫ)(A:ϲ)(outer:List Env)(s:μ)(H:Hp):Prop where
 frames:A.frames=some outer
 mod:Mod K mg base
 bs:∀b o,base.get? b=some o->s.heap.get? b=some o/\H b=none
 bsz:base.objs.size<=s.heap.objs.size
 funs:s.heap.FunFrames base outer
 frf:∀b∈dC outer,H b=none
 hok:aB P w H s.heap
 bare:AllBare s.gens
def CE(outer:List Env)(P:Ϯ)(w:ϭ)(H:Hp)(s:μ)(Q:VK)(u:ε)(s':μ):Prop:=
 ∃v H',s'.os=s.os/\AllBare s'.gens/\Un (dC outer) [] H H' s.heap s'.heap/\aB P w H' s'.heap/\RelV v u/\Q v H'
def CR(CX:gF)(outer:List Env)(P:Ϯ)(w:ϭ)(H:Hp)(s:μ)(Q:VK)(E:XK)(r:Result)(s':μ):Prop:=
 match r with
 |.ok (.ret u)=>CE outer P w H s Q u s'
 |.ok _=>False
 |.error e=>CX outer H s E e s'
structure dM(P:Ϯ)(w:ϭ)(K:Ϩ)(mg:Str->Option ε)(base:ϫ)(CX:gF)(cc:Bool)(k:Nat)(f:δ)(fd:ahh)(ps:List Str)(sp:Sp):Prop where
 len:∀vs H Q E,sp vs H Q E->vs.length=ps.length
 run:∀(A:ϲ)(outer:List Env)(s:μ)(H:Hp)(args:Args)(us:List ε)(vs:List V)(Q:VK)(E:XK),Ϙ cc k A->pK P w K mg base A outer s H->BindsTo s fd args (ps.zip us)->Vals vs us->sp vs H Q E->
  codeAny (ϩ P w) A (.call (.ref f) args) (CR CX outer P w H s Q E) s
theorem dM.mono{P:Ϯ}{w:ϭ}{K:Ϩ}{mg:Str->Option ε}{base:ϫ}{CX:gF}{j k:Nat}{f:δ}{fd:ahh}{sp:Sp}(F:dM P w K mg base CX cc j f fd ps sp)(h:j<=k):dM P w K mg base CX cc k f fd ps sp:=#[F.len,λA outer s H a us vs Q E c=>F.run A outer s H a us vs Q E (c.mono h)]
theorem pK.make{P:Ϯ}{w:ϭ}{K:Ϩ}{mg:Str->Option ε}{base:ϫ}{A:ϲ}{s:μ}{H:Hp}(e:pK P w K mg base A outer s H)(C:δ)(us:List ε)(kw:List (Str×ε)):pK P w K mg base (A.under (.builtin "type.__call__" #[.ref C::us,kw])) outer s H:=#[by first|show e.frames|(simpa [Around.under,Code.envs,Code.isFrame,pushEnvs]using e.frames),e.mod,e.bs,e.bsz,e.funs,e.frf,e.hok,e.bare]
section
variable{X:Cx}{ϵ:List (δ×Obj)}{σ:St}{H:Hp}{s s':μ}
theorem Inv.env0(I:Inv X ϵ σ H s):pK X.prog X.w X.K X.mg X.base X.A X.stack s H:=
 #[I.ok.frames,I.ok.mod,I.bs,ad8 I.ok.bsz I.sz,I.stack,I.stkFree,I.hok,I.bare]
def Inv.after(I:Inv X ϵ σ H s)(h:CE X.stack X.prog X.w H s Q u s'):EP X ϵ σ Q u s':=by
 let#[v,H',os,bare,un,hok,r,q]:=h;let#[hh,g,d,t,a]:=s';obtain rfl:a=s.os:=os;show#[v,H',I.call (h':=hh) (g':=g) (d':=d) (t':=t) (ch:=[]) un hok bare (λb z=>absurd z (by simp)),r,q]
end
def Binds(K:Ϩ)(fd:ahh)(ps:List Str)(ds:List ε):Prop:=
 ∀(s:μ)(us:List ε),K.In s.heap->(us++ds).length=ps.length->BindsTo s fd #[us,[]] (ps.zip (us++ds))
theorem Binds.all{K:Ϩ}{fd:ahh}(h:∀us:List ε,us.length=ps.length->bindArgs fd #[us,[]]=pure (ps.zip us)):Binds K fd ps []:=λs us _ hl=>by
 rw[aoJ]at hl⊢;show .of_eq (h us hl)
structure Mk(K:Ϩ)(C f:δ):Prop where
 makes:arW K C=true
 init:aey K (.ref C) "__init__"=some (some (.ref f))
 fn:arq K (.ref f)=true
 kp:aok K (.ref C)=true
structure Ρ(N P:List Str)(sc:agV):Prop where
 kind:sc.kind=.function
 co:sc.isCoroutine=false
 gen:sc.isGenerator=false
 nd:N.Nodup
 pre:N.take P.length=P
 par:∀x∈P,sc.names.lookup x=some .local\/sc.names.lookup x=some .cell
 nofree:∀y∈sc.names,y.2≠.free
theorem R0{kindOf:Str->Option aoU}:∀{binds:List (Str×ε)}{m:Str->Option ε},(∀v,(x,v)∉binds)->bindL kindOf binds m x=m x
 |[],_,_=>rfl
 |(n,v)::r,m,h=>by
  unfold bindL;rw[R0 λw a=>h w (acr _ a)];split
  .have :x≠n:=by rintro rfl;show h v ac3
   simp[this]
  .rfl
theorem ZV{kindOf:Str->Option aoU}:∀{binds:List (Str×ε)}{m:Str->Option ε},(∀v,(x,v)∉binds)->bindC kindOf binds m x=m x
 |[],_,_=>rfl
 |(n,v)::r,m,h=>by
  unfold bindC;rw[ZV λw a=>h w (acr _ a)];split
  .rfl
  .have :x≠n:=by rintro rfl;show h v ac3
   simp[this]
theorem XH{kindOf:Str->Option aoU}:∀{P:List Str}{vs:List ε}{i:Nat}{m:Str->Option ε},P.Nodup->P[i]?=some x->vs[i]?=some v->kindOf x=some .local->
  bindL kindOf (P.zip vs) m x=some v
 |[],_,_,_,_,h,_,_=>by simp at h
 |_::_,[],_,_,_,_,h,_=>by simp at h
 |p::P,w::vs,0,m,nd,h1,h2,a=>by
  simp at h1 h2;subst h1;subst h2;show bindL kindOf ((p,w)::P.zip vs) m p=_;unfold bindL;rw[R0 λv c=>(aid.mp nd).1 (aq2 c).1,if_pos a];simp
 |p::P,w::vs,i+1,m,nd,h1,h2,a=>by
  show bindL kindOf ((p,w)::P.zip vs) m x=_;unfold bindL;show XH (i:=i) (aid.mp nd).2 (by simpa using h1) (by simpa using h2) a
theorem W5{kindOf:Str->Option aoU}:∀{P:List Str}{vs:List ε}{i:Nat}{m:Str->Option ε},P.Nodup->P[i]?=some x->vs[i]?=some v->kindOf x≠some .local->
  bindC kindOf (P.zip vs) m x=some v
 |[],_,_,_,_,h,_,_=>by simp at h
 |_::_,[],_,_,_,_,h,_=>by simp at h
 |p::P,w::vs,0,m,nd,h1,h2,a=>by
  simp at h1 h2;subst h1;subst h2;show bindC kindOf ((p,w)::P.zip vs) m p=_;unfold bindC;rw[ZV λv c=>(aid.mp nd).1 (aq2 c).1,if_neg a];simp
 |p::P,w::vs,i+1,m,nd,h1,h2,a=>by
  show bindC kindOf ((p,w)::P.zip vs) m x=_;unfold bindC;show W5 (i:=i) (aid.mp nd).2 (by simpa using h1) (by simpa using h2) a
def start(N:List Str)(vs:List V):St:=vs.map some++afw (N.length-vs.length) none
def my(cc:Bool)(CX:gF)(P:Ϯ)(w:ϭ)(K:Ϩ)(mg:Str->Option ε)(base:ϫ)(N:List Str)(qual:Str)(scope:agV)(f:δ)(cd:ε)(A:ϲ)(outer:List Env)(s:μ)(H:Hp)(E:XK):Cx where
 prog:=P
 w:=w
 K:=K
 mg:=mg
 base:=base
 A:=A.deeper (envOfC qual scope s.heap.objs.size f cd)
 N:=N
 s₀:=s
 H₀:=H
 env:=envOfC qual scope s.heap.objs.size f cd
 outer:=outer
 stack:=envOfC qual scope s.heap.objs.size f cd::outer
 ex:=[]
 calm:=cc
 fn:=λ_=>true
 pn:=[]
 xe:=λe s'=>ν (ϩ P w) (A.deeper (envOfC qual scope s.heap.objs.size f cd)) (leaving (envOfC qual scope s.heap.objs.size f cd) e) (λ_ a=>CX outer H s E e a) (λc a=>CX outer H s E c a) s'
def Mx{sc:agV}{x:Str}(h:sc.names.lookup x=some .cell):∃c,(cellsFrom n sc.names []).lookup x=some c:=by
 let q:=arJ sc.names n [] (.inl h);show aox.mp q
def aeU{CX:gF}{P:Ϯ}{w:ϭ}{K:Ϩ}{mg:Str->Option ε}{base:ϫ}{qual:Str}{scope:agV}{f:δ}{cd:ε}{A:ϲ}{s s1:μ}{H:Hp}{E:XK}(S:Ρ N ps scope)(hd:cc=true->A.handled=none)(g:pK P w K mg base A outer s H)(hl:vs.length=ps.length)(r:Vals vs us)(x:InCallC s s.heap.objs.size (bindL (envOfC qual scope s.heap.objs.size f cd).kindOf (ps.zip us) λ_=>none) (cellsFrom (s.heap.objs.size+1) scope.names []) (bindC (envOfC qual scope s.heap.objs.size f cd).kindOf (ps.zip us) λ_=>none) s1):Inv (my cc CX P w K mg base N qual scope f cd A outer s H E) [] (start N vs) H s1:=by
 let F:ps.length<=N.length:=by have:=congrArg aoo S.pre;rw[adg]at this;omega
 let#[h1,tk,rfl,B]:=x.done;let j:∀b:δ,b∉(my cc CX P w K mg base N qual scope f cd A outer s H E).ex:=λb z=>absurd (show b∈([]:List δ)from z) (by simp)
 show#[#[g.mod,S.kind,rfl,rfl,Ϭ _,λy z c h1 h2=>?_,λy hy=>?_,λy c _ h=>?_,hd,Around.frames_deeper g.frames,.inr #[rfl,rfl],λb z=>absurd z (j b),g.bs,g.bsz,λb _ _=>j b,λb z=>absurd z (j b),g.funs,g.frf],
  rfl,g.bare,Un.kept B,#[_,x.toInCall.ns,λi y v h1 h2 J=>?_],λy c h=>#[_,x.cell y c h],g.hok.fresh (Ϭ _),λy c h=>?_,λp l=>absurd (show p∈([]:List (δ×Obj))from l) (by simp),g.hok.kept B,?_]
 .show name_of_addr x.apart (PySem.mem_of_lookup h1) (PySem.mem_of_lookup h2)
 .let hy:scope.names.lookup y=some .cell\/scope.names.lookup y=some .free:=hy;obtain hy|hy:=hy
  .show Mx hy
  .show absurd rfl (S.nofree _ (PySem.mem_of_lookup hy))
 .show apD (x.above y c (PySem.mem_of_lookup h))
 .let hi:i<vs.length:=by
   unfold start at h2;by_cases hi:i<vs.length
   .show hi
   .rw[anI (by simpa using hi)]at h2;rw[List.getElem?_replicate]at h2;split at h2<;>cases h2
  let G:vs[i]?=some v:=by
   unfold start at h2;rw[akG (by simpa using hi),abI]at h2;cases e:vs[i]? with
   |none=>rw[e]at h2;cases h2
   |some a=>rw[e]at h2;cases h2;rfl
  let#[u,D,I]:=r.get G;let l:ps[i]?=some y:=by
   rw[<-S.pre,List.getElem?_take_of_lt ()];show h1
  let m:ps.Nodup:=by rw[<-S.pre];show S.nd.sublist (List.take_sublist _ _)
  show#[u,I,?_];rcases S.par y (aaD l)with k|k
  .show .inl #[k,XH m l D k]
  .let#[c,e]:=Mx (n:=s.heap.objs.size+1) k;show .inr #[.inl k,c,e,?_];let q:=x.cell y c e;rw[W5 m l D (by show scope.names.lookup y≠_;rw[k];decide)]at q;show q
 .show g.hok.fresh (apD (x.above y c (PySem.mem_of_lookup h)))
 .unfold start;show _=N.length;rw[abo,aaA,apL];omega
def Xo{CX:gF}{P:Ϯ}{w:ϭ}{K:Ϩ}{mg:Str->Option ε}{base:ϫ}{k:Nat}{f:δ}{name qual:Str}{a:Arguments}{scope:agV}{dV kV j pm c ct oc:ε}{an od:Option δ}{p:Array (Option ε)}{sp:Sp}(lk:K.lookup f=some #[oc,od,.func (art name qual a body scope dV kV j pm an c ct),p])(z:aqQ K c qual=true)(S:Ρ N ps scope)(len:∀vs H Q E,sp vs H Q E->vs.length=ps.length)(g:∀(A:ϲ)(outer:List Env)(s:μ)(H:Hp)(vs:List V)(Q:VK)(E:XK),Ϙ cc k (A.deeper (envOfC qual scope s.heap.objs.size f c))->sp vs H Q E->
   ∃t,Fb (my cc CX P w K mg base N qual scope f c A outer s H E) body t/\t {nx:=λ_ H'=>Q .non H',rt:=Q} (start N vs) H):dM P w K mg base CX cc (k+1) f (art name qual a body scope dV kV j pm an c ct) ps sp:=by
 show#[len,λA outer s H G us vs Q E B l M r m=>?_];let hl:=len _ _ _ _ m;let L:K.In s.heap:=l.mod.kin.keeps λb o e=>(l.bs b o e).1
 let D:s.heap.NoLimit:=l.mod.nolimit.keeps λb o e=>(l.bs b o e).1
 let i:∀y∈ps.zip us,scope.names.lookup y.1=some .local\/(scope.names.lookup y.1=some .cell/\((cellsFrom (s.heap.objs.size+1) scope.names []).lookup y.1).isSome=true):=λ⟨n,v⟩ O=>by
  obtain q|q:=S.par n (aq2 O).1
  .show .inl q
  .show .inr #[q,arJ _ _ _ (.inl q)]
 show codeAny_call_function B.depth (L _ _ lk) rfl S.co S.gen rfl (W.codeRec_of L z) (M _ _ _ _ ?_);show wpAny_newFunctionEnv_cells S.kind i λenv R s1 x=>?_
 subst R;show#[D.keeps x.toInCall.keep,codeAny_func ?_];let#[t,T,U]:=g A outer s H vs Q E (B.deeper _) m;let I:Inv (my cc CX P w K mg base N qual scope f c A outer s H E) [] (start N vs) H s1:=aeU S B.hd l hl r x;show adt (T [] s1 (start N vs) H _ I U) (λX s' hs=>?_) λe s' hs=>hs
 let fin:∀{σ':St}{H':Hp}{v:V}{u:ε},Inv (my cc CX P w K mg base N qual scope f c A outer s H E) [] σ' H' s'->RelV v u->Q v H'->CE outer P w H s Q u s':=
  λ{σ' H' v u} J F q=>#[v,H',J.os,J.bare,J.base,J.hok,F,q]
 cases X with
 |ret u=>
  let#[v,σ',H',J,F,q]:=hs;show fin J F q
 |next=>
  let#[σ',H',J,q]:=hs;show fin (v:=V.non) (u:=Value.none) J rfl q
 |brk=>
  let#[_,_,_,q]:=hs;show False.elim q
 |cont=>
  let#[_,_,_,q]:=hs;show False.elim q
end _L
namespace _H
open PySem PyProof.Rows
section
open PySem.SeqAt
open PySem.AutoSeq1 (wpAny_loadPart')
open PySem.MeetsSeq PySem.MeetsSeq2 PySem.MeetsSeq3
end
def adV(u:IsTup s.heap t vs.toArray)(v:IsTup s.heap b ws.toArray)(m:vs≠[])(h1:ws=[]->Q (.ref t) s)(h2:ws≠[]->Q (.ref s.heap.objs.size) {s with heap:=s.heap.push {cls:=.type "tuple",data:=.seq (vs++ws).toArray}})(hsz:vs.length+ws.length<=ϯ):ν (ϩ prog w) A (binaryOp .Add (.ref t) (.ref b)) Q E s:=by
 let#[#[cls,dd,data,sl],j,p,n,hd]:=id u;let#[#[q,c,data2,f],a,g,n2,i]:=id v;simp only at p hd g i;subst p hd g i;let e:vs.toArray++ws.toArray=(vs++ws).toArray:=by simp
 by_cases l:ws=[]
 .show concat_meets #[_,j,rfl] #[_,a,rfl] noFill_tuple_add seq_tuple_add PySem.F.slot_tuple_add PySem.F.entry_tuple_add (PySem.F.args_tuple_add_2 _ _)
   (tuple_addW1 t b vs.toArray ws.toArray n n2 dd c sl f (by simpa using m) (by simp[l])) #[j,a,h1 l]
 .show concat_meets #[_,j,rfl] #[_,a,rfl] noFill_tuple_add seq_tuple_add PySem.F.slot_tuple_add PySem.F.entry_tuple_add (PySem.F.args_tuple_add_2 _ _)
   (tuple_addW2 t b vs.toArray ws.toArray n n2 dd c sl f (by simpa using m) (by simpa using l) (by rw[aaR,aaR];show hsz)) #[j,a,?_]
  rw[e];show h2 l
def Ζ(n d:Nat):Option Int->Nat
 |none=>d
 |some v=>if v<0 then(v+(n:Int)).toNat else min v.toNat n
theorem qF(n d:Nat):Ζ n d none=d:=rfl
def lC(n d k:Nat):Ζ n d (some (k:Int))=min k n:=by
 show(if(k:Int)<0 then((k:Int)+(n:Int)).toNat else min (k:Int).toNat n)=min k n;rw[if_neg (),apa]
def Hu(n d:Nat)(hd:d<=n)(o:Option Int):Ζ n d o<=n:=by
 cases o with
 |none=>show hd
 |some v=>
  show(if v<0 then(v+(n:Int)).toNat else min v.toNat n)<=n;by_cases a:v<0
  .rw[if_pos a];omega
  .rw[if_neg a];show aom _ _
def J3(v:Int)(n d:Nat):(if v<0 then max (v+(n:Int)) 0 else min v (n:Int))=((Ζ n d (some v):Nat):Int):=by
 show(if v<0 then max (v+(n:Int)) 0 else min v (n:Int))=(((if v<0 then(v+(n:Int)).toNat else min v.toNat n):Nat):Int);by_cases a:v<0
 .simp only[if_pos a];omega
 .simp only[if_neg a];omega
def alZ(lo hi:Option Int)(n:Nat):Builtin.Slice.sliceAdjust lo hi 1 (n:Int)=(((Ζ n 0 lo:Nat):Int),((Ζ n n hi:Nat):Int)):=by
 let h1:¬((1:Int)<0):=()
 unfold Builtin.Slice.sliceAdjust;simp only[h1,if_false];show Prod.ext ?_ ?_
 .cases lo with
  |none=>rfl
  |some v=>show J3 v n 0
 .cases hi with
  |none=>rfl
  |some v=>show J3 v n n
def akv(i j:Nat):Builtin.Slice.slicePlaces (i:Int) (j:Int) 1=j-i:=by
 unfold Builtin.Slice.slicePlaces;let h1:(1:Int)>0:=()
 simp only[h1,if_true,Int.ediv_one];split <;>omega
def NQ(p:IsPart v o)(h:Q o s):ν (ϩ prog w) A (Builtin.Slice.slicePartIndex v) Q E s:=by
 cases p with
 |none=>show slicePart_none h
 |int i t=>show slicePart_int h
def alb{e f:ε}{lo hi:Option Int}{n:Nat}{Q:Int×Int×Nat->μ->Prop}(hs:s.heap.IsSliceOf sl e f .none)(pl:IsPart e lo)(g:IsPart f hi)(h:Q (((Ζ n 0 lo:Nat):Int),1,Ζ n n hi- Ζ n 0 lo) s):ν (ϩ prog w) A (Builtin.Slice.sliceApplied (.ref sl) (pure (n:Int))) Q E s:=by
 let#[os,a,i,c]:=id hs;unfold Builtin.Slice.sliceApplied Builtin.Slice.sliceFields;show Ϧ (Ϧ (afv a c (x:=e) rfl (Ϧ (afv a c (x:=f) rfl (Ϧ (afv a c (x:=.none) rfl (ϱ ?_)))))));show Ϧ (slicePart_none ?_);show ν _ _ (if((1:Int)==0)=true then _ else _) _ _ s;rw[if_neg (by decide)];show Ϧ (NQ pl (Ϧ (NQ g (Ϧ (ϱ ?_)))));show ν _ _ (match Builtin.Slice.sliceAdjust lo hi 1 (n:Int)with|(lo,hi)=>pure (lo,(1:Int),Builtin.Slice.slicePlaces lo hi 1)) _ _ s;rw[alZ lo hi n];show ν _ _ (pure (((Ζ n 0 lo:Nat):Int),(1:Int),Builtin.Slice.slicePlaces ((Ζ n 0 lo:Nat):Int) ((Ζ n n hi:Nat):Int) 1)) _ _ s;rw[akv];show ϱ h
def ahY(xs:Array ε)(i k:Nat):((acR k).filterMap λ(m:Nat)=>xs[((i:Int)+(m:Int)*1).toNat]?).toArray=((xs.toList.drop i).take k).toArray:=by
 let e:(λ(m:Nat)=>xs[((i:Int)+(m:Int)*1).toNat]?)=λm=>xs[i+m]? :=by
  funext m;have:((i:Int)+(m:Int)*1).toNat=i+m:=()
  rw[this]
 rw[e];have:=pick_run xs i k;rw[List.filterMap_map]at this;let a:((λx=>xs[x]?)∘λx=>i+x)=λm=>xs[i+m]? :=rfl
 rw[a]at this;rw[this]
def acy{a:Array ε}{l n:ε}{lo hi:Option Int}{Q:ε->μ->Prop}(e:IsTup s.heap t a)(hs:s.heap.IsSliceOf sl l n .none)(pl:IsPart l lo)(p:IsPart n hi)(u:¬(Ζ a.size 0 lo=0/\ Ζ a.size a.size hi=a.size))(h:Q (.ref s.heap.objs.size) {s with heap:=s.heap.push {cls:=.type "tuple",data:=.seq ((a.toList.drop (Ζ a.size 0 lo)).take (Ζ a.size a.size hi- Ζ a.size 0 lo)).toArray}})(hsz:a.size<=ϯ):ν (ϩ prog w) A (getItem (.ref t) (.ref sl)) Q E s:=by
 let c:sizeOk (.seq ((a.toList.drop (Ζ a.size 0 lo)).take (Ζ a.size a.size hi- Ζ a.size 0 lo)).toArray):=by
  show((a.toList.drop (Ζ a.size 0 lo)).take (Ζ a.size a.size hi- Ζ a.size 0 lo)).toArray.size<=ϯ;rw[aaR,adg,adh,ajb];omega
 let x:Ζ a.size a.size hi<=a.size:=Hu _ _ (Ϭ _) hi;let#[os,f,g,v]:=id hs;let i:s.TypeIs (.ref sl) "slice":=#[os,f,g];unfold getItem
 try with_reducible show ag9 ?_
 first|show Ϧ (ϱ ?_)|skip
 show Ϧ (wpAny_sequenceKey e.typeIs (by decide) ?_);show Ϧ (aoI (name:=Ϫ "__getitem__") e.typeIs PyProof.Rows.slot_tuple_getitem
  (wpAny_call_entry PyProof.Rows.slot_tuple_getitem e.typeIs entry_tuple_getitem ?_ (args_tuple_getitem _ _)))
 show ν _ _ (Builtin.Tuple.tupleItemsOf (.ref t)>>=_) _ _ s;show Ϧ (tupleItemsOf_ e ?_);show Ϧ (wpAny_typeOf i ?_);rw[if_pos (by decide)];show Ϧ (alb hs pl p ?_);let j:¬((((Ζ a.size 0 lo:Nat):Int)==0&&(1:Int)==1&&(Ζ a.size a.size hi- Ζ a.size 0 lo)==a.size)=true):=by
  intro q;rw[aaO,aaO]at q;let y:((Ζ a.size 0 lo:Nat):Int)=0:=eq_of_beq q.1.1;let z:Ζ a.size a.size hi- Ζ a.size 0 lo=a.size:=eq_of_beq q.2;show u #[(),()]
 show ν _ _ (if(((Ζ a.size 0 lo:Nat):Int)==0&&(1:Int)==1&&(Ζ a.size a.size hi- Ζ a.size 0 lo)==a.size)=true then _ else _) _ _ s;rw[if_neg j,ahY]
 first
  |show Ϧ (m:=Builtin.Tuple.tupleExact _) (aiN (ϱ #[_,rfl,ϱ h]) c)
  |show Ϧ (m:=Builtin.Tuple.tupleExact _) (aiN (Ϧ (ϱ (ϱ #[_,rfl,ϱ h]))) c)
  |show Ϧ (Ϧ (m:=Builtin.Tuple.tupleExact _) (aiN (ϱ (ϱ #[_,rfl,ϱ h])) c))
  |show Ϧ (Ϧ (m:=Builtin.Tuple.tupleExact _) (aiN (ϱ #[_,rfl,ϱ h]) c))
end _H
namespace _L
open PySem PySem.Spec PyProof.Rows
abbrev TO:=St->Hp->(Option Int->Hp->Prop)->Prop
def PO(X:Cx)(e:Option ϧ)(t:TO):Prop:=
 ∀(ϵ:List (δ×Obj))(s:μ)(σ:St)(H:Hp)(Q:Option Int->Hp->Prop),Inv X ϵ σ H s->t σ H Q->
  ν (ϩ X.prog X.w) X.A (evalPart e X.env) (λu s'=>∃o H',Inv X ϵ σ H' s'/\IsPart u o/\Q o H') X.xe s
def ajT:TO:=λ_ H Q=>Q none H
def ab2(t:TE):TO:=λσ H Q=>t σ H λx H1=>∃i,x=.int i/\Q (some i) H1
def acV:PO X none ajT:=by
 intro ϵ s σ H Q I h;rw[evalPart_none];show ϱ #[none,H,I,.none,h]
def adm(h:PE X e te):PO X (some e) (ab2 te):=by
 intro ϵ s σ H Q I a;rw[evalPart_some];show υ (h ϵ s σ H _ I a) λu l c=>?_
 let#[x,H1,f,g,j]:=c;let#[i,rfl,q]:=j;let#[t,rfl]:=g;show#[some i,H1,f,.int i t,q]
def vX(X:Cx)(r:V->Option Int->Option Int->Hp->VK->Prop):Prop:=
 ∀(ϵ:List (δ×Obj))(s:μ)(σ:St)(H:Hp)(x:V)(v a c:ε)(lo hi:Option Int)(sl:δ)(Q:VK),Inv X ϵ σ H s->RelV x v->s.heap.IsSliceOf sl a c .none->IsPart a lo->IsPart c hi->r x lo hi H Q->
  ∃T id,typeLookup (.type T) "__getitem__"=pure (some (.builtin id))/\s.TypeIs v T/\ν (ϩ X.prog X.w) X.A (getItem v (.ref sl)) (EP X ϵ σ Q) X.xe s
def cN(xs:List V)(lo hi:Option Int):List V:=(xs.drop (_H.Ζ xs.length 0 lo)).take (_H.Ζ xs.length xs.length hi-_H.Ζ xs.length 0 lo)
def Rx(xs:List V)(lo hi:Option Int):(cN xs lo hi).length<=xs.length:=by
 unfold cN;rw[adg,adh];omega
def amg(K:Ϩ):V->Option Int->Option Int->Hp->VK->Prop:=λx lo hi H Q=>∃a xs,x=.ref a/\ι K H a xs/\
 ¬(_H.Ζ xs.length 0 lo=0/\_H.Ζ xs.length xs.length hi=xs.length)/\∀p,H p=none->Q (.ref p) (upd H p (.tup (cN xs lo hi)))
def ah5:vX X (amg X.K):=by
 intro ϵ s σ H x v m n lo hi sl Q I rx hs pl g h;let#[a,xs,rfl,i,j,q]:=h;cases rx;let#[l,r,e,f]:=I.tuple i;let c:l.toArray.size=xs.length:=by rw[aaR];show r.length.symm
 show#["tuple",_,PyProof.Rows.slot_tuple_getitem.lookup,e.typeIs,?_];show _H.acy e hs pl g (by rw[c];show j) ?_ (by rw[c];show f);rw[c];show#[.ref s.heap.objs.size,_,I.laid (t':=s.toks) (o:=.tup (cN xs lo hi)) (λb p q=>ϴ _ q) (Ϭ _) ?_,rfl,q _ (I.hok.fresh (Ϭ _))];show#[ad8 (Rx xs lo hi) f,_,(r.drop (_H.Ζ xs.length 0 lo)).take (_H.Ζ xs.length xs.length hi-_H.Ζ xs.length 0 lo),IsTup.new _ _]
def aef(K:Ϩ):R2:=λx y H Q=>∃a b xs ys,x=.ref a/\y=.ref b/\ι K H a xs/\ι K H b ys/\xs≠[]/\xs.length+ys.length<=ϯ/\
 (ys=[]->Q (.ref a) H)/\(ys≠[]->∀p,H p=none->Q (.ref p) (upd H p (.tup (xs++ys))))
def Vals.nil_iff(r:Vals xs us):us=[]↔xs=[]:=by
 cases r with
 |nil=>simp
 |cons _ _=>simp
def adX:aV X (binaryOp .Add) (aef X.K):=by
 intro ϵ s σ H x y v u Q I rx ry h;let#[a,b,xs,ys,rfl,rfl,i,j,l,f,m,n]:=h;cases rx;cases ry;let#[p,e,p1,_]:=I.tuple i;let#[g,c,p2,_]:=I.tuple j;show _H.adV p1 p2 (λz=>l (e.nil_iff.mp z)) (λz=>#[.ref a,H,I,rfl,m (c.nil_iff.mp z)]) (λz=>?_) (by rw[<-e.length, <-c.length];show f);show#[.ref s.heap.objs.size,_,I.laid (t':=s.toks) (o:=.tup (xs++ys)) (λb B q=>ϴ _ q) (Ϭ _) ?_,rfl,n (λw=>z (c.nil_iff.mpr w)) _ (I.hok.fresh (Ϭ _))];show#[by rw[abo];show f,_,e.append c,IsTup.new _ _]
def oV(n:Nat)(i:Int):Option Nat:=if 0<=i then(if i<n then some i.toNat else none)else if -(n:Int)<=i then some (i+n).toNat else none
def Θ{α:Type}(xs:List α)(i:Int):Option α:=(oV xs.length i).bind λj=>xs[j]?
def aiq(h:oV n i=some j):seqIndex? i n=some j/\j<n/\ -(n:Int)<=i/\i<n:=by
 unfold oV at h;by_cases a:0<=i
 .rw[if_pos a]at h;by_cases h1:i<n
  .rw[if_pos h1]at h;let e:i.toNat=j:=Option.some.inj h;show#[by rw[seqIndex_of a h1,e],(),(),h1]
  .rw[if_neg h1]at h;cases h
 .rw[if_neg a]at h;by_cases h1: -(n:Int)<=i
  .rw[if_pos h1]at h;let e:(i+n).toNat=j:=Option.some.inj h;show#[by rw[seqIndex_neg () h1,e],(),h1,()]
  .rw[if_neg h1]at h;cases h
def FJ{α:Type}{xs:List α}{v:α}(h:Θ xs i=some v):∃j,seqIndex? i xs.length=some j/\xs[j]?=some v/\j<xs.length/\ -(xs.length:Int)<=i/\i<xs.length:=by
 unfold Θ at h;cases e:oV xs.length i with
 |none=>rw[e]at h;cases h
 |some j=>
  rw[e]at h;let#[h1,h2,a,c]:=aiq e;show#[j,h1,h,h2,a,c]
def ϒ{α:Type}{xs:List α}{j:Nat}{v:α}(h:xs[j]?=some v):Θ xs (j:Int)=some v:=by
 let a:j<xs.length:=(aat.mp h).1;let e:oV xs.length (j:Int)=some j:=by
  unfold oV;rw[if_pos (),if_pos ()];simp
 unfold Θ;rw[e];show h
def aja(b:ϧ):=∀o i,subscripted b false o i=operate [o,i] (getItem o i)
def qX(X:Cx)(r:R2):Prop:=
 ∀(value a:ϧ)(ϵ:List (δ×Obj))(s:μ)(σ:St)(H:Hp)(x y:V)(v u:ε)(Q:VK),Inv X ϵ σ H s->RelV x v->RelV y u->r x y H Q->
  subscripted a false v u=operate [v,u] (getItem v u)->ν (ϩ X.prog X.w) X.A (subscriptTail value a v u) (EP X ϵ σ Q) X.xe s
def Jk(X:Cx)(id:String)(r:V->List V->Hp->VK->Prop):Prop:=
 ∀(ϵ:List (δ×Obj))(s:μ)(σ:St)(H:Hp)(x:V)(xs:List V)(v:ε)(us:List ε)(Q:VK),Inv X ϵ σ H s->RelV x v->Vals xs us->r x xs H Q->
  ν (ϩ X.prog X.w) X.A (call (.builtin id) (v::us)) (EP X ϵ σ Q) X.xe s
def Yg(K:Ϩ):R2:=λx y H Q=>∃p xs i v,x=.ref p/\y=.int i/\η K H p xs/\ Θ xs i=some v/\Q v H
def Xx(K:Ϩ):R2:=λx y H Q=>∃p xs i v,x=.ref p/\y=.int i/\ι K H p xs/\ Θ xs i=some v/\Q v H
def Mr:R2:=λx y H Q=>∃z i c,x=.str z/\y=.int i/\z.length<=ϯ/\ Θ z.cps.toList i=some c/\Q (.str #[#v[c]]) H
def abr:qX X (Yg X.K):=by
 intro value a ϵ s σ H x y v u Q I rx ry h hs;let#[p,xs,i,z,rfl,rfl,l,m,q]:=h;cases rx;let#[t,rfl]:=ry;let#[n,r,pl,E]:=I.list l;let#[j,h1,h2,F,B,D]:=FJ m;let#[w,f,c]:=r.get h2;let hl:=r.length;let G:=rB;let fin:EP X ϵ σ Q w s:=#[z,H,I,c,q];by_cases g:0<=i
 .let e:i.toNat=j:=by
   rw[seqIndex_of g D]at h1;show Option.some.inj h1
  show item_listR pl.isList g () (by rw[e];simpa using f) fin hs
 .let e:(i+(n.toArray.size:Int)).toNat=j:=by
   rw[seqIndex_neg () B]at h1;rw[aaR, <-hl];show Option.some.inj h1
  show subscriptTail_builtinR (x:=w) pl.isList.typeIs slot_list_getitem.lookup
   (wpAny_getItem_list_neg (Q:=λr s'=>r=w/\EP X ϵ σ Q r s') pl.isList () (by rw[aaR]<;>omega) () (by rw[e];simpa using f) #[rfl,fin]) hs
def aaP:qX X (Xx X.K):=by
 intro value a ϵ s σ H x y v u Q I rx ry h hs;let#[p,xs,i,z,rfl,rfl,e,f,q]:=h;cases rx;let#[t,rfl]:=ry;let#[l,r,pl,m]:=I.tuple e;let#[j,h1,h2,n,B,D]:=FJ f;let#[w,g,c]:=r.get h2;let hl:=r.length;let E:=rB;let fin:EP X ϵ σ Q w s:=#[z,H,I,c,q];show subscriptTail_builtinR (x:=w) pl.typeIs slot_tuple_getitem.lookup
  (getItem_tuple (j:=j) (Q:=λr s'=>r=w/\EP X ϵ σ Q r s') pl () () (by rw[aaR, <-hl];show h1) (by simpa using g) #[rfl,fin]) hs
def acA:qX X Mr:=by
 intro value a ϵ s σ H x y v u Q I rx ry h hs;let#[z,i,c,rfl,rfl,m,e,q]:=h;let#[t,rfl]:=rx;let#[t',rfl]:=ry;let#[j,h1,h2,n,f,g]:=FJ e;let hl:z.cps.toList.length=z.length:=by simp[aqH]
 rw[hl]at h1 f g;let p:=rB;show tail_any (typeIs_str s z t) slot_str_getitem.lookup (getItem_str (c:=c) (by
  let e1:decide (i< -(2^63:Int))=false:=decide_eq_false ();let l:decide (i≥2^63)=false:=decide_eq_false ();rw[e1,l,aqs]) (by rw[h1];simpa using h2) #[.str #[#v[c]],H,I.tok _,#[_,rfl],q]) hs
def aeC(lo hi:Option Int)(n:Nat):(sliceBounds lo hi none n).1=((_H.Ζ n 0 lo:Nat):Int)/\(sliceBounds lo hi none n).2.1=((_H.Ζ n n hi:Nat):Int)/\(sliceBounds lo hi none n).2.2=1:=by
 show#[?_,?_,rfl]
 .cases lo with
  |none=>simp[sliceBounds,_H.Ζ]
  |some i=>
   simp only[sliceBounds,_H.Ζ,arK,show(1:Int)>0 by decide,if_true];by_cases h:i<0
   .simp only[h,if_true]<;>omega
   .simp only[h,if_false]<;>omega
 .cases hi with
  |none=>simp[sliceBounds,_H.Ζ]
  |some i=>
   simp only[sliceBounds,_H.Ζ,arK,show(1:Int)>0 by decide,if_true];by_cases h:i<0
   .simp only[h,if_true]<;>omega
   .simp only[h,if_false]<;>omega
def abZ(a:List ε)(lo hi:Option Int):slicePick a.toArray lo hi none=((a.drop (_H.Ζ a.length 0 lo)).take (_H.Ζ a.length a.length hi-_H.Ζ a.length 0 lo)).toArray:=by
 let#[h1,h2,c]:=aeC lo hi a.toArray.size;unfold slicePick;rw[h1,h2,c];simp only[sliceRange_one,pick_run,aaR]<;>rfl
def abH(K:Ϩ):V->Option Int->Option Int->Hp->VK->Prop:=λx lo hi H Q=>∃a xs,x=.ref a/\η K H a xs/\∀p,H p=none->Q (.ref p) (upd H p (.lst (cN xs lo hi)))
def abG:vX X (abH X.K):=by
 intro ϵ s σ H x v j l lo hi sl Q I rx hs pl f h;let#[a,xs,rfl,g,q]:=h;cases rx;let#[m,r,e,i]:=I.list g;let c:=r.length;show#["list",_,slot_list_getitem.lookup,e.isList.typeIs,?_];show wpAny_getItem_list_slice e.isList hs pl f .none (by simp) ?_ (by rw[aaR]<;>omega);rw[abZ, <-c];show#[.ref s.heap.objs.size,_,I.laid (t':=s.toks) (o:=.lst (cN xs lo hi)) (λb n q=>ϴ _ q) (Ϭ _) ?_,rfl,q _ (I.hok.fresh (Ϭ _))];show#[ad8 (Rx xs lo hi) i,_,0,(r.drop (_H.Ζ xs.length 0 lo)).take (_H.Ζ xs.length xs.length hi-_H.Ζ xs.length 0 lo),aaT _ rfl]
def gW:V->Bool
 |.non=>true
 |.bl _=>true
 |.int _=>true
 |.str _=>true
 |_=>false
def gh:V->V->Bool
 |.non,.non=>true
 |.bl a,.bl b=>a==b
 |.bl a,.int b=>(if a then 1 else 0)==b
 |.int a,.bl b=>a==(if b then 1 else 0)
 |.int a,.int b=>a==b
 |.str a,.str b=>a==b
 |_,_=>false
def abu(ry:RelV y u)(rx:RelV x v)(e:gW y=true)(c:gW x=true):SeqAt.EqAt A s u v (gh y x):=by
 cases y with
 |non=>
  cases ry;cases x with
  |non=>cases rx;show SeqAt.EqAt.same _
  |bl b=>cases rx;show SeqAt.EqAt.none_bool b
  |int b=>let#[t,rfl]:=rx;show SeqAt.EqAt.none_int b t
  |str b=>let#[t,rfl]:=rx;show SeqAt.EqAt.none_str b t
  |_=>show absurd (show false=true from c) aaF
 |bl a=>
  cases ry;cases x with
  |non=>cases rx;show SeqAt.EqAt.bool_none a
  |bl b=>cases rx;show SeqAt.EqAt.bool_bool a b
  |int b=>let#[t,rfl]:=rx;show SeqAt.EqAt.bool_int a b t
  |str b=>let#[t,rfl]:=rx;show SeqAt.EqAt.bool_str a b t
  |_=>show absurd (show false=true from c) aaF
 |int a=>
  let#[t',rfl]:=ry;cases x with
  |non=>cases rx;show SeqAt.EqAt.int_none a t'
  |bl b=>cases rx;show SeqAt.EqAt.int_bool a t' b
  |int b=>let#[t,rfl]:=rx;show SeqAt.EqAt.int_int a t' b t
  |str b=>let#[t,rfl]:=rx;show SeqAt.EqAt.int_str a t' b t
  |_=>show absurd (show false=true from c) aaF
 |str a=>
  let#[t',rfl]:=ry;cases x with
  |non=>cases rx;show SeqAt.EqAt.str_none a t'
  |bl b=>cases rx;show SeqAt.EqAt.str_bool a t' b
  |int b=>let#[t,rfl]:=rx;show SeqAt.EqAt.str_int a t' b t
  |str b=>let#[t,rfl]:=rx;show SeqAt.EqAt.str_str a t' b t
  |_=>show absurd (show false=true from c) aaF
 |_=>show absurd (show false=true from e) aaF
def eF(x:V)(u:ε):Bool:=match u with
 |.none=>gh .non x
 |.bool b=>gh (.bl b) x
 |.int i _=>gh (.int i) x
 |.str z _=>gh (.str z) x
 |_=>false
def Qp(r:RelV y u)(f:gW y=true):eF x u=gh y x:=by
 cases y with
 |non=>cases r;rfl
 |bl b=>cases r;rfl
 |int i=>let#[t,rfl]:=r;rfl
 |str z=>let#[t,rfl]:=r;rfl
 |_=>show absurd (show false=true from f) aaF
theorem wj:∀{xs:List V}{us:List ε},Vals xs us->xs.all gW=true->us.any (eF x)=xs.any λy=>gh y x
 |_,_,.nil,_=>rfl
 |y::xs,u::us,.cons r t,f=>by
  rw[aqR,aaO]at f;rw[alc,alc,Qp r f.1,wj t f.2]
theorem vH(rx:RelV x v)(a:gW x=true):∀{xs:List V}{us:List ε},Vals xs us->xs.all gW=true->∀u∈us,SeqAt.EqAt A s u v (eF x u)
 |_,_,.nil,_=>λu hu=>by cases hu
 |y::xs,u::us,.cons r t,f=>λc hu=>by
  rw[aqR,aaO]at f;obtain rfl|hu:=ϳ.mp hu
  .rw[Qp r f.1];show abu r rx f.1 a
  .show vH rx a t f.2 c hu
def jc(x:V)(xs:List V):Bool:=xs.any λy=>gh y x
def Om(K:Ϩ)(a:Bool):R2:=λx y H Q=>∃p xs,y=.ref p/\(η K H p xs\/ι K H p xs)/\gW x=true/\xs.all gW=true/\Q (.bl (if a then !jc x xs else jc x xs)) H
def aeu:aV X (ada .In) (Om X.K false):=by
 intro ϵ s σ H x y v u Q I rx ry h;let#[p,xs,rfl,hq,e,fs,q]:=h;cases ry;obtain hq|hq:=hq
 .let#[a,r,pl,f]:=I.list hq;show SeqAt.in_listAt (eF x) pl.isList (λw c=>vH rx e r fs w (by simpa using c)) #[.bl _,H,I,rfl,?_];rw[show a.toArray.any (eF x)=a.any (eF x)by simp,wj r fs];show q
 .let#[a,r,pl,f]:=I.tuple hq;show SeqAt.in_tupleAt (eF x) pl (λw c=>vH rx e r fs w (by simpa using c)) #[.bl _,H,I,rfl,?_];rw[show a.toArray.any (eF x)=a.any (eF x)by simp,wj r fs];show q
def aj2:aV X (ada .NotIn) (Om X.K true):=by
 intro ϵ s σ H x y v u Q I rx ry h;let#[p,xs,rfl,hq,e,fs,q]:=h;cases ry;obtain hq|hq:=hq
 .let#[a,r,pl,f]:=I.list hq;show SeqAt.notIn_listAt (eF x) pl.isList (λw c=>vH rx e r fs w (by simpa using c)) #[.bl _,H,I,rfl,?_];rw[show a.toArray.any (eF x)=a.any (eF x)by simp,wj r fs];show q
 .let#[a,r,pl,f]:=I.tuple hq;show SeqAt.notIn_tupleAt (eF x) pl (λw c=>vH rx e r fs w (by simpa using c)) #[.bl _,H,I,rfl,?_];rw[show a.toArray.any (eF x)=a.any (eF x)by simp,wj r fs];show q
def ah2:iR X (.builtin "len") (λxs H Q=>∃p ys,xs=[.ref p]/\(η X.K H p ys\/ι X.K H p ys)/\Q (.int ys.length) H):=by
 intro ϵ s σ H xs us Q I r h;let#[p,ys,rfl,hq,q]:=h;let#[u,rfl,rx]:=vals1 r;cases rx;let g:=rB;obtain hq|hq:=hq
 .let#[e,c,pl,f]:=I.list hq;let a:=c.length;show Calls.call_len_list pl.isList (by simp only[aaR]<;>omega) #[.int ys.length,H,I.tok _,#[s.toks+1,by rw[aaR,a]],q]
 .let#[e,c,pl,f]:=I.tuple hq;let a:=c.length;show len_tuple pl (by simp only[aaR]<;>omega) #[.int ys.length,H,I.tok _,#[s.toks+1,by rw[aaR,a]],q]
def ahX:iR X (.builtin "len") (λxs H Q=>∃z,xs=[.str z]/\z.length<=ϯ/\Q (.int z.length) H):=by
 intro ϵ s σ H xs us Q I r h;let#[z,rfl,a,q]:=h;let#[u,rfl,t,rfl]:=vals1 r;let c:=rB;show len_str () #[.int z.length,H,I.tok _,#[_,rfl],q]
def aiW:iR X (.type "list") (λxs H Q=>∃p ys,xs=[.ref p]/\(η X.K H p ys\/ι X.K H p ys)/\∀l,H l=none->Q (.ref l) (upd H l (.lst ys))):=by
 intro ϵ s σ H xs us Q I r h;let#[p,ys,rfl,hq,q]:=h;let#[u,rfl,rx]:=vals1 r;cases rx
 let fin:∀(a:List ε),Vals ys a->ys.length<=ϯ->∀(h':ϫ)(c:Nat),(∀b o',s.heap.get? b=some o'->h'.get? b=some o')->
   h'.get? s.heap.objs.size=some {cls:=.type "list",dict:=none,data:=.seq a.toArray c,slots:= #v[]}->EP X ϵ σ Q (.ref s.heap.objs.size) {s with heap:=h'}:=λa f g h' c kp e=>
  #[.ref s.heap.objs.size,_,I.laid (t':=s.toks) kp (Ϭ _) (show ώ X.prog X.w _ h' _ (.lst ys)from#[g,a,c,f,e]),rfl,q _ (I.hok.fresh (Ϭ _))]
 obtain hq|hq:=hq
 .let#[a,f,pl,g]:=I.list hq;let i:=f.length;let#[o,j,m,n,hd]:=pl.isList;show call_list_seq p (.inl rfl) j m hd (λh' c kp e=>fin a f g h' c kp e) (by simp only[aaR]<;>omega)
 .let#[a,f,pl,g]:=I.tuple hq;let i:=f.length;let#[o,j,m,n,hd]:=pl;show call_list_seq p (.inr rfl) j m hd (λh' c kp e=>fin a f g h' c kp e) (by simp only[aaR]<;>omega)
def adu:iR X (.type "tuple") (λxs H Q=>∃p ys,xs=[.ref p]/\((η X.K H p ys/\∀l,H l=none->Q (.ref l) (upd H l (.tup ys)))\/(ι X.K H p ys/\Q (.ref p) H))):=by
 intro ϵ s σ H xs us Q I r h;let#[p,ys,rfl,h]:=h;let#[u,rfl,rx]:=vals1 r;cases rx;obtain⟨a,q⟩|⟨a,q⟩:=h
 .let#[c,f,pl,g]:=I.list a;let i:=f.length;show call_tuple_list pl.isList (λh' kp=>?_) (by simp only[aaR]<;>omega);let j:Inv X ϵ σ H {s with heap:=h'}:=I.kept (t':=s.toks) kp;let m:Inv X ϵ σ (upd H h'.objs.size (.tup ys)) {s with heap:=h'.push {cls:=.type "tuple",data:=.seq c.toArray}}:=
   j.laid (t':=s.toks) (λb o e=>ϴ _ e) (Ϭ _) (show ώ X.prog X.w _ _ _ (.tup ys)from#[g,c,f,IsTup.new _ _])
  show#[.ref h'.objs.size,_,m,rfl,q _ (j.hok.fresh (Ϭ _))]
 .let#[c,f,pl,g]:=I.tuple a;show call_tuple_same pl #[.ref p,H,I,rfl,q]
def sV(K:Ϩ)(T:String)(x:V)(H:Hp):Prop:=match x with
 |.str _=>T="str"
 |.int _=>T="int"
 |.ref p=>(T="list"/\∃xs,η K H p xs)\/(T="tuple"/\∃o,K.lookup p=some o/\o.cls=.type "tuple"/\o.dict=none)\/
   (T="dict"/\((∃Ϸ,H p=some (.dK Ϸ))\/∃Ϸ,H p=some (.dT Ϸ)))\/(T="set"/\∃S n,H p=some (.set S n))
 |_=>False
def Zr{σ:St}{H:Hp}{s:μ}{T:String}{x:V}{v:ε}(I:Inv X ϵ σ H s)(r:RelV x v)(ty:sV X.K T x H):s.TypeIs v T/\∀a,v=.ref a->∃j,s.heap.get? a=some j/\j.dict=none:=by
 cases x with
 |str z=>
  let#[t,rfl]:=r;cases(show T="str" from ty);show#[typeIs_str s z t,λ_ e=>nomatch e]
 |int i=>
  let#[t,rfl]:=r;cases(show T="int" from ty);show#[typeIs_int s i t,λ_ e=>nomatch e]
 |ref p=>
  cases r;obtain⟨rfl,xs,l⟩|⟨rfl,o,f,m,hd⟩|⟨rfl,f⟩|⟨rfl,S,n,f⟩:=ty
  .let#[q,_,pl,_]:=I.list l;show#[pl.isList.typeIs,λa e=>?_];cases e;let#[o,n,e,c,hd,_]:=pl;show#[o,e,hd]
  .show#[#[o,I.kIn p o f,m],λa e=>?_];cases e;show#[o,I.kIn _ o f,hd]
  .let z:∃o,s.heap.get? p=some o/\o.ExactDict:=by
    obtain⟨Ϸ,f⟩|⟨Ϸ,f⟩:=f
    .let#[_,_,_,_,o,_,_,e,ex,_]:=I.hok p _ f;show#[o,e,ex]
    .let#[_,_,_,_,o,_,_,e,ex,_]:=I.hok p _ f;show#[o,e,ex]
   let#[o,e,ex]:=z;show#[#[o,e,ex.1],λa g=>?_];cases g;show#[o,e,ex.2.1]
  .let#[o,_,_,_,e,ex,_]:=I.hok p _ f;show#[#[o,e,ex.1],λa g=>?_];cases g;show#[o,e,ex.2.1]
 |_=>show False.elim ty
def HR(X:Cx)(id:String)(r:V->List V->Hp->VK->Prop):Prop:=
 ∀(ϵ:List (δ×Obj))(s:μ)(σ:St)(H:Hp)(x:V)(xs:List V)(v:ε)(us:List ε)(Q:VK),Inv X ϵ σ H s->RelV x v->Vals xs us->r x xs H Q->
  ν (ϩ X.prog X.w) X.A (call (.builtin id) (v::us)) (EP X ϵ σ Q) X.xe s
theorem Vals.one(h:Vals [x] us):∃u,us=[u]/\RelV x u:=vals1 h
theorem Vals.two(h:Vals [x,y] us):∃u v,us=[u,v]/\RelV x u/\RelV y v:=vals2 h
theorem Vals.zero:∀{us:List ε},Vals [] us->us=[]
 |_,.nil=>rfl
def Vals.reverse(h:Vals xs us):Vals xs.reverse us.reverse:=by
 induction h with
 |nil=>show .nil
 |cons r t a=>rw[arA,arA];show Vals.append a (.cons r .nil)
section
variable{X:Cx}{ϵ:List (δ×Obj)}{σ:St}{H:Hp}{s:μ}{l b:δ}{xs ys zs:List V}
def Inv.lset{a its':List ε}{f:Array ε->Array ε}{t':Nat}(I:Inv X ϵ σ H s)(c:H l=some (.lst xs))(e:s.heap.get? l=some {cls:=.type "list",data:=.seq a.toArray n})(g:f a.toArray=its'.toArray)(i:Vals ys its')(j:ys.length<=ϯ):Inv X ϵ σ (upd H l (.lst ys)) {s with heap:=s.heap.update l (Obj.mapSeq f),toks:=t'}:=by
 let q:=PySem.IsL.update e f;rw[g]at q;show I.write (x:=l) (e:=l) (by rw[c];show trivial) (.inl rfl) (λv u m p=>(acB s.heap (Obj.mapSeq f) (Ne.symm m)).trans p) #[_,q] ?_;show#[j,its',_,i,q]
theorem Inv.lnew(I:Inv X ϵ σ H s)(c:Vals ys a)(e:ys.length<=ϯ):Inv X ϵ σ (upd H s.heap.objs.size (.lst ys)) {s with heap:=s.heap.push {cls:=.type "list",data:=.seq a.toArray},toks:=t'}:=
 I.laid (λ_ _ q=>ϴ _ q) (Ϭ _) #[e,a,0,c,aaT _ rfl]
theorem Inv.fresh(I:Inv X ϵ σ H s):H s.heap.objs.size=none:=I.hok.fresh (Ϭ _)
def Inv.lstM(I:Inv X ϵ σ H s)(c:H l=some (.lst xs)):xs.length<=ϯ/\∃(a:List ε)(n:Nat),Vals xs a/\xs.length=a.length/\s.heap.get? l=some {cls:=.type "list",data:=.seq a.toArray n}:=by
 let#[z,a,n,r,e]:=I.hok l _ c;show#[z,a,n,r,r.length,e]
end
def aee:V->List V->Hp->VK->Prop:=λx vs H Q=>∃l xs y,x=.ref l/\vs=[y]/\H l=some (.lst xs)/\xs.length<ϯ/\Q .non (upd H l (.lst (xs++[y])))
def jY:HR X "list.append" aee:=by
 intro ϵ s σ H x vs v us Q I rx f h;let#[l,xs,y,rfl,rfl,a,i,q]:=h;cases rx;let#[u,rfl,g]:=f.one;let#[z,c,n,r,hl,e]:=I.lstM a;show ana F.slot_list_append #[_,e,rfl] F.entry_list_append (F.args_list_append_2 _ _) (PySem.list_append l c.toArray n u (by rw[aaR];omega)) #[e,?_];show#[.non,_,I.lset (its':=c++[u]) a e (by simp) (r.append (.cons g .nil)) ?_,rfl,q];rw[abo,aeg];omega
def acP:V->List V->Hp->VK->Prop:=λx vs H Q=>∃l xs,x=.ref l/\vs=[]/\H l=some (.lst xs)/\Q .non (upd H l (.lst xs.reverse))
def ac1:HR X "list.reverse" acP:=by
 intro ϵ s σ H x vs v us Q I rx g h;let#[l,xs,rfl,rfl,c,q]:=h;cases rx;let a:=g.zero;subst a;let#[z,f,n,r,hl,e]:=I.lstM c;show ana F.slot_list_reverse #[_,e,rfl] F.entry_list_reverse (F.args_list_reverse_1 _) (AutoSeq1.list_reverse_list_0 l f.toArray n (by rw[aaR];omega)) #[e,?_];show#[.non,_,I.lset (its':=f.reverse) c e (by simp) r.reverse ?_,rfl,q];rw[ark];omega
def ae0:R2:=λx y H Q=>∃l b xs zs,x=.ref l/\y=.ref b/\H l=some (.lst xs)/\H b=some (.lst zs)/\xs.length+zs.length<=ϯ/\∀p,H p=none->Q (.ref p) (upd H p (.lst (xs++zs)))
def ajJ:aV X (binaryOp .Add) ae0:=by
 intro ϵ s σ H x y v u Q I rx ry h;let#[l,b,xs,zs,rfl,rfl,f,g,p,q]:=h;cases rx;cases ry;let#[z,c,n,r,hl,e]:=I.lstM f;let#[B,a,n2,i,D,j]:=I.lstM g;show PySem.P.add_list e j ?_ (by rw[aaR,aaR];omega);let m:c.toArray++a.toArray=(c++a).toArray:=by simp
 rw[m];show#[.ref _,_,I.lnew (t':=s.toks) (r.append i) (by rw[abo];omega),rfl,q _ I.fresh]
section
variable{κ:Type} [DecidableEq κ]
def Ϣ(Ϸ:List (κ×V))(k:κ):Option V:=(Ϸ.find? λa=>decide (a.1=k)).map (·.2)
def putK(Ϸ:List (κ×V))(k:κ)(v:V):List (κ×V):=
 if(Ϸ.any λa=>decide (a.1=k))=true then Ϸ.map (λa=>if a.1=k then(a.1,v)else a)else Ϸ++[(k,v)]
def fY(Ϸ:List (κ×V))(k:κ):List (κ×V):=Ϸ.filter λa=>decide (a.1≠k)
def oG{p:κ×V}{k:κ}(e:p.1=k):Ϣ (p::r) k=some p.2:=by simp[Ϣ,adk,e]
def pX{p:κ×V}{k:κ}(e:¬p.1=k):Ϣ (p::r) k=Ϣ r k:=by simp[Ϣ,adk,e]
theorem Zf(k:κ):∀Ϸ:List (κ×V),(Ϸ.any λa=>decide (a.1=k))=(Ϣ Ϸ k).isSome
 |[]=>rfl
 |p::r=>by
  rw[alc];by_cases e:p.1=k
  .simp only[oG e,decide_eq_true e,ash,Option.isSome_some]
  .rw[pX e,decide_eq_false e,aqS];show Zf k r
def Hl(Ϸ:List (κ×V))(k:κ)(v:V):(putK Ϸ k v).length<=Ϸ.length+1:=by
 unfold putK;split
 .rw[aaA];omega
 .rw[abo,acj,aqw];omega
def cT.isSome_eq(r:cT o u):o.isSome=u.isSome:=by
 cases o with
 |none=>cases u with
  |none=>rfl
  |some _=>show(show False from r).elim
 |some _=>cases u with
  |none=>show(show False from r).elim
  |some _=>rfl
def cT.getD(r:cT o u)(rd:RelV d d'):RelV (o.getD d) (u.getD d'):=by
 cases o with
 |none=>cases u with
  |none=>show rd
  |some _=>show(show False from r).elim
 |some _=>cases u with
  |none=>show(show False from r).elim
  |some _=>show r
def KV.val(r:KV Ϸ vs)(k:κ):cT (Ϣ Ϸ k) (valueAt vs k):=by
 unfold KV at r;induction r with
 |nil=>show True.intro
 | @cons p q ps a h t f=>
   let#[h1,h2]:=h;by_cases e:p.1=k
   .let c:q.1=k:=h1.symm.trans e;let b:valueAt (q::a) k=some q.2:=by simp[valueAt,adk,c]
    rw[oG e,b];show h2
   .let c:¬q.1=k:=λz=>e (h1.trans z)
    let b:valueAt (q::a) k=valueAt a k:=by simp[valueAt,adk,c]
    rw[pX e,b];show f
def KV.any(r:KV Ϸ vs)(k:κ):(Ϸ.any λa=>decide (a.1=k))=vs.any λa=>decide (a.1=k):=by
 unfold KV at r;induction r with
 |nil=>rfl
 |cons h t c=>rw[alc,alc,c,h.1]
def KV.repl(r:KV Ϸ vs)(k:κ)(ry:RelV y u):KV (Ϸ.map λa=>if a.1=k then(a.1,y)else a) (vs.map λa=>if a.1=k then(a.1,u)else a):=by
 unfold KV at r⊢;induction r with
 |nil=>show .nil
 | @cons p q ps f h t c=>
   rw[ac2,ac2];show .cons ?_ c;let#[h1,h2]:=h;by_cases e:p.1=k
   .rw[if_pos e,if_pos (h1.symm.trans e)];show#[h1,ry]
   .rw[if_neg e,if_neg (λz=>e (h1.trans z))];show#[h1,h2]
def KV.put(r:KV Ϸ vs)(k:κ)(ry:RelV y u):KV (putK Ϸ k y) (stored vs k u):=by
 unfold putK stored;rw[r.any k];by_cases e:(vs.any λa=>decide (a.1=k))=true
 .rw[if_pos e,if_pos e];show r.repl k ry
 .rw[if_neg e,if_neg e];show Paired.snoc r #[rfl,ry]
def KV.drop(r:KV Ϸ vs)(k:κ):KV (fY Ϸ k) (without vs k):=by
 unfold KV at r⊢;unfold fY without;induction r with
 |nil=>show .nil
 | @cons p q ps g h t c=>
   let#[h1,h2]:=h;rw[al3,al3];by_cases e:p.1=k
   .let a:¬decide (p.1≠k)=true:=by simp[e]
    let b:¬decide (q.1≠k)=true:=by simp[h1.symm.trans e]
    rw[if_neg a,if_neg b];show c
   .let f:¬q.1=k:=λz=>e (h1.trans z)
    let a:decide (p.1≠k)=true:=by simp[e]
    let b:decide (q.1≠k)=true:=by simp[f]
    rw[if_pos a,if_pos b];show .cons #[h1,h2] c
def KV.keys{vs:List (κ×ε)}(r:KV Ϸ vs):Ϸ.map (·.1)=vs.map (·.1):=by
 unfold KV at r;induction r with
 |nil=>rfl
 |cons h t a=>rw[ac2,ac2,a,h.1]
theorem KV.length{vs:List (κ×ε)}(r:KV Ϸ vs):Ϸ.length=vs.length:=Paired.length r
theorem af3(Ϸ:List (κ×V))(k:κ):(fY Ϸ k).length<=Ϸ.length:=aiu _ _
end
def lJ(r:RelV (kV k) u):(cH P w).is k u=true:=by
 cases k with
 |inl i=>let#[t,e]:=(show ∃t,u=Value.int i t from r);subst e;show alx P w i t
 |inr x=>let#[t,e]:=(show ∃t,u=Value.str x t from r);subst e;show aik P w x t
theorem W7:∀{ks:List Key}{us:List ε},Vals (ks.map kV) us->ItemsAre (cH P w) ks us
 |[],_,r=>by rw[arF]at r;cases r;show .nil
 |k::ks,_,r=>by
  rw[ac2]at r;cases r with
  |cons h t=>show .cons (lJ h) (W7 t)
abbrev KT(H:Hp):List (List Key×V)->List (List Key×δ×ε)->Prop:=Paired λp q=>p.1=q.1/\H q.2.1=some (.tup (p.1.map kV))/\RelV p.2 q.2.2
def KT.val(r:KT H Ϸ xs)(k:List Key):cT (Ϣ Ϸ k) ((atKey xs k).map (·.2)):=by
 induction r with
 |nil=>show True.intro
 | @cons p q ps a h t f=>
   let#[h1,_,h2]:=h;by_cases e:p.1=k
   .let c:q.1=k:=h1.symm.trans e;let b:atKey (q::a) k=some q.2:=by simp[atKey,adk,c]
    rw[oG e,b];show h2
   .let c:¬q.1=k:=λz=>e (h1.trans z)
    let b:atKey (q::a) k=atKey a k:=by simp[atKey,adk,c]
    rw[pX e,b];show f
def KT.repl(r:KT H Ϸ xs)(k:List Key)(ry:RelV y u):KT H (Ϸ.map λa=>if a.1=k then(a.1,y)else a) (xs.map (putAt k u)):=by
 induction r with
 |nil=>show .nil
 | @cons p q ps g h t c=>
   rw[ac2,ac2];show .cons ?_ c;let#[h1,h2,f]:=h;unfold putAt;by_cases e:p.1=k
   .rw[if_pos e,if_pos (h1.symm.trans e)];show#[h1,h2,ry]
   .rw[if_neg e,if_neg (λz=>e (h1.trans z))];show#[h1,h2,f]
def KT.put(r:KT H Ϸ xs)(k:List Key)(a:H b=some (.tup (k.map kV)))(ry:RelV y u):KT H (putK Ϸ k y) (storedH xs k b u):=by
 let e:(Ϸ.any λc=>decide (c.1=k))=(atKey xs k).isSome:=by
  rw[Zf,(r.val k).isSome_eq,aqI]
 unfold putK storedH;rw[e];by_cases q:(atKey xs k).isSome=true
 .rw[if_pos q,if_pos q];show r.repl k ry
 .rw[if_neg q,if_neg q];show Paired.snoc r #[rfl,a,ry]
theorem KT.keeps(r:KT H Ϸ xs)(a:∀b ys,H b=some (.tup ys)->H' b=some (.tup ys)):KT H' Ϸ xs:=
 Paired.mapP r λ_ _ z=>#[z.1,a _ _ z.2.1,z.2.2]
theorem Li(ok:aB P w H h)(e:Rd H a u):ώ P w H h a u:=e.ok ok
theorem lG(ok:aB P w H h)(e:Rd H a (.dK Ϸ)):Ϸ.length<=ϯ/\(a==sysModules)=false/\∃vs,KV Ϸ vs/\h.DictOf (cH P w) a vs:=
 show ώ P w H h a (.dK Ϸ)from Li ok e
theorem wz(ok:aB P w H h)(e:H a=some (.dK Ϸ)):Ϸ.length<=ϯ/\(a==sysModules)=false/\∃vs,KV Ϸ vs/\h.DictOf (cH P w) a vs:=lG ok (.inl e)
def tD(ok:aB P w H h)(e:H a=some (.tup (ks.map kV))):(tupleKind (cH P w)).is h ks a:=by
 let#[_,c,r,o,h1,h2,n,f]:=(show ώ P w H h a (.tup (ks.map kV))from ok a _ e);show#[o,c.toArray,n,h1,h2,f,by simpa using W7 r]
def p7(ok:aB P w H h)(e:Rd H a (.dT Ϸ)):Ϸ.length<=ϯ/\(a==sysModules)=false/\
  ∃xs,KT H Ϸ xs/\h.DictOfH (tupleKind (cH P w)) a xs:=by
 let#[z,y,xs,r,o,es,ep,h1,h2,f,g,i]:=(show ώ P w H h a (.dT Ϸ)from Li ok e);show#[z,y,xs,r,o,es,ep,h1,h2,f,g,λx hx=>?_,i];let all:∀{l:List (List Key×V)}{m:List (List Key×δ×ε)},KT H l m->∀x∈m,(tupleKind (cH P w)).is h x.1 x.2.1:=by
  intro l m q;induction q with
  |nil=>intro x hx;show nomatch hx
  | @cons p q ps n c t j=>
    intro x hx;obtain e|hx:=ϳ.mp hx
    .subst e;show tD ok (by rw[<-c.1];show c.2.1)
    .show j x hx
 show all r x hx
theorem agy(ok:aB P w H h)(e:H a=some (.dT Ϸ)):Ϸ.length<=ϯ/\(a==sysModules)=false/\
  ∃xs,KT H Ϸ xs/\h.DictOfH (tupleKind (cH P w)) a xs:=p7 ok (.inl e)
def Ϝ(H:Hp)(a:δ)(y:V)(r:Option V):Prop:=
 (∃Ϸ k,Rd H a (.dK Ϸ)/\y=kV k/\r=Ϣ Ϸ k)\/∃Ϸ k b,Rd H a (.dT Ϸ)/\y=.ref b/\H b=some (.tup (k.map kV))/\r=Ϣ Ϸ k
def fH(H:Hp)(a:δ)(y v:V)(H':Hp):Prop:=
 (∃Ϸ k,H a=some (.dK Ϸ)/\y=kV k/\Ϸ.length<ϯ/\H'=upd H a (.dK (putK Ϸ k v)))\/
 ∃Ϸ k b,H a=some (.dT Ϸ)/\y=.ref b/\H b=some (.tup (k.map kV))/\Ϸ.length<ϯ/\H'=upd H a (.dT (putK Ϸ k v))
theorem Ϝ.k{H:Hp}{a:δ}{k:Key}(e:H a=some (.dK Ϸ)):Ϝ H a (kV k) (Ϣ Ϸ k):=.inl #[Ϸ,k,.inl e,rfl,rfl]
theorem fH.k{H:Hp}{a:δ}{k:Key}{v:V}(e:H a=some (.dK Ϸ))(hl:Ϸ.length<ϯ):fH H a (kV k) v (upd H a (.dK (putK Ϸ k v))):=.inl #[Ϸ,k,e,rfl,hl,rfl]
section
variable{X:Cx}{ϵ:List (δ×Obj)}{σ:St}{H:Hp}{s:μ}{a:δ}{y v:V}{u r:ε}{o:Option V}{A:ϲ}{E:ε->μ->Prop}
def Inv.big(I:Inv X ϵ σ H s):sysModules<s.heap.objs.size:=by
 let h:mainGlobals<s.heap.objs.size:=(I.mod.glob.keeps I.bk).lt;show Nat.lt_trans (by decide) h
def T7(q:A.units+1<cLine)(I:Inv X ϵ σ H s)(g:Ϝ H a y (some v))(ry:RelV y u)(h:∀i s',Inv X ϵ σ H s'->RelV v i->Q i s'):ν (ϩ X.prog X.w) A (getItem (.ref a) u) Q E s:=by
 obtain⟨Ϸ,k,e,j,l⟩|⟨Ϸ,k,b,e,j,x,l⟩:=g
 .subst j;let#[z,hd,vs,c,dd]:=lG I.hok e;let#[i,m,f]:=cT.some_of (v:=v) (o:=valueAt vs k) (by rw[l];show c.val k);show wpAny_getItem_of (lJ ry) dd.mapOf m (h i _ (I.tok _) f)
 .subst j;cases(show u=Value.ref b from ry);let#[z,hd,xs,c,dd]:=p7 I.hok e;let#[i,m,f]:=cT.some_of (v:=v) (o:=(atKey xs k).map (·.2)) (by rw[l];show c.val k);let#[p,B,n]:=amj.mp m;show wpAny_getItem_heap (aln q) (tD I.hok x) dd B ?_;rw[n];show h i _ (I.tok _) f
def amd(i:A.units+1<cLine)(I:Inv X ϵ σ H s)(g:Ϝ H a y o)(ry:RelV y u)(h:∀s',Inv X ϵ σ H s'->Q (.bool o.isSome) s'):ν (ϩ X.prog X.w) A (ada .In u (.ref a)) Q E s:=by
 obtain⟨Ϸ,k,e,f,l⟩|⟨Ϸ,k,b,e,f,j,l⟩:=g
 .subst f;let#[z,hd,vs,c,dd]:=lG I.hok e;show wpAny_in_of (lJ ry) hd dd.mapOf ?_;rw[<-(c.val k).isSome_eq, <-l];show h _ (I.tok _)
 .subst f;cases(show u=Value.ref b from ry);let#[z,hd,xs,c,dd]:=p7 I.hok e;show wpAny_in_heap (aln i) (tD I.hok j) hd dd ?_;let q:=(c.val k).isSome_eq;rw[aqI]at q;rw[<-q, <-l];show h _ (I.tok _)
def aj5(i:A.units+1<cLine)(I:Inv X ϵ σ H s)(g:Ϝ H a y o)(ry:RelV y u)(h:∀s',Inv X ϵ σ H s'->Q (.bool (!o.isSome)) s'):ν (ϩ X.prog X.w) A (ada .NotIn u (.ref a)) Q E s:=by
 obtain⟨Ϸ,k,e,f,l⟩|⟨Ϸ,k,b,e,f,j,l⟩:=g
 .subst f;let#[z,hd,vs,c,dd]:=lG I.hok e;show wpAny_notIn_of (lJ ry) hd dd.mapOf ?_;rw[<-(c.val k).isSome_eq, <-l];show h _ (I.tok _)
 .subst f;cases(show u=Value.ref b from ry);let#[z,hd,xs,c,dd]:=p7 I.hok e;show wpAny_notIn_heap (aln i) (tD I.hok j) hd dd ?_;let q:=(c.val k).isSome_eq;rw[aqI]at q;rw[<-q, <-l];show h _ (I.tok _)
theorem zY(I:Inv X ϵ σ H s)(f:v5 (H a))(hs:aj8 a s.heap h')(g:∃q,h'.get? a=some q)(new:ώ X.prog X.w (upd H a c) h' a c):Inv X ϵ σ (upd H a c) {s with heap:=h',toks:=t'}:=
 I.write (x:=a) (e:=a) f (.inl rfl) (λb q i z=>(hs.2 b i).trans z) g new
theorem Jz(z:Ϸ.length<=ϯ)(hd:(a==sysModules)=false)(c:KV Ϸ vs)(dd:h'.DictOf (cH P w) a vs):ώ P w H' h' a (.dK Ϸ):=#[z,hd,vs,c,dd]
def aji(F:A.units+1<cLine)(I:Inv X ϵ σ H s)(g:fH H a y v H')(ry:RelV y u)(x:RelV v r)(h:∀s',Inv X ϵ σ H' s'->Q PUnit.unit s'):ν (ϩ X.prog X.w) A (setItem (.ref a) u r) Q E s:=by
 obtain⟨Ϸ,k,e,m,l,n⟩|⟨Ϸ,k,b,e,m,B,l,n⟩:=g
 .subst m n;let#[z,hd,vs,f,dd]:=wz I.hok e;let p:vs.length<=ϯ:=by rw[<-f.length];show z
  let hl:(putK Ϸ k v).length<=ϯ:=by have:=Hl Ϸ k v;omega
  show wpAny_setItem_pairs (hsz:=p) (lJ ry) dd λh' i hs=>h _ ?_
  let G:∃q,h'.get? a=some q:=let⟨q,_,_,j,_⟩:=i;#[q,j];show zY I (by rw[e];show True.intro) hs G (Jz hl hd (f.put k x) i)
 .subst m n;cases(show u=Value.ref b from ry);let#[z,hd,xs,f,dd]:=agy I.hok e;let p:xs.length<=ϯ:=by rw[<-Paired.length f];show z
  let hl:(putK Ϸ k v).length<=ϯ:=by have:=Hl Ϸ k v;omega
  show wpAny_setItem_heap (hsz:=p) (aln F) (tD I.hok B) dd λh' i hs=>h _ ?_
  let#[q,es,ep,j,h2,J,L,_,M]:=i;show zY I (by rw[e];show True.intro) hs ⟨q,j⟩ ⟨hl,hd,_,(f.put k B x).keeps λc ys D=>?_,q,es,ep,j,h2,J,L,M⟩;rw[ξ (abN D e (λz=>nomatch z))];show D
end
section
variable{X:Cx}{ϵ:List (δ×Obj)}{σ:St}{H:Hp}{s:μ}{a:δ}{Ϸ:List (Key×V)}{k:Key}{u:ε}{A:ϲ}{E:ε->μ->Prop}
def acT(I:Inv X ϵ σ H s)(e:H a=some (.dK Ϸ))(ry:RelV (kV k) u)(l:Ϣ Ϸ k=some v)(n:c=[]\/∃x,c=[x])(h:∀g s',Inv X ϵ σ (upd H a (.dK (fY Ϸ k))) s'->RelV v g->Q g s'):ν (ϩ X.prog X.w) A (call (.builtin "dict.pop") (.ref a::u::c)) Q E s:=by
 let#[z,hd,vs,f,dd]:=wz I.hok e;let#[g,p,m]:=cT.some_of (v:=v) (o:=valueAt vs k) (by rw[<-l];show f.val k);let y:(keyPart u).isSome=true:=by
  cases k with
  |inl i=>let#[t,q]:=(show ∃t,u=Value.int i t from ry);subst q;rfl
  |inr x=>let#[t,q]:=(show ∃t,u=Value.str x t from ry);subst q;rfl
 let B:argsOk "dict.pop" #[.ref a::u::c,[]]:=by
  obtain q|⟨x,q⟩:=n
  .subst q;show F.args_dict_pop_2 _ _
  .subst q;show F.args_dict_pop_3 _ _ _
 show call_meetsIn F.slot_dict_pop dd.typeIs F.entry_dict_pop B (meets_dict_pop_there (cH X.prog X.w) a (lJ ry) c n y)
  #[vs,g,dd,by rw[<-f.length];show z,p,λh' j hs=>h g _ ?_ m]
 let D:∃q,h'.get? a=some q:=let⟨q,_,_,hq,_⟩:=j;#[q,hq];show zY I (by rw[e];show True.intro) hs D (Jz (ad8 (af3 Ϸ k) z) hd (f.drop k) j)
end
def Wh(i:ϧ):=∀a c,subscripted i false a c=operate [a,c] (getItem a c)
def abR{w:ϭ}{A:ϲ}{E:ε->μ->Prop}{s:μ}{env:Env}{value a:ϧ}{pos:Pos}{T id:String}{Q:ε->μ->Prop}(hl:typeLookup (.type T) "__getitem__"=pure (some (.builtin id)))(hs:Wh a)(h:ν (ϩ prog w) A (eval value env) (λo e=>ν (ϩ prog w) A (eval a env) (λi s₂=>s₂.TypeIs o T/\ν (ϩ prog w) A (getItem o i) Q E s₂) E e) E s):ν (ϩ prog w) A (eval (.Subscript value a pos) env) Q E s:=by
 show Subscript_ (adt h (λo e g=>adt g (λi s₂ c=>?_) λ_ _ x=>x) λ_ _ x=>x);let#[l,c]:=c;unfold subscriptTail;show Ϧ ?_;rw[getitemInPython_of_ne l.not_modules];show Ϧ (wpAny_specialOf l hl ?_);let fin:ν (ϩ prog w) A (subscripted a false o i) (λr f=>ν (ϩ prog w) A (letTemporaryGo value o r>>=λ_=>pure r) Q E f) E s₂:=by
  rw[hs o i];show wpAny_operating (adt c (λr f j=>Ϧ (wpAny_letTemporaryGo (ϱ j))) λ_ _ x=>x)
 first
  |show ϱ (Ϧ fin)
  |show Ϧ (ϱ (Ϧ fin))
  |show Ϧ fin
def Ly{X:Cx}{σ:St}{H:Hp}{s:μ}{a:δ}{y:V}{o:Option V}(I:Inv X ϵ σ H s)(g:Ϝ H a y o):s.TypeIs (.ref a) "dict":=by
 obtain⟨Ϸ,k,e,_,_⟩|⟨Ϸ,k,b,e,_,_,_⟩:=g
 .let#[_,_,vs,_,dd]:=lG I.hok e;show dd.typeIs
 .let#[_,_,xs,_,dd]:=p7 I.hok e;show dd.typeIs
theorem Ng(h:ϫ)(a:sysModules<h.objs.size):ώ P w H (h.push {cls:=.type "dict",data:=.dict #v[]}) h.objs.size (.dK []):=
 #[ad5 _,beq_eq_false_iff_ne.mpr (Ne.symm (acE a)),[],.nil,Heap.DictOf.new h]
def amL:TE:=λ_ H Q=>∀p,H p=none->Q (.ref p) (upd H p (.dK []))
theorem aeH:PE X (.Dict [] [] pos) amL:=λϵ s σ H Q I h=>
 wpAny_Dict_empty #[.ref s.heap.objs.size,_,I.laid (a:=s.heap.objs.size) (o:=.dK []) (t':=s.toks) (λ_ _ q=>ϴ _ q) (Ϭ _) (Ng s.heap I.big),rfl,h _ (I.hok.fresh (Ϭ _))]
def Ju:List (TE×TE)->St->Hp->(List (V×V)->Hp->Prop)->Prop
 |[],_,H,Q=>Q [] H
 |(tk,tv)::r,σ,H,Q=>tk σ H λx H1=>tv σ H1 λy H2=>Ju r σ H2 λps a=>Q ((x,y)::ps) a
abbrev VV:List (V×V)->List (ε×ε)->Prop:=Paired λp q=>RelV p.1 q.1/\RelV p.2 q.2
def zB(X:Cx)(pos:Pos)(keys:List (Option ϧ))(a:List ϧ)(c:List (TE×TE)):Prop:=
 ∀(ϵ:List (δ×Obj))(s:μ)(σ:St)(H:Hp)(Q:List (V×V)->Hp->Prop),Inv X ϵ σ H s->Ju c σ H Q->
  ν (ϩ X.prog X.w) X.A (evalPairs (pairTrees keys a X.env pos)) (λvs s'=>∃ps H',Inv X ϵ σ H' s'/\VV ps vs/\Q ps H') X.xe s
theorem afN:zB X pos [] [] []:=λϵ s σ H Q I h=>pairTrees_nil_walk #[[],H,I,.nil,h]
theorem Ej(e:PE X k tk)(f:PE X v tv)(g:zB X pos ks vs a):zB X pos (some k::ks) (v::vs) ((tk,tv)::a):=λϵ s σ H Q I h=>
 pairTrees_cons_walk (υ (e ϵ s σ H _ I h) λu i ⟨x,H1,j,rx,l⟩=>υ (f ϵ i σ H1 _ j l) λD m ⟨y,H2,n,ry,p⟩=>
  υ (g ϵ m σ H2 _ n p) λws E z1=>by let#[ps,q,z,c,B]:=z1;show #[(x,y)::ps,q,z,.cons #[rx,ry] c,B])
def lX(Ϸ a:List (Key×V)):List (Key×V):=a.foldl (λc e=>putK c e.1 e.2) Ϸ
def KV.merge:∀{a:List (Key×V)}{rs:List (Key×ε)}{Ϸ:List (Key×V)}{vs:List (Key×ε)},KV a rs->KV Ϸ vs->KV (lX Ϸ a) (merged vs rs):=by
 intro a rs Ϸ vs r;unfold KV at r;induction r generalizing Ϸ vs with
 |nil=>intro q;show q
 | @cons p q ps g h t c=>
   intro f;let e:KV (putK Ϸ p.1 p.2) (stored vs q.1 q.2):=by
    have:=f.put p.1 h.2;rw[<-h.1];show this
   show c e
theorem VG:∀(a Ϸ:List (Key×V)),(lX Ϸ a).length<=Ϸ.length+a.length
 |[],Ϸ=>by show Ϸ.length<=Ϸ.length+0;omega
 |p::r,Ϸ=>by
  let h1:=VG r (putK Ϸ p.1 p.2);let h2:=Hl Ϸ p.1 p.2;show(lX (putK Ϸ p.1 p.2) r).length<=_;rw[acj];omega
theorem Z0:∀{Ϸ:List (Key×V)}{ws:List (ε×ε)},VV (Ϸ.map λe=>(kV e.1,e.2)) ws->∃rs,Carries (cH P w) ws rs/\KV Ϸ rs
 |[],_,r=>by rw[arF]at r;cases r;show#[[],True.intro,.nil]
 |p::Ϸ,_,r=>by
  rw[ac2]at r;cases r with
  | @cons a b as bs h t=>
    let#[rs,c,q]:=Z0 (P:=P) (w:=w) t;let#[g,f]:=b;show#[(p.1,f)::rs,#[lJ h.1,rfl,c],.cons #[rfl,h.2] q]
def akZ(a:List (TE×TE)):TE:=λσ H Q=>∀p,H p=none->Ju a σ (upd H p (.dK [])) λps H2=>H2 p=some (.dK [])/\∃Ϸ:List (Key×V),ps=Ϸ.map (λc=>(kV c.1,c.2))/\Ϸ.length<=15/\Q (.ref p) (upd H2 p (.dK (lX [] Ϸ)))
def ain(h:zB X pos keys f g)(i:keys.all (·.isSome)=true)(hl:keys.length=f.length)(p:keys≠[])(l:keys.length<=15):PE X (.Dict keys f pos) (akZ g):=by
 intro ϵ s σ H Q I q;let u:=I.hok.fresh (Ϭ s.heap.objs.size);let v:=I.laid (a:=s.heap.objs.size) (o:=.dK []) (h':=s.heap.push {cls:=.type "dict",data:=.dict #v[]}) (t':=s.toks) (λ_ _ q=>ϴ _ q) (Ϭ _) (Ng s.heap I.big);show wpAny_Dict_walk (knd:=cH X.prog X.w) i hl p l (υ (h ϵ _ σ _ _ v (q _ u)) λws G x=>?_);let#[ps,H2,n,m,e,Ϸ,ep,lk,y]:=x;subst ep;let#[rs,c,rk]:=Z0 (P:=X.prog) (w:=X.w) m;let#[z,hd,B,D,dd]:=wz n.hok e;cases D;show#[rs,c,dd,λh' j hs=>#[.ref s.heap.objs.size,_,?_,rfl,y]];let E:(lX [] Ϸ).length<=ϯ:=by
  let h1:=VG Ϸ [];rw[aqw]at h1;rw[ϰ];omega
 let F:∃q,h'.get? s.heap.objs.size=some q:=let⟨q,_,_,hq,_⟩:=j;#[q,hq];show zY n (by rw[e];show True.intro) hs F (Jz E hd (rk.merge .nil) j)
structure M1(X:Cx)(o:ϧ)(m:Str)(apos:Pos)(e:ϧ)(cpos:Pos):Prop where
 base:attributeBase o m X.env (eval o X.env)=eval o X.env
 few:((backTo cpos (abP [e] X.env)).all (λx=> !x.1)&&(backToKw cpos (keywordEach [] X.env)).all (λx=>x.1.isSome)
  &&decide (([e]:List ϧ).length+([]:List Keyword).length+(if([]:List Keyword).isEmpty then 0 else 1)<30))=true
 line:(apos.endLine==cpos.line)=true
 trees:backTo cpos (abP [e] X.env)=[(false,eval e X.env)]
structure M2(X:Cx)(o:ϧ)(m:Str)(apos:Pos)(e f:ϧ)(cpos:Pos):Prop where
 base:attributeBase o m X.env (eval o X.env)=eval o X.env
 few:((backTo cpos (abP [e,f] X.env)).all (λx=> !x.1)&&(backToKw cpos (keywordEach [] X.env)).all (λx=>x.1.isSome)
  &&decide (([e,f]:List ϧ).length+([]:List Keyword).length+(if([]:List Keyword).isEmpty then 0 else 1)<30))=true
 line:(apos.endLine==cpos.line)=true
 trees:backTo cpos (abP [e,f] X.env)=[(false,eval e X.env),(false,eval f X.env)]
def nM(H:Hp)(a:δ):Prop:=(∃Ϸ,Rd H a (.dK Ϸ))\/∃Ϸ,Rd H a (.dT Ϸ)
def Wr{X:Cx}{σ:St}{H:Hp}{s:μ}{a:δ}(I:Inv X ϵ σ H s)(d:nM H a):s.TypeIs (.ref a) "dict"/\(∀b,Value.ref a=.ref b->∃c,s.heap.get? b=some c/\c.dict=none)/\(a==sysModules)=false:=by
 obtain⟨Ϸ,e⟩|⟨Ϸ,e⟩:=d
 .let#[_,hd,vs,_,dd]:=lG I.hok e;show#[dd.typeIs,λb q=>?_,hd];cases q;let#[c,_,_,h1,h2,_]:=dd;show#[c,h1,h2.2.1]
 .let#[_,hd,xs,_,dd]:=p7 I.hok e;show#[dd.typeIs,λb q=>?_,hd];cases q;let#[c,_,_,h1,h2,_]:=dd;show#[c,h1,h2.2.1]
section
variable{X:Cx}{ϵ:List (δ×Obj)}{σ:St}{H:Hp}{s:μ}{a:δ}{y d:V}{u r:ε}{o:Option V}{A:ϲ}{E:ε->μ->Prop}
def aib(j:A.units+1<cLine)(I:Inv X ϵ σ H s)(g:Ϝ H a y o)(ry:RelV y u)(h:∀i s',Inv X ϵ σ H s'->RelV (o.getD .non) i->Q i s'):ν (ϩ X.prog X.w) A (call (.builtin "dict.get") [.ref a,u]) Q E s:=by
 obtain⟨Ϸ,k,e,f,l⟩|⟨Ϸ,k,b,e,f,m,l⟩:=g
 .subst f;let#[z,hd,vs,c,dd]:=lG I.hok e;show call_meetsIn F.slot_dict_get dd.typeIs F.entry_dict_get (F.args_dict_get_2 _ _) (meets_dict_get (cH X.prog X.w) a (lJ ry) hd) #[_,dd.mapOf,h _ _ (I.tok _) ?_];rw[l];show(c.val k).getD rfl
 .subst f;cases(show u=Value.ref b from ry);let#[z,hd,xs,c,dd]:=p7 I.hok e;show call_meetsIn F.slot_dict_get dd.typeIs F.entry_dict_get (F.args_dict_get_2 _ _) (meetsH_dict_get (tupleKind (cH X.prog X.w)) a b hd) #[aln j,k,xs,tD I.hok m,dd,h _ _ (I.tok _) ?_];rw[l];show(c.val k).getD rfl
end
end _L
namespace _A
open PySem PySem.W PySem.Calls PyProof.Rows
def adB:∀(ns:List Int)(vs:List ε),WellAll P h vs (ns.map WData.int)->IntsAre vs ns:=by
 intro ns;induction ns with
 |nil=>
  intro vs w;rw[arF]at w;cases w;show .nil
 |cons n ns c=>
  intro vs w;rw[ac2]at w;cases w with
  |cons a b=>
   cases a;show .cons _ _ (c _ b)
def ai7{l:OpenLaw}{n:Nat}(s:l.most=some n){P:Params}{h:ϫ}(c:l.row.toRowW.claim.pre args=true)(j:WellAll P h vals args):∃a vs ns,vals=[Value.ref a]/\args=[WData.list (ns.map WData.int)]/\h.get? a=some {cls:=.type "list",data:=.seq vs.toArray}/\IntsAre vs ns/\ns.length<=n:=by
 let m:WShape.hasAll [] args [.list .int]=true:=(pre_splitW c).1;let p:l.pre.holds [] {args:=args}=true:=(pre_splitW c).2;let#[d,r,rfl,h1,h2]:=hasAllW_cons m;obtain rfl:=hasAllW_nil h2;let#[xs,rfl,u]:=hasW_list h1;let#[ns,rfl]:=items_int u;let e:ns.length<=n:=by
  unfold OpenLaw.pre at p;let g:(WTm.not (.lt (.lit (.int (n:Int))) (.len (.arg 0)))).holds [] {args:=[.list (ns.map .int)]}=true:=by
   let g:=(holds_andW p).1;rw[s]at g;show g
  let i:=condW_of g (w_not (w_lt w_lit (w_len_list (w_arg rfl))));rw[aaA]at i;show Nat.le_of_not_lt λq=>?_
  let v:(n:Int)<((ns.length:Nat):Int):=()
  first
   |(rw[decide_eq_true v]at i;show absurd i (by decide))
   |(simp at i;omega)
 cases j with
 |cons x y=>
  cases y;cases x with
  |list z f=>show#[_,_,ns,rfl,rfl,z,adB ns _ f,e]
theorem abS(l:OpenLaw)(args:List WData):l.row.toRowW.claim.post args (.bool true) args=true:=
 postW_of (r:=l.row.toRowW) (X:=(true==true))
  (show WShape.has [] (.bool true) .bool=true by first|rfl|decide|simp[WShape.has,WShape.arms,WShape.armsAll])
  (show(WTm.eq .res (.lit (.bool true))).value [] {args:=args,res:=some (.bool true),after:=args}=some (.bool (true==true))from w_eq_bool (w_res rfl) w_lit) rfl
def akC{l:OpenLaw}{n:Nat}{q:Ϯ}{z:(Str->Option ε)->ϫ->Prop}{B:ϭ->ϫ->Prop}{d:DefRec}(H:l.most=some n)(u:d.params.defaults=[])(call:∀(w:ϭ)(s₀ c:μ)(mg mb:Str->Option ε)(j:δ)(o:Obj)(pm cd g:ε)(a:δ)(vs:List ε)(ns:List Int),
   Ground q e [] z w s₀ mg mb c.heap->B w c.heap->
   c.heap.get? j=some o->o.data=.func (docDef d.name d.params d.body d.scope pm cd g)->c.heap.CodeRec cd d.name->mg d.name=some (.ref j)->
   c.heap.get? a=some {cls:=.type "list",data:=.seq vs.toArray}->IntsAre vs ns->ns.length<=n->c.gens= #v[]->
   codeAny (ϩ l.prog w) callerA (.call (.ref j) #[[.ref a],[]]) (λr s'=>r=.ok (.ret (.bool true))/\OldK c.heap s'.heap/\s'.os=c.os/\AllBare s'.gens) c):WalkO q e z B l.row.toRowW d [] (λf vs=>PySem.call f vs):=by
 intro w s₀ c mg mb G Y j o pm cd g dV kV I hd v D x J E vals as m F L y M;obtain rfl:dV=.none:=Dflts.none D u;obtain rfl:kV=.none:=Dflts.noKw D;let#[a,vs,ns,rfl,rfl,p,i,s]:=ai7 H m y;show enter_call (aks (call w s₀ c mg mb j o pm cd g a vs ns G Y I (fd_plain hd) v x p i s J) λr s' O=>?_);let#[rfl,h2,P,Q]:=O;show#[.inl #[.bool true,.bool true,[],rfl,λ_=>rfl,.bool true,abS l _,λ_=>#[List.Pairwise.nil,λ_ R=>(nomatch R)]],h2,P,Q]
end _A
namespace _L
open PySem PySem.Spec PyProof.Rows
theorem Qu:∀{vs:List ε}{ns:List Int},IntsAre vs ns->Vals (ns.map V.int) vs
 |_,_,.nil=>.nil
 |_,_,.cons n t h=>.cons #[t,rfl] (Qu h)
abbrev Wg{K:Ϩ}{h:ϫ}(_:K.In h):Ϩ:=K
def inClass(s:π)(j:Nat):π:=match s with
 |.ClassDef _ _ _ body _ _ _ _ _ _ _=>body.getD j (.Pass #[0,0,0,0])
 |_=>.Pass #[0,0,0,0]
def mO(s:π):Arguments:=match s with
 |.FunctionDef _ a _ _ _ _ _ _ _ _=>a
 |_=>{posonlyargs:=[],args:=[],vararg:=none,kwonlyargs:=[],kw_defaults:=[],kwarg:=none,defaults:=[]}
def ϖ(s:π):List π:=match s with
 |.FunctionDef _ _ b _ _ _ _ _ _ _=>b
 |_=>[]
def χ(s:π):agV:=match s with
 |.FunctionDef _ _ _ _ _ _ sc _ _ _=>sc
 |_=>{kind:=.function,names:=[],isGenerator:=false,isCoroutine:=false}
structure cZ(K:Ϩ)(x qual:Str)(st:π)(f:δ)(fd:ahh):Prop where
 ex:∃(oc:ε)(od:Option δ)(kV doc pm:ε)(an:Option δ)(Ϻ ct:ε)(osl:Array (Option ε)),
  fd=art x qual (mO st) (ϖ st) (χ st) .none kV doc pm an Ϻ ct/\K.lookup f=some #[oc,od,.func fd,osl]/\aqQ K Ϻ qual=true
 kp:aok K (.ref f)=true
section
variable{P:Ϯ}{w:ϭ}{K:Ϩ}{mg:Str->Option ε}{base:ϫ}
def cZ.binds{x qual:Str}{st:π}{f:δ}{fd:ahh}(F:cZ K x qual st f fd)(h:∀(kV a pm:ε)(an:Option δ)(c ct:ε)(us:List ε),us.length=ps.length->bindArgs (art x qual (mO st) (ϖ st) (χ st) .none kV a pm an c ct) #[us,[]]=pure (ps.zip us)):Binds K fd ps []:=by
 let#[oc,od,kV,a,pm,an,c,ct,e,rfl,lk,g]:=F.ex;show .all (h kV a pm an c ct)
theorem uM{st:π}{f:δ}{oc:ε}{od an:Option δ}{e:Array (Option ε)}{kV a pm g ct:ε}(l:K.lookup f=some #[oc,od,.func (art x qual (mO st) (ϖ st) (χ st) .none kV a pm an g ct),e])(c:aqQ K g qual=true)(k:aok K (.ref f)=true):cZ K x qual st f (art x qual (mO st) (ϖ st) (χ st) .none kV a pm an g ct):=#[#[oc,od,kV,a,pm,an,g,ct,e,rfl,l,c],k]
end
def abt{A B:Prop}(h:B):if false=true then A else B:=by
 rw[if_neg aaF];show h
def ahE{A B:Prop}(h:A):if true=true then A else B:=by
 rw[if_pos rfl];show h
def ζ(H H':Hp):=∀b o,H b=some o->H' b=some o
theorem ζ.refl(H:Hp):ζ H H:=λ_ _ h=>h
theorem ζ.trans(a:ζ H H1)(b:ζ H1 H2):ζ H H2:=λc o h=>b c o (a c o h)
def ζ.free(e:ζ H H')(h:H' l=Option.none):H l=Option.none:=by
 cases q:H l with
 |none=>rfl
 |some o=>
  rw[e l o q]at h;cases h
def ζ.seq{K:Ϩ}{H H':Hp}{a:δ}(e:ζ H H')(h:η K H a xs):η K H' a xs:=by
 rcases h with(h|⟨o,h⟩)|h
 .show .inl (.inl (e _ _ h))
 .show .inl (.inr #[o,e _ _ h])
 .show .inr h
section
variable{κ:Type} [DecidableEq κ]
end
def su(h:ϫ):Option ε->List δ->Prop
 |c,[]=>c=some .none
 |c,a::r=>c=some (.ref a)/\∃o vs,h.get? a=some o/\o.data=.fields vs/\su h vs[2]? r
theorem su.stay(k:∀v o ws,v≠e->h.get? v=some o->o.data=.fields ws->∃o' f,h'.get? v=some o'/\o'.data=.fields f/\f[2]?=ws[2]?):∀{l:List δ}{c:Option ε},su h c l->e∉l->su h' c l
 |[],_,q,_=>q
 |a::r,c,⟨g,o,vs,i,j,m⟩,n=>by
  let#[o',f,k1,k2,k3]:=k a o vs (λz=>n (by simp[z])) i j;show#[g,o',f,k1,k2,?_];rw[k3];show su.stay k m λz=>n (by simp[z])
def Ctx(h:ϫ)(e:δ)(b:Bool)(c:Option ε):Prop:=(b=true->c=some .none)/\∃l,su h c l/\e∉l/\l.Nodup
def Ctx.stay(q:Ctx h e b c)(k:∀v o ws,v≠e->h.get? v=some o->o.data=.fields ws->∃o' a,h'.get? v=some o'/\o'.data=.fields a/\a[2]?=ws[2]?):Ctx h' e b c:=by
 let#[g,l,i,f,j]:=q;show#[g,l,i.stay k f,f,j]
def cP(h:ϫ)(e:δ)(cls:ε)(d:Option δ×Bool)(tb:Option δ)(f:ε):Prop:=
 ∃a vs,h.get? e=some a/\a.cls=cls/\a.dict=d.1/\a.data=.fields vs/\vs[1]?=some (tb.elim Value.none Value.ref)/\2<vs.size/\Ctx h e d.2 vs[2]? /\
  ∀T,tb=some T->T≠e/\∃c ws,h.get? T=some c/\c.data=.fields ws/\ws[3]?=some f
def cU(P:Ϯ)(w:ϭ):gF:=λouter H s E x s'=>∃e tb cls d H',x=.ref e/\s'.os=s.os/\AllBare s'.gens/\Un (dC outer) [] H H' s.heap s'.heap/\aB P w H' s'.heap/\cP s'.heap e cls d tb .none/\
 (∀b∈e::tb.toList,H' b=none/\s.heap.get? b=none)/\E cls d H'
def cU.never(h:cU P w outer H s (λ_ _ _=>False) e s'):False:=by
 let#[_,_,_,_,_,_,_,_,_,_,_,_,z]:=h;show z
section
variable{M:Model}{A:ϲ}{E:ε->μ->Prop}{s:μ}
def Vc(i:A.frames=some (env::outer))(hl:s.heap.FunFrames base (env::outer))(y:env.frame=some L)(p:s.heap.get? e=some oe)(hd:oe.data=.fields vs)(hsz:1<vs.size)(k:∀(h':ϫ)(T:δ)(u:Obj)(ws:Array ε),s.heap.objs.size<=h'.objs.size->(∀b o,s.heap.get? b=some o->b≠e->b∉dC (env::outer)->h'.get? b=some o)->
   (∀b o,s.heap.get? b=some o->b≠e->∃sl,h'.get? b=some {o with slots:=sl})->s.heap.objs.size<=T->h'.get? e=some (oe.mapFields (·.setIfInBounds 1 (.ref T)))->
   h'.get? T=some u->u.data=.fields ws->ws[3]?=some (rawInt L)->Q PUnit.unit {s with heap:=h'}):ν M A (do
   let a<-frameOf env;let pl<-entryPlaceOf L c;let b<-EntryCells.newEntry head a .none (rawInt L) .none pl
   setField (.ref e) 1 b) Q E s:=by
 let z:e∉(env::outer).filterMap (·.frame):=λm=>by
  let#[_,o,v,B]:=hl.mem m;rw[p]at v;cases v;show B vs hd
 show Ϧ (wpAny_frameOf_fun i hl y λh1 g=>Ϧ (wpAny_entryPlaceOf λpl x=>?_));unfold EntryCells.newEntry newFields;show Ϧ (aiN ?_ (x.sizeOk5 _ _ _ _ _));let e1:h1.get? e=some oe:=(g.2.1 e z).trans p;let j:e≠h1.objs.size:=acE (abQ e1);show wpAny_setField (ϴ _ e1) hd hsz (k _ h1.objs.size {cls:=.type "traceback",dict:=none,data:=.fields (([head,.ref L,.none,rawInt L,.none]:List ε)++(if pl.isEmpty then afw 6 Value.none else pl)).toArray} (([head,.ref L,.none,rawInt L,.none]:List ε)++(if pl.isEmpty then afw 6 Value.none else pl)).toArray ?_ (λb o l f n=>?_) (λb o l f=>?_) (am2 g.1.symm) ?_ ?_ ?_ ?_)
 .rw[aqW,aiX,g.1];show apb _
 .rw[acB _ _ (Ne.symm f)];show ϴ _ ((g.2.1 b n).trans l)
 .let#[sl,q]:=g.2.2 b o l;show#[sl,by rw[acB _ _ (Ne.symm f)];show ϴ _ q]
 .show aeD _ (ϴ _ e1) (Obj.isFreed_of_fields (Obj.data_mapFields hd _))
 .rw[acB _ _ j];show aaT h1 rfl
 .show rfl
 .first
   |(simp;done)
   |(obtain rfl|⟨_,_,_,_,_,_,_,rfl⟩:=x<;>simp)
structure vA(h h':ϫ)(ch fs:List δ):Prop where
 keep:∀b o,h.get? b=some o->b∉fs->b∉ch->h'.get? b=some o
 slot:∀b o,h.get? b=some o->b∉ch->∃sl,h'.get? b=some {o with slots:=sl}
 there:∀b o,h.get? b=some o->∃o',h'.get? b=some o'
def Q0(p:A.frames=some (env::outer))(hl:s.heap.FunFrames base (env::outer))(J:env.frame=some L)(F:cP s.heap e cls d tb fl)(O:(fl==rawInt L)=false)(k:∀(h':ϫ)(T:δ),vA s.heap h' (e::tb.toList) (dC (env::outer))->s.heap.objs.size<=T->cP h' e cls d (some T) (rawInt L)->Q PUnit.unit {s with heap:=h'}):ν M A (noteFrame (.ref e) env) Q E s:=by
 let#[P,vs,m,hc,R,hd,h1,hz,h2,ht]:=F
 let fin:∀{S:ϫ}{h':ϫ}{T:δ}{n:Obj}{ws:Array ε},(∀v o ws,v≠e->s.heap.get? v=some o->o.data=.fields ws->∃o' u,h'.get? v=some o'/\o'.data=.fields u/\u[2]?=ws[2]?)->S.get? e=some P->S.objs.size<=T->h'.get? e=some (P.mapFields (·.setIfInBounds 1 (.ref T)))->h'.get? T=some n->n.data=.fields ws->
   ws[3]?=some (rawInt L)->cP h' e cls d (some T) (rawInt L):=λ{S h' T n ws} kk e0 hT a g f q4=>by
  let U:=Obj.data_mapFields hd (·.setIfInBounds 1 (Value.ref T));show#[_,_,a,(Obj.cls_mapFields _ _).trans hc,?_,U,?_,by simpa using hz,?_,λT' eT=>?_]
  .let#[c0,d0,dt,sl]:=P;cases hd;show R
  .have :1<vs.size:=()
   simp[this]
  .rw[ahx (by decide)];show h2.stay kk
  .cases eT;show#[λz=>ahK _ (acn (abQ e0) (z▸hT)),n,ws,g,f,q4]
 unfold noteFrame;simp only[J];cases tb with
 |none=>
  let l:vs[1]?=some Value.none:=h1;show Ϧ (afv m hd l ?_);rw[if_neg (by decide)];show Vc p hl J m hd () λh' T n ws a1 W j x y X Y Z=>k h' T #[λb o a g f=>W b o a (λz=>f (by simp[z])) g,λb o a f=>j b o a λz=>f (by simp[z]),λb o a=>?_] x (fin (λv o ws H a g=>by let#[sl,q]:=j v o a H;show#[_,ws,q,g,rfl]) m x y X Y Z)
  by_cases z:b=e
  .subst z;show#[_,y]
  .let#[sl,q]:=j b o a z;show#[_,q]
 |some i=>
  let#[Ϲ,oT0,ab,B,I,t3]:=ht i rfl;let l:vs[1]?=some (Value.ref i):=h1;show Ϧ (afv m hd l ?_);rw[if_pos (show(Value.ref i !=Value.none)=true from by simp)];show Ϧ (afv B I t3 ?_);rw[if_neg (by rw[O];show aaF)];show Ϧ (wpAny_setField B I (ajE.mp t3).1 ?_);let c:∀b,b≠i->(s.heap.update i (Obj.mapFields (·.setIfInBounds 3 Value.none))).get? b=s.heap.get? b:=λb D=>acB _ _ (Ne.symm D)
  let Oj:=aeD (Obj.mapFields (·.setIfInBounds 3 Value.none)) B (Obj.isFreed_of_fields (Obj.data_mapFields I _));let hsz:(s.heap.update i (Obj.mapFields (·.setIfInBounds 3 Value.none))).objs.size=s.heap.objs.size:=aqW ..;let ac:(s.heap.update i (Obj.mapFields (·.setIfInBounds 3 Value.none))).FunFrames base (env::outer):=hl.of_keeps λb o D nf=>#[o,(c b λz=>by
   subst z;rw[B]at D;cases D;show nf ab I).trans D,rfl]
  show Vc (s:={s with heap:=s.heap.update i (Obj.mapFields (·.setIfInBounds 3 Value.none))}) p ac J ((c e (Ne.symm Ϲ)).trans m) hd () λh' T n ws a1 W j x y X Y Z=>
   k h' T #[λb o a g f=>W b o ((c b λz=>f (by simp[z])).trans a) (λz=>f (by simp[z])) g,λb o a f=>j b o ((c b λz=>f (by simp[z])).trans a) λz=>f (by simp[z]),λb o a=>?_] (hsz▸x) (fin (λv o ws H a g=>by
     by_cases G:v=i
     .subst G;let#[sl,q]:=j v _ Oj H;rw[B]at a;cases a;show#[_,_,q,Obj.data_mapFields g _,by rw[ahx (by decide)]]
     .let#[sl,q]:=j v o ((c v G).trans a) H;show#[_,ws,q,g,rfl]) ((c e (Ne.symm Ϲ)).trans m) x y X Y Z)
  by_cases z:b=e
  .subst z;show#[_,y]
  .by_cases G:b=i
   .subst G;let#[sl,q]:=j b _ Oj z;show#[_,q]
   .let#[sl,q]:=j b o ((c b G).trans a) z;show#[_,q]
theorem aiH(a:A.frames=some (env::outer))(hl:s.heap.FunFrames base (env::outer))(c:env.frame=some L)(F:cP s.heap e cls d tb .none)(k:∀(h':ϫ)(T:δ),vA s.heap h' (e::tb.toList) (dC (env::outer))->s.heap.objs.size<=T->cP h' e cls d (some T) (rawInt L)->Q PUnit.unit {s with heap:=h'}):ν M A (noteFrame (.ref e) env) Q E s:=
 Q0 a hl c F (by simp[rawInt]) k
def agd{L e:δ}{cls:ε}{d:Option δ×Bool}{tb:Option δ}{Q:Unit->μ->Prop}(a:env.frame=some L)(F:cP s.heap e cls d tb (rawInt L))(c:tb.isSome=true)(k:Q PUnit.unit s):ν M A (noteFrame (.ref e) env) Q E s:=by
 let#[n,vs,f,p,g,hd,h1,q,h2,i]:=F;cases tb with
 |none=>cases c
 |some T=>
  let#[_,u,ws,j,l,m]:=i T rfl;show wpAny_noteFrame_inFlight a f hd h1 j l m k
def adF(F:cP s.heap e cls d (some T) p)(k:∀h',vA s.heap h' [T] []->cP h' e cls d (some T) .none->Q PUnit.unit {s with heap:=h'}):ν M A (setFlight (.ref e) none) Q E s:=by
 let#[u,vs,i,x,f,hd,h1,y,h2,B]:=F;let#[j,H,ws,a,c,D]:=B T rfl;let l:3<ws.size:=(ajE.mp D).1;show wpAny_setFlight_none i hd h1 a c l (k _ #[λb o q _ n=>?_,λb o q n=>#[o.slots,?_],λb o q=>?_] ?_)
 .rw[acB _ _ (λz=>n (by simp[z]))];show q
 .rw[acB _ _ (λz=>n (by simp[z]))];show q
 .by_cases z:b=T
  .subst z;show#[_,aeD _ a (Obj.isFreed_of_fields (Obj.data_mapFields c _))]
  .show#[o,by rw[acB _ _ (Ne.symm z)];show q]
 .show#[u,vs,?_,x,f,hd,h1,y,h2.stay λv o ws I g m=>?_,λJ G=>?_]
  .rw[acB _ _ j];show i
  .by_cases z:v=T
   .subst z;rw[a]at g;cases g;show#[_,_,aeD _ a (Obj.isFreed_of_fields (Obj.data_mapFields c _)),Obj.data_mapFields m _,by rw[ahx (by decide)]]
   .show#[o,ws,by rw[acB _ _ (Ne.symm z)];show g,m,rfl]
  .cases G;show#[j,_,_,aeD _ a (Obj.isFreed_of_fields (Obj.data_mapFields c _)),Obj.data_mapFields c _,by simp[l]]
end
section
variable{X:Cx}{ϵ:List (δ×Obj)}{σ:St}{H H':Hp}{s s':μ}
def Ch(X:Cx)(ϵ:List (δ×Obj))(b:δ):Prop:=(b∈X.ex\/X.s₀.heap.get? b=none)/\b≠X.env.locals/\(∀x c,X.env.cells.lookup x=some c->c≠b)/\∀p∈X.pn++ϵ,p.1≠b
def Inv.ch(I:Inv X ϵ σ H s)(h:s.heap.get? b=none):Ch X ϵ b:=by
 show#[?_,λz=>?_,λx c q z=>?_,λp g z=>?_]
 .by_cases e:b∈X.ex
  .show .inl e
  .show .inr ?_;cases q:X.s₀.heap.get? b with
   |none=>rfl
   |some o=>
    let#[o',f]:=I.base.there b o q e;rw[h]at f;cases f
 .let#[_,#[o,_,_,a,_],_]:=I.loc;rw[<-z,h]at a;cases a
 .let#[_,o,a,_]:=I.cell x c q;rw[z,h]at a;cases a
 .have :=(I.pin p g).1;rw[z,h]at this;cases this
def Inv.noted{ch:List δ}(I:Inv X ϵ σ H s)(N:vA s.heap h' ch (dC X.stack))(i:∀b∈ch,H b=none/\Ch X ϵ b):Inv X ϵ σ H {s with heap:=h'}:=by
 let jN:∀b u,H b=some u->b∉dC X.stack/\b∉ch:=λb u e=>#[(λz=>by rw[I.stkFree b z]at e;cases e),(λz=>by rw[(i b z).1]at e;cases e)]
 show I.call (g':=s.gens) (d':=s.drawn) (t':=s.toks) (ch:=ch) (h':=h') #[λb o e _ a f=>N.keep b o e a f,λb o e _ _ f=>N.slot b o e f,λ_ _ _ n _=>n,λb o e _=>N.there b o e,λ_ _ e=>e,λ_ _ _ e=>e,λb ps e=>#[#v[],by rw[e];simp]] ?_ I.bare λb a=>(i b a).2
 intro b u e;show(I.hok b u e).stay (λc v g q=>?_) (λ_ q=>q) λ_ _ q=>q
 obtain z|z:=g
 .subst z;show N.keep c v q (jN c u e).1 (jN c u e).2
 .show N.keep c v q (jN c _ z).1 (jN c _ z).2
def uQ(X:Cx)(ϵ:List (δ×Obj))(σ:St)(H:Hp)(s:μ)(e:δ)(cls:ε)(d:Option δ×Bool):Prop:=
 Inv X ϵ σ H s/\∃tb a,cP s.heap e cls d tb a/\(a=.none\/(a=rawInt X.env.locals/\tb.isSome=true))/\∀b∈e::tb.toList,H b=none/\Ch X ϵ b
def dj(X:Cx)(Kx:St->XK):=∀(ϵ:List (δ×Obj))(σ:St)(H:Hp)(s:μ)(e:δ)(cls:ε)(d:Option δ×Bool),uQ X ϵ σ H s e cls d->Kx σ cls d H->X.xe (.ref e) s
def Inv.flown(I:Inv X ϵ σ H s)(c:cU X.prog X.w X.stack H s E x s'):∃e cls d H',x=.ref e/\uQ X ϵ σ H' s' e cls d/\E cls d H':=by
 let#[e,tb,cls,d,H',rfl,os,bare,un,hok,F,ch,q]:=c;let f:Inv X ϵ σ H' s':=I.call' (ch:=[]) os un hok bare λb z=>absurd z (by simp)
 show#[e,cls,d,H',rfl,#[f,tb,.none,F,.inl rfl,λb a=>#[(ch b a).1,I.ch (ch b a).2]],q]
theorem Ml(h:X.xe=λ_ _=>False):dj X (λ_ _ _ _=>False):=λ_ _ _ _ _ _ _ _ z=>z.elim
def uQ.note(x:uQ X ϵ σ H s e cls d)(a:X.stack=X.env::X.outer)(f:X.env.frame=some X.env.locals)(k:∀s' T,Inv X ϵ σ H s'->cP s'.heap e cls d (some T) (rawInt X.env.locals)->(∀b∈[e,T],H b=none/\Ch X ϵ b)->Q PUnit.unit s'):ν M X.A (noteFrame (.ref e) X.env) Q E s:=by
 let#[I,tb,m,F,c,ch]:=x;obtain z|⟨z,i⟩:=c
 .subst z;let hl:=I.stack;rw[a]at hl;show aiH (base:=X.base) (I.ok.frames.trans (by rw[a])) hl f F λh' T N g j=>k _ T (I.noted (by rw[a];show N) ch) j λb l=>?_
  obtain z|z:=ϳ.mp l
  .subst z;show ch _ ac3
  .let z':b=T:=by simpa using z
   subst z';show#[I.hok.fresh g,I.ch (anP g)]
 .subst z;cases tb with
  |none=>cases i
  |some T=>show agd f F rfl (k s T I F ch)
def Inv.off(I:Inv X ϵ σ H s)(F:cP s.heap e cls d (some T) a)(c:∀b∈[e,T],H b=none/\Ch X ϵ b)(k:∀s',Inv X ϵ σ H s'->cP s'.heap e cls d (some T) .none->Q PUnit.unit s'):ν M A (setFlight (.ref e) none) Q E s:=by
 show adF F λh' N f=>k _ (I.noted (ch:=[T]) #[λb o q _ n=>N.keep b o q (by simp) n,N.slot,N.there] λb g=>?_) f
 let z:b=T:=by simpa using g
 subst z;show c b (by simp)
end
def Ϡ{cc:Bool}{P:Ϯ}{w:ϭ}{K:Ϩ}{mg:Str->Option ε}{base:ϫ}{qual:Str}{scope:agV}{f:δ}{cd:ε}{A:ϲ}{s₀:μ}{H₀:Hp}{E:XK}:dj (my cc (cU P w) P w K mg base N qual scope f cd A outer s₀ H₀ E) (λ_=>E):=by
 intro ϵ σ H s e cls d x q;show ν _ _ (leaving _ _) _ _ s;unfold leaving;show Ϧ (x.note rfl rfl λl T c g c1=>?_);show c.off g c1 λm a i=>?_
 show#[e,some T,cls,d,H,rfl,a.os,a.bare,a.base,a.hok,i,λb j=>?_,q];let z:=c1 b (by simpa using j);show#[z.1,?_];obtain y|y:=z.2.1
 .show absurd (show b∈([]:List δ)from y) (by simp)
 .show y
theorem aht{cc:Bool}{P:Ϯ}{w:ϭ}{K:Ϩ}{mg:Str->Option ε}{base:ϫ}{qual:Str}{scope:agV}{f:δ}{cd:ε}{A:ϲ}{s₀:μ}{H₀:Hp}{E:XK}:ajU (ϩ P w) (A.deeper (envOfC qual scope s₀.heap.objs.size f cd)) (envOfC qual scope s₀.heap.objs.size f cd) (my cc (cU P w) P w K mg base N qual scope f cd A outer s₀ H₀ E).xe:=PassesOwn.leaving
section
variable{X:Cx}{Kx:St->XK}{cc:Bool}{k k':Nat}{f C:δ}{fd:ahh}{ps:List Str}{sp:Sp}{x m:Str}{p pos apos:Pos}{e o:ϧ}{es:List ϧ}{σ:St}{H:Hp}{Q:VK}
def wD(F:dM X.prog X.w X.K X.mg X.base (cU X.prog X.w) cc k f fd ps sp)(i:Ϙ cc k X.A)(j:Binds X.K fd ps [])(l:dj X Kx)(I:Inv X ϵ σ H s)(r:Vals vs us)(h:sp vs H Q (Kx σ)):ν (ϩ X.prog X.w) X.A (call (.ref f) us) (EP X ϵ σ Q) X.xe s:=by
 let hl:us.length=ps.length:=by rw[<-r.length];show F.len _ _ _ _ h
 let c:=j s us I.kIn (by simpa using hl);rw[aoJ]at c;show wpAny_call (aks (F.run X.A X.stack s H #[us,[]] us vs Q (Kx σ) i I.env0 c r h) λr s' g=>?_);cases r with
 |error e=>
  let#[a,cls,d,H',rfl,m,q]:=I.flown g;show l ϵ σ H' s' a cls d m q
 |ok n=>
  cases n with
  |ret u=>show I.after g
  |next=>show False.elim g
  |brk=>show False.elim g
  |cont=>show False.elim g
end
def EV(X:Cx)(e:ϧ)(σ:St)(H:Hp)(Q:VK):Prop:=
 ∀(ϵ:List (δ×Obj))(s:μ),Inv X ϵ σ H s->ν (ϩ X.prog X.w) X.A (eval e X.env) (EP X ϵ σ Q) X.xe s
def ET(X:Cx)(e:ϧ)(σ:St)(H:Hp)(Q:Bool->Hp->Prop):Prop:=
 ∀(ϵ:List (δ×Obj))(s:μ),Inv X ϵ σ H s->ν (ϩ X.prog X.w) X.A (isTrue e X.env (eval e X.env)) (TP X ϵ σ Q) X.xe s
def EW(X:Cx)(e:ϧ)(σ:St)(H:Hp)(Q:Bool->Hp->Prop):Prop:=
 ∀(a:Sem ε)(ϵ:List (δ×Obj))(s:μ),Inv X ϵ σ H s->ν (ϩ X.prog X.w) X.A (isTrue e X.env a) (TP X ϵ σ Q) X.xe s
def EA(X:Cx)(es:List ϧ)(σ:St)(H:Hp)(Q:List V->Hp->Prop):Prop:=
 ∀(pos:Pos)(ϵ:List (δ×Obj))(s:μ),Inv X ϵ σ H s->ν (ϩ X.prog X.w) X.A (spliced (backTo pos (abP es X.env))) (AP X ϵ σ Q) X.xe s
def EO(X:Cx)(e:Option ϧ)(σ:St)(H:Hp)(Q:Option Int->Hp->Prop):=∃t,PO X e t/\t σ H Q
def SX(X:Cx)(st:π)(D:Ends)(σ:St)(H:Hp):Prop:=
 ∀(ϵ:List (δ×Obj))(s:μ),Inv X ϵ σ H s->ν (ϩ X.prog X.w) X.A (exec st X.env) (SP X ϵ D) X.xe s
def Ι(X:Cx)(st:List π)(D:Ends)(σ:St)(H:Hp):Prop:=
 ∀(ϵ:List (δ×Obj))(s:μ),Inv X ϵ σ H s->ν (ϩ X.prog X.w) X.A (execs st X.env) (SP X ϵ D) X.xe s
def EG(X:Cx)(tg:ϧ)(v:V)(σ:St)(H:Hp)(Q:St->Hp->Prop):Prop:=
 ∀(ϵ:List (δ×Obj))(s:μ)(u:ε),Inv X ϵ σ H s->RelV v u->ν (ϩ X.prog X.w) X.A (assign tg X.env u) (λ_ s'=>∃σ' H',Inv X ϵ σ' H' s'/\Q σ' H') X.xe s
def ur(X:Cx)(a:List ϧ)(vs:List V)(σ:St)(H:Hp)(Q:St->Hp->Prop):Prop:=
 ∀(ϵ:List (δ×Obj))(s:μ)(us:List ε),Inv X ϵ σ H s->Vals vs us->ν (ϩ X.prog X.w) X.A (assignInOrder ((assignEach a X.env).map (·.2)) us) (λ_ s'=>∃σ' H',Inv X ϵ σ' H' s'/\Q σ' H') X.xe s
def EI(X:Cx)(tg iter:ϧ)(σ:St)(H:Hp)(R:It->Hp->Prop):Prop:=
 ∀(ϵ:List (δ×Obj))(s:μ),Inv X ϵ σ H s->
  ν (ϩ X.prog X.w) X.A (eval iter X.env) (λv a=>ν (ϩ X.prog X.w) X.A (pyIter v) (Ax X ϵ σ tg R) X.xe a) X.xe s
def OP(X:Cx)(f:ε->ε->Sem ε)(x y:V)(H:Hp)(Q:VK):=∃r,aV X f r/\r x y H Q
def UN(X:Cx)(f:ε->Sem ε)(x:V)(H:Hp)(Q:VK):=∃r,yK X f r/\r x H Q
def CL(X:Cx)(f:ε)(xs:List V)(H:Hp)(Q:VK):=∃r,iR X f r/\r xs H Q
def IX(X:Cx)(x y:V)(H:Hp)(Q:VK):=∃r,qX X r/\r x y H Q
def SL(X:Cx)(x:V)(lo hi:Option Int)(H:Hp)(Q:VK):=∃r,vX X r/\r x lo hi H Q
def MT(X:Cx)(id:String)(x:V)(xs:List V)(H:Hp)(Q:VK):=∃r,Jk X id r/\r x xs H Q
section
variable{X:Cx}{a b c e:ϧ}{es:List ϧ}{σ:St}{H:Hp}{Q:VK}{QT:Bool->Hp->Prop}{QA:List V->Hp->Prop}{D:Ends}{pos p apos:Pos}{x:Str}{v:V}
theorem dB:PE X e (EV X e):=λϵ s _ _ _ I h=>h ϵ s I
theorem ahT:PT X e (ET X e):=λϵ s _ _ _ I h=>h ϵ s I
theorem agZ:PW X e (EW X e):=λa ϵ s _ _ _ I h=>h a ϵ s I
theorem W6:PO X o (EO X o):=λϵ s σ H Q I z=>by let#[_,h,q]:=z;show h ϵ s σ H Q I q
theorem Dt{st:List π}:Fb X st (Ι X st):=λϵ s _ _ _ I h=>h ϵ s I
theorem pZ:aV X f (OP X f):=λϵ s σ H x y v u Q I rx ry z=>by let#[_,h,q]:=z;show h ϵ s σ H x y v u Q I rx ry q
theorem ah6:yK X f (UN X f):=λϵ s σ H x v Q I rx z=>by let#[_,h,q]:=z;show h ϵ s σ H x v Q I rx q
theorem Nh:iR X f (CL X f):=λϵ s σ H xs us Q I rx z=>by let#[_,h,q]:=z;show h ϵ s σ H xs us Q I rx q
theorem ai4:qX X (IX X):=λa sl ϵ s σ H x y v u Q I rx ry z hs=>by let#[_,h,q]:=z;show h a sl ϵ s σ H x y v u Q I rx ry q hs
theorem ak8:vX X (SL X):=λϵ s σ H x v a c lo hi sl Q I rx hs pl e z=>by let#[_,h,q]:=z;show h ϵ s σ H x v a c lo hi sl Q I rx hs pl e q
theorem RG{id:String}:Jk X id (MT X id):=λϵ s σ H x xs v us Q I rx rs z=>by let#[_,h,q]:=z;show h ϵ s σ H x xs v us Q I rx rs q
theorem uA(h:PE X e t)(q:t σ H Q):EV X e σ H Q:=λϵ s I=>h ϵ s σ H Q I q
theorem ajj(h:PT X e t)(q:t σ H QT):ET X e σ H QT:=λϵ s I=>h ϵ s σ H QT I q
def fZ:List Str->St->Str->Option V
 |n::N,o::σ,x=>if n=x then o else fZ N σ x
 |_,_,_=>none
theorem J8:∀{N:List Str}{σ:St}{x:Str}{v:V},fZ N σ x=some v->∃i:Nat,N[i]?=some x/\σ[i]?=some (some v)
 |n::N,o::σ,x,v,h=>by
  unfold fZ at h;split at h
  .rename_i e;show#[0,by simp[e],by simp[h]]
  .let#[i,h1,h2]:=J8 h;show#[i+1,by simpa using h1,by simpa using h2]
 |[],_,_,_,h=>by simp[fZ]at h
 |_::_,[],_,_,h=>by simp[fZ]at h
def nameAt:List Str->Str->Option Nat
 |n::N,x=>if n=x then some 0 else(nameAt N x).map (· +1)
 |[],_=>none
theorem v7:∀{N:List Str}{x:Str}{i:Nat},nameAt N x=some i->N[i]?=some x
 |n::N,x,i,h=>by
  unfold nameAt at h;split at h
  .rename_i e;cases h;simp[e]
  .cases q:nameAt N x with
   |none=>rw[q]at h;cases h
   |some j=>
    rw[q]at h;cases h;simpa using v7 q
 |[],_,_,h=>by simp[nameAt]at h
def adY(c:fZ X.N σ x=some v)(e:uf X.env.scope x)(q:Q v H)(hd:(x==("__debug__":Str))=false)(a:(x==("__classdict__":Str))=false):EV X (.Name x pos) σ H Q:=by
 let#[i,h1,h2]:=J8 c;show uA (ab6 h1 e hd a) #[v,h2,q]
def Gc(mg:Str->Option ε)(x:Str)(v:V):=∃u,mg x=some u/\RelV v u
def aed(g:Gc X.mg x v)(a:Gl X x)(q:Q v H)(hd:(x==("__debug__":Str))=false):EV X (.Name x pos) σ H Q:=by
 let#[u,h1,h2]:=g;show uA (MF a h1 h2 hd) q
theorem akA(a:Gl X x)(c:X.mg x=none)(e:bootBuiltins x=some (.type T))(q:Q (.ty T) H)(f:x≠"__name__")(hd:(x==("__debug__":Str))=false):EV X (.Name x pos) σ H Q:=λϵ s I=>ju I a c e #[(.ty T),H,I,rfl,q] f hd
theorem adE{j}(q:Q (.int i) H):EV X (.Constant (.int i) j pos) σ H Q:=λϵ s I=>wpAny_Constant_int #[.int i,H,I.tok _,#[_,rfl],q]
theorem agT{j}(q:Q (.bl i) H):EV X (.Constant (.bool i) j pos) σ H Q:=λϵ s I=>Constant_bool #[.bl i,H,I,rfl,q]
theorem alw{j}(q:Q .non H):EV X (.Constant .none j pos) σ H Q:=λϵ s I=>Constant_none #[.non,H,I,rfl,q]
theorem O4{j}(q:Q (.str i) H):EV X (.Constant (.str i) j pos) σ H Q:=λϵ s I=>Calls.Constant_str #[.str i,H,I.tok _,#[_,rfl],q]
def alk(h:EV X a σ H λx H1=>EV X b σ H1 λy H2=>OP X (binaryOp op) x y H2 Q):EV X (.BinOp a op b pos) σ H Q:=by
 intro ϵ s I;show wpAny_BinOp (Jt dB dB I h λv u c x y H2 e rx ry q=>pZ ϵ c σ H2 x y v u Q e rx ry q)
def agm(h:EV X a σ H λx H1=>UN X (unaryOp op) x H1 Q):EV X (.UnaryOp op a pos) σ H Q:=by
 intro ϵ s I;show UnaryOp_ (υ (h ϵ s I) λv c z=>by let#[x,H1,e,f,g]:=z;show ah6 ϵ c σ H1 x v Q e f g)
def agf(c:behindInMarks op b=false)(h:EV X a σ H λx H1=>EV X b σ H1 λy H2=>OP X (ada op) x y H2 Q):EV X (.Compare a [op] [b] pos) σ H Q:=by
 intro ϵ s I;show wpAny_Compare1 (Jt dB dB I h λv u e x y H2 f rx ry q=>pZ ϵ e σ H2 x y v u Q f rx ry q) c
def agt(g:behindInMarks op b=false)(h:EV X a σ H λx H1=>EV X b σ H1 λy H2=>OP X (ada op) x y H2 λz f=>∃k,z=.bl k/\QT k f):ET X (.Compare a [op] [b] pos) σ H QT:=by
 intro ϵ s I;show wpAny_isTrue_Compare1 (υ (h ϵ s I) λv i ⟨x,H1,j,l,m⟩=>υ (m ϵ i j) λu n ⟨y,H2,p,q,B⟩=>
  υ (pZ ϵ n σ H2 x y v u _ p l q B) λc G ⟨z,f,D,E,k,e,F⟩=>?_) g
 subst e;cases E;show aft #[f,D,F]
def adz(p:lastMarks [op,f] [b,c]=false)(h:EV X a σ H λx H1=>EV X b σ H1 λy H2=>OP X (ada op) x y H2 λz g=>∃k,z=.bl k/\(if k=true then EV X c σ g λi j=>OP X (ada f) y i j Q else Q (.bl false) g)):EV X (.Compare a [op,f] [b,c] pos) σ H Q:=by
 intro ϵ s I;show Compare_chain (υ (h ϵ s I) λv q ⟨x,H1,B,D,E⟩=>chain_link (υ (E ϵ q B) λu F ⟨y,H2,G,l,J⟩=>
  υ (pZ ϵ F σ H2 x y v u _ G D l J) λd L ⟨z,g,m,M,k,e,n⟩=>?_)) p
 subst e;cases M;show aft ?_;cases k with
 |false=>show ite_ff #[.bl false,g,m,rfl,n]
 |true=>show ite_tt (chain_last (υ (n ϵ L m) λi O z=>by let#[z',j,P,R,S]:=z;show pZ ϵ O σ j y z' u i Q P l R S))
def ahB(q:lastMarks [op,f] [b,c]=false)(h:EV X a σ H λx H1=>EV X b σ H1 λy H2=>OP X (ada op) x y H2 λz g=>∃k,z=.bl k/\(if k=true then EV X c σ g λi j=>OP X (ada f) y i j λz' l=>∃k',z'=.bl k'/\QT k' l else ∃k',V.bl false=.bl k'/\QT k' g)):ET X (.Compare a [op,f] [b,c] pos) σ H QT:=by
 intro ϵ s I;show isTrue_chain (υ (h ϵ s I) λv B ⟨x,H1,D,E,F⟩=>test_link (υ (F ϵ B D) λu G ⟨y,H2,J,m,L⟩=>
  υ (pZ ϵ G σ H2 x y v u _ J E m L) λd M ⟨z,g,n,O,k,e,p⟩=>?_)) q
 subst e;cases O;show aft ?_;cases k with
 |false=>
  let#[k',P,Q]:=p;cases P;show ite_ff #[g,n,Q]
 |true=>
  show ite_tt (test_last (υ (p ϵ M n) λi R ⟨z',j,S,T,U⟩=>υ (pZ ϵ R σ j y z' u i _ S m T U) λd' s5 W=>?_));let#[z2,l,Y,Z,k2,e2,q5]:=W;subst e2;cases Z;show aft #[l,Y,q5]
def PN(c:∀a,isTrue e X.env a=(do let v<-a;standAt e.pos;holding [v] (truthy v)))(h:EV X e σ H λx H'=>∃k,Jo X.K x H' k/\QT k H'):ET X e σ H QT:=by
 intro ϵ s I;show isTrue_plain (υ (h ϵ s I) λv f z=>by let#[x,H1,g,i,j]:=z;show acY ϵ f σ H1 x v QT g i j) (c _)
def aa1(h:ET X a σ H λk H1=>QT (!k) H1):ET X (.UnaryOp .Not a pos) σ H QT:=by
 intro ϵ s I;show isTrue_not (h ϵ s I)
theorem lZ(h:EW X e σ H QT):ET X e σ H QT:=ajj agZ.pt h
def ag8{rest:List ϧ}(h:ET X a σ H λk H1=>if k=true then EW X (.BoolOp .And (b::rest) pos) σ H1 QT else QT false H1):EW X (.BoolOp .And (a::b::rest) pos) σ H QT:=by
 intro g ϵ s I;show isTrue_and (υ (h ϵ s I) λc i j=>?_);let#[H1,e,f]:=j;cases c with
 |true=>show f g ϵ i e
 |false=>show#[H1,e,f]
def abU{rest:List ϧ}(h:ET X a σ H λk H1=>if k=true then QT true H1 else EW X (.BoolOp .Or (b::rest) pos) σ H1 QT):EW X (.BoolOp .Or (a::b::rest) pos) σ H QT:=by
 intro g ϵ s I;show isTrue_or (υ (h ϵ s I) λc i j=>?_);let#[H1,e,f]:=j;cases c with
 |true=>show#[H1,e,f]
 |false=>show f g ϵ i e
def aeI(h:ET X a σ H QT):EW X (.BoolOp .And [a] pos) σ H QT:=by
 intro f ϵ s I;show isTrue_and (υ (h ϵ s I) λc g e=>?_);cases c with
 |true=>show isTrue_and_nil e
 |false=>show e
def aih(h:ET X a σ H QT):EW X (.BoolOp .Or [a] pos) σ H QT:=by
 intro f ϵ s I;show isTrue_or (υ (h ϵ s I) λc g e=>?_);cases c with
 |false=>show isTrue_or_nil e
 |true=>show e
theorem V3{op}(h:EV X a σ H Q):EV X (.BoolOp op [a] pos) σ H Q:=λϵ s I=>BoolOp_one (h ϵ s I)
def aic{rest:List ϧ}(h:EV X a σ H λx H1=>∃k,x=.bl k/\if k=true then EV X (.BoolOp .And (b::rest) pos) σ H1 Q else Q (.bl false) H1):EV X (.BoolOp .And (a::b::rest) pos) σ H Q:=by
 intro ϵ s I;show BoolOp_and (υ (h ϵ s I) λv g i=>?_);let#[x,H1,f,j,e]:=i;let#[c,rfl,e]:=e;cases j;show aft ?_;cases c with
 |true=>show e ϵ g f
 |false=>show#[.bl false,H1,f,rfl,e]
def acg{rest:List ϧ}(h:EV X a σ H λx H1=>∃k,x=.bl k/\if k=true then Q (.bl true) H1 else EV X (.BoolOp .Or (b::rest) pos) σ H1 Q):EV X (.BoolOp .Or (a::b::rest) pos) σ H Q:=by
 intro ϵ s I;show BoolOp_or (υ (h ϵ s I) λv g i=>?_);let#[x,H1,f,j,e]:=i;let#[c,rfl,e]:=e;cases j;show aft ?_;cases c with
 |false=>show e ϵ g f
 |true=>show#[.bl true,H1,f,rfl,e]
def aeF(h:EV X a σ H λx H1=>∃k,x=.bl k/\Q (.bl (!k)) H1):EV X (.UnaryOp .Not a pos) σ H Q:=by
 intro ϵ s I;show UnaryOp_ (υ (h ϵ s I) λv j f=>?_);let#[x,H1,g,i,e]:=f;let#[c,rfl,e]:=e;cases i;show not_of (aft #[.bl (!c),H1,g,rfl,e])
def ajl(h:ET X c σ H λk H1=>if k=true then EV X a σ H1 Q else EV X b σ H1 Q):EV X (.IfExp c a b pos) σ H Q:=by
 intro ϵ s I;show wpAny_IfExp (υ (h ϵ s I) λd e i=>?_);let#[H1,f,g]:=i;cases d with
 |true=>show g ϵ e f
 |false=>show g ϵ e f
theorem jw(q:QA [] H):EA X [] σ H QA:=λpos ϵ s I=>Calls.spliced_nil #[[],H,I,.nil,q]
def dH(hs:abP (e::es) X.env=(false,eval e X.env)::abP es X.env)(h:EV X e σ H λx H1=>EA X es σ H1 λxs H2=>QA (x::xs) H2):EA X (e::es) σ H QA:=by
 intro pos ϵ s I;rw[hs];show ν _ _ (spliced ((false,eval e X.env)::backTo pos (abP es X.env))) _ _ s;show Calls.spliced_cons (υ (h ϵ s I) λu a c=>?_);let#[x,H1,f,g,i]:=c;show υ (i pos ϵ a f) λus n z=>by let#[xs,H2,j,l,m]:=z;show #[x::xs,H2,j,.cons g l,m]
def Ed{x1}(h:EA X es σ H λxs H1=>xs.length<=ϯ/\∀p,H1 p=none->Q (.ref p) (upd H1 p (.tup xs))):EV X (.Tuple es x1 pos) σ H Q:=by
 intro ϵ s I;show wpAny_Tuple_spliced (υ (h pos ϵ s I) λus a ⟨xs,H1,c,r,z,q⟩=>#[by rw[<-r.length];show z,?_]);let f:H1 a.heap.objs.size=none:=c.hok.fresh (Ϭ _);show#[.ref a.heap.objs.size,upd H1 a.heap.objs.size (.tup xs),c.laid (t':=a.toks) (λb u e=>ϴ _ e) (Ϭ _) ?_,rfl,q _ f];show#[z,us,r,#[_,aaT _ rfl,rfl,_,rfl]]
def aeJ(h:EA X es σ H λxs H1=>xs.length<=ϯ/\∀p,H1 p=none->Q (.ref p) (upd H1 p (.lst xs))):EV X (.List es pos) σ H Q:=by
 intro ϵ s I;show wpAny_List_spliced (υ (h pos ϵ s I) λus a ⟨xs,H1,c,r,z,q⟩=>#[by rw[<-r.length];show z,?_]);let f:H1 a.heap.objs.size=none:=c.hok.fresh (Ϭ _);show#[.ref a.heap.objs.size,upd H1 a.heap.objs.size (.lst xs),c.laid (t':=a.toks) (λb u e=>ϴ _ e) (Ϭ _) ?_,rfl,q _ f];show#[z,us,0,r,aaT _ rfl]
def aco{id:String}(f:Gl X x)(g:X.mg x=none)(i:bootBuiltins x=some (.builtin id))(j:x≠"__name__")(a:(x==("__debug__":Str))=false)(l:abP (e::es) X.env=(false,eval e X.env)::abP es X.env)(c:(backTo pos (abP es X.env)).any (·.1)=false)(h:EA X (e::es) σ H λvs H1=>CL X (.builtin id) vs H1 Q):EV X (.Call (.Name x p) (e::es) [] pos) σ H Q:=by
 intro ϵ s I;show ajv (ju I f g i ?_ j a);show PyProof.Rows.callWith_builtin1 (υ (h pos ϵ s I) λus m z=>by let#[vs,H1,n,q,u]:=z;show Nh ϵ m σ H1 vs us Q n q u) l c
def amQ(f:Gl X x)(g:X.mg x=none)(i:bootBuiltins x=some (.type T))(j:x≠"__name__")(a:(x==("__debug__":Str))=false)(l:abP (e::es) X.env=(false,eval e X.env)::abP es X.env)(c:(backTo pos (abP es X.env)).any (·.1)=false)(h:EA X (e::es) σ H λvs H1=>CL X (.type T) vs H1 Q):EV X (.Call (.Name x p) (e::es) [] pos) σ H Q:=by
 intro ϵ s I;show ajv (ju I f g i ?_ j a);show PyProof.Rows.callWith_type1 (υ (h pos ϵ s I) λus m z=>by let#[vs,H1,n,q,u]:=z;show Nh ϵ m σ H1 vs us Q n q u) l c
structure Def(P:Ϯ)(w:ϭ)(K:Ϩ)(mg:Str->Option ε)(base:ϫ)(cc:Bool)(k:Nat)(x:Str)(ps:List Str)(sp:Sp):Prop where
 ex:∃f fd,mg x=some (.ref f)/\aok K (.ref f)=true/\Binds K fd ps []/\dM P w K mg base (cU P w) cc k f fd ps sp
theorem Ϙ.vY(r:Ϙ cc k A)(h:cA=true->cc=true):Ϙ cA k A:=#[λz=>r.hd (h z),r.dp,r.un]
def ac7(F:Def X.prog X.w X.K X.mg X.base cA k x ps sp)(j:Ϙ cc k' X.A)(l:k<=k')(a:cA=true->cc=true)(m:Gl X x)(n:dj X Kx)(c:(x==("__debug__":Str))=false)(u:abP (e::es) X.env=(false,eval e X.env)::abP es X.env)(g:(backTo pos (abP es X.env)).any (·.1)=false)(h:EA X (e::es) σ H λvs H1=>sp vs H1 Q (Kx σ)):EV X (.Call (.Name x p) (e::es) [] pos) σ H Q:=by
 let#[f,fd,h1,h2,v,y]:=F.ex;intro ϵ s I;show ajv (Cr I m h1 ?_ c);show aq3 (h₀:=X.base) I.ok.mod.kin h2 (υ (h pos ϵ s I) λus z ⟨vs,H1,i,r,q⟩=>#[i.kIn,?_]) u g;show wD y ((j.mono l).vY a) v n i r q
def afz(hs:aja b)(h:EV X a σ H λx H1=>EV X b σ H1 λy H2=>IX X x y H2 Q):EV X (.Subscript a b pos) σ H Q:=by
 intro ϵ s I;show Subscript_ (Jt dB dB I h λv u c x y H2 e rx ry q=>ai4 a b ϵ c σ H2 x y v u Q e rx ry q (hs _ _))
theorem alS(q:QO none H):EO X none σ H QO:=#[_,acV,q]
theorem aeX(q:EV X e σ H λx H1=>∃i,x=.int i/\QO (some i) H1):EO X (some e) σ H QO:=#[_,adm dB,q]
def ad6{lo hi:Option ϧ}(h:EV X a σ H λx H1=>EO X lo σ H1 λl H2=>EO X hi σ H2 λu e=>SL X x l u e Q):EV X (.Subscript a (.Slice lo hi none p2) pos) σ H Q:=by
 intro ϵ s I;show Subscript_ (υ (h ϵ s I) λv j i=>?_);let#[x,H1,m,n,p]:=i;show wpAny_Slice (υ (W6 ϵ j σ H1 _ m p) λf y ⟨l,H2,z,pl,B⟩=>υ (W6 ϵ y σ H2 _ z B) λg c i=>?_);let#[u,e,D,E,F]:=i;rw[evalPart_none];show ϱ ?_;let G:Inv X ϵ σ e {c with heap:=c.heap.push {cls:=.type "slice",data:=.fields #v[f,g,.none]}}:=D.kept (t':=c.toks) λb O q=>ϴ _ q
 let#[T,id,J,L,M]:=ak8 ϵ {c with heap:=c.heap.push {cls:=.type "slice",data:=.fields #v[f,g,.none]}} σ e x v f g l u c.heap.objs.size Q G n (Heap.IsSliceOf.new ..) pl E F;show ν (ϩ X.prog X.w) X.A (subscriptTail a (.Slice lo hi none p2) v (.ref c.heap.objs.size)) (EP X ϵ σ Q) X.xe {c with heap:=c.heap.push {cls:=.type "slice",data:=.fields #v[f,g,.none]}};show tail_any (ops:=[.ref c.heap.objs.size,v]) L J M (by with_unfolding_all rfl)
def bU{T id:String}(p:PlainAttrs T)(slot:Slot T name id)(j:typeOf (.builtin id)=pure (.type "method_descriptor"))(f:attributeBase a name X.env (eval a X.env)=eval a X.env:=by rfl)(i:((backTo pos (abP (e::es) X.env)).all (λx=> !x.1)&&(backToKw pos (keywordEach [] X.env)).all (λx=>x.1.isSome)
   &&decide ((e::es).length+([]:List Keyword).length+(if([]:List Keyword).isEmpty then 0 else 1)<30))=true:=by rfl)(g:(apos.endLine==pos.line)=true:=by rfl)(hs:abP (e::es) X.env=(false,eval e X.env)::abP es X.env:=by rfl)(c:(backTo pos (abP es X.env)).any (·.1)=false:=by rfl)(h:EV X a σ H λx H1=>sV X.K T x H1/\EA X (e::es) σ H1 λxs H2=>MT X id x xs H2 Q):EV X (.Call (.Attribute a name apos) (e::es) [] pos) σ H Q:=by
 intro ϵ s I;show wpAny_Call_method_late f i g rfl (υ (h ϵ s I) λv q u=>?_);let#[x,H1,l,m,ty,y]:=u;let#[h1,h2]:=Zr l m ty;show#[T,id,p,slot,j,h1,h2,?_];let n:=y pos ϵ q l;rw[hs]at n⊢;show Calls.callWith_builtin (by show(false||(backTo pos (abP es X.env)).any (·.1))=false;rw[c]<;>rfl) (Calls.evalArgs_plain ?_);show υ n λus z z1=>by let#[vs,H2,B,D,E]:=z1;show RG ϵ z σ H2 x vs v us Q B m D E
def afK{T id:String}(j:PlainAttrs T)(slot:Slot T name id)(f:typeOf (.builtin id)=pure (.type "method_descriptor"))(c:attributeBase a name X.env (eval a X.env)=eval a X.env)(e:(apos.endLine==pos.line)=true)(h:EV X a σ H λx H1=>sV X.K T x H1/\MT X id x [] H1 Q):EV X (.Call (.Attribute a name apos) [] [] pos) σ H Q:=by
 intro ϵ s I;show wpAny_Call_method0_late c e (υ (h ϵ s I) λv l m=>?_);let#[x,H1,g,i,ty,n]:=m;let#[h1,h2]:=Zr g i ty;show#[T,id,j,slot,f,h1,h2,Calls.callWith_builtin rfl (PySem.evalArgs_none (RG ϵ l σ H1 x [] v [] Q g i .nil n))]
theorem Γ(q:D.nx σ H):Ι X [] D σ H:=λϵ s I=>wpAny_execs_nil #[σ,H,I,q]
def xK{st:π}{rest:List π}(h:SX X st {D with nx:=λσ' H'=>Ι X rest D σ' H'} σ H):Ι X (st::rest) D σ H:=by
 intro ϵ s I;show wpAny_execs_cons (υ (h ϵ s I) λf a q=>?_);cases f with
 |next=>
  let#[σ',H',c,q]:=q;show q ϵ a c
 |ret v=>show q
 |brk=>show q
 |cont=>show q
def abB{st:π}(h:SX X st D σ H):Ι X [st] D σ H:=by
 intro ϵ s I;show wpAny_execs_cons (υ (h ϵ s I) λf a q=>?_);cases f with
 |next=>show wpAny_execs_nil q
 |ret v=>show q
 |brk=>show q
 |cont=>show q
def aM(h:EV X e σ H λ_ H1=>D.nx σ H1)(hs:aoD e none pos.line X.env=pure false:=by rfl):SX X (.Expr e pos) D σ H:=by
 intro ϵ s I;show wpAny_Expr_any (υ (h ϵ s I) λv f z=>by let#[x,H1,a,g,c]:=z;show #[σ,H1,a,c]) I.quiet hs
def ψ(h:EV X e σ H D.rt):SX X (.Return (some e) pos) D σ H:=by
 intro ϵ s I;show wpAny_Return_some (υ (h ϵ s I) λv g z=>by let#[x,H1,a,c,f]:=z;show #[x,σ,H1,a,c,f])
def Μ(h:ET X c σ H λk H1=>if k=true then Ι X t D σ H1 else Ι X u D σ H1):SX X (.If c t u pos) D σ H:=by
 intro ϵ s I;show wpAny_If (υ (h ϵ s I) λd a g=>?_);let#[H1,e,f]:=g;cases d with
 |true=>show f ϵ a e
 |false=>show f ϵ a e
def alu(a:X.N.Nodup)(hi:nameAt X.N x=some i)(c:Loc X.env.scope x)(hs:aoD e (some (.Name x p')) pos.line X.env=pure false)(f:X.fn x=true\/X.env.scope.names.lookup x=some .local)(h:EV X e σ H λv H1=>D.nx (σ.set i (some v)) H1):SX X (.Assign [.Name x p'] e pos) D σ H:=by
 intro ϵ s I;show wpAny_Assign_Name (υ (h ϵ s I) λv p g=>?_) hs;let#[y,H1,j,l,m]:=g;show Lq j a (v7 hi) c l (λq n=>#[_,H1,n,m]) f
def ω(a:X.N.Nodup)(hi:nameAt X.N x=some i)(c:Loc X.env.scope x)(e:X.fn x=true\/X.env.scope.names.lookup x=some .local)(q:QG (σ.set i (some v)) H):EG X (.Name x pos) v σ H QG:=by
 intro ϵ s u I r;show wpAny_assign_Name (Lq I a (v7 hi) c r (λs' f=>#[_,H,f,q]) e)
def ak(q:QG σ H):ur X [] [] σ H QG:=by
 intro ϵ s us I r;cases r;show assignInOrder_nil #[σ,H,I,q]
def Κ{a:List ϧ}{QG:St->Hp->Prop}(h:EG X e v σ H λσ' H'=>ur X a vs σ' H' QG)(hs:(assignEach (e::a) X.env).map (·.2)=assign e X.env::(assignEach a X.env).map (·.2):=by rfl):ur X (e::a) (v::vs) σ H QG:=by
 intro ϵ s us I r;cases r with
 |cons r c=>
  rw[hs];show assignInOrder_cons (υ (h ϵ s _ I r) λ_ f g=>?_);let#[i,H1,j,l]:=g;show l ϵ f _ j c
def ao{n:Nat}{k:Nat}{QG:St->Hp->Prop}(a:ι X.K H q xs)(h:ur X es xs σ H QG)(g:X.calm=true:=by rfl)(i:(assignEach es X.env).length=n:=by rfl)(c:(assignEach es X.env).findIdx? (·.1)=none:=by rfl)(hl:xs.length=n:=by rfl):EG X (.Tuple es k pos) (.ref q) σ H QG:=by
 intro ϵ s u I r;cases r;let#[m,f,a,p]:=I.tuple a;show assign_Tuple_tuple (I.ok.hd g) a (by simp[i, <-hl,f.length]) c λh' j=>?_
 let l:Inv X ϵ σ H {s with heap:=h'}:=I.kept (t':=s.toks) λb o e=>j b o (acE (abQ e)) e
 show h ϵ _ _ l (by simpa using f)
def mC(B:ajU (ϩ X.prog X.w) X.A X.env X.xe)(U:X.calm=true)(hs:∀x,foldedSetIterable iter X.env x=pure x)(h:EI X tg iter σ H λJ H1=>∃W:Nat->Nat->St->Hp->Prop,(∃m,W 0 m σ H1)/\∀i m σ H,W i m σ H->
   (J.stop i H/\D.nx σ H)\/(J.go i H/\∃N:St->Hp->Prop,(∀σ' H',N σ' H'->∃m',m'<m/\W (i+1) m' σ' H')/\∀x H',J.yld i H x H'->EG X tg x σ H' λM H2=>Ι X body {D with nx:=N,ct:=N,bk:=D.nx} M H2)):SX X (.For tg iter body [] pos) D σ H:=by
 intro ϵ s I;show wpAny_For (υ (h ϵ s I) λv s1 h1=>υ h1 λitv s2 h2=>?_) hs;let#[it,fp,Y,J,H2,e,I2,T,O,Z,W,#[m0,w0],turn]:=h2;subst e;let c:∀{H':Hp},(∀b∈fp,H' b=none)->∀b∈fp,bR X ϵ H' b:=λhn b l=>#[hn b l,(Z b l).2]
 show codeAny_forLoop_any (λn s'=>∃i σ' H',Inv X ϵ σ' H' s'/\Y i s'.heap/\(∀b∈fp,H' b=none)/\W i n σ' H') ?_ m0 #[0,σ,H2,I2,O,λb l=>(Z b l).1,w0]
 rintro n s3 ⟨i,p,L,I3,E,F,w3⟩
 obtain⟨stop,qn⟩|⟨go,N,hN,step⟩:=turn i n p L w3
 .show ajV B (υ (T.done X rfl rfl rfl U i ϵ s3 p L X.xe I3 (c F) E stop) λr s4 y=>?_);let#[P,I4]:=y;subst P;show wpAny_execs_nil #[p,L,I4,qn]
 .show ajV B (υ (T.item X rfl rfl rfl U i ϵ s3 p L X.xe I3 (c F) E go) λr s4 y=>?_);let#[u,P,h4]:=y;subst P;show ajV B (υ h4 λ_ s5 y=>?_);let#[x,H5,I5,r5,y5,z,Q]:=y;let R:=I5.pinned (c Q) (T.obj _ _ z);show ajV B (υ ((step x H5 y5) _ s5 u R r5) λ_ s6 y=>?_);let#[σ6,H6,I6,q6]:=y;show ajV B (υ (q6 _ s6 I6) λf S q=>?_);let again:∀{a:St}{g:Hp},Inv X (ϵ++gU fp s5.heap) a g S->N a g->∃m,m<n/\∃i σ' H',Inv X ϵ σ' H' S/\Y i S.heap/\(∀b∈fp,H' b=none)/\W i m σ' H':=λ{a g} j G=>by
   let#[m',hm,w7]:=hN a g G;show#[m',hm,i+1,a,g,j.unpinned,T.keep _ _ _ z λb l o e=>(j.pin (b,o) (ac6 _ (ac6 _ (zX l e)))).1,λb l=>?_,w7];let#[o,e,d]:=T.obj _ _ z b l;show(j.pin (b,o) (ac6 _ (ac6 _ (zX l e)))).2.1
  cases f with
  |next=>let#[a,g,j,G]:=q;show again j G
  |cont=>let#[a,g,j,G]:=q;show again j G
  |brk=>let#[a,g,j,q]:=q;show#[a,g,j.unpinned,q]
  |ret v=>let#[x7,a,g,j,r7,q]:=q;show#[x7,a,g,j.unpinned,r7,q]
def wH(h:EV X l σ H λx H1=>∃a,x=.ref a/\(∃xs,η X.K H1 a xs)/\R (kW X.K a) H1):EI X tg l σ H R:=by
 intro ϵ s I;show υ (h ϵ s I) λv c g=>?_
 let#[x,H1,f,i,j]:=g;let#[a,e,#[xs,m],q]:=j;subst e;cases i;let#[u,y,p,z]:=f.list m;show akz p.isList ?_;show#[c.heap.objs.size,[c.heap.objs.size],_,_,H1,rfl,f.kept (t':=c.toks) λb o e=>ϴ _ e,aen a _,#[_,aaT _ rfl,rfl,rfl],λb n=>?_,q];let e:b=c.heap.objs.size:=by simpa using n
 subst e;show f.fpOk (Ϭ _) (f.hok.fresh (Ϭ _))
def ab7(h:EV X l σ H λx H1=>∃a,x=.ref a/\(∃xs,ι X.K H1 a xs)/\R (qp X.K a) H1):EI X tg l σ H R:=by
 intro ϵ s I;show υ (h ϵ s I) λv c g=>?_
 let#[x,H1,f,i,j]:=g;let#[a,e,#[xs,m],q]:=j;subst e;cases i;let#[n,y,p,z]:=f.tuple m;show wpAny_pyIter_tuple (show c.heap.IsTuple a n.toArray from p) ?_;show#[c.heap.objs.size,[c.heap.objs.size],_,_,H1,rfl,f.kept (t':=c.toks) λb o e=>ϴ _ e,ae4 a _,#[_,aaT _ rfl,rfl,rfl],λb u=>?_,q];let e:b=c.heap.objs.size:=by simpa using u
 subst e;show f.fpOk (Ϭ _) (f.hok.fresh (Ϭ _))
def Gm(f:Gl X "range")(g:X.mg "range"=none)(hs:abP [a] X.env=[(false,eval a X.env)])(h:EA X [a] σ H λvs H1=>∃j:Int,vs=[.int j]/\ -(2^62)<=j/\j<2^62/\R (lN 0 j.toNat) H1):EI X tg (.Call (.Name "range" p) [a] [] pos) σ H R:=by
 intro ϵ s I;show Call_ (ju I f g boot_range (PyProof.Rows.callWith_type1 (υ (h pos ϵ s I) λus v i=>?_) hs rfl));let#[vs,H1,l,m,c]:=i;let#[j,e,c,n,q]:=c;subst e;cases m with
 |cons r u=>
  cases u;let#[t,rfl]:=r;show call_range_1 (akr l () () c n (by simpa using q))
theorem ϝ(h:EV X e σ H Q)(m:∀v H',Q v H'->Q' v H'):EV X e σ H Q':=λϵ s I=>υ (h ϵ s I) λ_ _ z=>by let#[v,H',a,r,q]:=z;show #[v,H',a,r,m v H' q]
theorem bz(h:aV X f r)(q:r y z H Q):OP X f y z H Q:=#[r,h,q]
theorem alT(q:Q (.int (i+j)) H):OP X (binaryOp .Add) (.int i) (.int j) H Q:=bz ajx #[i,j,rfl,rfl,q]
theorem alr(q:Q (.int (i-j)) H):OP X (binaryOp .Sub) (.int i) (.int j) H Q:=bz adK #[i,j,rfl,rfl,q]
theorem af4(c:yJ i j)(q:Q (.int (i*j)) H):OP X (binaryOp .Mult) (.int i) (.int j) H Q:=bz ahH #[i,j,rfl,rfl,c,q]
theorem aeh(c:aap i j)(q:Q (.int (i / j)) H):OP X (binaryOp .FloorDiv) (.int i) (.int j) H Q:=bz aiP #[i,j,rfl,rfl,c,q]
theorem afc(c:0<j)(q:Q (.int (i % j)) H):OP X (binaryOp .Mod) (.int i) (.int j) H Q:=bz adJ #[i,j,rfl,rfl,c,q]
theorem K1(c:VF i j)(q:Q (.int (i^j.toNat)) H):OP X (binaryOp .Pow) (.int i) (.int j) H Q:=bz ady #[i,j,rfl,rfl,c,q]
theorem adl(q:Q (.bl (decide (i<j))) H):OP X (ada .Lt) (.int i) (.int j) H Q:=bz ahr #[i,j,rfl,rfl,q]
theorem adQ(q:Q (.bl (decide (i<=j))) H):OP X (ada .LtE) (.int i) (.int j) H Q:=bz aaN #[i,j,rfl,rfl,q]
theorem adW(q:Q (.bl (decide (j<i))) H):OP X (ada .Gt) (.int i) (.int j) H Q:=bz adR #[i,j,rfl,rfl,q]
theorem ab5(q:Q (.bl (decide (j<=i))) H):OP X (ada .GtE) (.int i) (.int j) H Q:=bz air #[i,j,rfl,rfl,q]
theorem Kl{y z:V}(s:wL y z=true)(q:Q (.bl (decide (y=z))) H):OP X (ada .Eq) y z H Q:=bz adS #[s,q]
theorem JK{y z:V}(s:wL y z=true)(q:Q (.bl (!decide (y=z))) H):OP X (ada .NotEq) y z H Q:=bz ai1 #[s,q]
theorem am1(q:Q (.bl (decide (z.cps.toList<z'.cps.toList))) H):OP X (ada .Lt) (.str z) (.str z') H Q:=bz aeW #[z,z',rfl,rfl,q]
theorem amm(q:Q (.bl (!(Builtin.Str.occurrences z' z 0 z'.length 1).isEmpty)) H):OP X (ada .In) (.str z) (.str z') H Q:=bz alD #[z,z',rfl,rfl,q]
theorem ajo(q:Q (.bl (decide (y=.non))) H):OP X (ada .Is) y .non H Q:=bz abb #[rfl,q]
theorem af1(q:Q (.bl (!decide (y=.non))) H):OP X (ada .IsNot) y .non H Q:=bz afM #[rfl,q]
theorem dq(c:z.length+z'.length<=ϯ)(q:Q (.str (z++z')) H):OP X (binaryOp .Add) (.str z) (.str z') H Q:=bz amM #[z,z',rfl,rfl,c,q]
theorem aiO(q:Q (.int (-i)) H):UN X (unaryOp .USub) (.int i) H Q:=#[_,ak3,i,rfl,q]
theorem fM(h:iR X f r)(q:r vs H Q):CL X f vs H Q:=#[r,h,q]
theorem vG(h:η X.K H q ys\/ι X.K H q ys)(g:Q (.int ys.length) H):CL X (.builtin "len") [.ref q] H Q:=fM ah2 #[q,ys,rfl,h,g]
theorem aec(h:z.length<=ϯ)(g:Q (.int z.length) H):CL X (.builtin "len") [.str z] H Q:=fM ahX #[z,rfl,h,g]
theorem xH(g:Q (.int (if j<i then j else i)) H)(a:X.calm=true:=by rfl):CL X (.builtin "min") [.int i,.int j] H Q:=fM (alh a) #[i,j,rfl,g]
theorem Cm(g:Q (.int (if j>i then j else i)) H)(a:X.calm=true:=by rfl):CL X (.builtin "max") [.int i,.int j] H Q:=fM (ab0 a) #[i,j,rfl,g]
theorem j8(h:i.natAbs.log2<1920)(g:Q (.str (toString i)) H):CL X (.type "str") [.int i] H Q:=fM akx #[i,rfl,h,g]
theorem iJ(h:η X.K H q ys\/ι X.K H q ys)(g:∀l,H l=none->Q (.ref l) (upd H l (.lst ys))):CL X (.type "list") [.ref q] H Q:=fM aiW #[q,ys,rfl,h,g]
theorem Bg{y z:V}(h:qX X r)(q:r y z H Q):IX X y z H Q:=#[r,h,q]
theorem ϊ(h:η X.K H q xs)(e:Θ xs i=some v)(g:Q v H):IX X (.ref q) (.int i) H Q:=Bg abr #[q,xs,i,v,rfl,rfl,h,e,g]
theorem Α(h:ι X.K H q xs)(e:Θ xs i=some v)(g:Q v H):IX X (.ref q) (.int i) H Q:=Bg aaP #[q,xs,i,v,rfl,rfl,h,e,g]
theorem jU(h:z.length<=ϯ)(e:Θ z.cps.toList i=some n)(g:Q (.str #[#v[n]]) H):IX X (.str z) (.int i) H Q:=Bg acA #[z,i,n,rfl,rfl,h,e,g]
theorem qU{q:δ}{lo hi:Option Int}(h:η X.K H q xs)(g:∀p,H p=none->Q (.ref p) (upd H p (.lst (cN xs lo hi)))):SL X (.ref q) lo hi H Q:=#[_,abG,q,xs,rfl,h,g]
theorem afA{q:δ}{lo hi:Option Int}(h:ι X.K H q xs)(n:¬(_H.Ζ xs.length 0 lo=0/\_H.Ζ xs.length xs.length hi=xs.length))(g:∀p,H p=none->Q (.ref p) (upd H p (.tup (cN xs lo hi)))):SL X (.ref q) lo hi H Q:=#[_,ah5,q,xs,rfl,h,n,g]
def Ei(ty:di X.K H y t)(e:ars X.K t (.type T)=some k)(g:Q (.bl k) H):CL X (.builtin "isinstance") [y,.ty T] H Q:=by
 show#[λxs H Q=>∃y t T k,xs=[y,.ty T]/\di X.K H y t/\ars X.K t (.type T)=some k/\Q (.bl k) H,?_,y,t,T,k,rfl,ty,e,g];intro ϵ s σ H xs us Q I r h;let#[y,t,T,k,rfl,ty,e,g]:=h;let#[i,a,rfl,c,f]:=vals2 r;cases(show a=Value.type T from f);show aet I c ty e λtk=>#[.bl k,H,I.tok tk,rfl,g]
end
def YM(x:Str):It:=#[λi _=>i<x.cps.size,λi H v H'=>H'=H/\∃c,x.cps[i]?=some c/\v=.str #[#v[c]],λi _=>x.cps.size<=i]
theorem agQ{P:Ϯ}{w:ϭ}{K:PySem.W.Frag}{tg:ϧ}{T:String}(l:T="str_ascii_iterator"\/T="str_iterator")(it:δ)(x:Str)(t:Tok):Turn P w K tg (YM x) [it] it (λi h=>h.IsStrIter it T x t i)where
 mem:=by simp
 obj:=λi h st b a=>by
  let e:b=it:=by simpa using a
  subst e;let#[o,e,c,d]:=st;show#[o,e,λv z=>by rw[d]at z;cases z]
 keep:=λi h h' st k=>by
  let#[o,e,c,d]:=st;show#[o,k it (by simp) o e,c,d]
 item:=by
  intro X F G J g i ϵ s σ H E I m st L;subst F G J;let#[p,q,O,y,B,D]:=m it (by simp);let f:i<x.cps.size:=L;let Q:∃W:Nat->ϫ->Prop,Walks X.prog X.w X.A it [it] [it] x.cps.size (SignAt x) W/\W=λi h=>h.IsStrIter it T x t i:=by
   obtain rfl|rfl:=l
   .show#[_,Walks.strAscii (I.ok.hd g) it x t,rfl]
   .show#[_,Walks.strWide (I.ok.hd g) it x t,rfl]
  let#[_,W,rfl]:=Q;show W.item i s _ _ f st λv h' tk R j kk=>?_
  let#[c,u,e1,rfl]:=R;let S:Inv X ϵ σ H {s with heap:=h',toks:=tk}:=I.turned (λb o a e=>kk b o (by simpa using a) e) p q y B D;let#[o,e,U,d]:=id j;show#[_,rfl,sZ (s:={s with heap:=h',toks:=tk}) (n:=T) e U d (by obtain rfl|rfl:=l<;>decide) ⟨.str ⟨#v[c]⟩,H,S,⟨u,rfl⟩,⟨rfl,c,e1,rfl⟩,j,λb a=>(m b a).1⟩]
 done:=by
  intro X F G J g i ϵ s σ H E I m st L;subst F G J;let#[p,q,O,y,B,D]:=m it (by simp);let f:x.cps[i]?=none:=ajD L;obtain rfl|rfl:=l
  .show wpAny_pyNext_ascii_end (I.ok.hd g) st f λh' M=>#[rfl,I.turned (t':=s.toks) (λb o a e=>M b o a e) p q y B D]
  .show wpAny_pyNext_wide_end (I.ok.hd g) st f λh' M=>#[rfl,I.turned (t':=s.toks) (λb o a e=>M b o a e) p q y B D]
 self:=λ_ _ _ _ _ st h=>by
  obtain rfl|rfl:=l
  .show wpAny_pyIter_striter_ascii st h
  .show wpAny_pyIter_striter_wide st h
def YC(h:EV X l σ H λx H1=>∃z,x=.str z/\R (YM z) H1):EI X tg l σ H R:=by
 intro ϵ s I;show υ (h ϵ s I) λv a f=>?_
 let#[x,H1,c,g,z,e,q]:=f;subst e;let#[t,rfl]:=g
 let fin:∀T:String,(T="str_ascii_iterator"\/T="str_iterator")->
   Ax X ϵ σ tg R (.ref a.heap.objs.size) {a with heap:=a.heap.push {cls:=.type T,data:=.fields #v[.str z t,.int 0 0]}}:=λT i=>by
  show#[a.heap.objs.size,[a.heap.objs.size],_,_,H1,rfl,c.kept (t':=a.toks) λb o e=>ϴ _ e,agQ i _ z t,#[_,aaT _ rfl,rfl,rfl],λb j=>?_,q];let e:b=a.heap.objs.size:=by simpa using j
  subst e;show c.fpOk (Ϭ _) (c.hok.fresh (Ϭ _))
 cases ha:z.cps.all (· <128)
 .show wpAny_pyIter_wide ha (fin _ (.inr rfl))
 .show wpAny_pyIter_ascii ha (fin _ (.inl rfl))
def cR(N' N:List Str)(σ:St)(scope:agV):St:=N'.map λx=>if scope.names.lookup x=some .free then fZ N σ x else none
def b7(X:Cx)(N':List Str)(scope:agV)(cl:List (Str×δ))(C:δ)(s:μ)(H:Hp)(fp:List δ):Cx:=
 {X with N:=N',s₀:=s,H₀:=H,env:=compEnvC scope cl C X.env,outer:=X.stack,stack:=X.stack,ex:=fp,fn:=λ_=>false,pn:=[],xe:=λ_ _=>False}
def CV(X:Cx)(ifs:List ϧ)(σ:St)(H:Hp)(Q:Bool->Hp->Prop):Prop:=
 ∀(ϵ:List (δ×Obj))(s:μ),Inv X ϵ σ H s->
  ν (ϩ X.prog X.w) X.A (forIn ifs true λc r=>if r=true then do let ok<-isTrue c X.env (eval c X.env);pure (ForInStep.yield ok)else pure (ForInStep.yield r)) (TP X ϵ σ Q) X.xe s
theorem Cw(env:Env):∀(names:List (Str×aoU))(cs:List (Str×δ)),(∀y∈names,y.2=.free->∃c,env.cells.lookup y.1=some c)->
  (forIn names cs (λ(x:Str×aoU)(r:List (Str×δ))=>if(x.2==NameKind.free)=true then do let a<-cellOf env x.1;pure (ForInStep.yield ((x.1,a)::r))else pure (ForInStep.yield r)):Sem (List (Str×δ)))=
   pure (names.foldl (λcs y=>if y.2==.free then(y.1,(env.cells.lookup y.1).getD 0)::cs else cs) cs)
 |[],cs,_=>by simp
 |(n,k)::r,cs,h=>by
  rw[am3];by_cases i:k=.free
  .subst i;let#[c,e]:=h (n,.free) ac3 rfl;let l:cellOf env n=pure c:=by
    unfold cellOf;let f:env.cells.lookup n=some c:=e;rw[f]
   simp only[beq_self_eq_true,if_true,l,pure_bind];let f:env.cells.lookup n=some c:=e;rw[Cw env r _ λy g=>h y (acr _ g),aiw];simp only[beq_self_eq_true,if_true,f,arL]
  .let j:(k==NameKind.free)=false:=by simpa using i
   simp only[j,aoL,if_false,pure_bind];rw[Cw env r _ λy g=>h y (acr _ g),aiw];simp only[j,aoL,if_false]
def ϗ(scope:agV)(env:Env):List (Str×δ):=scope.names.foldl (λcs y=>if y.2==.free then(y.1,(env.cells.lookup y.1).getD 0)::cs else cs) []
def Dy(h:∀y∈scope.names,y.2=.free->∃c,env.cells.lookup y.1=some c):closureFor scope env=pure (ϗ scope env):=by
 have:=Cw env scope.names [] h;unfold closureFor ϗ;rw[<-this];simp
theorem Qa{env:Env}:∀(names:List (Str×aoU))(cs:List (Str×δ)),(∀y∈names,y.2=.free->∃c,env.cells.lookup y.1=some c)->
  ∀x c,(names.foldl (λcs y=>if y.2==.free then(y.1,(env.cells.lookup y.1).getD 0)::cs else cs) cs).lookup x=some c->(env.cells.lookup x=some c\/cs.lookup x=some c)
 |[],cs,_,x,c,e=>.inr e
 |(n,k)::r,cs,h,x,c,e=>by
  rw[aiw]at e;rcases Qa r _ (λy i=>h y (acr _ i)) x c e with q|q
  .show .inl q
  .by_cases f:k=.free
   .subst f;let#[c',j]:=h (n,.free) ac3 rfl;let g:env.cells.lookup n=some c':=j;simp only[beq_self_eq_true,if_true,g,arL,aeO]at q;cases hx:x==n with
    |true=>
     rw[hx]at q;let a:x=n:=by simpa using hx
     subst a;show .inl (g.trans q)
    |false=>rw[hx]at q;show .inr q
   .let l:(k==NameKind.free)=false:=by simpa using f
    rw[if_neg (by simp[l])]at q;show .inr q
theorem Js{env:Env}:∀(names:List (Str×aoU))(cs:List (Str×δ))(x:Str),((x,NameKind.free)∈names\/∃c,cs.lookup x=some c)->
  ∃c,(names.foldl (λcs y=>if y.2==.free then(y.1,(env.cells.lookup y.1).getD 0)::cs else cs) cs).lookup x=some c
 |[],cs,x,h=>by
  obtain h|h:=h
  .cases h
  .show h
 |(n,k)::r,cs,x,h=>by
  rw[aiw];show Js r _ x ?_;by_cases a:k=.free
  .subst a;simp only[beq_self_eq_true,if_true,aeO];cases hx:x==n with
   |true=>show .inr #[_,rfl]
   |false=>
    obtain h|h:=h
    .obtain h|h:=ϳ.mp h
     .cases h;simp at hx
     .show .inl h
    .show .inr h
  .let e:(k==NameKind.free)=false:=by simpa using a
   rw[if_neg (by simp[e])];obtain h|h:=h
   .obtain h|h:=ϳ.mp h
    .cases h;show absurd rfl a
    .show .inl h
   .show .inr h
theorem Xm{env:Env}{x:Str}:∀{names:List (Str×aoU)},names.lookup x=some .free->
  (names.map λ(n,k)=>if(k==NameKind.free&&env.scope.kind==.function&&env.kindOf n==some .cell)then(n,NameKind.cell)else(n,k)).lookup x=some .cell\/
  (names.map λ(n,k)=>if(k==NameKind.free&&env.scope.kind==.function&&env.kindOf n==some .cell)then(n,NameKind.cell)else(n,k)).lookup x=some .free
 |[],h=>by simp at h
 |(n,k')::r,h=>by
  let c:= @Xm env x r;show ahi x ((if(k'==NameKind.free&&env.scope.kind==.function&&env.kindOf n==some .cell)=true then(n,NameKind.cell)else(n,k'))::_)=_\/ahi x ((if(k'==NameKind.free&&env.scope.kind==.function&&env.kindOf n==some .cell)=true then(n,NameKind.cell)else(n,k'))::_)=_;cases hx:x==n with
  |true=>
   simp only[aeO,hx]at h;cases h;by_cases a:(NameKind.free==NameKind.free&&env.scope.kind==.function&&env.kindOf n==some .cell)=true
   .rw[if_pos a];left;simp only[aeO,hx]
   .rw[if_neg a];right;simp only[aeO,hx]
  |false=>
   simp only[aeO,hx]at h;by_cases a:(k'==NameKind.free&&env.scope.kind==.function&&env.kindOf n==some .cell)=true
   .rw[if_pos a];simp only[aeO,hx];show c h
   .rw[if_neg a];simp only[aeO,hx];show c h
theorem Sh{env:Env}{x:Str}:∀{names:List (Str×aoU)},(∀y∈names,y.2≠.cell)->
  ((names.map λ(n,k)=>if(k==NameKind.free&&env.scope.kind==.function&&env.kindOf n==some .cell)then(n,NameKind.cell)else(n,k)).lookup x=some .cell\/
  (names.map λ(n,k)=>if(k==NameKind.free&&env.scope.kind==.function&&env.kindOf n==some .cell)then(n,NameKind.cell)else(n,k)).lookup x=some .free)->(x,NameKind.free)∈names
 |[],_,h=>by simp at h
 |(n,k')::r,c,h=>by
  let f:= @Sh env x r λy g=>c y (acr _ g)
  let h':ahi x ((if(k'==NameKind.free&&env.scope.kind==.function&&env.kindOf n==some .cell)=true then(n,NameKind.cell)else(n,k'))::(r.map λ(n,k)=>if(k==NameKind.free&&env.scope.kind==.function&&env.kindOf n==some .cell)then(n,NameKind.cell)else(n,k)))=some .cell\/
   ahi x ((if(k'==NameKind.free&&env.scope.kind==.function&&env.kindOf n==some .cell)=true then(n,NameKind.cell)else(n,k'))::(r.map λ(n,k)=>if(k==NameKind.free&&env.scope.kind==.function&&env.kindOf n==some .cell)then(n,NameKind.cell)else(n,k)))=some .free:=h
  cases hx:x==n with
  |true=>
   let e:x=n:=by simpa using hx
   subst e;by_cases a:(k'==NameKind.free&&env.scope.kind==.function&&env.kindOf x==some .cell)=true
   .have :k'=.free:=by simp only[aaO]at a;simpa using a.1.1
    subst this;show ac3
   .rw[if_neg a]at h';simp only[aeO,hx]at h';obtain h'|h':=h'
    .cases h';show absurd rfl (c (x,.cell) ac3)
    .cases h';show ac3
  |false=>
   show acr _ (f ?_);by_cases a:(k'==NameKind.free&&env.scope.kind==.function&&env.kindOf n==some .cell)=true
   .rw[if_pos a]at h';simpa only[aeO,hx]using h'
   .rw[if_neg a]at h';simpa only[aeO,hx]using h'
theorem adZ(I:Nat->μ->Prop)(z:∀x s,Er x s->notedBy (ϩ prog w) A env (λx s'=>R (.error x) s') x s)(turn:∀n s,I n s->ν (ϩ prog w) A (pyNext it) (λr e=>match r with
   |none=>R (.ok .next) e
   |some v=>ν (ϩ prog w) A (letOwnedTupleGo a it v) (λ_ f=>ν (ϩ prog w) A (assign a env v) (λ_ i=>
    ν (ϩ prog w) A (forIn ifs true λc r=>if r=true then do let ok<-isTrue c env (eval c env);pure (ForInStep.yield ok)else pure (ForInStep.yield r)) (λok g=>
     if ok=true then ν (ϩ prog w) A (eval elt env) (λx j=>
      ν (ϩ prog w) A (call (.builtin "list.append") [u,x]) (λ_ l=>∃m,m<n/\I m l) Er j) Er g
     else ∃m,m<n/\I m g) Er i) Er f) Er e) Er s)(n:Nat)(h:I n s):codeAny (ϩ prog w) A (.compLoop (.ListComp elt [#[a,iter,ifs,0]] scope pos) 0 it u env) R s:=by
 show codeAny_loop rfl I (λn s F=>?_) n h;show ν _ A ((compTurn (.ListComp elt [#[a,iter,ifs,0]] scope pos) 0 it u env).onRaise (λx=>do noteFrame x env;theTreesLotGoes x)) _ _ s;show wpAny_noted ?_;rw[compTurn_list];show Ϧ (wpAny_standAt (Ϧ (adt (turn n s F) (λr e p=>?_) z)));cases r with
 |none=>show ϱ p
 |some v=>
  show Ϧ (adt p (λ_ f y=>?_) z);show Ϧ (adt y (λ_ i B=>Ϧ (adt B (λok g q=>?_) z)) z);cases ok with
  |false=>show ϱ #[rfl,q]
  |true=>
   show Ϧ (Ϧ (adt q (λx j D=>Ϧ (adt D (λ_ l E=>ϱ (ϱ #[rfl,E])) z)) z))
def wV(M:Model)(A:ϲ)(E:ε->μ->Prop)(use:Option (ε->Sem Unit))(Q:ε->μ->Prop)(c:ε)(C:Env)(r:Result)(s':μ):Prop:=
 match r,use with
 |.ok _,none=>∃m,s'.heap.Ns C.locals m/\∀h',aj8 C.locals s'.heap h'->Q c {s' with heap:=h'}
 |.ok _,some u=>ν M A (u c) (λ_ a=>∃m,a.heap.Ns C.locals m/\∀h',aj8 C.locals a.heap h'->Q .none {a with heap:=h'}) E s'
 |.error x,_=>∃m,s'.heap.Ns C.locals m/\∀h',aj8 C.locals s'.heap h'->ν M A (passOn "comprehension.variables-let-go" x C:Sem ε) (λ_ _=>False) E {s' with heap:=h'}
def IK(O:clausesOf e=g::S)(hs:∀x,foldedSetIterable g.iter env x=pure x)(v:closureFor scope env=pure cl)(a:scope.kind=.function)(j:∀x∈scope.names,x.2=.local->scope.names.lookup x.1=some .local)(h:ν M A first (λx l=>ν M A (pyIter x) (λit n=>ν M A c (λB p=>ν M A (newFunctionEnv scope env.globals cl [] env.qual none .none (some env)) (λcenv q=>
   codeAny M A (.compStart e 0 it B {cenv with scope:=relabel scope env}) (wV M A E use Q B {cenv with scope:=relabel scope env}) q) E p) E n) E l) E s):ν M A (comprehension e scope env pos c false first use) Q E s:=by
 unfold comprehension;rw[v,O];show Ϧ (adt h (λx l F=>Ϧ (wpAny_standAt (Ϧ (wpAny_of_eq (hs x) (Ϧ (ag9 (adt F (λit n G=>wpAny_standIf (Ϧ (adt G (λB p H=>
  Ϧ (ϱ (Ϧ (adt H (λcenv q I=>?_) λ_ _ z=>z)))) λ_ _ z=>z))) λ_ _ z=>z))))))) λ_ _ z=>z)
 dsimp only;let L:∀x∈(scope.names.filter λx=>(x.2==.local||x.2==.cell)&&x.1 !=(".0":Str)).reverse,x.2=.local->Env.kindOf {cenv with scope:=relabel scope env} x.1=some .local:=
  λx P hl=>lookup_relabel_local (j x (ai5.mp (arM.mp P)).1 hl)
 let T:∀x∈(scope.names.filter λx=>(x.2==.local||x.2==.cell)&&x.1 !=(".0":Str)).reverse.drop 1++(scope.names.filter λx=>(x.2==.local||x.2==.cell)&&x.1 !=(".0":Str)).reverse.take 1,x.2=.local->Env.kindOf {cenv with scope:=relabel scope env} x.1=some .local:=λx P hl=>by
  obtain z|z:=adb.mp P
  .show L x (adG z) hl
  .show L x (adM z) hl
 show ag9 (Ϧ (wpAny_attempt (ag9 (wpAny_run (aks I λr s' D=>?_)))));cases r with
 |ok f=>
  cases use with
  |none=>
   let#[m,J,D]:=D;show Ϧ (ag9 (wpAny_comp_letGo (cenv:={cenv with scope:=relabel scope env}) a _ s' m L J λh' m' _ z=>ϱ (D h' z)))
  |some u=>
   show Ϧ (wpAny_rule (Ϧ (ag9 (adt D (λ_ R i=>?_) λ_ _ z=>z))));let#[m,J,i]:=i;show Ϧ (wpAny_comp_letGo (cenv:={cenv with scope:=relabel scope env}) a _ R m T J λh' m' _ z=>ϱ (i h' z))
 |error x=>
  let i:∃m,s'.heap.Ns cenv.locals m/\∀h',aj8 cenv.locals s'.heap h'->ν M A (passOn "comprehension.variables-let-go" x {cenv with scope:=relabel scope env}:Sem ε) (λ_ _=>False) E {s' with heap:=h'}:=by cases use<;>show D
  let#[m,J,D]:=i;show Ϧ (ag9 (wpAny_comp_letGo (cenv:={cenv with scope:=relabel scope env}) a _ s' m L J λh' m' _ z=>adt (D h' z) (λ_ _ f=>f.elim) λ_ _ y=>y))
abbrev Cx.tri(X:Cx)(F:ε->μ->Prop)(pn:List (δ×Obj)):Cx:={X with xe:=F,pn:=pn}
section
variable{X:Cx}{ϵ pins':List (δ×Obj)}{σ:St}{H:Hp}{s:μ}{F:ε->μ->Prop}
theorem Cx.Ok.tri(ok:X.Ok)(pn:List (δ×Obj)):(X.tri F pn).Ok:=
 #[ok.mod,ok.kind,ok.glob,ok.blt,ok.above,ok.inj,ok.has,ok.cab,ok.hd,ok.frames,ok.stk,ok.exf,ok.bs,ok.bsz,ok.noex,ok.exfs,ok.funs,ok.frf]
theorem Inv.tri(I:Inv X ϵ σ H s):Inv (X.tri F (X.pn++ϵ)) [] σ H s:=
 #[I.ok.tri _,I.os,I.bare,I.base,I.loc,I.cell,I.free,I.freeC,λp a=>I.pin p (by simpa using a),I.hok,I.len]
theorem Inv.mV(ok:X.Ok)(I:Inv (X.tri F (X.pn++ϵ)) pins' σ H s):Inv X ϵ σ H s:=
 #[ok,I.os,I.bare,I.base,I.loc,I.cell,I.free,I.freeC,λp a=>I.pin p (ags _ a),I.hok,I.len]
end
abbrev eU(X:Cx)(N':List Str)(scope:agV)(cl:List (Str×δ))(C:δ)(s:μ)(H:Hp)(fp:List δ)(F:ε->μ->Prop):Cx:=(b7 X N' scope cl C s H fp).tri F []
section
variable{X:Cx}{ϵ:List (δ×Obj)}{σ:St}{H H':Hp}{s s':μ}{scope:agV}{fp:List δ}{N':List Str}
structure cL(env:Env)(scope:agV):Prop where
 kind:scope.kind=.function
 free:∀y∈scope.names,y.2=.free->env.kindOf y.1=some .cell\/env.kindOf y.1=some .free
 cell:∀y∈scope.names,y.2≠.cell
 loc:∀y∈scope.names,y.2=.local->scope.names.lookup y.1=some .local
theorem cL.has(S:cL X.env scope)(I:Inv X ϵ σ H s):∀y∈scope.names,y.2=.free->∃c,X.env.cells.lookup y.1=some c:=λy a e=>I.ok.has y.1 (S.free y a e)
def cL.cl(S:cL X.env scope)(I:Inv X ϵ σ H s)(h:(ϗ scope X.env).lookup x=some c):X.env.cells.lookup x=some c:=by
 obtain q|q:=Qa scope.names [] (S.has I) x c h
 .show q
 .simp at q
theorem aj9(S:cL X.env scope)(I:Inv X ϵ σ H s)(f:∀b∈fp,bR X ϵ H b)(g:∀b∈fp,b<s.heap.objs.size):(b7 X N' scope (ϗ scope X.env) s.heap.objs.size s H fp).Ok where
 mod:=I.ok.mod
 kind:=S.kind
 glob:=I.ok.glob
 blt:=I.ok.blt
 above:=Ϭ _
 inj:=λx y c h1 h2=>I.ok.inj x y c (S.cl I h1) (S.cl I h2)
 has:=λx i=>Js (env:=X.env) scope.names [] x (.inl (Sh S.cell i))
 cab:=λx c h _=>by cases h
 hd:=I.ok.hd
 frames:=I.ok.frames
 stk:=.inl rfl
 exf:=λb a=>#[acE (g b a),λx c h=>(f b a).2.2.2.2.1 x c (S.cl I h)]
 bs:=I.bs
 bsz:=ad8 I.ok.bsz I.sz
 noex:=λb o e a=>by
  rcases(f b a).2.2.2.1 with z|z
  .show I.ok.noex b o e z
  .rw[(I.ok.bs b o e).1]at z;cases z
 exfs:=λb a z=>by
  rcases ϳ.mp (I.stkSub b z)with e|e
  .show(f b a).2.1 e
  .show(f b a).2.2.1 e
 funs:=I.stack
 frf:=I.stkFree
def agD{i:Nat}(h1:N'[i]?=some x)(h2:(cR N' N σ scope)[i]?=some (some v)):scope.names.lookup x=some .free/\fZ N σ x=some v:=by
 unfold cR at h2;rw[abI,h1]at h2;let a:(if scope.names.lookup x=some .free then fZ N σ x else none)=some v:=by simpa using h2
 split at a
 .rename_i e;show#[e,a]
 .cases a
theorem ag6(S:cL X.env scope)(I:Inv X ϵ σ H s)(E:∀b∈fp,bR X ϵ H b)(g:∀b∈fp,b<s.heap.objs.size){a:ϫ}{m:Str->Option ε}{tk:Nat}(l:a.Ns s.heap.objs.size m)(old:∀b o,s.heap.get? b=some o->a.get? b=some o):Inv (b7 X N' scope (ϗ scope X.env) s.heap.objs.size s H fp) [] (cR N' X.N σ scope) H {s with heap:=a,toks:=tk}where
 ok:=aj9 S I E g
 os:=rfl
 bare:=I.bare
 base:=Un.kept old
 loc:=by
  show#[m,l,λi x v h1 h2 O=>?_];let#[e1,F]:=agD h1 h2;let#[j,G,J]:=J8 F;let y:(x,NameKind.free)∈scope.names:=PySem.mem_of_lookup e1;let hk:=S.free _ y rfl;let#[P,_,hl]:=I.loc;let n:uf X.env.scope x:=.inr hk;let#[u,r,lk]:=hl j x v G J n;show#[u,r,.inr #[Xm (env:=X.env) e1,?_]];obtain⟨k,_⟩|⟨_,c,e,z⟩:=lk
  .obtain hk|hk:=hk
   .let f:X.env.kindOf x=some .cell:=hk;rw[f]at k;cases k
   .let f:X.env.kindOf x=some .free:=hk;rw[f]at k;cases k
  .let#[L,B]:=Js (env:=X.env) scope.names [] x (.inl y);let D:=S.cl I (x:=x) (c:=L) B;rw[e]at D;cases D;let#[o,q,hd]:=z;show#[c,B,o,old _ _ q,hd]
 cell:=λx c h=>by
  let#[v,o,q,hd]:=I.cell x c (S.cl I h);show#[v,o,old _ _ q,hd]
 free:=I.hok.fresh (Ϭ _)
 freeC:=λx c h=>I.freeC x c (S.cl I h)
 pin:=λp M=>absurd (show p∈([]:List (δ×Obj))from M) (by simp)
 hok:=I.hok.kept old
 len:=by show(cR N' X.N σ scope).length=N'.length;unfold cR;rw[aaA]
def alM{i:St}(I:Inv X ϵ σ H s)(a:∀b∈fp,bR X ϵ H b)(J:Inv (b7 X N' scope (ϗ scope X.env) s.heap.objs.size s H fp) [] i H' s'):Inv X ϵ σ H' s':=by
 let#[hh,g,d,t,f]:=s';let e:f=s.os:=J.os;subst e;show I.call (h':=hh) (g':=g) (d':=d) (t':=t) (ch:=fp) J.base J.hok J.bare λb c=>#[(a b c).2.2.2.1,(a b c).2.1,(a b c).2.2.2.2.1,(a b c).2.2.2.2.2]
variable{elt iter tg:ϧ}{ifs:List ϧ}{pos:Pos}
def j5(X Y:Cx)(tg elt:ϧ)(ifs:List ϧ)(J:It)(D:δ)(σ':St)(H:Hp)(Q:Hp->Prop):Prop:=
 ∃W:Nat->Nat->St->Hp->Prop,(∃m,W 0 m σ' (upd H D (.lst [])))/\∀i m e H,W i m e H->
  (J.stop i H/\Q H)\/(J.go i H/\∃N:St->Hp->Prop,(∀c H',N c H'->∃m',m'<m/\W (i+1) m' c H')/\∀x H',J.yld i H x H'->
   EG Y tg x e H' λa H2=>CV Y ifs a H2 λk f=>if k=true then EV Y elt a f λy g=>∃xs,g D=some (.lst xs)/\xs.length<ϯ/\N a (upd g D (.lst (xs++[y])))else N a f)
def Ff{R:ε->Env->Result->μ->Prop}{Y:Nat->ϫ->Prop}{E:ε->μ->Prop}{Q:δ->Hp->Prop}(Fx:δ->Env->ε->μ->Prop)(hc:X.calm=true)(S:cL X.env scope)(I:Inv X ϵ σ H s)(T:Turn X.prog X.w X.K tg J fp it Y)(st:Y 0 s.heap)(hf:∀b∈fp,bR X ϵ H b)(ap:∀D C x s',Fx D C x s'->notedBy (ϩ X.prog X.w) X.A C (λx s'=>R (.ref D) C (.error x) s') x s')(h:∀(D:δ)(s3:μ),H D=none->Inv X ϵ σ (upd H D (.lst [])) s3->(∀b∈fp,bR X ϵ (upd H D (.lst [])) b)->
   (∀{pins':List (δ×Obj)}{j:St}{H':Hp}{s':μ},Inv (eU X N' scope (ϗ scope X.env) s3.heap.objs.size s3 (upd H D (.lst [])) fp (Fx D (compEnvC scope (ϗ scope X.env) s3.heap.objs.size X.env))) pins' j H' s'->Inv X ϵ σ H' s')->
   j5 X (eU X N' scope (ϗ scope X.env) s3.heap.objs.size s3 (upd H D (.lst [])) fp (Fx D (compEnvC scope (ϗ scope X.env) s3.heap.objs.size X.env))) tg elt ifs J D (cR N' X.N σ scope) H (Q D))(hR:∀(D:δ)(C:Env)(H':Hp)(s':μ),H D=none->Q D H'->Inv X ϵ σ H' s'->bR X ϵ H' C.locals->(∃m,s'.heap.Ns C.locals m)->R (.ref D) C (.ok .next) s'):ν (ϩ X.prog X.w) X.A (newList []) (λab ac=>ν (ϩ X.prog X.w) X.A (newFunctionEnv scope X.env.globals (ϗ scope X.env) [] X.env.qual none .none (some X.env)) (λcenv ae=>
   codeAny (ϩ X.prog X.w) X.A (.compStart (.ListComp elt [#[tg,iter,ifs,0]] scope pos) 0 (.ref it) ab {cenv with scope:=relabel scope X.env}) (R ab {cenv with scope:=relabel scope X.env}) ae) E ac) E s:=by
 show aiN ?_;let hD:H s.heap.objs.size=none:=I.hok.fresh (Ϭ _);generalize U:({s with heap:=s.heap.push {cls:=.type "list",dict:=none,data:=.seq ([]:List ε).toArray}}:μ)=s3;let Z:Inv X ϵ σ (upd H s.heap.objs.size (.lst [])) s3:=by
  subst U;show I.laid (t':=s.toks) (λb u e=>ϴ _ e) (Ϭ _) #[ad5 _,[],0,.nil,aaT _ rfl]
 let hsz:s3.heap.objs.size=s.heap.objs.size+1:=by subst U;show aiX ..
 let af:∀b o,s.heap.get? b=some o->s3.heap.get? b=some o:=λb o e=>by subst U;show ϴ _ e
 let Xr:∀b∈fp,b<s.heap.objs.size:=λb a=>by
  let#[o,e,_]:=T.obj _ _ st b a;show abQ e
 let pH:∀b∈fp,bR X ϵ (upd H s.heap.objs.size (.lst [])) b:=λb a=>#[by rw[ξ (acE (Xr b a))];show(hf b a).1,(hf b a).2]
 let ar:Y 0 s3.heap:=T.keep _ _ _ st λb _ o e=>af b o e
 let U8:∀b∈fp,b<s3.heap.objs.size:=λb a=>by rw[hsz];show ape (Xr b a)
 show wpAny_newFunctionEnv S.cell (by intro y hy;simp at hy) (λO av aw=>?_) S.kind;let Yy:∀b o,s3.heap.get? b=some o->O.get? b=some o:=λb o e=>aw.extBut b o (acE (abQ e)) (ϴ _ e)
 let L:=h s.heap.objs.size s3 hD Z pH;generalize oU:compEnvC scope (ϗ scope X.env) s3.heap.objs.size X.env=Ce at L;generalize hF:Fx s.heap.objs.size Ce=F at L;let pR:Ce.locals=s3.heap.objs.size:=by rw[<-oU];rfl
 generalize l:b7 X N' scope (ϗ scope X.env) s3.heap.objs.size s3 (upd H s.heap.objs.size (.lst [])) fp=B;generalize N7:({s3 with heap:=O,toks:=s3.toks+([]:List (Str×ε)).length}:μ)=s4;let Zt:Inv B [] (cR N' X.N σ scope) (upd H s.heap.objs.size (.lst [])) s4:=by
  subst N7;rw[<-l];show ag6 S Z pH U8 av Yy
 let ag:B.pn=[]:=by rw[<-l];rfl
 let ah:∀{pins':List (δ×Obj)}{j:St}{H':Hp}{s':μ},Inv (B.tri F []) pins' j H' s'->Inv X ϵ σ H' s':=λ{pins' j H' s'} J=>by
  let J2:Inv B [] j H' s':=Inv.mV (X:=B) (ϵ:=[]) (F:=F) (pins':=pins') Zt.ok (by rw[ag];show J);rw[<-l]at J2;show alM Z pH J2
 let hP:(B.tri F []).prog=X.prog:=by rw[<-l];rfl
 let hw:(B.tri F []).w=X.w:=by rw[<-l];rfl
 let hK:(B.tri F []).K=X.K:=by rw[<-l];rfl
 let hA:(B.tri F []).A=X.A:=by rw[<-l];rfl
 let Zx:(B.tri F []).calm=true:=by rw[<-l];show hc
 let ai:(B.tri F []).env=Ce:=by rw[<-l, <-oU];rfl
 let P:(B.tri F []).env.locals=s3.heap.objs.size:=by rw[ai,pR]
 rw[show eU X N' scope (ϗ scope X.env) s3.heap.objs.size s3 (upd H s.heap.objs.size (.lst [])) fp F=B.tri F []from by rw[<-l]]at L;let#[W,#[m0,w0],turn]:=L ah;let I4:Inv (B.tri F []) [] (cR N' X.N σ scope) (upd H s.heap.objs.size (.lst [])) s4:=by
  have:=Zt.tri (F:=F);rw[ag]at this;show this
 let VB:Y 0 s4.heap:=by
  subst N7;show T.keep _ _ _ ar λb _ o e=>Yy b o e
 let Hx:∀b∈fp,∀H':Hp,H' b=none->bR (B.tri F []) [] H' b:=λb a H' e=>by
  rw[<-l];show#[e,acE (U8 b a),λz=>?_,.inl a,λx c q=>(pH b a).2.2.2.2.1 x c (S.cl Z q),λp hp=>absurd (show p∈([]:List (δ×Obj))from hp) (by simp)];rcases ϳ.mp (Z.stkSub b z)with e|e
  .show(hf b a).2.1 e
  .show(hf b a).2.2.1 e
 let G:codeAny (ϩ X.prog X.w) X.A (.compLoop (.ListComp elt [#[tg,iter,ifs,0]] scope pos) 0 (.ref it) (.ref s.heap.objs.size) Ce) (R (.ref s.heap.objs.size) Ce) s4:=by
  show adZ (Er:=F) (λn s'=>∃i j H',Inv (B.tri F []) [] j H' s'/\Y i s'.heap/\(∀b∈fp,H' b=none)/\W i n j H') (λx s z=>ap _ _ x s (by rw[hF];show z)) ?_ m0 #[0,_,_,I4,VB,λb a=>(pH b a).1,w0]
  rintro n s5 ⟨i,j,H5,I5,aj,al,w5⟩
  let M:∀{α:Type}{t:Sem α}{Q:α->μ->Prop}{s:μ},ν (ϩ (B.tri F []).prog (B.tri F []).w) (B.tri F []).A t Q (B.tri F []).xe s->ν (ϩ X.prog X.w) X.A t Q F s:=λh=>by
   rw[hP,hw,hA]at h;show h
  rw[<-ai];obtain⟨stop,qn⟩|⟨go,N,hN,step⟩:=turn i n j H5 w5
  .let q:=T.done (B.tri F []) hP hw hK Zx i [] s5 j H5 F I5 (λb a=>Hx b a _ (al b a)) aj stop;rw[hA]at q;show υ q λr s6 f=>?_
   let#[hr,I6]:=f;subst hr;show hR _ _ H5 s6 hD qn (ah I6) ?_ ?_
   .rw[P];show Z.fpOk (Ϭ _) ?_;have:=I6.free;rw[P]at this;show this
   .let#[m,hn,_]:=I6.loc;show#[m,hn]
  .let q:=T.item (B.tri F []) hP hw hK Zx i [] s5 j H5 F I5 (λb a=>Hx b a _ (al b a)) aj go;rw[hA]at q;show υ q λr s6 f=>?_
   let#[u,hr,h6]:=f;subst hr;show υ h6 λ_ s7 f=>?_
   let#[x,H7,I7,r7,y7,Ew,ax]:=f;let ay:=I7.pinned (λb a=>Hx b a _ (ax b a)) (T.obj _ _ Ew);let Y7:∀{am:St}{H8:Hp}{s8:μ},Inv (B.tri F []) ([]++gU fp s7.heap) am H8 s8->Y (i+1) s8.heap/\∀b∈fp,H8 b=none:=λ{am H8 s8} I8=>by
    show#[T.keep _ _ _ Ew λb a o e=>(I8.pin (b,o) (ac6 _ (ac6 _ (zX a e)))).1,λb a=>?_];let#[o,e,d]:=T.obj _ _ Ew b a;show(I8.pin (b,o) (ac6 _ (ac6 _ (zX a e)))).2.1
   show M (υ (step x H7 y7 _ s7 u ay r7) λ_ s8 f=>?_);let#[g,H8,I8,q8]:=f;show M (υ (q8 _ s8 I8) λok s9 f=>?_);let#[H9,I9,q9]:=f;cases ok with
   |false=>
    let Ii:N g H9:=by simpa using q9
    let#[m',hm,w9]:=hN _ _ Ii;let#[k1,k2]:=Y7 I9;show ∃m,_;show#[m',hm,i+1,g,H9,I9.unpinned,k1,k2,w9]
   |true=>
    let Ii:EV (B.tri F []) elt g H9 λy H4=>∃xs,H4 s.heap.objs.size=some (.lst xs)/\xs.length<ϯ/\N g (upd H4 s.heap.objs.size (.lst (xs++[y]))):=by simpa using q9
    show ν _ _ _ _ _ _;show M (υ (Ii _ s9 I9) λz tH f=>?_);let#[y,lV,aC,aD,xs,aE,aI,aJ]:=f;show M (υ (jY _ tH g lV (.ref s.heap.objs.size) [y] _ [z] (λv yz=>v=.non/\yz=upd lV s.heap.objs.size (.lst (xs++[y]))) aC rfl (.cons aD .nil) #[_,xs,y,rfl,rfl,aE,aI,rfl,rfl]) λ_ s11 f=>?_);let#[_,yz,Qj,_,_,aL]:=f;subst aL;let#[m',hm,aP]:=hN _ _ aJ;let#[k1,k2]:=Y7 Qj;show#[m',hm,i+1,g,_,Qj.unpinned,k1,k2,aP]
 rw[<-oU]at G;show codeAny_compStart_list G (T.self X.A 0 s4 _ _ VB G)
def rm(l:X.calm=true)(S:cL X.env scope)(hs:∀x,foldedSetIterable iter X.env x=pure x)(h:EI X tg iter σ H λJ H1=>∀(fp:List δ)(D C:δ)(a:μ),H1 D=none->j5 X (b7 X N' scope (ϗ scope X.env) C a (upd H1 D (.lst [])) fp) tg elt ifs J D (cR N' X.N σ scope) H1 (λH'=>Q (.ref D) H')):EV X (.ListComp elt [#[tg,iter,ifs,0]] scope pos) σ H Q:=by
 intro ϵ s I;rw[eval_ListComp];show IK (use:=none) rfl hs (Dy (S.has I)) S.kind S.loc (υ (h ϵ s I) λv P h1=>υ h1 λn U h2=>?_);let#[it,fp,W,J,H2,e,p,T,c,q,u]:=h2;subst e;show Ff (λ_ _ _ _=>False) (R:=λf C=>wV (ϩ X.prog X.w) X.A X.xe none (EP X ϵ σ Q) f C) (Q:=λD H'=>Q (.ref D) H') l S p T c q (λ_ _ _ _ z=>z.elim) (λD a j _ _ _=>u fp D _ a j) λD C H' s' j y IX B g=>?_
 let#[m,g]:=g;let#[E,F,Y,G,L,M]:=B;show#[m,g,λh' i=>#[.ref D,H',IX.turned (t':=s'.toks) (λb o O e=>i.extBut b o O e) E F G L M,rfl,y]]
def acF(c:aoD (.ListComp elt [#[tg,iter,ifs,0]] scope pos) (some (.Name y py)) spos.line X.env=pure true)(L:X.calm=true)(S:cL X.env scope)(hs:∀x,foldedSetIterable iter X.env x=pure x)(M:X.N.Nodup)(hi:nameAt X.N y=some j)(u:X.env.scope.names.lookup y=some .local)(h:EI X tg iter σ H λJ H1=>∀(fp:List δ)(E C:δ)(f:μ),H1 E=none->j5 X (b7 X N' scope (ϗ scope X.env) C f (upd H1 E (.lst [])) fp) tg elt ifs J E (cR N' X.N σ scope) H1 (λH'=>D.nx (σ.set j (some (.ref E))) H')):SX X (.Assign [.Name y py] (.ListComp elt [#[tg,iter,ifs,0]] scope pos) spos) D σ H:=by
 intro ϵ s I;rw[exec_Assign_Name_used _ _ _ _ c];show Ϧ (wpAny_standAt (Ϧ ?_));show ν _ X.A (do let _<-comprehension (.ListComp elt [#[tg,iter,ifs,0]] scope pos) scope X.env _ (newList []) false (eval iter X.env) (some (assign (.Name y py) X.env))) _ _ s;show Ϧ (adt (IK (use:=some (assign (.Name y py) X.env)) (Q:=λ_ s'=>SP X ϵ D .next s') rfl hs (Dy (S.has I)) S.kind S.loc
  (υ (h ϵ s I) λv s1 h1=>υ h1 λO s2 h2=>?_)) (λ_ s' P=>ϱ (ϱ P)) λ_ _ e=>e)
 let#[it,fp,tn,J,H2,e,U,T,g,W,Y]:=h2;subst e;show Ff (λ_ _ _ _=>False) (R:=λi C=>wV (ϩ X.prog X.w) X.A X.xe (some (assign (.Name y py) X.env)) (λ_ s'=>SP X ϵ D .next s') i C) (Q:=λE H'=>D.nx (σ.set j (some (.ref E))) H') L S U T g W (λ_ _ _ _ z=>z.elim) (λE f B _ _ _=>Y fp E _ f B) λE C H' s' B Z IX fC l=>?_
 let#[m,l]:=l;let#[f0,F,RB,f3,G,f5]:=fC;show ν _ _ (assign (.Name y py) X.env (.ref E)) _ _ _;show wpAny_assign_Name (vW IX M (v7 hi) (.inl u) (v:=.ref E) rfl (λn Eg p=>?_) (.inr u));let#[a,sb,ha]:=p;let DW:C.locals≠a:=by
  obtain ha|ha:=ha
  .rw[ha];show F
  .intro z;show G y a ha z.symm
 show#[m,l.sameBut sb DW,λh' q=>#[σ.set j (some (.ref E)),H',Eg.turned (t':=n.toks) (λb o p e=>q.extBut b o p e) f0 F f3 G f5,Z]]
theorem XX(q:Q true H):CV X [] σ H Q:=λϵ s I=>by
 rw[apv];show ϱ #[H,I,q]
theorem amn(h:ET X c σ H Q):CV X [c] σ H Q:=λϵ s I=>by
 rw[am3];simp only[if_true];show Ϧ (Ϧ (υ (h ϵ s I) λk a q=>ϱ ?_));dsimp only;rw[apv];show ϱ q
end
def Ε{c A B:Prop}[Decidable c](h1:c->A)(h2:¬c->B):if decide c=true then A else B:=by
 by_cases h:c
 .rw[if_pos (decide_eq_true h)];show h1 h
 .rw[if_neg (by simpa using h)];show h2 h
theorem bj{c A B:Prop}[Decidable c](q:B)(h:¬c:=by fin2):if decide c=true then A else B:=Ε (λz=>absurd z h) λ_=>q
theorem bw{c A B:Prop}[Decidable c](q:A)(h:c:=by rfl):if decide c=true then A else B:=Ε (λ_=>q) λz=>absurd h z
def jl{c A B:Prop}[Decidable c](h1:¬c->A)(h2:c->B):if(!decide c)=true then A else B:=by
 by_cases h:c
 .rw[if_neg (by simp[h])];show h2 h
 .rw[if_pos (by simp[h])];show h1 h
def je{A B:Prop}(h1:k=true->A)(h2:k=false->B):if k=true then A else B:=by
 cases k with
 |true=>rw[if_pos rfl];show h1 rfl
 |false=>rw[if_neg aaF];show h2 rfl
def akX{A B:Prop}(h1:k=false->A)(h2:k=true->B):if(!k)=true then A else B:=by
 cases k with
 |true=>rw[if_neg (by decide)];show h2 rfl
 |false=>rw[if_pos (by decide)];show h1 rfl
def alE{A B:Prop}(h:B):if(!true)=true then A else B:=by rw[if_neg (by decide)];show h
theorem ζ.upd(h:H p=none):ζ H (_L.upd H p o):=λb u e=>by rw[ξ (ϑ e h)];show e
theorem Ξ(h:H p=none)(o:HO):ζ H (upd H p o)/\(upd H p o) p=some o:=#[ζ.upd h,ς]
section
variable{X:Cx}{a e:ϧ}{σ:St}{H:Hp}{Q:VK}{D:Ends}{pos p p':Pos}
def pQ(j:ajU (ϩ X.prog X.w) X.A X.env X.xe)(l:X.calm=true)(m:Gl X "range")(s:X.mg "range"=none)(hs:abP [a] X.env=[(false,eval a X.env)])(h:EV X a σ H λv H1=>∃n:Int,v=.int n/\ -(2^62)<=n/\n<2^62/\∃c:Nat->St->Hp->Prop,c 0 σ H1/\
   (∀i σ' H',i<n.toNat->c i σ' H'->EG X tg (.int i) σ' H' λe H2=>Ι X body {D with nx:=c (i+1),ct:=c (i+1),bk:=D.nx} e H2)/\∀σ' H',c n.toNat σ' H'->D.nx σ' H'):SX X (.For tg (.Call (.Name "range" p) [a] [] p') body [] pos) D σ H:=by
 show mC j l (by intro _;rfl) (Gm m s hs (dH hs (ϝ h λv H1 q=>?_)));let#[n,rfl,h1,h2,c,u,f,hd]:=q;show jw #[n,rfl,h1,h2,?_];show abj (g:=EG X tg) (tb:=Ι X body) c u (λi σ' H' hi x=>by rw[aqE];show f i σ' H' hi x) hd
def rP(j:ajU (ϩ X.prog X.w) X.A X.env X.xe)(l:X.calm=true)(hs:∀x,foldedSetIterable e X.env x=pure x)(h:EV X e σ H λv H1=>∃q xs,v=.ref q/\η X.K H1 q xs/\∃a:Nat->St->Hp->Prop,a 0 σ H1/\(∀i σ' H',i<=xs.length->a i σ' H'->η X.K H' q xs)/\
   (∀i x σ' H',xs[i]?=some x->a i σ' H'->EG X tg x σ' H' λc H2=>Ι X body {D with nx:=a (i+1),ct:=a (i+1),bk:=D.nx} c H2)/\∀σ' H',a xs.length σ' H'->D.nx σ' H'):SX X (.For tg e body [] pos) D σ H:=by
 show mC j l hs (wH (ϝ h λv H1 q=>?_));let#[q,xs,rfl,m,a,n,hl,f,hd]:=q;show#[q,rfl,#[xs,m],ahg (g:=EG X tg) (tb:=Ι X body) a n hl f hd]
def R3(l:ajU (ϩ X.prog X.w) X.A X.env X.xe)(n:X.calm=true)(hs:∀x,foldedSetIterable e X.env x=pure x)(h:EV X e σ H λv H1=>∃z:Str,v=.str z/\∃a:Nat->St->Hp->Prop,a 0 σ H1/\
   (∀i c σ' H',z.cps.toList[i]?=some c->a i σ' H'->EG X tg (.str #[#v[c]]) σ' H' λf H2=>Ι X body {D with nx:=a (i+1),ct:=a (i+1),bk:=D.nx} f H2)/\∀σ' H',a z.cps.toList.length σ' H'->D.nx σ' H'):SX X (.For tg e body [] pos) D σ H:=by
 show mC l n hs (YC (ϝ h λv H1 q=>?_));let#[z,rfl,a,s,j,hd]:=q;show#[z,rfl,λi m σ H=>m=z.cps.size-i/\i<=z.cps.size/\a i σ H,#[z.cps.size,by simp,ad5 _,s],?_]
 rintro i m σ' H' ⟨rfl,hi,p⟩
 by_cases g:i<z.cps.size
 .show .inr #[g,a (i+1),λf H2 p2=>#[z.cps.size-(i+1),(),rfl,g,p2],λx H2 y=>?_];let#[e1,c,u,B]:=y;subst e1 B;show j i c σ' _ (by simpa using u) p
 .let e:i=z.cps.size:=()
  subst e;show .inl #[Ϭ _,hd σ' H' (by simpa using p)]
def QL{Q:Hp->Prop}{j:Nat}(U:Y.N.Nodup)(W:nameAt Y.N y=some j)(M:Y.env.scope.names.lookup y=some .local)(n:Nat)(hn:n<=ϯ)(q:Nat->V->Prop)(It:Nat->V->Prop)(O:H E=none)(go:∀i H1,ζ (upd H E (.lst [])) (upd H1 E (.lst []))->i<n->J.go i H1)(stop:∀H1,ζ (upd H E (.lst [])) (upd H1 E (.lst []))->J.stop n H1)(yld:∀i H1 x H2,i<n->ζ (upd H E (.lst [])) (upd H1 E (.lst []))->J.yld i H1 x H2->It i x/\H2=H1)(step:∀i x H1,i<n->It i x->ζ H H1->EV Y elt (f.set j (some x)) H1 λv H2=>q i v/\ζ H1 H2)(fin:∀H1 xs,xs.length=n->(∀i v,xs[i]?=some v->q i v)->H1 E=some (.lst xs)->ζ H H1->Q H1):j5 X Y (.Name y py) elt [] J E f H Q:=by
 let D:∀{H1:Hp},ζ H H1->ζ (upd H E (.lst [])) (upd H1 E (.lst [])):=λ{H1} s b o e=>by
  by_cases P:b=E
  .subst P;rw[ς]at e⊢;show e
  .rw[ξ P]at e⊢;show s b o e
 show#[λi m B H1=>m=n-i/\i<=n/\ζ H H1/\(B=f\/∃x,B=f.set j (some x))/\∃xs,H1 E=some (.lst xs)/\xs.length=i/\∀k v,xs[k]?=some v->q k v,#[n,by simp,ad5 _,ζ.upd O,.inl rfl,[],ς,rfl,λk v e=>by simp at e],?_]
 rintro i m B H1 ⟨rfl,hi,p,F,xs,R,G,S⟩
 by_cases g:i<n
 .show .inr #[go i H1 (D p) g,λl H'=>ζ H H'/\(l=f\/∃x,l=f.set j (some x))/\∃xs,H' E=some (.lst xs)/\xs.length=i+1/\∀k v,xs[k]?=some v->q k v,λl H' z=>by let#[a,b,c]:=z;show #[n-(i+1),(),rfl,g,a,b,c],λx H2 y=>?_];let#[Z,e2]:=yld i H1 x H2 g (D p) y;subst e2;show ω U W (.inl M) (.inr M) (XX ?_);rw[if_pos rfl];let I:B.set j (some x)=f.set j (some x):=by
   obtain e|⟨z,e⟩:=F
   .rw[e]
   .rw[e,List.set_set]
  rw[I];show ϝ (step i x H2 g Z p) λv H3 ⟨pv,T⟩=>#[xs,T _ _ R,(),?_]
  show#[λb o e=>?_,.inr #[x,rfl],xs++[v],ς,by simp[G],λk u e=>?_]
  .rw[ξ (ϑ e O)];show T _ _ (p _ _ e)
  .by_cases hk:k<xs.length
   .rw[akG hk]at e;show S k u e
   .let L:k=i:=by
     have:=(aat.mp e).1;rw[abo,aeg]at this;omega
    subst L;rw[<-G,am7]at e;cases e;show pv
 .let e:i=n:=()
  subst e;show .inl #[stop H1 (D p),fin H1 xs G S R p]
def Xp{scope:agV}{y:Str}{py:Pos}{j:Nat}(N':List Str){σ':St}(S:cL X.env scope)(z:X.mg "range"=none)(h:EV X a σ H λv H1=>∃n:Int,v=.int n/\ -(2^62)<=n/\n.toNat<=ϯ/\∃e:Nat->V->Prop,
   (∀(fp:List δ)(E C:δ)(f:μ)(B:Hp)(i:Nat)(H2:Hp),i<n.toNat->ζ H1 H2->EV (b7 X N' scope (ϗ scope X.env) C f B fp) elt (σ'.set j (some (.int i))) H2 λv D=>e i v/\ζ H2 D)/\
   ∀(E:δ)(H2:Hp)(xs:List V),H1 E=none->xs.length=n.toNat->(∀i v,xs[i]?=some v->e i v)->H2 E=some (.lst xs)->ζ H1 H2->Q (.ref E) H2)(g:cR N' X.N σ scope=σ':=by rfl)(F:X.calm=true:=by rfl)(G:N'.Nodup:=by fin2)(I:nameAt N' y=some j:=by rfl)(J:scope.names.lookup y=some .local:=by rfl)(L:Gl X "range":=by rfl)(hs:abP [a] X.env=[(false,eval a X.env)]:=by rfl):EV X (.ListComp elt [#[.Name y py,.Call (.Name "range" p) [a] [] p',[],0]] scope pos) σ H Q:=by
 show rm (N':=N') F S (by intro _;rfl) (Gm L z hs (dH hs (ϝ h λv H1 q=>?_)));let#[n,rfl,h1,h2,e,m,c]:=q;let hsz:(ϯ:Nat)<2^62:=by rw[ϰ];decide
 show jw #[n,rfl,h1,(),λfp E C f u=>?_];rw[g];show QL (Y:=b7 X N' scope (ϗ scope X.env) C f (upd H1 E (.lst [])) fp) G I (lookup_relabel_local J) n.toNat h2 e (λi x=>x=.int i) u (λi _ _ hi=>hi) (λ_ _=>Ϭ _) (λi H1 x H2 _ _ M=>?_) (λi x H2 hi ex s=>?_) (λH2 xs l O P s=>c E H2 xs u l O P s)
 .let#[e1,R]:=M;show#[by rw[R,aqE],e1]
 .subst ex;show m fp E C f _ i H2 hi s
def alC(N':List Str)(m:cR N' X.N σ scope=σ')(B:X.calm=true)(S:cL X.env scope)(D:N'.Nodup)(F:nameAt N' y=some j)(G:scope.names.lookup y=some .local)(hs:∀x,foldedSetIterable e X.env x=pure x)(h:EV X e σ H λv H1=>∃z:Str,v=.str z/\z.cps.size<=ϯ/\∃f:Nat->V->Prop,
   (∀(fp:List δ)(E C:δ)(g:μ)(I:Hp)(i c:Nat)(H2:Hp),z.cps.toList[i]?=some c->ζ H1 H2->EV (b7 X N' scope (ϗ scope X.env) C g I fp) elt (σ'.set j (some (.str #[#v[c]]))) H2 λv J=>f i v/\ζ H2 J)/\
   ∀(E:δ)(H2:Hp)(xs:List V),H1 E=none->xs.length=z.cps.size->(∀i v,xs[i]?=some v->f i v)->H2 E=some (.lst xs)->ζ H1 H2->Q (.ref E) H2):EV X (.ListComp elt [#[.Name y py,e,[],0]] scope pos) σ H Q:=by
 show rm (N':=N') B S hs (YC (ϝ h λv H1 q=>?_));let#[z,rfl,h2,f,n,a]:=q;show#[z,rfl,λfp E C g u=>?_];rw[m];show QL (Y:=b7 X N' scope (ϗ scope X.env) C g (upd H1 E (.lst [])) fp) D F (lookup_relabel_local G) z.cps.size h2 f (λi x=>∃c,z.cps.toList[i]?=some c/\x=.str #[#v[c]]) u (λi _ _ hi=>hi) (λ_ _=>Ϭ _) (λi H1 x H2 _ _ L=>?_) (λi x H2 hi ex s=>?_) (λH2 xs l M O s=>a E H2 xs u l M O s)
 .let#[e1,c,p,P]:=L;show#[#[c,by simpa using p,P],e1]
 .let#[c,e1,p]:=ex;subst p;show n fp E C g _ i c H2 e1 s
end
section
variable{P:Ϯ}{w:ϭ}{K:Ϩ}{mg:Str->Option ε}{base:ϫ}{cc:Bool}
abbrev jd(cc:Bool)(P:Ϯ)(w:ϭ)(K:Ϩ)(mg:Str->Option ε)(base:ϫ)(N:List Str)(qual:Str)(scope:agV)(f:δ)(cd:ε)(A:ϲ)(outer:List Env)(s:μ)(H:Hp)(E:XK):Cx:=
 my cc (cU P w) P w K mg base N qual scope f cd A outer s H E
def Ke{x qual:Str}{st:π}{k:Nat}{sp:Sp}{f:δ}{fd:ahh}(F:cZ K x qual st f fd)(S:Ρ N ps (χ st))(len:∀vs H Q E,sp vs H Q E->vs.length=ps.length)(body:∀(a:ε)(A:ϲ)(outer:List Env)(s:μ)(H:Hp)(vs:List V)(Q:VK)(E:XK),Ϙ cc k (A.deeper (envOfC qual (χ st) s.heap.objs.size f a))->sp vs H Q E->
   Ι (jd cc P w K mg base N qual (χ st) f a A outer s H E) (ϖ st) {nx:=λ_ H'=>Q .non H',rt:=Q} (start N vs) H):dM P w K mg base (cU P w) cc (k+1) f fd ps sp:=by
 let#[oc,od,kV,e,pm,an,a,ct,g,rfl,lk,c]:=id F.ex;show Xo lk c S len λA outer s H vs Q E i h=>#[_,Dt,body a A outer s H vs Q E i h]
def Δ{x:Str}{st:π}{k:Nat}{sp:Sp}(F:∃f fd,cZ K x x st f fd/\mg x=some (.ref f))(body:∀(f:δ)(a:ε)(A:ϲ)(outer:List Env)(s:μ)(H:Hp)(vs:List V)(Q:VK)(E:XK),Ϙ cc k (A.deeper (envOfC x (χ st) s.heap.objs.size f a))->sp vs H Q E->
   let X:=jd cc P w K mg base N x (χ st) f a A outer s H E;let D:Ends:={nx:=λ_ H'=>Q .non H',rt:=Q};Ι X (ϖ st) D (start N vs) H)(S:Ρ N ps (χ st):=by show#[rfl,rfl,rfl,by fin2,rfl,by fin2,by fin2])(e:∀(kV c pm:ε)(an:Option δ)(a ct:ε)(us:List ε),us.length=ps.length->bindArgs (art x x (mO st) (ϖ st) (χ st) .none kV c pm an a ct) #[us,[]]=pure (ps.zip us):=by walk_at"bb")(len:∀vs H Q E,sp vs H Q E->vs.length=ps.length:=by walk_at"ln"):Def P w K mg base cc (k+1) x ps sp:=by
 let#[f,fd,F,g]:=F;show#[f,fd,g,F.kp,F.binds e,Ke F S len λa A outer s H vs Q E i h=>body f a A outer s H vs Q E i h]
end
def ϐ(z:Str)(lo hi:Option Int):Str:=#[((z.cps.toList.drop (_H.Ζ z.length 0 lo)).take (_H.Ζ z.length z.length hi-_H.Ζ z.length 0 lo)).toArray]
def vJ(n d:Nat)(v:Int):max 0 (min (if v<0 then v+(n:Int)else v) (n:Int))=((_H.Ζ n d (some v):Nat):Int):=by
 rw[<-_H.J3];split <;>omega
def MN(lo hi:Option Int)(n:Nat):Builtin.Str.strSliceIndices lo hi 1 n=(acR (_H.Ζ n n hi-_H.Ζ n 0 lo)).map (λm=>_H.Ζ n 0 lo+m):=by
 let e:Builtin.Str.strSliceIndices lo hi 1 n=sliceRange ((_H.Ζ n 0 lo:Nat):Int) ((_H.Ζ n n hi:Nat):Int) 1:=by
  cases lo with
  |none=>
   cases hi with
   |none=>rfl
   |some v=>rw[<-vJ n n v];rfl
  |some u=>
   cases hi with
   |none=>rw[<-vJ n 0 u];rfl
   |some v=>rw[<-vJ n 0 u, <-vJ n n v];rfl
 rw[e];generalize _H.Ζ n 0 lo=a;generalize _H.Ζ n n hi=b;by_cases h:a<=b
 .have :=StrLaws.strSliceIndices_plain (len:=b) h (Ϭ b);rw[<-this];let c:Builtin.Str.strSliceIndices (some (a:Int)) (some (b:Int)) 1 b=sliceRange (a:Int) (b:Int) 1:=by
   let h1:¬((a:Int)<0):=()
   let h2:¬((b:Int)<0):=()
   let e1:max (0:Int) (min (a:Int) (b:Int))=a:=()
   let c:max (0:Int) (min (b:Int) (b:Int))=b:=()
   simp only[Builtin.Str.strSliceIndices,h1,h2,if_false,e1,c,show((1:Int)>0)=True from by simp,if_true]
  rw[c]
 .let f:b-a=0:=()
  rw[f];have:¬((a:Int)<b):=()
  simp[sliceRange,this]
def abn(z:Str)(lo hi:Option Int):(#[((Builtin.Str.strSliceIndices lo hi 1 z.length).filterMap (z.cps[·]?)).toArray]:Str)=ϐ z lo hi:=by
 rw[MN];unfold ϐ;let h1:=_H.Hu z.length z.length (Ϭ _) hi;let hl:z.cps.toList.length=z.length:=by simp[aqH]
 by_cases h:_H.Ζ z.length 0 lo<=_H.Ζ z.length z.length hi
 .have :=StrLaws.picks z.cps.toList (_H.Ζ z.length z.length hi-_H.Ζ z.length 0 lo) (_H.Ζ z.length 0 lo) ();rw[<-this];simp
 .let a:_H.Ζ z.length z.length hi-_H.Ζ z.length 0 lo=0:=()
  rw[a];simp
def ZQ(h:IsPart v o):∃l:Option (Int×Tok),v=partValue l/\l.map (·.1)=o:=by
 cases h with
 |none=>show#[none,rfl,rfl]
 |int i t=>show#[some (i,t),rfl,rfl]
def afZ:vX X (λx lo hi H Q=>∃z,x=.str z/\z.length<=ϯ/\Q (.str (ϐ z lo hi)) H):=by
 intro ϵ s σ H x v E G lo hi sl Q I rx hs pl m h;let#[z,rfl,J,q]:=h;let#[t,rfl]:=rx;show#["str",_,F.slot_str_getitem.lookup,typeIs_str s z t,?_];let#[l,rfl,rfl]:=ZQ pl;let#[u,rfl,rfl]:=ZQ m;let g:s.heap.IsSlice sl l u none:=by
  let#[o,n,p,hd]:=hs;show#[o,n,p,hd]
 show wpAny_getItem_str_slice g rfl ?_;let e:(slicePicked z l u none)=Builtin.Str.strSliceIndices (l.map (·.1)) (u.map (·.1)) 1 z.length:=rfl;unfold sliceMade;let i:(#[((slicePicked z l u none).filterMap (z.cps[·]?)).toArray]:Str)=ϐ z (l.map (·.1)) (u.map (·.1)):=by rw[e];show abn z _ _
 split
 .rename_i hh;let f:(slicePicked z l u none).length=z.length:=by
   simp only[aaO,beq_iff_eq]at hh;show hh.2
  let a:ϐ z (l.map (·.1)) (u.map (·.1))=z:=by
   rw[e,MN,aaA,afO]at f;let h1:=_H.Hu z.length z.length (Ϭ _) (u.map (·.1));let hl:z.cps.toList.length=z.length:=by simp[aqH]
   unfold ϐ;by_cases y:z.length=0
   .have :z.cps.toList=[]:=List.eq_nil_of_length_eq_zero ();rw[this];let j:z.cps= #v[]:=by
     have:=congrArg aek this;simpa using this
    let#[c]:=z;simp at j;subst j;simp
   .let B:_H.Ζ z.length 0 (l.map (·.1))=0:=()
    let D:_H.Ζ z.length z.length (u.map (·.1))=z.length:=()
    rw[B,D,amf,aqF,ae2 ()]
  show#[.str (ϐ z (l.map (·.1)) (u.map (·.1))),H,I,#[t,by rw[a]],q]
 .rw[i];show#[?_,.str (ϐ z (l.map (·.1)) (u.map (·.1))),H,I.tok _,#[_,rfl],q];have:(ϐ z (l.map (·.1)) (u.map (·.1))).length<=z.length:=by
   unfold ϐ aqH;simp;omega
  omega
theorem iG{lo hi:Option Int}(h:z.length<=ϯ)(g:Q (.str (ϐ z lo hi)) H):SL X (.str z) lo hi H Q:=#[_,afZ,z,rfl,h,g]
theorem dF{id:String}{r:V->List V->Hp->VK->Prop}{x:V}(h:Jk X id r)(q:r x xs H Q):MT X id x xs H Q:=#[r,h,q]
def Xb:∀{us:List ε},Vals (ys.map V.str) us->StrsAre us ys:=by
 induction ys with
 |nil=>intro us r;cases r;show .nil
 |cons y ys a=>
  intro us r;cases r with
  |cons r c=>
   let#[t,rfl]:=r;show .cons y t (a c)
def jg(h:η X.K H q (ys.map V.str))(a:(ys.map (·.length)).sum+ys.length*z.length<=16777216)(g:Q (.str (adT z ys)) H):MT X "str.join" (.str z) [.ref q] H Q:=by
 show dF (r:=λx xs H Q=>∃z q ys,x=.str z/\xs=[.ref q]/\η X.K H q (ys.map V.str)/\(ys.map (·.length)).sum+ys.length*z.length<=16777216/\Q (.str (adT z ys)) H) ?_ #[z,q,ys,rfl,rfl,h,a,g];intro ϵ s σ H x xs v us Q I rx rs h;let#[z,q,ys,rfl,rfl,h,a,g]:=h;let#[t,rfl]:=rx;let#[u,rfl,c]:=vals1 rs;cases(show u=Value.ref q from c);let#[i,f,pl,_]:=I.list h;show join_list pl.isList (by simpa using Xb f) a λt' k=>#[.str (adT z ys),H,I.tok k,#[t',?_],g]
 let e:Txt.join z ys=adT z ys:=by
  unfold Txt.join;cases ys with
  |nil=>rfl
  |cons y r=>show StrLaws.glued_cons z r y
 rw[e]
def XM(g:Q (.bl (Txt.startswith z y)) H):MT X "str.startswith" (.str z) [.str y] H Q:=by
 show dF (r:=λx xs H Q=>∃z y,x=.str z/\xs=[.str y]/\Q (.bl (Txt.startswith z y)) H) ?_ #[z,y,rfl,rfl,g];intro ϵ s σ H x xs v us Q I rx rs h;let#[z,y,rfl,rfl,g]:=h;let#[t,rfl]:=rx;let#[u,rfl,a]:=vals1 rs;let#[t',rfl]:=a;show SC.startswith #[.bl _,H,I,rfl,g]
def Vd{bs:List Bool}(z:X.calm=true)(h:η X.K H q (bs.map V.bl))(g:Q (.bl (bs.all id)) H):CL X (.builtin "all") [.ref q] H Q:=by
 show fM (r:=λxs H Q=>∃q bs,xs=[.ref q]/\η X.K H q (bs.map V.bl)/\Q (.bl (bs.all id)) H) ?_ #[q,bs,rfl,h,g];intro ϵ s σ H xs us Q I r h;let#[q,bs,rfl,h,g]:=h;let#[u,rfl,B]:=vals1 r;cases(show u=Value.ref q from B);let#[c,y,pl,L]:=I.list h;show call_all_walk (akz pl.isList ?_);let m:q<s.heap.objs.size:=by
  let#[o,n,_]:=pl.isList;show abQ n
 let a:c.length=bs.length:=by have:=y.length;rw[aaA]at this;show this.symm
 show#[s.heap.objs.size,[s.heap.objs.size,q],[s.heap.objs.size],c.toArray.size,(λi v=>c.toArray[i]?=some v),(λi h=>h.IsListIter s.heap.objs.size q i/\h.IsList q c.toArray),λi=>bs.getD i true,rfl,Walks.list (A:=X.A.in1) (show X.A.in1.handled=none from I.ok.hd z) s.heap.objs.size q (acE m) c.toArray,#[#[_,aaT _ rfl,rfl,rfl],?_],?_,λh' tk D=>?_]
 .let#[o,n,r]:=pl.isList;show#[o,ϴ _ n,r]
 .intro i v s Q E F m;let f:c[i]?=some v:=by simpa using F
  let hi:i<bs.length:=by rw[<-a];show(aat.mp f).1
  let#[u,e1,G]:=y.get (i:=i) (x:=V.bl bs[i]) (by simp[hi]);rw[f]at e1;cases e1;cases(show v=Value.bool bs[i]from G);show aft ?_;have:bs.getD i true=bs[i]:=by simp[hi]
  let j:Q (bs.getD i true) s:=m;rw[this]at j;show j
 .let e:(acR c.toArray.size).all (λi=>bs.getD i true)=bs.all id:=by
   rw[aaR,a,aex,ack,ack];constructor
   .intro h b p;let#[i,hi,e]:=aqx p;have:=h i (by simpa using hi);simpa [hi,e]using this
   .intro h i hi;let l:i<bs.length:=by simpa using hi
    have:=h bs[i] (aeq l);simpa [l]using this
  rw[e];let fp:=I.fpOk (Ϭ _) (I.hok.fresh (Ϭ _));let J:Inv X ϵ σ H {s with heap:=s.heap.push {cls:=.type "list_iterator",data:=.fields #v[.ref q,.int 0 0]}}:=I.kept (t':=s.toks) λb o e=>ϴ _ e
  show#[.bl _,H,J.turned (it:=s.heap.objs.size) (λb o p e=>D b o (by simpa using p) e) (I.hok.fresh (Ϭ _)) fp.2.1 fp.2.2.2.1 fp.2.2.2.2.1 fp.2.2.2.2.2,rfl,g]
def bN{env:Env}{scope:agV}(sc:agV)(c:env.scope=sc:=by rfl)(f:scope.kind=.function:=by rfl)(h:(scope.names.all λy=>(if y.2==.free then(sc.names.lookup y.1==some .cell||sc.names.lookup y.1==some .free)else true)&&y.2 !=.cell&&(if y.2==.local then scope.names.lookup y.1==some .local else true))=true:=by fin2):cL env scope:=by
 let h':=ack.mp h;show#[f,λy a e=>?_,λy a e=>?_,λy a e=>?_]
 .let q:=h' y a;simp only[e,beq_self_eq_true,if_true,aaO,aoM,beq_iff_eq]at q;show env.scope.names.lookup y.1=_\/env.scope.names.lookup y.1=_;rw[c];show q.1.1
 .let q:=h' y a;rw[e]at q;simp at q
 .let q:=h' y a;simp only[e,aaO,beq_iff_eq,beq_self_eq_true,if_true]at q;show q.2
def fD{α:Type}{ys:List α}(f:α->V)(hl:xs.length=ys.length)(h:∀(i:Nat) v,xs[i]?=some v->∃c,ys[i]?=some c/\v=f c):xs=ys.map f:=by
 apply List.ext_getElem?;intro i;rw[abI];cases e:xs[i]? with
 |none=>
  have:xs.length<=i:=List.getElem?_eq_none_iff.mp e;rw[am9 ()];rfl
 |some v=>
  let#[c,e1,a]:=h i v e;rw[e1,a];rfl
theorem agG(q:Q (.int 1000000000) H):OP X (binaryOp .Pow) (.int 10) (.int 9) H Q:=K1 #[by decide,by decide,by decide] (show Q (.int (10^(9:Int).toNat)) H from(show(10:Int)^(9:Int).toNat=1000000000 from by decide)▸q)
theorem aez(q:Q (.int 1000000000000000000) H):OP X (binaryOp .Pow) (.int 10) (.int 18) H Q:=K1 #[by decide,by decide,by decide] (show Q (.int (10^(18:Int).toNat)) H from(show(10:Int)^(18:Int).toNat=1000000000000000000 from by decide)▸q)
def EJ(X:Cx)(vs:List ϧ)(out:Str)(σ:St)(H:Hp)(Q:VK):Prop:=
 ∀(ϵ:List (δ×Obj))(s:μ),Inv X ϵ σ H s->ν (ϩ X.prog X.w) X.A (joinParts out (evalEach vs X.env)) (EP X ϵ σ Q) X.xe s
def xN(X:Cx)(vs:List ϧ)(n:Nat)(σ:St)(H:Hp)(R:Hp->Prop):=∀out:Str,out.length<=n->∀Q:VK,(∀z H',R H'->Q (.str z) H')->EJ X vs out σ H Q
abbrev vZ:List ε:=[.type "ValueError",.type "Exception",.type "BaseException",.type "object"]
def ο(mg:Str->Option ε)(x:Str):δ:=match mg x with
 |some (.ref C)=>C
 |_=>0
def dh(h:mg x=some (.ref C)):ο mg x=C:=by unfold ο;rw[h]
structure Qk(K:Ϩ)(mg:Str->Option ε)(x:Str):Prop where
 at_:mg x=some (.ref (ο mg x))
 ex:W.excIn K (ο mg x) vZ "ValueError.__new__"=true
def amV{K:Ϩ}{x:Str}{C:δ}(h:mg x=some (.ref C))(e:W.excIn K C vZ "ValueError.__new__"=true):Qk K mg x:=by
 let z:ο mg x=C:=by unfold ο;rw[h]
 show#[by rw[z];show h,by rw[z];show e]
def akL(K:Ϩ)(C:δ)(i:Option ε):Bool:=match K.lookup C with
 |some ⟨.type "type",_,.cls cd,sl⟩=>(match cd.mro,sl.toList with
  |.ref a::bm,[_,_,_,_,some (.builtin n),_]=>a==C&&n=="ValueError.__new__"&& !cd.hasDel&&W.tailIn K vZ bm&&W.nsOkIn K cd.ns&&asq K cd.ns "__init__"==some i
  |_,_=>false)
 |_=>false
theorem Ch.mV(c:Ch (X.tri F (X.pn++ϵ)) pins' b):Ch X ϵ b:=#[c.1,c.2.1,c.2.2.1,λp a=>c.2.2.2 p (ags _ a)]
def EH(X:Cx)(hs:List amh)(D:Ends)(σ:St)(cls:ε)(d:Option δ×Bool)(H:Hp):Prop:=
 ∀(ϵ:List (δ×Obj))(s:μ)(e T:δ),Inv X ϵ σ H s->cP s.heap e cls d (some T) .none->(∀b∈[e,T],H b=none/\Ch X ϵ b)->
  ν (ϩ X.prog X.w) X.A (handleBy (.ref e) X.env hs) (SP X ϵ D) X.xe s
def Qx(Kx:St->XK)(c:X.stack=X.env::X.outer)(l:X.env.frame=some X.env.locals)(a:∀F pn,dj (X.tri F pn) Kx->ajU (ϩ X.prog X.w) X.A X.env F->Ι (X.tri F pn) body {D with nx:=λσ' H'=>Ι X orelse D σ' H'} σ H)(hh:∀σ' cls d H',Kx σ' cls d H'->EH X (h₀::hs) D σ' cls d H'):SX X (.Try body (h₀::hs) orelse [] pos) D σ H:=by
 intro ϵ s I;show wpAny_Try_except ?_;show adt (a (λe g=>ν (ϩ X.prog X.w) X.A (noteFrame e X.env) (λ_ j=>ν (ϩ X.prog X.w) X.A (setFlight e none) (λ_ m=>ν (ϩ X.prog X.w) X.A (handleBy e X.env (h₀::hs)) (SP X ϵ D) X.xe m) X.xe j) X.xe g)
  (X.pn++ϵ) ?_ PassesOwn.looking [] s I.tri) (λf g q=>?_) λ_ _ q=>q
 .intro pins' σ' H' s' e cls d n q;let#[p,tb,x,y,i,ch]:=n;let z:=Inv.mV I.ok p;show uQ.note (X:=X) (ϵ:=ϵ) #[z,tb,x,y,i,λb a=>#[(ch b a).1,(ch b a).2.mV]] c l λj T B F3 c3=>?_
  show B.off F3 c3 λE G L=>hh σ' cls d H' q ϵ E e T G L c3
 .cases f with
  |next=>
   let#[σ',H',J,q]:=q;show q ϵ g (Inv.mV I.ok J)
  |brk=>
   let#[σ',H',J,q]:=q;show#[σ',H',Inv.mV I.ok J,q]
  |cont=>
   let#[σ',H',J,q]:=q;show#[σ',H',Inv.mV I.ok J,q]
  |ret u=>
   let#[v,σ',H',J,r,q]:=q;show#[v,σ',H',Inv.mV I.ok J,r,q]
mutual
inductive RD (K:Ϩ) (H:Hp):V->aoW->Prop
 |non:RD K H .non .none
 |bl (b:Bool):RD K H (.bl b) (.bool b)
 |int (i:Int):RD K H (.int i) (.int i)
 |str (x:Str):RD K H (.str x) (.str x)
 |lst {a:δ} {xs:List V} {ds:List aoW} (h:η K H a xs) (r:gn K H xs ds):RD K H (.ref a) (.list ds)
 |tup {a:δ} {xs:List V} {ds:List aoW} (h:ι K H a xs) (r:gn K H xs ds):RD K H (.ref a) (.tuple ds)
inductive gn (K:Ϩ) (H:Hp):List V->List aoW->Prop
 |nil:gn K H [] []
 |cons {x:V} {d:aoW} {xs:List V} {ds:List aoW} (h:RD K H x d) (r:gn K H xs ds):gn K H (x::xs) (d::ds)
end
mutual
theorem RD.reads{X:Cx}{σ:St}{H:Hp}{s:μ}(I:Inv X ϵ σ H s):∀{v:V}{d:aoW}{u:ε},RD X.K H v d->RelV v u->∃as,Reads s.heap u d as
 |_,_,_,.non,e=>by cases(show _=Value.none from e);show#[_,.none]
 |_,_,_,.bl b,e=>by cases(show _=Value.bool b from e);show#[_,.bool b]
 |_,_,_,.int i,e=>by let#[t,rfl]:=e;show#[_,.int i t]
 |_,_,_,.str x,e=>by let#[t,rfl]:=e;show#[_,.str x t]
 |_,_,_,.lst h r,e=>by
  cases(show _=Value.ref _ from e);let#[g,a,pl,_]:=I.list h;let#[as,q]:=gn.reads I r a;let#[o,c,f,n,hd]:=pl.isList;show#[_,.list c f hd (by simpa using q)]
 |_,_,_,.tup h r,e=>by
  cases(show _=Value.ref _ from e);let#[g,a,tp,_]:=I.tuple h;let#[as,q]:=gn.reads I r a;let#[o,c,f,n,hd]:=tp;show#[_,.tuple c f hd (by simpa using q)]
theorem gn.reads{X:Cx}{σ:St}{H:Hp}{s:μ}(I:Inv X ϵ σ H s):∀{vs:List V}{ds:List aoW}{us:List ε},gn X.K H vs ds->Vals vs us->∃as,ReadsAll s.heap us ds as
 |_,_,_,.nil,.nil=>#[_,.nil]
 |_,_,_,.cons h r,.cons e t=>by
  let#[as,q]:=RD.reads I h e;let#[bs,a]:=gn.reads I r t;show#[_,.cons q a]
end
def Y9(g:X.A.units+64<cLine)(a:RD X.K H x d)(c:RD X.K H y d')(h1:d.canLay0=true)(h2:d'.canLay0=true)(hd:d.depth<=60)(q:Q (.bl (PyData.eqv d d')) H):OP X (ada .Eq) x y H Q:=by
 show#[λx y H Q=>RD X.K H x d/\RD X.K H y d'/\Q (.bl (PyData.eqv d d')) H,?_,a,c,q];intro ϵ s σ H x y v u Q I rx ry ⟨a,c,q⟩;let#[as,e]:=RD.reads I a rx;let#[bs,f]:=RD.reads I c ry;show SeqAt.rcAt_reads e f h1 h2 (by have:=arX d.depth d'.depth;omega) X.prog X.w X.xe _ #[.bl _,H,I,rfl,q]
def XQ(g:X.A.units+64<cLine)(a:RD X.K H x d)(c:RD X.K H y d')(h1:d.canLay0=true)(h2:d'.canLay0=true)(hd:d.depth<=60)(q:Q (.bl (!PyData.eqv d d')) H):OP X (ada .NotEq) x y H Q:=by
 show#[λx y H Q=>RD X.K H x d/\RD X.K H y d'/\Q (.bl (!PyData.eqv d d')) H,?_,a,c,q];intro ϵ s σ H x y v u Q I rx ry ⟨a,c,q⟩;let#[as,e]:=RD.reads I a rx;let#[bs,f]:=RD.reads I c ry;show SeqAt.rcNeAt_reads e f h1 h2 (by have:=arX d.depth d'.depth;omega) X.prog X.w X.xe _ #[.bl _,H,I,rfl,q]
def M4(l:List π)(i:Nat):π:=l.getD i (.Pass #[0,0,0,0])
def afW(s:π):List π:=match s with
 |.For _ _ b _ _=>b
 |_=>[]
def afx{A B:Prop}(h:A):if decide (V.non=V.non)=true then A else B:=by rw[if_pos (by decide)];show h
def aga{A B:Prop}(h:B):if decide (V.int i=V.non)=true then A else B:=by rw[if_neg (by simp)];show h
def aiK{A B:Prop}(h:B):if decide (V.str i=V.non)=true then A else B:=by rw[if_neg (by simp)];show h
def akd{A B:Prop}(h:B):if decide (V.ref i=V.non)=true then A else B:=by rw[if_neg (by simp)];show h
def ae7{A B:Prop}(h:B):if(!decide (V.non=V.non))=true then A else B:=by rw[if_neg (by decide)];show h
def aeG{A B:Prop}(h:A):if(!decide (V.int i=V.non))=true then A else B:=by rw[if_pos (by simp)];show h
def ach{A B:Prop}(h:A):if(!decide (V.str i=V.non))=true then A else B:=by rw[if_pos (by simp)];show h
def al4(a:intText? z=some n)(hl:z.length<=640)(q:Q (.int n) H):CL X (.type "int") [.str z] H Q:=by
 show fM (r:=λxs H Q=>∃z n,xs=[.str z]/\intText? z=some n/\z.length<=640/\Q (.int n) H) ?_ #[z,n,rfl,a,hl,q];intro ϵ s σ H xs us Q I r h;let#[z,n,rfl,a,hl,q]:=h;let#[u,rfl,c]:=vals1 r;let#[t,rfl]:=c;show W.KIN.call_text a hl #[.int n,H,I.tok _,#[_,rfl],q]
def sW(x:Str)(n:Int):Str:=#[(afw n.toNat x.cps).foldl (· ++ ·) #v[]]
def amE(h1:2<=n)(h2:n<1000000)(e:0<z.length)(c:z.length*n.toNat<=ϯ)(q:Q (.str (sW z n)) H):OP X (binaryOp .Mult) (.str z) (.int n) H Q:=by
 show bz (r:=λx y H Q=>∃z n,x=.str z/\y=.int n/\2<=n/\n<1000000/\0<z.length/\z.length*n.toNat<=ϯ/\Q (.str (sW z n)) H) ?_ #[z,n,rfl,rfl,h1,h2,e,c,q];intro ϵ s σ H x y v u Q I rx ry h;let#[z,n,rfl,rfl,h1,h2,e,c,q]:=h;let#[t,rfl]:=rx;let#[t',rfl]:=ry;let hsz:=ϰ;let e1:(n==1||z.length==0)=false:=by
  rw[Bool.or_eq_false_iff,beq_eq_false_iff_ne,beq_eq_false_iff_ne];omega
 let f:z.length<=16777216:=by
  have:z.length*1<=z.length*n.toNat:=Nat.mul_le_mul_left _ ();omega
 show PySem.P.mul_str (by rw[decide_eq_false (),decide_eq_false ()];rfl) (λ_ _ j=>?_) (λ_ _=>?_) ?_
 .let l:(2^63-1) / 1000000<=(2^63-1:Int) / n:=by
   apply Int.le_ediv_of_mul_le ();have:(2^63-1:Int) / 1000000*n<=(2^63-1) / 1000000*1000000:=Int.mul_le_mul_of_nonneg_left () (by decide);omega
  omega
 .unfold Builtin.Str.tooLong;rw[decide_eq_false];omega
 .rw[if_neg (),e1];show#[by
   let g:∀(k:Nat)(a:Array Nat),((afw k z.cps).foldl (· ++ ·) a).size=a.size+k*z.cps.size:=by
    intro k;induction k with
    |zero=>intro a;simp
    |succ k i=>
     intro a;rw[aot,aiw,i,Array.size_append,asi];omega
   show((afw n.toNat z.cps).foldl (· ++ ·) #v[]).size<=ϯ;rw[g];have:z.cps.size=z.length:=rfl;rw[this,asj];simpa using c,.str (sW z n),H,I.tok _,#[_,rfl],q]
theorem akn(e:H a=some (.lst xs))(q:Q (.bl true) H):CL X (.builtin "isinstance") [V.ref a,.ty "list"] H Q:=Ei (di.lst e) (k:=true) (by rfl) q
theorem Nf(e:H a=some (.tup xs))(q:Q (.bl true) H):CL X (.builtin "isinstance") [V.ref a,.ty "tuple"] H Q:=Ei (di.tup e) (k:=true) (by rfl) q
section
variable{X:Cx}{e:ϧ}{es:List ϧ}{σ:St}{H:Hp}{Q:VK}{pos p:Pos}
def Ek:List (Str×String):=[("len","len"),("isinstance","isinstance"),("all","all"),("any","any"),("min","min"),("max","max"),("abs","abs"),("sum","sum"),("sorted","sorted"),("ord","ord"),("divmod","divmod")]
def zE:List (Str×String):=[("str","str"),("list","list"),("tuple","tuple"),("int","int"),("set","set"),("bool","bool"),("dict","dict")]
theorem wZ{P:Str×String->Prop}:∀{l:List (Str×String)},l.lookup x=some i->(∀p∈l,P p)->P (x,i)
 |[],e,_=>by cases e
 |(y,k)::l,e,h=>by
  rw[aeO]at e;split at e
  .next q=>cases e;rw[beq_iff_eq.mp q];show h _ (by simp)
  .show wZ e λp a=>h p (by simp[a])
def afY:∀p∈Ek,bootBuiltins p.1=some (.builtin p.2)/\p.1≠"__name__"/\(p.1==("__debug__":Str))=false:=by
 simp only[Ek,arh];show#[#[PySem.boot_len,by decide,by decide],#[PyProof.Rows.boot_isinstance,by decide,by decide],#[PyProof.Rows.boot_all,by decide,by decide],#[PyProof.Rows.boot_any,by decide,by decide],#[PyProof.Rows.boot_min,by decide,by decide],#[PyProof.Rows.boot_max,by decide,by decide],#[PyProof.Rows.boot_abs,by decide,by decide],#[PyProof.Rows.boot_sum,by decide,by decide],#[PyProof.Rows.boot_sorted,by decide,by decide],#[PyProof.Rows.boot_ord,by decide,by decide],#[PyProof.Rows.boot_divmod,by decide,by decide],(λ_ h=>by cases h)]
def Wb:∀p∈zE,bootBuiltins p.1=some (.type p.2)/\p.1≠"__name__"/\(p.1==("__debug__":Str))=false:=by
 simp only[zE,arh];show#[#[PyProof.Rows.boot_str,by decide,by decide],#[PyProof.Rows.boot_list,by decide,by decide],#[PyProof.Rows.boot_tuple,by decide,by decide],#[PyProof.Rows.boot_int,by decide,by decide],#[PyProof.Rows.boot_set,by decide,by decide],#[PyProof.Rows.boot_bool,by decide,by decide],#[PyProof.Rows.boot_dict,by decide,by decide],(λ_ h=>by cases h)]
variable{x:Str}{i:String}
def ajf(g:Ek.lookup x=some i)(j:Gl X x)(l:X.mg x=none)(m:abP (e::es) X.env=(false,eval e X.env)::abP es X.env)(f:(backTo pos (abP es X.env)).any (·.1)=false)(h:EA X (e::es) σ H λvs H1=>CL X (.builtin i) vs H1 Q):EV X (.Call (.Name x p) (e::es) [] pos) σ H Q:=by
 let#[a,b,c]:=wZ g afY;show aco j l a b c m f h
def alJ(g:zE.lookup x=some i)(j:Gl X x)(l:X.mg x=none)(m:abP (e::es) X.env=(false,eval e X.env)::abP es X.env)(f:(backTo pos (abP es X.env)).any (·.1)=false)(h:EA X (e::es) σ H λvs H1=>CL X (.type i) vs H1 Q):EV X (.Call (.Name x p) (e::es) [] pos) σ H Q:=by
 let#[a,b,c]:=wZ g Wb;show amQ j l a b c m f h
def afh(e:zE.lookup x=some i)(f:Gl X x)(g:X.mg x=none)(q:Q (.ty i) H):EV X (.Name x pos) σ H Q:=by
 let#[a,b,c]:=wZ e Wb;show akA f g a q b c
def Yb:V->Option ε
 |.non=>some (.type "NoneType")|.bl _=>some (.type "bool")|.int _=>some (.type "int")|.str _=>some (.type "str")|_=>none
def alP{K:Ϩ}{t:ε}(h:Yb y=some t):di K H y t:=by
 cases y<;>cases h
 .show .non
 .show .bl _
 .show .int _
 .show .str _
theorem Te{t:ε}{T:String}{k:Bool}(q:Q (.bl k) H)(h:Yb y=some t:=by rfl)(e:ars X.K t (.type T)=some k:=by rfl):CL X (.builtin "isinstance") [y,.ty T] H Q:=Ei (alP h) e q
def Qw(X:Cx)(x:Str)(σ:St):Option V:=match X.env.scope.names.lookup x with
 |some .local=>if(x==("__debug__":Str))||(x==("__classdict__":Str))then none else fZ X.N σ x
 |some .cell=>if(x==("__debug__":Str))||(x==("__classdict__":Str))then none else fZ X.N σ x
 |some .free=>if(x==("__debug__":Str))||(x==("__classdict__":Str))then none else fZ X.N σ x
 |_=>none
def afp(h:Qw X x σ=some v)(q:Q v H):EV X (.Name x pos) σ H Q:=by
 let a:uf X.env.scope x->(if(x==("__debug__":Str))||(x==("__classdict__":Str))then none else fZ X.N σ x)=some v->EV X (.Name x pos) σ H Q:=λe h=>by
  split at h
  .cases h
  .next c=>
   rw[aoM,not_or,arN,arN]at c;show adY h e q c.1 c.2
 unfold Qw at h;split at h
 .show a (.inl ‹_›) h
 .show a (.inr (.inl ‹_›)) h
 .show a (.inr (.inr ‹_›)) h
 .cases h
end
section
variable{X:Cx}{ϵ:List (δ×Obj)}{σ:St}{H:Hp}{s:μ}
def Inv.Ie{ch:List δ}{T:δ}{us:List ε}{h':ϫ}{tk:Nat}(I:Inv X ϵ σ H s)(g:∀b∈ch,bR X ϵ H b)(l:s.heap.objs.size<=T)(k:∀b o,b∉ch->s.heap.get? b=some o->h'.get? b=some o)(m:xs.length<=ϯ)(p:Vals xs us)(tp:IsTup h' T us.toArray):Inv X ϵ σ (upd H T (.tup xs)) {s with heap:=h',toks:=tk}:=by
 let f:=I.hok.fresh l;let neT:∀b o,s.heap.get? b=some o->b≠T:=λb o e z=>ahK _ (acn (abQ e) (z▸l))
 let i:∀b u,H b=some u->b∉ch:=λb u e z=>by rw[(g b z).1]at e;cases e
 show I.call (g':=s.gens) (d':=s.drawn) (t':=tk) (ch:=ch) (h':=h') #[λb o e _ _ j=>k b o j e,λb o e _ _ j=>#[o.slots,k b o j e],λb o e n _=>?_,λb o e j=>#[o,k b o j e],λb ys e=>?_,λb o u e=>?_,λb ps e=>#[#v[],?_]] ?_ I.bare
  λb a=>#[(g b a).2.2.2.1,(g b a).2.1,(g b a).2.2.2.2.1,(g b a).2.2.2.2.2]
 .rw[ξ (neT b o e)];show n
 .rw[ξ (ϑ e f)];show e
 .rw[ξ (ϑ e f)];show e
 .rw[ξ (ϑ e f),e];simp
 .intro b u e;by_cases a:b=T
  .subst a;rw[ς]at e;cases e;show#[m,us,p,tp]
  .rw[ξ a]at e;show(I.hok b u e).stay (λc v x q=>k c v ?_ q) (λc q=>by rw[ξ (ϑ q f)];show q) (λc ys q=>by rw[ξ (ϑ q f)];show q) λc y v q=>by rw[ξ (ϑ q f)];show q
   obtain z|z:=x
   .subst z;show i c u e
   .show i c _ z
end
def CG(K:Ϩ)(l:δ):It:=
 #[λi H=>∃xs x,η K H l xs/\xs[i]?=some x,λi H v H'=>∃T x,v=.ref T/\H T=none/\H'=upd H T (.tup [.int i,x])/\∀xs,η K H l xs->xs[i]?=some x,λi H=>∃xs,η K H l xs/\xs.length<=i]
theorem ahl{P:Ϯ}{w:ϭ}{K:PySem.W.Frag}{elts:List ϧ}{k:Nat}{pos:Pos}(l e it:δ)(G:e≠it)(J:l≠e)(L:l≠it):Turn P w K (.Tuple elts k pos) (CG K l) [e,it] e (λi h=>(∃old,IsEnum h e it i old)/\h.IsListIter it l i)where
 mem:=by simp
 obj:=λi h st b c=>by
  let#[#[old,a],o,f,_,hd]:=st;obtain z|z:=ϳ.mp c
  .subst z;show#[_,a,λv z=>by cases z]
  .let z':b=it:=by simpa using z
   subst z';show#[o,f,λv z=>by rw[hd]at z;cases z]
 keep:=λi h h' st kk=>by
  let#[#[old,a],o,f,r]:=st;show#[#[old,kk e (by simp) _ a],o,kk it (by simp) _ f,r]
 item:=by
  intro X M O R S i ϵ s σ H E I B st U;subst M O R;let#[#[old,a],g]:=st;let#[xs,x,D,j]:=U;let#[m,F,pl,hz]:=I.list D;let W:=WalksT.enumerate (prog:=X.prog) (w:=X.w) (A:=X.A) (I.ok.hd S) e it l G J L m.toArray;let hi:i<m.toArray.size:=by
   rw[aaR, <-F.length];show(aat.mp j).1
  let#[u,hu,ru]:=F.get j;show W.item i s _ _ hi #[#[old,a],g,pl.isList] λT vals h1 tk hp Y tup n keep=>#[.ref T,rfl,?_]
  let#[t,y,ey,rfl]:=hp;let Z:y=u:=by
   have:m[i]?=some y:=by simpa using ey
   rw[hu]at this;show(Option.some.inj this).symm
  subst Z;show W.go elts k pos i T {s with heap:=h1,toks:=tk} _ _ n λh2 ab oM=>?_
  let#[#[ac,ae],p,_]:=ab;let vI:IsTup h2 T [Value.int i t,y].toArray:=by
   let#[o,f,r]:=tup;show#[o,oM T o (W.apart i T h1 n) f,r]
  show#[.ref T,upd H T (.tup [.int i,x]),I.Ie (ch:=[e,it]) (tk:=tk) B Y (λb o c q=>oM b o c (keep b o c q)) Β (.cons #[t,rfl] (.cons ru .nil)) vI,rfl,?_,?_,λb c=>?_]
  .show#[T,x,rfl,I.hok.fresh Y,rfl,λys hy=>?_];rw[<-I.list_inj D hy];show j
  .show#[#[ac,by simpa using ae],p]
  .have :b≠T:=λz=>by
    obtain⟨o,f,_⟩:∃o,s.heap.get? b=some o/\True:=by
     obtain z|z:=ϳ.mp c
     .subst z;show#[_,a,trivial]
     .let z':b=it:=by simpa using z
      subst z';let#[o,f,_]:=g;show#[o,f,trivial]
    show ahK _ (acn (abQ f) (z▸Y))
   rw[ξ this];show(B b c).1
 done:=by
  intro X M O R S i ϵ s σ H E I B st U;subst M O R;let#[#[old,a],g]:=st;let#[xs,D,j]:=U;let#[m,F,pl,hz]:=I.list D;let hn:m.toArray[i]?=none:=ajD (by rw[aaR, <-F.length];show j);show wpAny_pyNext_enum_end (I.ok.hd S) a g pl.isList hn λh' hk=>#[rfl,?_]
  let#[f0,f1,f2,f3,f4,f5]:=B it (by simp);show I.turned (t':=s.toks) (it:=it) (λb o c q=>hk b o c q) f0 f1 f3 f4 f5
 self:=λA i s Q E st h=>by
  let#[#[old,a],_]:=st;show wpAny_pyIter_enum a h
def aba(y:Gl X "enumerate")(B:X.mg "enumerate"=none)(hs:abP [a] X.env=[(false,eval a X.env)])(h:EV X a σ H λv H1=>∃l xs,v=.ref l/\H1 l=some (.lst xs)/\R (CG X.K l) H1):EI X (.Tuple elts k tp) (.Call (.Name "enumerate" p) [a] [] pos) σ H R:=by
 intro ϵ s I;show Call_ (ju I y B boot_enumerate (PyProof.Rows.callWith_type1 (υ (dH (es:=[]) (QA:=λvs H1=>∃l xs,vs=[.ref l]/\H1 l=some (.lst xs)/\R (CG X.K l) H1) hs (ϝ h λv H1 z=>by let#[l,xs,e,D,E]:=z;show jw #[l,xs,by rw[e],D,E]) pos ϵ s I) λus c F=>?_) hs rfl));let#[vs,H1,f,G,l,xs,e,hl,q]:=F;subst e;let#[u,rfl,J]:=vals1 G;cases(show u=Value.ref l from J);let#[O,P,n,Q,m]:=f.hok l _ hl;show call_enumerate_1 m λh' x i hsz L=>?_
 show wpAny_pyIter_enum x ?_;let g:l<c.heap.objs.size:=abQ m;show#[c.heap.objs.size+1,[c.heap.objs.size+1,c.heap.objs.size],_,_,H1,rfl,f.kept (t':=c.toks) L,ahl l _ _ (Nat.succ_ne_self _) (acE (ape g)) (acE g),#[#[_,x],i],λb M=>?_,q];let j:b=c.heap.objs.size+1\/b=c.heap.objs.size:=by simpa using M
 obtain z|z:=j<;>subst z
 .show f.fpOk (apb _) (f.hok.fresh (apb _))
 .show f.fpOk (Ϭ _) (f.hok.fresh (Ϭ _))
section
variable{X:Cx}{ϵ:List (δ×Obj)}{σ:St}{H:Hp}{s:μ}
def Inv.We{ch:List δ}{tk:Nat}(I:Inv X ϵ σ H s)(a:∀b∈ch,bR X ϵ H b)(k:∀b o,b∉ch->s.heap.get? b=some o->h'.get? b=some o):Inv X ϵ σ H {s with heap:=h',toks:=tk}:=by
 let f:∀b u,H b=some u->b∉ch:=λb u e z=>by rw[(a b z).1]at e;cases e
 show I.call (g':=s.gens) (d':=s.drawn) (t':=tk) (ch:=ch) (h':=h') #[λb o e _ _ g=>k b o g e,λb o e _ _ g=>#[o.slots,k b o g e],λb o e n _=>n,λb o e g=>#[o,k b o g e],λb ys e=>e,λb o u e=>e,λb ps e=>#[#v[],?_]] ?_ I.bare
  λb i=>#[(a b i).2.2.2.1,(a b i).2.1,(a b i).2.2.2.2.1,(a b i).2.2.2.2.2]
 .rw[e];simp
 .intro b u e;show(I.hok b u e).stay (λc v j q=>k c v ?_ q) (λc q=>q) λc ys q=>q
  obtain z|z:=j
  .subst z;show f c u e
  .show f c _ z
end
def La(K:Ϩ)(l m:δ):It:=
 #[λi H=>∃xs ys x y,η K H l xs/\η K H m ys/\xs[i]?=some x/\ys[i]?=some y,
  λi H v H'=>∃T x y,v=.ref T/\H T=none/\H'=upd H T (.tup [x,y])/\(∀xs,η K H l xs->xs[i]?=some x)/\∀ys,η K H m ys->ys[i]?=some y,
  λi H=>∃xs ys,η K H l xs/\η K H m ys/\min xs.length ys.length<=i]
theorem akl{P:Ϯ}{w:ϭ}{K:PySem.W.Frag}{elts:List ϧ}{k:Nat}{pos:Pos}(z TI TO j n l m:δ)(D:ZipApart z TI TO j n l m):Turn P w K (.Tuple elts k pos) (La K l m) [z,TI,TO,j,n] z (λi h=>IsZip h z TI TO .none/\IsPair h TI (.ref j) (.ref n)/\(∃a b,IsPair h TO a b)/\h.IsListIter j l i/\h.IsListIter n m i)where
 mem:=by simp
 obj:=λi h st b g=>by
  let#[F,f,#[a,a',c],#[o1,h1,_,d1],#[o2,h2,_,d2]]:=st;simp only[ϳ,aew,or_false]at g;obtain e|e|e|e|e:=g<;>subst e
  .show#[_,F,λv z=>by cases z]
  .show#[_,f,λv z=>by cases z]
  .show#[_,c,λv z=>by cases z]
  .show#[_,h1,λv z=>by rw[d1]at z;cases z]
  .show#[_,h2,λv z=>by rw[d2]at z;cases z]
 keep:=λi h h' st kk=>by
  let#[F,f,#[a,a',c],#[o1,h1,r1],#[o2,h2,r2]]:=st;show#[kk z (by simp) _ F,kk TI (by simp) _ f,#[a,a',kk TO (by simp) _ c],#[o1,kk j (by simp) _ h1,r1],#[o2,kk n (by simp) _ h2,r2]]
 item:=by
  intro X hP hw hK hc i ϵ s σ H E I S st hg;subst hP hw hK;let#[F,f,c,h1,h2]:=st;let#[xs,ys,x,y,U,p,Y,hy]:=hg;let#[G,Z,pl,hsz]:=I.list U;let#[its',B,J7,J]:=I.list p;let W:=WalksT.zip2 (prog:=X.prog) (w:=X.w) (A:=X.A) (I.ok.hd hc) z TI TO j n l m D G.toArray its'.toArray;let hi:i<min G.toArray.size its'.toArray.size:=by
   rw[aaR, <-Z.length,aaR, <-B.length];show Nat.lt_min.mpr #[(aat.mp Y).1,(aat.mp hy).1]
  let#[u,hu,ru]:=Z.get Y;let#[u',ab,Hk]:=B.get hy;show W.item i s _ _ hi #[F,f,c,h1,h2,pl.isList,J7.isList] λT vals hh tk hp hT tup L keep=>#[.ref T,rfl,?_]
  let#[v,v',ev,ac,rfl]:=hp;let e1:v=u:=by
   have:G[i]?=some v:=by simpa using ev
   rw[hu]at this;show(Option.some.inj this).symm
  let e2:v'=u':=by
   have:its'[i]?=some v':=by simpa using ac
   rw[ab]at this;show(Option.some.inj this).symm
  subst e1 e2;show W.go elts k pos i T {s with heap:=hh,toks:=tk} _ _ L λh3 ae oM=>?_
  let#[gz,af,ag,g1,g2,_]:=ae;let M:∀b,b∉[z,TI,TO,j,n]->b∉[z,TO,j,n]:=λb g O=>g (by simp at O⊢;obtain e|e|e|e:=O<;>simp[e])
  let vI:IsTup h3 T [v,v'].toArray:=by
   let#[o,ho,r]:=tup;show#[o,oM T o (W.apart i T hh L) ho,r]
  show#[.ref T,upd H T (.tup [x,y]),I.Ie (ch:=[z,TI,TO,j,n]) (tk:=tk) S hT (λb o g q=>oM b o (M b g) (keep b o (M b g) q)) Β (.cons ru (.cons Hk .nil)) vI,rfl,?_,#[gz,af,ag,g1,g2],λb g=>?_]
  .show#[T,x,y,rfl,I.hok.fresh hT,rfl,λa ha=>?_,λa ha=>?_]
   .rw[<-I.list_inj U ha];show Y
   .rw[<-I.list_inj p ha];show hy
  .have :b≠T:=λq=>by
    obtain⟨o,ho⟩:∃o,s.heap.get? b=some o:=by
     let#[a,a',c]:=c;let#[o1,h1,_]:=h1;let#[o2,h2,_]:=h2;simp only[ϳ,aew,or_false]at g;obtain e|e|e|e|e:=g<;>subst e
     .show#[_,F]
     .show#[_,f]
     .show#[_,c]
     .show#[_,h1]
     .show#[_,h2]
    show ahK _ (acn (abQ ho) (q▸hT))
   rw[ξ this];show(S b g).1
 done:=by
  intro X hP hw hK hc i ϵ s σ H E I S st hg;subst hP hw hK;let#[F,f,#[a,b,c],h1,h2]:=st;let#[xs,ys,U,p,Y]:=hg;let#[G,Z,pl,hsz]:=I.list U;let#[its',B,J7,J]:=I.list p;let R:G.toArray[i]?=none\/its'.toArray[i]?=none:=by
   by_cases q:xs.length<=i
   .show .inl (ajD (by rw[aaR, <-Z.length];show q))
   .show .inr (ajD (by rw[aaR, <-B.length];omega))
  show wpAny_pyNext_zip_end (I.ok.hd hc) D F f c h1 h2 pl.isList J7.isList R λh' hk=>#[rfl,?_]
  show I.We (tk:=s.toks) S λb o g q=>hk b o (λe=>g (by simp[e])) (λe=>g (by simp[e])) (λe=>g (by simp[e])) (λe=>g (by simp[e])) q
 self:=λA i s Q E st h=>wpAny_pyIter_zip st.1 h
def aes(n l m:Nat)(h1:l<n)(h2:m<n):ZipApart (n+4) (n+2) (n+3) n (n+1) l m:=by
 constructor<;>(intro e;let a:(_:Nat)=_:=e;omega)
def ag3(D:Gl X "zip")(E:X.mg "zip"=none)(hs:abP [a,b] X.env=[(false,eval a X.env),(false,eval b X.env)])(c:abP [b] X.env=[(false,eval b X.env)])(h:EV X a σ H λv H1=>EV X b σ H1 λy H2=>∃l m xs ys,v=.ref l/\y=.ref m/\H2 l=some (.lst xs)/\H2 m=some (.lst ys)/\R (La X.K l m) H2):EI X (.Tuple elts k tp) (.Call (.Name "zip" p) [a,b] [] pos) σ H R:=by
 intro ϵ s I;show Call_ (ju I D E boot_zip (PyProof.Rows.callWith_type1 (υ (dH (es:=[b]) (QA:=λvs H1=>∃l m xs ys,vs=[.ref l,.ref m]/\H1 l=some (.lst xs)/\H1 m=some (.lst ys)/\R (La X.K l m) H1) (by rw[hs,c]) (ϝ h λv H1 q=>dH (es:=[]) c (ϝ q λy H2 z=>by let#[l,m,xs,ys,e,F,G,J,L]:=z;show jw #[l,m,xs,ys,by rw[e,F],G,J,L])) pos ϵ s I) λus f M=>?_) (by rw[hs,c]) (by rw[c];rfl)));let#[vs,H1,g,O,l,m,xs,ys,e,hl,x,q]:=M;subst e;let#[u,P,rfl,Q,S]:=vals2 O;cases(show u=Value.ref l from Q);cases(show P=Value.ref m from S);let#[hz,T,n,rv,z]:=g.hok l _ hl;let#[U,its',n',W,i]:=g.hok m _ x;show call_zip_2 (xs:=T.toArray) (ys:=its'.toArray) #[_,z,rfl,_,rfl] #[_,i,rfl,_,rfl] λh' h1 h2 Y Z h5 hsz hk=>?_
 show wpAny_pyIter_zip h1 ?_;show#[f.heap.objs.size+4,[f.heap.objs.size+4,f.heap.objs.size+2,f.heap.objs.size+3,f.heap.objs.size,f.heap.objs.size+1],_,_,H1,rfl,g.kept (t':=f.toks) hk,akl _ _ _ _ _ l m (aes _ _ _ (abQ z) (abQ i)),#[h1,h2,#[_,_,Y],Z,h5],λb B=>?_,q];let j:f.heap.objs.size<=b:=by
  simp only[ϳ,aew,or_false]at B;obtain e|e|e|e|e:=B<;>subst e
  .show ajF _ _
  .show ajF _ _
  .show ajF _ _
  .show Ϭ _
  .show ajF _ _
 show g.fpOk j (g.hok.fresh j)
section
variable{X:Cx}{a e:ϧ}{σ:St}{H:Hp}{Q:VK}{D:Ends}{pos p p':Pos}
def aad{Q:Hp->Prop}(n:Nat)(hn:n<=ϯ)(B:St->Prop)(Z:B z)(f:Nat->V->Hp->Prop)(W:H E=none)(mono:∀i v H1 H2 ys,H1 E=some (.lst ys)->(∀b o,b≠E->H1 b=some o->H2 b=some o)->f i v H1->f i v H2)(go:∀i H1,ζ H H1->i<n->J.go i H1)(stop:∀H1,ζ H H1->J.stop n H1)(step:∀i l x H1 H2,i<n->B l->ζ H H1->(∃ys,H1 E=some (.lst ys)/\ys.length=i/\∀k v,ys[k]?=some v->f k v H1)->J.yld i H1 x H2->EG Y tg x l H2 λg P=>EV Y elt g P λv p=>B g/\f i v p/\ζ H1 p)(fin:∀H1 xs,xs.length=n->(∀i v,xs[i]?=some v->f i v H1)->H1 E=some (.lst xs)->ζ H H1->Q H1):j5 X Y tg elt [] J E z H Q:=by
 show#[λi m l H1=>m=n-i/\i<=n/\ζ H H1/\B l/\∃xs,H1 E=some (.lst xs)/\xs.length=i/\∀k v,xs[k]?=some v->f k v H1,#[n,by simp,ad5 _,ζ.upd W,Z,[],ς,rfl,λk v e=>by simp at e],?_]
 rintro i m l H1 ⟨rfl,hi,D,R,xs,F,L,S⟩
 by_cases j:i<n
 .show .inr #[go i H1 D j,λG H'=>ζ H H'/\B G/\∃xs,H' E=some (.lst xs)/\xs.length=i+1/\∀k v,xs[k]?=some v->f k v H',λG H' z=>by let#[a,b,c]:=z;show #[n-(i+1),(),rfl,j,a,b,c],λx H2 y=>?_];intro ϵ s u I r;show υ (step i l x H1 H2 j R D #[xs,F,L,S] y ϵ s u I r) λ_ s' ⟨g,P,I3,q3⟩=>#[g,P,I3,XX ?_]
  rw[if_pos rfl];show ϝ q3 λv p ⟨t2,pv,M⟩=>#[xs,M _ _ F,(),?_]
  let mm:∀k O,f k O p->f k O (upd p E (.lst (xs++[v]))):=λk O q=>mono k O p _ xs (M _ _ F) (λb o T e=>by rw[ξ T];show e) q
  show#[λb o e=>?_,t2,xs++[v],ς,by simp[L],λk u e=>?_]
  .rw[ξ (ϑ e W)];show M _ _ (D _ _ e)
  .by_cases hk:k<xs.length
   .rw[akG hk]at e;show mono k u H1 _ xs F (λb o T e=>?_) (S k u e);rw[ξ T];show M _ _ e
   .let U:k=i:=by
     have:=(aat.mp e).1;rw[abo,aeg]at this;omega
    subst U;rw[<-L,am7]at e;cases e;show mm _ _ pv
 .let e:i=n:=()
  subst e;show .inl #[stop H1 D,fin H1 xs L S F D]
variable{tg elt iter:ϧ}{scope:agV}{σ':St}
def vB(X:Cx)(N':List Str)(scope:agV)(tg elt:ϧ)(σ':St)(H1:Hp)(Q:VK)(n:Nat)(G:Nat->Hp->V->Hp->Prop):Prop:=
 ∃(f:St->Prop)(e:δ->Nat->V->Hp->Prop),f σ'/\
  (∀E i v H2 a ys,H2 E=some (.lst ys)->(∀b o,b≠E->H2 b=some o->a b=some o)->e E i v H2->e E i v a)/\
  (∀(fp:List δ)(E C:δ)(g:μ)(j:Hp)(i:Nat)(l:St)(x:V)(H2 a:Hp),H1 E=none->i<n->f l->ζ H1 H2->(∃ys,H2 E=some (.lst ys))->G i H2 x a->
   EG (b7 X N' scope (ϗ scope X.env) C g j fp) tg x l a λc p=>EV (b7 X N' scope (ϗ scope X.env) C g j fp) elt c p λv m=>f c/\e E i v m/\ζ H2 m)/\
  ∀(E:δ)(H2:Hp)(xs:List V),H1 E=none->xs.length=n->(∀i v,xs[i]?=some v->e E i v H2)->H2 E=some (.lst xs)->ζ H1 H2->Q (.ref E) H2
def xr(f:n<=ϯ)(go:∀i H2,ζ H H2->i<n->J.go i H2)(stop:∀H2,ζ H H2->J.stop n H2)(g:∀i H2 x e,i<n->ζ H H2->J.yld i H2 x e->G i H2 x e)(h:vB X N' scope tg elt σ' H Q n G):∀(fp:List δ)(D C:δ)(a:μ),H D=none->j5 X (b7 X N' scope (ϗ scope X.env) C a (upd H D (.lst [])) fp) tg elt [] J D σ' H (λH'=>Q (.ref D) H'):=by
 intro fp E C a c;let#[j,m,t0,mono,step,fin]:=h;show aad n f j t0 (m E) c (λi v H1 H2 ys=>mono E i v H1 H2 ys) go stop (λi p x H1 H2 hi q hs u y=>step fp E C a _ i p x H1 H2 c hi q hs (u.imp λ_ z=>z.1) (g i H1 x H2 hi hs y)) λH1 xs l B F s=>fin E H1 xs c l B F s
def jP(N':List Str)(S:cL X.env scope)(h:EV X e σ H λv H1=>∃l xs,v=.ref l/\η X.K H1 l xs/\xs.length<=ϯ/\vB X N' scope tg elt σ' H1 Q xs.length λi H2 x c=>xs[i]?=some x/\H2=c)(a:cR N' X.N σ scope=σ':=by rfl)(f:X.calm=true:=by rfl)(hs:∀x,foldedSetIterable e X.env x=pure x:=by intro _;rfl):EV X (.ListComp elt [#[tg,e,[],0]] scope pos) σ H Q:=by
 show rm (N':=N') f S hs (wH (ϝ h λv H1 q=>?_));let#[l,xs,rfl,hl,g,j]:=q;show#[l,rfl,#[xs,hl],?_];rw[a];show xr g (λi H2 s hi=>#[xs,xs[i],ζ.seq s hl,aaj hi]) (λH2 s=>#[xs,ζ.seq s hl,Ϭ _]) (λi H2 x c hi s y=>#[y.2 xs (ζ.seq s hl),y.1.symm]) j
def S8(N':List Str)(S:cL X.env scope)(f:X.mg "range"=none)(h:EV X a σ H λv H1=>∃n:Int,v=.int n/\ -(2^62)<=n/\n.toNat<=ϯ/\vB X N' scope tg elt σ' H1 Q n.toNat λi H2 x e=>x=.int i/\H2=e)(c:cR N' X.N σ scope=σ':=by rfl)(g:X.calm=true:=by rfl)(j:Gl X "range":=by rfl)(hs:abP [a] X.env=[(false,eval a X.env)]:=by rfl):EV X (.ListComp elt [#[tg,.Call (.Name "range" p) [a] [] p',[],0]] scope pos) σ H Q:=by
 show rm (N':=N') g S (by intro _;rfl) (Gm j f hs (dH hs (ϝ h λv H1 q=>?_)));let#[n,rfl,h1,h2,l]:=q;let hsz:(ϯ:Nat)<2^62:=by rw[ϰ];decide
 show jw #[n,rfl,h1,(),?_];rw[c];show xr h2 (λi H2 s hi=>hi) (λH2 s=>Ϭ _) (λi H2 x e hi s y=>#[by rw[y.2,aqE],y.1.symm]) l
def UG(N':List Str)(S:cL X.env scope)(E:X.mg "zip"=none)(h:EV X a σ H λv H1=>EV X b σ H1 λB H2=>∃l m xs ys,v=.ref l/\B=.ref m/\H2 l=some (.lst xs)/\H2 m=some (.lst ys)/\min xs.length ys.length<=ϯ/\
   vB X N' scope (.Tuple elts k tp) elt σ' H2 Q (min xs.length ys.length) λi c x D=>∃T y z,x=.ref T/\c T=none/\D=upd c T (.tup [y,z])/\xs[i]?=some y/\ys[i]?=some z)(f:cR N' X.N σ scope=σ':=by rfl)(F:X.calm=true:=by rfl)(G:Gl X "zip":=by rfl)(hs:abP [a,b] X.env=[(false,eval a X.env),(false,eval b X.env)]:=by rfl)(g:abP [b] X.env=[(false,eval b X.env)]:=by rfl):EV X (.ListComp elt [#[.Tuple elts k tp,.Call (.Name "zip" p) [a,b] [] p',[],0]] scope pos) σ H Q:=by
 show rm (N':=N') F S (by intro _;rfl) (ag3 G E hs g (ϝ h λv H1 q=>ϝ q λB H2 q=>?_));let#[l,m,xs,ys,e1,I,hl,e,h2,J]:=q;show#[l,m,xs,ys,e1,I,hl,e,?_];rw[f];let j:η X.K H2 l xs:=.inl (.inl hl);let n:η X.K H2 m ys:=.inl (.inl e);show xr h2 (λi c s hi=>#[xs,ys,xs[i]'(),ys[i]'(),ζ.seq s j,ζ.seq s n,aaj _,aaj _]) (λc s=>#[xs,ys,ζ.seq s j,ζ.seq s n,Ϭ _]) (λi c x D hi s y=>?_) J;let#[T,u,L,M,O,P,R,U]:=y;show#[T,u,L,M,O,P,R xs (ζ.seq s j),U ys (ζ.seq s n)]
def aje(s:ajU (ϩ X.prog X.w) X.A X.env X.xe)(z:X.calm=true)(B:Gl X "enumerate")(E:X.mg "enumerate"=none)(hs:abP [a] X.env=[(false,eval a X.env)])(h:EV X a σ H λv H1=>∃l xs,v=.ref l/\H1 l=some (.lst xs)/\∃c:Nat->St->Hp->Prop,c 0 σ H1/\(∀i σ' H',i<=xs.length->c i σ' H'->η X.K H' l xs)/\
   (∀i x T σ' H',xs[i]?=some x->c i σ' H'->H' T=none->EG X (.Tuple elts k tp) (.ref T) σ' (upd H' T (.tup [.int i,x])) λf H2=>Ι X body {D with nx:=c (i+1),ct:=c (i+1),bk:=D.nx} f H2)/\∀σ' H',c xs.length σ' H'->D.nx σ' H'):SX X (.For (.Tuple elts k tp) (.Call (.Name "enumerate" p) [a] [] p') body [] pos) D σ H:=by
 show mC s z (by intro _;rfl) (aba B E hs (ϝ h λv H1 q=>?_));let#[l,xs,rfl,F,c,G,hl,j,hd]:=q;show#[l,xs,rfl,F,λi m σ H=>m=xs.length-i/\i<=xs.length/\c i σ H,#[xs.length,by simp,ad5 _,G],?_]
 rintro i m σ' H' ⟨rfl,hi,p⟩
 let n:=hl i σ' H' hi p;by_cases g:i<xs.length
 .show .inr #[#[xs,xs[i],n,aaj g],c (i+1),λf H2 p2=>#[xs.length-(i+1),(),rfl,g,p2],λx H2 y=>?_];let#[T,u,e1,I,J,L]:=y;subst e1 J;show j i u T σ' H' (L xs n) p I
 .let e:i=xs.length:=()
  subst e;show .inl #[#[xs,n,Ϭ _],hd σ' H' p]
end
section
variable{Kt:Type} [DecidableEq Kt] [BEq Kt] [LawfulBEq Kt]
def eY(ks:List Kt):List Kt:=ks.foldl (λa k=>if k∈a then a else a++[k]) []
def uG(ks:List Kt)(k:Kt):eY (ks++[k])=if k∈eY ks then eY ks else eY ks++[k]:=by
 unfold eY;rw[arB];rfl
theorem Aw:∀n (ks:List Kt),ks.length=n->(eY ks).length<=ks.length
 |0,ks,h=>by rw[aoQ.mp h];show Ϭ _
 |n+1,ks,h=>by
  obtain⟨l,k,rfl⟩:∃l k,ks=l++[k]:=#[_,_,(amo (akH h)).symm];let hl:l.length=n:=by simpa using h
  let a:=Aw n l hl;rw[uG];split <;>simp <;>omega
theorem aar:∀n (ks:List Kt),ks.length=n->∀k,k∈eY ks↔k∈ks
 |0,ks,h=>by rw[aoQ.mp h];intro k;show Iff.rfl
 |n+1,ks,h=>by
  obtain⟨l,x,rfl⟩:∃l k,ks=l++[k]:=#[_,_,(amo (akH h)).symm];let hl:l.length=n:=by simpa using h
  let a:=aar n l hl;intro k;rw[uG,adb,abv];split
  .rename_i c;rw[a];constructor
   .show .inl
   .rintro(e|e)
    .show e
    .rw[e];show(a x).mp c
  .rw[adb,abv,a]
theorem JZ:∀n (ks:List Kt),ks.length=n->((eY ks).length=ks.length↔ks.Nodup)
 |0,ks,h=>by rw[aoQ.mp h];simp[eY]
 |n+1,ks,h=>by
  obtain⟨l,x,rfl⟩:∃l k,ks=l++[k]:=#[_,_,(amo (akH h)).symm];let hl:l.length=n:=by simpa using h
  let f:=JZ n l hl;let le:=Aw n l hl;let g:=aar n l hl x;rw[uG,apj];split
  .rename_i c;constructor
   .intro e;simp at e;omega
   .intro e;show absurd rfl (e.2.2 x (g.mp c) x (by simp))
  .rename_i c;rw[abo,abo,aeg];constructor
   .intro e;show#[f.mp (),by simp,λa i b j=>?_];rw[abv.mp j];intro m;show c (g.mpr (m▸i))
   .intro e;rw[f.mpr e.1]
end
def strAt(us:Array ε)(zs:List Str):=∀(i:Nat)(v:ε),us[i]?=some v->∃t z,v=.str z t/\zs[i]?=some z
def ji(prog:Ϯ)(w:ϭ)(h:ϫ)(S:δ)(zs:List Str):Prop:=h.SetOf (strKind prog w) S (λk=>decide (k∈eY zs)) (eY zs).length
def ji.stay(x:ji prog w h S zs)(k:∀o,h.get? S=some o->h'.get? S=some o):ji prog w h' S zs:=by
 let#[o,es,ep,t,a,rest]:=x;show#[o,es,ep,t,k _ a,rest]
def ajP{R:Result->μ->Prop}{G:Array GenState->Array GenState->Prop}{St:Nat->μ->Prop}(W:WalksS prog w A.in1 it fp wr G us.size (λi v=>us[i]?=some v) St)(S:δ)(E:S∉fp)(J:strAt us zs)(hl:us.size=zs.length)(a:us.size+1<scanBound)(d:Nat):∀(i:Nat)(s:μ),d+i=us.size->St i s->ji prog w s.heap S (zs.take i)->
   (∀s',Moved (S::wr) G s s'->ji prog w s'.heap S zs->R (.ok (.ret .none)) s')->codeAny (ϩ prog w) A (.builtin "set.update.loop" #[[.ref S,.ref it],[]]) R s:=by
 let c:S∉wr:=λh=>E (W.sub _ h)
 let up:∀b∈wr,b∈S::wr:=λb a=>acr _ a
 induction d with
 |zero=>
  intro i s hi st j n;let e:i=us.size:=()
  subst e;show aon F.entry_set_update_loop ?_;rw[Around.under_plainId F.plain_set_update_loop _];show Ϧ (m:=pyNext (.ref it)) (W.done s _ _ st λs' f=>?_);show ϱ (n s' (f.mono up) ?_);rw[hl,ajR]at j;show j.stay λo p=>f.heap S o c p
 |succ d L=>
  intro i s hi st j n;show aon F.entry_set_update_loop ?_;rw[Around.under_plainId F.plain_set_update_loop _];show Ϧ (m:=pyNext (.ref it)) (W.item i s _ _ () st λv s' M q f=>?_);let#[t,z,rfl,O]:=J i v M;let u:=j.stay (h':=s'.heap) λo p=>f.heap S o c p
  show ν _ A.in1 (holding [Value.str z t] (setAdd S (.str z t))>>=_) _ _ s';show Ϧ (ag9 ?_);unfold setAdd;show ag9 (Ϧ ((strKind prog w).pyHash (k:=z) (strKind_is _ _ _ _) ?_));let H:zs.take (i+1)=zs.take i++[z]:=by rw[anf,O];rfl
  let g:(eY (zs.take i)).length+1<scanBound:=by
   have:=Aw _ (zs.take i) rfl;have:(zs.take i).length<=zs.length:=by simp;omega
   omega
  show wpAny_setAddHashed_of (knd:=strKind prog w) (s:={s' with toks:=s'.toks+1}) (strKind_is _ _ _ _) rfl u g λh' I x=>?_
  let y:ji prog w h' S (zs.take (i+1)):=by
   show SetOf_congr x (λk=>?_) ?_
   .rw[H,uG];split
    .rename_i l;by_cases e:k=z
     .subst e;simp[l]
     .simp[e]
    .by_cases e:k=z
     .subst e;simp
     .simp[e]
   .rw[H,uG];by_cases l:z∈eY (zs.take i)
    .simp[l]
    .simp[l]
  show ϱ #[plainId_quiet F.plain_set_update_loop _,L (i+1) _ () (W.frame _ s' _ _ q (apb _) λb a o e=>?_) y λP B D=>?_]
  .rw[I.2 b (λh:b=S=>E (h▸a))];show e
  .show n P (Moved.trans W.gtrans ((f.mono up).then_heap (apb _) λb o a e=>?_) B) D;rw[I.2 b (λh:b=S=>a (h▸ac3))];show e
abbrev newSet(h:ϫ)(led:Bool):ϫ:=h.push {cls:=.type "set",dict:=none,data:=.set #v[] 0 (.fresh 0 0 led)}
set_option maxRecDepth 100000 in
def ab1(hh:A.handled=none)(hl:s.heap.IsList l us)(f:∃a,s.heap.get? S=some {cls:=.type "set",dict:=none,data:=.set #v[] 0 (.fresh 0 0 a)})(x:strAt us zs)(y:us.size=zs.length)(j:us.size+1<scanBound)(h:∀(h':ϫ)(tk:Nat),ji prog w h' S zs->(∀b o,b≠S->s.heap.get? b=some o->h'.get? b=some o)->Q .none {s with heap:=h',toks:=tk}):codeAny (ϩ prog w) A (.call (.builtin "set.__init__") #[[.ref S,.ref l],[]]) (wants Q E) s:=by
 let#[a,f]:=f;let z:s.TypeIs (.ref S) "set":=#[_,f,rfl];show codeAny_call_builtin F.called_set.init.plain F.entry_set_init (check_set_init_1 z ?_);let g:=hl;let#[#[oc,od,m,os],c,v,nl,hd]:=hl;simp only at v hd;subst v hd;let M:=F.sub_list_set;let O:=F.sub_list_frozenset;let P:(Value.type "list"==Value.type "dict")=false:=by decide
 unfold Builtin.«set.__init__» noKeywords Builtin.Frozenset.updateFrom;generalize n:pyIter=PI
 wp_walk
 subst n;show akz g (Ϧ (wpAny_runValue ?_));let B:S<s.heap.objs.size:=abQ f;let D:l<s.heap.objs.size:=abQ c;let G:A.in1.in1.handled=none:=by simp[hh]
 let p:S≠l:=λe=>by subst e;rw[f]at c;simp at c
 show ajP (us:=us) ((Walks.list G _ l (acE D) us).toS) S (by simp only[ϳ,aew,or_false,not_or];show#[acE B,p]) x y j us.size 0 {s with heap:=s.heap.push {cls:=.type "list_iterator",data:=.fields #v[.ref l,.int 0 0]}} ()
  #[#[_,aaT _ rfl,rfl,rfl],(g.push _)] ?_ ?_
 .let hget:=ϴ {cls:=.type "list_iterator",data:=.fields #v[.ref l,.int 0 0]} f;show SetOf_congr ((setObjOf_fresh (knd:=strKind prog w) a).setOf hget (by unfold scanBound;omega)) (λ_=>rfl) rfl
 .intro s' i H;let#[h',g',d',q,u]:=s';let I:g'=s.gens:=i.gens;let J:d'=s.drawn:=i.drawn;let L:u=s.os:=i.os;subst I J L;show ϱ ?_;show ν _ _ (ret Value.none) _ _ _;show ϱ (h h' q H λb o j e=>?_);show i.heap b o ?_ (ϴ _ e);simp only[ϳ,aew,or_false,not_or];show#[j,acE (abQ e)]
set_option maxRecDepth 100000 in
def aiZ(hh:A.handled=none)(hl:s.heap.IsList l us)(x:strAt us zs)(y:us.size=zs.length)(z:us.size+1<scanBound)(h:∀(h':ϫ)(tk:Nat),ji prog w h' s.heap.objs.size zs->(∀b o,s.heap.get? b=some o->h'.get? b=some o)->Q (.ref s.heap.objs.size) {s with heap:=h',toks:=tk}):ν (ϩ prog w) A (call (.type "set") [.ref l]) Q E s:=by
 let#[c,tl,q]:=F.called_set.mro;let m:=F.called_set.made;let u:=F.called_set.sub;let h1:=F.called_set.notType;let h2:=F.called_set.canCreate;let B:=F.typeCall_set_1 (.ref l);show wpAny_call (codeAny_of_tree ?_);show ν _ _ (callAny (.type "set") _) _ _ _;show ϱ #[Code.quiet_builtin _ (by fin2),aon F.entry_type_call ?_];rw[Around.under_plain (weight_type_call_type "set" [.ref l] []) rfl]
 repeat (any_goals (first|with_reducible assumption|wp_step))
 show aks (code_set_new_1 (.ref l) (E:=E) (Q₁:=λobj g=>∃a:Bool,obj=.ref s.heap.objs.size/\g={s with heap:=newSet s.heap a}) λa=>#[a,rfl,rfl]) λr g n=>?_
 rcases r with e|(_|_|_|obj)
 all_goals first|show n|show n.elim|skip
 let#[a,rfl,rfl]:=n;let v:(newSet s.heap a).get? s.heap.objs.size=some {cls:=.type "set",dict:=none,data:=.set #v[] 0 (.fresh 0 0 a)}:=aaT _ rfl;let H:Shared.TypeIs {s with heap:=newSet s.heap a} (.ref s.heap.objs.size) "set":=#[_,v,rfl];let D:=F.called_set.init.lookup;let G:=F.called_set.init.bind (.ref s.heap.objs.size)
 repeat (any_goals (first|with_reducible assumption|wp_step))
 show aks (ab1 (E:=E) (s:={s with heap:=newSet s.heap a}) (Q:=λr i=>r=.none/\∃h' tk,i={s with heap:=h',toks:=tk}/\ji prog w h' s.heap.objs.size zs/\∀b o,s.heap.get? b=some o->h'.get? b=some o) (by simp[hh]) (hl.push _) #[a,v] x y z λh' tk p k=>#[rfl,h',tk,rfl,p,λb o e=>k b o (acE (abQ e)) (ϴ _ e)]) λj i f=>?_
 rcases j with e|(_|_|_|r)
 all_goals first|show f|show f.elim|skip
 let#[rfl,h',tk,rfl,p,k]:=f
 repeat (any_goals (first|with_reducible assumption|wp_step))
 show h _ _ p k
section
variable{X:Cx}{H:Hp}{Q:VK}{v:V}
def pF(X:Cx)(S:δ)(zs:List Str):HO:=.ext λh=>ji X.prog X.w h S zs
def RV(n:X.calm=true)(h:η X.K H q (zs.map V.str))(j:zs.length<=4000)(g:∀S,H S=none->Q (.ref S) (upd H S (pF X S zs))):CL X (.type "set") [.ref q] H Q:=by
 show fM (r:=λxs H Q=>∃q zs,xs=[.ref q]/\η X.K H q (zs.map V.str)/\zs.length<=4000/\∀S,H S=none->Q (.ref S) (upd H S (pF X S zs))) ?_ #[q,zs,rfl,h,j,g];intro ϵ s σ H xs us Q I r h;let#[q,zs,rfl,h,j,g]:=h;let#[u,rfl,p]:=vals1 r;cases(show u=Value.ref q from p);let#[c,l,pl,_]:=I.list h;let hl:c.length=zs.length:=by have:=l.length;rw[aaA]at this;show this.symm
 let f:strAt c.toArray zs:=λi v e=>by
  let m:c[i]?=some v:=by simpa using e
  let hi:i<zs.length:=by rw[<-hl];show(aat.mp m).1
  let#[u,e1,y]:=l.get (i:=i) (x:=V.str zs[i]) (by simp[hi]);rw[m]at e1;cases e1;let#[t,rfl]:=y;show#[t,zs[i],rfl,aaj hi]
 show aiZ (I.ok.hd n) pl.isList f (by simpa using hl) (by show _<4096;simp;omega) λh' tk a k=>?_
 show#[.ref s.heap.objs.size,_,I.laid (t':=tk) (o:=pF X s.heap.objs.size zs) k (Ϭ _) #[a,?_,λh1 h2 a z=>a.stay z],rfl,g _ (I.hok.fresh (Ϭ _))];let#[o,es,ep,t,B,_]:=a;show#[o,B]
def VJ(h:H S=some (pF X S zs))(c:zs.length<=4000)(g:Q (.int (eY zs).length) H):CL X (.builtin "len") [.ref S] H Q:=by
 show fM (r:=λxs H Q=>∃S zs,xs=[.ref S]/\H S=some (pF X S zs)/\zs.length<=4000/\Q (.int (eY zs).length) H) ?_ #[S,zs,rfl,h,c,g];intro ϵ s σ H xs us Q I r h;let#[S,zs,rfl,h,c,g]:=h;let#[u,rfl,e]:=vals1 r;cases(show u=Value.ref S from e);let#[#[o,es,ep,t,f,a,hd,i,m,n,j,l],_]:=I.hok S _ h;let le:=Aw _ zs rfl;show call_len_set f a hd j () #[.int es.size,H,I.tok _,#[_,rfl],?_];rw[l];show g
theorem Vh(h:ι X.K H p xs)(q:Q (.bl (!jc x xs)) H)(f:gW x=true:=by rfl)(fs:xs.all gW=true:=by rfl):OP X (ada .NotIn) x (.ref p) H Q:=bz aj2 #[p,xs,rfl,.inr h,f,fs,q]
theorem sE(h:ι X.K H p xs)(q:Q (.bl (jc x xs)) H)(f:gW x=true:=by rfl)(fs:xs.all gW=true:=by rfl):OP X (ada .In) x (.ref p) H Q:=bz aeu #[p,xs,rfl,.inr h,f,fs,q]
theorem xP(h1:H l=some (.lst xs))(h2:H b=some (.lst zs))(a:xs.length+zs.length<=ϯ)(q:∀p,H p=none->Q (.ref p) (upd H p (.lst (xs++zs)))):OP X (binaryOp .Add) (.ref l) (.ref b) H Q:=bz ajJ #[l,b,xs,zs,rfl,rfl,h1,h2,a,q]
end
section
variable{X:Cx}{H:Hp}{D:Ends}{σ σ':St}{e a elt tg:ϧ}{scope:agV}{pos spos py p p':Pos}{y:Str}{j:Nat}
def vV(N':List Str)(S:cL X.env scope)(g:X.N.Nodup)(h:EV X e σ H λv H1=>∃l xs,v=.ref l/\η X.K H1 l xs/\xs.length<=ϯ/\vB X N' scope tg elt σ' H1 (λv H'=>D.nx (σ.set j (some v)) H') xs.length λi H2 x f=>xs[i]?=some x/\H2=f)(a:cR N' X.N σ scope=σ':=by rfl)(c:aoD (.ListComp elt [#[tg,e,[],0]] scope pos) (some (.Name y py)) spos.line X.env=pure true:=by rfl)(m:X.calm=true:=by rfl)(hs:∀x,foldedSetIterable e X.env x=pure x:=by intro _;rfl)(hi:nameAt X.N y=some j:=by rfl)(n:X.env.scope.names.lookup y=some .local:=by rfl):SX X (.Assign [.Name y py] (.ListComp elt [#[tg,e,[],0]] scope pos) spos) D σ H:=by
 show acF (N':=N') c m S hs g hi n (wH (ϝ h λv H1 q=>?_));let#[l,xs,rfl,hl,p,u]:=q;show#[l,rfl,#[xs,hl],?_];rw[a];show xr (J:=kW X.K l) p (λi H2 s hi=>#[xs,xs[i],ζ.seq s hl,aaj hi]) (λH2 s=>#[xs,ζ.seq s hl,Ϭ _]) (λi H2 x f hi s y=>#[y.2 xs (ζ.seq s hl),y.1.symm]) u
end
def cutAt(c:Nat):List Nat->List (List Nat)
 |[]=>[[]]
 |x::r=>if x=c then[]::cutAt c r else match cutAt c r with
  |[]=>[[x]]
  |h::t=>(x::h)::t
def gA(c:Nat):List (List Nat)->List Nat
 |[]=>[]
 |[p]=>p
 |p::q::r=>p++c::gA c (q::r)
theorem OJ(c:Nat):∀l,cutAt c l≠[]
 |[]=>by simp[cutAt]
 |x::r=>by
  unfold cutAt;split
  .simp
  .split <;>simp
theorem QH:∀{p:List Nat},c∉p->cutAt c p=[p]
 |[],_=>rfl
 |x::r,h=>by
  let a:=QH (c:=c) (p:=r) λz=>h (by simp[z])
  unfold cutAt;rw[if_neg (λz=>h (by simp[z])),a]
theorem Ws:∀{p:List Nat},c∉p->cutAt c (p++c::l)=p::cutAt c l
 |[],_=>by
  show cutAt c (c::l)=_;rw[cutAt,if_pos rfl]
 |x::r,h=>by
  let a:=Ws (c:=c) (l:=l) (p:=r) λz=>h (by simp[z])
  show cutAt c (x::(r++c::l))=_;rw[cutAt,if_neg (λz=>h (by simp[z])),a]
theorem zy:∀{ps:List (List Nat)},ps≠[]->(∀p∈ps,c∉p)->cutAt c (gA c ps)=ps
 |[],h,_=>absurd rfl h
 |[p],_,h=>QH (h p (by simp))
 |p::q::r,_,h=>by
  show cutAt c (p++c::gA c (q::r))=_;rw[Ws (h p (by simp)),zy (by simp) λx a=>h x (acr _ a)]
theorem Df(c:Nat):∀l,(cutAt c l).length<=l.length+1
 |[]=>by simp[cutAt]
 |x::r=>by
  let a:=Df c r;unfold cutAt;split
  .simp;show a
  .split
   .simp
   .rename_i h t e;rw[e]at a;simp at a⊢;omega
theorem YH(c:Nat):∀l,gA c (cutAt c l)=l
 |[]=>rfl
 |x::r=>by
  let a:=YH c r;unfold cutAt;split
  .rename_i h;cases e:cutAt c r with
   |nil=>show absurd e (OJ c r)
   |cons p q=>
    rw[e]at a;show[]++c::gA c (p::q)=_;rw[a,h];rfl
  .cases e:cutAt c r with
   |nil=>show absurd e (OJ c r)
   |cons p q=>
    rw[e]at a;simp only;cases q with
    |nil=>
     show x::p=_;rw[show p=r from a]
    |cons y q=>
     show(x::p)++c::gA c (y::q)=_;rw[<-a];rfl
theorem tM(c:Nat):∀ps:List Str,(adT #[#v[c]] ps).cps.toList=gA c (ps.map λp=>p.cps.toList)
 |[]=>rfl
 |[p]=>rfl
 |p::q::r=>by
  let a:=tM c (q::r);let e:adT #[#v[c]] (p::q::r)=p++#[#v[c]]++adT #[#v[c]] (q::r):=rfl;rw[e];show((p.cps++ #v[c])++(adT #[#v[c]] (q::r)).cps).toList=_;simp only[aqy];rw[a];simp[gA]
def ae3(x:Str)(c:Nat):Txt.split x #[#v[c]]≠[]:=by
 unfold Txt.split;split
 .simp
 .split
  .simp
  .unfold Builtin.Str.partsBetween;simp
def split_list(x:Str)(c:Nat):(Txt.split x #[#v[c]]).map (λp=>p.cps.toList)=cutAt c x.cps.toList:=by
 let h1:(adT #[#v[c]] (Txt.split x #[#v[c]])).cps.toList=x.cps.toList:=by rw[StrLaws.join_split]
 rw[tM]at h1;rw[<-h1];show(zy (by simpa using ae3 x c) λp a=>?_).symm;let#[q,e,rfl]:=aa6.mp a;show StrLaws.split_free x c q e
def Ϗ(c:Nat)(x:Str):List Str:=(cutAt c x.cps.toList).map λl=>#[l.toArray]
def ye(x:Str)(c:Nat):Txt.split x #[#v[c]]=Ϗ c x:=by
 unfold Ϗ;rw[<-split_list,aep];have:((λl:List Nat=>(#[l.toArray]:Str))∘λp:Str=>p.cps.toList)=id:=by
  funext p;rfl
 rw[this,aqT]
theorem Yr:∀l:List (Str×Tok),Vals ((l.map (·.1)).map V.str) (strValues l)
 |[]=>.nil
 |p::l=>.cons #[p.2,rfl] (Yr l)
def m_split(g:∀p,H p=none->Q (.ref p) (upd H p (.lst ((Ϗ c z).map V.str))))(f:z.length<=100000:=by omega):MT X "str.split" (.str z) [.str #[#v[c]]] H Q:=by
 show dF (r:=λx xs H Q=>∃z c,x=.str z/\xs=[.str #[#v[c]]]/\z.length<=100000/\∀p,H p=none->Q (.ref p) (upd H p (.lst ((Ϗ c z).map V.str)))) ?_ #[z,c,rfl,rfl,f,g];intro ϵ s σ H x xs v us Q I rx rs h;let#[z,c,rfl,rfl,f,g]:=h;let#[t,rfl]:=rx;let#[u,rfl,i]:=vals1 rs;let#[t',rfl]:=i;let hl:(Ϗ c z).length<=z.length+1:=by
  let h1:=Df c z.cps.toList;unfold Ϗ;rw[aaA];let h2:z.cps.toList.length=z.length:=rfl;omega
 let hsz:=ϰ;let fin:∀(l:List (Str×Tok))(tk:Nat),l.map (·.1)=Ϗ c z->EP X ϵ σ Q (.ref s.heap.objs.size) {s with toks:=tk,heap:=s.heap.push {cls:=.type "list",data:=.seq (strValues l).toArray}}:=λl tk e=>
  #[.ref s.heap.objs.size,_,I.laid (t':=tk) (o:=.lst ((Ϗ c z).map V.str)) (λb o q=>ϴ _ q) (Ϭ _) #[by rw[aaA];omega,strValues l,_,by rw[<-e];show Yr l,aaT _ rfl],rfl,g _ (I.hok.fresh (Ϭ _))]
 cases h1:(decide (z.length<(#[#v[c]]:Str).length)||decide (Builtin.Str.strKind z<Builtin.Str.strKind #[#v[c]]))
 .cases hf:(Builtin.Str.occurrences z #[#v[c]] 0 z.length (z.length+1)).isEmpty
  .let e:Txt.split z #[#v[c]]=Builtin.Str.partsBetween z (Builtin.Str.occurrences z #[#v[c]] 0 z.length (z.length+1)) (#[#v[c]]:Str).length:=by
    unfold Txt.split;rw[if_neg (by rw[h1];decide),if_neg (by rw[hf];decide)]
   let a:=hl;rw[<-ye,e]at a;show ana F.slot_str_split (typeIs_str _ _ _) F.entry_str_split (F.args_str_split_2 _ _) (meets_str_split_sep z #[#v[c]] t t' h1 rfl hf () ()) ?_;have:=fin (numbered s.toks (Txt.split z #[#v[c]])) (s.toks+(Builtin.Str.partsBetween z (Builtin.Str.occurrences z #[#v[c]] 0 z.length (z.length+1)) (#[#v[c]]:Str).length).length) (by rw[numbered_texts,ye]);rw[<-strsFrom_eq,e]at this;show this
  .let e:Txt.split z #[#v[c]]=[z]:=by
    unfold Txt.split;rw[if_neg (by rw[h1];decide),if_pos hf]
   show ana F.slot_str_split (typeIs_str _ _ _) F.entry_str_split (F.args_str_split_2 _ _) (meets_str_split_not_found z #[#v[c]] t t' h1 rfl hf) (fin [(z,t)] s.toks (by rw[<-ye,e];rfl))
 .let e:Txt.split z #[#v[c]]=[z]:=by
   unfold Txt.split;rw[if_pos h1]
  show ana F.slot_str_split (typeIs_str _ _ _) F.entry_str_split (F.args_str_split_2 _ _) (meets_str_split_cannot_occur z #[#v[c]] t t' h1) (fin [(z,t)] s.toks (by rw[<-ye,e];rfl))
def adO{c:Nat}(q:Q (.int c) H):CL X (.builtin "ord") [.str #[#v[c]]] H Q:=by
 show fM (r:=λxs H Q=>∃c:Nat,xs=[.str #[#v[c]]]/\Q (.int c) H) ?_ #[c,rfl,q];intro ϵ s σ H xs us Q I r h;let#[c,rfl,q]:=h;let#[u,rfl,a]:=vals1 r;let#[t,rfl]:=a;show P.ord_of_char #[.int c,H,I.tok _,#[_,rfl],q]
def adD(hi:0<=i)(a:i<1000)(g:Q (.str (Txt.zfill z i)) H):MT X "str.zfill" (.str z) [.int i] H Q:=by
 show dF (r:=λx xs H Q=>∃z i,x=.str z/\xs=[.int i]/\0<=i/\i<1000/\Q (.str (Txt.zfill z i)) H) ?_ #[z,i,rfl,rfl,hi,a,g];intro ϵ s σ H x xs v us Q I rx rs h;let#[z,i,rfl,rfl,hi,a,g]:=h;let#[t,rfl]:=rx;let#[u,rfl,c]:=vals1 rs;let#[t',rfl]:=c;show SC.zfill ?_ λe k=>#[.str _,H,I.tok k,#[e,rfl],g]
 show padOk_of () ()
def GJ(K:Ϩ)(l:δ)(n:Nat):It:=
 #[λi H=>i<n/\∃xs,η K H l xs/\xs.length=n,λi H x H'=>H'=H/\∀xs,η K H l xs->xs[n-1-i]?=some x,λi _=>i=n]
theorem abL{P:Ϯ}{w:ϭ}{K:Ϩ}{tg:ϧ}(l it:δ)(n:Nat):Turn P w K tg (GJ K l n) [it] it (λi h=>h.IsRevIter it l ((n:Int)-1-(i:Int)))where
 mem:=by simp
 obj:=λi h st b a=>by
  let e:b=it:=by simpa using a
  subst e;let#[o,e,c,d]:=st;show#[o,e,λv z=>by rw[d]at z;cases z]
 keep:=λi h h' st k=>st.at λo e=>k it (by simp) o e
 item:=by
  intro X m q y O i ϵ s σ H E I j st B;subst m q y;let#[hi,xs,Q,hx]:=B;let#[ϸ,R,p,hz]:=I.list Q;let f:n-1-i<xs.length:=()
  let#[u,S,T]:=R.get (aaj f);let#[D,F,U,G,J,L]:=j it (by simp);let W:((n:Int)-1-(i:Int))=((n-1-i:Nat):Int):=()
  rw[W]at st;show wpAny_pyNext_rev_item st p.isList (x:=u) (by simpa using S) λh' g Y=>?_
  let Z:Inv X ϵ σ H {s with heap:=h'}:=I.turned (t':=s.toks) (λb o a e=>(Y.2 b a).trans e) D F G J L;let#[o,e,c,d]:=id g;show#[u,rfl,sZ (s:={s with heap:=h'}) e c d (by decide) #[_,H,Z,T,#[rfl,λys hy=>?_],?_,λb a=>(j b a).1]]
  .rw[I.list_inj hy Q];show aaj f
  .let M:((n:Int)-1-((i+1:Nat):Int))=((n-1-i:Nat):Int)-1:=()
   rw[M];show g
 done:=by
  intro X m q y O i ϵ s σ H E I j st B;subst m q y;let#[D,F,U,G,J,L]:=j it (by simp);let e:i=n:=B;let M:((n:Int)-1-(i:Int))= -1:=()
  rw[M]at st;show wpAny_pyNext_rev_end (I.ok.hd O) st λh' eb=>#[rfl,I.turned (t':=s.toks) (λb o a e=>eb b o a e) D F G J L]
 self:=λ_ _ _ _ _ st h=>wpAny_pyIter_revIter st h
def adx(m:Gl X "reversed")(n:X.mg "reversed"=none)(hs:abP [a] X.env=[(false,eval a X.env)])(h:EV X a σ H λv H1=>∃l xs,v=.ref l/\η X.K H1 l xs/\R (GJ X.K l xs.length) H1):EI X tg (.Call (.Name "reversed" p) [a] [] pos) σ H R:=by
 intro ϵ s I;show Call_ (ju I m n boot_reversed (PyProof.Rows.callWith_type1 (υ (dH (es:=[]) (QA:=λvs H1=>∃l xs,vs=[.ref l]/\η X.K H1 l xs/\R (GJ X.K l xs.length) H1) hs (ϝ h λv H1 z=>by let#[l,xs,e,x,y]:=z;show jw #[l,xs,by rw[e],x,y]) pos ϵ s I) λus c z=>?_) hs rfl));let#[vs,H1,g,B,l,xs,e,hl,q]:=z;subst e;let#[u,rfl,D]:=vals1 B;cases(show u=Value.ref l from D);let#[i,E,pl,G]:=g.list hl;let j:=E.length;show call_reversed_list pl.isList ?_;let f:(c.heap.push (revObj l ((i.toArray.size:Int)-1))).IsRevIter c.heap.objs.size l ((i.toArray.size:Int)-1):=#[_,aaT _ rfl,rfl,rfl];show wpAny_pyIter_revIter f ?_;show#[c.heap.objs.size,[c.heap.objs.size],_,_,H1,rfl,g.kept (t':=c.toks) λb o e=>ϴ _ e,abL l _ xs.length,?_,λb F=>?_,q]
 .let e:((xs.length:Int)-1-((0:Nat):Int))=(i.toArray.size:Int)-1:=by simp;omega
  rw[e];show f
 .let e:b=c.heap.objs.size:=by simpa using F
  subst e;show g.fpOk (Ϭ _) (g.hok.fresh (Ϭ _))
def ai3(l:ajU (ϩ X.prog X.w) X.A X.env X.xe)(n:X.calm=true)(s:Gl X "reversed")(u:X.mg "reversed"=none)(hs:abP [a] X.env=[(false,eval a X.env)])(h:EV X a σ H λv H1=>∃q xs,v=.ref q/\η X.K H1 q xs/\∃c:Nat->St->Hp->Prop,c 0 σ H1/\(∀i σ' H',i<=xs.length->c i σ' H'->η X.K H' q xs)/\
   (∀i x σ' H',i<xs.length->xs[xs.length-1-i]?=some x->c i σ' H'->EG X tg x σ' H' λg H2=>Ι X body {D with nx:=c (i+1),ct:=c (i+1),bk:=D.nx} g H2)/\∀σ' H',c xs.length σ' H'->D.nx σ' H'):SX X (.For tg (.Call (.Name "reversed" p) [a] [] p') body [] pos) D σ H:=by
 show mC l n (by intro _;rfl) (adx s u hs (ϝ h λv H1 q=>?_));let#[q,xs,rfl,z,c,B,hl,j,hd]:=q;show#[q,xs,rfl,z,λi m σ H=>m=xs.length-i/\i<=xs.length/\c i σ H,#[xs.length,by simp,ad5 _,B],?_]
 rintro i m σ' H' ⟨rfl,hi,p⟩
 by_cases f:i<xs.length
 .show .inr #[#[f,xs,hl i σ' H' hi p,rfl],c (i+1),λg H2 p2=>#[xs.length-(i+1),(),rfl,f,p2],λx H2 y=>?_];let#[rfl,e]:=y;show j i x σ' _ f (e xs (hl i σ' _ hi p)) p
 .let e:i=xs.length:=()
  show .inl #[e,?_];subst e;show hd σ' H' p
def aky{A:ϲ}{E:ε->μ->Prop}{s:μ}{α:Type}{e T L:δ}{cls:ε}{d:Option δ×Bool}{x:ε}{a:String}{env:Env}{Q:α->μ->Prop}(y:env.frame=some L)(F:cP s.heap e cls d (some T) x)(k:∀h',vA s.heap h' [T] []->cP h' e cls d (some T) (rawInt L)->E (.ref e) {s with heap:=h'}):ν M A (passOn a (.ref e) env) Q E s:=by
 let#[B,vs,i,D,j,hd,h1,G,h2,H]:=F;let#[m,O,ws,c,f,I]:=H T rfl;let p:3<ws.size:=(ajE.mp I).1;let g:vs[1]?=some (Value.ref T):=h1;unfold PySem.passOn;show Ϧ (afv i hd g ?_);rw[if_neg (show ¬((Value.ref T==Value.none)=true)from by simp)];show Ϧ ?_;unfold setFlight;show Ϧ (afv i hd g ?_);rw[if_pos (show(Value.ref T !=Value.none)=true from by simp),y];show wpAny_setField c f p (wpAny_throw (k _ #[λb o q _ n=>?_,λb o q n=>#[o.slots,?_],λb o q=>?_] ?_))
 .rw[acB _ _ (λz=>n (by simp[z]))];show q
 .rw[acB _ _ (λz=>n (by simp[z]))];show q
 .by_cases z:b=T
  .subst z;show#[_,aeD _ c (Obj.isFreed_of_fields (Obj.data_mapFields f _))]
  .show#[o,by rw[acB _ _ (Ne.symm z)];show q]
 .show#[B,vs,?_,D,j,hd,h1,G,h2.stay λv o ws P l u=>?_,λR J=>?_]
  .rw[acB _ _ m];show i
  .by_cases z:v=T
   .subst z;rw[c]at l;cases l;show#[_,_,aeD _ c (Obj.isFreed_of_fields (Obj.data_mapFields f _)),Obj.data_mapFields u _,by rw[ahx (by decide)]]
   .show#[o,ws,by rw[acB _ _ (Ne.symm z)];show l,u,rfl]
  .cases J;show#[m,_,_,aeD _ c (Obj.isFreed_of_fields (Obj.data_mapFields f _)),Obj.data_mapFields f _,by simp[p]]
section
variable{X:Cx}{ϵ:List (δ×Obj)}{σ:St}{H:Hp}{s:μ}{scope:agV}{N':List Str}{fp:List δ}{elt iter tg:ϧ}{ifs:List ϧ}{pos:Pos}{Kx:St->XK}
def ahs(n:compEnvC scope (ϗ scope X.env) s.heap.objs.size X.env=a)(c:X.stack=X.env::X.outer)(i:X.env.frame=some X.env.locals)(g:Inv X ϵ σ H s)(F:∀b∈fp,bR X ϵ H b)(p:∀{pins':List (δ×Obj)}{B:St}{H':Hp}{s':μ},Inv (eU X N' scope (ϗ scope X.env) s.heap.objs.size s H fp (notedBy (ϩ X.prog X.w) X.A a G)) pins' B H' s'->Inv X ϵ σ H' s')(u:∀(H':Hp)(s':μ)(e t:δ)(cls:ε)(d:Option δ×Bool),a.frame=some X.env.locals->Inv X ϵ σ H' s'->bR X ϵ H' a.locals->(∃m,s'.heap.Ns a.locals m)->cP s'.heap e cls d (some t) (rawInt X.env.locals)->
   (∀b∈[e,t],(H' b=none/\Ch X ϵ b)/\b≠a.locals)->Kx σ cls d H'->G (.ref e) s'):dj (eU X N' scope (ϗ scope X.env) s.heap.objs.size s H fp (notedBy (ϩ X.prog X.w) X.A a G)) (λ_=>Kx σ):=by
 let v:a.locals=s.heap.objs.size:=by rw[<-n];rfl
 intro pins' B H' s' e cls d I q;let#[J,tb,L,M,x,ch]:=I;let IX:=p J;let f:∀b∈e::tb.toList,(H' b=none/\Ch X ϵ b)/\b≠s.heap.objs.size:=λb j=>by
  let#[O,c1,c2,c3]:=ch b j;show#[#[O,?_],c2];obtain z|z:=c1
  .let#[_,P,_,Q,R,S]:=F b z;show#[Q,P,R,S]
  .show g.ch z
 let l:(L==rawInt X.env.locals)=false:=by
  obtain z|⟨z,_⟩:=x
  .rw[z];simp[rawInt]
  .rw[z,beq_eq_false_iff_ne];intro D;simp only[rawInt]at D;let T:((s.heap.objs.size:Nat):Int)=((X.env.locals:Nat):Int):=by injection D
   show amA g.lt (Int.ofNat.inj T)
 let hl:=IX.stack;rw[c]at hl;show ν _ _ (noteFrame (.ref e) a) _ _ _;rw[show noteFrame (.ref e) a=noteFrame (.ref e) X.env by rw[<-n];rfl];show Q0 (base:=X.base) (IX.ok.frames.trans (by rw[c])) hl i M l λh' t N y U=>?_
 let#[m,E,_]:=J.loc;show u H' _ e t cls d (by rw[<-n];show i) (IX.noted (by rw[c];show N) λb j=>(f b j).1) (by rw[v];show g.fpOk (Ϭ _) J.free) #[m,?_] U (λb j=>?_) q
 .rw[v];let#[o,W,Y,Z,hr]:=E;show#[o,W,Y,N.keep _ _ Z (λz=>?_) (λz=>(f _ z).2 rfl),hr];rw[<-c]at z;rcases ϳ.mp (g.stkSub _ z)with e|e
  .show ahK _ (e▸g.lt)
  .show g.nofs (Ϭ _) e
 .rw[v];obtain z|z:=ϳ.mp j
  .subst z;show f _ ac3
  .let z':b=t:=by simpa using z
   subst z';show#[#[IX.hok.fresh y,IX.ch (anP y)],λz=>ahK _ (acn E.lt (z▸y))]
def ab4(B:dj X Kx)(l:C.frame=some X.env.locals)(I:Inv X ϵ σ H' s')(D:bR X ϵ H' C.locals)(i:∃m,s'.heap.Ns C.locals m)(F:cP s'.heap e cls d (some t) (rawInt X.env.locals))(ch:∀b∈[e,t],(H' b=none/\Ch X ϵ b)/\b≠C.locals)(q:Kx σ cls d H'):wV (ϩ X.prog X.w) X.A X.xe use Q j C (.error (.ref e)) s':=by
 let#[m,i]:=i;let#[E,G,f2,H,J,L]:=D;let c:∃m,s'.heap.Ns C.locals m/\∀h',aj8 C.locals s'.heap h'->ν (ϩ X.prog X.w) X.A (passOn "comprehension.variables-let-go" (.ref e) C:Sem ε) (λ_ _=>False) X.xe {s' with heap:=h'}:=by
  show#[m,i,λh' a=>?_];let M:Inv X ϵ σ H' {s' with heap:=h'}:=I.turned (t':=s'.toks) (λb o f e=>a.extBut b o f e) E G H J L;let O:cP h' e cls d (some t) (rawInt X.env.locals):=by
   let#[P,vs,R,S,p,hd,h1,U,h2,W]:=F;show#[P,vs,a.extBut _ _ (ch e (by simp)).2 R,S,p,hd,h1,U,h2.stay (λv o ws hv u x=>#[o,ws,a.extBut _ _ (λz=>by
    let#[_,_,_,y,g,_]:=i;rw[<-z,u]at y;cases y;rw[x]at g;cases g) u,x,rfl]),λT Y=>?_]
   cases Y;let#[Z,oT,ws,t1,t2,t3]:=W t rfl;show#[Z,oT,ws,a.extBut _ _ (ch t (by simp)).2 t1,t2,t3]
  show aky (s:={s' with heap:=h'}) l O λh2 N F3=>?_
  show B ϵ σ H' _ e cls d #[M.noted (ch:=[t]) #[λb o q _ n=>N.keep b o q (by simp) n,N.slot,N.there] λb f=>?_,some t,_,F3,.inr #[rfl,rfl],λb f=>(ch b (by simpa using f)).1] q;let z:b=t:=by simpa using f
  subst z;show(ch b (by simp)).1
 cases use<;>show c
def adf(g:dj X Kx)(i:X.stack=X.env::X.outer)(l:X.env.frame=some X.env.locals)(n:aoD (.ListComp elt [#[tg,iter,ifs,0]] scope pos) (some (.Name y py)) spos.line X.env=pure true)(hc:X.calm=true)(S:cL X.env scope)(hs:∀x,foldedSetIterable iter X.env x=pure x)(hN:X.N.Nodup)(hi:nameAt X.N y=some j)(U:X.env.scope.names.lookup y=some .local)(h:EI X tg iter σ H λJ H1=>∀(fp:List δ)(E C:δ)(f:μ)(F:ε->μ->Prop),H1 E=none->dj (eU X N' scope (ϗ scope X.env) C f (upd H1 E (.lst [])) fp F) (λ_=>Kx σ)->j5 X (eU X N' scope (ϗ scope X.env) C f (upd H1 E (.lst [])) fp F) tg elt ifs J E (cR N' X.N σ scope) H1 (λH'=>D.nx (σ.set j (some (.ref E))) H')):SX X (.Assign [.Name y py] (.ListComp elt [#[tg,iter,ifs,0]] scope pos) spos) D σ H:=by
 intro ϵ s I;rw[exec_Assign_Name_used _ _ _ _ n];show Ϧ (wpAny_standAt (Ϧ ?_));show ν _ X.A (do let _<-comprehension (.ListComp elt [#[tg,iter,ifs,0]] scope pos) scope X.env _ (newList []) false (eval iter X.env) (some (assign (.Name y py) X.env))) _ _ s;show Ϧ (adt (IK (use:=some (assign (.Name y py) X.env)) (Q:=λ_ s'=>SP X ϵ D .next s') rfl hs (Dy (S.has I)) S.kind S.loc
  (υ (h ϵ s I) λv s1 h1=>υ h1 λitv s2 h2=>?_)) (λ_ s' hq=>ϱ (ϱ hq)) λ_ _ e=>e)
 let#[it,fp,tn,J,H2,e,I2,T,p,f2,q2]:=h2;subst e;show Ff _ (R:=λu C=>wV (ϩ X.prog X.w) X.A X.xe (some (assign (.Name y py) X.env)) (λ_ s'=>SP X ϵ D .next s') u C) (Q:=λE H'=>D.nx (σ.set j (some (.ref E))) H') hc S I2 T p f2 (λ_ _ _ _ z=>z) (λE f W I3 B tX=>q2 fp E _ f _ W (ahs rfl i l I3 B tX λH' s' e t cls d G IX L c F ch q=>ab4 g G IX L c F ch q)) λE C H' s' W qD IX L c=>?_
 let#[m,c]:=c;let#[f0,Y,RB,B,Z,f5]:=L;show ν _ _ (assign (.Name y py) X.env (.ref E)) _ _ _;show wpAny_assign_Name (vW IX hN (v7 hi) (.inl U) (v:=.ref E) rfl (λM Eg O=>?_) (.inr U));let#[a,sb,ha]:=O;let DW:C.locals≠a:=by
  obtain ha|ha:=ha
  .rw[ha];show Y
  .intro z;show Z y a ha z.symm
 show#[m,c.sameBut sb DW,λh' P=>#[σ.set j (some (.ref E)),H',Eg.turned (t':=M.toks) (λb o O e=>P.extBut b o O e) f0 Y B Z f5,qD]]
end
def Qc(X:Cx)(N':List Str)(scope:agV)(tg elt:ϧ)(σ σ':St)(Kx:St->XK)(H1:Hp)(Q:VK)(n:Nat)(G:Nat->Hp->V->Hp->Prop):Prop:=
 ∃(f:St->Prop)(a:δ->Nat->V->Hp->Prop),f σ'/\
  (∀E i v H2 c ys,H2 E=some (.lst ys)->(∀b o,b≠E->H2 b=some o->c b=some o)->a E i v H2->a E i v c)/\
  (∀(fp:List δ)(E C:δ)(g:μ)(j:Hp)(F:ε->μ->Prop)(i:Nat)(l:St)(x:V)(H2 c:Hp),dj (eU X N' scope (ϗ scope X.env) C g j fp F) (λ_=>Kx σ)->H1 E=none->i<n->f l->ζ H1 H2->(∃ys,H2 E=some (.lst ys)/\ys.length=i/\∀k v,ys[k]?=some v->a E k v H2)->G i H2 x c->
   EG (eU X N' scope (ϗ scope X.env) C g j fp F) tg x l c λe p=>EV (eU X N' scope (ϗ scope X.env) C g j fp F) elt e p λv m=>f e/\a E i v m/\ζ H2 m)/\
  ∀(E:δ)(H2:Hp)(xs:List V),H1 E=none->xs.length=n->(∀i v,xs[i]?=some v->a E i v H2)->H2 E=some (.lst xs)->ζ H1 H2->Q (.ref E) H2
def akW(f:n<=ϯ)(go:∀i H2,ζ H H2->i<n->J.go i H2)(stop:∀H2,ζ H H2->J.stop n H2)(g:∀i H2 x e,i<n->ζ H H2->J.yld i H2 x e->G i H2 x e)(h:Qc X N' scope tg elt σ σ' Kx H Q n G):∀(fp:List δ)(D C:δ)(a:μ)(F:ε->μ->Prop),H D=none->dj (eU X N' scope (ϗ scope X.env) C a (upd H D (.lst [])) fp F) (λ_=>Kx σ)->j5 X (eU X N' scope (ϗ scope X.env) C a (upd H D (.lst [])) fp F) tg elt [] J D σ' H (λH'=>Q (.ref D) H'):=by
 intro fp E C a F c xo;let#[j,m,t0,mono,step,fin]:=h;show aad n f j t0 (m E) c (λi v H1 H2 ys=>mono E i v H1 H2 ys) go stop (λi p x H1 H2 hi q hs u y=>step fp E C a _ F i p x H1 H2 xo c hi q hs u (g i H1 x H2 hi hs y)) λH1 xs l z B s=>fin E H1 xs c l z B s
def aeY(N':List Str)(a:cR N' X.N σ scope=σ')(c:dj X Kx)(f:X.stack=X.env::X.outer)(g:X.env.frame=some X.env.locals)(m:aoD (.ListComp elt [#[tg,e,[],0]] scope pos) (some (.Name y py)) spos.line X.env=pure true)(p:X.calm=true)(S:cL X.env scope)(hs:∀x,foldedSetIterable e X.env x=pure x)(u:X.N.Nodup)(hi:nameAt X.N y=some j)(z:X.env.scope.names.lookup y=some .local)(h:EV X e σ H λv H1=>∃l xs,v=.ref l/\η X.K H1 l xs/\xs.length<=ϯ/\Qc X N' scope tg elt σ σ' Kx H1 (λv H'=>D.nx (σ.set j (some v)) H') xs.length λi H2 x n=>xs[i]?=some x/\H2=n):SX X (.Assign [.Name y py] (.ListComp elt [#[tg,e,[],0]] scope pos) spos) D σ H:=by
 show adf (N':=N') c f g m p S hs u hi z (wH (ϝ h λv H1 q=>?_));let#[l,xs,rfl,hl,B,E]:=q;show#[l,rfl,#[xs,hl],?_];rw[a];show akW (J:=kW X.K l) (Q:=λv H'=>D.nx (σ.set j (some v)) H') B (λi H2 s hi=>#[xs,xs[i],ζ.seq s hl,aaj hi]) (λH2 s=>#[xs,ζ.seq s hl,Ϭ _]) (λi H2 x n hi s y=>#[y.2 xs (ζ.seq s hl),y.1.symm]) E
def rC(K:Ϩ)(C L:δ):Bool:=(W.clsIn K C).any λcd=>cd.hasDict&&cd.mro==.ref C:: .ref L::vZ
abbrev Bo(K:Ϩ)(C f:δ):Bool:=akL K C (some (.ref f))
def xo(e C:δ)(D:Option δ):HO:=.ext λh=>∃t,h.get? e=some {cls:=.ref C,dict:=D,data:=.fields #v[.ref t,.none,.none,.none,.bool false,.none]}
structure amK(K:Ϩ)(mg:Str->Option ε)(x:Str):Prop where
 at_:mg x=some (.ref (ο mg x))
 reads:aqJ K (ο mg x) (.type "type")=true
 ini:aqK K (.ref (ο mg x)) (.type "type") "__init__"=some (.val (.builtin "ValueError.__init__"))
 ga:ahm K (.ref (ο mg x)) "__getattribute__"=some (some (.builtin "type.__getattribute__"))
structure Ti(K:Ϩ)(mg:Str->Option ε)(Lx x qual fld:Str)(st:π):Prop where
 at_:mg x=some (.ref (ο mg x))
 ex:∃f fd,cZ K "__init__" qual st f fd/\Bo K (ο mg x) f=true/\arq K (.ref f)=true
 sa:aey K (.ref (ο mg x)) "__setattr__"=some (some (.builtin "object.__setattr__"))
 tk:aqZ K (ο mg x) fld=some none
 xc:rC K (ο mg x) (ο mg Lx)=true
structure akf(K:Ϩ)(C:δ):Prop where
 hd:amU K C=true
 ga:aey K (.ref C) "__getattribute__"=some (some (.builtin "BaseException.__getattribute__"))
 gt:aey K (.ref C) "__getattr__"=some none
 cl:aey K (.ref C) "__class__"=some (some (.builtin "object.__class__"))
 cg:ahm K (.builtin "object.__class__") "__get__"=some (some (.builtin "getset_descriptor.__get__"))
 ct:aq1 K (.builtin "object.__class__")=some true
 mo:aqv K C (.type "object")=some true
 mb:aqv K C (.type "BaseException")=some true
structure Ox(K:Ϩ)(mg:Str->Option ε)(x:Str):Prop extends amK K mg x where
 ty:ard K (.ref (ο mg x))=some (.type "type")
 mb:aqv K (ο mg x) (.type "BaseException")=some true
structure XC(K:Ϩ)(mg:Str->Option ε)(Lx x:Str):Prop where
 at_:mg x=some (.ref (ο mg x))
 xc:rC K (ο mg x) (ο mg Lx)=true
 ty:ard K (.ref (ο mg x))=some (.type "type")
 attr:akf K (ο mg x)
section
variable{K:Ϩ}{mg:Str->Option ε}{Lx x y:Str}
end
section
variable{K:Ϩ}{mg:Str->Option ε}{Lx x qual fld:Str}{C L f:δ}{st:π}{fd:ahh}
def alF(h:mg x=some (.ref C))(a:aqJ K C (.type "type")=true)(c:aqK K (.ref C) (.type "type") "__init__"=some (.val (.builtin "ValueError.__init__")))(f:ahm K (.ref C) "__getattribute__"=some (some (.builtin "type.__getattribute__")))(g:ard K (.ref C)=some (.type "type"))(i:aqv K C (.type "BaseException")=some true):Ox K mg x:=by
 let e:=dh h;show{at_:=by rw[e];show h,reads:=by rw[e];show a,ini:=by rw[e];show c,ga:=by rw[e];show f,ty:=by rw[e];show g,mb:=by rw[e];show i}
def amD(h:mg x=some (.ref C))(c:mg Lx=some (.ref L))(f:rC K C L=true)(g:ard K (.ref C)=some (.type "type"))(i:amU K C=true)(j:aey K (.ref C) "__getattribute__"=some (some (.builtin "BaseException.__getattribute__")))(l:aey K (.ref C) "__getattr__"=some none)(m:aey K (.ref C) "__class__"=some (some (.builtin "object.__class__")))(n:ahm K (.builtin "object.__class__") "__get__"=some (some (.builtin "getset_descriptor.__get__")))(p:aq1 K (.builtin "object.__class__")=some true)(q:aqv K C (.type "object")=some true)(a:aqv K C (.type "BaseException")=some true):XC K mg Lx x:=by
 let e:=dh h;let s:=dh c;show#[by rw[e];show h,by rw[e,s];show f,by rw[e];show g,by rw[e];show#[i,j,l,m,n,p,q,a]]
def ah9(h:mg x=some (.ref C))(a:mg Lx=some (.ref L))(F:cZ K "__init__" qual st f fd)(c:Bo K C f=true)(g:arq K (.ref f)=true)(i:aey K (.ref C) "__setattr__"=some (some (.builtin "object.__setattr__")))(j:aqZ K C fld=some none)(l:rC K C L=true):Ti K mg Lx x qual fld st:=by
 let e:=dh h;let m:=dh a;show#[by rw[e];show h,#[f,fd,F,by rw[e];show c,g],by rw[e];show i,by rw[e];show j,by rw[e,m];show l]
end
abbrev dG(h:ϫ)(T:δ)(a b c:ε):Prop:=h.get? T=some {cls:=.type "tuple",data:=.seq #v[a,b,c]}
theorem an{n a b:Nat}(h:a≠b:=by decide):(n+a:δ)≠n+b:=λe=>h (Nat.add_left_cancel e)
theorem ln{n l:Nat}(h:l<n)(k:Nat):(l:δ)≠n+k:=acE (Nat.lt_add_right k h)
def afj(a b c:ε):checkTypeCall "zip" #[[a,b,c],[]]=pure PUnit.unit:=by kernel_rfl
def aeK(a b c:ε):checkBuiltinCall "zip.__new__" #[[.type "zip",a,b,c],[]]=pure PUnit.unit:=by kernel_rfl
def ac9(a b c d:ε):argsOk "object.__init__" #[[a,b,c,d],[]]:=by
 unfold argsOk;rw[signature?_of (id:="object.__init__") (n:=['_', '_', 't', 'i', 'n', 'i', '_', '_']) (o:=['t', 'c', 'e', 'j', 'b', 'o']) (by kernel_rfl) F.owner_object];kernel_rfl
def HN(e:dG s.heap T a b c)(h:∀h',h'.get? T=some {cls:=.type "tuple",data:=.seq ((#v[a,b,c]:Array ε).setIfInBounds k x)}->aj8 T s.heap h'->Q PUnit.unit {s with heap:=h'}):ν (ϩ prog w) A (updateSeq T (·.setIfInBounds k x)) Q E s:=by
 show wpAny_updateSeq e rfl (h _ ?_ (Heap.SameBut.update ..));rw[aeD _ e rfl];simp[Obj.mapSeq]
def amS{n D F G:Nat}{k:Nat}{Q:ε->μ->Prop}(g1:D<n)(W:F<n)(H:G<n)(I:IsZip s.heap (n+5) (n+3) (n+4) .none)(X:dG s.heap (n+3) (.ref n) (.ref (n+1)) (.ref (n+2)))(Y:dG s.heap (n+4) a b c)(h1:s.heap.IsListIter n D k)(h2:s.heap.IsListIter (n+1) F k)(h3:s.heap.IsListIter (n+2) G k)(Z:s.heap.IsList D xs)(ϻ:s.heap.IsList F ys)(ab:s.heap.IsList G zs)(hx:xs[k]?=some x)(hy:ys[k]?=some y)(hu:zs[k]?=some u)(hQ:∀h',IsZip h' (n+5) (n+3) (n+4) (rawInt s.heap.objs.size)->dG h' (n+4) x y u->h'.IsListIter n D (k+1)->h'.IsListIter (n+1) F (k+1)->h'.IsListIter (n+2) G (k+1)->dG h' s.heap.objs.size x y u->
   (∀c o,c≠n+5->c≠n+4->c≠n->c≠n+1->c≠n+2->s.heap.get? c=some o->h'.get? c=some o)->Q (.ref s.heap.objs.size) {s with heap:=h'}):ν (ϩ prog w) A (Builtin.«zip.__next__» #[[.ref (n+5)],[]]) (λfin s'=>∃v,fin=.done (.ret v)/\Q v s') E s:=by
 let sI:n+5≠n:=an (b:=0);let K9:n+5≠n+1:=an;let Ia:n+5≠n+2:=an;let J:n+5≠n+4:=an;let O:n+4≠n:=an (b:=0);let P:n+4≠n+1:=an;let R:n+4≠n+2:=an;let L:n+1≠n:=an (b:=0);let Xk:n+2≠n:=an (b:=0);let RN:n+2≠n+1:=an;show ν _ _ (field (.ref (n+5)) 2>>=_) _ _ _;show Ϧ (afv I rfl (x:=.bool false) rfl ?_);show ν _ _ (field (.ref (n+5)) 3>>=_) _ _ _;show Ϧ (afv I rfl (x:=.ref (n+3)) rfl ?_);show Ϧ (anb X rfl ?_);show ν _ _ (Builtin.SmallTypes.ownedTupleIsFree (.ref (n+5))>>=_) _ _ _;show Ϧ ?_;unfold Builtin.SmallTypes.ownedTupleIsFree;show Ϧ (afv I rfl (x:=.none) rfl (ϱ ?_));simp only[if_true];show Ϧ (wpAny_rule ?_);show Ϧ (afv I rfl (x:=.ref (n+4)) rfl ?_);show Ϧ (alB I (by simp) λm1 m g=>?_)
 replace m:IsZip m1 (n+5) (n+3) (n+4) .ellipsis:=m
 show Ϧ ?_;simp only[arO,arY,am3,apv];show Ϧ (Ϧ (wpAny_onRaise ?_));show ν _ _ (Builtin.SmallTypes.nextOf (.ref n)>>=_) _ _ _;show Ϧ (ao1 (h1.extBut g.extBut sI.symm) (Z.extBut g.extBut (ln g1 5)) hx λm2 ac i=>ϱ ?_);let t2:dG m2 (n+4) a b c:=i.extBut _ _ O (g.extBut _ _ J.symm Y);show Ϧ (anb t2 rfl ?_);show Ϧ (HN t2 λm3 t3 j=>?_)
 replace t3:dG m3 (n+4) x b c:=t3
 show Ϧ (wpAny_letGo (ϱ ?_));show Ϧ (Ϧ (wpAny_onRaise ?_));show ν _ _ (Builtin.SmallTypes.nextOf (.ref (n+1))>>=_) _ _ _;show Ϧ (ao1 (((h2.extBut g.extBut K9.symm).extBut i.extBut L).extBut j.extBut P.symm) (((ϻ.extBut g.extBut (ln W 5)).extBut i.extBut (ln W 0)).extBut j.extBut (ln W 4)) hy λm4 ae p=>ϱ ?_);let t4:dG m4 (n+4) x b c:=p.extBut _ _ P t3;show Ϧ (anb t4 rfl ?_);show Ϧ (HN t4 λm5 t5 q=>?_)
 replace t5:dG m5 (n+4) x y c:=t5
 show Ϧ (wpAny_letGo (ϱ ?_));show Ϧ (Ϧ (wpAny_onRaise ?_));show ν _ _ (Builtin.SmallTypes.nextOf (.ref (n+2))>>=_) _ _ _;show Ϧ (ao1 (((((h3.extBut g.extBut Ia.symm).extBut i.extBut Xk).extBut j.extBut R.symm).extBut p.extBut RN).extBut q.extBut R.symm) (((((ab.extBut g.extBut (ln H 5)).extBut i.extBut (ln H 0)).extBut j.extBut (ln H 4)).extBut p.extBut (ln H 1)).extBut q.extBut (ln H 4)) hu λm6 af z=>ϱ ?_);let t6:dG m6 (n+4) x y c:=z.extBut _ _ R t5;show Ϧ (anb t6 rfl ?_);show Ϧ (HN t6 λf S B=>?_)
 replace S:dG f (n+4) x y u:=S
 show Ϧ (wpAny_letGo (ϱ (ϱ ?_)));show Ϧ (anb S rfl ?_);show Ϧ (wpAny_newTuple ?_);let hsz:f.objs.size=s.heap.objs.size:=by rw[B.1,z.1,q.1,p.1,j.1,i.1,g.1]
 let Ob:IsZip f (n+5) (n+3) (n+4) .ellipsis:=B.extBut _ _ J (z.extBut _ _ Ia (q.extBut _ _ J (p.extBut _ _ K9 (j.extBut _ _ J (i.extBut _ _ sI m)))));let ag:∀c o,c≠n+5->c≠n+4->c≠n->c≠n+1->c≠n+2->s.heap.get? c=some o->f.get? c=some o:=λc o c1 c2 c3 c4 c5 e=>
  B.extBut _ _ c2 (z.extBut _ _ c5 (q.extBut _ _ c2 (p.extBut _ _ c4 (j.extBut _ _ c2 (i.extBut _ _ c3 (g.extBut _ _ c1 e))))))
 let i1:f.IsListIter n D (k+1):=((((ac.extBut j.extBut O.symm).extBut p.extBut L.symm).extBut q.extBut O.symm).extBut z.extBut Xk.symm).extBut B.extBut O.symm;let i2:f.IsListIter (n+1) F (k+1):=((ae.extBut q.extBut P.symm).extBut z.extBut RN.symm).extBut B.extBut P.symm;let i3:f.IsListIter (n+2) G (k+1):=af.extBut B.extBut R.symm;let l:n+5<f.objs.size:=abQ Ob;show ν _ _ (Builtin.SmallTypes.ownedTupleHandOut (.ref (n+5)) (.ref f.objs.size)>>=_) _ _ _;show Ϧ ?_;unfold Builtin.SmallTypes.ownedTupleHandOut;let ah:IsZip (f.push {cls:=.type "tuple",data:=.seq #v[x,y,u]}) (n+5) (n+3) (n+4) .ellipsis:=ϴ _ Ob;show Ϧ (alB ah (by simp) λm8 CN s8=>?_)
 replace CN:IsZip m8 (n+5) (n+3) (n+4) (rawInt f.objs.size):=CN
 show alB CN (by simp) λT U s9=>?_
 replace U:IsZip T (n+5) (n+3) (n+4) (rawInt f.objs.size):=U
 let up:∀c o,c≠n+5->f.get? c=some o->T.get? c=some o:=λc o c1 e=>s9.extBut _ _ c1 (s8.extBut _ _ c1 (ϴ _ e))
 let M:dG T f.objs.size x y u:=s9.extBut _ _ (amA l) (s8.extBut _ _ (amA l) (aaT _ rfl));rw[hsz]at U M;show ϱ #[_,rfl,?_];show Q (.ref f.objs.size) _;rw[hsz];show hQ T U (up _ _ J.symm S) (i1.at λo e=>up _ o sI.symm e) (i2.at λo e=>up _ o K9.symm e) (i3.at λo e=>up _ o Ia.symm e) M λc o c1 c2 c3 c4 c5 e=>up c o c1 (ag c o c1 c2 c3 c4 c5 e)
def afE{n l:Nat}{k:Nat}{Q:Fin->μ->Prop}(hh:A.handled=none)(B:l<n)(g:IsZip s.heap (n+5) (n+3) (n+4) .none)(m:dG s.heap (n+3) (.ref n) b c)(h1:s.heap.IsListIter n l k)(p:s.heap.IsList l xs)(D:xs[k]?=none)(F:∀h' e,(∀c o,c≠n+5->c≠n->s.heap.get? c=some o->h'.get? c=some o)->(∃o,h'.get? e=some o/\o.cls=.type "StopIteration")->E (.ref e) {s with heap:=h'}):ν (ϩ prog w) A (Builtin.«zip.__next__» #[[.ref (n+5)],[]]) Q E s:=by
 let v:n+5≠n:=an (b:=0);show ν _ _ (field (.ref (n+5)) 2>>=_) _ _ _;show Ϧ (afv g rfl (x:=.bool false) rfl ?_);show ν _ _ (field (.ref (n+5)) 3>>=_) _ _ _;show Ϧ (afv g rfl (x:=.ref (n+3)) rfl ?_);show Ϧ (anb m rfl ?_);show ν _ _ (Builtin.SmallTypes.ownedTupleIsFree (.ref (n+5))>>=_) _ _ _;show Ϧ ?_;unfold Builtin.SmallTypes.ownedTupleIsFree;show Ϧ (afv g rfl (x:=.none) rfl (ϱ ?_));simp only[if_true];show Ϧ (wpAny_rule ?_);show Ϧ (afv g rfl (x:=.ref (n+4)) rfl ?_);show Ϧ (alB g (by simp) λm1 a q=>?_)
 replace a:IsZip m1 (n+5) (n+3) (n+4) .ellipsis:=a
 show Ϧ ?_;simp only[arO,arY,am3,apv];show Ϧ (Ϧ (wpAny_onRaise ?_));show ν _ _ (Builtin.SmallTypes.nextOf (.ref n)>>=_) _ _ _;show Ϧ (wpAny_nextOf_list_end hh (h1.extBut q.extBut v.symm) (p.extBut q.extBut (ln B 5)) D λm2 e y G=>?_);let#[H,f,i]:=G;let j:IsZip m2 (n+5) (n+3) (n+4) .ellipsis:=y _ _ v a;let u:e≠n+5:=λx=>by subst x;rw[j]at f;cases f;simp at i
 show alB j (by simp) λI _ z=>F I e (λc o c1 c3 x=>z.extBut _ _ c1 (y _ _ c3 (q.extBut _ _ c1 x))) #[H,z.extBut _ _ u f,i]
abbrev yU(h:ϫ)(l1:δ):ϫ:=h.push {cls:=.type "list_iterator",data:=.fields #v[.ref l1,.int 0 0]}
abbrev yM(h:ϫ)(l1 l2:δ):ϫ:=(yU h l1).push {cls:=.type "list_iterator",data:=.fields #v[.ref l2,.int 0 0]}
abbrev yZ(h:ϫ)(l1 l2 l3:δ):ϫ:=(yM h l1 l2).push {cls:=.type "list_iterator",data:=.fields #v[.ref l3,.int 0 0]}
abbrev Bd(h:ϫ)(l1 l2 l3:δ):ϫ:=(yZ h l1 l2 l3).push {cls:=.type "tuple",data:=.seq #v[.ref h.objs.size,.ref (yU h l1).objs.size,.ref (yM h l1 l2).objs.size]}
abbrev BP(h:ϫ)(l1 l2 l3:δ):ϫ:=(Bd h l1 l2 l3).push {cls:=.type "tuple",data:=.seq #v[.none,.none,.none]}
abbrev oJ(h:ϫ)(l1 l2 l3:δ):ϫ:=(BP h l1 l2 l3).push {cls:=.type "zip",data:=.fields #v[.none,.bool false,.bool false,.ref (yZ h l1 l2 l3).objs.size,.ref (Bd h l1 l2 l3).objs.size]}
theorem abM(a c e:δ)(xs ys zs:Array ε):Meets (Builtin.«zip.__new__» #[[.type "zip",.ref a,.ref c,.ref e],[]]) (λ_ R s=>s.heap.IsList a xs/\s.heap.IsList c ys/\s.heap.IsList e zs/\R (.ok (.ret (.ref (BP s.heap a c e).objs.size))) {s with heap:=oJ s.heap a c e}):=
 .of_wp λprog w A R s h=>by
  let#[f,g,d,tk,os]:=s;let#[i,p,j,h]:=h;let n:=sub_zip;let l:arZ (Shared.heap #[f,g,d,tk,os]) a xs:=i;let m:arZ (Shared.heap #[f.push {cls:=.type "list_iterator",data:=.fields #v[.ref a,.int 0 0]},g,d,tk,os]) c ys:=Heap.IsList.push p _;let q:arZ (Shared.heap #[(f.push {cls:=.type "list_iterator",data:=.fields #v[.ref a,.int 0 0]}).push {cls:=.type "list_iterator",data:=.fields #v[.ref c,.int 0 0]},g,d,tk,os]) e zs:=Heap.IsList.push (Heap.IsList.push j _) _
  wp_walk using akz l,akz m,akz q
  show#[_,rfl,h]
section
variable{prog:Ϯ}{w:ϭ}{A:ϲ}{E:ε->μ->Prop}{s:μ}
def ael(g:s.heap.IsList a xs)(B:s.heap.IsList e ys)(i:s.heap.IsList f zs)(h:∀h',IsZip h' (s.heap.objs.size+5) (s.heap.objs.size+3) (s.heap.objs.size+4) .none->dG h' (s.heap.objs.size+3) (.ref s.heap.objs.size) (.ref (s.heap.objs.size+1)) (.ref (s.heap.objs.size+2))->
   dG h' (s.heap.objs.size+4) .none .none .none->h'.IsListIter s.heap.objs.size a 0->h'.IsListIter (s.heap.objs.size+1) e 0->h'.IsListIter (s.heap.objs.size+2) f 0->
   (∀c o,s.heap.get? c=some o->h'.get? c=some o)->Q (.ref (s.heap.objs.size+5)) {s with heap:=h'}):ν (ϩ prog w) A (call (.type "zip") [.ref a,.ref e,.ref f]) Q E s:=by
 show callType_new F.called_zip (by decide) (afj _ _ _) (aeK _ _ _) (λobj=>ac9 obj _ _ _) F.entry_zip_new (abM a e f xs ys zs) #[g,B,i,?_];let j:(yU s.heap a).objs.size=s.heap.objs.size+1:=aiX ..;let l:(yM s.heap a e).objs.size=s.heap.objs.size+2:=by rw[aiX,j]
 let m:(yZ s.heap a e f).objs.size=s.heap.objs.size+3:=by rw[aiX,l]
 let n:(Bd s.heap a e f).objs.size=s.heap.objs.size+4:=by rw[aiX,m]
 let q:(BP s.heap a e f).objs.size=s.heap.objs.size+5:=by rw[aiX,n]
 let p:(oJ s.heap a e f).get? (BP s.heap a e f).objs.size=some _:=aaT _ rfl;let u:(oJ s.heap a e f).get? (Bd s.heap a e f).objs.size=some _:=ϴ _ (aaT _ rfl);let v:(oJ s.heap a e f).get? (yZ s.heap a e f).objs.size=some _:=ϴ _ (ϴ _ (aaT _ rfl));let y:(oJ s.heap a e f).get? (yM s.heap a e).objs.size=some _:=ϴ _ (ϴ _ (ϴ _ (aaT _ rfl)));let z:(oJ s.heap a e f).get? (yU s.heap a).objs.size=some _:=ϴ _ (ϴ _ (ϴ _ (ϴ _ (aaT _ rfl))));let D:(oJ s.heap a e f).get? s.heap.objs.size=some _:=ϴ _ (ϴ _ (ϴ _ (ϴ _ (ϴ _ (aaT _ rfl)))));show _/\_;rw[m,n,q]at p;rw[j,l,m]at v;rw[n]at u;rw[l]at y;rw[j]at z;rw[q];show#[#[_,p,rfl],h _ p v u #[_,D,rfl,rfl] #[_,z,rfl,rfl] #[_,y,rfl,rfl] λc o x=>
  ϴ _ (ϴ _ (ϴ _ (ϴ _ (ϴ _ (ϴ _ x)))))]
end
def JF(K:Ϩ)(l m q:δ):It:=
 #[λi H=>∃xs ys zs x y z,(η K H l xs/\η K H m ys/\η K H q zs)/\xs[i]?=some x/\ys[i]?=some y/\zs[i]?=some z,
  λi H v H'=>∃T x y z,v=.ref T/\H T=none/\H'=upd H T (.tup [x,y,z])/\(∀xs,η K H l xs->xs[i]?=some x)/\(∀ys,η K H m ys->ys[i]?=some y)/\∀zs,η K H q zs->zs[i]?=some z,
  λi H=>∃xs,η K H l xs/\xs.length<=i]
theorem aiC{P:Ϯ}{w:ϭ}{K:Ϩ}{elts:List ϧ}{k:Nat}{pos:Pos}(n l m q:Nat)(g1:l<n)(g2:m<n)(g3:q<n):Turn P w K (.Tuple elts k pos) (JF K l m q) [n+5,n+3,n+4,n,n+1,n+2] (n+5) (λi h=>IsZip h (n+5) (n+3) (n+4) .none/\dG h (n+3) (.ref n) (.ref (n+1)) (.ref (n+2))/\(∃a b c,dG h (n+4) a b c)/\h.IsListIter n l i/\h.IsListIter (n+1) m i/\h.IsListIter (n+2) q i)where
 mem:=by simp
 obj:=λi h st b g=>by
  let#[p,f,#[a,a',R,j],#[Y,h1,_,d1],#[Z,h2,_,d2],#[o3,u,_,d3]]:=st;simp only[ϳ,aew,or_false]at g;obtain e|e|e|e|e|e:=g<;>subst e
  .show#[_,p,λv z=>by cases z]
  .show#[_,f,λv z=>by cases z]
  .show#[_,j,λv z=>by cases z]
  .show#[_,h1,λv z=>by rw[d1]at z;cases z]
  .show#[_,h2,λv z=>by rw[d2]at z;cases z]
  .show#[_,u,λv z=>by rw[d3]at z;cases z]
 keep:=λi h h' st kk=>by
  let#[p,f,#[a,a',R,j],#[Y,h1,r1],#[Z,h2,r2],#[o3,u,r3]]:=st;show#[kk _ (by simp) _ p,kk _ (by simp) _ f,#[a,a',R,kk _ (by simp) _ j],#[Y,kk _ (by simp) _ h1,r1],#[Z,kk _ (by simp) _ h2,r2],#[o3,kk _ (by simp) _ u,r3]]
 item:=by
  intro X hP hw hK hc i ϵ s σ H E I S st hg;subst hP hw hK;let#[p,f,#[a,b,c,j],h1,h2,u]:=id st;let#[xs,ys,zs,x,y,z,#[B,G,Zi],U,hy,hu]:=hg;let#[Dv,xM,Gh,_]:=I.list B;let#[VN,Va,ab,_]:=I.list G;let#[Vq,Zo,ac,_]:=I.list Zi;let#[u1,ae,Dh]:=xM.get U;let#[u2,af,HH]:=Va.get hy;let#[u3,ag,Km]:=Zo.get hu;let J:s.TypeIs (.ref (n+5)) "zip":=#[_,p,rfl];unfold pyNext;show Ϧ (wpAny_attempt (aoI (name:=Ϫ "__next__") J F.slot_zip_next (wpAny_call_entry F.slot_zip_next J F.entry_zip_next
   (amS g1 g2 g3 p f j h1 h2 u Gh.isList ab.isList ac.isList (by simpa using ae) (by simpa using af) (by simpa using ag) λh' a1 R a3 a4 a5 a6 W=>ϱ ?_) (F.args_zip_next_1 _))))
  show#[_,rfl,?_];show wpAny_letOwnedTupleGo_zip (s:={s with heap:=h'}) a1 λL ah D=>?_
  let M:s.heap.objs.size<=s.heap.objs.size:=Ϭ _;let ai:s.heap.objs.size≠n+5:=amA (abQ p);let vI:IsTup L s.heap.objs.size [u1,u2,u3].toArray:=#[_,D.extBut _ _ ai a6,rfl,_,rfl];let aj:∀b o,b∉[n+5,n+3,n+4,n,n+1,n+2]->s.heap.get? b=some o->L.get? b=some o:=λb o g q=>by
   simp only[ϳ,aew,or_false,not_or]at g;show D.extBut _ _ g.1 (W b o g.1 g.2.2.1 g.2.2.2.1 g.2.2.2.2.1 g.2.2.2.2.2 q)
  show#[.ref s.heap.objs.size,upd H s.heap.objs.size (.tup [x,y,z]),I.Ie (ch:=[n+5,n+3,n+4,n,n+1,n+2]) (tk:=s.toks) S M aj Β (.cons Dh (.cons HH (.cons Km .nil))) vI,rfl,?_,?_,λb g=>?_]
  .show#[_,x,y,z,rfl,I.hok.fresh M,rfl,λa O=>?_,λa O=>?_,λa O=>?_]
   .rw[<-I.list_inj B O];show U
   .rw[<-I.list_inj G O];show hy
   .rw[<-I.list_inj Zi O];show hu
  .show#[ah,D.extBut _ _ an (W _ _ an an (an (b:=0)) an an f),#[_,_,_,D.extBut _ _ an R],a3.extBut D.extBut (an (a:=0)),a4.extBut D.extBut an,a5.extBut D.extBut an]
  .have :b≠s.heap.objs.size:=λq=>by
    obtain⟨o,ho⟩:∃o,s.heap.get? b=some o:=by
     let#[Y,h1,_]:=h1;let#[Z,h2,_]:=h2;let#[o3,u,_]:=u;simp only[ϳ,aew,or_false]at g;obtain e|e|e|e|e|e:=g<;>subst e
     .show#[_,p]
     .show#[_,f]
     .show#[_,j]
     .show#[_,h1]
     .show#[_,h2]
     .show#[_,u]
    show ahK _ (q▸abQ ho)
   rw[ξ this];show(S b g).1
 done:=by
  intro X hP hw hK hc i ϵ s σ H E I S st hg;subst hP hw hK;let#[p,f,#[a,b,c,j],h1,h2,u]:=st;let#[xs,B,U]:=hg;let#[Dv,xM,Gh,_]:=I.list B;let J:s.TypeIs (.ref (n+5)) "zip":=#[_,p,rfl];unfold pyNext;show Ϧ (wpAny_attempt (aoI (name:=Ϫ "__next__") J F.slot_zip_next
   (wpAny_call_entry F.slot_zip_next J F.entry_zip_next (afE (I.ok.hd hc) g1 p f h1 Gh.isList (ajD (by rw[aaR, <-xM.length];show U)) λh' e W he=>?_) (F.args_zip_next_1 _))))
  let#[o,ho,al]:=he;show Ϧ (wpAny_isInstance (T:="StopIteration") (b:=true) #[o,ho,al] isSubtype_stop ?_);show ϱ #[rfl,I.We (tk:=s.toks) S λb o g q=>?_];simp only[ϳ,aew,or_false,not_or]at g;show W b o g.1 g.2.2.2.1 q
 self:=λA i s Q E st h=>wpAny_pyIter_zip st.1 h
def vals3(r:Vals [x,y,z] us):∃u v w,us=[u,v,w]/\RelV x u/\RelV y v/\RelV z w:=by
 cases r with
 |cons a r=>
  cases r with
  |cons b r=>
   cases r with
   |cons c r=>
    cases r;show#[_,_,_,rfl,a,b,c]
def ajC(F:Gl X "zip")(G:X.mg "zip"=none)(hs:abP [a,b,c] X.env=(false,eval a X.env)::abP [b,c] X.env)(g:abP [b,c] X.env=(false,eval b X.env)::abP [c] X.env)(i:abP [c] X.env=[(false,eval c X.env)])(h:EV X a σ H λy H1=>EV X b σ H1 λz H2=>EV X c σ H2 λB H3=>∃l m q xs ys zs,(y=.ref l/\z=.ref m/\B=.ref q)/\H3 l=some (.lst xs)/\H3 m=some (.lst ys)/\H3 q=some (.lst zs)/\R (JF X.K l m q) H3):EI X (.Tuple elts k tp) (.Call (.Name "zip" p) [a,b,c] [] pos) σ H R:=by
 intro ϵ s I;let J:EA X [a,b,c] σ H λvs H3=>∃l m q xs ys zs,vs=[.ref l,.ref m,.ref q]/\H3 l=some (.lst xs)/\H3 m=some (.lst ys)/\H3 q=some (.lst zs)/\R (JF X.K l m q) H3:=
  dH hs (ϝ h λy H1 h1=>dH g (ϝ h1 λz H2 h2=>dH (es:=[]) (by rw[i];rfl) (ϝ h2 λB H3 ⟨l,m,q,xs,ys,zs,⟨e1,L,M⟩,r⟩=>jw #[l,m,q,xs,ys,zs,by rw[e1,L,M],r])))
 show Call_ (ju I F G boot_zip (PyProof.Rows.callWith_type1 (υ (J pos ϵ s I) λus v O=>?_) hs (by rw[g,i];rfl)));let#[vs,H1,f,P,l,m,q,xs,ys,zs,e,hl,x,Q,S]:=O;subst e;let#[T,U,W,rfl,Y,Z,Km]:=vals3 P;cases(show T=Value.ref l from Y);cases(show U=Value.ref m from Z);cases(show W=Value.ref q from Km);let#[_,Dv,n1,xM,j]:=f.hok l _ hl;let#[_,VN,n2,Va,n]:=f.hok m _ x;let#[_,Vq,n3,Zo,D]:=f.hok q _ Q;show ael (xs:=Dv.toArray) (ys:=VN.toArray) (zs:=Vq.toArray) #[_,j,rfl,_,rfl] #[_,n,rfl,_,rfl] #[_,D,rfl,_,rfl] λh' h1 h2 h3 h4 h5 h6 hk=>?_
 show wpAny_pyIter_zip h1 ?_;show#[v.heap.objs.size+5,_,_,_,H1,rfl,f.kept (t':=v.toks) hk,aiC _ l m q (abQ j) (abQ n) (abQ D),#[h1,h2,#[_,_,_,h3],h4,h5,h6],λb E=>?_,S];let u:v.heap.objs.size<=b:=by
  simp only[ϳ,aew,or_false]at E;obtain e|e|e|e|e|e:=E<;>subst e<;>first|show ajF _ _|show Ϭ _
 show f.fpOk u (f.hok.fresh u)
def ah8(M:ajU (ϩ X.prog X.w) X.A X.env X.xe)(O:X.calm=true)(P:Gl X "zip")(Q:X.mg "zip"=none)(hs:abP [a,b,c] X.env=(false,eval a X.env)::abP [b,c] X.env)(u:abP [b,c] X.env=(false,eval b X.env)::abP [c] X.env)(B:abP [c] X.env=[(false,eval c X.env)])(h:EV X a σ H λI H1=>EV X b σ H1 λJ H2=>EV X c σ H2 λL j=>∃l m q xs ys zs,(I=.ref l/\J=.ref m/\L=.ref q)/\j l=some (.lst xs)/\j m=some (.lst ys)/\j q=some (.lst zs)/\ys.length=xs.length/\zs.length=xs.length/\
   ∃g:Nat->St->Hp->Prop,g 0 σ j/\(∀i σ' H',g i σ' H'->η X.K H' l xs/\η X.K H' m ys/\η X.K H' q zs)/\
   (∀i x y z T σ' H',xs[i]?=some x->ys[i]?=some y->zs[i]?=some z->g i σ' H'->H' T=none->EG X (.Tuple elts k tp) (.ref T) σ' (upd H' T (.tup [x,y,z])) λn H2=>Ι X body {D with nx:=g (i+1),ct:=g (i+1),bk:=D.nx} n H2)/\∀σ' H',g xs.length σ' H'->D.nx σ' H'):SX X (.For (.Tuple elts k tp) (.Call (.Name "zip" p) [a,b,c] [] p') body [] pos) D σ H:=by
 show mC M O (by intro _;rfl) (ajC P Q hs u B (ϝ h λI H1 h1=>ϝ h1 λJ H2 h2=>ϝ h2 λL j R=>?_));let#[l,m,q,xs,ys,zs,e,hl,E,S,ly,lz,g,U,W,F,hd]:=R;show#[l,m,q,xs,ys,zs,e,hl,E,S,λi m σ H=>m=xs.length-i/\i<=xs.length/\g i σ H,#[xs.length,by simp,ad5 _,U],?_]
 rintro i m' σ' H' ⟨rfl,hi,G⟩
 let f:=W i σ' H' G;by_cases s:i<xs.length
 .let Y:ys[i]?=some ys[i]:=aaj ();let Z:zs[i]?=some zs[i]:=aaj ();show .inr #[#[xs,ys,zs,xs[i],ys[i],zs[i],f,aaj s,Y,Z],g (i+1),λn H2 p2=>#[xs.length-(i+1),(),rfl,s,p2],λv H2 y=>?_];let#[T,x,y,z,e1,e2,e3,e4,e5,e6]:=y;subst e1 e3;show F i x y z T σ' H' (e4 xs f.1) (e5 ys f.2.1) (e6 zs f.2.2) G e2
 .let e:i=xs.length:=()
  show .inl #[#[xs,f.1,()],?_];subst e;show hd σ' H' G
theorem Gp:∀{us:List ε}{ys:List Str}{m:Nat}{u:ε},StrsAre us ys->us[m]?=some u->∃y t,ys[m]?=some y/\u=.str y t
 |_,_,_,_,.nil,e=>by simp at e
 |_,_,0,u,.cons y t h,e=>by
  simp at e;show#[y,t,rfl,e.symm]
 |_,_,m+1,u,.cons y t h,e=>by
  let#[a,t',e1,c]:=Gp h (by simpa using e);show#[a,t',by simpa using e1,c]
def alO{zs:List Str}{z:Str}{j:Nat}(h:η X.K H a (zs.map V.str))(f:zs[j]?=some z)(c:∀m y,m<j->zs[m]?=some y->¬y=z)(g:Q (.int j) H):MT X "list.index" (.ref a) [.str z] H Q:=by
 show dF (r:=λx xs H Q=>∃a zs z j,x=.ref a/\xs=[.str z]/\η X.K H a (zs.map V.str)/\zs[j]?=some z/\(∀m y,m<j->zs[m]?=some y->¬y=z)/\Q (.int (j:Nat)) H) ?_ #[a,zs,z,j,rfl,rfl,h,f,c,g];intro ϵ s σ H x xs v us Q I rx rs h;let#[a,zs,z,j,rfl,rfl,h,f,c,g]:=h;cases rx;let#[u,rfl,G]:=vals1 rs;let#[t,rfl]:=G;let#[i,r,#[#[cls,dd,data,sl],n,e,E,hd,hs],J]:=I.list h;simp only at E hd hs;subst E hd hs;let p:=Xb r;let l:i.length=zs.length:=by have:=r.length;rw[aaA]at this;show this.symm
 let q:j<i.toArray.size:=by
  rw[aaR,l];show(aat.mp f).1
 rw[aaA]at J;let hsz:=ϰ;let L:j<zs.length:=(aat.mp f).1;show ana F.slot_list_index #[_,e,rfl] F.entry_list_index (F.args_list_index_2 _ _) (SeqAt.list_indexAt a i.toArray n _ sl (.str z t) (isStrOf z) j q () ?_ ?_) #[e,λy M=>(eq_isStrOf z t p y (by simpa using M)).at _ _,?_]
 .let#[y,t',e1,B]:=Gp (m:=j) (u:=i.toArray[j]) p (by simp);rw[B];rw[f]at e1;cases e1;show(z==z)=true;show beq_self_eq_true z
 .intro m O D;let#[y,t',e1,B]:=Gp (m:=m) (u:=i.toArray[m]) p (by simp);rw[B];show(y==z)=false;show beq_eq_false_iff_ne.mpr (c m y D e1)
 .show#[.int j,H,I.tok _,#[_,rfl],g]
def ltV:V->V->Bool
 |.int i,.int j=>decide (i<j)
 |.str x,.str y=>decide (x.cps.toList<y.cps.toList)
 |_,_=>false
structure aH(P:Ϯ)(w:ϭ)(K:Ϩ)(mg:Str->Option ε)(base:ϫ)(cc:Bool)(k:Nat)(C:δ)(m:Str)(ps:List Str)(sp:Sp):Prop where
 cls:ϛ K C
 ex:∃f fd,Meth K C m f/\Binds K fd ps []/\dM P w K mg base (cU P w) cc k f fd ps sp
structure jL(P:Ϯ)(w:ϭ)(K:Ϩ)(mg:Str->Option ε)(base:ϫ)(cc:Bool)(k:Nat)(x:Str)(C:δ)(ps:List Str)(sp:Sp):Prop where
 at_:mg x=some (.ref C)
 ex:∃f fd,Mk K C f/\Binds K fd ps []/\dM P w K mg base (cU P w) cc k f fd ps sp
structure wJ(P:Ϯ)(w:ϭ)(K:Ϩ)(mg:Str->Option ε)(base:ϫ)(cc:Bool)(k:Nat)(x m:Str)(ps:List Str)(sp:Sp):Prop where
 ex:∃C f fd,mg x=some (.ref C)/\aqJ K C (.type "type")=true/\aqK K (.ref C) (.type "type") m=some (.val (.ref f))/\
  ahm K (.ref C) "__getattribute__"=some (some (.builtin "type.__getattribute__"))/\aok K (.ref f)=true/\Binds K fd ps []/\dM P w K mg base (cU P w) cc k f fd ps sp
section
variable{X:Cx}{σ:St}{H:Hp}{Q:VK}{D:Ends}{x f m:Str}{p np apos pos pos' tpos:Pos}{a e o value:ϧ}{es:List ϧ}{Kx:St->XK}{cc:Bool}{k':Nat}
def bD(h:EV X e σ H λx H1=>∃a C dx fs v,x=.ref a/\H1 a=some (.ins C dx fs)/\ϛ X.K C/\ό X.K C f/\fs.lookup f=some v/\Q v H1)(g:attributeBase e f X.env (eval e X.env)=eval e X.env:=by rfl):EV X (.Attribute e f pos) σ H Q:=by
 intro ϵ s I;show ak0 g (υ (h ϵ s I) λu z i=>?_);let#[x,H1,j,rx,a,C,dx,fs,v,ex,m,c,n,l,q]:=i;subst ex;obtain rfl:u=Value.ref a:=rx;show R9 j m c n l λB D p y=>#[v,H1,p,y,q]
theorem iZ(h:EV X value σ H λy H1=>EV X o σ H1 λx H2=>∃a C dx fs,x=.ref a/\H2 a=some (.ins C dx fs)/\ϛ X.K C/\ό X.K C f/\fs.length<1000/\D.nx σ (upd H2 a (.ins C dx (aq f y fs))))(hs:aoD value (some (.Attribute o f pos')) pos.line X.env=pure false:=by rfl):SX X (.Assign [.Attribute o f pos'] value pos) D σ H:=
 λϵ s I=>aem dB dB hs ϵ s σ H D I h
theorem amF(h:EV X o σ H λx H1=>∃a C dx fs v,x=.ref a/\H1 a=some (.ins C dx fs)/\ϛ X.K C/\ό X.K C f/\fs.lookup f=some v/\
   EV X value σ H1 λy H2=>Mh v y H2 λz e=>∃c fs',e a=some (.ins C c fs')/\fs'.length<1000/\D.nx σ (upd e a (.ins C c (aq f z fs')))):SX X (.AugAssign (.Attribute o f tpos) .Add value pos) D σ H:=
 λϵ s I=>agW dB dB aaV ϵ s σ H D I h
def dR{pl:Sem Bool}(v:Ϙ cc k' X.A)(y:dj X Kx)(c:abP (e::es) X.env=(false,eval e X.env)::abP es X.env:=by rfl)(g:(backTo pos (abP es X.env)).any (·.1)=false:=by rfl)(z:eval (.Call (.Attribute o m apos) (e::es) [] pos) X.env=(do
   let j<-eval o X.env
   standAt apos.atName
   let(f,first)<-holding [j] (getMethod j m pl)
   callWith pos f first (backTo pos (abP (e::es) X.env)) (backToKw pos (keywordEach [] X.env))):=by rfl)(h:EV X o σ H λx H1=>∃a C dx fs cA k ps sp,x=.ref a/\H1 a=some (.ins C dx fs)/\fs.lookup m=none/\aH X.prog X.w X.K X.mg X.base cA k C m ps sp/\k<=k'/\(cA=true->cc=true)/\EA X (e::es) σ H1 λvs H2=>sp (x::vs) H2 Q (Kx σ)):EV X (.Call (.Attribute o m apos) (e::es) [] pos) σ H Q:=by
 intro ϵ s I;show aq4 (pl:=pl) (υ (h ϵ s I) λu B D=>?_) z;let#[x,H1,l,rx,a,C,dx,fs,cA,k,ps,sp,ex,E,hl,M,G,i,q]:=D;subst ex;cases(show u=Value.ref a from rx);let#[f,fd,n,J,F]:=M.ex;show Um l E M.cls n hl ?_;show aq3 (first:=[.ref a]) (h₀:=X.base) I.ok.mod.kin n.kp (υ (q pos ϵ B l) λus O ⟨vs,H2,p,r,L⟩=>#[p.kIn,?_]) c g;show wD (us:=.ref a::us) (vs:=.ref a::vs) F ((v.mono G).vY i) J y p (.cons rfl r) L
def mX{pl:Sem Bool}(j:Ϙ cc k' X.A)(l:dj X Kx)(h:EV X o σ H λx H1=>∃a C dx fs cA k ps sp,x=.ref a/\H1 a=some (.ins C dx fs)/\fs.lookup m=none/\aH X.prog X.w X.K X.mg X.base cA k C m ps sp/\k<=k'/\(cA=true->cc=true)/\sp [x] H1 Q (Kx σ))(n:eval (.Call (.Attribute o m apos) [] [] pos) X.env=(do
   let g<-eval o X.env
   standAt apos.atName
   let(f,first)<-holding [g] (getMethod g m pl)
   callWith pos f first (backTo pos (abP [] X.env)) (backToKw pos (keywordEach [] X.env))):=by rfl):EV X (.Call (.Attribute o m apos) [] [] pos) σ H Q:=by
 intro ϵ s I;show aq4 (pl:=pl) (υ (h ϵ s I) λu B p=>?_) n;let#[x,H1,c,rx,a,C,dx,fs,cA,k,ps,sp,ex,v,hl,M,y,e,q]:=p;subst ex;cases(show u=Value.ref a from rx);let#[f,fd,i,z,F]:=M.ex;show Um c v M.cls i hl ?_;show W.callWith_K0 (first:=[.ref a]) c.kIn i.kp (wD (us:=[.ref a]) (vs:=[.ref a]) F ((j.mono y).vY e) z l c (.cons rfl .nil) q)
def Cu{pl:Sem Bool}{cA:Bool}{k:Nat}{sp:Sp}(B:wJ X.prog X.w X.K X.mg X.base cA k x m ps sp)(q:Ϙ cc k' X.A)(a:cA=true->cc=true)(u:dj X Kx)(h:EA X (e::es) σ H λvs H1=>sp vs H1 Q (Kx σ))(v:k<=k':=by decide)(y:Gl X x:=by rfl)(hd:(x==("__debug__":Str))=false:=by decide)(c:abP (e::es) X.env=(false,eval e X.env)::abP es X.env:=by rfl)(g:(backTo pos (abP es X.env)).any (·.1)=false:=by rfl)(z:eval (.Call (.Attribute (.Name x np) m apos) (e::es) [] pos) X.env=(do
   let n<-eval (.Name x np) X.env
   standAt apos.atName
   let(f,first)<-holding [n] (getMethod n m pl)
   callWith pos f first (backTo pos (abP (e::es) X.env)) (backToKw pos (keywordEach [] X.env))):=by rfl):EV X (.Call (.Attribute (.Name x np) m apos) (e::es) [] pos) σ H Q:=by
 let#[C,f,fd,D,i,E,j,l,G,F]:=B.ex;intro ϵ s I;show aq4 (pl:=pl) (Cr I y D ?_ hd) z;show W.method_cls I.kIn j (W.cls_value I.kIn i E (by rfl) ?_);let J:=I.tok (s.toks+1);show aq3 (first:=[]) (h₀:=X.base) I.ok.mod.kin l (υ (h pos ϵ _ J) λus M ⟨vs,H2,p,r,L⟩=>#[p.kIn,?_]) c g;show wD F ((q.mono v).vY a) G u p r L
def ajd(M:Mk X.K C g)(F:dM X.prog X.w X.K X.mg X.base (cU X.prog X.w) cc k g fd ps sp)(m:Ϙ cc (k+1) X.A)(n:Binds X.K fd ps [])(p:dj X Kx)(I:Inv X ϵ σ H s)(r:Vals vs us)(h:∀y dx,H y=none->H dx=none->dx≠y->sp (.ref y::vs) (upd (upd H dx (.own y)) y (.ins C dx [])) (λv H2=>v=.non/\Q (.ref y) H2) (Kx σ)):ν (ϩ X.prog X.w) X.A (call (.ref C) us) (EP X ϵ σ Q) X.xe s:=by
 let x:H (s.heap.objs.size+1)=none:=I.hok.fresh (apb _);let i:H s.heap.objs.size=none:=I.hok.fresh (Ϭ _);let q:=h _ _ x i (acE (arI _));let e:=Inv.made (C:=C) I;let l:Vals (V.ref (s.heap.objs.size+1)::vs) (Value.ref (s.heap.objs.size+1)::us):=.cons rfl r;let hl:(Value.ref (s.heap.objs.size+1)::us).length=ps.length:=by rw[<-l.length];show F.len _ _ _ _ q
 let c:=n {s with heap:=(s.heap.push ak4).push (apC C s.heap.objs.size)} (Value.ref (s.heap.objs.size+1)::us) e.kIn (by simpa using hl);rw[aoJ]at c;show wpAny_call (amz (f:=g) I.kIn M.makes M.init (beq_iff_eq.mp M.fn) (aks (F.run _ X.stack _ _ #[Value.ref (s.heap.objs.size+1)::us,[]] _ _ _ (Kx σ) (m.make C us []) (e.env0.make C us []) c l q) λj s' a=>?_))
 match j,a with
 |.error z,a=>
   let#[b,cls,d,H',rfl,B,w]:=e.flown a;show p ϵ σ H' s' b cls d B w
 |.ok (.ret u),a=>
   let#[v,H',D,E,G,J]:=e.after a;subst G;show#[E,#[V.ref (s.heap.objs.size+1),H',D,rfl,J]]
 |.ok .next,a=>show False.elim a
 |.ok .brk,a=>show False.elim a
 |.ok .cont,a=>show False.elim a
def lL(M:jL X.prog X.w X.K X.mg X.base cA k x C ps sp)(l:Ϙ cc k' X.A)(m:k+1<=k')(a:cA=true->cc=true)(n:dj X Kx)(h:EA X (e::es) σ H λvs H1=>∀y dx,H1 y=none->H1 dx=none->dx≠y->sp (.ref y::vs) (upd (upd H1 dx (.own y)) y (.ins C dx [])) (λv H2=>v=.non/\Q (.ref y) H2) (Kx σ))(u:Gl X x:=by rfl)(hd:(x==("__debug__":Str))=false:=by decide)(c:abP (e::es) X.env=(false,eval e X.env)::abP es X.env:=by rfl)(g:(backTo pos (abP es X.env)).any (·.1)=false:=by rfl):EV X (.Call (.Name x p) (e::es) [] pos) σ H Q:=by
 let#[f,fd,i,z,F]:=M.ex;intro ϵ s I;show ajv (Cr I u M.at_ ?_ hd);show aq3 (h₀:=X.base) I.ok.mod.kin i.kp (υ (h pos ϵ s I) λus B ⟨vs,H1,j,r,q⟩=>#[j.kIn,?_]) c g;show ajd i F ((l.mono m).vY a) z n j r q
end
structure OM(K:Ϩ)(C:δ)(m qual:Str)(st:π):Prop where
 ex:∃f fd,cZ K m qual st f fd/\Meth K C m f
structure OI(K:Ϩ)(C:δ)(qual:Str)(st:π):Prop where
 ex:∃f fd,cZ K "__init__" qual st f fd/\Mk K C f
structure OB(K:Ϩ)(C:δ)(m qual:Str)(st:π):Prop where
 rd:aqJ K C (.type "type")=true
 ga:ahm K (.ref C) "__getattribute__"=some (some (.builtin "type.__getattribute__"))
 ex:∃f fd,cZ K m qual st f fd/\aqK K (.ref C) (.type "type") m=some (.val (.ref f))
def FD(P:Ϯ)(w:ϭ)(K:Ϩ)(mg:Str->Option ε)(base:ϫ)(cc:Bool)(k:Nat)(m qual:Str)(st:π)(ps:List Str)(sp:Sp):Prop:=
 ∀f fd,cZ K m qual st f fd->Binds K fd ps []/\dM P w K mg base (cU P w) cc k f fd ps sp
section
variable{P:Ϯ}{w:ϭ}{K:Ϩ}{mg:Str->Option ε}{base:ϫ}{cc:Bool}{k:Nat}{x m qual:Str}{C:δ}{st:π}{ps N:List Str}{sp:Sp}
theorem bC(body:∀(f:δ)(a:ε)(A:ϲ)(outer:List Env)(s:μ)(H:Hp)(vs:List V)(Q:VK)(E:XK),Ϙ cc k (A.deeper (envOfC qual (χ st) s.heap.objs.size f a))->sp vs H Q E->
   let X:=jd cc P w K mg base N qual (χ st) f a A outer s H E;let D:Ends:={nx:=λ_ H'=>Q .non H',rt:=Q};Ι X (ϖ st) D (start N vs) H)(S:Ρ N ps (χ st):=by show#[rfl,rfl,rfl,by fin2,rfl,by fin2,by fin2])(e:∀(kV c pm:ε)(an:Option δ)(a ct:ε)(us:List ε),us.length=ps.length->bindArgs (art m qual (mO st) (ϖ st) (χ st) .none kV c pm an a ct) #[us,[]]=pure (ps.zip us):=by walk_at"bb")(len:∀vs H Q E,sp vs H Q E->vs.length=ps.length:=by walk_at"ln"):FD P w K mg base cc (k+1) m qual st ps sp:=
 λf fd F=>#[F.binds e,Ke F S len λa A outer s H vs Q E g h=>body f a A outer s H vs Q E g h]
def FD.meth(F:FD P w K mg base cc k m qual st ps sp)(c:ϛ K C)(O:OM K C m qual st):aH P w K mg base cc k C m ps sp:=by
 let#[f,fd,h1,h2]:=O.ex;show#[c,f,fd,h2,F f fd h1]
def FD.make(F:FD P w K mg base cc k "__init__" qual st ps sp)(a:mg x=some (.ref C))(O:OI K C qual st):jL P w K mg base cc k x C ps sp:=by
 let#[f,fd,h1,h2]:=O.ex;show#[a,f,fd,h2,F f fd h1]
def FD.asked(F:FD P w K mg base cc k m qual st ps sp)(a:mg x=some (.ref C))(O:OB K C m qual st):wJ P w K mg base cc k x m ps sp:=by
 let#[f,fd,h1,h2]:=O.ex;let#[c,e]:=F f fd h1;show#[C,f,fd,a,O.rd,h2,O.ga,h1.kp,c,e]
def agE(h:mg x=some (.ref C))(F:cZ K m qual st f fd)(a:aey K (.ref C) m=some (some (.ref f)))(b:arq K (.ref f)=true):OM K (ο mg x) m qual st:=by
 rw[dh h];show#[f,fd,F,a,b,F.kp]
def agA(h:mg x=some (.ref C))(F:cZ K "__init__" qual st f fd)(a:aey K (.ref C) "__init__"=some (some (.ref f)))(b:arq K (.ref f)=true)(c:arW K C=true)(d:aok K (.ref C)=true):OI K (ο mg x) qual st:=by
 rw[dh h];show#[f,fd,F,c,a,b,d]
def acH(h:mg x=some (.ref C))(F:cZ K m qual st f fd)(a:aqK K (.ref C) (.type "type") m=some (.val (.ref f)))(b:aqJ K C (.type "type")=true)(c:ahm K (.ref C) "__getattribute__"=some (some (.builtin "type.__getattribute__"))):OB K (ο mg x) m qual st:=by
 rw[dh h];show#[b,c,f,fd,F,a]
def Py(h:mg x=some (.ref C))(a:aqt K C aq0=true)(b:amU K C=true)(c:aqP K C=true)(d:aey K (.ref C) "__setattr__"=some (some (.builtin "object.__setattr__"))):ϛ K (ο mg x):=by
 rw[dh h];show#[a,b,c,d]
end
def d9{X:Cx}{σ:St}{H:Hp}{D:Ends}{k:Nat}{tp pos:Pos}{value:ϧ}(h:EV X value σ H λv H1=>EG X (.Tuple elts k tp) v σ H1 λσ' H'=>D.nx σ' H')(hs:swapsWithSole [.Tuple elts k tp] value pos.line X.env=pure false:=by rfl)(a:swappedStores [.Tuple elts k tp] value X.env=pure none:=by rfl):SX X (.Assign [.Tuple elts k tp] value pos) D σ H:=by
 intro ϵ s I;show Assign_Tuple (υ (h ϵ s I) λu c e=>?_) hs a;let#[v,H1,f,g,i]:=e;show υ (i ϵ c u f g) λ_ m z=>by let#[σ',H',j,l]:=z;show #[σ',H',j,l]
structure OT(K:Ϩ)(C:δ):Prop where
 ty:∀(H:Hp)(a dx:δ)(fs:List (Str×V)),H a=some (.ins C dx fs)->di K H (.ref a) (.ref C)
def afm{K:Ϩ}{x:Str}{C:δ}(h:mg x=some (.ref C))(c:ϛ K (ο mg x))(f:aey K (.ref C) "__class__"=some (some (.builtin "object.__class__")))(g:ahm K (.builtin "object.__class__") "__get__"=some (some (.builtin "getset_descriptor.__get__")))(i:aq1 K (.builtin "object.__class__")=some true)(j:aqv K C (.type "object")=some true):OT K (ο mg x):=by
 rw[dh h]at c⊢;show#[λH a dx fs e=>.ins e c f g i j]
theorem ad2(e:ajU (ϩ X.prog X.w) X.A X.env X.xe)(W:Nat->St->Hp->Prop)(a:Nat)(f:W a σ H)(turn:∀m σ H,W m σ H->ET X c σ H λk H1=>if k=true then ∃N:St->Hp->Prop,(∀σ' H',N σ' H'->∃m',m'<m/\W m' σ' H')/\ Ι X body {D with nx:=N,ct:=N,bk:=D.nx} σ H1 else D.nx σ H1):SX X (.While c body [] pos) D σ H:=
 λϵ s I=>aaM (X:=X) e ahT Dt ϵ s σ H D I #[W,#[a,f],turn]
theorem Ag(h:∀p,H p=none->Q (.ref p) (upd H p (.dK []))):EV X (.Dict [] [] pos) σ H Q:=uA aeH h
def aeM(f:X.A.units+1<cLine)(hs:Wh i)(h:EV X o σ H λx H1=>EV X i σ H1 λy H2=>∃a v,x=.ref a/\Ϝ H2 a y (some v)/\Q v H2):EV X (.Subscript o i pos) σ H Q:=by
 intro ϵ s I;show abR F.slot_dict_getitem.lookup hs (υ (h ϵ s I) λu j ⟨x,H1,l,rx,m⟩=>υ (m ϵ j l) λz B n=>?_);let#[y,H2,e,ry,a,v,ex,g,p]:=n;subst ex;obtain rfl:u=Value.ref a:=rx;show#[Ly e g,T7 f e g ry λD E q c=>#[v,H2,q,c,p]]
def Dg(c:X.A.units+1<cLine)(g:Ϝ H a y r)(q:Q (.bl r.isSome) H):OP X (ada .In) y (.ref a) H Q:=by
 show bz (r:=λx z H Q=>∃a o,z=.ref a/\Ϝ H a x o/\Q (.bl o.isSome) H) ?_ #[a,r,rfl,g,q];intro ϵ s σ H x z v u Q I rx e h;let#[a,o,rfl,g,q]:=h;cases(show u=Value.ref a from e);show amd c I g rx λs' f=>#[.bl o.isSome,H,f,rfl,q]
def alv(c:X.A.units+1<cLine)(g:Ϝ H a y r)(q:Q (.bl (!r.isSome)) H):OP X (ada .NotIn) y (.ref a) H Q:=by
 show bz (r:=λx z H Q=>∃a o,z=.ref a/\Ϝ H a x o/\Q (.bl (!o.isSome)) H) ?_ #[a,r,rfl,g,q];intro ϵ s σ H x z v u Q I rx e h;let#[a,o,rfl,g,q]:=h;cases(show u=Value.ref a from e);show aj5 c I g rx λs' f=>#[.bl (!o.isSome),H,f,rfl,q]
def mq(f:X.A.units+1<cLine)(h:EV X value σ H λv H1=>EV X o σ H1 λx H2=>EV X i σ H2 λy e=>∃a c,x=.ref a/\fH e a y v c/\D.nx σ c)(hs:aoD value (some (.Subscript o i pos')) pos.line X.env=pure false:=by rfl):SX X (.Assign [.Subscript o i pos'] value pos) D σ H:=by
 intro ϵ s I;show wpAny_Assign_Subscript (υ (h ϵ s I) λr j ⟨v,H1,l,m,n⟩=>υ (n ϵ j l) λu p ⟨x,H2,q,rx,z⟩=>υ (z ϵ p q) λJ L B=>?_) hs;let#[y,e,E,ry,a,c,ex,g,F]:=B;subst ex;obtain rfl:u=Value.ref a:=rx;show aji f E g ry m λM G=>#[σ,c,G,F]
def agc(i:X.A.units+1<cLine)(m:M1 X o "get" apos e cpos)(h:EV X o σ H λx H1=>∃a,x=.ref a/\nM H1 a/\EV X e σ H1 λy H2=>∃o,Ϝ H2 a y o/\Q (o.getD .non) H2):EV X (.Call (.Attribute o "get" apos) [e] [] cpos) σ H Q:=by
 intro ϵ s I;show wpAny_Call_method m.base m.few m.line F.plainAttrs_dict F.slot_dict_get F.type_dict_get (υ (h ϵ s I) λu j l=>?_);let#[x,H1,f,rx,a,ex,d,n]:=l;subst ex;obtain rfl:u=Value.ref a:=rx;let#[p,q,_]:=Wr f d;show#[p,q,?_];rw[m.trees];show Calls.callWith_builtin rfl (Calls.evalArgs_plain (Calls.spliced_cons (υ (n ϵ j f) λD E ⟨y,H2,v,ry,G,g,z⟩=>Calls.spliced_nil ?_)));show aib i v g ry λJ L B c=>#[_,H2,B,c,z]
def Jv(h:EV X o σ H λx H1=>∃a,x=.ref a/\nM H1 a/\EV X e σ H1 λy H2=>∃Ϸ k v,H2 a=some (.dK Ϸ)/\y=kV k/\Ϣ Ϸ k=some v/\Q v (upd H2 a (.dK (fY Ϸ k))))(m:M1 X o "pop" apos e cpos:=by constructor<;>rfl):EV X (.Call (.Attribute o "pop" apos) [e] [] cpos) σ H Q:=by
 intro ϵ s I;show wpAny_Call_method m.base m.few m.line F.plainAttrs_dict F.slot_dict_pop F.type_dict_pop (υ (h ϵ s I) λu g i=>?_);let#[x,H1,f,rx,a,ex,d,j]:=i;subst ex;obtain rfl:u=Value.ref a:=rx;let#[n,p,_]:=Wr f d;show#[n,p,?_];rw[m.trees];show Calls.callWith_builtin rfl (Calls.evalArgs_plain (Calls.spliced_cons (υ (j ϵ g f) λG J ⟨y,H2,q,ry,Ϸ,k,v,z,B,l,D⟩=>Calls.spliced_nil ?_)));subst B;show acT q z ry l (.inl rfl) λL M E c=>#[v,_,E,c,D]
end _L
namespace _M
open PySem
abbrev SGs:Str:=Ϫ "-0123456789abcdefghijklmnopqrstuvwxyz"
abbrev uw:Str:=Ϫ "abcdefghijklmnopqrstuvwxyz0123456789-"
def SG:List Nat:=SGs.cps.toList
def TS:List Nat:=uw.cps.toList
def Dk:∀c∈SG,c∈TS:=by fin2
def tb:List Nat->List Nat->Bool
 |[],[]=>false
 |[],_::_=>true
 |_::_,[]=>false
 |x::xs,y::ys=>if x=y then tb xs ys else decide (SG.idxOf x<SG.idxOf y)
end _M
namespace _L
open PySem PySem.Spec PyProof.Rows
def Ov{α:Type}{xs:List α}{f:α->V}{i:Int}(d:α)(a:0<=i)(h1:i<xs.length):Θ (xs.map f) i=some (f (xs.getD i.toNat d)):=by
 let e:i=((i.toNat:Nat):Int):=()
 let hl:i.toNat<xs.length:=()
 let h2:(xs.map f)[i.toNat]?=some (f (xs.getD i.toNat d)):=by
  rw[abI,aaj hl];simp[hl]
 have:=ϒ h2;rw[<-e]at this;show this
def S7{α:Type}{xs:List α}{i:Int}(a:0<=i)(h1:i<xs.length):∃v,Θ xs i=some v/\v∈xs:=by
 let hl:i.toNat<xs.length:=()
 let e:i=((i.toNat:Nat):Int):=()
 have:=ϒ (aaj hl);rw[<-e]at this;show#[_,this,aeq hl]
theorem Lj:∀l:List Nat,((l.map λc=>(#[#v[c]]:Str)).map (·.length)).sum=l.length
 |[]=>rfl
 |c::r=>by
  rw[ac2,ac2,ang,Lj r,acj];show 1+r.length=_;omega
theorem Yd:∀l:List Nat,adT ("":Str) (l.map λc=>#[#v[c]])=#[l.toArray]
 |[]=>rfl
 |[c]=>rfl
 |c::d::r=>by
  let a:=Yd (d::r);show(#[#v[c]]:Str)++Ϫ ""++adT ("":Str) ((d::r).map λc=>#[#v[c]])=_;rw[a];let e:("":Str)=#[#v[]]:=by fin2
  rw[e];show(#[(#v[c]++ #v[])++(d::r).toArray]:Str)=#[(c::d::r).toArray];simp
def gb{x y:Str}(h:x.cps.toList=y.cps.toList):x=y:=by
 let#[#[a]]:=x;let#[#[b]]:=y;simp only at h;rw[h]
def bA(x y:Str):(x++y).cps.toList=x.cps.toList++y.cps.toList:=by
 show(x.cps++y.cps).toList=_;simp
def len_list(z:Str):z.length=z.cps.toList.length:=by simp[aqH]
def len_app(x y:Str):(x++y).length=x.length+y.length:=by rw[len_list,bA,abo,len_list,len_list]
def vO(z:Str)(lo hi:Option Int):(ϐ z lo hi).length<=z.length:=by
 unfold ϐ aqH;simp;omega
def Ai(z:Str)(lo hi:Option Int):(ϐ z lo hi).cps.toList=(z.cps.toList.drop (_H.Ζ z.length 0 lo)).take (_H.Ζ z.length z.length hi-_H.Ζ z.length 0 lo):=by
 unfold ϐ;simp
def yq(z:Str)(k:Nat):(ϐ z (some (k:Int)) none).cps.toList=z.cps.toList.drop k:=by
 rw[Ai,_H.lC,_H.qF];let hl:=len_list z;by_cases h:k<=z.length
 .rw[aiz h,ae2 (by rw[adh];omega)]
 .let h':z.length<=k:=()
  rw[aqU h',aqX (),aqX ()];simp
def Am(z:Str)(k:Nat):(ϐ z none (some (k:Int))).cps.toList=z.cps.toList.take k:=by
 rw[Ai,_H.lC,_H.qF,amf,aqF];let hl:=len_list z;by_cases h:k<=z.length
 .rw[aiz h]
 .let h':z.length<=k:=()
  rw[aqU h',ae2 (),ae2 ()]
def Yh(z:Str)(c:Nat):Txt.startswith z #[#v[c]]=decide (z.cps.toList[0]?=some c):=by
 rw[aex,decide_eq_true_eq, <-StrLaws.subAt_one];unfold Txt.startswith
 rw[aaO,decide_eq_true_eq]
end _L
namespace _V
open PySem _L PyProof.Rows _M NumText
def scalar:V->Bool
 |.non|.int _|.str _=>true
 |_=>false
def qQ:V->Bool
 |.int _=>true
 |_=>false
def isNum:V->Bool
 |.int i=>decide (-1000000000000000000<=i/\i<=1000000000000000000)
 |_=>false
def eV(z g:Str):Bool:=z.cps.toList.all λc=>decide (c∈g.cps.toList)
def iz:V->Bool
 |.str z=>decide (z.length<=20)&&eV z uw
 |_=>false
def isVal(kind:Str):V->Bool
 |.non=>true
 |v=>if kind="number" then isNum v else iz v
def before:V->V->Bool
 |_,.non=>false
 |.non,_=>true
 |.int i,.int j=>decide (i<j)
 |.str x,.str y=>decide (x.cps.toList<y.cps.toList)
 |_,_=>false
def short:V->Prop
 |.str z=>z.length<=4000
 |_=>True
inductive V0 (vs:List V) (H:Hp) (Q:VK) (E:XK):Prop
 |mk (v):vs=[v]->scalar v=true->Q (.bl (qQ v)) H->V0 vs H Q E
inductive Ql (vs:List V) (H:Hp) (Q:VK) (E:XK):Prop
 |mk (z g:Str):vs=[.str z,.str g]->z.length<=4000->(∀H',ζ H H'->Q (.bl (eV z g)) H')->Ql vs H Q E
inductive aaB (vs:List V) (H:Hp) (Q:VK) (E:XK):Prop
 |mk (v):vs=[v]->scalar v=true->Q (.bl (isNum v)) H->aaB vs H Q E
inductive Ry (vs:List V) (H:Hp) (Q:VK) (E:XK):Prop
 |mk (v):vs=[v]->scalar v=true->short v->(∀H',ζ H H'->Q (.bl (iz v)) H')->Ry vs H Q E
inductive W2 (vs:List V) (H:Hp) (Q:VK) (E:XK):Prop
 |mk (k:Str) (v:V):vs=[.str k,v]->scalar v=true->short v->(∀H',ζ H H'->Q (.bl (isVal k v)) H')->W2 vs H Q E
inductive Mj (vs:List V) (H:Hp) (Q:VK) (E:XK):Prop
 |mk (x y:V):vs=[x,y]->(x=.non\/y=.non\/(∃i j,x=.int i/\y=.int j)\/∃i j,x=.str i/\y=.str j)->Q (.bl (before x y)) H->Mj vs H Q E
def qI(c:Nat):Bool:=decide (48<=c/\c<=57)
abbrev Hh:Str:=Ϫ "0123456789"
def akc:∀c:Nat,c∈Hh.cps.toList↔(48<=c/\c<=57):=by
 intro c;let e:Hh.cps.toList=[48,49,50,51,52,53,54,55,56,57]:=by fin2
 rw[e];simp only[ϳ,aew,or_false];omega
def adP(z:Str):eV z Hh=z.cps.toList.all qI:=by
 unfold eV qI
 congr 1
 funext c;rw[decide_eq_decide];show akc c
def d7(l:List Nat):Bool:=decide (l=[48])||(decide (l≠[])&&(decide (l[0]? ≠some 48)&&l.all qI))
def qb(l:List Nat):Bool:=if l[0]?=some 45 then decide (l.drop 1≠[48])&&d7 (l.drop 1)else d7 l
def pM(l:List Nat):Int:=if l[0]?=some 45 then -((digitsVal (l.drop 1):Nat):Int)else((digitsVal l:Nat):Int)
def Rm(h:d7 l=true):AllDigits l/\l≠[]:=by
 unfold d7 at h;rw[aoM,aaO,aaO,decide_eq_true_eq,decide_eq_true_eq]at h;obtain h|⟨h1,_,h2⟩:=h
 .subst h;show#[λc a=>by simp at a;omega,by simp]
 .show#[λc a=>of_decide_eq_true (ack.mp h2 c a),h1]
def iu(l:List Nat):Option Int:=if qb l=true/\l.length<=20/\ -1000000000000000000<=pM l/\pM l<=1000000000000000000 then some (pM l)else none
def jo(z:Str):Option Str:=if z.cps.toList[0]?=some 39/\iz (.str (ϐ z (some 1) none))=true then some (ϐ z (some 1) none)else none
def vD:Option Int->Option V
 |some i=>some (.int i)
 |none=>none
def w6:Option Str->Option V
 |some i=>some (.str i)
 |none=>none
def eQ(kind word:Str):Option V:=if word="?" then some .non else if kind="number" then vD (iu word.cps.toList)else w6 (jo word)
def wordOf:V->Str
 |.non=>"?"
 |.str z=>Ϫ "'"++z
 |.int i=>Ϫ (toString i)
 |_=>""
inductive aaJ (vs:List V) (H:Hp) (Q:VK) (E:XK):Prop
 |mk (v):vs=[v]->scalar v=true->short v->(∀i,v=.int i->i.natAbs.log2<1920)->Q (.str (wordOf v)) H->aaJ vs H Q E
inductive Yk (vs:List V) (H:Hp) (Q:VK) (E:XK):Prop
 |mk (z):vs=[.str z]->z.length<=4000->(∀H',ζ H H'->Q (.bl (d7 z.cps.toList)) H')->Yk vs H Q E
def pP(c:ε)(r:Option V)(H:Hp)(Q:VK)(E:XK):=∀H',ζ H H'->match r with
 |some v=>Q v H'
 |none=>E c (none,true) H'
inductive zq (c:ε) (vs:List V) (H:Hp) (Q:VK) (E:XK):Prop
 |mk (z):vs=[.str z]->z.length<=4000->pP c (vD (iu z.cps.toList)) H Q E->zq c vs H Q E
inductive By (c:ε) (vs:List V) (H:Hp) (Q:VK) (E:XK):Prop
 |mk (z):vs=[.str z]->z.length<=4000->pP c (w6 (jo z)) H Q E->By c vs H Q E
inductive BR (c:ε) (vs:List V) (H:Hp) (Q:VK) (E:XK):Prop
 |mk (k) (z):vs=[.str k,.str z]->z.length<=4000->pP c (eQ k z) H Q E->BR c vs H Q E
def bx(n:Nat)(z:Str):Prop:=z.length<=n/\∀c∈z.cps.toList,c<1114112
theorem bx.mono(h:bx n z)(a:n<=m):bx m z:=#[ad8 h.1 a,h.2]
theorem bx.app(h:bx n x)(g:bx m y):bx (n+m) (x++y):=#[by rw[len_app];have:=h.1;have:=g.1;omega,λc a=>by
 rw[bA]at a;obtain z|z:=adb.mp a
 .show h.2 c z
 .show g.2 c z]
def bx.lay(h:bx n z):(PyData.str z).canLay0=true:=by
 show PyData.strOk z=true;unfold PyData.strOk;rw[Array.all_eq_true_iff_forall_mem];intro c a;show decide_eq_true (h.2 c (by simpa using a))
theorem bx.sg(hl:z.length<=n)(h:∀c∈z.cps.toList,c∈SG):bx n z:=#[hl,λc a=>by
 have:∀c∈SG,c<1114112:=by fin2
 show this c (h c a)]
def dV:V->aoW
 |.bl b=>.bool b
 |.int i=>.int i
 |.str x=>.str x
 |_=>.none
def gP:V->Bool
 |.non|.int _|.str _|.bl _=>true
 |_=>false
def HW{K:PySem.W.Frag}{v:V}(h:gP v=true):RD K H v (dV v):=by
 cases v with
 |non=>show .non
 |bl b=>show .bl b
 |int i=>show .int i
 |str x=>show .str x
 |_=>cases h
theorem Ar{K:PySem.W.Frag}:∀{xs:List V},xs.all gP=true->gn K H xs (xs.map dV)
 |[],_=>.nil
 |x::xs,h=>by
  rw[aqR,aaO]at h;show .cons (HW h.1) (Ar h.2)
def kh{i:Int}(h:i.natAbs<10^60):i.natAbs.log2<1920:=by
 by_cases a:i.natAbs=0
 .rw[a];decide
 .rw[Nat.log2_lt a];show acn h ?_;fin2
theorem mJ(m:Nat):(Ϫ (toString ((m:Nat):Int))).cps.toList=(asl 10 m).map Char.toNat:=PySem.W.KIN.signs_num m
def qZ(m:Nat):∀c∈(Ϫ (toString ((m:Nat):Int))).cps.toList,48<=c/\c<=57:=by
 rw[mJ];intro c a;let#[d,hd,rfl]:=aa6.mp a;have:=Nat.isDigit_of_mem_toDigits (b:=10) (n:=m) (by decide) (by decide) hd;simp only[Char.isDigit,aaO,decide_eq_true_eq]at this;let h1:(48:UInt32).toNat<=d.val.toNat:=this.1;let h2:d.val.toNat<=(57:UInt32).toNat:=this.2;show#[h1,h2]
def oO(a:1<=k)(h:m<10^k):(Ϫ (toString ((m:Nat):Int))).length<=k:=by
 rw[_L.len_list,mJ,aaA];show PyProof.Rows.digits10_le a h
def Kq(m:Nat)(h:0<m):Ϫ (toString (-((m:Nat):Int)))=Ϫ "-"++Ϫ (toString ((m:Nat):Int)):=by
 obtain⟨k,rfl⟩:∃k,m=k+1:=#[m-1,()];let e:(-((k+1:Nat):Int))=Int.negSucc k:=rfl;rw[e];apply gb;rw[bA];rw[PyProof.Rows.signs_ofString,PyProof.Rows.signs_ofString,PyProof.Rows.signs_ofString];show(("-"++Nat.repr (k+1)).toList.map Char.toNat)="-".toList.map Char.toNat++(Nat.repr (k+1)).toList.map Char.toNat;rw[String.toList_append,aoR]
end _V
namespace _W
open PySem _L PyProof.Rows _M NumText
def xR(ns:List Int)(k:Int):Int:=if 0<ns.length then ns.getD (k % (ns.length:Int)).toNat 0 else 0
def ϓ(ns:List Int)(k m:Int):Int:=(xR ns k % 1000003+31*k*k+1)*48271 % 999983*7919 % 524287 % m
theorem aN(ns:List Int)(k:Int)(h:0<m):0<=ϓ ns k m:=ahb _ ()
theorem aZ(ns:List Int)(k:Int)(h:0<m):ϓ ns k m<m:=afs _ h
inductive Nv (K:PySem.W.Frag) (vs:List V) (H:Hp) (Q:VK) (E:XK):Prop
 |mk (a:δ) (ns:List Int) (k m:Int):vs=[.ref a,.int k,.int m]->η K H a (ns.map V.int)->ns.length<=63->0<=k->k<=100000->0<m->Q (.int (ϓ ns k m)) H->Nv K vs H Q E
end _W
namespace _V
open PySem _L PyProof.Rows _M NumText
inductive ρ {α β:Type} (R:α->β->Prop):List α->List β->Prop
 |nil:ρ R [] []
 |cons {a:α} {b:β} {l:List α} {m:List β}:R a b->ρ R l m->ρ R (a::l) (b::m)
section
variable{α β:Type}{R S:α->β->Prop}{l l':List α}{m m':List β}
def ρ.len(h:ρ R l m):l.length=m.length:=by
 induction h with
 |nil=>rfl
 |cons _ _ a=>rw[acj,acj,a]
def ρ.imp(f:∀a b,R a b->S a b)(h:ρ R l m):ρ S l m:=by
 induction h with
 |nil=>show .nil
 |cons r _ c=>show .cons (f _ _ r) c
def ρ.get(h:ρ R l m){i:Nat}(e:l[i]?=some a):∃b,m[i]?=some b/\R a b:=by
 induction h generalizing i with
 |nil=>cases e
 |cons r _ c=>
  cases i with
  |zero=>cases e;show#[_,rfl,r]
  |succ i=>show c e
def ρ.get'(h:ρ R l m){i:Nat}(e:m[i]?=some b):∃a,l[i]?=some a/\R a b:=by
 induction h generalizing i with
 |nil=>cases e
 |cons r _ c=>
  cases i with
  |zero=>cases e;show#[_,rfl,r]
  |succ i=>show c e
def ρ.app(h:ρ R l m)(g:ρ R l' m'):ρ R (l++l') (m++m'):=by
 induction h with
 |nil=>show g
 |cons r _ a=>show .cons r a
def ρ.drop(n:Nat)(h:ρ R l m):ρ R (l.drop n) (m.drop n):=by
 induction h generalizing n with
 |nil=>cases n<;>show .nil
 |cons r t a=>
  cases n with
  |zero=>show .cons r t
  |succ n=>show a n
def ρ.take(n:Nat)(h:ρ R l m):ρ R (l.take n) (m.take n):=by
 induction h generalizing n with
 |nil=>cases n<;>show .nil
 |cons r _ a=>
  cases n with
  |zero=>show .nil
  |succ n=>show .cons r (a n)
end
abbrev θ:=Str×Str
def wG(H:Hp)(v:V)(c:θ):=∃t,v=.ref t/\H t=some (.tup [.str c.1,.str c.2])
def wG.same(h:wG H v c)(s:ζ H H'):wG H' v c:=by
 let#[t,e,q]:=h;show#[t,e,s _ _ q]
def Τ(H:Hp)(a:δ)(cs:List θ):=∃vs:List V,H a=some (.lst vs)/\ρ (wG H) vs cs
def Τ.same(h:Τ H a cs)(s:ζ H H'):Τ H' a cs:=by
 let#[vs,e,q]:=h;show#[vs,s _ _ e,q.imp λa b r=>r.same s]
abbrev iT:Str:=Ϫ "abcdefghijklmnopqrstuvwxyz"
def isName(z:Str):Bool:=decide (1<=z.length/\z.length<=8)&&eV z iT
def nY(k:Str):Bool:=decide (k="number"\/k="text")
def Χ(cs:List θ):Bool:=decide (1<=cs.length/\cs.length<=6)&&(cs.all λc=>isName c.1&&nY c.2)&&decide ((cs.map Prod.fst).Nodup)
inductive LQ (vs:List V) (H:Hp) (Q:VK) (E:XK):Prop
 |mk (z):vs=[.str z]->z.length<=4000->(∀H',ζ H H'->Q (.bl (isName z)) H')->LQ vs H Q E
def Hv(cs:List θ):=∀c∈cs,c.1.length<=4000/\c.2.length<=4000
inductive zR (c:ε) (vs:List V) (H:Hp) (Q:VK) (E:XK):Prop
 |mk (a) (cs):vs=[.ref a]->Τ H a cs->cs.length<=4000->Hv cs->(∀H',ζ H H'->if Χ cs=true then Q .non H' else E c (none,true) H')->zR c vs H Q E
def ie:List θ->Str->Nat->V
 |[],_,_=>.non
 |c::r,z,i=>if c.1=z then .int i else ie r z (i+1)
inductive aab (vs:List V) (H:Hp) (Q:VK) (E:XK):Prop
 |mk (a) (cs) (z):vs=[.ref a,.str z]->Τ H a cs->(∀H',ζ H H'->Q (ie cs z 0) H')->aab vs H Q E
def X3:V->Bool
 |.int i=>decide (0<=i/\i<=1000000000)
 |_=>false
inductive WW (vs:List V) (H:Hp) (Q:VK) (E:XK):Prop
 |mk (v):vs=[v]->scalar v=true->Q (.bl (X3 v)) H->WW vs H Q E
def nO:List θ->List V->Bool
 |c::cs,v::vs=>isVal c.2 v&&nO cs vs
 |_,_=>true
def zc(cs:List θ)(v:V)(xs:List V):Bool:=X3 v&&decide (xs.length=cs.length)&&nO cs xs
inductive Z9 (vs:List V) (H:Hp) (Q:VK) (E:XK):Prop
 |mk (a) (cs) (v) (b) (xs):vs=[.ref a,v,.ref b]->Τ H a cs->cs.length<=4000->scalar v=true->H b=some (.lst xs)->(∀x∈xs,scalar x=true/\short x)->(∀H',ζ H H'->Q (.bl (zc cs v xs)) H')->Z9 vs H Q E
theorem Bh:∀{xs:List V},(∀x∈xs,gP x=true/\∀z,x=.str z->bx 4000 z)->(PyData.list (xs.map dV)).canLay0=true
 |[],_=>rfl
 |x::xs,h=>by
  let a:=Bh (xs:=xs) λd hd=>h d (by simp[hd])
  let h1:(dV x).canLay0=true:=by
   let#[hs,c]:=h x (by simp);cases x with
   |str z=>show(c z rfl).lay
   |_=>rfl
  show((dV x).canLay0&&PyData.canLayAll0 (xs.map dV))=true;rw[h1];show a
theorem yg:∀xs:List V,PyData.depthAll (xs.map dV)<=1
 |[]=>by show(0:Nat)<=1;omega
 |x::xs=>by
  let a:=yg xs;let h1:(dV x).depth<=1:=by cases x<;>(show(_:Nat)<=1;show apB rfl)
  show max (dV x).depth (PyData.depthAll (xs.map dV))<=1;omega
def aii(xs:List V)(k:Nat):cN xs none (some (k:Int))=xs.take k:=by
 unfold cN;rw[_H.qF,_H.lC];show((xs.drop 0).take (min k xs.length-0))=_;rw[amf,aqF,List.take_eq_take_iff];omega
def ahq(xs:List V)(k:Nat):cN xs (some (k:Int)) none=xs.drop k:=by
 unfold cN;rw[_H.qF,_H.lC];by_cases h:k<=xs.length
 .rw[show min k xs.length=k from aiz h];show ae2 (by rw[adh];show Ϭ _)
 .rw[show min k xs.length=xs.length from aqU (),ao7 (Ϭ _),ao7 ()];simp
end _V
namespace _V
open PySem _L PyProof.Rows _M NumText
def aO:List Nat->Int
 |[]=>0
 |c::r=>((c:Int)+137*aO r) % 9973
theorem nU:∀l,0<=aO l/\aO l<9973
 |[]=>by decide
 |c::r=>#[ahb _ (by decide),afs _ (by decide)]
def agg(t p y m:Int):(t+p*(y % m)) % m=(t+p*y) % m:=by
 rw[aq5,aq6,aru, <-aq6, <-aq5]
def aju(a b r m:Int):(a % m+b % m*r) % m=(a+b*r) % m:=by
 rw[aq5,aq6,aru,aru, <-aq6, <-aq5]
def Y5(h:(t+p*aO (c::r)) % 9973=v):((t+(c:Int)*p) % 9973+p*137 % 9973*aO r) % 9973=v:=by
 rw[aju, <-h];show _=(t+p*(((c:Int)+137*aO r) % 9973)) % 9973;rw[agg]
 congr 1
 rw[Int.mul_add,Int.mul_comm (c:Int) p,Int.mul_assoc,Int.add_assoc]
def dm(n:Int):Str:=Txt.zfill (Ϫ (toString n)) 4
def FN(l:List Nat):Nat:=l.foldl (λa c=>a*10+(c-48)) 0
def zM(n:Nat):Bool:=decide ((dm n).length=4)&&((dm n).cps.toList.all qI&&decide (FN (dm n).cps.toList=n))
theorem XD(l:List Nat):∀k:Nat,FN (afw k 48++l)=FN l
 |0=>rfl
 |k+1=>by
  rw[aot];show XD l k
def Wc{n:Nat}(h:n<10000):(dm n).cps.toList=afw (4-(Ϫ (toString (n:Int))).length) 48++(Ϫ (toString (n:Int))).cps.toList:=by
 let hd:=qZ n;let hl:=oO (m:=n) (k:=4) (by decide) h;let f:(Ϫ (toString (n:Int))).cps.toList≠[]:=by
  rw[mJ];simp[aqz]
 unfold dm Txt.zfill;generalize Ϫ (toString (n:Int))=x at hd hl f⊢;let i:=_L.len_list x;split
 .rename_i j;have:4-x.length=0:=()
  rw[this];rfl
 .unfold zfilled;let#[c,r,e]:=aqC f;let g:x.cps[0]?=some c:=by rw[<-apW,e];rfl
  let l:=hd c (by rw[e];simp);let p:((4:Int).toNat-x.length)=4-x.length:=rfl;rw[g];split
  .rename_i a;cases a;omega
  .rename_i a;cases a;omega
  .unfold Builtin.Str.padded;simp
def Rv(n:Nat)(h:n<9973):zM n=true:=by
 let hd:=qZ n;let hl:=oO (m:=n) (k:=4) (by decide) ();let e:=Wc (n:=n) ();let f:=_L.len_list (Ϫ (toString (n:Int)));unfold zM;rw[_L.len_list,e,XD,abo,apL,decide_eq_true (),alm,aaO,ack,decide_eq_true_eq];show#[λc a=>?_,?_]
 .obtain z|z:=adb.mp a
  .have :=aqL z;subst this;rfl
  .show decide_eq_true (hd c z)
 .rw[mJ];show PySem.W.KIN.val_back n
inductive Qt (vs:List V) (H:Hp) (Q:VK) (E:XK):Prop
 |mk (z):vs=[.str z]->z.length<=100000->(∀c∈z.cps.toList,c<1114112)->Q (.int (aO z.cps.toList)) H->Qt vs H Q E
inductive VL (vs:List V) (H:Hp) (Q:VK) (E:XK):Prop
 |mk (z):vs=[.str z]->z.length<=100000->(∀c∈z.cps.toList,c<1114112)->Q (.str (dm (aO z.cps.toList))) H->VL vs H Q E
theorem Wx:∀(r:List Nat)(a:Nat),a*10^r.length<=r.foldl (λe c=>e*10+(c-48)) a
 |[],a=>by simp
 |c::r,a=>by
  let f:=Wx r (a*10+(c-48));rw[aiw,acj,Nat.pow_succ];show ad8 ?_ f;let h1:a*(10^r.length*10)=a*10*10^r.length:=by rw[asj (10^r.length) 10,Nat.mul_assoc]
  rw[h1];show ari _ (ajF _ _)
def QK(h:d7 l=true)(h1:l≠[48]):10^(l.length-1)<=digitsVal l:=by
 let#[hd,a]:=Rm h;cases l with
 |nil=>show absurd rfl a
 |cons c r=>
  let g:=hd c ac3;let f:c≠48:=by
   intro e;subst e;unfold d7 at h;rw[decide_eq_false h1,aqS]at h;simp at h
  have:=Wx r (0*10+(c-48));let i:1*10^r.length<=(0*10+(c-48))*10^r.length:=ari _ ();unfold digitsVal;rw[aiw];show 10^r.length<=_;omega
def Gy(h:d7 l=true)(f:((digitsVal l:Nat):Int)<=m)(g:m<((10^k:Nat):Int))(h1:1<=k):l.length<=k:=by
 by_cases e:l=[48]
 .subst e;show h1
 .let h2:=QK h e;let c:10^(l.length-1)<10^k:=()
  let i:=(Nat.pow_lt_pow_iff_right (a:=10) (by decide)).mp c;omega
def Xl(h:d7 l=true):digitsVal l=0↔l=[48]:=by
 constructor
 .intro e;show Classical.byContradiction λn=>?_
  let h2:=QK h n;let a:0<10^(l.length-1):=Nat.pow_pos (by decide);omega
 .intro e;subst e;rfl
def ik(l:List Nat)(m:Int):Option Int:=if d7 l=true/\((digitsVal l:Nat):Int)<=m then some ((digitsVal l:Nat):Int)else none
def Hs:Option Int->V
 |none=>.non
 |some i=>.int i
inductive Vy (vs:List V) (H:Hp) (Q:VK) (E:XK):Prop
 |mk (z:Str) (m:Int) (k:Nat):vs=[.str z,.int m]->z.length<=4000->0<=m->m.natAbs<10^60->(Ϫ (toString m)).length=k->m<((10^k:Nat):Int)->1<=k->k<=600->(∀H',ζ H H'->Q (Hs (ik z.cps.toList m)) H')->Vy vs H Q E
def Mq(a:¬l[0]?=some 45):iu l=ik l 1000000000000000000:=by
 unfold iu ik qb pM;rw[if_neg a,if_neg a];by_cases h:d7 l=true/\((digitsVal l:Nat):Int)<=1000000000000000000
 .have :=Gy (k:=19) h.1 h.2 (by decide) (by decide);rw[if_pos h,if_pos #[h.1,(),(),h.2]]
 .rw[if_neg h,if_neg λx=>h #[x.1,x.2.2.2]]
theorem acw{l:List Nat}(a:l[0]?=some 45):iu l=match ik (l.drop 1) 1000000000000000000 with
  |some i=>if i=0 then none else some (-i)
  |none=>none:=by
 unfold iu ik qb pM;rw[if_pos a,if_pos a];let hl:l.length=(l.drop 1).length+1:=by
  cases l with
  |nil=>simp at a
  |cons c r=>simp
 rw[hl];generalize l.drop 1=r;by_cases h:d7 r=true/\((digitsVal r:Nat):Int)<=1000000000000000000
 .let h2:=Gy (k:=19) h.1 h.2 (by decide) (by decide);let g:=Xl h.1;rw[if_pos h];show _=if((digitsVal r:Nat):Int)=0 then none else some (-((digitsVal r:Nat):Int));by_cases e:r=[48]
  .let f:((digitsVal r:Nat):Int)=0:=by have:=g.mpr e;omega
   rw[if_pos f];show if_neg λx=>?_
   rw[aaO,decide_eq_true_eq]at x;show x.1.1 e
  .let f:¬((digitsVal r:Nat):Int)=0:=λz=>e (g.mp ())
   rw[if_neg f];show if_pos #[by rw[decide_eq_true e,h.1];rfl,(),(),()]
 .rw[if_neg h];show if_neg λx=>?_
  rw[aaO]at x;show h #[x.1.2,()]
end _V
namespace _V
open PySem _L PyProof.Rows _M NumText
end _V
namespace _V
open PySem _L PyProof.Rows _M NumText
abbrev Ord:=Str×Bool
def uK(H:Hp)(v:V)(o:Ord):=∃t,v=.ref t/\H t=some (.tup [.str o.1,.bl o.2])
def uK.same(h:uK H v o)(s:ζ H H'):uK H' v o:=by
 let#[t,e,q]:=h;show#[t,e,s _ _ q]
def ϥ(H:Hp)(a:δ)(os:List Ord):=∃vs:List V,H a=some (.lst vs)/\ρ (uK H) vs os
def ϥ.same{a:δ}{os:List Ord}(h:ϥ H a os)(s:ζ H H'):ϥ H' a os:=by
 let#[vs,e,q]:=h;show#[vs,s _ _ e,q.imp λa b r=>r.same s]
def jK{α β:Type}(f:α->Option β):List α->Option (List β)
 |[]=>some []
 |x::r=>match f x,jK f r with
  |some y,some ys=>some (y::ys)
  |_,_=>none
theorem Mf{α β:Type}{f:α->Option β}:∀{l:List α}{x:α},x∈l->f x=none->jK f l=none
 |y::r,x,h,e=>by
  unfold jK;obtain z|z:=ϳ.mp h
  .subst z;rw[e]
  .rw[Mf z e];cases f y<;>rfl
 |[],x,h,_=>by simp at h
theorem YW{α β:Type}{f:α->Option β}:∀{l:List α}{m:List β},l.length=m.length->(∀(i:Nat) x y,l[i]?=some x->m[i]?=some y->f x=some y)->jK f l=some m
 |[],[],_,_=>rfl
 |x::l,y::m,hl,h=>by
  let h1:=h 0 x y rfl rfl;let h2:=YW (l:=l) (m:=m) (by simpa using hl) λi x y e1 a=>h (i+1) x y (by simpa using e1) (by simpa using a)
  unfold jK;rw[h1,h2]
 |[],_::_,hl,_=>by simp at hl
 |_::_,[],hl,_=>by simp at hl
theorem Z6{α β:Type}{f:α->Option β}{R:V->β->Prop}:∀{ws:List α}{xs:List V},xs.length=ws.length->(∀(i:Nat) v,xs[i]?=some v->∃z,ws[i]?=some z/\∃b,f z=some b/\R v b)->∃bs,jK f ws=some bs/\ρ R xs bs
 |[],[],_,_=>#[[],rfl,.nil]
 |w::ws,x::xs,hl,h=>by
  let#[z,e1,b,c,r]:=h 0 x rfl;let a:w=z:=by simpa using e1
  subst a;let#[bs,g,t]:=Z6 (ws:=ws) (xs:=xs) (by simpa using hl) λi v e=>by simpa using h (i+1) v (by simpa using e)
  show#[b::bs,?_,.cons r t];unfold jK;rw[c,g]
 |[],_::_,hl,_=>by simp at hl
 |_::_,[],hl,_=>by simp at hl
def iD(cs:List θ)(z:Str):Option Ord:=
 if(z.cps.toList[0]?=some 43\/z.cps.toList[0]?=some 45)/\ie cs (ϐ z (some 1) none) 0≠.non then some (ϐ z (some 1) none,decide (z.cps.toList[0]?=some 43))else none
def jb(cs:List θ)(z:Str):Option (List Ord):=
 if z="" then some []else if 4<(Ϗ 32 z).length then none else match jK (iD cs) (Ϗ 32 z)with
  |none=>none
  |some os=>if(os.map Prod.fst).Nodup then some os else none
inductive xj (c:ε) (vs:List V) (H:Hp) (Q:VK) (E:XK):Prop
 |mk (a) (cs) (z):vs=[.ref a,.str z]->Τ H a cs->z.length<=4000->(∀H',ζ H H'->iD cs z=none->E c (none,true) H')->(∀p o H',ζ H H'->iD cs z=some o->H' p=some (.tup [.str o.1,.bl o.2])->Q (.ref p) H')->xj c vs H Q E
inductive yp (c:ε) (vs:List V) (H:Hp) (Q:VK) (E:XK):Prop
 |mk (a) (cs) (z):vs=[.ref a,.str z]->Τ H a cs->z.length<=4000->(∀H',ζ H H'->jb cs z=none->E c (none,true) H')->(∀p os H',ζ H H'->jb cs z=some os->H p=none->ϥ H' p os->Q (.ref p) H')->yp c vs H Q E
def Ϛ(o:Ord):Str:=(if o.2=true then Ϫ "+" else Ϫ "-")++o.1
def bK(os:List Ord):Str:=adT " " (os.map Ϛ)
inductive Ht (vs:List V) (H:Hp) (Q:VK) (E:XK):Prop
 |mk (a) (os):vs=[.ref a]->ϥ H a os->os.length<=4000->(∀o∈os,o.1.length<=1000)->(∀H',ζ H H'->Q (.str (bK os)) H')->Ht vs H Q E
def aax(c:Nat)(z:Str):(Ϗ c z).length<=z.length+1:=by
 let h1:=Df c z.cps.toList;unfold Ϗ;rw[aaA];let h2:z.cps.toList.length=z.length:=rfl;omega
def abd{c:Nat}{z y:Str}(h:y∈Ϗ c z):y.length<=z.length:=by
 let i:∀(l:List Nat) p,p∈cutAt c l->p.length<=l.length:=by
  intro l;induction l with
  |nil=>intro p f;have:p=[]:=by simpa [cutAt]using f
        subst this;simp
  |cons x r g=>
   intro p f;unfold cutAt at f;split at f
   .obtain z|z:=ϳ.mp f
    .subst z;simp
    .have :=g p z;simp;omega
   .split at f
    .have :p=[x]:=by simpa using f
     subst this;simp
    .rename_i a t e;rw[e]at g;obtain z|z:=ϳ.mp f
     .subst z;have:=g a (by simp);simp;omega
     .have :=g p (by simp[z]);simp;omega
 unfold Ϗ at h;let#[l,hl,rfl]:=aa6.mp h;have:=i _ l hl;let h2:z.cps.toList.length=z.length:=rfl;show l.toArray.size<=_;simp;omega
end _V
namespace _V
open PySem _L PyProof.Rows _M NumText
def ϋ:List θ->Str->Nat
 |[],_=>0
 |c::r,z=>if c.1=z then 0 else ϋ r z+1
theorem rH:∀{cs:List θ}{z:Str},(∃c∈cs,c.1=z)->ϋ cs z<cs.length
 |[],_,h=>by let#[c,a,_]:=h;simp at a
 |d::r,z,h=>by
  unfold ϋ;split
  .simp
  .rename_i hd;have:=rH (cs:=r) (z:=z) (by
    let#[c,a,e]:=h;obtain x|x:=ϳ.mp a
    .subst x;show absurd e hd
    .show#[c,x,e])
   simp;omega
theorem vf:∀{cs:List θ}{z:Str}(i:Nat),(∃c∈cs,c.1=z)->ie cs z i=.int ((i+ϋ cs z:Nat):Int)
 |[],_,_,h=>by let#[c,a,_]:=h;simp at a
 |d::r,z,i,h=>by
  unfold ie ϋ;split
  .rfl
  .rename_i hd;rw[vf (i+1) (by
    let#[c,a,e]:=h;obtain x|x:=ϳ.mp a
    .subst x;show absurd e hd
    .show#[c,x,e])]
   congr 2
   omega
theorem G3:∀{cs:List θ}{z:Str},(∃c∈cs,c.1=z)->∃c,cs[ϋ cs z]?=some c/\c.1=z
 |[],_,h=>by let#[c,a,_]:=h;simp at a
 |d::r,z,h=>by
  unfold ϋ;split
  .rename_i e;show#[d,rfl,e]
  .rename_i hd;let#[c,h1,h2]:=G3 (cs:=r) (z:=z) (by
    let#[c,a,e]:=h;obtain x|x:=ϳ.mp a
    .subst x;show absurd e hd
    .show#[c,x,e])
   show#[c,by simpa using h1,h2]
def bW(cs:List θ)(xs:List V)(z:Str):V:=(xs[ϋ cs z]?).getD .non
def Ν(cs:List θ)(os:List Ord)(xs:List V):List V:=os.map λo=>bW cs xs o.1
theorem ajr(cs:List θ)(os:List Ord)(xs:List V):(Ν cs os xs).length=os.length:=aaA ..
def c7(cs:List θ)(os:List Ord):=∀o∈os,∃c∈cs,c.1=o.1
inductive Tw (vs:List V) (H:Hp) (Q:VK) (E:XK):Prop
 |mk (a) (b) (n) (c) (cs) (os) (xs):vs=[.ref a,.ref b,.int n,.ref c]->Τ H a cs->ϥ H b os->H c=some (.lst xs)->xs.length=cs.length->cs.length<=4000->os.length<=4000->c7 cs os->(∀p l H',ζ H H'->H p=none->H l=none->H' l=some (.lst (Ν cs os xs))->H' p=some (.tup [.ref l,.int n])->Q (.ref p) H')->Tw vs H Q E
def aF(x y:V):Prop:=x=.non\/y=.non\/(∃i j,x=.int i/\y=.int j)\/∃i j,x=.str i/\y=.str j
def xF(a:scalar x=true)(c:scalar y=true):wL x y=true:=by
 cases x<;>cases y<;>first|rfl|(show absurd a aaF)|(show absurd c aaF)
def ϣ:List Ord->List V->List V->Int->Int->Bool
 |o::os,x::xs,y::ys,n,k=>if x=y then ϣ os xs ys n k else decide (before x y=o.2)
 |_,_,_,n,k=>decide (n<k)
def jh(H:Hp)(p:δ)(xs:List V)(n:Int):=∃l,H p=some (.tup [.ref l,.int n])/\H l=some (.lst xs)
def jh.same(h:jh H p xs n)(s:ζ H H'):jh H' p xs n:=by
 let#[l,h1,h2]:=h;show#[l,s _ _ h1,s _ _ h2]
inductive Rp (vs:List V) (H:Hp) (Q:VK) (E:XK):Prop
 |mk (b) (p) (q) (os) (xs) (ys) (n) (k):vs=[.ref b,.ref p,.ref q]->ϥ H b os->jh H p xs n->jh H q ys k->xs.length=os.length->ys.length=os.length->(∀(i:Nat) x y,xs[i]?=some x->ys[i]?=some y->scalar x=true/\scalar y=true/\aF x y)->(∀H',ζ H H'->Q (.bl (ϣ os xs ys n k)) H')->Rp vs H Q E
theorem K8:∀{i:Nat}{os:List Ord}{xs ys:List V}{n k:Int},xs.length=os.length->ys.length=os.length->i<=os.length->(∀j x y,j<i->xs[j]?=some x->ys[j]?=some y->x=y)->ϣ os xs ys n k=ϣ (os.drop i) (xs.drop i) (ys.drop i) n k
 |0,_,_,_,_,_,_,_,_,_=>rfl
 |i+1,[],[],[],_,_,_,_,hi,_=>by simp at hi
 |i+1,o::os,x::xs,y::ys,n,k,h1,h2,hi,h=>by
  show(if x=y then ϣ os xs ys n k else decide (before x y=o.2))=_;rw[if_pos (h 0 x y () rfl rfl)];show K8 (by simpa using h1) (by simpa using h2) (by simpa using hi) λj x y c e1 a=>h (j+1) x y () (by simpa using e1) (by simpa using a)
 |i+1,[],_::_,_,_,_,h1,_,_,_=>by simp at h1
 |i+1,[],[],_::_,_,_,_,h2,_,_=>by simp at h2
 |i+1,_::_,[],_,_,_,h1,_,_,_=>by simp at h1
 |i+1,_::_,_::_,[],_,_,_,h2,_,_=>by simp at h2
def Aa{α:Type}{l:List α}{x:α}(h:l[i]?=some x):l.drop i=x::l.drop (i+1):=by
 let#[hi,e]:=aat.mp h;rw[<-e];show aeQ hi
def Pq{i:Nat}{os:List Ord}{n k:Int}{o:Ord}{x y:V}(h1:xs.length=os.length)(h2:ys.length=os.length)(a:os[i]?=some o)(c:xs[i]?=some x)(e:ys[i]?=some y)(h:∀j x y,j<i->xs[j]?=some x->ys[j]?=some y->x=y)(f:¬x=y):ϣ os xs ys n k=decide (before x y=o.2):=by
 let hi:=(aat.mp a).1;rw[K8 h1 h2 () h,Aa a,Aa c,Aa e];show(if x=y then _ else _)=_;rw[if_neg f]
def Su{os:List Ord}{n k:Int}(h1:xs.length=os.length)(h2:ys.length=os.length)(h:∀j x y,j<os.length->xs[j]?=some x->ys[j]?=some y->x=y):ϣ os xs ys n k=decide (n<k):=by
 rw[K8 h1 h2 (Ϭ _) h,aqb];rfl
end _V
namespace _V
open PySem _L PyProof.Rows _M NumText
def En(m:Nat):d7 (Ϫ (toString ((m:Nat):Int))).cps.toList=true/\digitsVal (Ϫ (toString ((m:Nat):Int))).cps.toList=m:=by
 let hd:AllDigits (Ϫ (toString ((m:Nat):Int))).cps.toList:=qZ m;let f:digitsVal (Ϫ (toString ((m:Nat):Int))).cps.toList=m:=by rw[mJ];show PySem.W.KIN.val_back m
 show#[?_,f];let i:(Ϫ (toString ((m:Nat):Int))).cps.toList≠[]:=by rw[mJ];simp[aqz]
 let a:=toDigits_all _ hd;rw[f]at a;let e:=mJ m;generalize(Ϫ (toString ((m:Nat):Int))).cps.toList=l at *;let hl:l.length=(asl 10 m).length:=by rw[e,aaA]
 unfold d7;rw[aoM,aaO,aaO,decide_eq_true_eq,decide_eq_true_eq,decide_eq_true_eq];cases l with
 |nil=>show absurd rfl i
 |cons c r=>
  by_cases g:c=48
  .subst g;left;rw[List.dropWhile_cons,if_pos (by decide)]at a;cases q:r.dropWhile (· ==48)with
   |nil=>
    rw[q]at a;rw[a]at hl;have:r=[]:=by cases r with
     |nil=>rfl
     |cons _ _=>simp at hl
    rw[this]
   |cons d t=>
    rw[q]at a;rw[a,aaA, <-q]at hl;have:=(List.dropWhile_sublist (p:=λx:Nat=>x==48) (l:=r)).length_le;rw[acj]at hl;omega
  .right;show#[by simp,by simpa using g,?_];rw[ack];show λx j=>decide_eq_true (hd x j)
def aku(h1: -1000000000000000000<=i)(h2:i<=1000000000000000000):iu (Ϫ (toString i)).cps.toList=some i:=by
 by_cases f:0<=i
 .let#[m,rfl]:=aa7 f;let#[a,b]:=En m;let hd:=qZ m;let g:¬(Ϫ (toString ((m:Nat):Int))).cps.toList[0]?=some 45:=λe=>by
   have:=hd 45 (aaD e);omega
  let e:=Mq g;unfold ik at e;rw[a,b,if_pos #[rfl,()]]at e;show e
 .obtain⟨m,j,rfl⟩:∃m:Nat,0<m/\i= -((m:Nat):Int):=#[i.natAbs,(),()];let#[a,b]:=En m;let hl:=oO (m:=m) (k:=19) (by decide) ();let e:(Ϫ (toString (-((m:Nat):Int)))).cps.toList=45::(Ϫ (toString ((m:Nat):Int))).cps.toList:=by
   rw[Kq m j,bA];have:("-":Str).cps.toList=[45]:=by fin2
   rw[this];rfl
  let c:=Xl a;rw[b]at c;rw[_L.len_list]at hl;rw[e];generalize(Ϫ (toString ((m:Nat):Int))).cps.toList=l at a b c hl⊢;let n:l≠[48]:=λq=>by have:=c.mpr q;omega
  let p:qb (45::l)=true:=by
   unfold qb;rw[if_pos (show(45::l)[0]?=some 45 from rfl)];show(decide (l≠[48])&&d7 l)=true;rw[a,decide_eq_true n];rfl
  let s:pM (45::l)= -((m:Nat):Int):=by
   unfold pM;rw[if_pos (show(45::l)[0]?=some 45 from rfl)];show -((digitsVal l:Nat):Int)=_;rw[b]
  unfold iu;rw[p,s,if_pos #[rfl,by rw[acj];omega,h1,h2]]
def yO(i:Int):∀c∈(Ϫ (toString i)).cps.toList,c=45\/(48<=c/\c<=57):=by
 intro c a;by_cases e:0<=i
 .let#[m,rfl]:=aa7 e;show .inr (qZ m c a)
 .obtain⟨m,f,rfl⟩:∃m:Nat,0<m/\i= -((m:Nat):Int):=#[i.natAbs,(),()];rw[Kq m f,bA]at a;obtain h|h:=adb.mp a
  .left;have:("-":Str).cps.toList=[45]:=by fin2
   rw[this]at h;simpa using h
  .show .inr (qZ m c h)
def zj{i:Int}(h:i.natAbs<10^k)(a:1<=k:=by decide):(Ϫ (toString i)).length<=k+1:=by
 by_cases c:0<=i
 .let#[m,rfl]:=aa7 c;have:=oO (m:=m) (k:=k) a (by simpa using h);omega
 .obtain⟨m,f,rfl⟩:∃m:Nat,0<m/\i= -((m:Nat):Int):=#[i.natAbs,(),()];have:=oO (m:=m) (k:=k) a (by simpa using h);let e:("-":Str).length=1:=by fin2
  rw[Kq m f,len_app,e];omega
def Sv:("?":Str).cps.toList=[63]:=by fin2
def BW:("'":Str).cps.toList=[39]:=by fin2
def amc(h1: -1000000000000000000<=i)(h2:i<=1000000000000000000):eQ "number" (wordOf (.int i))=some (.int i):=by
 let a:¬wordOf (.int i)="?":=λe=>by
  let h:63∈(Ϫ (toString i)).cps.toList:=by
   let c:Ϫ (toString i)=Ϫ "?":=e;rw[c,Sv];simp
  have:=yO i 63 h;omega
 unfold eQ;rw[if_neg a,if_pos rfl];show vD (iu (Ϫ (toString i)).cps.toList)=_;rw[aku h1 h2];rfl
def ai6(hl:z.length<=20)(h:∀c∈z.cps.toList,c∈SG):iz (.str z)=true:=by
 show(decide (z.length<=20)&&eV z uw)=true;rw[decide_eq_true hl,alm];unfold eV;rw[ack];show λc a=>decide_eq_true (Dk c (h c a))
def ajY(z:Str):ϐ (Ϫ "'"++z) (some 1) none=z:=by
 apply gb;have:=yq (Ϫ "'"++z) 1;rw[show((1:Nat):Int)=1 from rfl]at this;rw[this,bA,BW];rfl
def aie:¬(("text":Str)="number"):=by fin2
def aiI(hl:z.length<=20)(h:∀c∈z.cps.toList,c∈SG):eQ "text" (wordOf (.str z))=some (.str z):=by
 let e:wordOf (.str z)=Ϫ "'"++z:=rfl;let a:(Ϫ "'"++z).cps.toList[0]?=some 39:=by rw[bA,BW];rfl
 let f:¬Ϫ "'"++z="?":=λe=>by
  let g:Ϫ "'"++z=Ϫ "?":=e;rw[g,Sv]at a;simp at a
 rw[e];unfold eQ;rw[if_neg f,if_neg aie];unfold jo;rw[ajY,if_pos #[a,ai6 hl h]];rfl
def xx(h:ps≠[])(a:∀p∈ps,32∉p.cps.toList):Ϗ 32 (adT " " ps)=ps:=by
 unfold Ϗ;let e:(adT " " ps).cps.toList=gA 32 (ps.map λp=>p.cps.toList):=tM 32 ps;rw[e,zy (by simpa using h) λp c=>?_,aep]
 .have :((λl:List Nat=>(#[l.toArray]:Str))∘λp:Str=>p.cps.toList)=id:=by
   funext p;rfl
  rw[this,aqT]
 .let#[q,f,rfl]:=aa6.mp c;show a q f
def amb(z:Str):adT " " (Ϗ 32 z)=z:=by
 apply gb;let e:(adT " " (Ϗ 32 z)).cps.toList=gA 32 ((Ϗ 32 z).map λp=>p.cps.toList):=tM 32 _;rw[e];unfold Ϗ;rw[aep];have:((λp:Str=>p.cps.toList)∘λl:List Nat=>(#[l.toArray]:Str))=id:=by
  funext p;rfl
 rw[this,aqT,YH]
theorem R6(x:Nat):∀(k:Nat)(a:Array Nat),((afw k #v[x]).foldl (· ++ ·) a).toList=a.toList++afw k x
 |0,a=>by simp
 |k+1,a=>by
  rw[aot,aiw,R6 x k,aot];simp
def ae6(x:Nat)(n:Int)(h:0<=n):(sW (#[#v[x]]:Str) n).cps.toList=afw n.toNat x:=by
 show((afw n.toNat #v[x]).foldl (· ++ ·) #v[]).toList=_;rw[R6];simp
end _V
namespace _L
open PySem PySem.Spec PyProof.Rows PySem.W
section
variable{X:Cx}{σ:St}{H:Hp}{Q:VK}{a:δ}
def gO{α:Type}(xs:List α)(k:Nat)(y:α):List α:=xs.take k++y::xs.drop k
def ac5:V->List V->Hp->VK->Prop:=λx vs H Q=>∃l xs k y,x=.ref l/\vs=[.int (k:Nat),y]/\H l=some (.lst xs)/\k<=xs.length/\xs.length<ϯ/\Q .non (upd H l (.lst (gO xs k y)))
def Z8:HR X "list.insert" ac5:=by
 intro ϵ s σ H x vs v us Q I rx g h;let#[l,xs,k,y,rfl,rfl,f,B,D,q]:=h;cases rx;let#[E,u,rfl,c,j]:=g.two;let#[t,rfl]:=c;let hsz:=ϰ;let#[z,a,n,r,hl,e]:=I.lstM f;obtain⟨i,hi⟩:∃i:Int,i=(k:Int):=#[_,rfl];rw[<-hi];let m:Builtin.List.listFitsIndex i=true:=fitsIndex_both () ();let p:=PySem.AutoSeq1.list_insert_list_int_val_1 l a.toArray n i t u (by rw[m];decide) (by rw[aaR];omega);show ana F.slot_list_insert #[_,e,rfl] F.entry_list_insert (F.args_list_insert_3 (.ref l) (.int i t) u) p #[e,?_];show#[.non,_,I.lset (its':=gO a k u) f e ?_ ((r.take k).append (.cons j (r.drop k))) ?_,rfl,q]
 .show(a.toArray.extract 0 (if i<0 then(i+(a.toArray.size:Int)).toNat else min i.toNat a.toArray.size)).push u++a.toArray.extract (if i<0 then(i+(a.toArray.size:Int)).toNat else min i.toNat a.toArray.size)=(gO a k u).toArray;rw[if_neg (),hi,apa,aaR,aiz ()];unfold gO;apply arP.mp;simp;rw[ae2 (by rw[adh];omega)]
 .rw[abo,acj,adg,adh];omega
def ad7(a:b≠d)(e:h.get? b=some o):(sortedHeap h d vs out).get? b=some o:=by
 unfold sortedHeap;rw[acB _ _ (Ne.symm a)];show ϴ _ (ϴ _ ((acB _ _ (Ne.symm a)).trans e))
def amJ{d:δ}{us vs:List ε}{out:Array ε}{n:Nat}(e:h.get? d=some (seqObj "list" us.toArray n)):∃c,(sortedHeap h d vs out).get? d=some (seqObj "list" out c):=by
 unfold sortedHeap;let h1:=get?_update_seq e (λ_=>(#v[]:Array ε));let h2:=ϴ (seqObj "tuple" vs.toArray 0) h1;let a:=ϴ (seqObj "list" #v[] 0) h2;show#[_,get?_update_seq a (λ_=>out)]
def aeN(h:IntsAre vs ns):Vals (ns.map V.int) vs:=by
 induction h with
 |nil=>show .nil
 |cons n t _ a=>show .cons #[t,rfl] a
def al5:∀{vs:List ε},vs.length=ks.length->(∀(j:Nat) v,vs[j]?=some v->∃i t,ks[j]?=some i/\v=Value.int i t)->IntsAre vs ks:=by
 induction ks with
 |nil=>intro vs h _;have:vs=[]:=by simpa using h
       subst this;show .nil
 |cons k ks a=>
  intro vs h g;cases vs with
  |nil=>simp at h
  |cons v vs=>
   let#[i,t,e,rfl]:=g 0 v rfl;have:k=i:=by simpa using e
   subst this;show .cons k t (a (by simpa using h) λj v e=>by simpa using g (j+1) v (by simpa using e))
def alj(l:KdlSrc prog w ty q d n j Ok)(z:A.handled=none)(x:Ok s.heap)(B:n<=ϯ)(g:∀(h2:ϫ)(k:Nat)(xs:Array ε),s.heap.objs.size<h2.objs.size->(∀b o,s.heap.get? b=some o->h2.get? b=some o)->ItemsOf j xs n->R xs.toList {s with heap:=h2,toks:=k}):ν (ϩ prog w) A (collect (.ref q)) R E s:=by
 let#[D,G]:=l.there _ x
 let' N:δ:=s.heap.objs.size
 let' Rz:Result->μ->Prop:=λr s2=>∃(h2:ϫ)(k:Nat)(xs:Array ε)(c:Nat),r=.ok (.ret (.ref N))/\s2={s with heap:=h2,toks:=k}/\(∀b o,s.heap.get? b=some o->h2.get? b=some o)/\h2.get? N=some {cls:=.type "list",dict:=none,data:=.seq xs c,slots:= #v[]}/\ItemsOf j xs n
 let fin:∀s2:μ,Rz (.ok (.ret (.ref N))) s2->ν (ϩ prog w) A (do
   let o<-load N
   match o.data with
   |.seq xs _=>pure xs.toList
   |_=>unsupported "internal:collect") R E s2:=by
  rintro s2 ⟨h2,k,xs,c, -,rfl,p,i,u⟩
  show Ϧ (wpAny_load i (ϱ (g h2 k xs (abQ i) p u)))
 let H:(s.heap.push {cls:=.type "list",data:=.seq ([]:List ε).toArray}).get? N=some {cls:=.type "list",data:=.seq #v[]}:=aaT _ rfl;let v:Ok (s.heap.push {cls:=.type "list",data:=.seq ([]:List ε).toArray}):=l.keep _ _ x λ_ _ _ e=>ϴ _ e
 let run:=kdl_extend (A:=A) (s:={s with heap:=s.heap.push {cls:=.type "list",data:=.seq ([]:List ε).toArray}}) (R:=Rz) l z v N (amA D) (amA G) (.ref N) 0 H
  (λh2 k xs c p i u=>#[h2,k,xs,c,rfl,rfl,λb o e=>p b o (acE (abQ e)) (ϴ _ e),i,u]) B
 unfold collect;show Ϧ (wpAny_runValue (aon entry_proto_collect' ?_));rw[Around.under_plainId F.plain_proto_collect];show Ϧ (m:=newList []) (aiN (ϱ #[plainId_quiet F.plain_list_iadd _,aon entry_list_iadd' ?_]));rw[Around.under_plainId F.plain_list_iadd];show adt (t:=Builtin.List.listExtendWith (.ref N) (.ref q) (.ref N)) run (λr s2 a=>?_) λe s2 a=>?_
 .cases r with
  |done f=>
   let#[h2,k,xs,c,e,rest]:=id a;cases e;show fin s2 a
  |again c=>
   show#[a.1,aks a.2 λL I y=>?_];let#[h2,k,xs,c2,e,rest]:=id y;subst e;show fin I y
 .let#[_,_,_,_,J,_]:=a;cases J
def alz{ks:List Int}(U:X.calm=true)(e:H a=some (.dK Ϸ))(G:Ϸ.map (·.1)=ks.map Sum.inl)(D:ks.length<64)(g:∀(p:δ)(ks':List Int),H p=none->ks'.Perm ks->ks'.Pairwise (· <= ·)->Q (.ref p) (upd H p (.lst (ks'.map V.int)))):CL X (.builtin "sorted") [.ref a] H Q:=by
 show fM (r:=λxs H Q=>∃(a:δ)(Ϸ:List (Key×V))(ks:List Int),xs=[.ref a]/\H a=some (.dK Ϸ)/\Ϸ.map (·.1)=ks.map Sum.inl/\ks.length<64/\∀(p:δ)(ks':List Int),H p=none->ks'.Perm ks->ks'.Pairwise (· <= ·)->Q (.ref p) (upd H p (.lst (ks'.map V.int)))) ?_ #[a,Ϸ,ks,rfl,e,G,D,g];intro ϵ s σ H xs us Q I r h;let#[a,Ϸ,ks,rfl,e,G,D,g]:=h;let#[u,rfl,W]:=vals1 r;cases W;let hsz:=ϰ;let#[z,lo,vs,R,hd]:=wz I.hok e;let#[ep,Y]:=hd.dictAt;let Z:Ϸ.length=ks.length:=by have:=congrArg aoo G;simpa using this
 let hvl:=R.length;let L:vs.map (·.1)=ks.map Sum.inl:=by rw[<-R.keys];show G
 show Calls.call_function_entry kind_sorted plain_sorted entry_sorted (args_sorted1 _) ?_;unfold Builtin.«sorted»;show Ϧ (m:=checkCount "sorted" 1 1 _) (ϱ ?_);show Ϧ (alj (A:=X.A.in1) (kdl_dict lo) (I.ok.hd U) Y () λh' tk f M n l=>?_);let hal:f.toList.length=vs.length:=by rw[ajb];show l.1
 let hI:IntsAre f.toList ks:=by
  show al5 () λj v ev=>?_
  let#[k,x,e1,e2]:=l.2 j v (by rw[<-apW];show ev);let E:(vs.map (·.1))[j]?=some k:=by rw[abI,e1];rfl
  rw[L,abI]at E;cases e4:ks[j]? with
  |none=>rw[e4]at E;cases E
  |some i=>
   rw[e4]at E;let J:Sum.inl i=k:=by simpa using E
   obtain⟨i',t,O,rfl⟩|⟨y,t,O,_⟩:=iQ (k:=k) (v:=v) e2
   .rw[O]at J;cases J;show#[i,t,rfl,rfl]
   .rw[O]at J;cases J
 show Ϧ (wpAny_newList ?_ ());let q:(h'.push (seqObj "list" f.toList.toArray 0)).get? h'.objs.size=some (seqObj "list" f.toList.toArray 0):=aaT _ rfl;let B:s.heap.objs.size<=h'.objs.size:=apD M;show Ϧ (ag9 (wpAny_call_entry slot_list_sort #[_,q,rfl] entry_list_sort (list_sort_tree q hI () λout F a1 S a3=>#[_,rfl,?_]) (args_list_sort _)));show ϱ #[_,rfl,?_];let#[c,P]:=amJ (vs:=f.toList) (out:=out) q;show#[.ref h'.objs.size,_,I.laid (t':=tk) (o:=.lst (F.map V.int)) (λb o T=>ad7 (acE (acn (abQ T) B)) (ϴ _ (n _ _ T))) B #[by rw[aaA,S.length_eq];omega,out.toList,c,aeN a1,by simpa using P],rfl,g _ F (I.hok.fresh B) S a3]
def bV(f:X.A.units+1<cLine)(g:Ϝ H a y (some v))(q:Q v H):IX X (.ref a) y H Q:=by
 show Bg (r:=λx y H Q=>∃a v,x=.ref a/\Ϝ H a y (some v)/\Q v H) ?_ #[a,v,rfl,g,q];intro value c ϵ s σ H x y w u Q I rx ry h hs;let#[a,v,rfl,g,q]:=h;obtain rfl:w=Value.ref a:=rx;let ty:=Ly I g;let run:ν (ϩ X.prog X.w) X.A (subscripted c false (Value.ref a) u) (λr e=>ν (ϩ X.prog X.w) X.A (letTemporaryGo value (Value.ref a) r>>=λ_=>pure r) (EP X ϵ σ Q) X.xe e) X.xe s:=by
  rw[hs];show wpAny_operating (T7 f I g ry λr e i j=>Ϧ (wpAny_letTemporaryGo (ϱ #[v,H,i,j,q])))
 unfold subscriptTail;show Ϧ ?_;rw[getitemInPython_of_ne ty.not_modules];show Ϧ (wpAny_specialOf ty F.slot_dict_getitem.lookup ?_)
 first
  |show ϱ (Ϧ run)
  |show Ϧ (ϱ (Ϧ run))
  |show Ϧ run
end
end _L
namespace _V
open PySem _L PyProof.Rows _M
section
variable{α β:Type}
def Υ(m:List (Int×α))(i:Int):Option α:=(m.find? λp=>decide (p.1=i)).map (·.2)
def cG(m:List (Int×α))(i:Int)(x:α):List (Int×α):=if(m.any λp=>decide (p.1=i))=true then m.map (λp=>if p.1=i then(p.1,x)else p)else m++[(i,x)]
def fQ(m:List (Int×α))(i:Int):List (Int×α):=m.filter λp=>decide (p.1≠i)
abbrev PR(R:V->α->Prop)(kv:Key×V)(p:Int×α):Prop:=kv.1=Sum.inl p.1/\R kv.2 p.2
def DictAt(R:V->α->Prop)(H:Hp)(a:δ)(m:List (Int×α)):=∃Ϸ,H a=some (.dK Ϸ)/\ρ (PR R) Ϸ m
def Nb(i j:Int):decide ((Sum.inl i:Key)=Sum.inl j)=decide (i=j):=by
 by_cases h:i=j
 .subst h;simp
 .have :¬(Sum.inl i:Key)=Sum.inl j:=λe=>h (Sum.inl.inj e)
  rw[decide_eq_false this,decide_eq_false h]
def afP{R:V->α->Prop}(h:ρ (PR R) Ϸ m):Ϸ.map (·.1)=(m.map (·.1)).map Sum.inl:=by
 induction h with
 |nil=>rfl
 |cons h _ a=>rw[ac2,ac2,ac2,a,h.1]
def iW{R:V->α->Prop}(h:ρ (PR R) Ϸ m)(i:Int):(Ϣ Ϸ (Sum.inl i)=none/\ Υ m i=none)\/∃v x,Ϣ Ϸ (Sum.inl i)=some v/\ Υ m i=some x/\R v x:=by
 induction h with
 |nil=>show .inl #[rfl,rfl]
 | @cons f p l m h _ c=>
   let#[k,v]:=f;let#[j,x]:=p;let#[g,n]:=h;let a:k=Sum.inl j:=g;subst a;unfold Ϣ Υ at c⊢;rw[adk,adk];show((match decide ((Sum.inl j:Key)=Sum.inl i)with|true=>_|false=>_:Option (Key×V)).map _=_/\_)\/_;rw[Nb];by_cases e:j=i
   .rw[decide_eq_true e];show .inr #[v,x,rfl,rfl,n]
   .rw[decide_eq_false e];show c
def ajM{R:V->α->Prop}(h:ρ (PR R) Ϸ m)(i:Int):(Ϸ.any λa=>decide (a.1=Sum.inl i))=m.any λp=>decide (p.1=i):=by
 induction h with
 |nil=>rfl
 | @cons a p l m h _ c=>rw[alc,alc,c,h.1,Nb]
def rF{R:V->α->Prop}(h:ρ (PR R) Ϸ m)(i:Int)(r:R v x):ρ (PR R) (putK Ϸ (Sum.inl i) v) (cG m i x):=by
 unfold putK cG;rw[ajM h i];by_cases e:(m.any λp=>decide (p.1=i))=true
 .rw[if_pos e,if_pos e];clear e;induction h with
  |nil=>show .nil
  | @cons c p l m h _ f=>
    show .cons ?_ f;let#[a,g]:=h;show PR R (if c.1=Sum.inl i then(c.1,v)else c) (if p.1=i then(p.1,x)else p);by_cases e:p.1=i
    .rw[if_pos e,if_pos (by rw[a,e])];show#[a,r]
    .rw[if_neg e,if_neg (by rw[a];show λz=>e (Sum.inl.inj z))];show#[a,g]
 .rw[if_neg e,if_neg e];show ρ.app h (.cons #[rfl,r] .nil)
def Jq{R:V->α->Prop}(h:ρ (PR R) Ϸ m)(i:Int):ρ (PR R) (fY Ϸ (Sum.inl i)) (fQ m i):=by
 unfold fY fQ;induction h with
 |nil=>show .nil
 | @cons g p l m h _ c=>
   let#[a,f]:=h;rw[al3,al3];by_cases e:p.1=i
   .rw[if_neg (by rw[a,e];simp),if_neg (by rw[e];simp)];show c
   .rw[if_pos (by rw[a];simp[e]),if_pos (by simp[e])];show .cons #[a,f] c
theorem il{R S:V->α->Prop}(h:ρ (PR R) Ϸ m)(f:∀v x,R v x->S v x):ρ (PR S) Ϸ m:=ρ.imp (λ_ _ h=>#[h.1,f _ _ h.2]) h
def Du{i j:Int}{x:α}:Υ (cG m i x) j=if j=i then some x else Υ m j:=by
 unfold Υ cG;induction m with
 |nil=>
  rw[List.any_nil,if_neg (by decide),aq7,adk];by_cases e:j=i
  .subst e;simp
  .let f:¬i=j:=λz=>e z.symm
   simp[e,f]
 |cons p r a=>
  let#[k,y]:=p;rw[alc];by_cases c:k=i
  .subst c;simp only[decide_true,ash,if_true,ac2,adk];by_cases e:j=k
   .subst e;simp
   .let f:¬k=j:=λz=>e z.symm
    simp only[e,f,decide_false,if_false];clear a
    congr 1
    induction r with
    |nil=>rfl
    |cons q r g=>
     let#[k2,n]:=q;rw[ac2,adk,adk,g];by_cases h2:k2=k
     .subst h2;simp[f]
     .simp[h2]
  .simp only[c,decide_false,aqS];by_cases l:(r.any λp=>decide (p.1=i))=true
   .rw[if_pos l]at a⊢;rw[ac2,if_neg c,adk,adk];by_cases e:k=j
    .subst e;simp[c]
    .simp only[e,decide_false];show a
   .rw[if_neg l]at a⊢;rw[arQ,adk,adk];by_cases e:k=j
    .subst e;simp[c]
    .simp only[e,decide_false];show a
def JH{m:List (Int×α)}:Υ (fQ m i) j=if j=i then none else Υ m j:=by
 unfold Υ fQ;induction m with
 |nil=>simp
 |cons p r c=>
  let#[k,y]:=p;rw[al3];by_cases a:k=i
  .subst a;simp only[ne_eq,not_true,decide_false,aoL,if_false,adk];rw[c];by_cases e:j=k
   .subst e;simp
   .let f:¬k=j:=λz=>e z.symm
    simp[e,f]
  .simp only[ne_eq,a,not_false_eq_true,decide_true,if_true,adk];by_cases e:k=j
   .subst e;simp[a]
   .simp only[e,decide_false];show c
def ajp{i:Int}{x:α}(h:(m.map (·.1)).Nodup):((cG m i x).map (·.1)).Nodup:=by
 unfold cG;by_cases c:(m.any λp=>decide (p.1=i))=true
 .rw[if_pos c];have:(m.map λp=>if p.1=i then(p.1,x)else p).map (·.1)=m.map (·.1):=by
   rw[aep];show aqA λp _=>?_
   show(if p.1=i then(p.1,x)else p).1=p.1;split <;>rfl
  rw[this];show h
 .rw[if_neg c,aoR];show apj.mpr #[h,by simp,λa h1 b h2 e=>c ?_];let f:b=i:=by simpa using h2
  subst e;subst f;let#[p,g,e]:=aa6.mp h1;show aqk.mpr #[p,g,decide_eq_true e]
theorem ak9{m:List (Int×α)}(h:(m.map (·.1)).Nodup):((fQ m i).map (·.1)).Nodup:=h.sublist (List.Sublist.map _ arl)
def agY{i:Int}{x:α}(h:Υ m i=some x):(i,x)∈m:=by
 unfold Υ at h;cases e:m.find? λp=>decide (p.1=i)with
 |none=>rw[e]at h;cases h
 |some p=>
  rw[e]at h;let h1:=List.find?_some e;let h2:=List.mem_of_find?_eq_some e;let#[k,y]:=p;let e1:k=i:=of_decide_eq_true h1;let a:y=x:=by simpa using h
  subst e1;subst a;show h2
def Ck{m:List (Int×α)}:Υ m i=none↔i∉m.map (·.1):=by
 unfold Υ;rw[Option.map_eq_none_iff,List.find?_eq_none];constructor
 .intro h c;let#[p,a,e]:=aa6.mp c;show h p a (decide_eq_true e)
 .intro h p a e;show h (aa6.mpr #[p,a,of_decide_eq_true e])
def Out(S:List δ)(H H':Hp):=∀b o,b∉S->H b=some o->H' b=some o
theorem Out.trans(a:Out S H H1)(b:Out S H1 H2):Out S H H2:=λc o e h=>b c o e (a c o e h)
theorem Out.of(h:ζ H H'):Out S H H':=λb o _ e=>h b o e
theorem Out.upd(h:a∈S):Out S H (upd H a o):=λb u c e=>by
 rw[ξ (λz=>c (by rw[z];show h))];show e
theorem Out.mono(h:Out S H H')(s:∀x∈S,x∈T):Out T H H':=λb o a e=>h b o (λz=>a (s b z)) e
def TupAt(H:Hp)(v:V)(xs:List V):=∃t,v=.ref t/\H t=some (.tup xs)
def nH(H:Hp)(v:V):Option (List V)->Prop
 |none=>v=.non
 |some xs=>TupAt H v xs
structure Ac where
 at_:Int
 row:Int
 was:Option (List V)
 is:Option (List V)
def qx(H:Hp)(v:V)(d:Ac):=∃t w u,v=.ref t/\H t=some (.tup [.int d.at_,.int d.row,w,u])/\nH H w d.was/\nH H u d.is
structure Bk where
 heads:List θ
 rows:List (Int×List V)
 touched:List (Int×Int)
 done:List Ac
 known:Int
 now:Int
structure BA where
 b:δ
 dx:δ
 h:δ
 r:δ
 t:δ
 d:δ
def yR(v:V)(i:Int):Prop:=v=.int i
structure Ω(C:δ)(H:Hp)(A:BA)(B:Bk):Prop where
 ins:H A.b=some (.ins C A.dx [("heads",.ref A.h),("rows",.ref A.r),("touched",.ref A.t),("done",.ref A.d),("known",.int B.known),("now",.int B.now)])
 own:H A.dx=some (.own A.b)
 heads:Τ H A.h B.heads
 rows:DictAt (TupAt H) H A.r B.rows
 touched:DictAt yR H A.t B.touched
 done:∃xs,H A.d=some (.lst xs)/\ρ (qx H) xs B.done
 rt:A.r≠A.t
 hd:A.h≠A.d
def BA.fp(A:BA):List δ:=[A.b,A.r,A.t,A.d]
def TupAt.stay(h:TupAt H v xs)(s:∀b ys,H b=some (.tup ys)->H' b=some (.tup ys)):TupAt H' v xs:=by
 let#[t,e,h]:=h;show#[t,e,s _ _ h]
def nH.stay(h:nH H v o)(s:∀b ys,H b=some (.tup ys)->H' b=some (.tup ys)):nH H' v o:=by
 cases o with
 |none=>show h
 |some xs=>show TupAt.stay h s
def qx.stay(h:qx H v d)(s:∀b ys,H b=some (.tup ys)->H' b=some (.tup ys)):qx H' v d:=by
 let#[t,w,u,e,h1,h2,a]:=h;show#[t,w,u,e,s _ _ h1,h2.stay s,a.stay s]
def Τ.stay(h:Τ H a cs)(h1:∀xs,H a=some (.lst xs)->H' a=some (.lst xs))(s:∀b ys,H b=some (.tup ys)->H' b=some (.tup ys)):Τ H' a cs:=by
 let#[vs,e,h2]:=h;show#[vs,h1 _ e,ρ.imp (λv c z=>by let#[t,e,h]:=z;show #[t,e,s _ _ h]) h2]
theorem Ω.stay{C:δ}{H H':Hp}{A:BA}{B:Bk}(k:Ω C H A B)(s:∀b ys,H b=some (.tup ys)->H' b=some (.tup ys))(f:∀x o,x∈[A.b,A.dx,A.h,A.r,A.t,A.d]->H x=some o->H' x=some o):Ω C H' A B where
 ins:=f _ _ (by simp) k.ins
 own:=f _ _ (by simp) k.own
 heads:=k.heads.stay (λxs e=>f _ _ (by simp) e) s
 rows:=by
  let#[Ϸ,e,h]:=k.rows;show#[Ϸ,f _ _ (by simp) e,il h λv x h=>h.stay s]
 touched:=by
  let#[Ϸ,e,h]:=k.touched;show#[Ϸ,f _ _ (by simp) e,h]
 done:=by
  let#[xs,e,h]:=k.done;show#[xs,f _ _ (by simp) e,ρ.imp (λv d h=>h.stay s) h]
 rt:=k.rt
 hd:=k.hd
theorem Ω.same(k:Ω C H A B)(s:ζ H H'):Ω C H' A B:=k.stay (λ_ _ e=>s _ _ e) λ_ _ _ e=>s _ _ e
section
variable{C:δ}{H H':Hp}{A:BA}{B:Bk}
def Ω.EY(k:Ω C H A B)(c:b∈A.fp):(∃fs,H b=some (.ins C A.dx fs))\/(∃Ϸ,H b=some (.dK Ϸ))\/∃xs,H b=some (.lst xs):=by
 let a:b=A.b\/b=A.r\/b=A.t\/b=A.d:=by simpa [BA.fp]using c
 obtain rfl|rfl|rfl|rfl:=a
 .show .inl #[_,k.ins]
 .let#[Ϸ,e,_]:=k.rows;show .inr (.inl #[_,e])
 .let#[Ϸ,e,_]:=k.touched;show .inr (.inl #[_,e])
 .let#[xs,e,_]:=k.done;show .inr (.inr #[_,e])
theorem Ω.tup(k:Ω C H A B)(o:Out A.fp H H'):∀b ys,H b=some (.tup ys)->H' b=some (.tup ys):=λb ys e=>o b _ (λa=>by
 obtain⟨fs,z⟩|⟨Ϸ,z⟩|⟨xs,z⟩:=k.EY a<;>rw[e]at z<;>cases z) e
def Ω.ne(k:Ω C H A B):A.b≠A.dx/\A.b≠A.h/\A.b≠A.r/\A.b≠A.t/\A.b≠A.d/\A.r≠A.dx/\A.r≠A.h/\A.r≠A.d/\A.t≠A.dx/\A.t≠A.h/\A.t≠A.d/\A.d≠A.dx:=by
 let h1:=k.ins;let h2:=k.own;let#[_,g,_]:=k.heads;let#[_,a,_]:=k.rows;let#[_,c,_]:=k.touched;let#[_,f,_]:=k.done;show#[?_,?_,?_,?_,?_,?_,?_,?_,?_,?_,?_,?_]<;>intro e
 .rw[e,h2]at h1;cases h1
 .rw[e,g]at h1;cases h1
 .rw[e,a]at h1;cases h1
 .rw[e,c]at h1;cases h1
 .rw[e,f]at h1;cases h1
 .rw[e,h2]at a;cases a
 .rw[e,g]at a;cases a
 .rw[e,f]at a;cases a
 .rw[e,h2]at c;cases c
 .rw[e,g]at c;cases c
 .rw[e,f]at c;cases c
 .rw[e,h2]at f;cases f
def Ω.ahw(k:Ω C H A B)(a c:Int):Ω C (upd H A.b (.ins C A.dx [("heads",.ref A.h),("rows",.ref A.r),("touched",.ref A.t),("done",.ref A.d),("known",.int a),("now",.int c)])) A {B with known:=a,now:=c}:=by
 let#[n1,n2,f,g,i,_]:=k.ne;let st:∀b ys,H b=some (.tup ys)->(upd H A.b (.ins C A.dx [("heads",.ref A.h),("rows",.ref A.r),("touched",.ref A.t),("done",.ref A.d),("known",.int a),("now",.int c)])) b=some (.tup ys):=k.tup (Out.upd (by simp[BA.fp]));show#[ς,?_,k.heads.stay (λxs e=>?_) st,?_,?_,?_,k.rt,k.hd]
 .rw[ξ (Ne.symm n1)];show k.own
 .rw[ξ (Ne.symm n2)];show e
 .let#[Ϸ,e,h]:=k.rows;show#[Ϸ,by rw[ξ (Ne.symm f)];show e,il h λv x h=>h.stay st]
 .let#[Ϸ,e,h]:=k.touched;show#[Ϸ,by rw[ξ (Ne.symm g)];show e,h]
 .let#[xs,e,h]:=k.done;show#[xs,by rw[ξ (Ne.symm i)];show e,ρ.imp (λv d h=>h.stay st) h]
def Ω.qJ(k:Ω C H A B)(h:ρ (PR (TupAt H)) Ϸ m):Ω C (upd H A.r (.dK Ϸ)) A {B with rows:=m}:=by
 let#[n1,n2,a,i,j,c,f,g,_]:=k.ne;let st:∀b ys,H b=some (.tup ys)->(upd H A.r (.dK Ϸ)) b=some (.tup ys):=k.tup (Out.upd (by simp[BA.fp]));show#[?_,?_,k.heads.stay (λxs e=>?_) st,#[Ϸ,ς,il h λv x h=>h.stay st],?_,?_,k.rt,k.hd]
 .rw[ξ a];show k.ins
 .rw[ξ (Ne.symm c)];show k.own
 .rw[ξ (Ne.symm f)];show e
 .let#[Ϸ,e,h]:=k.touched;show#[Ϸ,by rw[ξ (Ne.symm k.rt)];show e,h]
 .let#[xs,e,h]:=k.done;show#[xs,by rw[ξ (Ne.symm g)];show e,ρ.imp (λv d h=>h.stay st) h]
def Ω.aaz(k:Ω C H A B)(h:ρ (PR yR) Ϸ m):Ω C (upd H A.t (.dK Ϸ)) A {B with touched:=m}:=by
 let#[n1,n2,i,c,j,l,n,p,f,a,g,_]:=k.ne;let st:∀b ys,H b=some (.tup ys)->(upd H A.t (.dK Ϸ)) b=some (.tup ys):=k.tup (Out.upd (by simp[BA.fp]));show#[?_,?_,k.heads.stay (λxs e=>?_) st,?_,#[Ϸ,ς,h],?_,k.rt,k.hd]
 .rw[ξ c];show k.ins
 .rw[ξ (Ne.symm f)];show k.own
 .rw[ξ (Ne.symm a)];show e
 .let#[Ϸ,e,h]:=k.rows;show#[Ϸ,by rw[ξ k.rt];show e,il h λv x h=>h.stay st]
 .let#[xs,e,h]:=k.done;show#[xs,by rw[ξ (Ne.symm g)];show e,ρ.imp (λv d h=>h.stay st) h]
def Ω.abp(k:Ω C H A B)(h:ρ (qx H) xs ds):Ω C (upd H A.d (.lst xs)) A {B with done:=ds}:=by
 let#[n1,n2,j,l,c,m,n,f,p,g,i,a]:=k.ne;let st:∀b ys,H b=some (.tup ys)->(upd H A.d (.lst xs)) b=some (.tup ys):=k.tup (Out.upd (by simp[BA.fp]));show#[?_,?_,k.heads.stay (λxs e=>?_) st,?_,?_,#[xs,ς,ρ.imp (λv d h=>h.stay st) h],k.rt,k.hd]
 .rw[ξ c];show k.ins
 .rw[ξ (Ne.symm a)];show k.own
 .rw[ξ k.hd];show e
 .let#[Ϸ,e,h]:=k.rows;show#[Ϸ,by rw[ξ f];show e,il h λv x h=>h.stay st]
 .let#[Ϸ,e,h]:=k.touched;show#[Ϸ,by rw[ξ i];show e,h]
end
end
end _V
namespace _L
open PySem PySem.Spec PyProof.Rows PySem.W
def amG(j:ajU (ϩ X.prog X.w) X.A X.env X.xe)(l:X.calm=true)(hs:∀x,foldedSetIterable e X.env x=pure x)(h:EV X e σ H λv H1=>∃q xs,v=.ref q/\ι X.K H1 q xs/\∃a:Nat->St->Hp->Prop,a 0 σ H1/\(∀i σ' H',i<=xs.length->a i σ' H'->ι X.K H' q xs)/\
   (∀i x σ' H',xs[i]?=some x->a i σ' H'->EG X tg x σ' H' λc H2=>Ι X body {D with nx:=a (i+1),ct:=a (i+1),bk:=D.nx} c H2)/\∀σ' H',a xs.length σ' H'->D.nx σ' H'):SX X (.For tg e body [] pos) D σ H:=by
 show mC j l hs (ab7 (ϝ h λv H1 q=>?_));let#[q,xs,rfl,m,a,n,hl,f,hd]:=q;show#[q,rfl,#[xs,m],amI (g:=EG X tg) (tb:=Ι X body) a n hl f hd]
def aif(h:∀p,H p=none->EV X k1 σ (upd H p (.dK [])) λx1 H1=>EV X m σ H1 λg H2=>EV X k2 σ H2 λx2 u=>EV X n σ u λi v=>EV X k3 σ v λx3 x=>EV X s σ x λj l=>l p=some (.dK [])/\∃a c f:Key,x1=kV a/\x2=kV c/\x3=kV f/\Q (.ref p) (upd l p (.dK (lX [] [(a,g),(c,i),(f,j)])))):EV X (.Dict [some k1,some k2,some k3] [m,n,s] pos) σ H Q:=by
 show uA (ain (Ej dB dB (Ej dB dB (Ej dB dB afN))) rfl rfl (by simp) (by simp)) ?_;intro p y;show ϝ (h p y) λx1 H1 q=>ϝ q λg H2 q=>ϝ q λx2 u q=>ϝ q λi v q=>ϝ q λx3 x q=>ϝ q λj l q=>?_
 let#[e,a,c,f,e1,z,B,D]:=q;subst e1 z B;show#[e,[(a,g),(c,i),(f,j)],rfl,by simp,D]
end _L
namespace _L
open PySem PySem.Spec PyProof.Rows
end _L
namespace _L
open PySem PySem.Spec PyProof.Rows PySem.Builtin PySem.Builtin.Str
def xJ(p:Nat->Bool):Nat->Option Nat
 |0=>none
 |n+1=>if p n=true then some n else xJ p n
theorem Og(p:Nat->Bool):∀n,(acR n).foldl (λa i=>if p i=true then some i else a) none=xJ p n
 |0=>rfl
 |n+1=>by
  rw[aq8,arB,Og p n];rfl
theorem YK(p:Nat->Prop)[DecidablePred p]:∀(l:List Nat)(b:Option Nat),(forIn (m:=Id) l b λi s=>if p i then pure (ForInStep.yield (some i))else pure (ForInStep.yield s)).run=l.foldl (λc i=>if p i then some i else c) b
 |[],b=>rfl
 |a::l,b=>by
  rw[am3,aiw, <-YK p l];by_cases h:p a
  .simp only[if_pos h];rfl
  .simp only[if_neg h];rfl
def agS(x y:Str):lastOccurrence x y 0 x.length=xJ (λi=>decide (i+y.length<=x.length)&&subAt x y i) (x.length+1):=by
 unfold lastOccurrence;rw[<-Og];simp[List.range_eq_range'];show YK (λi=>i+y.length<=x.length/\subAt x y i=true) _ none
theorem Ny:∀{n:Nat},k<n->p k=true->(∀i,k<i->i<n->p i=false)->xJ p n=some k
 |n+1,c,a,h=>by
  show(if p n=true then _ else _)=_;by_cases e:k=n
  .subst e;rw[if_pos a]
  .rw[if_neg (by rw[h n () ()];decide)];show Ny () a λi h1 h2=>h i h1 ()
def PJ(x:Str)(c i:Nat):(decide (i+(#[#v[c]]:Str).length<=x.length)&&subAt x #[#v[c]] i)=decide (x.cps.toList[i]?=some c):=by
 rw[aex,aaO,decide_eq_true_iff,decide_eq_true_iff];show StrLaws.subAt_one x c i
def ajs(h:z.cps.toList=b++c::w)(g:c∉w):Txt.rpartition z #[#v[c]]=(#[b.toArray],#[#v[c]],#[w.toArray]):=by
 let a:z.length=b.length+1+w.length:=by
  have:z.cps.toList.length=z.length:=rfl;rw[<-this,h,abo,acj];omega
 let hl:lastOccurrence z #[#v[c]] 0 z.length=some b.length:=by
  rw[agS];show Ny () ?_ λi h1 h2=>?_
  .rw[PJ,h,decide_eq_true_iff,anI (Ϭ _),aq9];rfl
  .rw[PJ,h,decide_eq_false_iff_not,anI ()];intro e;obtain⟨j,m⟩:∃j,i-b.length=j+1:=#[i-b.length-1,()];rw[m,List.getElem?_cons_succ]at e;show g (aaD e)
 let f:z=#[(b++c::w).toArray]:=by
  let#[#[l]]:=z;have:l=b++c::w:=h;rw[this]
 let e1:strSub z 0 b.length=#[b.toArray]:=by
  unfold strSub;rw[f];simp
 let n:strSub z (b.length+(#[#v[c]]:Str).length) z.length=#[w.toArray]:=by
  let p:(#[#v[c]]:Str).length=1:=rfl;rw[p,a];unfold strSub;rw[f];simp[List.extract_eq_take_drop,List.drop_append];rw[ao7 (),aq7,ajR]
 let un:Txt.rpartition z #[#v[c]]=(match lastOccurrence z #[#v[c]] 0 z.length with
  |some i=>(strSub z 0 i,#[#v[c]],strSub z (i+(#[#v[c]]:Str).length) z.length)
  |none=>(aq0,aq0,z)):=rfl
 rw[un,hl];show(strSub z 0 b.length,_,strSub z (b.length+(#[#v[c]]:Str).length) z.length)=_;rw[e1,n]
def af0(f:z.length<=100000)(g:∀p,H p=none->Q (.ref p) (upd H p (.tup [.str (Txt.rpartition z #[#v[c]]).1,.str (Txt.rpartition z #[#v[c]]).2.1,.str (Txt.rpartition z #[#v[c]]).2.2]))):MT X "str.rpartition" (.str z) [.str #[#v[c]]] H Q:=by
 show dF (r:=λx xs H Q=>∃z c,x=.str z/\xs=[.str #[#v[c]]]/\z.length<=100000/\∀p,H p=none->Q (.ref p) (upd H p (.tup [.str (Txt.rpartition z #[#v[c]]).1,.str (Txt.rpartition z #[#v[c]]).2.1,.str (Txt.rpartition z #[#v[c]]).2.2]))) ?_ #[z,c,rfl,rfl,f,g];intro ϵ s σ H x xs v us Q I rx rs h;let#[z,c,rfl,rfl,f,g]:=h;let#[t,rfl]:=rx;let#[u,rfl,j]:=vals1 rs;let#[t',rfl]:=j;let hsz:=ϰ;let fin:∀(a b e:Str)(ta tb tc:Tok)(tk:Nat),a=(Txt.rpartition z #[#v[c]]).1->b=(Txt.rpartition z #[#v[c]]).2.1->e=(Txt.rpartition z #[#v[c]]).2.2->EP X ϵ σ Q (.ref s.heap.objs.size) {s with toks:=tk,heap:=s.heap.push {cls:=.type "tuple",data:=.seq [Value.str a ta,.str b tb,.str e tc].toArray}}:=λa b e ta tb tc tk l m n=>by
  subst l m n;show#[.ref s.heap.objs.size,_,I.laid (t':=tk) (o:=.tup [.str (Txt.rpartition z #[#v[c]]).1,.str (Txt.rpartition z #[#v[c]]).2.1,.str (Txt.rpartition z #[#v[c]]).2.2]) (λb o q=>ϴ _ q) (Ϭ _) ?_,rfl,g _ (I.hok.fresh (Ϭ _))];show#[Β,_,.cons #[ta,rfl] (.cons #[tb,rfl] (.cons #[tc,rfl] .nil)),IsTup.new _ _]
 show ana F.slot_str_rpartition (typeIs_str _ _ _) F.entry_str_rpartition (F.args_str_rpartition_2 _ _) (meets_str_rpartition z #[#v[c]] t t' rfl ()) ?_;let h':=fin;unfold Txt.rpartition at h';revert h';cases lastOccurrence z #[#v[c]] 0 z.length with
 |none=>intro h';show h' _ _ _ _ _ _ _ rfl rfl rfl
 |some i=>intro h';show h' _ _ _ _ _ _ _ rfl rfl rfl
end _L
namespace _L
open PySem PySem.Spec PyProof.Rows
end _L
namespace _L
open PySem PySem.Spec PyProof.Rows PySem.W
def Ka(d:δ)(o:Obj)(Ϸ:List (Key×V))(ks:List Int):It:=#[λi H=>i<ks.length/\H d=some (.frz o (.dK Ϸ)),λi H x H'=>H'=H/\∃k,ks[i]?=some k/\x=.int k,λi H=>i=ks.length/\H d=some (.frz o (.dK Ϸ))]
theorem ami{P:Ϯ}{w:ϭ}{K:Ϩ}{tg:ϧ}(it d:δ)(o:Obj)(Ϸ:List (Key×V))(ks:List Int)(vs:List (Key×ε))(ep:Nat)(q:vs.map (·.1)=ks.map Sum.inl)(Ϲ:d≠it)(g:∀h:ϫ,h.get? d=some o->h.DictAt (cH P w) d vs ep):Turn P w K tg (Ka d o Ϸ ks) [it] it (λi h=>h.IsKeyIter it d i vs.length ep)where
 mem:=by simp
 obj:=λi h st b f=>by
  let e:b=it:=by simpa using f
  subst e;let#[o,e,c,dd]:=st;show#[o,e,λv z=>by rw[dd]at z;cases z]
 keep:=λi h h' st k=>st.at λo e=>k it (by simp) o e
 item:=by
  intro X u B D U i ϵ s σ H E I p st j;subst u B D;let hi:i<ks.length:=j.1;let F:=g s.heap (show ώ X.prog X.w H s.heap d (.frz o (.dK Ϸ))from I.hok d _ j.2).1;let G:vs.length=ks.length:=by have:=congrArg aoo q;simpa using this
  let J:vs[i]?=some (vs[i]'()):=aaj _;let W:(vs[i]'()).1=Sum.inl ks[i]:=by
   let e1:(vs.map (·.1))[i]?=some (vs[i]'()).1:=by rw[abI,J];rfl
   rw[q,abI,aaj hi]at e1;simpa using e1.symm
  generalize vs[i]'()=Y at J W;let#[k,x]:=Y;let#[L,M,Z,O,Q,R]:=p it (by simp);show wpAny_pyNext_dict_item st F J λS h' l a T=>?_
  let I1:Inv X ϵ σ H {s with heap:=h'}:=I.turned (t':=s.toks) (λb o f e=>(T.2 b f).trans e) L M O Q R;let m:k=Sum.inl ks[i]:=W;obtain⟨i',t,n,rfl⟩|⟨y,t,n,_⟩:=iQ (k:=k) (v:=S) l
  .rw[m]at n;cases n;let#[o,e,c,dd]:=id a;show#[_,rfl,sZ (s:={s with heap:=h'}) e c dd (by decide) #[.int ks[i],H,I1,#[t,rfl],#[rfl,ks[i],aaj hi,rfl],a,λb f=>(p b f).1]]
  .rw[m]at n;cases n
 done:=by
  intro X u B D U i ϵ s σ H E I p st j;subst u B D;let e:i=ks.length:=j.1;let F:=g s.heap (show ώ X.prog X.w H s.heap d (.frz o (.dK Ϸ))from I.hok d _ j.2).1;let G:vs.length=ks.length:=by have:=congrArg aoo q;simpa using this
  let#[L,M,Z,O,Q,R]:=p it (by simp);let hn:vs[i]?=none:=am9 ();show wpAny_pyNext_dict_end (I.ok.hd U) st F hn λh' eb=>#[rfl,I.turned (t':=s.toks) (λb o f e=>eb b o f e) L M O Q R]
 self:=λ_ _ _ _ _ st h=>wpAny_pyIter_keyiter st h
def agi(h:EV X a σ H λv H1=>∃(d:δ)(o:Obj)(Ϸ:List (Key×V))(ks:List Int),v=.ref d/\H1 d=some (.frz o (.dK Ϸ))/\Ϸ.map (·.1)=ks.map Sum.inl/\R (Ka d o Ϸ ks) H1):EI X tg a σ H R:=by
 intro ϵ s I;show υ (h ϵ s I) λv c m=>?_
 let#[x,H1,f,rx,d,o,Ϸ,ks,ex,hd,n,q]:=m;subst ex;obtain rfl:v=Value.ref d:=rx;let#[z,lo,vs,p,g]:=lG f.hok (.inr #[o,hd]);let#[ep,i]:=g.dictAt;let u:=(show ώ X.prog X.w H1 c.heap d (.frz o (.dK Ϸ))from f.hok d _ hd).1;show wpAny_pyIter_dict lo i ?_;show#[c.heap.objs.size,[c.heap.objs.size],_,Ka d o Ϸ ks,H1,rfl,f.kept (t':=c.toks) (λb o e=>ϴ _ e),ami c.heap.objs.size d o Ϸ ks vs ep (by rw[<-p.keys];show n) (acE i.lt_size) (λh e=>i.at' λo' l=>by rw[u]at l;cases l;show e),#[_,aaT _ rfl,rfl,rfl],λb y=>?_,q];let j:b=c.heap.objs.size:=by simpa using y
 subst j;show f.fpOk (Ϭ _) (f.hok.fresh (Ϭ _))
def aho(s:ajU (ϩ X.prog X.w) X.A X.env X.xe)(u:X.calm=true)(hs:∀x,foldedSetIterable e X.env x=pure x)(h:EV X e σ H λv H1=>∃(d:δ)(o:Obj)(Ϸ:List (Key×V))(ks:List Int),v=.ref d/\H1 d=some (.frz o (.dK Ϸ))/\Ϸ.map (·.1)=ks.map Sum.inl/\∃a:Nat->St->Hp->Prop,a 0 σ H1/\(∀i σ' H',a i σ' H'->H' d=some (.frz o (.dK Ϸ)))/\
   (∀i k σ' H',ks[i]?=some k->a i σ' H'->EG X tg (.int k) σ' H' λc H2=>Ι X body {D with nx:=a (i+1),ct:=a (i+1),bk:=D.nx} c H2)/\∀σ' H',a ks.length σ' H'->D.nx σ' H'):SX X (.For tg e body [] pos) D σ H:=by
 show mC s u hs (agi (ϝ h λv H1 q=>?_));let#[d,o,Ϸ,ks,rfl,hd,j,a,p0,f,l,n]:=q;show#[d,o,Ϸ,ks,rfl,hd,j,λi m σ H=>m=ks.length-i/\i<=ks.length/\a i σ H,#[ks.length,by simp,ad5 _,p0],?_]
 rintro i m σ' H' ⟨rfl,hi,p⟩
 by_cases g:i<ks.length
 .show .inr #[#[g,f i _ _ p],a (i+1),λc H2 p2=>#[ks.length-(i+1),(),rfl,g,p2],λx H2 y=>?_];let#[rfl,k,j,rfl]:=y;show l i k σ' _ j p
 .let e:i=ks.length:=()
  show .inl #[#[e,f i _ _ p],?_];subst e;show n σ' H' p
def pw{α:Type}(lt:Nat->Nat->Bool)(n:Nat):KasT α->(α->Prop)->Prop
 |.ret a,Q=>Q a
 |.ask i j k,Q=>i<n/\j<n/\pw lt n (k (lt i j)) Q
theorem rO{α β:Type}{n:Nat}{f:α->KasT β}{Q:β->Prop}:∀(t:KasT α),pw lt n t (λa=>pw lt n (f a) Q)->pw lt n (t.bind f) Q
 |.ret a,h=>h
 |.ask i j k,h=>#[h.1,h.2.1,rO (k (lt i j)) h.2.2]
theorem iM{α:Type}{n:Nat}{Q c:α->Prop}(e:∀a,Q a->c a):∀(t:KasT α),pw lt n t Q->pw lt n t c
 |.ret a,h=>e a h
 |.ask i j k,h=>#[h.1,h.2.1,iM e (k (lt i j)) h.2.2]
theorem Qd{α:Type}{n:Nat}{c:Nat->Nat->(Bool->μ->Prop)->μ->Prop}{I:μ->Prop}{G:α->μ->Prop}(f:∀i j C s,i<n->j<n->I s->(∀s',I s'->C (lt i j) s')->c i j C s):∀(t:KasT α)(s:μ),I s->pw lt n t (λa=>∀s,I s->G a s)->t.kasWp c G s
 |.ret a,s,hs,h=>h s hs
 |.ask i j k,s,hs,h=>f i j _ s h.1 h.2.1 hs λs' e=>Qd f (k (lt i j)) s' e h.2.2
structure aR(lt:Nat->Nat->Bool):Prop where
 ir:∀i,lt i i=false
 tr:∀i j k,lt i j=true->lt j k=true->lt i k=true
 nt:∀i j k,lt i k=true->lt i j=true\/lt j k=true
section
variable{lt:Nat->Nat->Bool}{n:Nat}(W:aR lt)
def aR.as(W:aR lt)(h:lt i j=true):lt j i=false:=by
 rw[akJ];intro h2;have:=W.tr i j i h h2;rw[W.ir]at this;cases this
def Rk(lt:Nat->Nat->Bool)(i j:Nat):Prop:=lt i j=true\/(lt j i=false/\i<j)
def aR.rM(W:aR lt)(h:lt a b=true)(h2:lt c b=false):lt a c=true:=by
 obtain h|h:=W.nt a c b h
 .show h
 .rw[h2]at h;cases h
def aR.QZ(W:aR lt)(h:lt b c=true)(h2:lt b a=false):lt a c=true:=by
 obtain h|h:=W.nt b a c h
 .rw[h2]at h;cases h
 .show h
def aR.rtr(W:aR lt)(h:Rk lt i j)(h2:Rk lt j k):Rk lt i k:=by
 obtain h|⟨h,h'⟩:=h
 .obtain h2|⟨h2,a⟩:=h2
  .show .inl (W.tr _ _ _ h h2)
  .show .inl (W.rM h h2)
 .obtain h2|⟨h2,a⟩:=h2
  .show .inl (W.QZ h2 h)
  .show .inr #[?_,()];rw[akJ];intro c;obtain h4|h4:=W.nt k j i c
   .rw[h2]at h4;cases h4
   .rw[h]at h4;cases h4
abbrev gt(p:Array Nat)(k:Nat):Nat:=p.getD k 0
def zb(h:p[k]?=some v):gt p k=v:=by
 let#[a,e]:=ajE.mp h;show p.getD k 0=v;simp[ar9,a,e]
def wC(h:k<p.size):p[k]?=some (gt p k):=by
 show p[k]?=some (p.getD k 0);simp[ar9,h]
def ig(a:j<=p.size)(c:k<p.size:=by omega):gt (kas_rev p i j) k=if i<=k/\k<j then gt p (i+j-1-k)else gt p k:=by
 apply zb;unfold kas_rev;rw[getElem?_mirror_all a];by_cases h:i<=k/\k<j
 .rw[if_pos h,if_pos h];show wC ()
 .rw[if_neg h,if_neg h];show wC c
theorem ae8:(kas_rev p i j).size=p.size:=mirror_size _ _ _ _
def akj(a:k<p.size)(hd:d<=k)(c:j<p.size):gt (bubble p k d) j=if j=k-d then gt p k else if k-d<j/\j<=k then gt p (j-1)else gt p j:=by
 apply zb;rw[getElem?_bubble a d hd];by_cases h1:j=k-d
 .rw[if_pos h1,if_pos h1];show wC a
 .rw[if_neg h1,if_neg h1];by_cases h2:k-d<j/\j<=k
  .rw[if_pos h2,if_pos h2];show wC ()
  .rw[if_neg h2,if_neg h2];show wC c
structure Pl(n:Nat)(p:Array Nat)(m:Nat):Prop where
 size:p.size=n
 low:∀i,i<m->gt p i<m
 tail:∀k,m<=k->k<n->gt p k=k
 pm:p.toList.Perm (acR n)
def Pl.all(h:Pl n p m)(a:m<=n)(hi:i<n):gt p i<n:=by
 by_cases h1:i<m
 .have :=h.low i h1;omega
 .rw[h.tail i () hi];show hi
def Pl.up(h:Pl n p m)(a:m<n):Pl n p (m+1):=by
 show#[h.size,λi hi=>?_,λk h1 h2=>h.tail k () h2,h.pm];by_cases h1:i<m
 .have :=h.low i h1;omega
 .let e:i=m:=()
  subst e;rw[h.tail i (Ϭ _) a];omega
def Pl.rev(h:Pl n p m)(c:m<=n)(e:j<=m):Pl n (kas_rev p i j) m:=by
 let hs:=h.size;show#[by rw[ae8];show hs,λk a=>?_,λk h1 h2=>?_,(aqD.mp (mirror_perm p i j ((j-i) / 2))).trans h.pm]
 .rw[ig ()];split
  .show h.low _ ()
  .show h.low _ a
 .rw[ig (),if_neg ()];show h.tail k h1 h2
def fV(lt:Nat->Nat->Bool)(p:Array Nat)(m:Nat):=∀i j,i<j->j<m->Rk lt (gt p i) (gt p j)
def jE(lt:Nat->Nat->Bool)(p:Array Nat)(m:Nat):=∀i j,i<j->j<m->Rk lt (gt p j) (gt p i)
def jE.rev(h:jE lt p m)(a:m<=p.size):fV lt (kas_rev p 0 m) m:=by
 intro i j c e;rw[ig a,ig a,if_pos (),if_pos ()];show h _ _ () ()
theorem JT(W:aR lt):∀(f m:Nat),1<=m->m+f<=n->Pl n p m->fV lt p m->pw lt n (kas_asc p f m) λm'=>m<=m'/\m'<=m+f/\Pl n p m'/\fV lt p m'/\(m'<m+f->lt (gt p m') (gt p (m'-1))=true)
 |0,m,h1,q,a,c=>#[Ϭ _,Ϭ _,a,c,λh=>absurd h ()]
 |f+1,m,h1,q,a,c=>by
  show#[a.all () (),a.all () (),?_];cases e:lt (gt p m) (gt p (m-1))with
  |true=>
   show pw lt n (if true=true then _ else _) _;rw[if_pos rfl];show#[Ϭ _,(),a,c,λ_=>e]
  |false=>
   show pw lt n (if false=true then _ else _) _;rw[if_neg (by decide)];let l:Rk lt (gt p (m-1)) (gt p m):=.inr #[e,by rw[a.tail m (Ϭ _) ()];show a.low _ ()];show iM (λm' h=>#[(),(),h.2.2.1,h.2.2.2.1,λh2=>h.2.2.2.2 ()]) _ (JT W f (m+1) () () (a.up ()) λi j g x=>?_);by_cases s:j<m
   .show c i j g s
   .let u:j=m:=()
    subst u;by_cases v:i=j-1
    .rw[v];show l
    .show W.rtr (c i (j-1) () ()) l
structure Dn(lt:Nat->Nat->Bool)(p:Array Nat)(m q:Nat):Prop where
 few:q+1<=m
 ahead:∀i j,i<j->j<m-(q+1)->Rk lt (gt p j) (gt p i)
 drop:∀i j,i<m-(q+1)->m-(q+1)<=j->j<m->lt (gt p j) (gt p i)=true
 aF:∀i j,m-(q+1)<=i->i<j->j<m->lt (gt p i) (gt p j)=false/\lt (gt p j) (gt p i)=false/\gt p i<gt p j
def Dn.done(h:Dn lt p m q)(e:m<=p.size):jE lt (if q>0 then kas_rev p (m-(q+1)) m else p) m:=by
 let h1:=h.few;by_cases f:q>0
 .rw[if_pos f];intro i j a g;rw[ig e,ig e];by_cases hi:m-(q+1)<=i
  .rw[if_pos (),if_pos ()];have:=h.aF (m-(q+1)+m-1-j) (m-(q+1)+m-1-i) () () ();show .inr #[this.2.1,this.2.2]
  .rw[if_neg (show ¬(m-(q+1)<=i/\i<m)by omega)];by_cases c:m-(q+1)<=j
   .rw[if_pos ()];show .inl (h.drop _ _ () () ())
   .rw[if_neg ()];show h.ahead i j a ()
 .rw[if_neg f];intro i j a g;by_cases c:m-(q+1)<=j
  .show .inl (h.drop _ _ () c g)
  .show h.ahead i j a ()
def jE.next(W:aR lt)(h:jE lt p m)(h1:1<=m)(hl:∀i,i<m->lt (gt p m) (gt p i)=true):Dn lt p (m+1) 0:=by
 show#[(),λi j f g=>h i j f (),λi j hi g l=>?_,λi j a b c=>absurd b ()];let e:j=m:=()
 subst e;show hl i ()
def jE.low(W:aR lt)(h:jE lt p m)(h1:1<=m)(hl:lt x (gt p (m-1))=true):∀i,i<m->lt x (gt p i)=true:=by
 intro i hi;by_cases e:i=m-1
 .rw[e];show hl
 .rcases h i (m-1) () ()with h2|⟨h2,_⟩
  .show W.tr _ _ _ hl h2
  .show W.rM hl h2
theorem yt(W:aR lt):∀(f:Nat)(p:Array Nat)(m q:Nat),m+f<=n->Pl n p m->Dn lt p m q->pw lt n (kas_desc f p m q) λr=>m<=r.2.1/\r.2.1<=m+f/\Pl n r.1 r.2.1/\Dn lt r.1 r.2.1 r.2.2
 |0,p,m,q,F,a,hd=>#[Ϭ _,Ϭ _,a,hd]
 |f+1,p,m,q,F,a,hd=>by
  let B:=hd.few;let hsz:=a.size;show#[a.all () (),a.all () (),?_];cases e:lt (gt p m) (gt p (m-1))with
  |true=>
   show pw lt n (if true=true then _ else _) _;rw[if_pos rfl];let l:=hd.done ();by_cases D:q>0
   .rw[if_pos D]at l⊢;let u:=a.rev (i:=m-(q+1)) (j:=m) () (Ϭ _);let em:gt (kas_rev p (m-(q+1)) m) m=gt p m:=by rw[ig (),if_neg ()]
    let G:gt (kas_rev p (m-(q+1)) m) (m-1)=gt p (m-(q+1)):=by
     rw[ig (),if_pos ()]
     congr 1
     omega
    let H:lt (gt p m) (gt p (m-(q+1)))=true:=W.rM e (hd.aF (m-(q+1)) (m-1) (Ϭ _) () ()).1;show iM (λr h=>#[(),(),h.2.2]) _ (yt W f _ (m+1) 0 () (u.up ()) (l.next W () λi hi=>?_));rw[em];show l.low W () (by rw[G];show H) i hi
   .rw[if_neg D]at l⊢;show iM (λr h=>#[(),(),h.2.2]) _ (yt W f _ (m+1) 0 () (a.up ()) (l.next W () (l.low W () e)))
  |false=>
   show pw lt n (if false=true then _ else _) _;rw[if_neg (by decide)];show#[a.all () (),a.all () (),?_];cases e2:lt (gt p (m-1)) (gt p m)with
   |true=>
    show pw lt n (if true=true then _ else _) _;rw[if_pos rfl];show#[Ϭ m,show m<=m+(f+1)by omega,a,hd]
   |false=>
    show pw lt n (if false=true then _ else _) _;rw[if_neg (by decide)];let v:=a.tail m (Ϭ _) ();show iM (λr h=>#[(),(),h.2.2]) _ (yt W f p (m+1) (q+1) () (a.up ()) #[(),λi j g E=>hd.ahead i j g (),λi j hi E I=>?_,λi j hi g E=>?_])
    .by_cases x:j<m
     .show hd.drop i j () () x
     .let y:j=m:=()
      subst y;show W.QZ (hd.drop i (j-1) () () ()) e2
    .by_cases x:j<m
     .show hd.aF i j () g x
     .let y:j=m:=()
      subst y;let c:gt p i<gt p j:=by rw[v];show a.low i ()
      by_cases s:i=j-1
      .rw[s];rw[s]at c;show#[e2,e,c]
      .let h3:=hd.aF i (j-1) () () ();show#[?_,?_,c]
       .rw[akJ];intro z;obtain h5|h5:=W.nt _ (gt p (j-1)) _ z
        .rw[h3.1]at h5;cases h5
        .rw[e2]at h5;cases h5
       .rw[akJ];intro z;obtain h5|h5:=W.nt _ (gt p (j-1)) _ z
        .rw[e]at h5;cases h5
        .rw[h3.2.1]at h5;cases h5
def Uw(W:aR lt)(a:Pl n p m)(hd:jE lt p m)(h1:1<=m:=by omega)(c:m<=n:=by omega):pw lt n (kas_tail3 m n p) λr=>1<=r.1/\r.1<=n/\Pl n r.2 r.1/\fV lt r.2 r.1:=by
 let hsz:=a.size;show rO _ (iM (λm' h=>#[by show 1<=m';omega,by show m'<=n;omega,h.2.2.1,h.2.2.2.1]) _ (JT W (n-m) m h1 () (a.rev c (Ϭ _)) (hd.rev ())))
def Mv(W:aR lt)(h1:1<=m)(f:m<n)(g:Pl n p m)(hd:jE lt p m)(hl:lt (gt p m) (gt p (m-1))=true):pw lt n (kas_descPart m n p) λr=>1<=r.1/\r.1<=n/\Pl n r.2 r.1/\fV lt r.2 r.1:=by
 show rO _ (iM (λr h=>?_) _ (yt W (n-(m+1)) p (m+1) 0 () (g.up f) (hd.next W h1 (hd.low W h1 hl))));let#[j,l,c,i]:=h;let hsz:=c.size;let a:=i.done ();show pw lt n (if r.2.2>0 then _ else _) _;by_cases e:r.2.2>0
 .rw[if_pos e]at a⊢;show Uw W (c.rev () (Ϭ _)) a
 .rw[if_neg e]at a⊢;show Uw W c a
def ahJ:Pl n (aek (acR n)) 1:=by
 let a:∀k,k<n->gt (aek (acR n)) k=k:=λk c=>zb (by simp[c])
 show#[by simp,λi hi=>?_,λk _ h2=>a k h2,by simp];by_cases h:i<n
 .rw[a i h];show hi
 .show(aek (acR n)).getD i 0<1;simp[ar9,h]
def aaU(W:aR lt)(h1:1<=n):pw lt n (kas_count n (aek (acR n))) λr=>1<=r.1/\r.1<=n/\Pl n r.2 r.1/\fV lt r.2 r.1:=by
 show rO _ (iM (λm h=>?_) _ (JT W (n-1) 1 (Ϭ _) () ahJ λi j a b=>absurd a ()));let#[y,E,c,g,z]:=h;let hsz:=c.size;show pw lt n (if(m==n)=true then _ else _) _;by_cases l:m=n
 .rw[if_pos (by rw[beq_iff_eq];show l)];show#[by show 1<=m;omega,by show m<=n;omega,c,g]
 .rw[if_neg (by rw[beq_iff_eq];show l)];let f:=z ();by_cases q:m>1
  .rw[if_pos q];show#[c.all () (),c.all () (),?_];cases e:lt (gt (aek (acR n)) 0) (gt (aek (acR n)) (m-1))with
   |true=>
    show pw lt n (if true=true then _ else _) _;rw[if_pos rfl];show#[by show 1<=m;omega,by show m<=n;omega,c,g]
   |false=>
    show pw lt n (if false=true then _ else _) _;rw[if_neg (by decide)];generalize aek (acR n)=p at c g f e hsz⊢;let s:∀i,i<m->lt (gt p i) (gt p 0)=false:=λi hi=>by
     by_cases u:i=0
     .rw[u];show W.ir _
     .rcases g 0 i () hi with h|h
      .show W.as h
      .show h.1
    let v:∀j,j<m->lt (gt p (m-1)) (gt p j)=false:=λj x=>by
     by_cases u:j=m-1
     .rw[u];show W.ir _
     .rcases g j (m-1) () ()with h|h
      .show W.as h
      .show h.1
    let aF:∀i j,i<m->j<m->lt (gt p i) (gt p j)=false:=λi j hi x=>by
     rw[akJ];intro h;obtain h2|h2:=W.nt _ (gt p 0) _ h
     .rw[s i hi]at h2;cases h2
     .obtain h3|h3:=W.nt _ (gt p (m-1)) _ h2
      .rw[e]at h3;cases h3
      .rw[v j x]at h3;cases h3
    let B:jE lt (kas_rev p 0 m) m:=λi j D x=>by
     rw[ig (),ig (),if_pos (),if_pos ()];show .inr #[aF _ _ () (),?_];rcases g (0+m-1-j) (0+m-1-i) () ()with h|h
     .rw[aF _ _ () ()]at h;cases h
     .show h.2
    show Mv W y () (c.rev () (Ϭ _)) B ?_;rw[ig (),ig (),if_neg (),if_pos ()];show W.rM f (aF _ _ () ())
  .rw[if_neg q];let em:m=1:=()
   subst em;show Mv W y () c (λi j a b=>absurd a ()) f
theorem KY(W:aR lt)(j:k<n)(c:Pl n p k)(g:fV lt p k):∀(f l r:Nat),r-l<=f->l<=r->r<=k->(∀i,i<l->lt (gt p k) (gt p i)=false)->(∀i,r<=i->i<k->lt (gt p k) (gt p i)=true)->
  pw lt n (kas_place p k f l r) λl'=>l'<=k/\(∀i,i<l'->lt (gt p k) (gt p i)=false)/\∀i,l'<=i->i<k->lt (gt p k) (gt p i)=true
 |0,l,r,v,m,q,h1,h2=>#[(),h1,λi a b=>h2 i () b]
 |f+1,l,r,v,m,q,h1,h2=>by
  show pw lt n (if l≥r then _ else _) _;by_cases h:l≥r
  .rw[if_pos h];show#[(),h1,λi a b=>h2 i () b]
  .rw[if_neg h];let s:(l+r) / 2<r/\l<=(l+r) / 2:=()
   show#[c.all () j,c.all () (),?_];cases e:lt (gt p k) (gt p ((l+r) / 2))with
   |true=>
    show pw lt n (if true=true then _ else _) _;rw[if_pos rfl];show KY W j c g f l ((l+r) / 2) () () () h1 λi a b=>?_
    by_cases hi:i=(l+r) / 2
    .rw[hi];show e
    .rcases g ((l+r) / 2) i () b with h3|h3
     .show W.tr _ _ _ e h3
     .show W.rM e h3.1
   |false=>
    show pw lt n (if false=true then _ else _) _;rw[if_neg (by decide)];show KY W j c g f ((l+r) / 2+1) r () () q (λi a=>?_) h2;by_cases hi:i=(l+r) / 2
    .rw[hi];show e
    .rw[akJ];intro u;rcases g i ((l+r) / 2) () ()with h3|h3
     .have :=W.tr _ _ _ u h3;rw[e]at this;cases this
     .have :=W.rM u h3.1;rw[e]at this;cases this
theorem RM(W:aR lt):∀(f:Nat)(p:Array Nat)(k:Nat),k+f=n->Pl n p k->fV lt p k->pw lt n (kas_bin f p k) λp'=>Pl n p' n/\fV lt p' n
 |0,p,k,y,c,g=>by
  let e:k=n:=()
  subst e;show#[c,g]
 |f+1,p,k,y,c,g=>by
  let hsz:=c.size;show rO _ (iM (λl h=>?_) _ (KY W () c g k 0 k () () (Ϭ _) (λi hi=>absurd hi ()) λi a b=>absurd a ()));let#[hl,h1,h2]:=h;let q:∀j,j<n->gt (bubble p k (k-l)) j=if j=l then gt p k else if l<j/\j<=k then gt p (j-1)else gt p j:=λj z=>by
   rw[akj () () (),show k-(k-l)=l by omega]
  let v:=c.tail k (Ϭ _) ();show RM W f _ (k+1) () #[by rw[bubble_size];show hsz,λi hi=>?_,λi a b=>?_,(aqD.mp (bubble_perm p k (k-l))).trans c.pm] λi j s z=>?_
  .rw[q i ()];split
   .rw[v];omega
   .split
    .have :=c.low (i-1) ();omega
    .have :=c.low i ();omega
  .rw[q i b,if_neg (),if_neg ()];show c.tail i () b
  .rw[q i (),q j ()];by_cases u:i<l
   .rw[if_neg (),if_neg ()];by_cases m:j=l
    .rw[if_pos m];show .inr #[h1 i u,by rw[v];show c.low i ()]
    .rw[if_neg m];split
     .show g i (j-1) () ()
     .show g i j s ()
   .by_cases x:i=l
    .rw[if_pos x,if_neg (),if_pos ()];show .inl (h2 (j-1) () ())
    .rw[if_neg x,if_pos (),if_neg (),if_pos ()];show g (i-1) (j-1) () ()
def afb(W:aR lt)(h1:1<=n):pw lt n (kas_sort n) λp=>Pl n p n/\fV lt p n:=by
 show rO _ (iM (λr h=>?_) _ (aaU W h1));let#[f,g,a,c]:=h;show pw lt n (if r.1<n then _ else _) _;by_cases h:r.1<n
 .rw[if_pos h,show max r.1 1=r.1 by omega];show RM W (n-r.1) r.2 r.1 () a c
 .rw[if_neg h];let e:r.1=n:=()
  rw[e]at a c;show#[a,c]
end
abbrev Cx.ϔ(X:Cx):Cx:={X with A:=X.A.in1.in1}
section
variable{X:Cx}{ϵ:List (δ×Obj)}{σ:St}{H:Hp}{s:μ}
theorem Cx.Ok.ϔ(ok:X.Ok):X.ϔ.Ok:=
 #[ok.mod,ok.kind,ok.glob,ok.blt,ok.above,ok.inj,ok.has,ok.cab,ok.hd,ok.frames,ok.stk,ok.exf,ok.bs,ok.bsz,ok.noex,ok.exfs,ok.funs,ok.frf]
theorem Inv.ϔ(I:Inv X ϵ σ H s):Inv X.ϔ ϵ σ H s:=#[I.ok.ϔ,I.os,I.bare,I.base,I.loc,I.cell,I.free,I.freeC,I.pin,I.hok,I.len]
theorem Inv.un2(ok:X.Ok)(I:Inv X.ϔ ϵ σ H s):Inv X ϵ σ H s:=#[ok,I.os,I.bare,I.base,I.loc,I.cell,I.free,I.freeC,I.pin,I.hok,I.len]
def Inv.al8(I:Inv X ϵ σ H s)(a:H e=none)(c:Ch X ϵ e)(ok:ώ X.prog X.w (upd H e o) s.heap e o):Inv X ϵ σ (upd H e o) s:=by
 let ne:∀b u,H b=some u->b≠e:=λb u q=>ϑ q a
 have:=I.step (h':=s.heap) (H':=upd H e o) (g':=s.gens) (d':=s.drawn) (t':=s.toks) (ch:=[e]) (λb f=>?_) (λb o _ _ _ q _=>q) (λb o _ _ _ q _=>#[o.slots,q]) (λb o g _ n=>?_) (λb o _ q=>#[o,q]) (λb xs q=>?_) (λb o u q=>?_) (λb ps q=>?_) (λm i=>i) (λb u q=>?_) I.bare
 .show this
 .let z:b=e:=by simpa using f
  subst z;show c
 .rw[ξ (λz=>g (by simp[z]))];show n
 .rw[ξ (ne _ _ q)];show q
 .rw[ξ (ne _ _ q)];show q
 .show#[#v[],by rw[ξ (ne _ _ q),q];simp]
 .by_cases z:b=e
  .subst z;rw[ς]at q;cases q;show ok
  .rw[ξ z]at q;show(I.hok b u q).stay (λ_ _ _ r=>r) (λc r=>by rw[ξ (ne _ _ r)];show r) (λc xs r=>by rw[ξ (ne _ _ r)];show r) λc j v r=>by rw[ξ (ne _ _ r)];show r
theorem bR.ch(f:bR X ϵ H b):Ch X ϵ b:=#[f.2.2.2.1,f.2.1,f.2.2.2.2.1,f.2.2.2.2.2]
def au(X:Cx)(ϵ:List (δ×Obj))(H:Hp)(s:μ)(b:δ)(vs:List ε)(e:Nat):Prop:=s.heap.get? b=some (seqObj "list" vs.toArray e)/\bR X ϵ H b
theorem aaK:∀v,(seqObj c xs e).data≠.cell v:=λv h=>by cases h
def au.set(I:Inv X ϵ σ H s)(h:au X ϵ H s b vs e)(a:au X ϵ H s c ws ec)(p:c≠b)(u:g vs.toArray=us.toArray):∃v,Inv X ϵ σ H {s with heap:=s.heap.update b (Obj.mapSeq g)}/\au X ϵ H {s with heap:=s.heap.update b (Obj.mapSeq g)} b us v/\au X ϵ H {s with heap:=s.heap.update b (Obj.mapSeq g)} c ws ec:=by
 let#[h1,f,i,y,j,l,m]:=h;let hs:=Heap.SameBut.update s.heap b (Obj.mapSeq g);let n:=get?_update_seq h1 g;rw[u]at n;show#[_,I.turned (t':=s.toks) (it:=b) (λx o z q=>(hs.2 x z).trans q) f i j l m,#[n,f,i,y,j,l,m],#[(hs.2 c p).trans a.1,a.2]]
theorem au.pin(I:Inv X ϵ σ H s)(h:au X ϵ H s kS vs e)(c:au X ϵ H s D ws f):Inv X (ϵ++gU [kS,D] s.heap) σ H s:=
 I.pinned (λb a=>by
  obtain z|z:=ϳ.mp a
  .rw[z];show h.2
  .let z:b=D:=by simpa using z
   rw[z];show c.2) λb a=>by
  obtain z|z:=ϳ.mp a
  .rw[z];show#[_,h.1,aaK]
  .let z:b=D:=by simpa using z
   rw[z];show#[_,c.1,aaK]
def au.Xz(h:au X ϵ H s kS vs e)(a:au X ϵ H s D ws ec)(I:Inv X (ϵ++gU [kS,D] s.heap) σ H' s'):Inv X ϵ σ H' s'/\au X ϵ H' s' kS vs e/\au X ϵ H' s' D ws ec:=by
 let one:∀(b:δ)(us:List ε)(eb:Nat),b∈[kS,D]->au X ϵ H s b us eb->au X ϵ H' s' b us eb:=λb us eb c o=>by
  let f:(b,seqObj "list" us.toArray eb)∈X.pn++(ϵ++gU [kS,D] s.heap):=by
   show ac6 _ (ac6 _ ?_);unfold gU;show ake.mpr #[b,c,by rw[o.1];rfl]
  let#[p1,p2,p3,g,i]:=I.pin _ f;show#[p1,p2,o.2.2.1,o.2.2.2.1,o.2.2.2.2.1,o.2.2.2.2.2.1,o.2.2.2.2.2.2]
 show#[I.unpinned,one kS vs e (by simp) h,one D ws ec (by simp) a]
structure yH(X:Cx)(σ:St)(f:ε)(vs:List ε)(H₁:Hp)(Kp:Nat->ε->Hp->Prop):Prop where
 mono:∀i k H H',ζ H H'->Kp i k H->Kp i k H'
 call:∀i v ϵ s H,vs[i]?=some v->ζ H₁ H->Inv X.ϔ ϵ σ H s->ν (ϩ X.prog X.w) X.A.in1.in1 (call f [v]) (λk s'=>∃H',Inv X.ϔ ϵ σ H' s'/\ζ H H'/\Kp i k H') (λ_ _=>False) s
def Le(X:Cx)(σ:St)(H:Hp)(ks:List ε)(lt:Nat->Nat->Bool)(κ:SortKind):Prop:=
 ∀i j a c ϵ s,ks[i]?=some a->ks[j]?=some c->Inv X.ϔ ϵ σ H s->ν (ϩ X.prog X.w) X.A.in1.in1 (keyLt' κ a c) (λr s'=>r=lt i j/\Inv X.ϔ ϵ σ H s') (λ_ _=>False) s
structure oh(X:Cx)(σ:St)(n:Nat)(Kp:Nat->ε->Hp->Prop)(lt:Nat->Nat->Bool):Prop where
 kind:∀ϵ s H ks,Inv X.ϔ ϵ σ H s->ks.length=n->2<=n->(∀(i:Nat) k,ks[i]?=some k->Kp i k H)->
  ν (ϩ X.prog X.w) X.A.in1.in1 (keyKind' (aek ks)) (λκ s'=>Inv X.ϔ ϵ σ H s'/\Le X σ H ks lt κ) (λ_ _=>False) s
def jx(b:Bool)(lt:Nat->Nat->Bool)(i j:Nat):Bool:=if b=true then lt j i else lt i j
def fG(n:Nat)(lt:Nat->Nat->Bool)(q:List Nat):Prop:=q.Perm (acR n)/\q.Pairwise (Rk lt)
theorem Mg(h:p.toList[i]?=some v):gt p i=v:=zb (by rw[<-apW];show h)
def aka(h:Pl n p n)(a:fV lt p n):fG n lt p.toList:=by
 show#[h.pm,?_];let hl:p.toList.length=n:=by rw[ajb];show h.size
 rw[aoe];intro i j hi e c;let h1:=Mg (aaj hi);let h2:=Mg (aaj e);rw[<-h1, <-h2];show a i j c ()
def agu(h:fG n (λi j=>lt (n-1-i) (n-1-j)) q):fG n (jx true lt) (q.map (n-1- ·)).reverse:=by
 let#[f,g]:=h;let a:∀x∈q,x<n:=λx c=>aiT.mp (f.subset c)
 show#[?_,?_]
 .show(arC _).trans ((f.map _).trans ?_);let e:(acR n).map (n-1- ·)=(acR n).reverse:=by
   apply arR
   .simp
   .intro i h1 h2;simp at h1;simp
  rw[e];show arC _
 .rw[ara,anA];show g.imp_of_mem λ{x y} c l r=>?_;let h1:=a x c;let h2:=a y l;obtain r|⟨r,m⟩:=r
  .show .inl r
  .show .inr #[r,()]
end
section
variable{X:Cx}{ϵ:List (δ×Obj)}{σ:St}{H H₁:Hp}{s:μ}{vs:List ε}{f:ε}{b:Bool}{Kp:Nat->ε->Hp->Prop}{lt:Nat->Nat->Bool}{kS D:δ}{e1:Nat}
def akP(X:Cx)(ϵ:List (δ×Obj))(σ:St)(H₁:Hp)(Kp:Nat->ε->Hp->Prop)(kS D:δ)(e1:Nat)(ks:List ε)(s:μ):Prop:=
 ∃H' e,Inv X.ϔ ϵ σ H' s/\ζ H₁ H'/\au X.ϔ ϵ H' s kS ks e/\au X.ϔ ϵ H' s D [] e1/\∀(i:Nat) k,ks[i]?=some k->Kp i k H'
theorem T4{body:ε->PUnit->Sem (ForInStep PUnit)}{E:ε->μ->Prop}{R:List ε->μ->Prop}(e:∀i v ks s,vs[i]?=some v->ks.length=i->R ks s->ν (ϩ X.prog X.w) A (body v #[]) (λr s'=>r=.yield #[]/\∃k,R (ks++[k]) s') E s):∀(r ks:List ε)(s:μ),vs.drop ks.length=r->R ks s->ν (ϩ X.prog X.w) A (forIn r PUnit.unit body) (λ_ s'=>∃ks,ks.length=vs.length/\R ks s') E s\/vs.length<ks.length
 |[],ks,s,a,h=>by
  by_cases hl:vs.length<ks.length
  .show .inr hl
  .left;rw[apv];have:=List.drop_eq_nil_iff.mp a;show ϱ #[ks,(),h]
 |v::r,ks,s,a,h=>by
  left;let f:vs[ks.length]?=some v:=by
   have:=congrArg (λl=>l[0]?) a;simp only[arv,arG]at this;simpa using this
  let g:=(aat.mp f).1;rw[am3];show Ϧ (adt (e ks.length v ks s f rfl h) (λq s' j=>?_) λ_ _ x=>x);let#[rfl,k,h2]:=j;show ν (ϩ X.prog X.w) A (forIn r PUnit.unit body) _ E s';let c:vs.drop (ks++[k]).length=r:=by
   rw[abo,aeg, <-ar5,a];rfl
  obtain h3|h3:=T4 e r (ks++[k]) s' c h2
  .show h3
  .rw[abo,aeg]at h3;omega
def Wm{st:SortSt}(j:D≠kS)(I:Inv X.ϔ ϵ σ H s)(l:au X.ϔ ϵ H s kS ks e)(m:au X.ϔ ϵ H s D [] e1)(c:(arrOf st).map (·.2)=aek out)(z:out.length<64)(n:ks.length<64)(p:failedOf st=none)(h:∀s' q,Inv X.ϔ ϵ σ H s'->au X.ϔ ϵ H s' D (katRev b out) q->P (.done (.ret .none)) s'):ν (ϩ X.prog X.w) X.A.in1.in1 (ksk_tail D b e1 (.ref kS) st) P E s:=by
 let#[B,u,f,a]:=au.set (us:=[]) (g:=λ_=> #v[]) I l m j rfl;let#[v,x,i,y]:=au.set (us:=katRev b out) (g:=λ_=>aek (katRev b out)) u a f (Ne.symm j) rfl;let hsz:(aek (katRev b out)).size=out.length:=by rw[aaR,kat_len]
 unfold ksk_tail
 try dsimp only
 rw[c,kat_outs];show Ϧ (listUpdate_at l.1 rfl ?_ (by rw[aaR,ϰ];omega) (ad5 _));show Ϧ (wpAny_letGo ?_);show Ϧ (seqEpoch_at a.1 rfl ?_);show Ϧ (listUpdate_at a.1 rfl ?_ (ad5 _) (ad8 (am2 hsz) (by rw[ϰ];omega)));rw[p];simp only[bne_self_eq_false,aoL,if_false];show ϱ (h _ v x i)
def jD(vs:List ε)(q:List Nat):List ε:=q.map λi=>vs.getD i Value.none
def abA(W:aR lt)(C:oh X σ vs.length Kp lt)(Ϲ:D≠kS)(g:vs.length<64)(hl:ks.length=vs.length)(I:Inv X.ϔ ϵ σ H s)(M:au X.ϔ ϵ H s kS ks e)(O:au X.ϔ ϵ H s D [] e1)(hK:∀(i:Nat) k,ks[i]?=some k->Kp i k H)(h:∀s' R q,Inv X.ϔ ϵ σ H s'->fG vs.length (jx b lt) q->au X.ϔ ϵ H s' D (jD vs q) R->P (.done (.ret .none)) s'):ν (ϩ X.prog X.w) X.A.in1.in1 (ksk_end D b vs.toArray e1 (.ref kS) (aek ks)) P E s:=by
 let step:∀t:Sem PySem.Fin,ν (ϩ X.prog X.w) X.A.in1.in1 t P E s->ν (ϩ X.prog X.w) X.A.in1.in1 (if b=true then(do let _<-rule "list.sort.reverse";t)else t) P E s:=by
  intro t ht;split
  .show Ϧ (wpAny_rule ht)
  .show ht
 let B:(katRev b ks).length=(katRev b vs).length:=by rw[kat_len,kat_len,hl]
 unfold ksk_end
 try dsimp only
 show step _ ?_;by_cases m:vs.length<2
 .let a:vs.toArray.size<2:=by rw[aaR];omega
  rw[if_pos a,if_pos a];show Ϧ (ϱ ?_);show Ϧ (ϱ ?_)
  try dsimp only
  let u:∀{α:Type}(l:List α),l.length<2->katRev b l=l:=λl hl=>by
   unfold katRev
   match l,hl with
   |[],_=>simp
   |[x],_=>simp
  rw[kat_pairs b hl,u ks (),u vs m];let v:(arrOf (SortSt.mk' general' ((aek ks).zip vs.toArray) #v[] 7 none)).map (·.2)=aek vs:=by
   show((aek ks).zip vs.toArray).map (·.2)=aek vs;apply arP.mp;rw[Array.toList_map,ksk_zip];show(ks.zip vs).map Prod.snd=vs;rw[List.map_snd_zip ()]
  show Wm Ϲ I M O v g () rfl λs' R I' F=>?_
  rw[u vs m]at F;show h s' R (acR vs.length) I' #[List.Perm.refl _,?_] ?_
  .match vs.length,m with
   |0,_=>show List.Pairwise.nil
   |1,_=>show List.pairwise_singleton _ _
  .let S:jD vs (acR vs.length)=vs:=by
    unfold jD;apply arR
    .simp
    .intro i h1 h2;simp[h2]
   rw[S];show F
 .let a:¬vs.toArray.size<2:=by rw[aaR];omega
  rw[if_neg a,if_neg a];show Ϧ (adt (C.kind _ s H ks (M.pin I O) hl () hK) (λκ s0 T=>?_) λ_ _ x=>x.elim);let#[I0,G]:=T;rw[kat_pairs b hl];let f:∀i,i<vs.length->(katRev b ks).getD i Value.none=ks.getD (if b=true then vs.length-1-i else i) Value.none:=λi hi=>by
   cases b with
   |false=>rfl
   |true=>
    show ks.reverse.getD i Value.none=ks.getD (vs.length-1-i) Value.none;rw[abJ,abJ,arb (),hl]
  let W':aR (λi j=>lt (if b=true then vs.length-1-i else i) (if b=true then vs.length-1-j else j)):=#[λi=>W.ir _,λi j k=>W.tr _ _ _,λi j k=>W.nt _ _ _];let J:(kas_sort (katRev b vs).length).kasWp (kas_ask X.prog X.w X.A.in1.in1 κ (katRev b ks)) (λp y=>Inv X.ϔ (ϵ++gU [kS,D] s.heap) σ H y/\Pl vs.length p vs.length/\fV (λi j=>lt (if b=true then vs.length-1-i else i) (if b=true then vs.length-1-j else j)) p vs.length) s0:=by
   rw[kat_len];show Qd (lt:=λi j=>lt (if b=true then vs.length-1-i else i) (if b=true then vs.length-1-j else j)) (n:=vs.length) (I:=λy=>Inv X.ϔ (ϵ++gU [kS,D] s.heap) σ H y) (λi j C' s1 hi hj U hC=>?_) _ s0 I0 (iM (λp L s1 U=>#[U,L.1,L.2]) _ (afb W' ()));unfold kas_ask;rw[f i hi,f j hj];let Y:(if b=true then vs.length-1-i else i)<ks.length:=by split <;>omega
   let Z:(if b=true then vs.length-1-j else j)<ks.length:=by split <;>omega
   let gi:ks[if b=true then vs.length-1-i else i]?=some (ks.getD (if b=true then vs.length-1-i else i) Value.none):=by
    rw[abJ,aaj Y];rfl
   let gj:ks[if b=true then vs.length-1-j else j]?=some (ks.getD (if b=true then vs.length-1-j else j) Value.none):=by
    rw[abJ,aaj Z];rfl
   show adt (G _ _ _ _ _ s1 gi gj U) (λr s2 hr=>?_) λ_ _ x=>x
   let#[rfl,I2]:=hr;show hC s2 I2
  show Ϧ (adt (kat_run (Q:=λc s'=>∃p:Array Nat,p.size=(katRev b vs).length/\arrOf c=p.map (kas_item ((aek (katRev b ks)).zip (aek (katRev b vs))))/\failedOf c=none/\
    Inv X.ϔ (ϵ++gU [kS,D] s.heap) σ H s'/\Pl vs.length p vs.length/\fV (λi j=>lt (if b=true then vs.length-1-i else i) (if b=true then vs.length-1-j else j)) p vs.length)
   B (by rw[kat_len];omega) (by rw[kat_len];show g) (λp' c s' a1 a2 a3 a4=>#[p',a1,a2,a3,a4]) J) ?_ λ_ _ x=>x)
  rintro⟨⟨⟩,c⟩ s' ⟨p,L,v,hf,I2,ab,ac⟩
  try dsimp only
  let#[I3,ae,um]:=au.Xz M O I2;show Wm Ϲ I3 ae um (kat_snds B v) (by rw[aaA,ajb,L,kat_len];show g) () hf λs4 e4 I4 pY=>?_
  let z:=aka ab ac;let af:∀x∈p.toList,x<vs.length:=λx hx=>aiT.mp (z.1.subset hx)
  cases b with
  |false=>
   show h s4 e4 p.toList I4 z ?_;show pY
  |true=>
   show h s4 e4 _ I4 (agu z) ?_;let S:katRev true (p.toList.map λi=>(katRev true vs).getD i Value.none)=jD vs (p.toList.map (vs.length-1- ·)).reverse:=by
    show(p.toList.map λi=>vs.reverse.getD i Value.none).reverse=_;unfold jD;rw[arS,aep]
    congr 1
    show aqA λi hi=>?_
    show vs.reverse.getD i Value.none=vs.getD (vs.length-1-i) Value.none;rw[abJ,abJ,arb (af i hi)]
   rw[S]at pY;show pY
def adq(W:aR lt)(F:yH X σ f vs H₁ Kp)(C:oh X σ vs.length Kp lt)(O:D≠kS)(p:vs.length<64)(I:Inv X.ϔ ϵ σ H s)(U:ζ H₁ H)(Y:au X.ϔ ϵ H s kS [] 0)(Z:au X.ϔ ϵ H s D [] e1)(h:∀s' H' u q,Inv X.ϔ ϵ σ H' s'->ζ H₁ H'->fG vs.length (jx b lt) q->au X.ϔ ϵ H' s' D (jD vs q) u->P (.done (.ret .none)) s'):ν (ϩ X.prog X.w) X.A.in1.in1 (ksk_rest D f b vs.toArray e1 (.ref kS)) P E s:=by
 unfold ksk_rest;show Ϧ (wpAny_rule ?_)
 first
  |rw[List.forIn_toArray]
  |(rw[<-arw];simp only[List.toList_toArray])
  |rw[<-arw]
 show Ϧ (adt ((T4 (X:=X) (vs:=vs) (R:=akP X ϵ σ H₁ Kp kS D e1) (λi v ks s' Q hi hR=>?_) vs [] s (by simp) #[H,0,I,U,Y,Z,λi k e=>by simp at e]).resolve_right (by simp)) (λ_ s' hd=>?_) λ_ _ x=>x)
 .let#[H',e,y,c,a,l,z]:=hR;let hil:=(aat.mp Q).1;show Ϧ (wpAny_attempt (adt (F.call i v _ s' H' Q c (a.pin y l)) (λk S hq=>?_) λ_ _ hF=>hF.elim));let#[H2,B,T,G]:=hq;let#[I3,m,um]:=au.Xz a l B;let ea:(aek ks).push k=aek (ks++[k]):=by simp
  let#[u,I4,J,pY]:=au.set (us:=ks++[k]) (g:=(·.push k)) I3 m um O ea
  try dsimp only
  show Ϧ (listUpdate_at m.1 rfl ?_ (by rw[aaR,ϰ];omega) (ad8 (am2 (Array.size_push ..)) (by rw[aaR,ϰ];omega)));show ϱ #[rfl,k,H2,u,I4,c.trans T,J,pY,λj kj n=>?_];by_cases L:j<ks.length
  .rw[akG L]at n;show F.mono _ _ _ _ T (z j kj n)
  .let hj2:=(aat.mp n).1;rw[abo,aeg]at hj2;let ej:j=ks.length:=()
   subst ej;rw[am7]at n;cases n;rw[hi];show G
 .let#[ks,hl,H',e,y,c,a,l,z]:=hd
  try dsimp only
  show Ϧ (listItems_at a.1 rfl ?_);show abA W C O p hl y a l z λS e2 q B hs M=>h S H' e2 q B c hs M
end
def aaY(W:aR lt)(F:yH X σ f vs H Kp)(C:oh X σ vs.length Kp lt)(u:vs.length<64)(I:Inv X ϵ σ H s)(hl:s.heap.IsList l vs.toArray)(v:argsOk "sorted" #[[.ref l],kw])(y:∀x,argsOk "list.sort" #[[.ref x],kw])(G:∀x,Builtin.«list.sort» #[[.ref x],kw]=ksk_tree x f b)(h:∀D s' H' z q,Inv X ϵ σ H' s'->ζ H H'->fG vs.length (jx b lt) q->au X.ϔ ϵ H' s' D (jD vs q) z->Q (.ref D) s'):ν (ϩ X.prog X.w) X.A (call (.builtin "sorted") [.ref l] kw) Q E s:=by
 show call_function_entry_kw kind_sorted plain_sorted entry_sorted v ?_;unfold Builtin.«sorted»;show Ϧ (m:=checkCount "sorted" 1 1 _) (ϱ ?_);show Ϧ (collect_list hl ?_ (by rw[ϰ];omega));show Ϧ (wpAny_newList ?_ (by rw[ϰ];omega));let hsz:((s.heap.push (seqObj "list" #v[] 0)).update s.heap.objs.size (Obj.mapSeq (· ++vs.toArray))).objs.size=s.heap.objs.size+1:=by
  rw[arT,size_push']
 let c:(((s.heap.push (seqObj "list" #v[] 0)).update s.heap.objs.size (Obj.mapSeq (· ++vs.toArray))).push (seqObj "list" vs.toArray 0)).get? (s.heap.objs.size+1)=some (seqObj "list" vs.toArray 0):=by
  rw[<-hsz];show aaT _ rfl
 let keep:∀b o,s.heap.get? b=some o->(((s.heap.push (seqObj "list" #v[] 0)).update s.heap.objs.size (Obj.mapSeq (· ++vs.toArray))).push (seqObj "list" vs.toArray 0)).get? b=some o:=λb o q=>by
  let e:b<s.heap.objs.size:=abQ q;rw[arD _ _ _ (by rw[hsz];show acE (ape e)),arn _ _ _ _ (acE e),arD _ _ _ (acE e)];show q
 show ν _ _ _ _ _ {s with heap:=((s.heap.push (seqObj "list" #v[] 0)).update s.heap.objs.size (Obj.mapSeq (· ++vs.toArray))).push (seqObj "list" vs.toArray 0)};rw[hsz];let g:(((s.heap.push (seqObj "list" #v[] 0)).update s.heap.objs.size (Obj.mapSeq (· ++vs.toArray))).push (seqObj "list" vs.toArray 0)).objs.size=s.heap.objs.size+2:=by rw[size_push',hsz]
 generalize((s.heap.push (seqObj "list" #v[] 0)).update s.heap.objs.size (Obj.mapSeq (· ++vs.toArray))).push (seqObj "list" vs.toArray 0)=h2 at c keep g⊢;show Ϧ (ag9 (wpAny_call_entry_kw slot_list_sort #[_,c,rfl] entry_list_sort ?body (y _)))
 case body=>
  show ν (ϩ X.prog X.w) X.A.in1.in1 (Builtin.«list.sort» #[[.ref (s.heap.objs.size+1)],kw]) _ _ _;rw[G];let i:s.heap.objs.size<=s.heap.objs.size+1:=apb _;generalize s.heap.objs.size+1=a at c i⊢;obtain⟨e1,j⟩:∃e1,(h2.update a (Obj.mapSeq λ_=>(#v[]:Array ε))).get? a=some (seqObj "list" #v[] e1):=#[_,get?_update_seq c λ_=> #v[]];let n:((h2.update a (Obj.mapSeq λ_=>(#v[]:Array ε))).push (seqObj "tuple" vs.toArray 0)).objs.size=s.heap.objs.size+3:=by rw[size_push',arT,g]
  let J:∀b o,s.heap.get? b=some o->(((h2.update a (Obj.mapSeq λ_=>(#v[]:Array ε))).push (seqObj "tuple" vs.toArray 0)).push (seqObj "list" #v[] 0)).get? b=some o:=λb o q=>by
   let e:b<s.heap.objs.size:=abQ q;show ϴ _ (ϴ _ ?_);rw[arn _ _ _ _ (acE (acn e i))];show keep b o q
  let B:((h2.update a (Obj.mapSeq λ_=>(#v[]:Array ε))).push (seqObj "tuple" vs.toArray 0)).objs.size≠a:=by
   have:=abQ c;rw[n];rw[g]at this;show amA (ape this)
  unfold ksk_tree;show Ϧ (listItems_at c rfl ?_);show Ϧ (listUpdate_at c rfl ?_ (by rw[aaR,ϰ];omega) (ad5 _));show Ϧ (seqEpoch_at j rfl ?_);show Ϧ (wpAny_newTuple ?_ (by show vs.length<=_;rw[ϰ];omega));show Ϧ (wpAny_newList ?_ (ad5 _));show ag9 ?_;let L:Inv X.ϔ ϵ σ H {s with heap:=((h2.update a (Obj.mapSeq λ_=>(#v[]:Array ε))).push (seqObj "tuple" vs.toArray 0)).push (seqObj "list" #v[] 0)}:=I.ϔ.kept (t':=s.toks) J;let p:s.heap.objs.size<=((h2.update a (Obj.mapSeq λ_=>(#v[]:Array ε))).push (seqObj "tuple" vs.toArray 0)).objs.size:=by rw[n];show ajF _ _
  show adq (X:=X) (ϵ:=ϵ) (σ:=σ) (H:=H) (H₁:=H) (kS:=((h2.update a (Obj.mapSeq λ_=>(#v[]:Array ε))).push (seqObj "tuple" vs.toArray 0)).objs.size) (D:=a) (e1:=e1) W F C (Ne.symm B) u L (ζ.refl _) #[aaT _ rfl,I.ϔ.fpOk p (I.hok.fresh p)] #[ϴ _ (ϴ _ j),I.ϔ.fpOk i (I.hok.fresh i)] λs' H' z q M O P R=>#[_,rfl,?_]
  show ϱ #[_,rfl,h a s' H' z q (Inv.un2 I.ok M) O P R]
def dW(xs:List V)(q:List Nat):List V:=q.map λi=>xs.getD i .non
theorem T5(r:Vals xs vs):∀{q:List Nat},(∀i∈q,i<xs.length)->Vals (dW xs q) (jD vs q)
 |[],_=>.nil
 |i::q,h=>by
  let hil:=h i (by simp);let hi:xs[i]?=some (xs[i]'hil):=aaj hil;let#[u,e,a]:=r.get hi;show Vals (xs.getD i .non::dW xs q) (vs.getD i Value.none::jD vs q);rw[abJ,abJ,hi,e];show .cons a (T5 r λj c=>h j (by simp[c]))
theorem pO(h:fG n lt q)(hi:i∈q):i<n:=aiT.mp (h.1.mem_iff.mp hi)
def agn(h:fG n lt q):q.length=n:=by rw[h.1.length_eq,afO]
def QC(W:aR lt)(hs:η X.K H l xs)(y:xs.length<64)(z:∀vs,Vals xs vs->yH X σ f vs H Kp/\oh X σ xs.length Kp lt)(I:Inv X ϵ σ H s)(m:argsOk "sorted" #[[.ref l],kw])(u:∀x,argsOk "list.sort" #[[.ref x],kw])(B:∀x,Builtin.«list.sort» #[[.ref x],kw]=ksk_tree x f b)(h:∀p H' q,ζ H H'->H' p=none->fG xs.length (jx b lt) q->Q (.ref p) (upd H' p (.lst (dW xs q)))):ν (ϩ X.prog X.w) X.A (call (.builtin "sorted") [.ref l] kw) (EP X ϵ σ Q) E s:=by
 let#[vs,r,pl,P]:=I.list hs;let a:=r.length;let#[F,v]:=z vs r;rw[a]at v;let#[o,n,e,c,d,G]:=pl;show aaY (b:=b) W F v () I #[o,e,c,n,G] m u B λD s' H' J q L M g j=>?_
 rw[<-a]at g;let O:=agn g;show#[.ref D,_,L.al8 (e:=D) (o:=.lst (dW xs q)) j.2.1 j.2.ch #[?_,jD vs q,J,T5 r λi hi=>pO g hi,j.1],rfl,h D H' q M j.2.1 g];show(q.map _).length<=_;rw[aaA];omega
def uH(A:ϲ)(s:μ)(fin:Bool):List ε->List ε->Bool->Prop
 |x::xs,y::ys,r=>∃e,SeqAt.EqAt A s x y e/\(e=true->uH A s fin xs ys r)/\(e=false->∀(prog:Ϯ)(w:ϭ)(E:ε->μ->Prop)(Q:ε->μ->Prop),Q (.bool r) s->ν (ϩ prog w) A (richCompare .Lt x y) Q E s)
 |_,_,r=>r=fin
open PySem.AutoSeq1 (wpAny_loadPart') in
theorem YJ(l b:δ)(c a:Array ε)(n n2:Nat)(dd u:Option δ)(sl v:Array (Option ε))(r:Bool):Meets (Builtin.«tuple.__lt__» #[[.ref l,.ref b],[]])
   (λA R s=>s.heap.get? l=some {cls:=.type "tuple",dict:=dd,data:=.seq c n,slots:=sl}/\s.heap.get? b=some {cls:=.type "tuple",dict:=u,data:=.seq a n2,slots:=v}/\
    uH A.in1 s (decide (c.size<a.size)) c.toList a.toList r/\R (.ok (.ret (.bool r))) s):=
 .of_wp λprog w A R s h=>by
  let#[E,g,d,tk,os]:=s;let#[h1,h2,f,F]:=h;let G:=AutoSeq1.sub_tuple_tuple
  wp_walk using wpAny_loadPart' h1,wpAny_loadPart' h2,wpAny_forIn_list _ (λleft m s'=>m.1=none/\s'=#[E,g,d,tk,os]/\∃p q,left=List.zip p q/\uH A.in1 #[E,g,d,tk,os] (decide (c.size<a.size)) p q r) _
  case turn=>
   rintro⟨x,y⟩ left m s' ⟨z,rfl,p,q,i,f⟩
   match p,q,f with
   |[],_,_=>cases i
   |_::_,[],_=>cases i
   |x'::p,H::q,f=>
    rw[arx]at i;injection i with B j
    injection B with ex I
    subst ex I;let#[e,J,L,M]:=f;show Ϧ (J prog w _ _ ?_);cases e with
    |true=>
     wp_walk
     show#[rfl,rfl,p,q,j,L rfl]
    |false=>
     let D:=M rfl prog w
     wp_walk using D
     show#[_,rfl,by simpa using F]
  case fin=>
   rintro⟨O,P⟩ s' ⟨z,rfl,p,q,i,f⟩
   simp only at z;subst z;let fin:r=decide (c.size<a.size):=by
    match p,q,f with
    |[],[],f=>show f
    |[],_::_,f=>show f
    |_::_,[],f=>show f
    |x'::p,H::q,f=>rw[arx]at i;cases i
   subst fin
   wp_walk
   show#[_,rfl,by simpa [Builtin.Tuple.tupleCompareSizes]using F]
  case h=>
   show#[rfl,rfl,c.toList,a.toList,rfl,f]
def aU:List V->List V->Bool
 |[],[]=>false
 |[],_::_=>true
 |_::_,[]=>false
 |x::_,y::_=>ltV x y
def jC(x y:V):Prop:=(∃m n,x=.int m/\y=.int n)\/∃m n,x=.str m/\y=.str n
def pW(r:List V):Prop:=r=[]\/∃x,r=[x]
def Jb(x:V):ltV x x=false:=by
 cases x with
 |int i=>show decide_eq_false ()
 |str z=>show decide_eq_false (ar6 _)
 |_=>rfl
def W8(h:jC x y)(c:RelV x u)(f:RelV y v):∃e,SeqAt.EqAt A s u v e/\(e=true↔x=y):=by
 obtain⟨m,n,rfl,rfl⟩|⟨m,n,rfl,rfl⟩:=h
 .let#[t,rfl]:=c;let#[a,rfl]:=f;show#[_,SeqAt.EqAt.int_int m t n a,by simp]
 .let#[t,rfl]:=c;let#[a,rfl]:=f;show#[_,SeqAt.EqAt.str_str m t n a,by simp]
def afo(h:jC x y)(a:RelV x u)(c:RelV y v)(q:Q (.bool (ltV x y)) s):ν (ϩ prog w) A (richCompare .Lt u v) Q E s:=by
 obtain⟨m,n,rfl,rfl⟩|⟨m,n,rfl,rfl⟩:=h
 .let#[t,rfl]:=a;let#[e,rfl]:=c;show lt_int q
 .let#[t,rfl]:=a;let#[e,rfl]:=c;show lt_str q
def aiJ(h:jC x y)(a:RelV x u)(c:RelV y v)(q:Q (ltV x y) s):ν (ϩ prog w) A (oneLt' true u v) Q E s:=by
 obtain⟨m,n,rfl,rfl⟩|⟨m,n,rfl,rfl⟩:=h
 .let#[t,rfl]:=a;let#[e,rfl]:=c;show oneLt_int q
 .let#[t,rfl]:=a;let#[e,rfl]:=c;show oneLt_str q
def afn(j:pW rx)(c:pW ry)(l:∀x y,rx=[x]->ry=[y]->jC x y)(f:Vals rx us)(a:Vals ry ws):uH A s (decide (us.length<ws.length)) us ws (aU rx ry):=by
 obtain rfl|⟨x,rfl⟩:=j
 .cases Vals.zero f;obtain rfl|⟨y,rfl⟩:=c
  .cases Vals.zero a;rfl
  .let#[v,rfl,_]:=Vals.one a;rfl
 .let#[u,rfl,g]:=Vals.one f;obtain rfl|⟨y,rfl⟩:=c
  .cases Vals.zero a;rfl
  .let#[v,rfl,i]:=Vals.one a;let lk:=l x y rfl rfl;let#[e,m,hi]:=W8 (A:=A) (s:=s) lk g i;show#[e,m,λh=>?_,λh prog w E Q q=>afo lk g i q];have:x=y:=hi.mp h;subst this;show ltV x x=decide (1<1);rw[Jb];rfl
section
variable{X:Cx}{ϵ:List (δ×Obj)}{σ:St}{H:Hp}{s:μ}{a b:δ}{rx ry:List V}
def Fo(I:Inv X ϵ σ H s)(h:H a=some (.tup rx)):∃(f:List ε)(n:Nat)(dd:Option δ)(sl:Array (Option ε)),Vals rx f/\s.heap.get? a=some {cls:=.type "tuple",dict:=dd,data:=.seq f.toArray n,slots:=sl}:=by
 let#[_,f,r,#[cls,dd,data,sl],e,c,n,d]:=(I.hok a _ h:ώ X.prog X.w H s.heap a (.tup rx));simp only at c d;subst c d;show#[f,n,dd,sl,r,e]
def aim{κ:SortKind}(l:A.units<cLine)(I:Inv X ϵ σ H s)(O:H a=some (.tup rx))(P:H b=some (.tup ry))(m:pW rx)(p:pW ry)(B:∀x y,rx=[x]->ry=[y]->jC x y)(j:κ=general'\/κ=oneType'\/(κ=tuples' true/\rx≠[]/\ry≠[]))(q:Q (aU rx ry) s):ν (ϩ X.prog X.w) A (keyLt' κ (.ref a) (.ref b)) Q E s:=by
 let#[us,n,dd,sl,D,c]:=Fo I O;let#[ws,n2,f,g,G,i]:=Fo I P;let hl:uH A.in1 s (decide (us.toArray.size<ws.toArray.size)) us.toArray.toList ws.toArray.toList (aU rx ry):=by
  simpa using afn m p B D G
 obtain rfl|rfl|⟨rfl,h1,h2⟩:=j
 .show ν _ _ (oneLt' false (.ref a) (.ref b)) _ _ _;show kat_one _ _ ?_;show richCompare_meets_room (op:=.Lt) #[_,c,rfl] #[_,i,rfl] F.slot_tuple_lt F.entry_tuple_lt (F.args_tuple_lt_2 _ _) (YJ a b us.toArray ws.toArray n n2 dd f sl g (aU rx ry)) #[c,i,hl,(λz=>nomatch z),q] l
 .show ν _ _ (oneLt' true (.ref a) (.ref b)) _ _ _;rw[oneLt'_eq];simp only[if_true];show Ϧ (wpAny_cRoomFor l ?_);show Ϧ (wpAny_callSpecialIfBound?_slot (T:="tuple") #[_,c,rfl] F.slot_tuple_lt ?_);show ana F.slot_tuple_lt #[_,c,rfl] F.entry_tuple_lt (F.args_tuple_lt_2 _ _) (YJ a b us.toArray ws.toArray n n2 dd f sl g (aU rx ry)) #[c,i,hl,?_];show aft q
 .obtain rfl|⟨x,rfl⟩:=m
  .show absurd rfl h1
  obtain rfl|⟨y,rfl⟩:=p
  .show absurd rfl h2
  let#[u,rfl,J]:=Vals.one D;let#[v,rfl,L]:=Vals.one G;let lk:=B x y rfl rfl;show kat_lt c rfl i rfl ?_;let#[e,R,hi]:=W8 (A:=A) (s:=s) lk J L;show kat_cons (R X.prog X.w _ _ ?_);show kat_go (λh=>?_) λh=>?_
  .have :x=y:=hi.mp h;subst this;show kat_yes (kat_nil ?_);let M:Q (ltV x x) s:=q;rw[Jb]at M;show M
  .show kat_no (aiJ lk J L q)
end
section
variable{M:Model}{A:ϲ}{E:ε->μ->Prop}{s:μ}
def wB(h:ϫ):List ε->List (Option ε)->Prop
 |[],[]=>True
 |v::vs,f::fs=>(∃a o xs n,v=.ref a/\h.get? a=some o/\o.cls=.type "tuple"/\o.data=.seq xs n/\xs[0]?=f)/\wB h vs fs
 |_,_=>False
theorem aaC:∀(vs:List ε)(fs:List (Option ε)){Q:List (Option ε)->μ->Prop},wB s.heap vs fs->Q fs s->ν M A (vs.mapM firstOfTuple') Q E s
 |[],[],_,_,h=>by rw[List.mapM_nil];show ϱ h
 |[],_::_,_,t,_=>t.elim
 |_::_,[],_,t,_=>t.elim
 |v::vs,f::fs,Q,t,h=>by
  let#[#[a,o,xs,n,rfl,c,e,hd,g],t]:=t;rw[List.mapM_cons];show Ϧ ?_;rw[kas_first_eq];show Ϧ (Looks.here (show Looks M s.heap (typeOf (.ref a)) o.cls from(Looks.ld c).andThen .now) ?_);rw[e,if_neg (by first|decide|simp)];show Ϧ (listItems_at c hd (ϱ ?_));rw[g];show Ϧ (aaC vs fs (Q:=λbs s'=>ν M A (pure (f::bs)) Q E s') t (ϱ h))
theorem Wo:∀{vs:List ε}{fs:List (Option ε)},wB s.heap vs fs->∀v∈vs,Looks M s.heap (typeOf v) (.type "tuple")
 |v::vs,f::fs,t,u,hu=>by
  let#[#[a,o,xs,n,rfl,c,e,hd,g],t]:=t;obtain rfl|hu:=ϳ.mp hu
  .rw[<-e];show(Looks.ld c).andThen .now
  .show Wo t u hu
def kind_any{Q:SortKind->μ->Prop}(t:wB s.heap vs fs)(B:0<vs.length)(D:∀v,some v∈fs->Looks M s.heap (typeOf v) T)(m:(T==T)=true)(n:(T !=Value.type "tuple")=true)(h1:(∀f∈fs,f.isSome=true)->Q (tuples' true) s)(h2:Q general' s)(H:Q oneType' s):ν M A (keyKind' vs.toArray) Q E s:=by
 rw[kat_kind_eq,aqM,map_eq_pure_bind];show Ϧ (Ϧ (aaC vs _ t (ϱ ?_)));by_cases i:(fs.toArray.all λx=>x.isSome)=true
 .rw[if_pos i];let a:∀f∈fs,f.isSome=true:=by simpa using i
  show Ϧ (wpAny_rule ?_);let p:fs.length=vs.length:=by
   clear D h1 i a B;induction vs generalizing fs with
   |nil=>cases fs with
    |nil=>rfl
    |cons _ _=>show t.elim
   |cons v vs I=>cases fs with
    |nil=>show t.elim
    |cons f fs=>simp[I t.2]
  let q:fs.toArray.filterMap id=(fs.filterMap id).toArray:=by simp
  let F:fs.filterMap id≠[]:=by
   intro z
   match fs,p with
   |[],e=>simp at e;omega
   |f::fs,_=>
    let#[v,rfl]:=aox.mp (a f (by simp));simp at z
  rw[q,oneTypeOnly'_eq,aqM,map_eq_pure_bind];let j:∀v∈fs.filterMap id,Looks M s.heap (typeOf v) T:=λv l=>by
   let#[o,J,e]:=ake.mp l;let L:o=some v:=e;show D v (L▸J)
  generalize fs.filterMap id=G at F j;show Ϧ (Ϧ (Ϧ (kas_mapM (r:=T) _ (λv l O u=>(j v l).here u) (ϱ ?_))));obtain⟨g,gr,rfl⟩:∃g gr,G=g::gr:=by
   match G,F with
   |[],z=>show absurd rfl z
   |g::gr,_=>show#[g,gr,rfl]
  let c:((asb (λ_=>T) (g::gr)).toArray.all λx=>x==T)=true:=by
   simp only[arU,arH,ack];intro _ _;show m
  let y:(asb (λ_=>T) (g::gr)).toArray[0]?=some T:=by simp
  rw[y];simp only[c,if_true];show ϱ (ϱ ?_);let e:(some T).any (λx=>x !=Value.type "tuple")=true:=n;rw[e];show h1 a
 .rw[if_neg i];split
  .show ϱ h2
  .rw[oneTypeOnly'_eq,aqM,map_eq_pure_bind];show Ϧ (Ϧ (Ϧ (kas_mapM (r:=Value.type "tuple") _ (λv l O u=>(Wo t v l).here u) (ϱ ?_))));obtain⟨g,gr,rfl⟩:∃g gr,vs=g::gr:=by
    match vs,B with
    |g::gr,_=>show#[g,gr,rfl]
   let c:((asb (λ_=>Value.type "tuple") (g::gr)).toArray.all λx=>x==Value.type "tuple")=true:=by
    simp only[arU,arH,ack];intro _ _;show(Value.type "tuple"==Value.type "tuple")=true;decide
   let y:(asb (λ_=>Value.type "tuple") (g::gr)).toArray[0]?=some (Value.type "tuple"):=by simp
   rw[y];simp only[c,if_true];show ϱ (ϱ H)
end
structure vC(X:Cx)(σ:St)(f:ε)(xs:List V)(H₁:Hp)(KV:Nat->V->Hp->Prop):Prop where
 mono:∀i v H H',ζ H H'->KV i v H->KV i v H'
 call:∀i x u ϵ s H,xs[i]?=some x->RelV x u->ζ H₁ H->Inv X.ϔ ϵ σ H s->ν (ϩ X.prog X.w) X.A.in1.in1 (call f [u]) (EP X.ϔ ϵ σ λk H'=>ζ H H'/\KV i k H') (λ_ _=>False) s
def xg(KV:Nat->V->Hp->Prop)(i:Nat)(k:ε)(H:Hp):=∃v,RelV v k/\KV i v H
theorem vC.fn{X:Cx}{σ:St}{f:ε}{xs:List V}{vs:List ε}{H₁:Hp}{KV:Nat->V->Hp->Prop}(h:vC X σ f xs H₁ KV)(r:Vals xs vs):yH X σ f vs H₁ (xg KV)where
 mono:=λi k H H' a ⟨v,c,q⟩=>#[v,c,h.mono i v H H' a q]
 call:=λi u ϵ s H g a I=>by
  let hl:=r.length;let hi:=(aat.mp g).1;let j:xs[i]?=some (xs[i]'()):=aaj _;let#[x,e,l]:=r.get j;rw[g]at e;cases e;show adt (h.call i _ u ϵ s H j l a I) (λk s' z=>by let#[v,H',m,c,n,p]:=z;show #[H',m,n,v,c,p]) λ_ _ z=>z
def M8(f:Nat->Int)(i:Nat)(v:V)(_:Hp):Prop:=v=.int (f i)
section
variable{X:Cx}{σ:St}{n:Nat}
theorem RP:∀{ks:List ε}{f:Nat->Int},(∀(i:Nat) k,ks[i]?=some k->∃t,k=.int (f i) t)->IntsAre ks ((acR ks.length).map f)
 |[],_,_=>.nil
 |k::ks,f,h=>by
  let#[t,rfl]:=h 0 k rfl;have:=RP (ks:=ks) (f:=λi=>f (i+1)) λi k e=>h (i+1) k (by simpa using e)
  rw[acj,aqY,ac2,aep];show .cons _ t this
theorem aix:oh X σ n (xg (M8 f)) (λi j=>decide (f i<f j))where
 kind:=λϵ s H ks I hl h2 c=>by
  let a:∀(i:Nat) k,ks[i]?=some k->∃t,k=.int (f i) t:=λi k e=>by
   let#[v,g,rfl]:=c i k e;let#[t,rfl]:=g;show#[t,rfl]
  rw[ksk_kind (keys:=ks.toArray) (kz:=(acR ks.length).map f) (by simpa using RP a) (by rw[aaR];omega)];show ϱ #[I,λi j l m ϵ s hi p q=>?_];let#[t,rfl]:=a i l hi;let#[u,rfl]:=a j m p;rw[keyLt'_oneType];show oneLt_int #[rfl,q]
theorem ajX{f:Nat->Int}:aR λi j=>decide (f i<f j):=#[λi=>decide_eq_false (),λi j k h1 h2=>decide_eq_true (by have:=of_decide_eq_true h1;have:=of_decide_eq_true h2;omega),λi j k h=>by
 have:=of_decide_eq_true h;by_cases h2:f i<f j
 .show .inl (decide_eq_true h2)
 .show .inr (decide_eq_true ())]
def Tg(rk:Nat->List V)(i:Nat)(v:V)(H:Hp):=∃a,v=.ref a/\H a=some (.tup (rk i))
def qy(rk:Nat->List V):Prop:=(∀i,pW (rk i))/\((∀i x,rk i=[x]->∃m,x=.int m)\/∀i x,rk i=[x]->∃m,x=.str m)
def qy.lk(h:qy rk)(a:rk i=[x])(c:rk j=[y]):jC x y:=by
 obtain h|h:=h.2
 .let#[m,rfl]:=h i x a;let#[n,rfl]:=h j y c;show .inl #[m,n,rfl,rfl]
 .let#[m,rfl]:=h i x a;let#[n,rfl]:=h j y c;show .inr #[m,n,rfl,rfl]
theorem Qv(I:Inv X ϵ σ H s):∀{ks:List ε}{rk:Nat->List V},(∀i,pW (rk i))->(∀(i:Nat) k,ks[i]?=some k->∃a,k=.ref a/\H a=some (.tup (rk i)))->
  ∃fs,wB s.heap ks fs/\(∀f∈fs,(∃i,(f=none/\rk i=[])\/∃x v,f=some v/\rk i=[x]/\RelV x v))/\∀i,i<ks.length->rk i=[]->none∈fs
 |[],rk,_,_=>#[[],trivial,λf hf=>by simp at hf,λi hi=>by simp at hi]
 |k::ks,rk,j,h=>by
  let#[a,rfl,y]:=h 0 k rfl;let#[fs,h1,h2,l]:=Qv I (ks:=ks) (rk:=λi=>rk (i+1)) (λi=>j (i+1)) λi k e=>h (i+1) k (by simpa using e)
  let#[us,n,dd,sl,g,m]:=Fo I y;let p:=j 0;generalize c:rk 0=D at p g;obtain rfl|⟨x,rfl⟩:=p
  .cases Vals.zero g;show#[none::fs,#[#[a,_,_,n,rfl,m,rfl,rfl,rfl],h1],λf hf=>?_,λi hi z=>?_];obtain rfl|hf:=ϳ.mp hf
   .show#[0,.inl #[rfl,c]]
   .let#[i,q]:=h2 f hf;show#[i+1,q]
   .cases i with
    |zero=>simp
    |succ i=>show acr _ (l i (by simpa using hi) z)
  .let#[u,rfl,B]:=Vals.one g;show#[some u::fs,#[#[a,_,_,n,rfl,m,rfl,rfl,rfl],h1],λf hf=>?_,λi hi z=>?_];obtain rfl|hf:=ϳ.mp hf
   .show#[0,.inr #[x,u,rfl,c,B]]
   .let#[i,q]:=h2 f hf;show#[i+1,q]
   .cases i with
    |zero=>rw[c]at z;cases z
    |succ i=>show acr _ (l i (by simpa using hi) z)
theorem Xa(J:X.A.in1.in1.units<cLine)(f:qy rk):oh X σ n (xg (Tg rk)) (λi j=>aU (rk i) (rk j))where
 kind:=λϵ s H ks I hl h2 L=>by
  let c:∀(i:Nat) k,ks[i]?=some k->∃a,k=.ref a/\H a=some (.tup (rk i)):=λi k e=>by
   let#[v,g,a,rfl,q]:=L i k e;cases g;show#[a,rfl,q]
  let#[fs,t,D,M]:=Qv I f.1 c;let any:∀κ,(κ=general'\/κ=oneType'\/(κ=tuples' true/\∀i,i<n->rk i≠[]))->Le X σ H ks (λi j=>aU (rk i) (rk j)) κ:=λκ u i j O P ϵ s hi E F=>by
   let#[a,rfl,q]:=c i O hi;let#[b,rfl,Q]:=c j P E;let R:=(aat.mp hi).1;let S:=(aat.mp E).1;show aim (X:=X.ϔ) J F q Q (f.1 i) (f.1 j) (λx y e1 l=>f.lk e1 l) ?_ #[rfl,F];obtain h|h|⟨h,G⟩:=u
   .show .inl h
   .show .inr (.inl h)
   .show .inr (.inr #[h,G i (),G j ()])
  let fin:∀(T:ε),(T==T)=true->(T !=Value.type "tuple")=true->(∀v,some v∈fs->Looks (ϩ X.prog X.w) s.heap (typeOf v) T)->ν (ϩ X.prog X.w) X.A.in1.in1 (keyKind' (aek ks)) (λκ s'=>Inv X.ϔ ϵ σ H s'/\Le X σ H ks (λi j=>aU (rk i) (rk j)) κ) (λ_ _=>False) s:=λT U W Y=>
   kind_any t () Y U W (λp=>#[I,any _ (.inr (.inr #[rfl,λi hi z=>absurd (p _ (M i () z)) (by decide)]))]) #[I,any _ (.inl rfl)] #[I,any _ (.inr (.inl rfl))]
  obtain hk|hk:=f.2
  .show fin (.type "int") (by decide) (by decide) λv B=>?_
   obtain⟨i,⟨e,_⟩|⟨x,Z,e,l,g⟩⟩:=D _ B
   .cases e
   .cases e;let#[m,rfl]:=hk i x l;let#[t,rfl]:=g;show .now
  .show fin (.type "str") (by decide) (by decide) λv B=>?_
   obtain⟨i,⟨e,_⟩|⟨x,Z,e,l,g⟩⟩:=D _ B
   .cases e
   .cases e;let#[m,rfl]:=hk i x l;let#[t,rfl]:=g;show .now
def ait(h1:jC x y)(h2:jC y z)(a:ltV x y=true)(b:ltV y z=true):ltV x z=true:=by
 obtain⟨m,n,rfl,rfl⟩|⟨m,n,rfl,rfl⟩:=h1
 .obtain⟨m2,k,e,rfl⟩|⟨_,_,e,_⟩:=h2
  .cases e;show decide_eq_true (by have:=of_decide_eq_true a;have:=of_decide_eq_true b;omega)
  .cases e
 .obtain⟨_,_,e,_⟩|⟨m2,k,e,rfl⟩:=h2
  .cases e
  .cases e;show decide_eq_true (asd (of_decide_eq_true a) (of_decide_eq_true b))
def agF(h1:jC x y)(h2:jC y z)(a:ltV x z=true):ltV x y=true\/ltV y z=true:=by
 obtain⟨m,n,rfl,rfl⟩|⟨m,n,rfl,rfl⟩:=h1
 .obtain⟨m2,k,e,rfl⟩|⟨_,_,e,_⟩:=h2
  .cases e;have:=of_decide_eq_true a;by_cases h:m<n
   .show .inl (decide_eq_true h)
   .show .inr (decide_eq_true ())
  .cases e
 .obtain⟨_,_,e,_⟩|⟨m2,k,e,rfl⟩:=h2
  .cases e
  .cases e;by_cases h:m.cps.toList<n.cps.toList
   .show .inl (decide_eq_true h)
   .show .inr (decide_eq_true ?_);let c:n.cps.toList<=m.cps.toList:=ar0.mp h;show List.lt_of_le_of_lt c (of_decide_eq_true a)
theorem XJ{rk:Nat->List V}(a:qy rk):aR λi j=>aU (rk i) (rk j)where
 ir:=λi=>by
  show aU (rk i) (rk i)=false;obtain e|⟨x,e⟩:=a.1 i
  .rw[e];rfl
  .rw[e];show Jb x
 tr:=λi j k h1 h2=>by
  let h1:aU (rk i) (rk j)=true:=h1;let h2:aU (rk j) (rk k)=true:=h2;show aU (rk i) (rk k)=true;obtain f|⟨x,f⟩:=a.1 i<;>obtain c|⟨y,c⟩:=a.1 j<;>obtain g|⟨z,g⟩:=a.1 k<;>rw[f]at h1⊢ <;>rw[c]at h1 h2<;>rw[g]at h2⊢ <;>first|(cases h1;done)|(cases h2;done)|rfl|show ait (a.lk f c) (a.lk c g) h1 h2
 nt:=λi j k h=>by
  let h:aU (rk i) (rk k)=true:=h;show aU (rk i) (rk j)=true\/aU (rk j) (rk k)=true;obtain f|⟨x,f⟩:=a.1 i<;>obtain c|⟨y,c⟩:=a.1 j<;>obtain g|⟨z,g⟩:=a.1 k<;>rw[f,g]at h<;>rw[f,c,g]<;>first|(cases h;done)|show .inl rfl|show .inr rfl|show agF (a.lk f c) (a.lk c g) h
end
section
variable{X:Cx}{σ:St}{H:Hp}{Q:VK}{e ke re:ϧ}{p pos kp rp:Pos}
def zU(X:Cx)(σ:St)(b:Bool)(v a:V)(H:Hp)(Q:VK):=∃(l f:δ)(xs:List V)(KV:Nat->V->Hp->Prop)(lt:Nat->Nat->Bool),v=.ref l/\a=.ref f/\η X.K H l xs/\xs.length<64/\aR lt/\vC X σ (.ref f) xs H KV/\oh X σ xs.length (xg KV) lt/\
 ∀p H' q,ζ H H'->H' p=none->fG xs.length (jx b lt) q->Q (.ref p) (upd H' p (.lst (dW xs q)))
def TX(j:X.mg "sorted"=none)(h:EV X e σ H λv H1=>EV X ke σ H1 λa H2=>zU X σ false v a H2 Q)(m:Gl X "sorted":=by rfl)(c:abP [e] X.env=[(false,eval e X.env)]:=by rfl):EV X (.Call (.Name "sorted" p) [e] [#[some "key",ke,kp]] pos) σ H Q:=by
 intro ϵ s I;show ajv (ju I m j PyProof.Rows.boot_sorted ?_ (by decide) (by decide));let n:EA X [e] σ H (λvs H1=>∃v,vs=[v]/\EV X ke σ H1 λa H2=>zU X σ false v a H2 Q):=dH c (ϝ h λv H1 q=>jw #[v,rfl,q]);show callWith_kw (υ (n pos ϵ s I) λus y z=>?_) (by rw[c];rfl) (by rw[c];rfl);let#[vs,H1,B,D,v,E,F]:=z;subst E;let#[u,rfl,G]:=Vals.one D;show kws_cons (υ (F ϵ y B) λR S ⟨a,H2,J,L,M⟩=>kws_nil ?_);let#[l,f,xs,KV,lt,rfl,rfl,hs,i,W,O,P,g]:=M;cases G;cases L;show QC (kw:=[(Ϫ "key",.ref f)]) W hs i (λvs r=>#[O.fn r,P]) J (ksk_s1 _ _) (λx=>ksk_l1 _ _) (λx=>ksk_t1 f x) g
def amN(y:Gl X "sorted")(z:X.mg "sorted"=none)(j:abP [e] X.env=[(false,eval e X.env)])(h:EV X e σ H λv H1=>EV X ke σ H1 λa H2=>EV X re σ H2 λc i=>c=.bl b/\zU X σ b v a i Q):EV X (.Call (.Name "sorted" p) [e] [#[some "key",ke,kp],#[some "reverse",re,rp]] pos) σ H Q:=by
 intro ϵ s I;show ajv (ju I y z PyProof.Rows.boot_sorted ?_ (by decide) (by decide));let B:EA X [e] σ H (λvs H1=>∃v,vs=[v]/\EV X ke σ H1 λa H2=>EV X re σ H2 λc i=>c=.bl b/\zU X σ b v a i Q):=dH j (ϝ h λv H1 q=>jw #[v,rfl,q]);show callWith_kw (υ (B pos ϵ s I) λus D E=>?_) (by rw[j];rfl) (by rw[j];rfl);let#[vs,H1,F,G,v,J,L]:=E;subst J;let#[u,rfl,M]:=Vals.one G;show kws_cons (υ (L ϵ D F) λu2 O ⟨a,H2,P,R,S⟩=>kws_cons (υ (S ϵ O P) λu3 s3 ⟨c,i,T,U,m,Y⟩=>kws_nil ?_));let#[l,f,xs,KV,lt,rfl,rfl,hs,n,W,Z,hC,g]:=Y;subst m;cases M;cases R;cases U;show QC (kw:=[(Ϫ "key",.ref f),(Ϫ "reverse",.bool b)]) W hs n (λvs r=>#[Z.fn r,hC]) T (ksk_s2 _ _ _) (λx=>ksk_l2 _ _ _) (λx=>ksk_t2 f x b) g
abbrev Cx.wA(X:Cx):Cx:={X.ϔ with xe:=λ_ _=>False}
theorem Inv.wA(I:Inv X.ϔ ϵ σ H s):Inv X.wA ϵ σ H s:=
 #[#[I.ok.mod,I.ok.kind,I.ok.glob,I.ok.blt,I.ok.above,I.ok.inj,I.ok.has,I.ok.cab,I.ok.hd,I.ok.frames,I.ok.stk,I.ok.exf,I.ok.bs,I.ok.bsz,I.ok.noex,I.ok.exfs,I.ok.funs,I.ok.frf],I.os,I.bare,I.base,I.loc,I.cell,I.free,I.freeC,I.pin,I.hok,I.len]
theorem Inv.unX(I:Inv X.wA ϵ σ H s):Inv X.ϔ ϵ σ H s:=
 #[#[I.ok.mod,I.ok.kind,I.ok.glob,I.ok.blt,I.ok.above,I.ok.inj,I.ok.has,I.ok.cab,I.ok.hd,I.ok.frames,I.ok.stk,I.ok.exf,I.ok.bs,I.ok.bsz,I.ok.noex,I.ok.exfs,I.ok.funs,I.ok.frf],I.os,I.bare,I.base,I.loc,I.cell,I.free,I.freeC,I.pin,I.hok,I.len]
def ak6{k:Nat}{KV:Nat->V->Hp->Prop}(F:Def X.prog X.w X.K X.mg X.base cc k x ps sp)(c:Ϙ cc (k+2) X.A)(a:∀i v H H',ζ H H'->KV i v H->KV i v H')(h:∀(i:Nat) x H',xs[i]?=some x->ζ H H'->sp [x] H' (λv H2=>ζ H' H2/\KV i v H2) (λ_ _ _=>False)):∃f:δ,X.mg x=some (.ref f)/\vC X σ (.ref f) xs H KV:=by
 let#[f,fd,h1,h2,e,g]:=F.ex;show#[f,h1,a,λi x u ϵ s H' j l m I=>?_];have:=wD (X:=X.wA) (us:=[u]) (vs:=[x]) (Kx:=λ_ _ _ _=>False) g c.in1.in1 e (Ml rfl) I.wA (.cons l .nil) (h i x H' j m);show adt this (λw s' z=>by let#[v,H2,n,p,q]:=z;show #[v,H2,n.unX,p,q]) λ_ _ z=>z
theorem ajO(h:X.mg x=some (.ref f))(a:Gl X x)(hd:(x==("__debug__":Str))=false)(q:Q (.ref f) H):EV X (.Name x p) σ H Q:=uA (MF (v:=.ref f) a h rfl hd) q
end
def ag0(h1:p.line=p'.line)(h2:p.col=p'.col)(l:List ε):codeAmong p l=codeAmong p' l:=by
 fun_induction codeAmong p l with
 |case1 a t b u c rest h=>unfold codeAmong;rw[<-h1, <-h2,if_pos h]
 |case2 a t b u c rest h e=> rw[e];conv=>rhs;unfold codeAmong
                             rw[<-h1, <-h2,if_neg h]
 |case3 l h=>unfold codeAmong;split <;>first|rfl|(exfalso;show h _ _ _ _ _ _ rfl)
def acD{p a:Pos}(l:List ε)(h:TriplesOk l)(e:codeAmong p (l++[rawInt a.line,rawInt a.col,c])=some f):codeAmong p l=some f\/(f=c/\a.line=p.line/\a.col=p.col):=by
 fun_induction TriplesOk l with
 |case1=>
  simp only[aq7,rawInt,codeAmong]at e;split at e
  .rename_i hh;cases e;simp only[aaO,beq_iff_eq]at hh;show .inr #[rfl,(),()]
  .cases e
 |case2 x t y u z rest g=>
  simp only[arQ,codeAmong]at e⊢;split at e
  .rename_i hh;rw[if_pos hh];show .inl e
  .rename_i hh;rw[if_neg hh];show g h e
 |case3 l h1 h2=>show h.elim
def BM(mg:Str->Option ε)(base:ϫ):=∃bm a,mg "__builtins__"=some (.ref bm)/\bm≠builtinsNs/\base.get? bm=some a/\a.cls=.type "module"/\a.dict=some builtinsNs/\a.data=.plain
abbrev uT:HO:=.ext λ_=>True
theorem Ks(e:h.get? a=some o):ώ P w H h a (.frz o uT):=#[e,trivial,#[o,e],λ_ _ _ _=>trivial]
section
variable{X:Cx}{σ:St}{H:Hp}{D:Ends}
def al6(hN:X.N.Nodup)(hj:X.N[j]?=some name)(T:X.env.scope.names.lookup name=some .local)(x:X.env.code=.ref c)(C:CodeHd X.base c P)(B:BM X.mg X.base)(G:closureFor scope X.env=pure clos)(J:H P=some (.tbl ps))(L:codeAmong pos ps.toList=some (.str qual t))(hq:qualnameIn X.env name name=qual)(ab:g.defaults=[])(ac:g.kw_defaults=[])(ha:annTrees g none X.env=[])(h:∀(f m:δ)(oc:Obj)(i pm l:ε)(vs:Array ε)(t':Tok)(H':Hp),ζ H H'->H f=none->H' f=some (.frz (fnMade name qual g body scope clos i pm m l) uT)->(∃u,H' m=some (.frz oc u))->oc.data=.fields vs->vs[1]?=some (.str qual t')->D.nx (σ.set j (some (.ref f))) H'):SX X (.FunctionDef name g body [] none [] scope none name pos) D σ H:=by
 intro ϵ s I;show nestDef_K ab ac ha ?_;rw[hq];let#[qs,U,tr,z]:=(I.hok P _ J:ώ X.prog X.w H s.heap P (.tbl ps));let W:s.heap.Ns mainGlobals X.mg:=I.mod.glob.keeps I.bk;let#[bm,ob,b1,b2,b3,b4,b5,b6]:=B;let M:=I.bk _ _ b3;let ae:mainGlobals≠P:=λq=>by
  let#[o,es,ep,e,hd,_]:=W;rw[q,U]at e;cases e;cases hd
 let af:bm≠P:=λq=>by rw[q,U]at M;cases M;cases b4
 let ag:bm≠mainGlobals:=λq=>by
  let#[o,es,ep,e,hd,_]:=W;rw[q,e]at M;cases M;rw[hd]at b6;cases b6
 let E:s.heap.BuiltinsAt X.mg P:=#[bm,ob,b1,b2,ag,af,M,b4,b5,b6];let CC:=C.keeps I.bk;cases hf:codeAmong pos qs.toList with
 |some cv=>
  let#[m,oc,u,q,t2,vs,t',rfl,Y,e3,e4,e5]:=z pos cv hf;rw[L]at Y;cases Y;show makeFunction_hit G I.ok.glob W x CC U tr hf E λl i h' tk hk hsz=>?_
  let I1:=I.laid (a:=h'.objs.size) (o:=.frz (fnMade name qual g body scope clos i ((X.mg "__name__").getD .none) m l) uT) (t':=tk) (h':=h'.push (fnMade name qual g body scope clos i ((X.mg "__name__").getD .none) m l)) (λb o e=>ϴ _ (hk b o e)) hsz (Ks (aaT _ rfl));let O:=I.hok.fresh hsz;let Z:ζ H (upd H h'.objs.size (.frz (fnMade name qual g body scope clos i ((X.mg "__name__").getD .none) m l) uT)):=ζ.upd O;show vW (v:=.ref h'.objs.size) I1 hN hj (.inl T) rfl (λs' I' _=>?_) (.inr T);show#[_,_,I',h _ m oc i _ l vs t' _ Z O ς #[u,Z _ _ e3] e4 e5]
 |none=>
  show makeFunction_K G I.ok.glob W x CC U tr hf ae E λm l i h' tk ah y F Q R=>?_
  let#[c₂,oc,vs,t',Y,ai,hd,hv]:=Q;cases Y;let aj:H m=none:=I.hok.fresh y;let S:H h'.objs.size=none:=I.hok.fresh (apD (ad1 y F));let Ϲ:m≠h'.objs.size:=acE F;let hPlt:=I.hok.lt J;let old:∀b u,H b=some u->(upd (upd H m (.frz oc uT)) h'.objs.size (.frz (fnMade name qual g body scope clos i ((X.mg "__name__").getD .none) m l) uT)) b=some u:=λb u e=>by
   rw[ξ (ϑ e S),ξ (ϑ e aj)];show e
  let nP:∀b,H b=none->b≠P:=λb e z=>by rw[z,J]at e;cases e
  let lt':∀b o,s.heap.get? b=some o->b≠m/\b≠h'.objs.size:=λb o e=>by
   have:=abQ e;show#[acE (acn this y),acE (acn this (apD (ad1 y F)))]
  let kp:∀b o,b≠P->s.heap.get? b=some o->(h'.push (fnMade name qual g body scope clos i ((X.mg "__name__").getD .none) m l)).get? b=some o:=λb o E e=>ϴ _ (ah b o E e)
  let I1:Inv X ϵ σ (upd (upd H m (.frz oc uT)) h'.objs.size (.frz (fnMade name qual g body scope clos i ((X.mg "__name__").getD .none) m l) uT)) {s with heap:=h'.push (fnMade name qual g body scope clos i ((X.mg "__name__").getD .none) m l),toks:=tk}:=by
   show I.un (t':=tk) #[λb o e n _ _=>kp b o (nP b n) e,λb o e n _ _=>#[o.slots,kp b o (nP b n) e],λb o e n _=>?_,λb o e _=>?_,λb xs q=>old _ _ q,λb o u q=>old _ _ q,λb ps' q=>#[#v[],by rw[old _ _ q];simp]] λb u e=>?_
   .rw[ξ (lt' b o e).2,ξ (lt' b o e).1];show n
   .by_cases E:b=P
    .show#[_,by rw[E];show ϴ _ R]
    .show#[_,kp b o E e]
   .by_cases h1:b=h'.objs.size
    .subst h1;rw[ς]at e;cases e;show Ks (aaT _ rfl)
    .rw[ξ h1]at e;by_cases h2:b=m
     .subst h2;rw[ς]at e;cases e;show Ks (ϴ _ ai)
     .rw[ξ h2]at e;by_cases h3:b=P
      .subst h3;rw[J]at e;cases e;show#[_,ϴ _ R,?_,λp cv hc=>?_]
       .rw[aqy];show TriplesOk_snoc _ _ _ _ tr
       .rw[aqy]at hc;obtain h4|⟨rfl,h5,h6⟩:=acD _ tr hc
        .let#[c2,al,u2,q2,t2,am,t3,g1,g2,g3,g4]:=z p cv h4;show#[c2,al,u2,q2,t2,am,t3,g1,g2,old _ _ g3,g4]
        .show#[m,oc,uT,qual,t,vs,t',rfl,?_,?_,hd,hv]
         .rw[<-ag0 h5 h6];show L
         .rw[ξ Ϲ,ς]
      .show(I.hok b u e).stay (λa v ha q=>kp a v ?_ q) (λa q=>old _ _ q) (λa xs q=>old _ _ q) λa ob v q=>old _ _ q
       obtain rfl|ha:=ha
       .show h3
       .intro z2;rw[z2,J]at ha;cases ha
  let Z:ζ H (upd (upd H m (.frz oc uT)) h'.objs.size (.frz (fnMade name qual g body scope clos i ((X.mg "__name__").getD .none) m l) uT)):=old;show vW (v:=.ref h'.objs.size) I1 hN hj (.inl T) rfl (λs' I' _=>?_) (.inr T);show#[_,_,I',h _ m oc i _ l vs t' _ Z S ς #[uT,by rw[ξ Ϲ,ς]] hd hv]
abbrev Ak(X:Cx)(qual:Str)(scope:agV)(f:δ)(cd:ε)(cl:List (Str×δ))(N:List Str)(s:μ)(H:Hp):Cx where
 prog:=X.prog
 w:=X.w
 K:=X.K
 mg:=X.mg
 base:=X.base
 A:=X.A.deeper (envX qual scope s.heap.objs.size f cd cl)
 N:=N
 s₀:=s
 H₀:=H
 env:=envX qual scope s.heap.objs.size f cd cl
 outer:=X.stack
 stack:=envX qual scope s.heap.objs.size f cd cl::X.stack
 ex:=[]
 fn:=λ_=>false
 calm:=X.calm
 pn:=[]
 xe:=λ_ _=>False
def acC{s:μ}{f n c:δ}{name qual x y:Str}{g:Arguments}{scope:agV}{B pm D u:ε}{u0 u1:HO}{oc:Obj}{vs:Array ε}{t':Tok}{v z:V}{j:Nat}{Q:VK}{E:ε->μ->Prop}(I:Inv X ϵ σ H s)(hf:H f=some (.frz (fnMade name qual g body scope [(y,c)] B pm n D) u0))(ab:H n=some (.frz oc u1))(ac:oc.data=.fields vs)(G:vs[1]?=some (.str qual t'))(L:X.A.depth<recursionLimit)(hb:∀B pm n D (u:ε),bindArgs (fnX name qual g body scope [(y,c)] .none .none B pm none (.ref n) D) #[[u],[]]=pure [(x,u)])(hk:scope.kind=.function)(ae:scope.isCoroutine=false)(O:scope.isGenerator=false)(Z:scope.names.lookup x=some .local)(P:scope.names.lookup y=some .free)(S:∀a∈scope.names,a.2≠.cell)(af:∀a,scope.names.lookup a=some .free->a=y)(hj:X.N[j]?=some y)(ag:σ[j]?=some (some z))(T:X.env.scope.names.lookup y=some .cell)(U:X.env.cells.lookup y=some c)(W:RelV v u)(h:Ι (Ak X qual scope f (.ref n) [(y,c)] [x,y] s H) body {nx:=λ_ H'=>Q .non H',rt:=Q} [some v,some z] H):ν (ϩ X.prog X.w) X.A (call (.ref f) [u]) (EP X ϵ σ Q) E s:=by
 let F:=I.env0;let#[ef,_]:=(I.hok f _ hf:ώ X.prog X.w H s.heap f (.frz _ u0));let#[ec,_]:=(I.hok n _ ab:ώ X.prog X.w H s.heap n (.frz oc u1));let ah:s.heap.CodeRec (.ref n) qual:=#[n,oc,vs,t',rfl,ec,ac,G];let hxy:x≠y:=λe=>by rw[e,P]at Z;cases Z
 let#[m,hm,hl]:=id I.loc;let#[uz,rz,lk]:=hl j y z hj ag (.inr (.inl T));obtain⟨XR⟩:Nonempty (s.heap.IsCell c (some uz)):=by
  obtain⟨k,_⟩|⟨_,c2,e,q⟩:=lk
  .rw[show X.env.kindOf y=X.env.scope.names.lookup y from rfl,T]at k;cases k
  .rw[U]at e;cases e;show#[q]
 show wpAny_call (aks (codeAny_call_def (R:=λr s'=>match r with|.ok (.ret u)=>CE X.stack X.prog X.w H s Q u s'|.ok _=>False|.error _=>False) (fd:=fnX name qual g body scope [(y,c)] .none .none B pm none (.ref n) D) (body:=body) (binds:=[(x,u)]) L ef rfl I.nolimit ah rfl (.of_eq (hb B pm n D u)) S (λa ha=>by cases abv.mp ha;show Z) (λY ai l=>?_) ae O hk) λr s' G=>?_)
 .let I1:Inv (Ak X qual scope f (.ref n) [(y,c)] [x,y] s H) [] [some v,some z] H {s with heap:=Y,toks:=s.toks+[(x,u)].length}:=by
   let M:∀b:δ,b∉(Ak X qual scope f (.ref n) [(y,c)] [x,y] s H).ex:=λb z=>absurd (show b∈([]:List δ)from z) (by simp)
   show#[#[F.mod,hk,rfl,rfl,Ϭ _,λa b d h1 h2=>?_,λa ha=>?_,λa d h1=>(by cases h1),I.ok.hd,Around.frames_deeper F.frames,.inr #[rfl,rfl],λb z=>absurd z (M b),F.bs,F.bsz,λb _ _=>M b,λb z=>absurd z (M b),F.funs,F.frf],
    rfl,F.bare,Un.kept l,#[_,ai,λi a b h1 h2 h3=>?_],λa d h1=>?_,F.hok.fresh (Ϭ _),λa d h1=>?_,λp hp=>absurd (show p∈([]:List (δ×Obj))from hp) (by simp),F.hok.kept l,rfl]
   .let h1:([(y,c)]:List (Str×δ)).lookup a=some d:=h1;let h2:([(y,c)]:List (Str×δ)).lookup b=some d:=h2;let e1:=PySem.mem_of_lookup h1;let e2:=PySem.mem_of_lookup h2;rw[abv]at e1 e2;cases e1;cases e2;rfl
   .let ha:scope.names.lookup a=some .cell\/scope.names.lookup a=some .free:=ha;obtain ha|ha:=ha
    .show absurd rfl (S _ (PySem.mem_of_lookup ha))
    .cases af a ha;show#[c,by show([(y,c)]:List (Str×δ)).lookup y=some c;simp[ahi]]
   .match i,h1,h2 with
    |0,h1,h2=>
     cases h1;cases h2;show#[u,W,.inl #[Z,by simp[ahi]]]
    |1,h1,h2=>
     cases h1;cases h2;show#[uz,rz,.inr #[.inr P,c,by show([(y,c)]:List (Str×δ)).lookup y=some c;simp[ahi],XR.keeps l]]
    |i+2,h1,h2=>simp at h1
   .let e1:=PySem.mem_of_lookup (show([(y,c)]:List (Str×δ)).lookup a=some d from h1);rw[abv]at e1;cases e1;show#[_,XR.keeps l]
   .let e1:=PySem.mem_of_lookup (show([(y,c)]:List (Str×δ)).lookup a=some d from h1);rw[abv]at e1;cases e1;show I.freeC y c U
  show adt (h [] _ I1) (λfl s' hs=>?_) λ_ _ z=>z.elim
  let fin:∀{σ':St}{H':Hp}{v:V}{u:ε},Inv (Ak X qual scope f (.ref n) [(y,c)] [x,y] s H) [] σ' H' s'->RelV v u->Q v H'->CE X.stack X.prog X.w H s Q u s':=
   λ{σ' H' v u} J W q=>#[v,H',J.os,J.bare,J.base,J.hok,W,q]
  cases fl with
  |ret u=>
   let#[v,σ',H',J,W,q]:=hs;show fin J W q
  |next=>
   let#[σ',H',J,q]:=hs;show fin (v:=V.non) (u:=Value.none) J rfl q
  |brk=>
   let#[_,_,_,q]:=hs;show False.elim q
  |cont=>
   let#[_,_,_,q]:=hs;show False.elim q
 .cases r with
  |error e=>show G.elim
  |ok fl=>
   cases fl with
   |ret u=>show I.after G
   |next=>show False.elim G
   |brk=>show False.elim G
   |cont=>show False.elim G
end
def iH(K:Ϩ)(x:Str):δ:=((tabIn K x).getD (0,0)).1
def dN(K:Ϩ)(x:Str):δ:=((tabIn K x).getD (0,0)).2
def Ip(p:Pos)(q:Str):Array ε:= #v[rawInt p.line,rawInt p.col,.str q 0]
def akT(p:Pos)(q:Str):codeAmong p (Ip p q).toList=some (.str q 0):=by simp[Ip,codeAmong,rawInt]
def Gn(K:Ϩ)(x:Str):Bool:=match tabIn K x with
 |some a=>(K.lookup a.2).isNone
 |none=>false
def ahS{K:Ϩ}(h:Gn K x=true):tabIn K x=some (iH K x,dN K x)/\K.lookup (dN K x)=none:=by
 unfold Gn at h;unfold iH dN;cases e:tabIn K x with
 |none=>rw[e]at h;cases h
 |some a=>
  rw[e]at h;show#[rfl,by simpa using h]
structure fj(K:Ϩ)(mg:Str->Option ε)(base:ϫ)(x:Str):Prop where
 tab:tabIn K x=some (iH K x,dN K x)
 code:CodeHd base (iH K x) (dN K x)
 bm:BM mg base
 kin:K.In base
 glob:base.Ns mainGlobals mg
def aiF{P:Ϯ}{w:ϭ}{K:Ϩ}{mg mb:Str->Option ε}{CX:gF}{k:Nat}{W a:δ}{fd:ahh}{x xn:Str}{sp:Sp}{s₁:μ}{ps:Array ε}(KX:K.In s₁.heap)(G:s₁.heap.Ns mainGlobals mg)(f:s₁.heap.Ns builtinsNs mb)(X:∀x:Str,x≠"__name__"->mb x=bootBuiltins x)(O:s₁.heap.NoLimit)(hg:s₁.gens= #v[])(M:s₁.heap.get? a=some {cls:=.type "list",data:=.seq vs.toArray})(hi:IntsAre vs ns)(hl:ns.length<=ϯ)(hr:Ϙ cc k callerA)(hT:tabIn K xn=some (iH K xn,dN K xn))(Y:CodeHd s₁.heap (iH K xn) (dN K xn))(l:s₁.heap.get? (dN K xn)=some (tabObj #v[]))(Z:K.lookup (dN K xn)=none)(hB:BM mg s₁.heap)(F:∀base:ϫ,K.In base->base.Ns mainGlobals mg->fj K mg base xn->dM P w K mg base CX cc k W fd [x] sp)(I:∀(s:μ)(u:ε),BindsTo s fd #[[u],[]] [(x,u)])(Q:∀H:Hp,η K H a (ns.map V.int)->H (dN K xn)=some (.tbl ps)->sp [.ref a] H (λv _=>v=.bl true) λ_ _ _=>False)(ab:∀H e s',CX [] H s₁ (λ_ _ _=>False) e s'->False):codeAny (ϩ P w) callerA (.call (.ref W) #[[.ref a],[]]) (λr s'=>r=.ok (.ret (.bool true))/\OldK s₁.heap s'.heap/\s'.os=s₁.os/\AllBare s'.gens) s₁:=by
 let rv:=Qu hi;let R:=hi.length;generalize ac:dN K xn=pt at Y l Z Q;let J:pt≠a:=λz=>by rw[z,M]at l;cases l
 let y:∀H:Hp,η K H a (ns.map V.int)->H pt=some (.tbl ps)->aB P w H s₁.heap->(∀b,H b=none\/b=a\/b=pt)->(∀b,H b=none\/K.lookup b=none)->(∀u,H a=some u->∃o v,u=.frz o v)->
   codeAny (ϩ P w) callerA (.call (.ref W) #[[.ref a],[]]) (λr s'=>r=.ok (.ret (.bool true))/\OldK s₁.heap s'.heap/\s'.os=s₁.os/\AllBare s'.gens) s₁:=by
  intro H hS hH hok hA hK ae;let c:∀{b:δ}{o:Obj},s₁.heap.get? b=some o->H b=none->(jr s₁.heap H).get? b=some o:=λe n=>ajQ e n
  let free:∀{b:δ}{o:Obj},s₁.heap.get? b=some o->o.cls≠.type "list"->o.cls≠.none->H b=none:=λ{b o} e n1 n2=>by
   obtain z|z|z:=hA b
   .show z
   .rw[z,M]at e;cases e;show absurd rfl n1
   .rw[z,l]at e;cases e;show absurd rfl n2
  let af:∀{b:δ}{o:Obj}{es:Array DictEntry}{ep:Nat},s₁.heap.get? b=some o->o.data=.dict es ep->H b=none:=λ{b o es ep} e d=>by
   obtain z|z|z:=hA b
   .show z
   .rw[z,M]at e;cases e;let d':Data.seq vs.toArray _=Data.dict es ep:=d;cases d'
   .rw[z,l]at e;cases e;let d':Data.fields #v[]=Data.dict es ep:=d;cases d'
  let i:∀{b:δ}{m:Str->Option ε},s₁.heap.Ns b m->(jr s₁.heap H).Ns b m:=λ{b m} ⟨o,es,ep,e,d,r⟩=>#[o,es,ep,c e (af e d),d,r];let L:K.In (jr s₁.heap H):=λb o e=>c (KX b o e) (by
   obtain z|z:=hK b
   .show z
   .rw[z]at e;cases e)
  let hM:Mod K mg (jr s₁.heap H):=#[L,i G,#[mb,i f,X],let⟨mc,h1,h2⟩:=O;#[mc,i h1,h2]];let hN:fj K mg (jr s₁.heap H) xn:=by
   show#[hT,?_,?_,L,i G]
   .rw[ac];let#[o,vs,B,tf,j,tg,inF,D,tt,e1,S,r]:=Y;show#[o,vs,B,tf,j,tg,inF,D,tt,c e1 (free e1 (by rw[S];decide) (by rw[S];decide)),S,r]
   .let#[bm,T,b1,b2,b3,b4,r]:=hB;show#[bm,T,b1,b2,c b3 (free b3 (by rw[b4];decide) (by rw[b4];decide)),b4,r]
  let e0:pK P w K mg (jr s₁.heap H) callerA [] s₁ H:=#[rfl,hM,λb o e=>abO e,am2 (amy _ _),trivial,λb f=>absurd (show b∈([]:List δ)from f) (by simp),hok,.of_eq hg];show aks ((F _ L (i G) hN).run callerA [] s₁ H #[[.ref a],[]] [.ref a] [.ref a] _ _ hr e0 (I s₁ (.ref a)) (.cons rfl .nil) (Q H hS hH)) λr s' h=>?_
  cases r with
  |error e=>show(ab H e s' h).elim
  |ok fl=>
   cases fl with
   |next=>show False.elim h
   |brk=>show False.elim h
   |cont=>show False.elim h
   |ret u=>
    let#[v,H',os,bare,un,E,r',q]:=h;let q':v=.bl true:=q;subst q';obtain rfl:u=Value.bool true:=r';let#[U,hm]:=un.tbls pt ps hH;let#[qs,eq,_]:=(E pt _ hm:ώ P w H' s'.heap pt (.tbl (ps++U)));let all:∀b o,s₁.heap.get? b=some o->asItWas s₁.heap s'.heap b o:=λb o e=>by
     obtain z|z|z:=hA b
     .show .inl (un.keep b o e z (by intro z;show absurd (show b∈([]:List δ)from z) (by simp)) (by simp))
     .cases e3:H b with
      |none=>show .inl (un.keep b o e e3 (by intro z;show absurd (show b∈([]:List δ)from z) (by simp)) (by simp))
      |some u=>
       let#[T,v,rfl]:=ae u (by rw[<-z];show e3);let z2:=un.frzs b T _ e3;let#[e1,_]:=(hok b _ e3:ώ P w H s₁.heap b (.frz T v));let#[e2,_]:=(E b _ z2:ώ P w H' s'.heap b (.frz T v));rw[e]at e1;cases e1;show .inl e2
     .subst z;rw[l]at e;cases e;let#[o,vs,B,tf,j,tg,inF,D,tt,e1,S,r2,r3,_]:=Y;show .inr (.inl #[#[_,o,vs,e1,S,r2,r3],rfl, #v[],qs,rfl,?_]);rw[eq];simp
    show#[rfl,#[all,λb o e=>?_],os,bare];show un.there b o e (by simp)
 cases hk:K.lookup a with
 |some o=>
  let e:=KX a o hk;rw[M]at e;cases e;show y (λb=>if b=pt then some (.tbl ps)else none) (.inr #[_,vs.toArray,_,hk,rfl,rfl,rfl,by rw[aaR,R];show hl,by simpa using rv]) (if_pos rfl) (λb u z=>?_) (λb=>?_) (λb=>?_) λu z=>?_
  .by_cases f:b=pt
   .let z':=(if_pos f).symm.trans z;cases z';subst f;show#[#v[],l,trivial,λp cv h=>by simp[codeAmong]at h]
   .let z':=(if_neg f).symm.trans z;cases z'
  .by_cases f:b=pt
   .show .inr (.inr f)
   .show .inl (if_neg f)
  .by_cases f:b=pt
   .show .inr (by rw[f];show Z)
   .show .inl (if_neg f)
  .let z':=(if_neg (Ne.symm J)).symm.trans z;cases z'
 |none=>
  show y (λb=>if b=pt then some (.tbl ps)else if b=a then some (.frz {cls:=.type "list",data:=.seq vs.toArray} (.lst (ns.map V.int)))else none) (.inl (.inr #[{cls:=.type "list",data:=.seq vs.toArray},(if_neg (Ne.symm J)).trans (if_pos rfl)])) (if_pos rfl) (λb u z=>?_) (λb=>?_) (λb=>?_) λu z=>?_
  .by_cases f:b=pt
   .let z':=(if_pos f).symm.trans z;cases z';subst f;show#[#v[],l,trivial,λp cv h=>by simp[codeAmong]at h]
   .let z':=(if_neg f).symm.trans z;by_cases g:b=a
    .let z2:=(if_pos g).symm.trans z';cases z2;subst g;show#[M,by rw[aaA];show hl,vs,_,rv,M]
    .let z2:=(if_neg g).symm.trans z';cases z2
  .by_cases f:b=pt
   .show .inr (.inr f)
   .by_cases g:b=a
    .show .inr (.inl g)
    .show .inl (by rw[if_neg f,if_neg g])
  .by_cases f:b=pt
   .show .inr (by rw[f];show Z)
   .by_cases g:b=a
    .show .inr (by rw[g];show hk)
    .show .inl (by rw[if_neg f,if_neg g])
  .let z':=(if_neg (Ne.symm J)).symm.trans z;let z2:=(if_pos rfl).symm.trans z';cases z2;show#[_,_,rfl]
def acX{l:W.OpenLaw}{n k:Nat}{q:Ϯ}{Q:(Str->Option ε)->ϫ->Prop}{O:ϭ->ϫ->Prop}{d:DefRec}{K:Params->Ϩ}{CX:ϭ->gF}{sp:ϭ->Sp}{x xn:Str}{ps:Array ε}(R:l.most=some n)(B:n<=ϯ)(D:d.params.defaults=[])(S:Ϙ cc k callerA)(T:∀(w:ϭ)(h:ϫ),O w h->(K w.params).In h)(j:((recsOf q).find? (λe=>e.name==xn)).isSome=true)(m:∀w:ϭ,Gn (K w.params) xn=true)(F:∀(w:ϭ)(mg:Str->Option ε)(z:δ)(h:ϫ),(K w.params).In h->h.Ns mainGlobals mg->mg d.name=some (.ref z)->
   ∃fd:ahh,(∀(s:μ)(u:ε),BindsTo s fd #[[u],[]] [(x,u)])/\
    ∀base:ϫ,(K w.params).In base->base.Ns mainGlobals mg->fj (K w.params) mg base xn->dM l.prog w (K w.params) mg base (CX w) cc k z fd [x] (sp w))(E:∀(w:ϭ)(H:Hp)(a:δ)(ns:List Int),ns.length<=n->η (K w.params) H a (ns.map V.int)->H (dN (K w.params) xn)=some (.tbl ps)->sp w [.ref a] H (λv _=>v=.bl true) λ_ _ _=>False)(I:∀(w:ϭ)(H:Hp)(s:μ)(e:ε)(s':μ),CX w [] H s (λ_ _ _=>False) e s'->False):W.WalkO q g Q O l.row.toRowW d [] (λf vs=>PySem.call f vs):=by
 show _A.akC R D λw s₀ p mg mb z o pm cd U a vs ns G Y ho hd X J y i c Z=>?_
 let L:=T w _ Y;let#[fd,hb,hF]:=F w mg z _ L G.T.g J;let#[P,t2]:=ahS (m w);let#[d',M]:=aox.mp j;let#[hC,hP]:=tab_of G.T L M P;show aiF L G.T.g G.T.b G.T.builtins G.T.nolimit Z y i (ad8 c B) S P hC hP t2 G.T.bmain hF hb (λH hS hH=>E w H a ns c hS hH) λH e s'=>I w H p e s'
def JM(K:Ϩ)(x:Str)(ps:Array ε):Sp:=λvs H Q _=>∃(a:δ)(ns:List Int),vs=[.ref a]/\η K H a (ns.map V.int)/\ns.length<=63/\H (dN K x)=some (.tbl ps)/\∀H',Q (.bl true) H'
def ajN{P:Ϯ}{w:ϭ}{K:Ϩ}{mg:Str->Option ε}{base:ϫ}{x:Str}{st:π}{k:Nat}{sp:Sp}(F:∃f fd,cZ K x x st f fd/\mg x=some (.ref f))(i:fj K mg base x)(S:Ρ N ps (χ st))(n:∀(kV a pm:ε)(an:Option δ)(j ct:ε)(us:List ε),us.length=ps.length->bindArgs (art x x (mO st) (ϖ st) (χ st) .none kV a pm an j ct) #[us,[]]=pure (ps.zip us))(len:∀vs H Q E,sp vs H Q E->vs.length=ps.length)(body:∀(f:δ)(A:ϲ)(outer:List Env)(s:μ)(H:Hp)(vs:List V)(Q:VK)(E:XK),Ϙ cc k (A.deeper (envOfC x (χ st) s.heap.objs.size f (.ref (iH K x))))->sp vs H Q E->
   Ι (jd cc P w K mg base N x (χ st) f (.ref (iH K x)) A outer s H E) (ϖ st) {nx:=λ_ H'=>Q .non H',rt:=Q} (start N vs) H):Def P w K mg base cc (k+1) x ps sp:=by
 let#[f,fd,F,m]:=F;show#[f,fd,m,F.kp,F.binds n,?_];let#[oc,od,kV,a,pm,an,j,ct,p,rfl,lk,l]:=id F.ex;let e:=i.tab;unfold tabIn at e;split at e
 .rename_i y q;let g:=ajh i.kin i.glob q;rw[m]at g;cases g;simp only[lk]at e;cases j with
  |ref c=>
   let u:c=iH K x:=by
    dsimp only at e;split at e
    .split at e
     .have :=Option.some.inj e;show congrArg Prod.fst this
     .cases e
    .cases e
   subst u;show Xo lk l S len λA outer s H vs Q E v h=>#[_,Dt,body f A outer s H vs Q E v h]
  |_=>cases e
 .cases e
def agJ(q:Q (.bl (decide (z'.cps.toList<z.cps.toList))) H):OP X (ada .Gt) (.str z) (.str z') H Q:=by
 show bz (r:=λx y H Q=>∃i j,x=.str i/\y=.str j/\Q (.bl (decide (j.cps.toList<i.cps.toList))) H) ?_ #[z,z',rfl,rfl,q];intro ϵ s σ H x y v u Q I rx ry h;let#[i,j,rfl,rfl,q]:=h;let#[t,rfl]:=rx;let#[t',rfl]:=ry;show P.gt_str (aa I q rfl)
def ώ.acz(x:ώ P w H h a o)(m:∀b,H b=some (.own a)->H' b=some (.own a))(s:∀b xs,H b=some (.tup xs)->H' b=some (.tup xs))(B:∀b g u vs,H b=some (.frz g u)->g.data=.fields vs->H' b=some (.frz g u)):ώ P w H' h a o:=by
 induction o with
 |lst xs=>let#[z,i,n,r,e]:=x;show#[z,i,n,r,e]
 |tup xs=>let#[z,i,r,g,e,c]:=x;show#[z,i,r,g,e,c]
 |dK Ϸ=>let#[z,y,vs,r,g,es,ep,e,c]:=x;show#[z,y,vs,r,g,es,ep,e,c]
 |dT Ϸ=>
  let#[z,y,xs,r,g,es,ep,e,c]:=x;show#[z,y,xs,Paired.mapP r λp q z=>#[z.1,s _ _ z.2.1,z.2.2],g,es,ep,e,c]
 |set S n=>let#[g,es,ep,t,e,c]:=x;show#[g,es,ep,t,e,c]
 |ins C dx fs=>
  let#[d,z,ne,e,mA,#[od,es,ep,j,c],r]:=x;show#[m _ d,z,ne,e,mA,#[od,es,ep,j,c],r]
 |own y=>let#[g,e]:=x;show#[g,e]
 |xd fs=>let#[mA,#[od,es,ep,e,c],r]:=x;show#[mA,#[od,es,ep,e,c],r]
 |rng lo hi=>let#[t,u,v,e]:=x;show#[t,u,v,e]
 |frz g u D=>let#[e,q]:=x;show#[e,D q]
 |tbl ps=>
  let#[E,e,tr,z]:=x;show#[E,e,tr,λp F G=>?_];let#[c,oc,u,q,t,vs,t',e1,j,I,l,J]:=z p F G;show#[c,oc,u,q,t,vs,t',e1,j,B _ _ _ _ I l,l,J]
 |met f y=>
  let e:h.get? a=some (aqO (.ref f) (.ref y)):=x;show h.get? a=some (aqO (.ref f) (.ref y));show e
 |ext φ=>let#[p,#[o,e],st]:=x;show#[p,#[o,e],st]
section
variable{X:Cx}{ϵ:List (δ×Obj)}{σ:St}{H:Hp}{s:μ}{d:δ}
def Inv.amC(I:Inv X ϵ σ H s)(a:H d=some (.dK Ϸ)):∃o,Inv X ϵ σ (upd H d (.frz o (.dK Ϸ))) s:=by
 let#[z,lo,vs,i,f]:=wz I.hok a;let#[o,es,ep,g,_]:=id f;show#[o,?_];let ne:∀b u,H b=some u->(∀ks,u≠.dK ks)->b≠d:=λb u e h z=>by rw[z,a]at e;cases e;show h _ rfl
 let st:∀b u,ώ X.prog X.w H s.heap b u->ώ X.prog X.w (upd H d (.frz o (.dK Ϸ))) s.heap b u:=λb u q=>q.stay (λ_ _ _ r=>r) (λc r=>by rw[ξ (ne _ _ r nofun)];show r) (λc xs r=>by rw[ξ (ne _ _ r nofun)];show r) λc j v r=>by rw[ξ (ne _ _ r nofun)];show r
 have:=I.un (t':=s.toks) (h':=s.heap) (H':=upd H d (.frz o (.dK Ϸ))) #[λb o e _ _ _=>e,λb o e _ _ _=>#[o.slots,e],λb o _ n _=>by rw[ξ (λz=>by rw[z,a]at n;cases n)];show n,λb o e _=>#[o,e],λb xs q=>by rw[ξ (ne _ _ q nofun)];show q,λb o u q=>by rw[ξ (ne _ _ q nofun)];show q,λb ps q=>#[#v[],by rw[ξ (ne _ _ q nofun),q];simp]] λb u q=>?_
 .show this
 .by_cases z:b=d
  .subst z;rw[ς]at q;cases q;show#[g,st _ _ (I.hok _ _ a)]
  .rw[ξ z]at q;show st b u (I.hok b u q)
def Inv.agk(I:Inv X ϵ σ H s)(f:H d=some (.frz o (.dK Ϸ)))(B:∀o u,¬X.H₀ d=some (.frz o u)):Inv X ϵ σ (upd H d (.dK Ϸ)) s:=by
 let ne:∀b u,H b=some u->(∀o v,u≠.frz o v)->b≠d:=λb u e h z=>by rw[z,f]at e;cases e;show h _ _ rfl
 let i:∀b,H b=none->b≠d:=λb e z=>by rw[z,f]at e;cases e
 show#[I.ok,I.os,I.bare,#[I.base.keep,I.base.slot,λb o e n D=>?_,I.base.there,λb xs e=>?_,λb o u e=>?_,λb ps e=>?_],I.loc,I.cell,?_,λx c e=>?_,λp E=>?_,λb u e=>?_,I.len]
 .have :=I.base.free b o e n D;rw[ξ (i b this)];show this
 .have :=I.base.tups b xs e;rw[ξ (ne _ _ this (λ_ _ z=>by cases z))];show this
 .rw[ξ (λz=>B o u (by rw[<-z];show e))];show I.base.frzs b o u e
 .let#[g,q]:=I.base.tbls b ps e;show#[g,by rw[ξ (ne _ _ q (λ_ _ z=>by cases z))];show q]
 .rw[ξ (i _ I.free)];show I.free
 .rw[ξ (i _ (I.freeC x c e))];show I.freeC x c e
 .let#[p1,p2,p3]:=I.pin p E;show#[p1,by rw[ξ (i _ p2)];show p2,p3]
 .by_cases z:b=d
  .subst z;rw[ς]at e;cases e;let#[_,q]:=(I.hok b _ f:ώ X.prog X.w H s.heap b (.frz o (.dK Ϸ)));let#[z,y,vs,r,a,es,ep,e,c]:=q;show#[z,y,vs,r,a,es,ep,e,c]
  .rw[ξ z]at e;let k1:∀c,H c=some (.own b)->(upd H d (.dK Ϸ)) c=some (.own b):=λc q=>by rw[ξ (ne _ _ q (λ_ _ z=>by cases z))];show q
   let k2:∀c xs,H c=some (.tup xs)->(upd H d (.dK Ϸ)) c=some (.tup xs):=λc xs q=>by rw[ξ (ne _ _ q (λ_ _ z=>by cases z))];show q
   let k3:∀c a v vs,H c=some (.frz a v)->a.data=.fields vs->(upd H d (.dK Ϸ)) c=some (.frz a v):=λc a v vs q F=>by
    let j:c≠d:=λj=>by
     rw[j,f]at q;let#[G,_,_,_,_,l,es,ep,m,_,hd,_]:=(I.hok d _ f:ώ X.prog X.w H s.heap d (.frz o (.dK Ϸ)));rw[G]at m;let e1:l=o:=(Option.some.inj m).symm;let J:a=o:=by injection q with q;injection q with L M;show L.symm
     rw[e1, <-J,F]at hd;cases hd
    rw[ξ j];show q
   show ώ.acz (H':=upd H d (.dK Ϸ)) (I.hok b u e) k1 k2 k3
theorem acb(a:H d=some (.dK Ϸ))(h:∀o,Ι X body D σ (upd H d (.frz o (.dK Ϸ)))):Ι X body D σ H:=λϵ s I=>by
 let#[o,c]:=I.amC a;show h o ϵ s c
theorem ado(a:H d=some (.frz o (.dK Ϸ)))(c:∀o u,¬X.H₀ d=some (.frz o u))(h:Ι X body D σ (upd H d (.dK Ϸ))):Ι X body D σ H:=λϵ s I=>h ϵ s (I.agk a c)
end
def j9(keep:Nat->Bool)(n:Nat):List Nat:=(acR n).filter keep
def abg(keep:Nat->Bool)(n:Nat):j9 keep (n+1)=j9 keep n++(if keep n=true then[n]else[]):=by
 unfold j9;rw[aq8,aqG];by_cases h:keep n=true
 .simp[h]
 .let h':keep n=false:=by simpa using h
  simp[h']
def aby(keep:Nat->Bool)(n:Nat):(j9 keep n).length<=n:=by
 have:=aiu keep (acR n);rw[afO]at this;show this
def ZR(X:Cx)(N':List Str)(scope:agV)(tg elt c:ϧ)(σ':St)(H1:Hp)(Q:VK)(xs:List V):Prop:=
 ∃(g:St->Prop)(keep:Nat->Bool)(e:δ->Nat->V->Hp->Prop),g σ'/\
  (∀E i v H2 f ys,H2 E=some (.lst ys)->(∀b o,b≠E->H2 b=some o->f b=some o)->e E i v H2->e E i v f)/\
  (∀(fp:List δ)(E C:δ)(j:μ)(l:Hp)(i:Nat)(n:St)(x:V)(H2:Hp),H1 E=none->xs[i]?=some x->g n->ζ H1 H2->(∃ys,H2 E=some (.lst ys))->
   EG (b7 X N' scope (ϗ scope X.env) C j l fp) tg x n H2 λa f=>ET (b7 X N' scope (ϗ scope X.env) C j l fp) c a f λk m=>k=keep i/\g a/\ζ H2 m/\(k=true->EV (b7 X N' scope (ϗ scope X.env) C j l fp) elt a m λv p=>e E i v p/\ζ m p))/\
  ∀(E:δ)(H2:Hp)(us:List V),H1 E=none->H2 E=some (.lst us)->_V.ρ (λu i=>e E i u H2) us (j9 keep xs.length)->ζ H1 H2->Q (.ref E) H2
def acJ(hn:xs.length<=ϯ)(hl:η X.K H l xs)(h:ZR X N' scope tg elt c σ' H Q xs):∀(fp:List δ)(E C:δ)(M:μ),H E=none->j5 X (b7 X N' scope (ϗ scope X.env) C M (upd H E (.lst [])) fp) tg elt [c] (kW X.K l) E σ' H (λH'=>Q (.ref E) H'):=by
 intro fp E C M F;let#[S,keep,T,t0,mono,step,fin]:=h;show#[λi m O H1=>m=xs.length-i/\i<=xs.length/\ζ H H1/\S O/\∃us,H1 E=some (.lst us)/\_V.ρ (λu i=>T E i u H1) us (j9 keep i),#[xs.length,by simp,ad5 _,ζ.upd F,t0,[],ς,.nil],?_]
 rintro i m O H1 ⟨rfl,hi,y,P,us,g,G⟩
 by_cases z:i<xs.length
 .show .inr #[#[xs,xs[i],ζ.seq y hl,aaj z],λB H'=>ζ H H'/\S B/\∃us,H' E=some (.lst us)/\_V.ρ (λu i=>T E i u H') us (j9 keep (i+1)),λB H' z1=>by let#[a,b,d]:=z1;show #[xs.length-(i+1),(),rfl,z,a,b,d],λx H2 U=>?_];let Y:xs[i]?=some x:=U.2 xs (ζ.seq y hl);let Z:H2=H1:=U.1;subst Z;intro ϵ s u I r;show υ (step fp E C M _ i O x _ F Y P y #[us,g] ϵ s u I r) λ_ s' ⟨R,H3,I3,q3⟩=>#[R,H3,I3,amn ?_]
  show λϵ s I=>υ (q3 ϵ s I) λk s' ⟨H4,I4,hk,W,n,q⟩=>#[H4,I4,?_]
  subst hk;let J:=abg keep i;let hkl:=aby keep i;let jG:=G.len;by_cases f:keep i=true
  .rw[if_pos f];rw[if_pos f]at J;show ϝ (q f) λv L ⟨pv,D⟩=>#[us,D _ _ (n _ _ g),(),?_]
   let up:∀b o,b≠E->L b=some o->(upd L E (.lst (us++[v]))) b=some o:=λb o hb e=>by rw[ξ hb];show e
   show#[λb o e=>?_,W,us++[v],ς,?_]
   .rw[ξ (ϑ e F)];show D _ _ (n _ _ (y _ _ e))
   .rw[J];show _V.ρ.app (G.imp λu j p=>?_) (.cons (mono E i v L _ us (D _ _ (n _ _ g)) up pv) .nil);show mono E j u L _ us (D _ _ (n _ _ g)) up (mono E j u H2 _ us g (λb o _ e=>D _ _ (n _ _ e)) p)
  .rw[if_neg f];rw[if_neg f,aoJ]at J;show#[y.trans n,W,us,n _ _ g,?_];rw[J];show G.imp λu j p=>mono E j u H2 _ us g (λb o _ e=>n _ _ e) p
 .let e:i=xs.length:=()
  subst e;show .inl #[#[xs,ζ.seq y hl,Ϭ _],fin E H1 us F g G y]
def acS(N':List Str)(a:cR N' X.N σ scope=σ')(f:X.calm=true)(S:cL X.env scope)(hs:∀x,foldedSetIterable e X.env x=pure x)(h:EV X e σ H λv H1=>∃l xs,v=.ref l/\η X.K H1 l xs/\xs.length<=ϯ/\ZR X N' scope tg elt c σ' H1 Q xs):EV X (.ListComp elt [#[tg,e,[c],0]] scope pos) σ H Q:=by
 show rm (N':=N') f S hs (wH (ϝ h λv H1 q=>?_));let#[l,xs,rfl,hl,g,i]:=q;show#[l,rfl,#[xs,hl],?_];rw[a];show acJ g hl i
end _L
namespace _L
open PySem PySem.Spec PyProof.Rows
abbrev DX(K:Ϩ)(mg:Str->Option ε)(x:Str)(st:π):Prop:=∃f fd,cZ K x x st f fd/\mg x=some (.ref f)
abbrev LN(sp:Sp)(n:Nat):Prop:=∀vs H Q E,sp vs H Q E->vs.length=n
section
variable{K:Ϩ}{h:ϫ}{mg:Str->Option ε}(X:K.In h)(G:h.Ns mainGlobals mg){x y m qual fld:Str}{st:π}{f C D:δ}{od an:Option δ}{sl:Array (Option ε)}{oc kV dc pm cd ct:ε}{t:Tok}
abbrev cC(K:Ϩ)(x:Str)(C:δ):Prop:=asq K mainGlobals x=some (some (.ref C))
abbrev qT(K:Ϩ)(m qual:Str)(st:π)(f:δ)(od an:Option δ)(sl:Array (Option ε))(oc kV dc pm cd ct:ε):Prop:=K.lookup f=some #[oc,od,.func (art m qual (mO st) (ϖ st) (χ st) .none kV dc pm an cd ct),sl]
include X G
theorem ag2(a:cC K x f)(l:qT K x x st f od an sl oc kV dc pm cd ct)(c:aqQ K cd x=true)(k:aok K (.ref f)=true):DX K mg x st:=#[_,_,uM (st:=st) l c k,ajh X G a]
theorem aej(g:asq K mainGlobals x=some (some (.str z t))):Gc mg x (.str z):=#[_,ajh X G g,_,rfl]
theorem aiv(g:asq K mainGlobals x=some (some (.int z t))):Gc mg x (.int z):=#[_,ajh X G g,_,rfl]
theorem ajW(z:asq K mainGlobals x=some none):mg x=none:=W.mg_none_of X G z
def ali(q:cC K x C):mg x=some (.ref (ο mg x)):=by let e:=ajh X G q;rw[dh e];show e
theorem als(q:cC K x C)(y:W.excIn K C vZ "ValueError.__new__"=true):Qk K mg x:=amV (ajh X G q) y
def abm(q:cC K x C)(r:cC K y D)(v:W.exmOne K (.ref C) (.ref D)=some b):W.exmOne K (.ref (ο mg x)) (.ref (ο mg y))=some b:=by
 rw[dh (ajh X G q),dh (ajh X G r)];show v
theorem ajg(q:cC K x C)(a:aqJ K C (.type "type")=true)(c:aqK K (.ref C) (.type "type") "__init__"=some (.val (.builtin "ValueError.__init__")))(e:ahm K (.ref C) "__getattribute__"=some (some (.builtin "type.__getattribute__")))(f:ard K (.ref C)=some (.type "type"))(g:aqv K C (.type "BaseException")=some true):Ox K mg x:=alF (ajh X G q) a c e f g
theorem ahp(q:cC K x C)(r:cC K y D)(c:rC K C D=true)(e:ard K (.ref C)=some (.type "type"))(f:amU K C=true)(g:aey K (.ref C) "__getattribute__"=some (some (.builtin "BaseException.__getattribute__")))(i:aey K (.ref C) "__getattr__"=some none)(j:aey K (.ref C) "__class__"=some (some (.builtin "object.__class__")))(l:ahm K (.builtin "object.__class__") "__get__"=some (some (.builtin "getset_descriptor.__get__")))(m:aq1 K (.builtin "object.__class__")=some true)(n:aqv K C (.type "object")=some true)(a:aqv K C (.type "BaseException")=some true):XC K mg y x:=amD (ajh X G q) (ajh X G r) c e f g i j l m n a
theorem ahP(q:cC K x C)(r:cC K y D)(a:aey K (.ref C) "__init__"=some (some (.ref f)))(l:qT K "__init__" qual st f od an sl oc kV dc pm cd ct)(c:aqQ K cd qual=true)(k:aok K (.ref f)=true)(e:Bo K C f=true)(g:arq K (.ref f)=true)(i:aey K (.ref C) "__setattr__"=some (some (.builtin "object.__setattr__")))(j:aqZ K C fld=some none)(m:rC K C D=true):Ti K mg y x qual fld st:=ah9 (ajh X G q) (ajh X G r) (uM (st:=st) l c k) e g i j m
def adN(q:cC K x C)(a:aey K (.ref C) fld=some none):aey K (.ref (ο mg x)) fld=some none:=by rw[dh (ajh X G q)];show a
def al9(q:cC K x C)(a:aey K (.ref C) fld=some none):ό K (ο mg x) fld:=by rw[dh (ajh X G q)];show a
theorem t_k(q:cC K x C)(a:aqt K C aq0=true)(b:amU K C=true)(c:aqP K C=true)(d:aey K (.ref C) "__setattr__"=some (some (.builtin "object.__setattr__"))):ϛ K (ο mg x):=Py (ajh X G q) a b c d
theorem aa3(q:cC K x C)(a:aey K (.ref C) "__init__"=some (some (.ref f)))(l:qT K "__init__" qual st f od an sl oc kV dc pm cd ct)(c:aqQ K cd qual=true)(k:aok K (.ref f)=true)(b:arq K (.ref f)=true)(d:arW K C=true)(e:aok K (.ref C)=true):OI K (ο mg x) qual st:=agA (ajh X G q) (uM (st:=st) l c k) a b d e
theorem aiy(q:cC K x C)(a:aey K (.ref C) m=some (some (.ref f)))(l:qT K m qual st f od an sl oc kV dc pm cd ct)(c:aqQ K cd qual=true)(k:aok K (.ref f)=true)(b:arq K (.ref f)=true):OM K (ο mg x) m qual st:=agE (ajh X G q) (uM (st:=st) l c k) a b
theorem aip(q:cC K x C)(a:aqK K (.ref C) (.type "type") m=some (.val (.ref f)))(l:qT K m qual st f od an sl oc kV dc pm cd ct)(c:aqQ K cd qual=true)(k:aok K (.ref f)=true)(b:aqJ K C (.type "type")=true)(d:ahm K (.ref C) "__getattribute__"=some (some (.builtin "type.__getattribute__"))):OB K (ο mg x) m qual st:=acH (ajh X G q) (uM (st:=st) l c k) a b d
def ahf(q:cC K x C)(r:cC K y D)(a:aqt K C aq0=true)(b:amU K C=true)(c:aqP K C=true)(d:aey K (.ref C) "__setattr__"=some (some (.builtin "object.__setattr__")))(e:aey K (.ref C) "__class__"=some (some (.builtin "object.__class__")))(f:ahm K (.builtin "object.__class__") "__get__"=some (some (.builtin "getset_descriptor.__get__")))(g:aq1 K (.builtin "object.__class__")=some true)(i:aqv K C (.type "object")=some true)(u:ars K (.ref C) (.ref D)=some true):OT K (ο mg x)/\ars K (.ref (ο mg x)) (.ref (ο mg y))=some true:=by
 show#[afm (ajh X G q) (Py (ajh X G q) a b c d) e f g i,?_];rw[dh (ajh X G q),dh (ajh X G r)];show u
omit X G
inductive j4 (mg:Str->Option ε):List δ->List δ->Prop
 |nil:j4 mg [] []
 |cons {x:Str} {C:δ} {l m:List δ} (h:mg x=some (.ref C)) (t:j4 mg l m):j4 mg (ο mg x::l) (C::m)
def j4.eq{l m:List δ}(h:j4 mg l m):l=m:=by
 induction h with
 |nil=>rfl
 |cons h _ a=>rw[dh h,a]
include X G
theorem gH{l m:List δ}(q:cC K x C)(t:j4 mg l m):j4 mg (ο mg x::l) (C::m):=.cons (ajh X G q) t
omit X G
def agz{l m:List δ}(t:j4 mg l m)(d:m.Nodup):l.Nodup:=by rw[t.eq];show d
end
theorem U4{st:π}{rest:List π}{D:Ends}{σ:St}{H:Hp}(h:let σ':=σ;let a:Ends:={D with nx:=λσ' H'=>Ι X rest D σ' H'};SX X st a σ' H):Ι X (st::rest) D σ H:=xK h
theorem Qh{st:π}{D:Ends}{σ:St}{H:Hp}(h:let σ':=σ;SX X st D σ' H):Ι X [st] D σ H:=abB h
end _L
namespace _L
open PySem PySem.Spec PyProof.Rows PySem.W
def qQ(k:Int):ε->Bool
 |.int i _=>i==k
 |_=>false
end _L
namespace _L
open PySem PySem.Spec PyProof.Rows
end _L
namespace _L
open PySem PySem.Spec PyProof.Rows PySem.W
end _L
namespace _L
open PySem PySem.Spec PyProof.Rows PySem.SeqAt AutoSeq1
end _L
namespace _L
open PySem PySem.Spec PyProof.Rows
end _L
namespace _L
open PySem PySem.Spec PyProof.Rows PySem.W
end _L
set_option compiler.extract_closed false
seal _L.EV _L.ET _L.EW _L.EA _L.SX _L.Ι _L.EG _L.ur _L.EI _L.OP _L.UN _L.CL _L.IX _L.SL _L.MT _L.EJ _L.xN _L.EH
section
open Lean
protected def _Z.q:Term:=⟨mkNode ``Parser.Term.hole #v[mkAtom "_"]⟩
protected def _Z.h (k:Name) (n:Nat):Term:=Syntax.mkApp (mkIdent k) (Array.replicate n _Z.q)
protected def _Z.t (l:List (MacroM (TSyntax `tactic))):MacroM (TSyntax `tactic):=do
 let a<-l.toArray.mapM id
 `(tactic|first $[| $a:tactic]*)
protected def _Z.r (l:List Name):MacroM (TSyntax `tactic):=do
 let a<-l.toArray.mapM λn=>`(tactic|refine $(mkIdent n) ?_)
 `(tactic|with_reducible first $[| $a:tactic]*)
protected def _Z.w (s:String):MacroM (TSyntax `tactic):=`(tactic|walk_at $(Syntax.mkStrLit s))
protected def _Z.b (t:MacroM (TSyntax `tactic)):MacroM Term:=do `(by $(← t):tactic)
protected def _Z.x (n:Name) (l:List Char) (f:Char → MacroM Term):MacroM (TSyntax `tactic):=do `(tactic|exact $(mkIdent n) $(← l.toArray.mapM f)*)
protected def _Z.a0:Char → MacroM Term
 |'r'=>_Z.b `(tactic|rfl)
 |'a'=>_Z.b `(tactic|assumption)
 |'d'=>_Z.b `(tactic|decide)
 |'o'=>_Z.b `(tactic|omega)
 |'q'=>`(?_)
 |'R'=>`(rfl)
 |'D'=>`(⟨by decide,by decide⟩)
 |'O'=>`(⟨by omega,by omega⟩)
 |_=>`(_)
protected def _Z.a:Char → MacroM Term
 |'u'=>_Z.b `(tactic|with_unfolding_all rfl)
 |'x'=>_Z.b (_Z.w "xo")
 |'f'=>_Z.b (_Z.t [`(tactic|decide),`(tactic|omega)])
 |'e'=>_Z.b (_Z.t [_Z.x ``Or.inl ['R'] _Z.a0,_Z.x ``Or.inr ['R'] _Z.a0])
 |'n'=>_Z.b (_Z.t [_Z.x `_L.Nx ['_','d','d'] _Z.a0,`(tactic|rfl)])
 |'i'=>do `(λ_ _=>$(← _Z.a0 'r'))
 |'j'=>do `(λ_=>$(← _Z.a0 'r'))
 |'l'=>do `(Or.inl $(← _Z.a0 'a'))
 |'m'=>_Z.b (_Z.t [_Z.x ``Or.inr ['D'] _Z.a0,_Z.x ``Or.inl ['D'] _Z.a0,_Z.x ``Or.inl ['O'] _Z.a0,_Z.x ``Or.inr ['O'] _Z.a0])
 |'p'=>`(⟨by decide,by decide,by decide⟩)
 |'s'=>`(_L.O4 ⟨_,200,rfl,by decide +kernel,by omega,?_⟩)
 |c=>_Z.a0 c
protected def _Z.f (n:Name) (s:String):MacroM (TSyntax `tactic):=do
 let a<-s.toList.toArray.mapM _Z.a
 `(tactic|refine $(mkIdent n) $a*)
protected def _Z.c (j:Name) (l:List Term) (n:Nat) (t:MacroM (TSyntax `tactic)):MacroM (TSyntax `tactic):=do
 let c:=Syntax.mkApp (mkIdent j) (#v[_Z.q] ++ l.toArray ++ Array.replicate n _Z.q)
 `(tactic|((with_reducible change $c); $(← t)))
end
section
open Lean
protected def _Z.B (a b:Name):MacroM (TSyntax `tactic):=do
 `(tactic|refine _L.bU PySem.F.plainAttrs_str $(mkIdent a) $(mkIdent b) (h:=?_))
protected def _Z.E:MacroM (TSyntax `tactic):=do
 let c1<-`((PySem.Expr.Compare _ [_] [_] _))
 let c2<-`((PySem.Expr.Compare _ [_,_] [_,_] _))
 let cl:=_Z.h ``PySem.Expr.Call 4
 let nm:=_Z.h ``PySem.Expr.Name 2
 let sb:=_Z.h ``PySem.Expr.Subscript 3
 let k1<-`(($(_Z.h ``PySem.Expr.Constant 3) :: _))
 let k2<-`(($(_Z.h ``PySem.Expr.FormattedValue 4) :: _))
 _Z.t [
  _Z.c `_L.EV [] 4 (_Z.t [
   _Z.c `_L.EV [nm] 3 (_Z.t [_Z.f `_L.afp "rq",_Z.f `_L.aed "arqd",_Z.f `_L.afh "rraq"]),
   _Z.r [`_L.adE,`_L.O4,`_L.alk],
   _Z.c `_L.EV [cl] 3 (_Z.t [
    _Z.c `_L.EV [Syntax.mkApp (mkIdent ``PySem.Expr.Call) #v[nm,_Z.q,_Z.q,_Z.q]] 3 (_Z.t [_Z.f `_L.ajf "rrarrq",_Z.f `_L.alJ "rrarrq",_Z.f `_L.ac7 "aafdrxdrrq",_Z.f `_L.aoz "aafdrxdq"]),
    _Z.B ``PySem.F.slot_str_join ``PySem.F.type_str_join,_Z.B ``PySem.F.slot_str_index ``PySem.F.type_str_index,_Z.B ``PySem.F.slot_str_startswith ``PySem.F.type_str_startswith]),
   _Z.c `_L.EV [c1] 3 (_Z.f `_L.agf "nq"),
   _Z.c `_L.EV [c2] 3 (_Z.f `_L.adz "uq"),
   _Z.r [`_L.agT,`_L.alw,`_L.ad6],
   _Z.c `_L.EV [sb] 3 (_Z.f `_L.afz "iq"),
   _Z.r [`_L.V3,`_L.aic,`_L.acg,`_L.aeF,`_L.agm,`_L.ajl,`_L.Ed,`_L.aeJ,`_L.aqh]]),
  _Z.c `_L.EA [] 4 (_Z.t [_Z.r [`_L.jw],_Z.f `_L.dH "rq"]),
  _Z.c `_L.ET [] 4 (_Z.t [
   _Z.c `_L.ET [c1] 3 (_Z.f `_L.agt "nq"),
   _Z.c `_L.ET [c2] 3 (_Z.f `_L.ahB "uq"),
   _Z.r [`_L.aa1],
   _Z.c `_L.ET [_Z.h ``PySem.Expr.BoolOp 3] 3 (_Z.f `_L.lZ "q"),
   _Z.c `_L.ET [nm] 3 (_Z.f `_L.PN "jq"),_Z.c `_L.ET [cl] 3 (_Z.f `_L.PN "jq"),_Z.c `_L.ET [sb] 3 (_Z.f `_L.PN "jq"),_Z.c `_L.ET [_Z.h ``PySem.Expr.Constant 3] 3 (_Z.f `_L.PN "jq")]),
  _Z.c `_L.EW [] 4 (_Z.r [`_L.aeI,`_L.aih,`_L.ag8,`_L.abU]),
  _Z.c `_L.EO [] 4 (_Z.r [`_L.alS,`_L.aeX]),
  _Z.c `_L.xN [] 5 (_Z.t [
   _Z.c `_L.xN [k1] 4 (_Z.f `_L.aca "s"),
   _Z.c `_L.xN [k2] 4 (_Z.f `_L.aca "q"),
   _Z.f `_L.ani "oq"])]
protected def _Z.O:MacroM (TSyntax `tactic):=_Z.r [`_L.alT,`_L.alr,`_L.adl,`_L.adQ,`_L.adW,`_L.ab5,`_L.ajo,`_L.af1,`_L.am1,`_L.amm,`_L.aoT,`_L.aiO,`_L.aez,`_L.agG,`_L.aoX,`_L.ao9]
protected def _Z.P:MacroM (TSyntax `tactic):=do
 let i:=_Z.h `_L.V.int 1
 let c (n:Name):Term:=Syntax.mkApp (mkIdent ``PySem.compareOp) #v[mkIdent n]
 let b (n:Name):Term:=Syntax.mkApp (mkIdent ``PySem.binaryOp) #v[mkIdent n]
 let v (s:String):Term:=Syntax.mkApp (mkIdent ``PySem.Value.builtin) #v[Syntax.mkStrLit s]
 let r<-`([_L.V.ref _])
 let z<-`([_L.V.str _])
 _Z.t [
  _Z.c `_L.OP [c ``PySem.CmpOp.Eq] 4 (_Z.f `_L.Kl "rq"),
  _Z.c `_L.OP [c ``PySem.CmpOp.NotEq] 4 (_Z.f `_L.JK "rq"),
  _Z.c `_L.OP [b ``PySem.Operator.Mod,i,i] 2 (_Z.f `_L.afc "fq"),
  _Z.c `_L.OP [b ``PySem.Operator.Mult,i,i] 2 (_Z.f `_L.af4 "mq"),
  _Z.c `_L.OP [b ``PySem.Operator.Pow,i,i] 2 (_Z.f `_L.K1 "pq"),
  _Z.c `_L.CL [v "len",r] 2 (_Z.f `_L.vG "lq"),
  _Z.c `_L.CL [v "len",z] 2 (_Z.f `_L.aec "oq"),
  _Z.c `_L.CL [v "ord",z] 2 (_Z.f `_L.adO "q"),
  _Z.c `_L.CL [v "isinstance"] 3 (_Z.t [`(tactic|refine _L.Te (k:=false) ?_),`(tactic|refine _L.Te (k:=true) ?_)])]
protected def _Z.T:MacroM (TSyntax `tactic):=do
 let f (c:Term):MacroM (TSyntax `tactic):=`(tactic|((with_reducible change $c); refine ⟨_,rfl,?_⟩))
 _Z.t [_Z.r [`_L.ahE],_Z.r [`_L.abt],_Z.r [`_L.alE],_Z.r [`_L.apw],
  _Z.r [`_L.afx,`_L.aga,`_L.aiK,`_L.akd,`_L.ank,`_L.ae7,`_L.aeG,`_L.ach,`_L.am4,`_L.apE],
  do f (← `(∃ k,_L.V.bl _ = _L.V.bl k ∧ _)),do f (← `(∃ k,_L.Jo _ (_L.V.bl _) _ k ∧ _)),do f (← `(∃ i,_L.V.int _ = _L.V.int i ∧ _)),
  `(tactic|((with_reducible change _L.sV _ _ (_L.V.str _) _ ∧ _); refine ⟨by rfl,?_⟩))]
protected def _Z.S:MacroM (TSyntax `tactic):=do
 let a<-`((PySem.Stmt.Assign [PySem.Expr.Name _ _] _ _))
 _Z.t [_Z.r [`_L.Γ],`(tactic|((with_reducible refine _L.Qh ?_); intro _)),`(tactic|((with_reducible refine _L.U4 ?_); intro _ _)),
  _Z.r [`_L.ψ,`_L.aoc,`_L.ant,`_L.Μ],
  _Z.c `_L.SX [a] 3 (_Z.f `_L.alu "arereq"),
  _Z.c `_L.SX [_Z.h ``PySem.Stmt.Expr 2] 3 (_Z.f `_L.aM "q")]
end
local macro_rules|`(tactic|walk_at "xo")=>`(tactic|first|exact _L.Ϡ|assumption|exact _L.Ml rfl)
local macro_rules|`(tactic|walk_at "po")=>`(tactic|first|exact _L.aht|assumption|exact PySem.PassesOwn.never)
local macro_rules|`(tactic|walk_at "cb")=>_Z.f `_L.ajf "rrarrq"
local macro_rules|`(tactic|walk_at "e")=>_Z.E
local macro_rules|`(tactic|walk_at "t")=>_Z.T
local macro_rules|`(tactic|walk_at "c")=>`(tactic|(refine _L.U4 ?_; intro _ _))
local macro_rules|`(tactic|walk_at "n")=>`(tactic|(refine _L.Qh ?_; intro _))
local macro_rules|`(tactic|walk_at "s")=>_Z.S
local macro_rules|`(tactic|walk_at "go")=>do
 let x<-_Z.t [_Z.E,_Z.O,_Z.P,_Z.T,_Z.S]
 `(tactic|repeat' ($x:tactic))
local macro_rules|`(tactic|walk_at "ex")=>do
 let x<-_Z.t [_Z.E,_Z.O,_Z.P,_Z.T]
 `(tactic|repeat' ($x:tactic))
namespace _L
theorem mY{α:Type}{us:List α}(h:us.length=1):∃a,us=[a]:=match us,h with|[a],_=>#[a,rfl]
theorem iU{α:Type}{us:List α}(h:us.length=2):∃a b,us=[a,b]:=match us,h with|[a,b],_=>#[a,b,rfl]
theorem Yz{α:Type}{us:List α}(h:us.length=3):∃a b c,us=[a,b,c]:=match us,h with|[a,b,c],_=>#[a,b,c,rfl]
theorem aiL{α:Type}{us:List α}(h:us.length=4):∃a b c d,us=[a,b,c,d]:=match us,h with|[a,b,c,d],_=>#[a,b,c,d,rfl]
theorem afL{α:Type}{us:List α}(h:us.length=5):∃a b c d e,us=[a,b,c,d,e]:=match us,h with|[a,b,c,d,e],_=>#[a,b,c,d,e,rfl]
theorem ahe{α:Type}{us:List α}(h:us.length=6):∃a b c d e f,us=[a,b,c,d,e,f]:=match us,h with|[a,b,c,d,e,f],_=>#[a,b,c,d,e,f,rfl]
theorem agX{α:Type}{us:List α}(h:us.length=7):∃a b c d e f g,us=[a,b,c,d,e,f,g]:=match us,h with|[a,b,c,d,e,f,g],_=>#[a,b,c,d,e,f,g,rfl]
end _L
open Lean Parser.Tactic in
local macro_rules|`(tactic|walk_at "bb")=>_Z.t ([(1,`_L.mY),(2,`_L.iU),(3,`_L.Yz),(4,`_L.aiL),(5,`_L.afL),(6,`_L.ahe),(7,`_L.agX)].map λ(n,x)=>do
 let p<-`(rcasesPatLo|_)
 let q:=Array.replicate n p
 `(tactic|(intro _ _ _ _ _ _ us hl;obtain ⟨$q,*,e⟩:=$(mkIdent x) hl;subst e;rfl)))
local macro_rules | `(tactic| walk_at "ln") => `(tactic| (intro _ _ _ _ h; cases h; subst_vars; rfl))
local macro_rules | `(tactic| walk_at "A") => `(tactic| (walk_at "c"; walk_at "s"; walk_at "ex"))
namespace _K
open PySem _L PyProof.Rows
def top(i:Nat):π:=PySem.Challenge.pw_turnleaf_k63_a_living_list_turned.main.body.getD i (.Pass #[0,0,0,0])
abbrev MK:π:=top 26
abbrev K3:π:=top 33
abbrev RL:π:=top 34
abbrev Ww:π:=top 35
abbrev O3:π:=top 37
abbrev HB:π:=top 43
abbrev U0:π:=top 44
abbrev T3:π:=top 45
abbrev Ja:π:=top 47
abbrev Vv:π:=top 52
abbrev xZ:π:=top 53
abbrev Nq:π:=top 54
abbrev TV:π:=top 55
abbrev Q9:π:=top 56
abbrev BZ:π:=top 64
abbrev VR:π:=top 65
abbrev xY:π:=top 66
abbrev V2:π:=top 68
abbrev aay:π:=top 72
abbrev P0:π:=top 73
abbrev uB:π:=top 74
abbrev ZG:π:=top 75
abbrev aaG:π:=top 76
abbrev WR:π:=top 81
abbrev Oa:π:=top 110
abbrev Qe:π:=top 111
abbrev SJ:π:=top 112
abbrev Yo:π:=top 113
abbrev Qm:π:=top 114
abbrev YD:π:=top 115
abbrev VH:π:=top 116
abbrev DY:π:=top 126
abbrev Uc:π:=top 127
abbrev Xi:π:=top 128
abbrev Lg:π:=top 129
abbrev Fz:π:=top 131
abbrev Ri:π:=top 132
abbrev Pj:π:=top 133
abbrev Vo:π:=top 135
abbrev Ca:π:=top 138
abbrev Yi:π:=top 142
abbrev Tj:π:=top 146
abbrev Zb:π:=top 150
abbrev yD:π:=top 151
abbrev rN:π:=top 152
abbrev CK:π:=top 153
abbrev aaE:π:=top 154
abbrev ZD:π:=top 155
abbrev Zu:π:=top 156
abbrev Gk:π:=top 157
abbrev uv:π:=top 159
abbrev vN:π:=top 160
abbrev yN:π:=top 161
abbrev RC:π:=top 162
abbrev Vn:π:=top 163
abbrev Eu:π:=top 164
abbrev tO:π:=top 165
abbrev Jc:π:=top 166
abbrev p8:π:=top 167
abbrev Ds:π:=top 168
abbrev uy:π:=top 169
abbrev Ft:π:=top 170
abbrev Vb:π:=top 171
abbrev lW:π:=top 172
abbrev Kd:π:=inClass (top 84) 0
abbrev V9:π:=inClass (top 84) 1
abbrev mZ:π:=inClass (top 84) 2
abbrev RX:π:=inClass (top 86) 0
abbrev Mw:π:=inClass (top 86) 1
abbrev uc:π:=inClass (top 87) 0
abbrev qW:π:=inClass (top 87) 1
abbrev O8:π:=inClass (top 87) 2
abbrev ZS:π:=inClass (top 89) 0
abbrev O1:π:=inClass (top 90) 0
abbrev Q8:π:=inClass (top 91) 0
abbrev Pb:π:=inClass (top 92) 0
abbrev VP:π:=inClass (top 92) 1
abbrev UT:π:=inClass (top 148) 0
abbrev Sq:π:=inClass (top 148) 1
abbrev PX:π:=inClass (top 148) 2
abbrev Oz:π:=inClass (top 148) 3
abbrev xG:π:=inClass (top 148) 4
abbrev Zj:π:=inClass (top 148) 5
abbrev Sd:π:=inClass (top 148) 6
abbrev Yl:π:=inClass (top 148) 7
abbrev Y4:π:=inClass (top 148) 8
abbrev PB:π:=inClass (top 148) 11
abbrev NB:π:=inClass (top 148) 12
structure Txt(K:Ϩ)(mg:Str->Option ε):Prop where
 wR:DX K mg "is_whole" (top 25)
 vm:DX K mg "made_of" MK
 Hr:DX K mg "is_number_value" (top 27)
 Br:DX K mg "is_text_value" (top 28)
 Hf:DX K mg "is_value" (top 29)
 uX:DX K mg "value_before" (top 30)
 Di:DX K mg "value_word" (top 31)
 Gw:DX K mg "are_figures" (top 32)
 zT:DX K mg "read_figures" K3
 Em:DX K mg "read_number_word" RL
 K4:DX K mg "read_text_word" Ww
 yI:DX K mg "read_value" (top 36)
 Jh:DX K mg "read_values" O3
 CP:DX K mg "is_name" (top 42)
 FW:DX K mg "ask_columns" HB
 pU:DX K mg "place_of" U0
 Ik:DX K mg "row_words" T3
 Lb:DX K mg "is_row_number" (top 46)
 Dm:DX K mg "is_row" Ja
 Dz:DX K mg "read_order_word" Vv
 zH:DX K mg "read_order" xZ
 Gd:DX K mg "order_text" Nq
 BL:DX K mg "key_of" TV
 Ld:DX K mg "key_ahead" Q9
 HJ:DX K mg "number_of" (top 62)
 DR:DX K mg "rank_of" (top 63)
 G8:DX K mg "sorted_by" BZ
 Fv:DX K mg "let_through" VR
 Kv:DX K mg "line_of" xY
 Cz:DX K mg "lies_ahead" (top 67)
 yV:DX K mg "cut_place" V2
 wX:DX K mg "ask_size" (top 71)
 Ey:DX K mg "copy_of_cut" aay
 Gf:DX K mg "cut_beside" P0
 zN:DX K mg "leaf_between" uB
 Ho:DX K mg "leaf_forth" ZG
 Dj:DX K mg "leaf_back" aaG
 Hj:DX K mg "check_of" WR
 Az:DX K mg "check_word" (top 82)
 qw:DX K mg "word_at" (top 108)
 uV:DX K mg "text_between" (top 109)
 yr:DX K mg "read_column" Oa
 JR:DX K mg "read_word" Qe
 Hq:DX K mg "read_none" SJ
 G4:DX K mg "read_of_value" Yo
 amw:DX K mg "read_of_sieves" Qm
 Uq:DX K mg "read_part" YD
 ajH:DX K mg "read_sieve" VH
 Gb:DX K mg "cut_text" DY
 Iz:DX K mg "mark_text" Uc
 JL:DX K mg "read_make" Xi
 Ab:DX K mg "read_whole" Lg
 JB:DX K mg "read_side" (top 130)
 Gu:DX K mg "read_cut" Fz
 Jd:DX K mg "read_body" Ri
 Fw:DX K mg "read_mark" Pj
 Jl:DX K mg "rows_of_list" Vo
 CJ:DX K mg "is_untouched" (top 136)
 Kc:DX K mg "mark_at" (top 137)
 tQ:DX K mg "leaf_from" Ca
 zO:DX K mg "begin_of" (top 139)
 Eb:DX K mg "first_leaf" (top 140)
 Ez:DX K mg "last_leaf" (top 141)
 zG:DX K mg "read_good_mark" Yi
 Iw:DX K mg "turn_forth" (top 143)
 JW:DX K mg "turn_back" (top 144)
 JC:DX K mg "told_rows" Tj
 gQ:DX K mg "_law_draw" Zb
 Gg:DX K mg "_law_names" yD
 HD:DX K mg "_law_columns" rN
 Bu:DX K mg "_law_value" CK
 uJ:DX K mg "_law_values" aaE
 CZ:DX K mg "_law_order" ZD
 ym:DX K mg "_law_order_text" Zu
 Dd:DX K mg "_law_sieve" Gk
 zV:DX K mg "_law_word" (top 158)
 wI:DX K mg "_law_sieve_text" uv
 zJ:DX K mg "_law_lets" vN
 uE:DX K mg "_law_key" yN
 Bl:DX K mg "_law_is_ahead" RC
 Av:DX K mg "_law_line" Vn
 Ba:DX K mg "_law_mark" Eu
 Bq:DX K mg "_law_deed" tO
 Ko:DX K mg "_law_begun" Jc
 yc:DX K mg "_law_leaf" p8
 IV:DX K mg "_law_place" Ds
 Gr:DX K mg "_law_turned" uy
 J0:DX K mg "_law_begin" Ft
 Jg:DX K mg "_law_some_size" Vb
 afC:DX K mg "law" lW
 Kz:Gc mg "NUMBER" (.str "number")
 aas:Gc mg "TEXT" (.str "text")
 afk:Gc mg "FIGURES" (.str "0123456789")
 amx:Gc mg "LETTERS" (.str "abcdefghijklmnopqrstuvwxyz")
 ahj:Gc mg "TEXT_SIGNS" (.str "abcdefghijklmnopqrstuvwxyz0123456789-")
 X4:Gc mg "LARGEST" (.int 1000000000000000000)
 akK:Gc mg "LONGEST" (.int 20)
 PQ:Gc mg "NONE_WORD" (.str "?")
 RJ:Gc mg "TEXT_AHEAD" (.str "'")
 acd:Gc mg "BELOW_AHEAD" (.str "-")
 ajk:Gc mg "MOST_COLUMNS" (.int 6)
 ah3:Gc mg "LONGEST_NAME" (.int 8)
 Ye:Gc mg "LARGEST_ROW" (.int 1000000000)
 ae5:Gc mg "MOST_IN_ORDER" (.int 4)
 X7:Gc mg "UP_AHEAD" (.str "+")
 Yw:Gc mg "DOWN_AHEAD" (.str "-")
 Ma:Gc mg "START" (.str "start")
 ZP:Gc mg "END" (.str "end")
 wu:Gc mg "AHEAD" (.str "ahead")
 Ga:Gc mg "BEHIND" (.str "behind")
 ae9:Gc mg "LARGEST_SIZE" (.int 100)
 agU:Gc mg "BASE" (.int 137)
 acI:Gc mg "REST_BY" (.int 9973)
 akS:Gc mg "FIGURES_OF_CHECK" (.int 4)
 akb:Gc mg "MOST_WORDS" (.int 60)
 al0:Gc mg "MOST_WITHIN" (.int 20)
 Vu:Gc mg "ALL" (.str "all")
 Zh:Gc mg "NONE" (.str "none")
 Hi:Gc mg "IS" (.str "is")
 JP:Gc mg "UNDER" (.str "under")
 KD:Gc mg "OVER" (.str "over")
 HS:Gc mg "HOLDS" (.str "holds")
 Wt:Gc mg "NOT" (.str "not")
 S9:Gc mg "BOTH" (.str "both")
 aa4:Gc mg "EITHER" (.str "either")
 Et:Gc mg "LIVING" (.str "living")
 Pz:Gc mg "STILL" (.str "still")
 ad0:Gc mg "LATEST" (.int 5000)
 ala:Gc mg "PARTS" (.int 5)
 Qn:Gc mg "PARTING" (.str "/")
 Z5:Gc mg "STOP" (.str ".")
 Wi:Gc mg "AHEAD_SIGN" (.str "<")
 ZK:Gc mg "BEHIND_SIGN" (.str ">")
 Rt:mg "all"=none
 Vw:mg "bool"=none
 ahA:mg "enumerate"=none
 zQ:mg "int"=none
 ux:mg "isinstance"=none
 bh:mg "len"=none
 jJ:mg "list"=none
 z9:mg "max"=none
 Bx:mg "min"=none
 MJ:mg "ord"=none
 oX:mg "range"=none
 afd:mg "reversed"=none
 U7:mg "set"=none
 Ir:mg "sorted"=none
 mW:mg "str"=none
 Fj:mg "tuple"=none
 HQ:mg "zip"=none
 Kf:mg "Sieve"=some (.ref (ο mg "Sieve"))
 aeT:mg "AllSieve"=some (.ref (ο mg "AllSieve"))
 ajS:mg "NoneSieve"=some (.ref (ο mg "NoneSieve"))
 am0:mg "IsSieve"=some (.ref (ο mg "IsSieve"))
 al7:mg "UnderSieve"=some (.ref (ο mg "UnderSieve"))
 akN:mg "OverSieve"=some (.ref (ο mg "OverSieve"))
 alo:mg "HoldsSieve"=some (.ref (ο mg "HoldsSieve"))
 agh:mg "NotSieve"=some (.ref (ο mg "NotSieve"))
 ajL:mg "Book"=some (.ref (ο mg "Book"))
 Cj:ϛ K (ο mg "AllSieve")
 abk:OI K (ο mg "AllSieve") "Sieve.__init__" Kd
 af7:OM K (ο mg "AllSieve") "lets" "Sieve.lets" V9
 akE:OM K (ο mg "AllSieve") "shown" "Sieve.shown" mZ
 TY:ό K (ο mg "AllSieve") "text"
 uY:ϛ K (ο mg "NoneSieve")
 agP:OI K (ο mg "NoneSieve") "NoneSieve.__init__" RX
 acv:OM K (ο mg "NoneSieve") "lets" "NoneSieve.lets" Mw
 alp:OM K (ο mg "NoneSieve") "shown" "Sieve.shown" mZ
 V8:ό K (ο mg "NoneSieve") "text"
 Vp:ό K (ο mg "NoneSieve") "place"
 qj:ϛ K (ο mg "IsSieve")
 amR:OI K (ο mg "IsSieve") "ValueSieve.__init__" uc
 ahU:OM K (ο mg "IsSieve") "fits" "ValueSieve.fits" O8
 afe:OM K (ο mg "IsSieve") "lets" "ValueSieve.lets" qW
 ai8:OM K (ο mg "IsSieve") "shown" "Sieve.shown" mZ
 Wq:ό K (ο mg "IsSieve") "text"
 U5:ό K (ο mg "IsSieve") "place"
 R8:ό K (ο mg "IsSieve") "value"
 sS:ϛ K (ο mg "UnderSieve")
 ahd:OI K (ο mg "UnderSieve") "ValueSieve.__init__" uc
 afF:OM K (ο mg "UnderSieve") "fits" "UnderSieve.fits" ZS
 amH:OM K (ο mg "UnderSieve") "lets" "ValueSieve.lets" qW
 akU:OM K (ο mg "UnderSieve") "shown" "Sieve.shown" mZ
 aaw:ό K (ο mg "UnderSieve") "text"
 Xh:ό K (ο mg "UnderSieve") "place"
 M5:ό K (ο mg "UnderSieve") "value"
 tR:ϛ K (ο mg "OverSieve")
 ag1:OI K (ο mg "OverSieve") "ValueSieve.__init__" uc
 ai2:OM K (ο mg "OverSieve") "fits" "OverSieve.fits" O1
 afl:OM K (ο mg "OverSieve") "lets" "ValueSieve.lets" qW
 alK:OM K (ο mg "OverSieve") "shown" "Sieve.shown" mZ
 TQ:ό K (ο mg "OverSieve") "text"
 OD:ό K (ο mg "OverSieve") "place"
 Vf:ό K (ο mg "OverSieve") "value"
 rD:ϛ K (ο mg "HoldsSieve")
 agj:OI K (ο mg "HoldsSieve") "ValueSieve.__init__" uc
 afr:OM K (ο mg "HoldsSieve") "fits" "HoldsSieve.fits" Q8
 afG:OM K (ο mg "HoldsSieve") "lets" "ValueSieve.lets" qW
 aa5:OM K (ο mg "HoldsSieve") "shown" "Sieve.shown" mZ
 Us:ό K (ο mg "HoldsSieve") "text"
 ZX:ό K (ο mg "HoldsSieve") "place"
 Tv:ό K (ο mg "HoldsSieve") "value"
 vR:ϛ K (ο mg "NotSieve")
 abq:OI K (ο mg "NotSieve") "NotSieve.__init__" Pb
 alU:OM K (ο mg "NotSieve") "lets" "NotSieve.lets" VP
 abw:OM K (ο mg "NotSieve") "shown" "Sieve.shown" mZ
 Yj:ό K (ο mg "NotSieve") "text"
 Oh:ό K (ο mg "NotSieve") "one"
 aG:ϛ K (ο mg "Book")
 ams:OI K (ο mg "Book") "Book.__init__" UT
 aag:OM K (ο mg "Book") "ask_row" "Book.ask_row" PX
 Ef:OM K (ο mg "Book") "ask_there" "Book.ask_there" Oz
 akY:OM K (ο mg "Book") "change" "Book.change" Sd
 CT:OM K (ο mg "Book") "columns" "Book.columns" Sq
 JS:OM K (ο mg "Book") "do" "Book.do" xG
 K7:OM K (ο mg "Book") "moment" "Book.moment" Y4
 akq:OM K (ο mg "Book") "now_rows" "Book.now_rows" NB
 Pu:OM K (ο mg "Book") "put" "Book.put" Zj
 ail:OM K (ο mg "Book") "since" "Book.since" PB
 ahu:OM K (ο mg "Book") "take" "Book.take" Yl
 Ex:ό K (ο mg "Book") "heads"
 uF:ό K (ο mg "Book") "rows"
 Hd:ό K (ο mg "Book") "touched"
 YB:ό K (ο mg "Book") "done"
 alI:ό K (ο mg "Book") "known"
 Kw:ό K (ο mg "Book") "now"
 HY:OB K (ο mg "Sieve") "__init__" "Sieve.__init__" Kd
abbrev agN:List Str:=["self","values","value"]
def Pr:Ρ agN ["self","values"] (χ qW):=by room
abbrev ahI:List Str:=["self","row","values","was"]
def Z1:Ρ ahI ["self","row","values"] (χ xG):=by room
abbrev abf:List Str:=["word","most","number"]
def Xe:Ρ abf ["word","most"] (χ K3):=by room
abbrev alY:List Str:=["word","below","number"]
def Uo:Ρ alY ["word"] (χ RL):=by room
abbrev afR:List Str:=["word"]
def Sw:Ρ afR ["word"] (χ Ww):=by room
abbrev ako:List Str:=["columns","name","kind","names"]
def Lr:Ρ ako ["columns"] (χ HB):=by room
abbrev afU:List Str:=["columns","name","place","column"]
def YQ:Ρ afU ["columns","name"] (χ U0):=by room
abbrev amO:List Str:=["columns","row","values"]
def WY:Ρ amO ["columns","row","values"] (χ Ja):=by room
abbrev agB:List Str:=["columns","word","sign","name"]
def Zv:Ρ agB ["columns","word"] (χ Vv):=by room
abbrev akQ:List Str:=["columns","text","words","order","names"]
def Mz:Ρ akQ ["columns","text"] (χ xZ):=by room
abbrev ajm:List Str:=["order","one","other","column","value","against"]
def Ut:Ρ ajm ["order","one","other"] (χ Q9):=by room
def mD:Array ε:=Ip #[182,4,183,38] "sorted_by.<locals>.rank"
abbrev Z3:List Str:=["rows","place","up","rank"]
def Tt:Ρ Z3 ["rows","place","up"] (χ BZ):=by room
abbrev Rw:List Str:=["columns","order","rows","line","name","up"]
def Wl:Ρ Rw ["columns","order","rows"] (χ xY):=by room
abbrev ama:List Str:=["columns","order","line","cut","low","high","middle","row","values"]
def Pk:Ρ ama ["columns","order","line","cut"] (χ V2):=by room
abbrev aiA:List Str:=["cut","values","row"]
def Np:Ρ aiA ["cut"] (χ aay):=by room
abbrev agq:List Str:=["columns","order","side","rows","cut","row","values"]
def O7:Ρ agq ["columns","order","side","rows","cut"] (χ P0):=by room
abbrev alR:List Str:=["columns","order","line","cut","start","stop","here","back","forth"]
def Q5:Ρ alR ["columns","order","line","cut","start","stop"] (χ uB):=by room
abbrev aj6:List Str:=["columns","order","line","cut","size","start"]
def LC:Ρ aj6 ["columns","order","line","cut","size"] (χ ZG):=by room
abbrev age:List Str:=["columns","order","line","cut","size","stop"]
def Y8:Ρ age ["columns","order","line","cut","size"] (χ aaG):=by room
abbrev ajn:List Str:=["text","total","power","sign"]
def Vj:Ρ ajn ["text"] (χ WR):=by room
abbrev akO:List Str:=["columns","words","place","column"]
def QW:Ρ akO ["columns","words","place"] (χ Oa):=by room
abbrev ah0:List Str:=["kind","words","place","word","value"]
def Zq:Ρ ah0 ["kind","words","place"] (χ Qe):=by room
abbrev ahC:List Str:=["columns","words","start","column"]
def Xu:Ρ ahC ["columns","words","start"] (χ SJ):=by room
abbrev amq:List Str:=["columns","words","start","word","column","kind","value","text"]
def T8:Ρ amq ["columns","words","start"] (χ Yo):=by room
abbrev ahc:List Str:=["columns","words","start","within","word","one","behind","other","text"]
def Lz:Ρ ahc ["columns","words","start","within"] (χ Qm):=by room
abbrev agC:List Str:=["columns","words","start","within","word"]
def BV:Ρ agC ["columns","words","start","within"] (χ YD):=by room
abbrev agM:List Str:=["columns","text","words","sieve","behind"]
def R5:Ρ agM ["columns","text"] (χ VH):=by room
abbrev aeb:List Str:=["cut","values","row","sign"]
def N5:Ρ aeb ["cut"] (χ DY):=by room
abbrev adw:List Str:=["mark","make","moment","order","sieve","cut","body"]
def UJ:Ρ adw ["mark"] (χ Uc):=by room
abbrev abY:List Str:=["letter","make"]
def Ze:Ρ abY ["letter"] (χ Xi):=by room
abbrev afS:List Str:=["word","most","number"]
def Y6:Ρ afS ["word","most"] (χ Lg):=by room
abbrev ah4:List Str:=["columns","order","text","side","words","row","kinds"]
def Yu:Ρ ah4 ["columns","order","text"] (χ Fz):=by room
abbrev acf:List Str:=["columns","body","parts","make","moment","order","sieve"]
def Wd:Ρ acf ["columns","body"] (χ Ri):=by room
abbrev akk:List Str:=["columns","text","body","stop","check"]
def QV:Ρ akk ["columns","text"] (χ Pj):=by room
abbrev alf:List Str:=["book","make","begin","sieve","rows"]
def RW:Ρ alf ["book","make","begin","sieve"] (χ Vo):=by room
abbrev agR:List Str:=["book","mark","size","onward","make","begin","order","text","cut","columns","line","here","back","forth","ahead","rows","moment"]
def aaI:Ρ agR ["book","mark","size","onward"] (χ Ca):=by room
abbrev adC:List Str:=["book","text","mark"]
def Tc:Ρ adC ["book","text"] (χ Yi):=by room
abbrev alA:List Str:=["_law_script","_law_k","_law_many","_law_cell","_law_seed"]
def Vi:Ρ alA ["_law_script","_law_k","_law_many"] (χ Zb):=by room
abbrev abT:List Str:=["_law_script","_law_many","_law_letters","_law_word_here","_law_size","_law_at","_law_first","_law_some","_law_k","_law_name","_law_sign"]
def V6:Ρ abT ["_law_script","_law_many"] (χ yD):=by room
abbrev ag4:List Str:=["_law_script","_law_many","_law_names_here","_law_some"]
def aah:Ρ ag4 ["_law_script"] (χ rN):=by room
abbrev aaX:List Str:=["_law_script","_law_k","_law_kind","_law_way","_law_cell","_law_sign"]
def Wa:Ρ aaX ["_law_script","_law_k","_law_kind"] (χ CK):=by room
abbrev akt:List Str:=["_law_script","_law_k","_law_columns_here","_law_first","_law_order_here","_law_n","_law_name"]
def Xw:Ρ akt ["_law_script","_law_k","_law_columns_here"] (χ ZD):=by room
abbrev alL:List Str:=["_law_script","_law_k","_law_columns_here","_law_way","_law_at","_law_value_here"]
def Nm:Ρ alL ["_law_script","_law_k","_law_columns_here"] (χ Gk):=by room
abbrev WL:List Str:=["_law_sieve_here","_law_columns_here","_law_words"]
def Gi:Ρ WL ["_law_sieve_here","_law_columns_here"] (χ uv):=by room
abbrev Tz:List Str:=["_law_sieve_here","_law_values_here","_law_value_here"]
def Iv:Ρ Tz ["_law_sieve_here","_law_values_here"] (χ vN):=by room
abbrev af5:List Str:=["_law_columns_here","_law_order_here","_law_one","_law_names_here"]
def YS:Ρ af5 ["_law_columns_here","_law_order_here","_law_one"] (χ yN):=by room
abbrev aiY:List Str:=["_law_order_here","_law_one","_law_other","_law_k","_law_mine","_law_theirs","_law_less"]
def Yn:Ρ aiY ["_law_order_here","_law_one","_law_other"] (χ RC):=by room
abbrev aeP:List Str:=["_law_columns_here","_law_order_here","_law_sieve_here","_law_rows","_law_line_here","_law_row","_law_key_here","_law_at","_law_other"]
def SN:Ρ aeP ["_law_columns_here","_law_order_here","_law_sieve_here","_law_rows"] (χ Vn):=by room
abbrev adH:List Str:=["_law_columns_here","_law_make","_law_begin_here","_law_order_here","_law_sieve_here","_law_sign","_law_one","_law_key_here","_law_words","_law_head","_law_text","_law_total","_law_power","_law_letter"]
def Xq:Ρ adH ["_law_columns_here","_law_make","_law_begin_here","_law_order_here","_law_sieve_here","_law_sign","_law_one"] (χ Eu):=by room
abbrev aci:List Str:=["_law_script","_law_k","_law_columns_here","_law_book","_law_state","_law_row","_law_way","_law_values_here"]
def Sx:Ρ aci ["_law_script","_law_k","_law_columns_here","_law_book","_law_state"] (χ tO):=by room
abbrev acM:List Str:=["_law_script","_law_columns_here","_law_book","_law_many","_law_state","_law_k","_law_row","_law_values_here"]
def Ls:Ρ acM ["_law_script","_law_columns_here","_law_book","_law_many"] (χ Jc):=by room
abbrev alG:List Str:=["_law_columns_here","_law_head","_law_line_here","_law_state","_law_first","_law_after","_law_own","_law_make","_law_begin_here","_law_order_here","_law_sieve_here","_law_rows","_law_row","_law_values_here","_law_back","_law_forth","_law_moment"]
def O9:Ρ alG ["_law_columns_here","_law_head","_law_line_here","_law_state","_law_first","_law_after","_law_own"] (χ p8):=by room
abbrev aiV:List Str:=["_law_columns_here","_law_order_here","_law_line_here","_law_sign","_law_one","_law_key_here","_law_many","_law_other","_law_theirs"]
def UW:Ρ aiV ["_law_columns_here","_law_order_here","_law_line_here","_law_sign","_law_one"] (χ Ds):=by room
abbrev akM:List Str:=["_law_columns_here","_law_head","_law_state","_law_rows","_law_kept","_law_size","_law_forth","_law_make","_law_begin_here","_law_order_here","_law_sieve_here","_law_line_here","_law_place_here","_law_own","_law_first","_law_after","_law_due","_law_more"]
def Ur:Ρ akM ["_law_columns_here","_law_head","_law_state","_law_rows","_law_kept","_law_size","_law_forth"] (χ uy):=by room
abbrev afD:List Str:=["_law_script","_law_columns_here","_law_book","_law_state","_law_head","_law_size","_law_texts","_law_line_here","_law_due","_law_found","_law_marks"]
def Pn:Ρ afD ["_law_script","_law_columns_here","_law_book","_law_state","_law_head","_law_size"] (χ Ft):=by room
abbrev aaS:List Str:=["_law_script","_law_k","_law_way"]
def V5:Ρ aaS ["_law_script","_law_k"] (χ Vb):=by room
abbrev KN:List Str:=["_law_script","_law_columns_here","_law_book","_law_state","_law_order_here","_law_head","_law_found","_law_due","_law_marks","_law_held","_law_k","_law_n","_law_at","_law_size","_law_forth","_law_own","_law_more","_law_one"]
def Qq:Ρ KN ["_law_script"] (χ lW):=by room
section
variable{P:Ϯ}{w:ϭ}{K:Ϩ}{mg:Str->Option ε}{base:ϫ}{cc:Bool}{k:Nat}{sp:Sp}
end
end _K
namespace _K
open PySem _L PyProof.Rows _M _V _W
section
variable{P:Ϯ}{w:ϭ}{K:Ϩ}{mg:Str->Option ε}{base:ϫ}
abbrev agL:Prop:=∀{P:Ϯ}{w:ϭ}{K:Ϩ}{mg:Str->Option ε}{base:ϫ}(T:Txt K mg)(hN:fj K mg base "sorted_by"){f:δ}{fd:ahh}(F:cZ K "law" "law" lW f fd),dM P w K mg base (cU P w) true 60 f fd ["_law_script"] (JM K "sorted_by" mD)
end
end _K
namespace _K
open PySem _L PyProof.Rows
end _K
section
open PySem PySem.W PyProof.Rows
open Lean in
local macro_rules(kind:=Lean.Parser.Command.universe)|s=>do
 let mut r:Array Syntax:=.empty
 for x in s[1].getArgs do
  let n:=x.getId
  let l:=n.toString.toList
  let k:=match l.head! with|'o'=>"o_"|'t'=>"tree_"|'h'=>"heap_"|'s'=>"sts_"|_=>"view_"
  let p:=if n.isAtomic then (String.ofList l.tail!).splitOn "x" |>.map (·.toNat!) else [0]
  for i in [p.head!:p.getLast!+1] do
   let m:=if n.isAtomic then Name.mkStr `PySem.Challenge.t0 s!"{k}{i}" else n
   r:=r.push (<-`(theorem $(mkIdent (`PySem.W.Fast++.mkSimple s!"tw{m.hash}")):ident:True:=⟨⟩))
 return mkNullNode r
universe o43x46 o49x1250 o1254x1408 h1409 t1408 t1399 t1329 h39 t1165 t1250 t1023 t974 t892 v39 t827 t798 PySem.Challenge.pw_turnleaf_k63_a_living_list_turned t776 t754 t725 t703 t681 t659 t644 t608 t579 t564 t513 t433 t366 s1330 t282 s1254 s893 t248 t226 s828 s367 s434 t204 s1024 t182 s283 s1400 t160 t145 s975 t130 s249 t115 s799 s514 t100 t85 s609 s726 s580 t70 s755 s227 s161 s183 s777 s205 s660 s682 s49 s704 s71 s86 h46 s146 s131 s101 s116 s645 s565 PySem.Challenge.rw_turnleaf_k63_a_living_list_turned t47
theorem PySem.Challenge.PySem.W.holds_open{r:OpenRow}{q:PySem.Program}{loose:List PySem.Str}{Xt:PySem.Shared→Bool}{XP:(PySem.Str→Option PySem.Value)→PySem.Heap→Prop}{α:Type}{Yf:PySem.Shared→α}{Ya:PySem.World→α}{YP:PySem.World→PySem.Heap→Prop}{d:DefRec}{kwd:List (PySem.Str×PySem.Expr)}{N:Nat}(a:LeftO r.prog q loose Xt Yf Ya N)(b:∀w s,Yf s=Ya w→YP w s.heap)(c:∀w h h',YP w h→(∀b o,h.get? b=some o→h'.get? b=some o)→YP w h')(e:∀s,Xt s=true→XP (s.heap.nsMap mainGlobals) s.heap)(f:∀mg h h',XP mg h→(∀b o,h.get? b=some o→h'.get? b=some o)→XP mg h')(g:defOf q r.name=some (d,kwd))(i:r.prog.theDef r.name=some (d.params,d.body,d.scope))(j:kwWritten? d.params.kwonlyargs d.params.kw_defaults=some kwd)(k:∀s,Xt s=true→RecFacts r.records s.heap)(l:(!r.writes || r.records.isEmpty)=true)(m:_K.agL∧r.wellSaid=true)(n:(chainsOk q && opensWell r.prog && (frees r.toRowW && r.within.isEmpty))=true)(o:r.prog.bare)(p:r.toRowW.promised)(u:_K.agL→WalkO q loose XP YP r.toRowW d kwd λf v=>PySem.call f v):r.Holds:=_root_.PySem.W.holds_open a b c e f g i j k l m.2 n o p (u m.1)
set_option maxRecDepth 100000 in
set_option maxHeartbeats 0 in
theorem PySem.Challenge.t0(g : _K.agL):PySem.Challenge.rw_turnleaf_k63_a_living_list_turned.Holds := by
 w_on;o_law;have gs:_K.agL∧PySem.Challenge.rw_turnleaf_k63_a_living_list_turned.row.wellSaid=true:=⟨g,by assumption⟩;k_head;(case hw=>w_witness2)
 intro g;k_fill
 show _L.acX (l:=PySem.Challenge.rw_turnleaf_k63_a_living_list_turned) (n:=63) (k:=60) (x:="_law_script") (xn:="sorted_by") (ps:=_K.mD) (CX:=λw=>_L.cU PySem.Challenge.rw_turnleaf_k63_a_living_list_turned.prog w) (cc:=true) (sp:=λw=>_L.JM _ "sorted_by" _K.mD) rfl (by decide) rfl #[λ_=>rfl,by decide,by decide] (λw h Y=>PySem.W.km_in_of Y) ?R ?B ?F (λ_ _ a ns hl i j=>#[a,ns,rfl,i,hl,j,λ_=>rfl]) (λ_ _ _ _ _ z=>_L.cU.never z)
 case R=>kernel_rfl
 case B=>intro w;kernel_rfl
 case F=>
  intro w mg E h c G e;let T:_K.Txt (_L.Wg c) mg:=by
   clear g;dsimp only[_L.Wg];constructor
   all_goals first|refine' _L.ag2 c G ..|refine' _L.aej c G ..|refine' _L.aiv c G ..|refine' _L.ajW c G ..|refine' _L.ali c G ..|refine' _L.als c G ..|refine' _L.ahp c G ..|refine' _L.ahP c G ..|refine' _L.t_k c G ..|refine' _L.aiy c G ..|refine' _L.al9 c G ..|refine' _L.aa3 c G ..|refine' _L.adN c G ..|refine' _L.abm c G ..|refine' _L.ajg c G ..|refine' _L.ahf c G ..|refine' _L.aip c G ..|refine' _L.agz (mg:=mg) (_L.gH c G ?_ (_L.gH c G ?_ (_L.gH c G ?_ (_L.gH c G ?_ (_L.gH c G ?_ (_L.gH c G ?_ (_L.gH c G ?_ (_L.gH c G ?_ (_L.gH c G ?_ (_L.gH c G ?_ (_L.gH c G ?_ (_L.gH c G ?_ _L.j4.nil)))))))))))) ?_
   any_goals try delta _L.cC
   any_goals try delta _L.qT
   any_goals first|k_is|k_exc|kernel_rfl|decide
  let#[f,fd,F,m]:=T.afC;let p:=e.symm.trans m;cases p;let#[oc,od,kV,q,pm,an,H,ct,v,rfl,lk,y]:=id F.ex;show#[_,λs u=>.of_eq rfl,λbase I J D=>g T D F]
end
namespace _K
open PySem _L PyProof.Rows _M _V _W
section
variable{P:Ϯ}{w:ϭ}{K:Ϩ}{mg:Str->Option ε}{base:ϫ}
def gQ(T:Txt K mg):Def P w K mg base true 1 "_law_draw" ["_law_script","_law_k","_law_many"] (Nv K):=by
 show Δ (S:=Vi) T.gQ (λ_ _ _ _ _ H vs Q E l h=>?_);intro X _;let#[a,ns,k,m,rfl,g,hl,i,j,n,q]:=h;let n1:=T.bh;let nd:=Vi.nd;let f:(ns.map V.int).length=ns.length:=aaA ..;w_up;cbv;rw[f];let fin:∀c:Int,c=xR ns k->Q (.int ((c % 1000003+31*k*k+1)*48271 % 999983*7919 % 524287 % m)) H:=λc e=>by rw[e];show q
 show Ε (λh=>?_) (λh=>?_)
 .cbv;rw[f];cbv;show ϊ g (Ov 0 (ahb _ ()) (afs _ ())) ?_;cbv;show fin _ (by unfold xR;rw[if_pos ()])
 .cbv;show fin _ (by unfold xR;rw[if_neg ()])
def Vg:iT.cps.toList=List.range' 97 26:=by fin2
def aj3(c:Nat):c∈iT.cps.toList↔97<=c/\c<=122:=by
 rw[Vg,List.mem_range'_1];omega
def Wy(h:k<26):iT.cps.toList[k]?=some (97+k):=by
 rw[Vg,List.getElem?_range' h];simp
def abD(h1:1<=z.length)(a:z.length<=8)(h:∀c∈z.cps.toList,97<=c/\c<=122):isName z=true:=by
 unfold isName eV;rw[aaO,decide_eq_true_eq,ack];show#[#[h1,a],λc e=>decide_eq_true ((aj3 c).mpr (h c e))]
def cz(W:Str)(at_ size first:Nat)(b:Bool)(j:Nat):Str:=
 if b=true then ϐ W none (some (at_:Int))++#[#v[97+(first+7*j) % 26]]++ϐ W (some ((at_+1:Nat):Int)) (some (size:Int))else ϐ W none (some ((j+1:Nat):Int))
def xm(a:W.length=8)(c:at_<size)(hs:size<=8):(cz W at_ size first true j).cps.toList=W.cps.toList.take at_++(97+(first+7*j) % 26)::(W.cps.toList.drop (at_+1)).take (size-(at_+1)):=by
 unfold cz;rw[if_pos rfl,bA,bA,Am,Ai,_H.lC,_H.lC,a,aiz (),aiz (),arE];rfl
def yF:(cz W at_ size first false j).cps.toList=W.cps.toList.take (j+1):=by
 unfold cz;rw[if_neg (by decide),Am]
def aeV(a:W.length=8)(c:at_<size)(hs:size<=8)(e:j<6):1<=(cz W at_ size first b j).length/\(cz W at_ size first b j).length<=8:=by
 let hl:=len_list W;rw[_L.len_list (cz W at_ size first b j)];cases b with
 |true=>
  rw[xm a c hs,abo,acj,adg,adg,adh];omega
 |false=>
  rw[yF,adg];omega
def acK(f:W.length=8)(g:at_<size)(hs:size<=8)(e:∀c∈W.cps.toList,97<=c/\c<=122):∀c∈(cz W at_ size first b j).cps.toList,97<=c/\c<=122:=by
 intro c a;cases b with
 |true=>
  rw[xm f g hs]at a;obtain h|h:=adb.mp a
  .show e c (adM h)
  .obtain h|h:=ϳ.mp h
   .have :=aqN (first+7*j) (show 0<26 by decide);omega
   .show e c (adG (adM h))
 |false=>
  rw[yF]at a;show e c (adM a)
def agH(c:W.length=8)(f:at_<size)(hs:size<=8)(hi:i<6)(g:j<6)(e:cz W at_ size first b i=cz W at_ size first b j):i=j:=by
 let hl:=len_list W;let a:=congrArg (λz:Str=>z.cps.toList) e;cases b with
 |true=>
  rw[xm c f hs,xm c f hs]at a;let h1:=(List.append_inj a rfl).2;injection h1 with h2 _
  omega
 |false=>
  rw[yF,yF]at a;have:=congrArg aoo a;rw[adg,adg]at this;omega
inductive aaf (K:Ϩ) (vs:List V) (H:Hp) (Q:VK) (E:XK):Prop
 |mk (a:δ) (ns:List Int) (m:Nat):vs=[.ref a,.int m]->η K H a (ns.map V.int)->ns.length<=63->m<=6->(∀(p:δ)(zs:List Str) H',ζ H H'->H p=none->H' p=some (.lst (zs.map V.str))->zs.length=m->zs.Nodup->(∀z∈zs,isName z=true)->Q (.ref p) H')->aaf K vs H Q E
def Gg(T:Txt K mg):Def P w K mg base true 2 "_law_names" ["_law_script","_law_many"] (aaf K):=by
 show Δ (S:=V6) T.Gg (λ_ _ _ _ s H vs Q E hr h=>?_);intro X _;let#[a,ns,m,rfl,L,hl,hm,q]:=h;let nd:=V6.nd;let n1:=T.oX;let hsz:=ϰ;let D1:= @gQ P w K mg base T;let aqj:iT.length=26:=by fin2
 w_up;cbv;show Xp ["_law_k","_law_letters","_law_script"] (σ':=[none,some (.str iT),some (.ref a)]) (bN (χ yD)) n1 ?_;f_are;show#[8,rfl,(),(),λi v=>v=.str #[#v[97+(ϓ ns (100+(i:Int)) 26).toNat]],λfp E' C s3 H0 i H2 hi B=>?_,λE' H1 xs hE ϻ U e2 M =>?_]
 .cbv;show#[a,ns,100+i,26,rfl,B.seq L,hl,(),(),by decide,?_];let h1:=aN ns (100+i) (m:=26) (by decide);let h2:=aZ ns (100+i) (m:=26) (by decide);show jU () (n:=97+(ϓ ns (100+(i:Int)) 26).toNat) ?_ #[rfl,ζ.refl _];let e:ϓ ns (100+(i:Int)) 26=(((ϓ ns (100+(i:Int)) 26).toNat:Nat):Int):=()
  let h3:=ϒ (Wy (k:=(ϓ ns (100+(i:Int)) 26).toNat) ());rw[<-e]at h3;show h3
 .let ex:=fD (ys:=acR 8) (λi:Nat=>V.str #[#v[97+(ϓ ns (100+(i:Int)) 26).toNat]]) (by rw[ϻ,afO];rfl) (λi v e=>#[i,?_,U i v e])
  .let vg:xs=(((acR 8).map λi:Nat=>97+(ϓ ns (100+(i:Int)) 26).toNat).map λc=>(#[#v[c]]:Str)).map V.str:=by
    rw[ex,aep,aep];rfl
   subst vg;cbv;show jg (η.of e2) ?_ ?_
   .let e0:("":Str).length=0:=by fin2
    rw[Lj,aaA,aaA,afO,e0];omega
   rw[Yd];let u:(#[((acR 8).map λi:Nat=>97+(ϓ ns (100+(i:Int)) 26).toNat).toArray]:Str).length=8:=by rw[_L.len_list];simp
   let O:∀c∈(#[((acR 8).map λi:Nat=>97+(ϓ ns (100+(i:Int)) 26).toNat).toArray]:Str).cps.toList,97<=c/\c<=122:=λc hc=>by
    let Y:c∈(acR 8).map λi:Nat=>97+(ϓ ns (100+(i:Int)) 26).toNat:=by simpa using hc
    let#[i,_,rfl]:=aa6.mp Y;let h1:=aN ns (100+i) (m:=26) (by decide);let h2:=aZ ns (100+i) (m:=26) (by decide);omega
   generalize(#[((acR 8).map λi:Nat=>97+(ϓ ns (100+(i:Int)) 26).toNat).toArray]:Str)=W at u O⊢;w_up;cbv;show#[a,ns,112,8,rfl,M.seq L,hl,by decide,by decide,by decide,?_];let s0:=aN ns 112 (m:=8) (by decide);let s1:=aZ ns 112 (m:=8) (by decide);obtain⟨sz,es⟩:∃sz:Nat,1+ϓ ns 112 8=(sz:Int):=#[(1+ϓ ns 112 8).toNat,()];lk;rw[es];w_up;cbv;show#[a,ns,113,_,rfl,M.seq L,hl,by decide,by decide,(),?_];let a0:=aN ns 113 (m:=(sz:Int)) ();let a1:=aZ ns 113 (m:=(sz:Int)) ();let#[at_,ea]:=aa7 a0;rw[ea]at a1⊢;cbv;show#[a,ns,114,26,rfl,M.seq L,hl,by decide,by decide,by decide,?_];let f0:=aN ns 114 (m:=26) (by decide);let f1:=aZ ns 114 (m:=26) (by decide);let#[g,ef]:=aa7 f0;rw[ef]at f1⊢;cbv;show#[Β,λp hp=>?_];let pn:H p=none:=M.free hp;let aL:ζ H (upd H1 p (.lst [])):=M.trans (ζ.upd hp);let ep:(upd H1 p (.lst [])) p=some (.lst []):=ς;generalize upd H1 p (.lst [])=H2 at aL ep⊢;let Z:at_<sz:=()
   let KQ:sz<=8:=()
   w_up;show pQ (by walk_at"po") (by rfl) (by rfl) n1 (by rfl) ?_;cbv;show#[(),(),λi σ H'=>(∃D G l,σ=[some (.ref a),some (.int m),some (.str iT),some (.str W),some (.int sz),some (.int at_),some (.int g),some (.ref p),D,G,l])/\ζ H H'/\H' p=some (.lst (((acR i).map (cz W at_ sz g (decide (ϓ ns 110 2=1)))).map V.str)),
    #[#[none,none,none,rfl],aL,ep],λi σ H' hi hP=>?_,λσ H' hP=>?_]
   .let#[#[D,G,l,rfl],B,f]:=hP;let hi6:i<6:=by
     have:i<m:=by simpa using hi
     omega
    show ω nd (by rfl) (.inl rfl) (.inl rfl) ?_
    let tail:∀(z:Str)(l:Option V),z=cz W at_ sz g (decide (ϓ ns 110 2=1)) i->∀(bk:_L.St->Hp->Prop),Ι X ((afW (M4 (ϖ yD) 6)).drop 2)
      {nx:=λσ H'=>(∃D G l,σ=[some (.ref a),some (.int m),some (.str iT),some (.str W),some (.int sz),some (.int at_),some (.int g),some (.ref p),D,G,l])/\ζ H H'/\H' p=some (.lst (((acR (i+1)).map (cz W at_ sz g (decide (ϓ ns 110 2=1)))).map V.str)),rt:=Q,bk:=bk,
       ct:=λσ H'=>(∃D G l,σ=[some (.ref a),some (.int m),some (.str iT),some (.str W),some (.int sz),some (.int at_),some (.int g),some (.ref p),D,G,l])/\ζ H H'/\H' p=some (.lst (((acR (i+1)).map (cz W at_ sz g (decide (ϓ ns 110 2=1)))).map V.str))}
      [some (.ref a),some (.int m),some (.str iT),some (.str W),some (.int sz),some (.int at_),some (.int g),some (.ref p),some (.int i),some (.str z),l] H':=by
     intro z l R bk;f_len;show aM (bU F.plainAttrs_list F.slot_list_append F.type_list_append (h:=?_));cbv;show#[.inl #[rfl,_,η.of f],?_];cbv;show dF jY #[p,_,_,rfl,rfl,f,by rw[aaA,aaA,afO];omega,?_];show#[#[_,_,_,rfl],λb o e=>?_,?_]
     .rw[ξ (ϑ e pn)];show B _ _ e
     .rw[ς,aq8,aoR,aoR,R];rfl
    w_up;cbv;show iG () ?_;cbv;show#[a,ns,110,2,rfl,B.seq L,hl,by decide,by decide,by decide,?_];cbv;show Ε (λh=>?_) (λh=>?_)
    .let h':ϓ ns 110 2=1:=by injection h
     let l1:=vO W none (some (at_:Int));let l2:=vO W (some ((at_:Int)+1)) (some (sz:Int));let ls:(#[#v[97+(g+7*i) % 26]]:Str).length=1:=rfl;let l3:=len_app (ϐ W none (some (at_:Int))) #[#v[97+(g+7*i) % 26]];w_up;cbv;rw[show((g:Int)+7*(i:Int)) % 26=(((g+7*i) % 26:Nat):Int)by omega];show jU () (ϒ (Wy (aqN _ (by decide)))) ?_;f_len;f_tup;cbv;show iG () ?_;cbv;show dq () ?_;cbv;show iG () ?_;show dq () ?_;show tail _ _ ?_ _;unfold cz;rw[decide_eq_true h',if_pos rfl];rfl
    .let h':¬ϓ ns 110 2=1:=λe=>h (by rw[e])
     show Γ (tail _ _ ?_ _);unfold cz;rw[decide_eq_false h',if_neg (by decide)];rfl
   .let#[#[D,G,l,rfl],B,f]:=hP;rw[apa]at f;generalize decide (ϓ ns 110 2=1)=b at f;let I:((acR m).map (cz W at_ sz g b)).Nodup:=by
     unfold asr;rw[anA];show List.Pairwise.imp_of_mem (λ{x y} U hy ab e=>?_) (aqr (n:=m));let hx':=aiT.mp U;let hy':=aiT.mp hy;show ab (agH u Z KQ () () e)
    let J:∀z∈(acR m).map (cz W at_ sz g b),isName z=true:=λz R=>by
     let#[j,hj,rfl]:=aa6.mp R;let hj':=aiT.mp hj;have:=aeV (first:=g) (b:=b) u Z KQ (show j<6 by omega);show abD this.1 this.2 (acK u Z KQ O)
    let d8:((acR m).map (cz W at_ sz g b)).length=m:=by rw[aaA,afO]
    generalize(acR m).map (cz W at_ sz g b)=zs at f I J d8;w_up;cbv;show#[a,ns,111,2,rfl,B.seq L,hl,by decide,by decide,by decide,?_];cbv;show Ε (λh=>?_) (λh=>?_)
    .f_len;show aM (afK F.plainAttrs_list F.slot_list_reverse F.type_list_reverse (by rfl) (by rfl) ?_);cbv;show#[.inl #[rfl,_,η.of f],?_];show dF ac1 #[p,_,rfl,rfl,f,?_];cbv;rw[<-arS];show q p zs.reverse _ (λb o e=>by rw[ξ (ϑ e pn)];show B _ _ e) pn ς (by rw[ark];show d8) (ara.mpr (I.imp λh=>Ne.symm h)) (λz R=>J z (arM.mp R))
    .cbv;show q p zs H' B pn f d8 I J
  .have :i<xs.length:=(aat.mp e).1;rw[aro (by simp at ϻ;omega)]
def nine:List Str:=[Ϫ "all",Ϫ "none",Ϫ "is",Ϫ "not",Ϫ "over",Ϫ "under",Ϫ "holds",Ϫ "both",Ϫ "either"]
def ahy:∀z∈nine,isName z=true:=by fin2
def af9:nine.Nodup:=by fin2
def Af(h:i<9):nine[i]?=some (nine.getD i ""):=by
 let a:i<nine.length:=h;rw[abJ,aaj a];rfl
def aiQ(hi:i<9)(a:j<9)(e:nine.getD i ""=nine.getD j ""):i=j:=by
 let e1:=Af hi;let c:=Af a;rw[e]at e1;let f:i<nine.length:=hi;let g:j<nine.length:=a;let l:nine[i]=nine.getD j "":=by
  have:=aaj f;rw[this]at e1;show Option.some.inj e1
 let m:nine[j]=nine.getD j "":=by
  have:=aaj g;rw[this]at c;show Option.some.inj c
 show(aoj af9).mp (l.trans m.symm)
def aaW{cs:List θ}(h1:1<=cs.length)(e:cs.length<=6)(f:(cs.map Prod.fst).Nodup)(h:∀c∈cs,isName c.1=true/\(c.2="number"\/c.2="text")):Χ cs=true:=by
 unfold Χ nY;rw[aaO,aaO,decide_eq_true_eq,decide_eq_true_eq,ack];show#[#[#[h1,e],λc a=>by rw[(h c a).1,decide_eq_true (h c a).2];rfl],f]
inductive RQ (K:Ϩ) (vs:List V) (H:Hp) (Q:VK) (E:XK):Prop
 |mk (a:δ) (ns:List Int):vs=[.ref a]->η K H a (ns.map V.int)->ns.length<=63->(∀p cs H',ζ H H'->H p=none->Τ H' p cs->Χ cs=true->Q (.ref p) H')->RQ K vs H Q E
def HD(T:Txt K mg):Def P w K mg base true 3 "_law_columns" ["_law_script"] (RQ K):=by
 show Δ (S:=aah) T.HD (λ_ _ _ _ s H vs Q E hr h=>?_);intro X _;let#[a,ns,rfl,g,hl,q]:=h;let nd:=aah.nd;let n1:=T.oX;let n2:=T.bh;let hsz:=ϰ;let D1:= @gQ P w K mg base T;let D2:= @Gg P w K mg base T;let uI:(["_law_k","_law_names_here","_law_script"]:List Str).Nodup:=by fin2
 let fin:∀(m:Nat)(L:δ)(zs:List Str)(H1:Hp)(o3:Option V),1<=m->m<=6->ζ H H1->H1 L=some (.lst (zs.map V.str))->zs.length=m->zs.Nodup->(∀z∈zs,isName z=true)->
   Ι X ((ϖ rN).drop 4) {nx:=λ_ H'=>Q .non H',rt:=Q} [some (.ref a),some (.int m),some (.ref L),o3] H1:=by
  intro m L zs H1 o3 j G f I Y Z FZ;let oY:(zs.map V.str).length=zs.length:=aaA ..;let SL:η K H1 L (zs.map V.str):=η.of I;f_len;show ψ ?_;show S8 ["_law_k","_law_names_here","_law_script"] (σ':=[none,some (.ref L),some (.ref a)]) (bN (χ rN)) n1 ?_;cbv;rw[oY];show#[(),(),λτ=>∃o1,τ=[o1,some (.ref L),some (.ref a)],λE2 i u H'=>∃kk:Str,(kk="number"\/kk="text")/\∃t,u=.ref t/\t≠E2/\H' t=some (.tup [.str (zs.getD i ""),.str kk]),#[none,rfl],λE2 i u H2 J ys _ y2 y3=>?_,λfp E2 C s3 H0 i τ x H4 J aY hi ab Ο ac hG=>?_,λL2 H2 ys ae M af D Η =>?_]
  .let#[kk,l,t,rfl,O,hq]:=y3;show#[kk,l,t,rfl,O,y2 _ _ O hq]
  .let#[o1,rfl]:=ab;let#[rfl,rfl]:=hG;let ag:i<zs.length:=by simpa using hi
   let hz:(zs.map V.str)[i]?=some (V.str (zs.getD i "")):=by
    rw[abI,abJ,aaj ag];rfl
   show ω uI (by rfl) (.inl rfl) (.inr rfl) ?_;cbv;show ϊ (Ο.seq SL) (ϒ hz) ?_;cbv;show#[Β,λk l=>?_];let#[R,ek]:=Ξ l (.lst [.str "number",.str "text"]);generalize upd H4 k (.lst [.str "number",.str "text"])=H5 at R ek⊢;cbv;show#[a,ns,10+i,2,rfl,((f.trans Ο).trans R).seq g,hl,(),(),by decide,?_];let k0:=aN ns (10+i) (m:=2) (by decide);let k1:=aZ ns (10+i) (m:=2) (by decide);let#[kd,e1,D]:=S7 (xs:=[V.str "number",V.str "text"]) k0 (by show _<(2:Int);omega);show ϊ (η.of ek) e1 ?_;cbv;obtain⟨kk,rfl,ah⟩:∃kk:Str,kd=.str kk/\(kk="number"\/kk="text"):=by
    obtain e|e:=ϳ.mp D
    .show#[_,e,.inl rfl]
    .show#["text",by simpa using e,.inr rfl]
   show#[Β,λtp p=>?_];show#[#[_,rfl],#[kk,ah,tp,rfl,λe=>?_,ς],R.trans (ζ.upd p)];let#[zs',ai]:=ac;rw[e,R _ _ ai]at p;cases p
  .let aj:ys.length=zs.length:=by rw[M];simp
   let al:∀(k:Nat)(ys:List V)(zs:List Str),ys.length=zs.length->(∀(i:Nat) u,ys[i]?=some u->∃kk:Str,(kk="number"\/kk="text")/\∃t,u=.ref t/\H2 t=some (.tup [.str (zs.getD i ""),.str kk]))->∃cs:List θ,ρ (wG H2) ys cs/\cs.map Prod.fst=zs/\∀c∈cs,c.2="number"\/c.2="text":=by
    intro _ ys;induction ys with
    |nil=>
     intro zs hl _;cases zs with
     |nil=>show#[[],.nil,rfl,λc B=>by simp at B]
     |cons _ _=>simp at hl
    |cons u ys ih=>
     intro zs hl h;cases zs with
     |nil=>simp at hl
     |cons z zs=>
      let#[kk,l,t,rfl,O]:=h 0 u rfl;let#[cs,h1,h2,h3]:=ih zs (by simpa using hl) λi u e=>by
       have:=h (i+1) u (by simpa using e);simpa using this
      show#[(z,kk)::cs,.cons #[t,rfl,by simpa using O] h1,by simp[h2],λc B=>?_];obtain e|e:=ϳ.mp B
      .subst e;show l
      .show h3 c e
   let#[cs,h1,h2,h3]:=al 0 ys zs aj λi u e=>by
    let#[kk,l,t,e1,_,e3]:=af i u e;show#[kk,l,t,e1,e3]
   let hcl:cs.length=zs.length:=by rw[<-h2,aaA]
   show q L2 cs H2 (f.trans Η) (f.free ae) #[ys,D,h1] (aaW () () (by rw[h2];show Z) λc B=>#[FZ _ ?_,h3 c B]);rw[<-h2];show aov B
 let F:∀(m:Nat),1<=m->m<=6->Ι X ((ϖ rN).drop 2) {nx:=λ_ H'=>Q .non H',rt:=Q} [some (.ref a),some (.int m),none,none] H:=by
  intro m j G;w_up;cbv;show#[a,ns,m,rfl,g,hl,G,λL zs H1 f gR I Y Z FZ=>?_];let oY:(zs.map V.str).length=zs.length:=aaA ..;w_up;cbv;show#[a,ns,9,4,rfl,f.seq g,hl,by decide,by decide,by decide,?_];cbv;show Ε (λh=>?_) (λh=>?_)
  .w_up;cbv;show#[Β,λy hy=>?_];let#[U,ey]:=Ξ hy (.lst (nine.map V.str));change Ι _ _ _ _ (upd H1 y (.lst (nine.map V.str)));generalize upd H1 y (.lst (nine.map V.str))=H2 at U ey⊢;let SL:η K H2 L (zs.map V.str):=η.of (U _ _ I);f_len;f_tup;show Xp ["_law_k","_law_script","_law_some"] (σ':=[none,some (.ref a),some (.ref y)]) (bN (χ rN)) n1 ?_;cbv;rw[oY];let d0:=aN ns 8 (m:=9) (by decide);let d1:=aZ ns 8 (m:=9) (by decide);let#[d,ed]:=aa7 d0;let hd:d<9:=()
   show#[(),(),λi v=>v=.str (nine.getD ((d+2*i) % 9) ""),λfp E' C s3 H0 i J hi W=>?_,λE' J xs hE M hx D W=>?_]
   .cbv;show#[a,ns,8,9,rfl,((f.trans U).trans W).seq g,hl,by decide,by decide,by decide,?_];rw[ed];cbv;rw[show((d:Int)+2*(i:Int)) % 9=(((d+2*i) % 9:Nat):Int)by omega];let hg:(nine.map V.str)[(d+2*i) % 9]?=some (V.str (nine.getD ((d+2*i) % 9) "")):=by
     rw[abI,Af (aqN _ (by decide))];rfl
    show ϊ (η.of (W _ _ ey)) (ϒ hg) #[rfl,ζ.refl _]
   .let ex:=fD (ys:=acR zs.length) (λi:Nat=>V.str (nine.getD ((d+2*i) % 9) "")) (by rw[M,afO];simp) (λi v e=>#[i,?_,hx i v e])
    .let vg:xs=((acR zs.length).map λi:Nat=>nine.getD ((d+2*i) % 9) "").map V.str:=by
      rw[ex,aep];rfl
     subst vg;show fin m E' _ J _ j G ((f.trans U).trans W) D (by rw[aaA,afO];show Y) ?_ λz hz=>?_
     .unfold asr;rw[anA];show List.Pairwise.imp_of_mem (λ{x y} hx hy hxy e=>?_) (aqr (n:=zs.length));let hx':=aiT.mp hx;let hy':=aiT.mp hy;have:=aiQ (aqN _ (by decide)) (aqN _ (by decide)) e;omega
     .let#[i,_,rfl]:=aa6.mp hz;let h9:(d+2*i) % 9<9:=aqN _ (by decide);show ahy _ (aaD (Af h9))
    .have :i<xs.length:=(aat.mp e).1;rw[aro (by simp at M;omega)]
  .show Γ ?_;show fin m L zs H1 _ j G f I Y Z FZ
 w_up;cbv;show#[a,ns,0,4,rfl,g,hl,by decide,by decide,by decide,?_];let c0:=aN ns 0 (m:=4) (by decide);let c1:=aZ ns 0 (m:=4) (by decide);obtain⟨m,em⟩:∃m:Nat,1+ϓ ns 0 4=(m:Int):=#[(1+ϓ ns 0 4).toNat,()];lk;rw[em];w_up;cbv;show#[a,ns,7,8,rfl,g,hl,by decide,by decide,by decide,?_];cbv;show Ε (λh=>?_) (λh=>?_)
 .f_len;f_tup;cbv;show#[a,ns,6,2,rfl,g,hl,by decide,by decide,by decide,?_];let c2:=aN ns 6 (m:=2) (by decide);let c3:=aZ ns 6 (m:=2) (by decide);obtain⟨m',am⟩:∃m:Nat,5+ϓ ns 6 2=(m:Int):=#[(5+ϓ ns 6 2).toNat,()];lk;rw[am];show F m' () ()
 .show Γ (F m () ())
def ϕ(a:Str)(v:V):Prop:=v=.non\/(a="number"/\∃i,v=.int i/\ -1000000000000000000<=i/\i<=1000000000000000000)\/(¬a="number"/\∃z,v=.str z/\z.length<=20/\∀c∈z.cps.toList,c∈SG)
def ϕ.sc(h:ϕ a v):scalar v=true:=by
 obtain rfl|⟨_,i,rfl,_⟩|⟨_,z,rfl,_⟩:=h<;>rfl
def ϕ.gP(h:ϕ a v):gP v=true/\∀z,v=.str z->bx 4000 z:=by
 obtain rfl|⟨_,i,rfl,_⟩|⟨_,z,rfl,hl,c⟩:=h
 .show#[rfl,λz e=>by cases e]
 .show#[rfl,λz e=>by cases e]
 .show#[rfl,λy e=>by cases e;show bx.sg () c]
def vd:List Str:=[Ϫ "",Ϫ "a",Ϫ "b",Ϫ "ab",Ϫ "a-",Ϫ "0",Ϫ "z9",Ϫ "aa"]
def ab3:∀z∈vd,z.length<=20/\∀c∈z.cps.toList,c∈SG:=by fin2
inductive aav (K:Ϩ) (vs:List V) (H:Hp) (Q:VK) (E:XK):Prop
 |mk (a:δ) (ns:List Int) (k:Int) (kd:Str):vs=[.ref a,.int k,.str kd]->η K H a (ns.map V.int)->ns.length<=63->0<=k->k<=50000->(∀v H',ζ H H'->ϕ kd v->Q v H')->aav K vs H Q E
def Bu(T:Txt K mg):Def P w K mg base true 2 "_law_value" ["_law_script","_law_k","_law_kind"] (aav K):=by
 show Δ (S:=Wa) T.Bu (λ_ _ _ _ _ H vs Q E hr h=>?_);intro X _;let#[a,ns,k,u,rfl,g,hl,L,M,q]:=h;let nd:=Wa.nd;let n1:=T.bh;let hsz:=ϰ;let D:(ns.map V.int).length=ns.length:=aaA ..;let D1:= @gQ P w K mg base T;let tail:∀(l cell:Int),Ι X ((ϖ CK).drop 3) {nx:=λ_ H'=>Q .non H',rt:=Q} [some (.ref a),some (.int k),some (.str u),some (.int l),some (.int cell),none] H:=by
  intro l cell;w_up;cbv;show Ε (λh=>?_) (λh=>?_)
  .let i:u="number":=by injection h
   cbv;show Ε (λh1=>?_) (λh1=>?_)
   .cbv;show#[a,ns,k+1,3,rfl,g,hl,(),(),by decide,?_];let f:=aN ns (k+1) (m:=3) (by decide);let c1:=aZ ns (k+1) (m:=3) (by decide);generalize ϓ ns (k+1) 3=d at f c1⊢;cbv;show q _ _ (ζ.refl _) (.inr (.inl #[i,_,rfl,(),()]))
   .cbv;show Ε (λh2=>?_) (λh2=>?_)
    .cbv;let f:=ahb cell (b:=2*1000000000000000000+1) (by decide);let c1:=afs cell (b:=2*1000000000000000000+1) (by decide);show q _ _ (ζ.refl _) (.inr (.inl #[i,_,rfl,(),()]))
    .cbv;show#[a,ns,k+1,4,rfl,g,hl,(),(),by decide,?_];let f:=aN ns (k+1) (m:=4) (by decide);let c1:=aZ ns (k+1) (m:=4) (by decide);generalize ϓ ns (k+1) 4=d at f c1⊢;cbv;show q _ _ (ζ.refl _) (.inr (.inl #[i,_,rfl,(),()]))
  .let i:¬u="number":=λe=>h (by rw[e])
   cbv;show Ε (λh1=>?_) (λh1=>?_)
   .let O:∀j,j<3->("z9-":Str).cps.toList[j]?=some (("z9-":Str).cps.toList.getD j 0):=by fin2
    let R:∀j,j<4->("a0-z":Str).cps.toList[j]?=some (("a0-z":Str).cps.toList.getD j 0):=by fin2
    let U:∀j,j<3->("z9-":Str).cps.toList.getD j 0∈SG:=by fin2
    let W:∀j,j<4->("a0-z":Str).cps.toList.getD j 0∈SG:=by fin2
    w_up;cbv;show#[a,ns,k+1,3,rfl,g,hl,(),(),by decide,?_];let f:=aN ns (k+1) (m:=3) (by decide);let c1:=aZ ns (k+1) (m:=3) (by decide);let#[d,Y]:=aa7 f;rw[Y];let hd:d<3:=()
    show jU (by fin2) (ϒ (O d hd)) ?_;let F:=U d hd;generalize("z9-":Str).cps.toList.getD d 0=x at F⊢;f_len;cbv;show amE (by decide) (by decide) (by show 0<1;decide) (by show 1*19<=ϯ;omega) ?_;let G:=ae6 x 19 (by decide);let r2:(sW (#[#v[x]]:Str) 19).length=19:=by rw[_L.len_list,G,apL];rfl
    cbv;show#[a,ns,k+2,4,rfl,g,hl,(),(),by decide,?_];let Z:=aN ns (k+2) (m:=4) (by decide);let e1:=aZ ns (k+2) (m:=4) (by decide);let#[s,Aj]:=aa7 Z;rw[Aj];let n:s<4:=()
    show jU (by fin2) (ϒ (R s n)) ?_;let I:=W s n;generalize("a0-z":Str).cps.toList.getD s 0=y at I⊢;let r3:(#[#v[y]]:Str).length=1:=rfl;let r4:=len_app (sW (#[#v[x]]:Str) 19) #[#v[y]];show dq () ?_;show q _ _ (ζ.refl _) (.inr (.inr #[i,_,rfl,(),λc J=>?_]));rw[bA,G]at J;obtain e|e:=adb.mp J
    .rw[aqL e];show F
    .have :c=y:=by simpa using e
     rw[this];show I
   .cbv;show#[Β,λp hp=>?_];let#[B,ep]:=Ξ hp (.lst (vd.map V.str));change EV _ _ _ (upd H p (.lst (vd.map V.str))) _;generalize upd H p (.lst (vd.map V.str))=H2 at B ep⊢;cbv;show#[a,ns,k+1,8,rfl,B.seq g,hl,(),(),by decide,?_];let f:=aN ns (k+1) (m:=8) (by decide);let c1:=aZ ns (k+1) (m:=8) (by decide);let#[v,e1,e2]:=S7 (xs:=vd.map V.str) f (by show _<(8:Int);omega);show ϊ (η.of ep) e1 ?_;let#[z,hz,rfl]:=aa6.mp e2;show q _ _ B (.inr (.inr #[i,z,rfl,ab3 z hz]))
 w_up;cbv;show#[a,ns,k,8,rfl,g,hl,(),(),by decide,?_];cbv;show Ε (λh0=>?_) (λh0=>?_)
 .cbv;show q _ _ (ζ.refl _) (.inl rfl)
 .cbv;rw[D];show Ε (λh3=>?_) (λh3=>?_)
  .cbv;rw[D];cbv;show ϊ g (Ov 0 (ahb _ ()) (afs _ ())) ?_;show tail _ _
  .lk;show tail _ _
inductive Ol (K:Ϩ) (vs:List V) (H:Hp) (Q:VK) (E:XK):Prop
 |mk (a:δ) (ns:List Int) (k:Int) (b:δ) (cs:List θ):vs=[.ref a,.int k,.ref b]->η K H a (ns.map V.int)->ns.length<=63->0<=k->k<=40000->Τ H b cs->cs.length<=6->(∀p xs H',ζ H H'->H p=none->H' p=some (.lst xs)->ρ (λc x=>ϕ c.2 x) cs xs->Q (.ref p) H')->Ol K vs H Q E
theorem nJ{α β:Type}{R:α->β->Prop}:∀{l:List α}{m:List β},m.length=l.length->(∀(i:Nat) b,m[i]?=some b->∃a,l[i]?=some a/\R a b)->ρ R l m
 |[],[],_,_=>.nil
 |[],_::_,h,_=>by simp at h
 |_::_,[],h,_=>by simp at h
 |a::l,b::m,h,g=>by
  let#[a',e,r]:=g 0 b rfl;have:a=a':=by simpa using e
  subst this;show .cons r (nJ (by simpa using h) λi x e=>by simpa using g (i+1) x (by simpa using e))
def uJ(T:Txt K mg):Def P w K mg base true 3 "_law_values" ["_law_script","_law_k","_law_columns_here"] (Ol K):=by
 show Δ (N:=["_law_script","_law_k","_law_columns_here"]) T.uJ (λ_ _ _ _ _ H vs Q E hr h=>?_);intro X _;let#[a,ns,k,b,cs,rfl,B,hl,D,F,G,I,q]:=h;let n1:=T.oX;let n2:=T.bh;let hsz:=ϰ;let D1:= @Bu P w K mg base T;let J:(["_law_n","_law_columns_here","_law_k","_law_script"]:List Str).Nodup:=by fin2
 let#[vs,M,e]:=id G;let f:=e.len;let O:η K H b vs:=η.of M;f_len;show ψ ?_;show S8 ["_law_n","_law_columns_here","_law_k","_law_script"] (σ':=[none,some (.ref b),some (.int k),some (.ref a)]) (bN (χ aaE)) n1 ?_;cbv;show#[(),(),λn=>∃s,n=[s,some (.ref b),some (.int k),some (.ref a)],λy i u H'=>∃c,cs[i]?=some c/\ϕ c.2 u,#[none,rfl],λy i u H2 R ys _ _ p=>p,λfp y C s3 H0 i n x H4 R aY hi g j S U=>?_,λL H1 ys W Y l e1 Z =>?_]
 .let#[s,rfl]:=g;let#[rfl,rfl]:=U;let m:i<vs.length:=by simpa using hi
  let z:vs[i]?=some vs[i]:=aaj m;let#[c,hc,t,ev,ht]:=e.get z;show ω J (by rfl) (.inl rfl) (.inr rfl) ?_;cbv;show ϊ (j.seq O) (ϒ z) ?_;rw[ev];cbv;show Α (ι.of (j _ _ ht)) (show Θ [V.str c.1,V.str c.2] 1=some (V.str c.2)from rfl) ?_;cbv;show#[a,ns,_,c.2,rfl,j.seq B,hl,(),(),λv H5 cQ hv=>?_];show#[#[_,rfl],#[c,hc,hv],cQ]
 .show q L ys H1 Z W e1 (nJ (by rw[Y, <-f];simp) l)
def pP(c:ε)(r:Option V)(H:Hp)(Q:VK)(E:XK):=∀H',ζ H H'->match r with
 |some v=>Q v H'
 |none=>False
inductive zq (c:ε) (vs:List V) (H:Hp) (Q:VK) (E:XK):Prop
 |mk (z):vs=[.str z]->z.length<=4000->pP c (vD (iu z.cps.toList)) H Q E->zq c vs H Q E
inductive By (c:ε) (vs:List V) (H:Hp) (Q:VK) (E:XK):Prop
 |mk (z):vs=[.str z]->z.length<=4000->pP c (w6 (jo z)) H Q E->By c vs H Q E
inductive BR (c:ε) (vs:List V) (H:Hp) (Q:VK) (E:XK):Prop
 |mk (k) (z):vs=[.str k,.str z]->z.length<=4000->pP c (eQ k z) H Q E->BR c vs H Q E
inductive zR (c:ε) (vs:List V) (H:Hp) (Q:VK) (E:XK):Prop
 |mk (a) (cs):vs=[.ref a]->Τ H a cs->cs.length<=4000->Hv cs->(∀H',ζ H H'->if Χ cs=true then Q .non H' else False)->zR c vs H Q E
inductive xj (c:ε) (vs:List V) (H:Hp) (Q:VK) (E:XK):Prop
 |mk (a) (cs) (z):vs=[.ref a,.str z]->Τ H a cs->z.length<=4000->(∀H',ζ H H'->iD cs z=none->False)->(∀p o H',ζ H H'->iD cs z=some o->H' p=some (.tup [.str o.1,.bl o.2])->Q (.ref p) H')->xj c vs H Q E
inductive yp (c:ε) (vs:List V) (H:Hp) (Q:VK) (E:XK):Prop
 |mk (a) (cs) (z):vs=[.ref a,.str z]->Τ H a cs->z.length<=4000->(∀H',ζ H H'->jb cs z=none->False)->(∀p os H',ζ H H'->jb cs z=some os->H p=none->ϥ H' p os->Q (.ref p) H')->yp c vs H Q E
inductive Yx (K:Ϩ) (mg:Str->Option ε) (vs:List V) (H:Hp) (Q:VK) (E:XK):Prop
 |mk (a:δ) (ws:List Str) (p:Nat):vs=[.ref a,.int p]->η K H a (ws.map V.str)->ws.length<=4000->p<=100000->(¬(p<ws.length/\p<60)->False)->(∀z,ws[p]?=some z->p<60->Q (.str z) H)->Yx K mg vs H Q E
def qw(T:Txt K mg):Def P w K mg base true 3 "word_at" ["words","place"] (Yx K mg):=by
 show Δ (N:=["words","place"]) T.qw (λ_ _ _ _ _ H vs Q E j h=>?_);intro X _;let#[a,ws,p,rfl,g,hl,l,c,q]:=h;let n1:=T.bh;let m:=T.akb;let i:(ws.map V.str).length=ws.length:=aaA ..;w_up;cbv;rw[i];show Ε (λh=>?_) (λh=>?_)
 .show(c ()).elim
 .cbv;show Ε (λh2=>?_) (λh2=>?_)
  .show(c ()).elim
  .cbv;let e:p<ws.length:=()
   let f:ws[p]?=some ws[p]:=aaj e;show ϊ g (ϒ (by rw[abI,f];rfl)) ?_;show q _ f ()
def cV(ws:List Str)(s b:Nat):Str:=adT " " ((ws.drop s).take (b-s))
inductive Xg (K:Ϩ) (vs:List V) (H:Hp) (Q:VK) (E:XK):Prop
 |mk (a:δ) (ws:List Str) (s b:Nat):vs=[.ref a,.int s,.int b]->η K H a (ws.map V.str)->ws.length<=4000->(∀z∈ws,z.length<=1000)->s<=b->b<=ws.length->(∀H',ζ H H'->Q (.str (cV ws s b)) H')->Xg K vs H Q E
theorem Mu:∀{l:List Str},(∀z∈l,z.length<=1000)->(l.map (·.length)).sum<=l.length*1000
 |[],_=>by simp
 |z::l,h=>by
  let h1:=Mu (l:=l) λy a=>h y (by simp[a])
  let h2:=h z (by simp);simp only[ac2,ang,acj];omega
def uV(T:Txt K mg):Def P w K mg base true 1 "text_between" ["words","start","behind"] (Xg K):=by
 show Δ (N:=["words","start","behind"]) T.uV (λ_ _ _ _ _ H vs Q E x h=>?_);intro X _;let#[a,ws,i,j,rfl,g,hl,m,n,y,q]:=h;let s:(" ":Str).length=1:=by fin2
 let hsz:=ϰ;f_len;show ψ ?_;cbv;show qU g λp u=>?_
 let e:cN (ws.map V.str) (some (i:Int)) (some (j:Int))=((ws.drop i).take (j-i)).map V.str:=by
  unfold cN;let c:(ws.map V.str).length=ws.length:=aaA ..;let e1:_H.Ζ (ws.map V.str).length 0 (some (i:Int))=i:=by
   rw[c];unfold _H.Ζ;split
   .rename_i h;cases h
   .rename_i h;cases h;rw[if_neg ()];omega
  let v:_H.Ζ (ws.map V.str).length (ws.map V.str).length (some (j:Int))=j:=by
   rw[c];unfold _H.Ζ;split
   .rename_i h;cases h
   .rename_i h;cases h;rw[if_neg ()];omega
  rw[e1,v, <-List.map_drop, <-List.map_take]
 rw[e];let#[f,ep]:=Ξ u (.lst (((ws.drop i).take (j-i)).map V.str));generalize upd H p (.lst (((ws.drop i).take (j-i)).map V.str))=H2 at f ep⊢;cbv;show jg (η.of ep) ?_ (q H2 f);let h1:=Mu (l:=(ws.drop i).take (j-i)) λz h=>m z (adG (adM h))
 let h2:((ws.drop i).take (j-i)).length<=4000:=by
  rw[adg,adh];omega
 rw[s];omega
def abE:∀{i:Nat}{c:θ}(j:Nat),cs[i]?=some c->(∀k c,k<i->cs[k]?=some c->¬c.1=z)->c.1=z->ie cs z j=.int ((j+i:Nat):Int):=by
 induction cs with
 |nil=>intro i c j e;simp at e
 |cons d r f=>
  intro i c j e h a;unfold ie;cases i with
  |zero=>
   simp at e;subst e;rw[if_pos a];rfl
  |succ i=>
   rw[if_neg (h 0 d () rfl)];rw[f (j+1) (by simpa using e) (λk c l g=>h (k+1) c () (by simpa using g)) a]
   congr 2
   omega
def acG:∀(j:Nat),(∀c∈cs,¬c.1=z)->ie cs z j=.non:=by
 induction cs with
 |nil=>intro j h;rfl
 |cons d r a=>
  intro j h;unfold ie;rw[if_neg (h d (by simp)),a (j+1) λc e=>h c (by simp[e])]
def pU(T:Txt K mg):Def P w K mg base true 1 "place_of" ["columns","name"] aab:=by
 show Δ (S:=YQ) T.pU (λ_ _ _ _ _ H vs Q E J h=>?_);intro X _;let#[a,cs,z,rfl,#[vs,B,f],q]:=h;let n1:=T.ahA;let nd:=YQ.nd;w_up;show aje (by walk_at"po") (by rfl) (by rfl) n1 (by rfl) ?_;cbv;show#[a,vs,rfl,B,λi σ H'=>(∃p s,σ=[some (.ref a),some (.str z),p,s])/\ζ H H'/\∀k c,k<i->cs[k]?=some c->¬c.1=z,#[#[none,none,rfl],ζ.refl _,λk c j=>()],λi σ H' hi g=>.inl (.inl (g.2.1 _ _ B)),λi x u σ H' F g G=>?_,λσ H' g=>?_]
 .let#[#[p,s,rfl],v,l]:=g;let#[c,m,t,rfl,I]:=f.get F;let n :=v.trans (ζ.upd (o:=.tup [.int i,.ref t]) G);let D:(upd H' u (.tup [.int i,.ref t])) u=some (.tup [.int i,.ref t]):=ς;generalize upd H' u (.tup [.int i,.ref t])=H2 at n D⊢;show ao (ι.of D) (Κ (ω nd (by rfl) (.inl rfl) (.inl rfl) (Κ (ω nd (by rfl) (.inl rfl) (.inl rfl) (ak ?_)))));f_len;cbv;show Α (ι.of (n _ _ I)) (show Θ [V.str c.1,V.str c.2] 0=some (V.str c.1)from rfl) ?_;cbv;show Ε (λh=>?_) (λh=>?_)
  .let y:c.1=z:=by injection h
   cbv;have:=abE 0 m l y;rw[akh]at this;rw[<-this];show q H2 n
  .let y:¬c.1=z:=λe=>h (by rw[e])
   cbv;show#[#[_,_,rfl],n,λk d j hd=>?_];by_cases e:k=i
   .subst e;rw[m]at hd;cases hd;show y
   .show l k d () hd
 .let#[#[p,s,rfl],v,l]:=g;f_len;cbv;have:=acG (cs:=cs) (z:=z) 0 λc m=>by
   let#[k,j,e]:=aqx m;show l k c (by rw[f.len];show j) (by rw[<-e];show aaj j)
  rw[<-this];show q H' v
def gB(cs:List θ)(ws:List Str)(p:Nat):Option Nat:=if p<60 then match ws[p]? with
 |none=>none
 |some z=>if cs.any (λc=>decide (c.1=z))=true then some (ϋ cs z)else none
 else none
inductive Pg (K:Ϩ) (mg:Str->Option ε) (vs:List V) (H:Hp) (Q:VK) (E:XK):Prop
 |mk (b:δ) (cs:List θ) (a:δ) (ws:List Str) (p:Nat):vs=[.ref b,.ref a,.int p]->Τ H b cs->η K H a (ws.map V.str)->ws.length<=4000->p<=100000->(gB cs ws p=none->False)->(∀i H',ζ H H'->gB cs ws p=some i->Q (.int (i:Nat)) H')->Pg K mg vs H Q E
def yr(T:Txt K mg):Def P w K mg base true 4 "read_column" ["columns","words","place"] (Pg K mg):=by
 show Δ (S:=QW) T.yr (λ_ _ _ _ _ H vs Q E v h=>?_);intro X _;let#[b,cs,a,ws,p,rfl,m,n,hl,s,g,q]:=h;let nd:=QW.nd;let x:= @pU P w K mg base T;let y:= @qw P w K mg base T;w_up;cbv;show#[a,ws,p,rfl,n,hl,s,λB=>g ?_,λz l i=>?_]
 .unfold gB;by_cases i:p<60
  .rw[if_pos i,am9 ()]
  .rw[if_neg i]
 .cbv;show#[b,cs,z,rfl,m,λH2 u=>?_];by_cases f:∃c∈cs,c.1=z
  .let e:gB cs ws p=some (ϋ cs z):=by
    unfold gB;rw[if_pos i,l];show if_pos (by rw[aqk];let#[c,j,e]:=f;show#[c,j,decide_eq_true e])
   rw[vf 0 f,akh];cbv;show q _ H2 u e
  .let e:gB cs ws p=none:=by
    unfold gB;rw[if_pos i,l];show if_neg (by rw[aqk];rintro⟨c,j,e⟩;show f #[c,j,of_decide_eq_true e])
   show(g e).elim
def uX(T:Txt K mg):Def P w K mg base true 1 "value_before" ["one","other"] Mj:=by
 show Δ (N:=["one","other"]) T.uX (λ_ _ _ _ _ H vs Q E a h=>?_);intro X _;let#[x,y,rfl,hs,q]:=h;w_up;cbv;show Ε (λh=>?_) (λh=>?_)
 .subst h;cbv;let e:before x .non=false:=by cases x<;>rfl
  rw[e]at q;show q
 .cbv;show Ε (λh2=>?_) (λh2=>?_)
  .subst h2;cbv;let e:before .non y=true:=by cases y<;>first|rfl|show absurd rfl h
   rw[e]at q;show q
  .obtain e|e|⟨i,j,rfl,rfl⟩|⟨i,j,rfl,rfl⟩:=hs
   .show absurd e h2
   .show absurd e h
   .cbv;show q
   .cbv;show q
inductive qi (K:Ϩ) (vs:List V) (H:Hp) (Q:VK) (E:XK):Prop
 |mk (a C dx:δ) (fs:List (Str×V)) (z:Str):vs=[.ref a,.str z]->H a=some (.ins C dx fs)->ϛ K C->ό K C "text"->fs.length<900->Q .non (upd H a (.ins C dx (aq "text" (.str z) fs)))->qi K vs H Q E
def Bm:FD P w K mg base cc 1 "__init__" "Sieve.__init__" Kd ["self","text"] (qi K):=by
 show bC (N:=["self","text"]) (λ_ _ _ _ _ H vs Q E g h=>?_);intro X _;let#[a,C,dx,fs,z,rfl,c,e,f,hl,q]:=h;f_len;show iZ ?_;f_are;f_are;show#[a,C,dx,fs,rfl,c,e,f,(),q]
inductive Ec (K:Ϩ) (vs:List V) (H:Hp) (Q:VK) (E:XK):Prop
 |mk (a C dx:δ) (fs:List (Str×V)) (z:Str) (p:V):vs=[.ref a,.str z,p]->H a=some (.ins C dx fs)->ϛ K C->ό K C "text"->ό K C "place"->fs.length<800->Q .non (upd (upd H a (.ins C dx (aq "text" (.str z) fs))) a (.ins C dx (aq "place" p (aq "text" (.str z) fs))))->Ec K vs H Q E
def abz(T:Txt K mg):FD P w K mg base cc 2 "__init__" "NoneSieve.__init__" RX ["self","text","place"] (Ec K):=by
 show bC (N:=["self","text","place"]) (λ_ _ _ _ _ H vs Q E f h=>?_);intro X _;let#[a,C,dx,fs,z,p,rfl,g,e,i,c,hl,q]:=h;let B:wJ P w K mg base cc 1 "Sieve" "__init__" ["self","text"] (qi K):=Bm.asked T.Kf T.HY;let j:=rW "text" (V.str z) fs;w_up;show aM ?_;show Cu (pl:=_) B f id Ϡ ?_;cbv;show#[a,C,dx,fs,z,rfl,g,e,i,(),?_];f_len;show iZ ?_;f_are;f_are;show#[a,C,dx,_,rfl,ς,e,c,(),q]
inductive tG (K:Ϩ) (vs:List V) (H:Hp) (Q:VK) (E:XK):Prop
 |mk (a C dx:δ) (fs:List (Str×V)) (z:Str) (p v:V):vs=[.ref a,.str z,p,v]->H a=some (.ins C dx fs)->ϛ K C->ό K C "text"->ό K C "place"->ό K C "value"->fs.length<800->(∀H',H' a=some (.ins C dx (aq "value" v (aq "place" p (aq "text" (.str z) fs))))->(∀b o,b≠a->H b=some o->H' b=some o)->Q .non H')->tG K vs H Q E
def Bs(T:Txt K mg):FD P w K mg base cc 2 "__init__" "ValueSieve.__init__" uc ["self","text","place","value"] (tG K):=by
 show bC (N:=["self","text","place","value"]) (λ_ _ _ _ _ H vs Q E j h=>?_);intro X _;let#[a,C,dx,fs,z,p,v,rfl,l,c,m,f,g,hl,q]:=h;let B:wJ P w K mg base cc 1 "Sieve" "__init__" ["self","text"] (qi K):=Bm.asked T.Kf T.HY;let s:=rW "text" (V.str z) fs;let n:=rW "place" p (aq "text" (V.str z) fs);w_up;show aM ?_;show Cu (pl:=_) B j id Ϡ ?_;cbv;show#[a,C,dx,fs,z,rfl,l,c,m,(),?_];w_up;show iZ ?_;f_are;f_are;show#[a,C,dx,_,rfl,ς,c,f,(),?_];f_len;show iZ ?_;f_are;f_are;show#[a,C,dx,_,rfl,ς,c,g,(),q _ ς λb o i e=>?_];rw[ξ i,ξ i,ξ i];show e
inductive Lk|is|under|over|holds
def nD:Lk->V->V->Bool
 |.is,x,v=>decide (x=v)
 |.under,x,v=>before x v
 |.over,x,v=>before v x
 |.holds,.str x,.str v=> !(Builtin.Str.occurrences x v 0 x.length 1).isEmpty
 |.holds,_,_=>false
abbrev F3(z:Str)(p:Nat)(v:V):List (Str×V):=[("text",.str z),("place",.int p),("value",v)]
def GK:Lk->V->V->Prop
 |.holds,x,v=>∃y z,x=.str y/\v=.str z
 |_,x,v=>scalar x=true/\scalar v=true/\aF x v
inductive tL (l:Lk) (C:δ) (vs:List V) (H:Hp) (Q:VK) (E:XK):Prop
 |mk (a dx:δ) (z:Str) (p:Nat) (x v:V):vs=[.ref a,x]->H a=some (.ins C dx (F3 z p v))->GK l x v->Q (.bl (nD l x v)) H->tL l C vs H Q E
def af6(c:ϛ K C)(n:ό K C "value"):FD P w K mg base cc 2 "fits" "ValueSieve.fits" O8 ["self","value"] (tL .is C):=by
 show bC (N:=["self","value"]) (λ_ _ _ _ _ H vs Q E g h=>?_);intro X _;let#[a,dx,z,p,x,v,rfl,e,#[f,sv,hl],q]:=h;f_len;show ψ ?_;f_are;f_are;show bD ?_;f_are;show#[a,C,dx,_,v,rfl,e,c,n,rfl,?_];show Kl (xF f sv) ?_;show q
def amY(h:aF x y):aF y x:=by
 obtain h|h|⟨i,j,a,b⟩|⟨i,j,a,b⟩:=h
 .show .inr (.inl h)
 .show .inl h
 .show .inr (.inr (.inl #[j,i,b,a]))
 .show .inr (.inr (.inr #[j,i,b,a]))
def agK(T:Txt K mg)(c:ϛ K C)(n:ό K C "value"):FD P w K mg base true 2 "fits" "UnderSieve.fits" ZS ["self","value"] (tL .under C):=by
 show bC (N:=["self","value"]) (λ_ _ _ _ _ H vs Q E f h=>?_);intro X _;let#[a,dx,z,p,x,v,rfl,e,#[g,sv,hl],q]:=h;let i:= @uX P w K mg base T;f_len;show ψ ?_;cbv;show bD ?_;f_are;show#[a,C,dx,_,v,rfl,e,c,n,rfl,?_];cbv;show#[x,v,rfl,hl,q]
def abx(T:Txt K mg)(c:ϛ K C)(n:ό K C "value"):FD P w K mg base true 2 "fits" "OverSieve.fits" O1 ["self","value"] (tL .over C):=by
 show bC (N:=["self","value"]) (λ_ _ _ _ _ H vs Q E f h=>?_);intro X _;let#[a,dx,z,p,x,v,rfl,e,#[g,sv,hl],q]:=h;let i:= @uX P w K mg base T;f_len;show ψ ?_;cbv;show bD ?_;f_are;show#[a,C,dx,_,v,rfl,e,c,n,rfl,?_];cbv;show#[v,x,rfl,amY hl,q]
def ai9(c:ϛ K C)(n:ό K C "value"):FD P w K mg base cc 2 "fits" "HoldsSieve.fits" Q8 ["self","value"] (tL .holds C):=by
 show bC (N:=["self","value"]) (λ_ _ _ _ _ H vs Q E f h=>?_);intro X _;let#[a,dx,z,p,x,v,rfl,e,#[y,u,rfl,rfl],q]:=h;f_len;show ψ ?_;f_are;show bD ?_;f_are;show#[a,C,dx,_,_,rfl,e,c,n,rfl,?_];cbv;show q
inductive Ep (K:Ϩ) (l:Lk) (C:δ) (vs:List V) (H:Hp) (Q:VK) (E:XK):Prop
 |mk (a dx:δ) (z:Str) (p:Nat) (v:V) (b:δ) (xs:List V) (x:V):vs=[.ref a,.ref b]->H a=some (.ins C dx (F3 z p v))->η K H b xs->xs[p]?=some x->(x=.non\/GK l x v)->Q (.bl (!decide (x=.non)&&nD l x v)) H->Ep K l C vs H Q E
def yQ(M:aH P w K mg base true 2 C "fits" ["self","value"] (tL l C))(n:ό K C "place"):FD P w K mg base true 3 "lets" "ValueSieve.lets" qW ["self","values"] (Ep K l C):=by
 show bC (S:=Pr) (λ_ _ _ _ _ H vs Q E f h=>?_);intro X _;let#[a,dx,z,p,v,b,xs,x,rfl,c,g,i,hl,q]:=h;let nd:=Pr.nd;w_up;cbv;show bD ?_;f_are;show#[a,C,dx,_,_,rfl,c,M.cls,n,rfl,?_];show ϊ g (ϒ i) ?_;cbv;show je (λh=>?_) (λh=>?_)
 .let e:¬x=.non:=by simpa using h
  show V3 ?_;show dR (pl:=_) f Ϡ (h:=?_);f_are;show#[a,C,dx,_,_,_,_,_,rfl,c,rfl,M,by decide,λ_=>rfl,?_];cbv;show#[a,dx,z,p,x,v,rfl,c,hl.resolve_left e,?_];rw[h,alm]at q;show q
 .rw[h]at q;show q
def vm(T:Txt K mg):Def P w K mg base true 1 "made_of" ["text","signs"] Ql:=by
 show Δ (N:=["text","signs"]) T.vm (λ_ _ _ _ _ H vs Q E p h=>?_);intro X _;let#[z,g,rfl,s,q]:=h;let n1:=T.Rt;f_len;show ψ ?_;f_are;f_are;show alC ["sign","signs"] (σ':=[none,some (.str g)]) (by rfl) (by rfl) (bN (χ MK)) (by fin2) (by rfl) (by rfl) (by intro _;rfl) ?_;f_are;show#[z,rfl,?_,λi v=>∃c,z.cps.toList[i]?=some c/\v=.bl (decide (c∈g.cps.toList)),λfp e C u x i c H2 f a=>?_,λe H2 xs y hl j l a=>?_]
 .have :z.cps.size=z.length:=rfl;let h2:ϯ=16777216:=ϰ;omega
 .cbv;show#[#[c,f,by rw[StrLaws.found_one]],ζ.refl _]
 .let ex:=fD (ys:=z.cps.toList) (λc=>V.bl (decide (c∈g.cps.toList))) (by rw[hl];simp) j;let m:xs=(z.cps.toList.map λc=>decide (c∈g.cps.toList)).map V.bl:=by rw[ex,aep];rfl
  subst m;cbv;show Vd (by rfl) (η.of l) ?_;let n:(z.cps.toList.map λc=>decide (c∈g.cps.toList)).all id=eV z g:=by rw[arH];rfl
  rw[n];show q _ a
def Br(T:Txt K mg):Def P w K mg base true 2 "is_text_value" ["value"] Ry:=by
 show Δ (N:=["value"]) T.Br (λ_ _ _ _ _ H vs Q E g h=>?_);intro X _;let#[v,rfl,hs,c,q]:=h;let j:=T.akK;let l:=T.ahj;let n1:=T.ux;let n2:=T.mW;let m:=T.bh;let n:= @vm P w K mg base T;let hsz:=ϰ;f_len;show ψ ?_;cases v with
 |int i=>
  cbv;show q H (ζ.refl _)
 |non=>
  cbv;show q H (ζ.refl _)
 |str z=>
  let a:z.length<=4000:=c;cbv;show Ε (λh=>?_) (λh=>?_)
  .cbv;show#[z,_,rfl,a,λH' f=>?_];let e:iz (.str z)=eV z uw:=by
    let h':z.length<=20:=()
    unfold iz;simp[h']
   rw[e]at q;show q H' f
  .let e:iz (.str z)=false:=by
    let h':¬z.length<=20:=()
    unfold iz;simp[h']
   rw[e]at q;show q H (ζ.refl _)
 |_=>cases hs
def Gw(T:Txt K mg):Def P w K mg base true 2 "are_figures" ["word"] Yk:=by
 show Δ (N:=["word"]) T.Gw (λ_ _ _ _ _ H vs Q E u h=>?_);intro X _;let#[z,rfl,n,q]:=h;let y:=T.afk;let B:= @vm P w K mg base T;let hsz:=ϰ;let i:("0":Str).cps.toList=[48]:=by fin2
 let e1:("":Str).cps.toList=[]:=by fin2
 unfold d7 at q;f_len;show ψ ?_;cbv;show Ε (λh=>?_) (λh=>?_)
 .let h':z.cps.toList=[48]:=by cases h;show i
  rw[h']at q;show q H (ζ.refl _)
 .let h':¬z.cps.toList=[48]:=λh2=>h (by rw[gb (h2.trans i.symm)])
  rw[decide_eq_false h',aqS]at q;cbv;show jl (λh2=>?_) (λh2=>?_)
  .let a:z.cps.toList≠[]:=λe=>h2 (by rw[gb (e.trans e1.symm)])
   rw[decide_eq_true a,alm]at q;let#[c,r,p]:=aqC a;let g:z.cps.toList[0]?=some c:=by rw[p];rfl
   cbv;show jU () (ϒ (j:=0) g) ?_;cbv;rw[g]at q;show jl (λe=>?_) (λe=>?_)
   .let f:some c≠some 48:=λl=>e (by cases l;show congrArg V.str (gb i.symm))
    rw[decide_eq_true f,alm]at q;cbv;show#[z,_,rfl,n,λH' s=>?_];rw[adP];show q H' s
   .let f:¬(some c≠some 48):=λl=>l (by
     have:=congrArg (λv:V=>match v with|.str x=>x.cps.toList|_=>[]) e;let m:[c]=("0":Str).cps.toList:=this;rw[i]at m;cases m;rfl)
    rw[decide_eq_false f,anQ]at q;show q H (ζ.refl _)
  .let a:¬z.cps.toList≠[]:=λe=>e (by cases h2;show e1)
   rw[decide_eq_false a,anQ]at q;show q H (ζ.refl _)
def zT(T:Txt K mg):Def P w K mg base true 3 "read_figures" ["word","most"] Vy:=by
 show Δ (S:=Xe) T.zT (λ_ _ _ _ _ H vs Q E n h=>?_);intro X _;let#[z,m,k,rfl,g,p,m1,i,c,k1,k2,q]:=h;let n1:=T.bh;let n2:=T.mW;let s:=T.zQ;let nd:=Xe.nd;let u:= @Gw P w K mg base T;let hsz:=ϰ;let hl:=_L.len_list z;let out:∀(H1:Hp)(o:Option V),ζ H H1->ik z.cps.toList m=none->Ι X ((ϖ K3).drop 1) {nx:=λ_ H'=>Q .non H',rt:=Q} [some (.str z),some (.int m),o] H1:=by
  intro H1 o j e;let q1:=q H1 j;rw[e]at q1;f_len;cbv;show q1
 w_up;cbv;show#[z,rfl,g,λH1 a =>?_];cbv;show je (λh1=>?_) (λh1=>?_)
 .cbv;show j8 (kh m1) ?_;cbv;rw[i];show Ε (λh2=>?_) (λh2=>?_)
  .cbv;let#[hd,l]:=Rm h1;show al4 (intText_digits hd l ()) () ?_;cbv;show Ε (λf=>?_) (λf=>?_)
   .let q1:=q H1 a;let e:ik z.cps.toList m=some _:=if_pos #[h1,f];rw[e]at q1;cbv;show q1
   .show Γ (out H1 _ a (if_neg λx=>f x.2))
  .show Γ (out H1 _ a (if_neg λx=>h2 ?_));have:=Gy x.1 x.2 c k1;omega
 .show Γ (out H1 _ a (if_neg λx=>by rw[h1]at x;show aaF x.1))
def Em(T:Txt K mg):Def P w K mg base true 4 "read_number_word" ["word"] (zq (.ref (ο mg "NoValue"))):=by
 show Δ (S:=Uo) T.Em (λ_ _ _ _ _ H vs Q E u h=>?_);intro X _;let#[z,rfl,v,q]:=h;let x:=T.acd;let y:=T.X4;let nd:=Uo.nd;let B:= @zT P w K mg base T;let hsz:=ϰ;let l:(Ϫ (toString (1000000000000000000:Int))).length=19:=by fin2
 let f:iu z.cps.toList=none->False:=λn=>by
  let c:=q H (ζ.refl _);rw[n]at c;show c
 w_up;cbv;show XM ?_;rw[show Txt.startswith z "-"=decide (z.cps.toList[0]?=some 45)from Yh z 45];generalize m:decide (z.cps.toList[0]?=some 45)=p;cbv;cases p with
 |true=>
  let g:=of_decide_eq_true m;cbv;show iG () ?_;cbv;let s:=vO z (some 1) none;show#[_,_,19,rfl,(),by decide,by decide,l,by decide,by decide,by decide,λH1 j =>?_];rw[show(ϐ z (some 1) none).cps.toList=z.cps.toList.drop 1 from yq z 1];let a:=acw g;cases e:ik (z.cps.toList.drop 1) 1000000000000000000 with
  |none=>
   rw[e]at a;show(f a).elim
  |some i=>
   rw[e]at a;dsimp only at a;simp only[Hs];cbv;show Ε (λh1=>?_) (λh1=>?_)
   .let h2:i=0:=by injection h1
    rw[if_pos h2]at a;show(f a).elim
   .let h2:¬i=0:=λe=>h1 (by rw[e])
    rw[if_neg h2]at a;let c:=q H1 j;rw[a]at c;show Γ ?_;cbv;show c
 |false=>
  let g:=of_decide_eq_false m;cbv;show#[_,_,19,rfl,(),by decide,by decide,l,by decide,by decide,by decide,λH1 j =>?_];let a:=Mq g;cases e:ik z.cps.toList 1000000000000000000 with
  |none=>
   rw[e]at a;show(f a).elim
  |some i=>
   rw[e]at a;simp only[Hs];let c:=q H1 j;rw[a]at c;cbv;show c
def K4(T:Txt K mg):Def P w K mg base true 3 "read_text_word" ["word"] (By (.ref (ο mg "NoValue"))):=by
 show Δ (S:=Sw) T.K4 (λ_ _ _ _ _ H vs Q E j h=>?_);intro X _;let#[z,rfl,l,q]:=h;let m:=T.RJ;let nd:=Sw.nd;let n:= @Br P w K mg base T;let hsz:=ϰ;let e1:Ϫ "'"=#[#v[39]]:=by fin2
 let p:=vO z (some 1) none;let e:jo z=none->False:=λf=>by
  let a:=q H (ζ.refl _);rw[f]at a;show a
 w_up;cbv;show XM ?_;cbv;rw[e1,Yh];show Ε (λh1=>?_) (λh1=>?_)
 .cbv;show iG () ?_;cbv;show#[_,rfl,rfl,(show(ϐ z (some 1) none).length<=4000 by omega),λH1 g =>?_];cbv;show je (λh2=>?_) (λh2=>?_)
  .cbv;show iG () ?_;let a:=q H1 g;let i:jo z=some (ϐ z (some 1) none):=by
    unfold jo;rw[if_pos #[h1,h2]]
   rw[i]at a;show a
  .show(e ?_).elim;unfold jo;rw[if_neg λc=>by rw[h2]at c;show aaF c.2]
 .show(e ?_).elim;unfold jo;rw[if_neg λc=>h1 c.1]
def yI(T:Txt K mg):Def P w K mg base true 5 "read_value" ["kind","word"] (BR (.ref (ο mg "NoValue"))):=by
 show Δ (N:=["kind","word"]) T.yI (λ_ _ _ _ _ H vs Q E j h=>?_);intro X _;let#[k,z,rfl,g,q]:=h;let l:=T.PQ;let m:=T.Kz;let n:= @Em P w K mg base T;let p:= @K4 P w K mg base T;w_up;cbv;show Ε (λh1=>?_) (λh1=>?_)
 .let h2:z="?":=by cases h1;rfl
  let i:=q H (ζ.refl _);let a:eQ k z=some .non:=by unfold eQ;rw[if_pos h2]
  rw[a]at i;cbv;show i
 .let h2:¬z="?":=λe=>h1 (by rw[e])
  let a:eQ k z=if k="number" then vD (iu z.cps.toList)else w6 (jo z):=by unfold eQ;rw[if_neg h2]
  rw[a]at q;cbv;show Ε (λc=>?_) (λc=>?_)
  .let f:k="number":=by cases c;rfl
   rw[if_pos f]at q;cbv;show#[z,rfl,g,q]
  .let f:¬k="number":=λe=>c (by rw[e])
   rw[if_neg f]at q;cbv;show#[z,rfl,g,q]
inductive M6 (K:Ϩ) (vs:List V) (H:Hp) (Q:VK) (E:XK):Prop
 |mk (kd:Str) (a:δ) (ws:List Str) (p:Nat) (z:Str) (v:V):vs=[.str kd,.ref a,.int p]->η K H a (ws.map V.str)->ws.length<=4000->ws[p]?=some z->p<60->z.length<=4000->eQ kd z=some v->¬v=.non->(∀H',ζ H H'->Q v H')->M6 K vs H Q E
def JR(T:Txt K mg):Def P w K mg base true 6 "read_word" ["kind","words","place"] (M6 K):=by
 show Δ (S:=Zq) T.JR (λ_ _ _ _ _ H vs Q E B h=>?_);intro X _;let#[i,a,ws,p,z,v,rfl,j,hl,g,l,m,n,s,q]:=h;let nd:=Zq.nd;let D:= @qw P w K mg base T;let G:= @yI P w K mg base T;let f:=(aat.mp g).1;w_up;cbv;show#[a,ws,p,rfl,j,hl,(),λu=>absurd #[f,l] u,λz' e _=>?_];rw[g]at e;cases e;w_up;show Qx (λ_ _ _ _=>False) rfl rfl (λF pn xo po=>?_) (λσ c d H' x=>x.elim);f_len;cbv;show#[i,z,rfl,m,λH' y=>?_];rw[n];show Γ ?_;w_up;cbv;rw[decide_eq_false s];cbv;show q H' y
inductive dU|all|none (p:Nat)|look (l:Lk) (p:Nat) (v:V)
def xu(mg:Str->Option ε):Lk->δ
 |.is=>ο mg "IsSieve"
 |.under=>ο mg "UnderSieve"
 |.over=>ο mg "OverSieve"
 |.holds=>ο mg "HoldsSieve"
def rE(mg:Str->Option ε)(H:Hp)(a:δ):dU->Str->Prop
 |.all,z=>∃dx,H a=some (.ins (ο mg "AllSieve") dx [("text",.str z)])
 |.none p,z=>∃dx,H a=some (.ins (ο mg "NoneSieve") dx [("text",.str z),("place",.int p)])
 |.look l p v,z=>∃dx,H a=some (.ins (xu mg l) dx (F3 z p v))
def rE.same(h:rE mg H a s z)(e:ζ H H'):rE mg H' a s z:=by
 cases s<;>let#[dx,h]:=h<;>show#[dx,e _ _ h]
def Jx(mg:Str->Option ε)(H:Hp)(p:δ)(s:dU)(z:Str)(n:Nat):=∃t,H p=some (.tup [.ref t,.int n])/\rE mg H t s z
inductive Ug (K:Ϩ) (mg:Str->Option ε) (vs:List V) (H:Hp) (Q:VK) (E:XK):Prop
 |mk (b:δ) (cs:List θ) (a:δ) (ws:List Str) (s i:Nat):vs=[.ref b,.ref a,.int s]->Τ H b cs->η K H a (ws.map V.str)->ws.length<=4000->(∀z∈ws,z.length<=1000)->s+2<=ws.length->gB cs ws (s+1)=some i->(∀p H',ζ H H'->Jx mg H' p (.none i) (cV ws s (s+2)) (s+2)->Q (.ref p) H')->Ug K mg vs H Q E
def Hq(T:Txt K mg):Def P w K mg base true 5 "read_none" ["columns","words","start"] (Ug K mg):=by
 show Δ (S:=Xu) T.Hq (λ_ _ _ _ _ H vs Q E B h=>?_);intro X _;let#[b,cs,a,ws,f,i,rfl,D,n,hl,F,g,hi,q]:=h;let nd:=Xu.nd;let hsz:=ϰ;let L:= @yr P w K mg base T;let O:= @uV P w K mg base T;let M:jL P w K mg base true 2 "NoneSieve" (ο mg "NoneSieve") ["self","text","place"] (Ec K):=(abz T).make T.ajS T.agP;w_up;cbv;show#[b,cs,a,ws,f+1,by simp,D,n,hl,(),λe=>(by rw[hi]at e;cases e),λR H2 s e=>?_];rw[hi]at e;cases e;cbv;show lL M B (by decide) (λ_=>rfl) Ϡ ?_;cbv;show#[a,ws,f,f+2,by simp,s.seq n,hl,F,(),g,λu j=>?_];cbv;intro y dx l m U;show#[y,_,dx,[],cV ws f (f+2),_,rfl,ς,T.uY,T.V8,T.Vp,by simp,rfl,?_];cbv;show#[Β,λp v=>?_];generalize x:upd (upd (upd (upd u dx (.own y)) y (.ins (ο mg "NoneSieve") dx [])) y _) y _=G at v⊢;let I:ζ u G:=λc o e=>by
  rw[<-x,ξ (ϑ e l),ξ (ϑ e l),ξ (ϑ e l),ξ (ϑ e m)];show e
 let J:G y=some (.ins (ο mg "NoneSieve") dx [("text",.str (cV ws f (f+2))),("place",.int i)]):=by
  rw[<-x];show ς
 let z:ζ G (upd G p (.tup [.ref y,.int (f+2)])):=ζ.upd v;show q p _ (((s.trans j).trans I).trans z) #[y,ς,dx,z _ _ J]
def aK:Lk->Str
 |.is=>"is"
 |.under=>"under"
 |.over=>"over"
 |.holds=>"holds"
inductive Mi (K:Ϩ) (mg:Str->Option ε) (vs:List V) (H:Hp) (Q:VK) (E:XK):Prop
 |mk (l:Lk) (b:δ) (cs:List θ) (a:δ) (ws:List Str) (s i:Nat) (c:θ) (z:Str) (v:V):vs=[.ref b,.ref a,.int s]->Τ H b cs->η K H a (ws.map V.str)->ws.length<=4000->(∀z∈ws,z.length<=1000)->s+3<=ws.length->s+2<60->ws[s]?=some (aK l)->gB cs ws (s+1)=some i->cs[i]?=some c->(l=.holds->c.2="text")->ws[s+2]?=some z->eQ c.2 z=some v->¬v=.non->(∀p H',ζ H H'->Jx mg H' p (.look l i v) (cV ws s (s+3)) (s+3)->Q (.ref p) H')->Mi K mg vs H Q E
def G4(T:Txt K mg):Def P w K mg base true 7 "read_of_value" ["columns","words","start"] (Mi K mg):=by
 show Δ (S:=T8) T.G4 (λ_ _ _ _ _ H vs Q E W h=>?_);intro X _;let#[l,b,cs,a,ws,f,i,c,z,v,rfl,hC,x,hl,D,B,Y,hw,hi,hc,hh,F,Z,Ϲ,q]:=h;let nd:=T8.nd;let hsz:=ϰ;let g1:=T.HS;let g2:=T.aas;let g3:=T.Hi;let g4:=T.JP;let g5:=T.KD;let D1:= @yr P w K mg base T;let D2:= @uV P w K mg base T;let D3:= @JR P w K mg base T;w_up;cbv;show ϊ x (ϒ (by rw[abI,hw];rfl)) ?_;cbv;show#[b,cs,a,ws,f+1,by simp,hC,x,hl,(),λe=>(by rw[hi]at e;cases e),λi' H2 m e=>?_];rw[hi]at e;cases e;let#[vs,hb,ab]:=hC.same m;let#[cv,gc,t,rfl,ht]:=ab.get' hc;w_up;cbv;show ϊ (η.of hb) (ϒ gc) ?_;cbv;show Α (ι.of ht) (show Θ [V.str c.1,V.str c.2] 1=some (V.str c.2)from rfl) ?_;cases l with
 |is=>
  let M:jL P w K mg base true 2 "IsSieve" (ο mg "IsSieve") ["self","text","place","value"] (tG K):=(Bs T).make T.am0 T.amR;w_up;cbv;show bj ?_;show Γ ?_;w_up;cbv;show#[c.2,a,ws,f+2,z,v,by simp,m.seq x,hl,F,Y,by have:=D z (aaD F);omega,Z,Ϲ,λH3 g=>?_];cbv;show#[a,ws,f,f+3,by simp,(m.trans g).seq x,hl,D,(),B,λI J =>?_];w_up;cbv;show bw ?_;cbv;show lL M W (by decide) (λ_=>rfl) Ϡ ?_;cbv;intro y dx n j s;show#[y,_,dx,[],cV ws f (f+3),_,v,rfl,ς,T.qj,T.Wq,T.U5,T.R8,by simp,λG L O=>#[rfl,?_]];cbv;show#[Β,λp R=>?_];let U:ζ I G:=λc o e=>O c o (ϑ e n) (by rw[ξ (ϑ e n),ξ (ϑ e j)];show e)
  let u:ζ G (upd G p (.tup [.ref y,.int (f+3)])):=ζ.upd R;show q p _ ((((m.trans g).trans J).trans U).trans u) #[y,ς,dx,u _ _ L]
 |under=>
  let M:jL P w K mg base true 2 "UnderSieve" (ο mg "UnderSieve") ["self","text","place","value"] (tG K):=(Bs T).make T.al7 T.ahd;w_up;cbv;show bj ?_;show Γ ?_;w_up;cbv;show#[c.2,a,ws,f+2,z,v,by simp,m.seq x,hl,F,Y,by have:=D z (aaD F);omega,Z,Ϲ,λH3 g=>?_];cbv;show#[a,ws,f,f+3,by simp,(m.trans g).seq x,hl,D,(),B,λI J =>?_];w_up;cbv;show bj ?_;show Γ ?_;w_up;cbv;show bw ?_;cbv;show lL M W (by decide) (λ_=>rfl) Ϡ ?_;cbv;intro y dx n j s;show#[y,_,dx,[],cV ws f (f+3),_,v,rfl,ς,T.sS,T.aaw,T.Xh,T.M5,by simp,λG L O=>#[rfl,?_]];cbv;show#[Β,λp R=>?_];let U:ζ I G:=λc o e=>O c o (ϑ e n) (by rw[ξ (ϑ e n),ξ (ϑ e j)];show e)
  let u:ζ G (upd G p (.tup [.ref y,.int (f+3)])):=ζ.upd R;show q p _ ((((m.trans g).trans J).trans U).trans u) #[y,ς,dx,u _ _ L]
 |over=>
  let M:jL P w K mg base true 2 "OverSieve" (ο mg "OverSieve") ["self","text","place","value"] (tG K):=(Bs T).make T.akN T.ag1;w_up;cbv;show bj ?_;show Γ ?_;w_up;cbv;show#[c.2,a,ws,f+2,z,v,by simp,m.seq x,hl,F,Y,by have:=D z (aaD F);omega,Z,Ϲ,λH3 g=>?_];cbv;show#[a,ws,f,f+3,by simp,(m.trans g).seq x,hl,D,(),B,λI J =>?_];w_up;cbv;show bj ?_;show Γ ?_;w_up;cbv;show bj ?_;show Γ ?_;w_up;cbv;show bw ?_;cbv;show lL M W (by decide) (λ_=>rfl) Ϡ ?_;cbv;intro y dx n j s;show#[y,_,dx,[],cV ws f (f+3),_,v,rfl,ς,T.tR,T.TQ,T.OD,T.Vf,by simp,λG L O=>#[rfl,?_]];cbv;show#[Β,λp R=>?_];let U:ζ I G:=λc o e=>O c o (ϑ e n) (by rw[ξ (ϑ e n),ξ (ϑ e j)];show e)
  let u:ζ G (upd G p (.tup [.ref y,.int (f+3)])):=ζ.upd R;show q p _ ((((m.trans g).trans J).trans U).trans u) #[y,ς,dx,u _ _ L]
 |holds=>
  let M:jL P w K mg base true 2 "HoldsSieve" (ο mg "HoldsSieve") ["self","text","place","value"] (tG K):=(Bs T).make T.alo T.agj;w_up;cbv;show bw ?_;cbv;rw[hh rfl,decide_eq_true rfl];walk_at"t";show Γ ?_;w_up;cbv;show#[c.2,a,ws,f+2,z,v,by simp,m.seq x,hl,F,Y,by have:=D z (aaD F);omega,Z,Ϲ,λH3 g=>?_];cbv;show#[a,ws,f,f+3,by simp,(m.trans g).seq x,hl,D,(),B,λI J =>?_];w_up;cbv;show bj ?_;show Γ ?_;w_up;cbv;show bj ?_;show Γ ?_;w_up;cbv;show bj ?_;cbv;show lL M W (by decide) (λ_=>rfl) Ϡ ?_;cbv;intro y dx n j s;show#[y,_,dx,[],cV ws f (f+3),_,v,rfl,ς,T.rD,T.Us,T.ZX,T.Tv,by simp,λG L O=>#[rfl,?_]];cbv;show#[Β,λp R=>?_];let U:ζ I G:=λc o e=>O c o (ϑ e n) (by rw[ξ (ϑ e n),ξ (ϑ e j)];show e)
  let u:ζ G (upd G p (.tup [.ref y,.int (f+3)])):=ζ.upd R;show q p _ ((((m.trans g).trans J).trans U).trans u) #[y,ς,dx,u _ _ L]
def tU(cs:List θ)(ws:List Str)(s:Nat):dU->Nat->Prop
 |.all,n=>ws[s]?=some "all"/\n=s+1
 |.none i,n=>ws[s]?=some "none"/\s+2<=ws.length/\gB cs ws (s+1)=some i/\n=s+2
 |.look l i v,n=>s+3<=ws.length/\s+2<60/\ws[s]?=some (aK l)/\gB cs ws (s+1)=some i/\(∃c z,cs[i]?=some c/\(l=.holds->c.2="text")/\ws[s+2]?=some z/\eQ c.2 z=some v)/\(¬v=.non)/\n=s+3
def amW(h:ws[s]?=some z):cV ws s (s+1)=z:=by
 unfold cV;let e:(ws.drop s).take (s+1-s)=[z]:=by
  rw[show s+1-s=1 by omega,Aa h];rfl
 rw[e];show join_one _ z
inductive Qy (K:Ϩ) (mg:Str->Option ε) (vs:List V) (H:Hp) (Q:VK) (E:XK):Prop
 |mk (b:δ) (cs:List θ) (a:δ) (ws:List Str) (s n:Nat) (k:Int) (sv:dU):vs=[.ref b,.ref a,.int s,.int k]->Τ H b cs->η K H a (ws.map V.str)->ws.length<=4000->(∀z∈ws,z.length<=1000)->s<60->tU cs ws s sv n->(∀p H',ζ H H'->Jx mg H' p sv (cV ws s n) n->Q (.ref p) H')->Qy K mg vs H Q E
def ahO(T:Txt K mg):Def P w K mg base true 8 "read_part" ["columns","words","start","within"] (Qy K mg):=by
 show Δ (S:=BV) T.Uq (λ_ _ _ _ _ H vs Q E Y h=>?_);intro X _;let#[b,cs,a,ws,m,n,k,sv,rfl,L,B,hl,O,Z,f,q]:=h;let nd:=BV.nd;let hsz:=ϰ;let g1:=T.HS;let g2:=T.Vu;let g3:=T.Hi;let g4:=T.JP;let g5:=T.KD;let g6:=T.Zh;let D1:= @qw P w K mg base T;let D2:= @Hq P w K mg base T;let D3:= @G4 P w K mg base T;let M:jL P w K mg base true 1 "AllSieve" (ο mg "AllSieve") ["self","text"] (qi K):=Bm.make T.aeT T.abk;let g:∃z,ws[m]?=some z:=by
  cases sv with
  |all=>show#[_,f.1]
  |none i=>show#[_,f.1]
  |look l i v=>show#[_,f.2.2.1]
 let#[z0,g]:=g;let D:=(aat.mp g).1;w_up;cbv;show#[a,ws,m,rfl,B,hl,(),λhb=>absurd #[D,Z] hb,λz' s _=>?_];rw[g]at s;cases s;w_up;cbv;cases sv with
 |all=>
  let#[h1,rfl]:=f;rw[g]at h1;cases h1;show bw ?_;cbv;show lL M Y (by decide) (λ_=>rfl) Ϡ ?_;cbv;intro y dx R F Ϲ;show#[y,_,dx,[],_,rfl,ς,T.Cj,T.TY,by simp,rfl,?_];cbv;show#[Β,λp j=>?_];generalize U:upd (upd (upd H dx (.own y)) y (.ins (ο mg "AllSieve") dx [])) y _=G at j⊢;let fK:ζ H G:=λc o e=>by
   rw[<-U,ξ (ϑ e R),ξ (ϑ e R),ξ (ϑ e F)];show e
  let ey:G y=some (.ins (ο mg "AllSieve") dx [("text",.str "all")]):=by
   rw[<-U];show ς
  let W:ζ G (upd G p (.tup [.ref y,.int (m+1)])):=ζ.upd j;show q p _ (fK.trans W) #[y,ς,dx,?_];rw[amW g];show W _ _ ey
 |none i=>
  let#[h1,h2,u,rfl]:=f;rw[g]at h1;cases h1;show bj ?_;show Γ ?_;w_up;cbv;show bw ?_;cbv;show#[b,cs,a,ws,m,i,rfl,L,B,hl,O,h2,u,λp H' I j=>q p H' I j]
 |look l i v=>
  let#[h1,h2,u,h4,#[c,z,h5,h6,h7,h8],h9,rfl]:=f;rw[g]at u;cases u;let e1:¬V.str (aK l)=V.str ("all":Str):=by cases l<;>fin2
  let e2:¬V.str (aK l)=V.str ("none":Str):=by cases l<;>fin2
  let e3:jc (V.str (aK l)) [V.str ("is":Str),V.str ("under":Str),V.str ("over":Str),V.str ("holds":Str)]=true:=by cases l<;>fin2
  show Ε (λh=>absurd h e1) (λ_=>?_);show Γ ?_;w_up;cbv;show Ε (λh=>absurd h e2) (λ_=>?_);show Γ ?_;w_up;cbv;show#[Β,λtp J=>?_];show sE (ι.of ς) ?_;rw[e3];let x:ζ H (upd H tp (.tup [.str "is",.str "under",.str "over",.str "holds"])):=ζ.upd J;generalize upd H tp (.tup [.str "is",.str "under",.str "over",.str "holds"])=H2 at x⊢;cbv;show#[l,b,cs,a,ws,m,i,c,z,v,rfl,L.same x,x.seq B,hl,O,h1,h2,g,h4,h5,h6,h7,h8,h9,λp H' I j=>q p H' (x.trans I) j]
inductive Nr (vs:List V) (H:Hp) (Q:VK) (E:XK):Prop
 |mk (x) (y):vs=[x,y]->Q (.bl true) H->Nr vs H Q E
def aeE:FD P w K mg base cc 1 "lets" "Sieve.lets" V9 ["self","values"] Nr:=by
 show bC (N:=["self","values"]) (λ_ _ _ _ _ H vs Q E a h=>?_);intro X _;let#[x,y,rfl,q]:=h;f_len;cbv;show q
inductive Q4 (K:Ϩ) (vs:List V) (H:Hp) (Q:VK) (E:XK):Prop
 |mk (a C dx:δ) (fs:List (Str×V)) (p:Nat) (b:δ) (xs:List V) (x:V):vs=[.ref a,.ref b]->H a=some (.ins C dx fs)->ϛ K C->ό K C "place"->fs.lookup ("place":Str)=some (V.int p)->η K H b xs->xs[p]?=some x->Q (.bl (decide (x=.non))) H->Q4 K vs H Q E
def aij:FD P w K mg base cc 1 "lets" "NoneSieve.lets" Mw ["self","values"] (Q4 K):=by
 show bC (N:=["self","values"]) (λ_ _ _ _ _ H vs Q E j h=>?_);intro X _;let#[a,C,dx,fs,p,b,xs,x,rfl,c,e,f,hl,g,i,q]:=h;f_len;show ψ ?_;cbv;show bD ?_;f_are;show#[a,C,dx,fs,_,rfl,c,e,f,hl,?_];show ϊ g (ϒ i) ?_;cbv;show q
inductive HX (K:Ϩ) (vs:List V) (H:Hp) (Q:VK) (E:XK):Prop
 |mk (a C dx:δ) (fs:List (Str×V)) (z:Str) (p:V):vs=[.ref a,.str z,p]->H a=some (.ins C dx fs)->ϛ K C->ό K C "text"->ό K C "one"->fs.length<800->Q .non (upd (upd H a (.ins C dx (aq "text" (.str z) fs))) a (.ins C dx (aq "one" p (aq "text" (.str z) fs))))->HX K vs H Q E
def aiG(T:Txt K mg):FD P w K mg base cc 2 "__init__" "NotSieve.__init__" Pb ["self","text","one"] (HX K):=by
 show bC (N:=["self","text","one"]) (λ_ _ _ _ _ H vs Q E f h=>?_);intro X _;let#[a,C,dx,fs,z,p,rfl,g,e,i,c,hl,q]:=h;let B:wJ P w K mg base cc 1 "Sieve" "__init__" ["self","text"] (qi K):=Bm.asked T.Kf T.HY;let j:=rW "text" (V.str z) fs;w_up;show aM ?_;show Cu (pl:=_) B f id Ϡ ?_;cbv;show#[a,C,dx,fs,z,rfl,g,e,i,(),?_];f_len;show iZ ?_;f_are;f_are;show#[a,C,dx,_,rfl,ς,e,c,(),q]
inductive Tr
 |one (s:dU)
 |nt (t:Tr)
def Tr.dep:Tr->Nat
 |.one _=>0
 |.nt t=>t.dep+1
def Reads(cs:List θ)(ws:List Str):Tr->Nat->Nat->Prop
 |.one sv,s,e=>s<60/\tU cs ws s sv e
 |.nt t,s,e=>s<60/\ws[s]?=some "not"/\Reads cs ws t (s+1) e
theorem tU.le:∀{sv:dU},tU cs ws s sv e->s<e/\e<=ws.length
 |.all,h=>by
   let#[h1,rfl]:=h;have:=(aat.mp h1).1;omega
 |.none i,h=>by
   let#[_,h2,_,rfl]:=h;omega
 |.look l i v,h=>by
   let#[h1,_,_,_,_,_,rfl]:=h;omega
theorem Reads.le:∀{t:Tr}{s e:Nat},Reads cs ws t s e->s<e/\e<=ws.length
 |.one sv,s,e,h=>tU.le h.2
 |.nt t,s,e,h=>by have:=Reads.le (t:=t) h.2.2;omega
def eO(mg:Str->Option ε)(H:Hp):Tr->δ->Str->Prop
 |.one s,a,z=>rE mg H a s z
 |.nt t,a,z=>∃dx b y,H a=some (.ins (ο mg "NotSieve") dx [("text",.str z),("one",.ref b)])/\eO mg H t b y
theorem eO.same(e:ζ H H'):∀{t:Tr}{a:δ}{z:Str},eO mg H t a z->eO mg H' t a z
 |.one s,a,z,h=>rE.same h e
 |.nt t,a,z,h=>by
   let#[dx,b,y,h1,h2]:=h;show#[dx,b,y,e _ _ h1,eO.same e h2]
def abC(F:Def P w K mg base true k x ps sp)(h:∀vs H Q E,sp' vs H Q E->sp vs H Q E):Def P w K mg base true k x ps sp':=by
 let#[f,fd,h1,h2,e,c]:=F.ex;show#[f,fd,h1,h2,e,#[λvs H Q E z=>c.len vs H Q E (h vs H Q E z),λA outer s H a us vs Q E g i j r z=>c.run A outer s H a us vs Q E g i j r (h vs H Q E z)]]
def Ih(F:aH P w K mg base true k C x ps sp)(e:k<=k')(h:∀vs H Q E,sp' vs H Q E->sp vs H Q E):aH P w K mg base true k' C x ps sp':=by
 let#[f,fd,h1,h2,c]:=F.ex;let c:=c.mono e;show#[F.cls,f,fd,h1,h2,#[λvs H Q E z=>c.len vs H Q E (h vs H Q E z),λA outer s H a us vs Q E g i j r z=>c.run A outer s H a us vs Q E g i j r (h vs H Q E z)]]
inductive wU (K:Ϩ) (mg:Str->Option ε) (t:Tr) (vs:List V) (H:Hp) (Q:VK) (E:XK):Prop
 |mk (b:δ) (cs:List θ) (a:δ) (ws:List Str) (s e:Nat) (k:Int):vs=[.ref b,.ref a,.int s,.int k]->Τ H b cs->η K H a (ws.map V.str)->ws.length<=4000->(∀z∈ws,z.length<=1000)->0<=k->k+t.dep<=20->Reads cs ws t s e->(∀p v H',ζ H H'->H' p=some (.tup [.ref v,.int e])->eO mg H' t v (cV ws s e)->Q (.ref p) H')->wU K mg t vs H Q E
inductive Ib (K:Ϩ) (mg:Str->Option ε) (t:Tr) (vs:List V) (H:Hp) (Q:VK) (E:XK):Prop
 |mk (b:δ) (cs:List θ) (a:δ) (ws:List Str) (s e:Nat) (k:Int):vs=[.ref b,.ref a,.int s,.int k]->Τ H b cs->η K H a (ws.map V.str)->ws.length<=4000->(∀z∈ws,z.length<=1000)->1<=k->k+t.dep<=21->k<=20->Reads cs ws t s e->(∀p v H',ζ H H'->H' p=some (.tup [.ref v,.int e])->eO mg H' t v (cV ws s e)->Q (.ref p) H')->Ib K mg t vs H Q E
theorem ak2(T:Txt K mg)(sv:dU):Def P w K mg base true 8 "read_part" ["columns","words","start","within"] (wU K mg (.one sv)):=abC (ahO T) λvs H Q E h=>by
 let#[b,cs,a,ws,s,e,k,rfl,f,g,hl,i,j,n,c,q]:=h;show#[b,cs,a,ws,s,e,k,sv,rfl,f,g,hl,i,c.1,c.2,λp H' l m=>?_];let#[v,h1,h2]:=m;show q p v H' l h1 h2
def Hy:Tr->Option Str
 |.one _=>none
 |.nt _=>some "not"
def agv(h:Reads cs ws t s e)(a:Hy t=some z):s<60/\ws[s]?=some z:=by
 cases t with
 |one _=>cases a
 |nt t=>cases a;show#[h.1,h.2.1]
def yw(a:Hy t=some z):z="not"\/z="both"\/z="either":=by
 cases t with
 |one _=>cases a
 |nt t=>cases a;show .inl rfl
def aiD(T:Txt K mg)(f:Hy t=some z)(h3:3<=lv)(D:Def P w K mg base true lv "read_of_sieves" ["columns","words","start","within"] (Ib K mg t)):Def P w K mg base true (lv+1) "read_part" ["columns","words","start","within"] (wU K mg t):=by
 show Δ (S:=BV) T.Uq (λ_ _ A _ _ H vs Q E hr h=>?_);intro X _;let#[b,cs,a,ws,s,e,k,rfl,F,u,hl,G,I,hk,g,q]:=h;let nd:=BV.nd;let hsz:=ϰ;let g1:=T.HS;let g2:=T.Vu;let g3:=T.Hi;let g4:=T.JP;let g5:=T.KD;let g6:=T.Zh;let g7:=T.Wt;let g8:=T.S9;let g9:=T.aa4;let D1:= @qw P w K mg base T;let#[J,i]:=agv g f;let l:=(aat.mp i).1;let L:1<=t.dep:=by
  cases t with
  |one _=>cases f
  |nt t=>show 1<=t.dep+1;omega
 let e1:¬V.str z=V.str ("all":Str):=by obtain rfl|rfl|rfl:=yw f<;>fin2
 let M:¬V.str z=V.str ("none":Str):=by obtain rfl|rfl|rfl:=yw f<;>fin2
 let O:jc (V.str z) [V.str ("is":Str),V.str ("under":Str),V.str ("over":Str),V.str ("holds":Str)]=false:=by obtain rfl|rfl|rfl:=yw f<;>fin2
 let R:jc (V.str z) [V.str ("not":Str),V.str ("both":Str),V.str ("either":Str)]=true:=by obtain rfl|rfl|rfl:=yw f<;>fin2
 k_go;show#[a,ws,s,rfl,u,hl,(),λU=>absurd #[l,J] U,λz' j _=>?_];rw[i]at j;cases j;w_up;show Μ ?_;lk;show Ε (λh=>absurd h e1) (λ_=>?_);show Γ ?_;w_up;show Μ ?_;lk;show Ε (λh=>absurd h M) (λ_=>?_);show Γ ?_;w_up;show Μ ?_;lk;show#[Β,λtp m=>?_];show sE (ι.of ς) ?_;rw[O];let x:ζ H (upd H tp (.tup [.str "is",.str "under",.str "over",.str "holds"])):=ζ.upd m;generalize upd H tp (.tup [.str "is",.str "under",.str "over",.str "holds"])=H2 at x⊢;lk;show Γ ?_;w_up;show Μ ?_;lk;show#[Β,λy n=>?_];show sE (ι.of ς) ?_;rw[R];let B:ζ H2 (upd H2 y (.tup [.str "not",.str "both",.str "either"])):=ζ.upd n;generalize upd H2 y (.tup [.str "not",.str "both",.str "either"])=H3 at B⊢;lk;let c:=x.trans B;f_len;show ψ ?_;lk;show#[b,cs,a,ws,s,e,k+1,rfl,F.same c,c.seq u,hl,G,(),(),(),g,λp v H' W Y Z=>q p v H' (c.trans W) Y Z]
def adL(T:Txt K mg)(D1:Def P w K mg base true x "read_part" ["columns","words","start","within"] (wU K mg t))(h1:x<=lv)(h3:3<=lv):Def P w K mg base true (lv+1) "read_of_sieves" ["columns","words","start","within"] (Ib K mg (.nt t)):=by
 show Δ (S:=Lz) T.amw (λ_ _ A _ _ H vs Q E R h=>?_);intro X _;let#[b,cs,a,ws,f,e,k,rfl,U,i,hl,z,W,Y,Z,g,q]:=h;let nd:=Lz.nd;let hsz:=ϰ;let g1:=T.al0;let g2:=T.Wt;let g3:=T.S9;let DB:= @uV P w K mg base T;let hle:=g.le;let hd:k+(t.dep+1:Nat)<=21:=Y;let#[jW,j,B]:=g;let am5:=B.le;let sw:η K H a (ws.map V.str):=i;let e1:(f:Int)+1=((f+1:Nat):Int):=()
 w_up;show Μ ?_;lk;show Ε (λh=>absurd h ()) (λ_=>?_);show Γ ?_;k_go;show ϊ sw (v:=.str ("not":Str)) (ϒ (by rw[abI,j];rfl)) ?_;w_up;show d9 ?_;lk;rw[e1];show#[b,cs,a,ws,f+1,_,k,rfl,U,i,hl,z,(),(),B,λp1 D H1 F l m=>?_];show ao (ι.of l) (Κ (ω nd (by rfl) (.inl rfl) (.inl rfl) (Κ (ω nd (by rfl) (.inl rfl) (.inl rfl) (ak ?_)))));w_up;show Μ ?_;lk;show bw ?_;f_len;show ψ ?_;let M:jL P w K mg base true 2 "NotSieve" (ο mg "NotSieve") ["self","text","one"] (HX K):=(aiG T).make T.agh T.abq;lk;show lL M R () (λ_=>rfl) Ϡ ?_;lk;show#[a,ws,f,e,rfl,F.seq i,hl,z,(),(),λH2 I =>?_];lk;intro y dx n s Ϲ;show#[y,_,dx,[],_,_,rfl,ς,T.vR,T.Yj,T.Oh,by simp,rfl,?_];lk;show#[Β,λp J=>?_];generalize L:upd (upd (upd (upd H2 dx (.own y)) y (.ins (ο mg "NotSieve") dx [])) y _) y _=G at J⊢;let O:ζ H2 G:=λc o e=>by
  rw[<-L,ξ (ϑ e n),ξ (ϑ e n),ξ (ϑ e n),ξ (ϑ e s)];show e
 let ey:G y=some (.ins (ο mg "NotSieve") dx [("text",.str (cV ws f e)),("one",.ref D)]):=by
  rw[<-L];show ς
 let u:ζ G (upd G p (.tup [.ref y,.int e])):=ζ.upd J;show q p y _ (((F.trans I).trans O).trans u) ς #[dx,D,_,u _ _ ey,((m.same I).same O).same u]
theorem WK(T:Txt K mg):∀t:Tr,Def P w K mg base true (8+2*t.dep) "read_part" ["columns","words","start","within"] (wU K mg t)
 |.one sv=>ak2 T sv
 |.nt t=>by
   let h:=aiD T (z:="not") (lv:=8+2*t.dep+1) rfl () (adL T (lv:=8+2*t.dep) (WK T t) (Ϭ _) ());let e:8+2*(Tr.nt t).dep=8+2*t.dep+1+1:=by show 8+2*(t.dep+1)=_;omega
   rw[e];show h
inductive XS (mg:Str->Option ε) (t:Tr) (vs:List V) (H:Hp) (Q:VK) (E:XK):Prop
 |mk (b:δ) (cs:List θ) (z:Str):vs=[.ref b,.str z]->Τ H b cs->z.length<=3000->(∀y∈Ϗ 32 z,y.length<=1000)->t.dep<=20->Reads cs (Ϗ 32 z) t 0 (Ϗ 32 z).length->(∀v H',ζ H H'->eO mg H' t v (cV (Ϗ 32 z) 0 (Ϗ 32 z).length)->Q (.ref v) H')->XS mg t vs H Q E
def Oi(T:Txt K mg)(t:Tr):Def P w K mg base true (9+2*t.dep) "read_sieve" ["columns","text"] (XS mg t):=by
 let j:9+2*t.dep=(8+2*t.dep)+1:=()
 rw[j];show Δ (S:=R5) T.ajH (λ_ _ _ _ s H vs Q E D h=>?_);intro X _;let#[b,cs,z,rfl,l,G,a,m,e,q]:=h;let nd:=R5.nd;let n1:=T.bh;let hsz:=ϰ;let I:= @WK P w K mg base T t;let n:=aax 32 z;w_up;f_tup;show bU F.plainAttrs_str F.slot_str_split F.type_str_split (h:=?_);cbv;show m_split (c:=32) λp u=>?_
 let#[f,ep]:=Ξ u (.lst ((Ϗ 32 z).map V.str));generalize upd H p (.lst ((Ϗ 32 z).map V.str))=H1 at f ep⊢;w_up;show d9 ?_;lk;show#[b,cs,p,Ϗ 32 z,0,_,0,rfl,l.same f,η.of ep,(),a,by decide,(),e,λJ v H2 i x g=>?_];show ao (ι.of x) (Κ (ω nd (by rfl) (.inl rfl) (.inl rfl) (Κ (ω nd (by rfl) (.inl rfl) (.inl rfl) (ak ?_)))));let y:η K H2 p ((Ϗ 32 z).map V.str):=η.of (i _ _ ep);let B:((Ϗ 32 z).map V.str).length=(Ϗ 32 z).length:=aaA ..;w_up;cbv;rw[B];show Ε (λh=>absurd h ()) (λ_=>?_);cbv;show q v H2 (f.trans i) g
def amu(xs:List V):dU->Bool
 |.all=>true
 |.none p=>decide ((xs[p]?).getD .non=.non)
 |.look l p v=> !decide ((xs[p]?).getD .non=.non)&&nD l ((xs[p]?).getD .non) v
def Px(xs:List V):dU->Prop
 |.all=>True
 |.none p=>p<xs.length
 |.look l p v=>∃x,xs[p]?=some x/\(x=.non\/GK l x v)
def bu(xs:List V):Tr->Bool
 |.one s=>amu xs s
 |.nt t=> !bu xs t
def yu(xs:List V):Tr->Prop
 |.one s=>Px xs s
 |.nt t=>yu xs t
def iI(mg:Str->Option ε):Tr->δ
 |.one .all=>ο mg "AllSieve"
 |.one (.none _)=>ο mg "NoneSieve"
 |.one (.look l _ _)=>xu mg l
 |.nt _=>ο mg "NotSieve"
inductive sX (K:Ϩ) (mg:Str->Option ε) (t:Tr) (vs:List V) (H:Hp) (Q:VK) (E:XK):Prop
 |mk (a b:δ) (z:Str) (xs:List V):vs=[.ref a,.ref b]->eO mg H t a z->η K H b xs->yu xs t->Q (.bl (bu xs t)) H->sX K mg t vs H Q E
theorem eO.ins:∀{t:Tr}{a:δ}{z:Str},eO mg H t a z->∃dx fs,H a=some (.ins (iI mg t) dx fs)/\fs.lookup ("lets":Str)=none
 |.one .all,a,z,h=>by let#[dx,h]:=h;show#[dx,_,h,rfl]
 |.one (.none p),a,z,h=>by let#[dx,h]:=h;show#[dx,_,h,rfl]
 |.one (.look l p v),a,z,h=>by let#[dx,h]:=h;show#[dx,_,h,rfl]
 |.nt t,a,z,h=>by let#[dx,b,y,h,_]:=h;show#[dx,_,h,rfl]
def afq(T:Txt K mg)(l:Lk)(p:Nat)(v:V):aH P w K mg base true 3 (xu mg l) "lets" ["self","values"] (Ep K l (xu mg l)):=by
 cases l with
 |is=>show(yQ ((af6 T.qj T.R8).meth T.qj T.ahU) T.U5).meth T.qj T.afe
 |under=>show(yQ ((agK T T.sS T.M5).meth T.sS T.afF) T.Xh).meth T.sS T.amH
 |over=>show(yQ ((abx T T.tR T.Vf).meth T.tR T.ai2) T.OD).meth T.tR T.afl
 |holds=>show(yQ ((ai9 T.rD T.Tv).meth T.rD T.afr) T.ZX).meth T.rD T.afG
def aa9(T:Txt K mg)(M:aH P w K mg base true lv (iI mg t) "lets" ["self","values"] (sX K mg t)):FD P w K mg base true (lv+1) "lets" "NotSieve.lets" VP ["self","values"] (sX K mg (.nt t)):=by
 show bC (N:=["self","values"]) (λ_ _ _ _ _ H vs Q E f h=>?_);intro X _;let#[a,b,z,xs,rfl,#[dx,c,y,g,e],i,j,q]:=h;let#[dc,n,l,m]:=e.ins;f_len;show ψ ?_;lk;show dR (pl:=_) f Ϡ (h:=?_);show bD ?_;f_are;show#[a,_,_,_,_,rfl,g,T.vR,T.Oh,rfl,?_];show#[c,iI mg t,dc,_,true,lv,_,sX K mg t,rfl,l,m,M,Ϭ _,id,?_];lk;show#[c,b,y,xs,rfl,e,i,j,?_];lk;show q
theorem WD(T:Txt K mg):∀t:Tr,aH P w K mg base true (3+t.dep) (iI mg t) "lets" ["self","values"] (sX K mg t)
 |.one .all=>Ih (aeE.meth T.Cj T.af7) (by decide) λvs H Q E h=>by
   let#[a,b,z,xs,rfl,_,_,_,q]:=h;show#[_,_,rfl,q]
 |.one (.none p)=>Ih (aij.meth T.uY T.acv) (by show 1<=3+0;decide) λvs H Q E h=>by
   let#[a,b,z,xs,rfl,#[dx,c],f,g,q]:=h;let j:p<xs.length:=g;let e:xs[p]?=some xs[p]:=aaj j;show#[a,_,dx,_,p,b,xs,xs[p],rfl,c,T.uY,T.Vp,rfl,f,e,?_];let q:Q (.bl (decide ((xs[p]?).getD .non=.non))) H:=q;rw[e]at q;show q
 |.one (.look l p v)=>Ih (afq T l p v) (by show 3<=3+0;decide) λvs H Q E h=>by
   let#[a,b,z,xs,rfl,#[dx,c],f,#[x,i,g],q]:=h;show#[a,dx,z,p,v,b,xs,x,rfl,c,f,i,g,?_];let q:Q (.bl (!decide ((xs[p]?).getD .non=.non)&&nD l ((xs[p]?).getD .non) v)) H:=q;rw[i]at q;show q
 |.nt t=>(aa9 T (WD T t)).meth T.vR T.alU
def Dz(T:Txt K mg):Def P w K mg base true 2 "read_order_word" ["columns","word"] (xj (.ref (ο mg "NoOrder"))):=by
 show Δ (S:=Zv) T.Dz (λ_ _ _ _ _ H vs Q E F h=>?_);intro X _;let#[a,cs,z,rfl,l,G,g,q]:=h;let I:=T.X7;let J:=T.Yw;let nd:=Zv.nd;let L:= @pU P w K mg base T;let hsz:=ϰ;let m:=vO z (some 1) none;let e1:("+":Str).cps.toList=[43]:=by fin2
 let i:("-":Str).cps.toList=[45]:=by fin2
 let es:(ϐ z none (some 1)).cps.toList=z.cps.toList.take 1:=Am z 1;let e:∀c:Nat,z.cps.toList.take 1=[c]↔z.cps.toList[0]?=some c:=λc=>by
  cases z.cps.toList with
  |nil=>simp
  |cons x r=>simp
 let k1:V.str (ϐ z none (some 1))=V.str "+"↔z.cps.toList[0]?=some 43:=by
  rw[<-e];constructor
  .intro h;let h2:ϐ z none (some 1)=Ϫ "+":=by injection h
   rw[<-es,h2,e1]
  .intro h;let h2:ϐ z none (some 1)=Ϫ "+":=gb (by rw[es,h,e1]);rw[h2]
 let k2:V.str (ϐ z none (some 1))=V.str "-"↔z.cps.toList[0]?=some 45:=by
  rw[<-e];constructor
  .intro h;let h2:ϐ z none (some 1)=Ϫ "-":=by injection h
   rw[<-es,h2,i]
  .intro h;let h2:ϐ z none (some 1)=Ϫ "-":=gb (by rw[es,h,i]);rw[h2]
 w_up;cbv;show iG () ?_;cbv;show iG () ?_;cbv;show#[Β,λp n=>?_];let#[f,ep]:=Ξ n (.tup [.str "+",.str "-"]);generalize upd H p (.tup [.str "+",.str "-"])=M at f ep⊢;show Vh (ι.of ep) ?_;let s:jc (V.str (ϐ z none (some 1))) [.str "+",.str "-"]=decide (z.cps.toList[0]?=some 43\/z.cps.toList[0]?=some 45):=by
  let j:∀y:Str,gh (V.str y) (V.str (ϐ z none (some 1)))=decide (V.str (ϐ z none (some 1))=V.str y):=λy=>by
   rw[aex,decide_eq_true_eq];constructor
   .intro h;have:V.str y=V.str (ϐ z none (some 1)):=by simpa [gh]using h
    show this.symm
   .intro h;rw[h];simp[gh]
  rw[aex,decide_eq_true_eq, <-k1, <-k2];show((gh _ _||(gh _ _||false))=true)↔_;rw[j,j,aqs,aoM,decide_eq_true_eq,decide_eq_true_eq]
 rw[s];cbv;show jl (λh=>?_) (λh=>?_)
 .show(g H (ζ.refl _) (if_neg λx=>h x.1)).elim
 .show Γ ?_;cbv;show#[a,cs,_,rfl,l.same f,λH1 u =>?_];let v :=f.trans u;cbv;show Ε (λh2=>?_) (λh2=>?_)
  .show(g H (ζ.refl _) (if_neg λx=>x.2 h2)).elim
  .show Γ ?_;cbv;show#[Β,λt B=>?_];show q t _ _ (v.trans (ζ.upd B)) (if_pos #[h,h2]) ?_;rw[ς];let D:decide (V.str (ϐ z none (some 1))=V.str ("+":Str))=decide (z.cps.toList[0]?=some 43):=decide_eq_decide.mpr k1;rw[D]
def zH(T:Txt K mg):Def P w K mg base true 3 "read_order" ["columns","text"] (yp (.ref (ο mg "NoOrder"))):=by
 show Δ (S:=Mz) T.zH (λf _ _ _ s H vs Q E hr h=>?_);intro X _;let#[a,cs,z,rfl,hC,hz,j,q]:=h;let g1:=T.ae5;let n1:=T.bh;let n2:=T.U7;let nd:=Mz.nd;let ph:(["word","columns"]:List Str).Nodup:=by fin2
 let bQ:(["name","up"]:List Str).Nodup:=by fin2
 let D1:= @Dz P w K mg base T;let hsz:=ϰ;unfold jb at j q;w_up;cbv;show Ε (λh=>?_) (λh=>?_)
 .let h':z="":=by injection h
  cbv;show#[Β,λp J=>?_];show q p [] _ (ζ.upd J) (if_pos h') J #[[],ς,.nil]
 .let h':¬z="":=λe=>h (by rw[e])
  rw[if_neg h']at j q;show Γ ?_;w_up;f_tup;show bU PySem.F.plainAttrs_str PySem.F.slot_str_split PySem.F.type_str_split (h:=?_);cbv;show m_split (c:=32) λp1 W=>?_
  let Y:=aax 32 z;let B:=λy=> @abd 32 z y
  generalize Ϗ 32 z=ws at j q Y B⊢;let#[L,ql]:=Ξ W (.lst (ws.map V.str));generalize upd H p1 (.lst (ws.map V.str))=H1 at L ql⊢;let M:(ws.map V.str).length=ws.length:=aaA ..;let S1:η K H1 p1 (ws.map V.str):=η.of ql;cbv;rw[M];show Ε (λh2=>?_) (λh2=>?_)
  .show(j H (ζ.refl _) (if_pos ())).elim
  .rw[if_neg ()]at j q;show Γ ?_;w_up;show aeY ["word","columns"] (σ':=[none,some (.ref a)]) (by rfl) Ϡ rfl rfl (by rfl) (by rfl) (bN (χ xZ)) (by intro _;rfl) nd (by rfl) (by rfl) ?_;cbv;show#[p1,_,rfl,S1,by rw[M];omega,λD=>∃o,D=[o,some (.ref a)],λl i v H'=>∃y,ws[i]?=some y/\∃o,iD cs y=some o/\∃t,v=.ref t/\t≠l/\H' t=some (.tup [.str o.1,.bl o.2]),#[none,rfl],λl i v H2 Z ys _ hk J=>?_,λfp l C s3 H0 F i D x H2 Z xo hE hi n Η G hG=>?_,λl H2 xs hE hl O e2 Η =>?_]
   .let#[y,a1,o,a2,t,a3,a4,a5]:=J;show#[y,a1,o,a2,t,a3,a4,hk t _ a4 a5]
   .let#[o,rfl]:=n;let#[O,rfl]:=hG;rw[abI]at O;let#[y,ey,rfl]:=amj.mp O;let hyl:=B y (aaD ey);show ω ph (by rfl) (.inl rfl) (.inr rfl) ?_;cbv;let g:=L.trans Η;show#[a,cs,y,rfl,hC.same g,(),λH' m e=>?_,λt o H' m e et=>?_]
    .show j H' (g.trans m) (by rw[Mf (aaD ey) e])
    .let#[ys,ab,_]:=G;show#[#[_,rfl],#[y,ey,o,e,t,rfl,λz=>?_,et],m];rw[z,m _ _ ab]at et;cases et
   .let#[os,eo,ha]:=Z6 (f:=iD cs) (R:=uK H2) (ws:=ws) (xs:=xs) (by rw[hl,M]) λi v e=>by
     let#[y,a1,o,a2,t,a3,a4,a5]:=O i v e;show#[y,a1,o,a2,t,a3,a5]
    rw[eo]at j q;let ac:=ha.len;let g:=L.trans Η;let ae:H l=none:=by
     cases e:H l with
     |none=>rfl
     |some u=>rw[L _ _ e]at hE;cases hE
    w_up;show vV ["name","up"] (σ':=[none,none]) (bN (χ xZ)) nd ?_;cbv;show#[l,xs,rfl,η.of e2,by rw[hl,M];omega,λD=>∃o1 o2,D=[o1,o2],λE2 i u H'=>∃c,os[i]?=some c/\u=.str c.1,#[none,none,rfl],λE2 i u H2 Z ys _ _ p=>p,λfp E2 C s3 H0 i D x H4 Z aY hi n m G hG=>?_,λE2 H4 ys aY ϻ af e4 m =>?_]
    .let#[o1,o2,rfl]:=n;let#[aJ,rfl]:=hG;let#[c,hc,t,rfl,ht]:=ha.get aJ;show ao (ι.of (m _ _ ht)) (Κ (ω bQ (by rfl) (.inl rfl) (.inr rfl) (Κ (ω bQ (by rfl) (.inl rfl) (.inr rfl) (ak ?_)))));cbv;show#[#[_,_,rfl],#[c,hc,rfl],ζ.refl _]
    .let ey:=fD (ys:=os) (λc=>V.str c.1) (by rw[ϻ,ac]) af;let gD:ys=(os.map Prod.fst).map V.str:=by rw[ey,aep];rfl
     subst gD;let I:(os.map Prod.fst).length<=4000:=by simp;omega
     w_up;cbv;show RV (by rfl) (η.of e4) I λS hS=>?_
     cbv;show VJ ς I ?_;cbv;show vG (.inl (η.of ((ζ.upd hS) _ _ e4))) ?_;cbv;let U:ζ H2 (upd H4 S (pF X S (os.map Prod.fst))):=m.trans (ζ.upd hS);let QR:=JZ _ (os.map Prod.fst) rfl;generalize upd H4 S (pF X S (os.map Prod.fst))=H5 at U⊢;rw[aaA (f:=V.str)];show jl (λh3=>?_) (λh3=>?_)
     .let h4:¬(os.map Prod.fst).Nodup:=λz=>h3 (by rw[QR.mpr z])
      show(j H (ζ.refl _) (if_neg h4)).elim
     .let h4:(os.map Prod.fst).Nodup:=QR.mp (by injection h3 with h5;omega);show Γ ?_;cbv;show q l os H5 (g.trans U) (if_pos h4) ae #[xs,U _ _ e2,ha.imp λu c r=>r.same U]
abbrev Row:=Int×List V
def aQ(H:Hp)(v:V)(r:Row):=∃t l,v=.ref t/\H t=some (.tup [.int r.1,.ref l])/\H l=some (.lst r.2)
def aQ.same(h:aQ H v r)(s:ζ H H'):aQ H' v r:=by
 let#[t,l,e,a,c]:=h;show#[t,l,e,s _ _ a,s _ _ c]
def fB(H:Hp)(a:δ)(rs:List Row):=∃vs:List V,H a=some (.lst vs)/\ρ (aQ H) vs rs
def fB.same(h:fB H a rs)(s:ζ H H'):fB H' a rs:=by
 let#[vs,e,q]:=h;show#[vs,s _ _ e,q.imp λa b r=>r.same s]
def ϙ(cs:List θ)(r:Row):Prop:=ρ (λc x=>ϕ c.2 x) cs r.2
def ϕ.aF(h:ϕ c x)(g:ϕ c y):aF x y:=by
 obtain rfl|⟨e,i,rfl,_⟩|⟨e,z,rfl,_⟩:=h
 .show .inl rfl
 .obtain rfl|⟨_,j,rfl,_⟩|⟨a,z,rfl,_⟩:=g
  .show .inr (.inl rfl)
  .show .inr (.inr (.inl #[_,_,rfl,rfl]))
  .show absurd e a
 .obtain rfl|⟨a,j,rfl,_⟩|⟨_,z,rfl,_⟩:=g
  .show .inr (.inl rfl)
  .show absurd a e
  .show .inr (.inr (.inr #[_,_,rfl,rfl]))
def Cq(x:V):before x x=false:=by
 cases x with
 |non=>rfl
 |int i=>show decide_eq_false ()
 |str z=>show decide_eq_false (ar6 _)
 |_=>rfl
def Qs(g:ϕ f x)(l:ϕ f y)(m:ϕ f z)(h1:before x y=true)(h2:before y z=true):before x z=true:=by
 obtain rfl|⟨e,k,rfl,_⟩|⟨e,z,rfl,_⟩:=m
 .cases y<;>cases h2
 .obtain rfl|⟨_,i,rfl,_⟩|⟨c,z,rfl,_⟩:=g
  .rfl
  .obtain rfl|⟨_,j,rfl,_⟩|⟨c,z,rfl,_⟩:=l
   .cases h1
   .let a:=of_decide_eq_true h1;let b:=of_decide_eq_true h2;show decide_eq_true ()
   .show absurd e c
  .show absurd e c
 .obtain rfl|⟨c,i,rfl,_⟩|⟨_,u,rfl,_⟩:=g
  .rfl
  .show absurd c e
  .obtain rfl|⟨c,j,rfl,_⟩|⟨_,v,rfl,_⟩:=l
   .cases h1
   .show absurd c e
   .show decide_eq_true (asd (of_decide_eq_true h1) (of_decide_eq_true h2))
def vo(h:aF x y)(l:scalar x=true)(a:scalar y=true)(c:¬x=y):before y x= !before x y:=by
 cases x with
 |non=>
  cases y with
  |non=>show absurd rfl c
  |int j=>rfl
  |str z=>rfl
  |_=>show absurd a aaF
 |int i=>
  cases y with
  |non=>rfl
  |int j=>
   let m:¬i=j:=λe=>c (by rw[e])
   show decide (j<i)= !decide (i<j);by_cases h1:i<j
   .rw[decide_eq_true h1,decide_eq_false ()];rfl
   .rw[decide_eq_false h1,decide_eq_true ()];rfl
  |str z=>obtain z|z|⟨_,_,_,z⟩|⟨_,_,z,_⟩:=h<;>cases z
  |_=>show absurd a aaF
 |str z=>
  cases y with
  |non=>rfl
  |int j=>obtain z|z|⟨_,_,z,_⟩|⟨_,_,_,z⟩:=h<;>cases z
  |str y=>
   let f:¬z.cps.toList=y.cps.toList:=λe=>c (by rw[gb e])
   show decide (y.cps.toList<z.cps.toList)= !decide (z.cps.toList<y.cps.toList);by_cases h1:z.cps.toList<y.cps.toList
   .rw[decide_eq_true h1,decide_eq_false (List.lt_asymm h1)];rfl
   .let h2:y.cps.toList<z.cps.toList:=by
     by_cases g:y.cps.toList<z.cps.toList
     .show g
     .show absurd (List.le_antisymm (ar0.mp g) (ar0.mp h1)) f
    rw[decide_eq_false h1,decide_eq_true h2];rfl
  |_=>show absurd a aaF
 |_=>show absurd l aaF
def lK(cs:List θ)(z:Str):Str:=match cs[ϋ cs z]? with
 |some c=>c.2
 |none=>Ϫ ""
def cj(cs:List θ)(os:List Ord)(xs:List V):Prop:=ρ (λ(o:Ord) x=>ϕ (lK cs o.1) x) os xs
theorem uq:∀{os:List Ord}{xs:List V}{n k:Int},xs.length=os.length->ϣ os xs xs n k=decide (n<k)
 |[],[],n,k,_=>rfl
 |o::os,x::xs,n,k,h=>by
  show(if x=x then ϣ os xs xs n k else _)=_;rw[if_pos rfl];show uq (by simpa using h)
 |[],_::_,_,_,h=>by simp at h
 |_::_,[],_,_,h=>by simp at h
theorem Gq:∀{os:List Ord}{xs ys:List V},cj cs os xs->cj cs os ys->¬xs=ys->ϣ os ys xs k n= !ϣ os xs ys n k
 |[],_,_,a,c,h=>by cases a;cases c;show absurd rfl h
 |o::os,_,_,a,c,h=>by
  cases a with| @cons _ x _ xs a tx=>
  cases c with| @cons _ y _ ys c ty=>
  show(if y=x then ϣ os ys xs k n else decide (before y x=o.2))= !(if x=y then ϣ os xs ys n k else decide (before x y=o.2));by_cases e:x=y
  .rw[if_pos e,if_pos e.symm];show Gq tx ty λf=>h (by rw[e,f])
  .rw[if_neg e,if_neg (Ne.symm e),vo (a.aF c) a.sc c.sc e];cases before x y<;>cases o.2<;>rfl
theorem BJ:∀{os:List Ord}{xs ys zs:List V},cj cs os xs->cj cs os ys->cj cs os zs->ϣ os xs ys n k=true->ϣ os ys zs k m=true->ϣ os xs zs n m=true
 |[],_,_,_,i,j,l,h1,h2=>by
  cases i;cases j;cases l;let a:=of_decide_eq_true h1;let b:=of_decide_eq_true h2;show decide_eq_true ()
 |o::os,_,_,_,i,j,l,h1,h2=>by
  cases i with| @cons _ x _ xs i tx=>
  cases j with| @cons _ y _ ys j ty=>
  cases l with| @cons _ z _ zs l s=>
  let g:(if x=y then ϣ os xs ys n k else decide (before x y=o.2))=true:=h1;let f:(if y=z then ϣ os ys zs k m else decide (before y z=o.2))=true:=h2;show(if x=z then ϣ os xs zs n m else decide (before x z=o.2))=true;by_cases e1:x=y
  .rw[if_pos e1]at g;subst e1;by_cases p:x=z
   .rw[if_pos p]at f⊢;show BJ tx ty s g f
   .rw[if_neg p]at f⊢;show f
  .rw[if_neg e1]at g;by_cases p:y=z
   .subst p;rw[if_neg e1];show g
   .rw[if_neg p]at f;let a:=of_decide_eq_true g;let b:=of_decide_eq_true f;cases ho:o.2 with
    |true=>
     rw[ho]at a b;let c:=Qs i j l a b;let q:¬x=z:=λe=>by rw[e,Cq]at c;cases c
     rw[if_neg q];show decide_eq_true c
    |false=>
     rw[ho]at a b;let u:before y x=true:=by rw[vo (i.aF j) i.sc j.sc e1,a];rfl
     let v:before z y=true:=by rw[vo (j.aF l) j.sc l.sc p,b];rfl
     let c:=Qs l j i v u;let q:¬x=z:=λe=>by rw[e,Cq]at c;cases c
     rw[if_neg q];let d:=vo (i.aF l) i.sc l.sc q;rw[c]at d;show decide_eq_true ?_;cases hb:before x z with
     |true=>rw[hb]at d;cases d
     |false=>rfl
theorem cY(h:ϙ cs r):∀{os:List Ord},c7 cs os->cj cs os (Ν cs os r.2)
 |[],_=>.nil
 |o::os,a=>by
  show .cons ?_ (cY h λx f=>a x (by simp[f]));let#[c,e,_]:=G3 (a o (by simp));let#[v,g,i]:=h.get e;show ϕ (lK cs o.1) (bW cs r.2 o.1);unfold lK bW;rw[e,g];show i
def cj.aF{os:List Ord}{xs ys:List V}(h:cj cs os xs)(g:cj cs os ys):xs.length=os.length/\ys.length=os.length/\∀(i:Nat) x y,xs[i]?=some x->ys[i]?=some y->scalar x=true/\scalar y=true/\aF x y:=by
 show#[h.len.symm,g.len.symm,λi x y e1 f=>?_];let#[o,j,c]:=h.get' e1;let#[o',a,e]:=g.get' f;rw[j]at a;cases a;show#[c.sc,e.sc,c.aF e]
def cX(cs:List θ)(os:List Ord)(r q:Row):Bool:=ϣ os (Ν cs os r.2) (Ν cs os q.2) r.1 q.1
def Line(cs:List θ)(os:List Ord)(rs:List Row):Prop:=rs.Pairwise λr q=>cX cs os r q=true
theorem GZ{α:Type}{p:α->Bool}:∀{l:List α},l.Pairwise (λa b=>p b=true->p a=true)->(∀x∈l.take (l.countP p),p x=true)/\∀x∈l.drop (l.countP p),p x=false
 |[],_=>by simp
 |a::l,h=>by
  let#[h1,h2]:=amt.mp h;let#[g,i]:=GZ h2;cases ha:p a with
  |true=>
   rw[List.countP_cons_of_pos ha];show#[λx c=>by
    rcases ϳ.mp (by simpa using c)with e|e
    .rw[e];show ha
    .show g x e,λx c=>i x (by simpa using c)]
  |false=>
   let f:∀x∈l,p x=false:=λx c=>by
    cases hp:p x with
    |false=>rfl
    |true=>have:=h1 x c hp;rw[ha]at this;cases this
   let j:l.countP p=0:=List.countP_eq_zero.mpr λx c=>by rw[f x c];show aaF
   rw[List.countP_cons_of_neg (by rw[ha];show aaF),j];show#[by simp,λx c=>?_];rcases ϳ.mp (by simpa using c)with e|e
   .rw[e];show ha
   .show f x e
inductive Ct
 |start
 |fin
 |at_ (ahead:Bool) (xs:List V) (n:Int)
def xQ(os:List Ord):Ct->List V->Int->Bool
 |.at_ true ys k,xs,n=>ϣ os xs ys n k
 |.at_ false ys k,xs,n=> !ϣ os ys xs k n
 |_,_,_=>false
def bH(cs:List θ)(os:List Ord)(c:Ct)(r:Row):Bool:=xQ os c (Ν cs os r.2) r.1
def j6(cs:List θ)(os:List Ord):Ct->Prop
 |.at_ _ xs _=>cj cs os xs
 |_=>True
def aaQ{os:List Ord}(a:c7 cs os){c:Ct}(f:j6 cs os c){r q:Row}(j:ϙ cs r)(l:ϙ cs q)(h:cX cs os r q=true)(hl:bH cs os c q=true):bH cs os c r=true:=by
 let g:=cY j a;let i:=cY l a;cases c with
 |start=>cases hl
 |fin=>cases hl
 |at_ sd xs n=>
  cases sd with
  |true=>show BJ g i f h hl
  |false=>
   let e:(!ϣ os xs (Ν cs os q.2) n q.1)=true:=hl;show(!ϣ os xs (Ν cs os r.2) n r.1)=true;cases hx:ϣ os xs (Ν cs os r.2) n r.1 with
   |false=>rfl
   |true=>
    rw[BJ f g i hx h]at e;cases e
theorem J6{os:List Ord}(e:c7 cs os){c:Ct}(i:j6 cs os c):∀{rs:List Row},(∀r∈rs,ϙ cs r)->Line cs os rs->rs.Pairwise (λa b=>bH cs os c b=true->bH cs os c a=true)
 |[],_,_=>.nil
 |r::rs,g,h=>by
  let#[h1,h2]:=amt.mp h;show .cons (λq f hl=>aaQ e i (g r (by simp)) (g q (by simp[f])) (h1 q f) hl) (J6 e i (λq f=>g q (by simp[f])) h2)
def ahk{os:List Ord}(a:c7 cs os){rs:List Row}{r:Row}(j:∀q∈rs,ϙ cs q)(n:ϙ cs r)(h:Line cs os rs)(p:∀q∈rs,¬q.1=r.1):Line cs os (gO rs (rs.countP λq=>cX cs os q r) r):=by
 let f:=cY n a;let s:j6 cs os (.at_ true (Ν cs os r.2) r.1):=f;let u:=J6 a s j h;let#[p1,p2]:=GZ u;let v:(λq=>cX cs os q r)=bH cs os (.at_ true (Ν cs os r.2) r.1):=rfl;rw[v];unfold gO;let g:Line cs os (rs.take (rs.countP (bH cs os (.at_ true (Ν cs os r.2) r.1)))++rs.drop (rs.countP (bH cs os (.at_ true (Ν cs os r.2) r.1)))):=by
  rw[arc];show h
 let#[y,z,B]:=arj.mp g;show arj.mpr #[y,amt.mpr #[λq c=>?_,z],λx l q c=>?_]
 .let hf':=j q (adG c);let e:=p2 q c;let D:=cY hf' a;let E:=p q (adG c);let i:ϣ os (Ν cs os q.2) (Ν cs os r.2) q.1 r.1=false:=e;show ϣ os (Ν cs os r.2) (Ν cs os q.2) r.1 q.1=true;by_cases m:Ν cs os q.2=Ν cs os r.2
  .rw[m,uq (cj.aF f f).1]at i⊢;have:=of_decide_eq_false i;show decide_eq_true ()
  .rw[Gq D f m,i];rfl
 .obtain e|e:=ϳ.mp c
  .rw[e];show p1 x l
  .show B x l q e
def aly{os:List Ord}{sd:Bool}{xs ys:List V}{n k:Int}(a:cj cs os xs)(f:cj cs os ys):xQ os (.at_ sd ys k) xs n=(ϣ os xs ys n k||(!sd&&decide (xs=ys/\n=k))):=by
 cases sd with
 |true=>
  show ϣ os xs ys n k=_;rw[show(!true&&decide (xs=ys/\n=k))=false from rfl,aqs]
 |false=>
  show(!ϣ os ys xs k n)=_;by_cases c:xs=ys
  .subst c;rw[uq a.len.symm,uq a.len.symm];by_cases h1:k<n
   .rw[decide_eq_true h1,decide_eq_false (show ¬n<k by omega),decide_eq_false (show ¬(xs=xs/\n=k)from λe=>by have:=e.2;omega)];rfl
   .rw[decide_eq_false h1];by_cases h2:n<k
    .rw[decide_eq_true h2];rfl
    .rw[decide_eq_false h2,decide_eq_true (show xs=xs/\n=k from#[rfl,()])];rfl
  .rw[Gq a f c,decide_eq_false (λe=>c e.1),Bool.not_not];simp
def jX:V->List V
 |.non=>[]
 |x=>[x]
def jn(rs:List Row)(q:List Nat):List Row:=q.map λi=>rs.getD i (0,[])
theorem KC(h:ρ R ws rs):∀{q:List Nat},(∀i∈q,i<ws.length)->ρ R (dW ws q) (jn rs q)
 |[],_=>.nil
 |i::q,a=>by
  let hi:=a i (by simp);let e:ws[i]?=some (ws[i]'hi):=aaj hi;let#[r,c,f]:=h.get e;show ρ R (ws.getD i .non::dW ws q) (rs.getD i (0,[])::jn rs q);rw[abJ,abJ,e,c];show .cons f (KC h λj g=>a j (by simp[g]))
theorem map_getD{α:Type}(d:α):∀(l:List α),(acR l.length).map (λi=>l.getD i d)=l
 |[]=>rfl
 |a::l=>by
  rw[acj,aqY,ac2,aep];show a::_=_
  congr 1
  show map_getD d l
def Ru(h:fG rs.length lt q):(jn rs q).Perm rs:=by
 have:=h.1.map λi=>rs.getD i (0,[])
 rw[map_getD]at this;show this
def pC{rs:List Row}(h:i<rs.length):rs.getD i (0,[])=rs[i]:=by
 rw[abJ,aaj h];rfl
def X6(g:ϕ f x)(a:ϕ f y):aU (jX x) (jX y)=before x y:=by
 obtain rfl|⟨e,i,rfl,_⟩|⟨e,z,rfl,_⟩:=g
 .obtain rfl|⟨_,j,rfl,_⟩|⟨_,z,rfl,_⟩:=a<;>rfl
 .obtain rfl|⟨_,j,rfl,_⟩|⟨c,z,rfl,_⟩:=a
  .rfl
  .rfl
  .show absurd e c
 .obtain rfl|⟨c,j,rfl,_⟩|⟨_,z,rfl,_⟩:=a
  .rfl
  .show absurd c e
  .rfl
def ahW(l:(rs.map Prod.fst).Nodup)(f:fG rs.length (jx false λi j=>decide ((rs.getD i (0,[])).1<(rs.getD j (0,[])).1)) q):Line cs [] (jn rs q):=by
 unfold Line jn;rw[anA];let g:q.Nodup:=(f.1.nodup_iff).mpr aqr;show(f.2.and g).imp_of_mem λ{i j} hi m h=>?_;let#[h,n]:=h;let a:=pO f hi;let c:=pO f m;show decide ((rs.getD i (0,[])).1<(rs.getD j (0,[])).1)=true;let hd:¬(rs.getD i (0,[])).1=(rs.getD j (0,[])).1:=λe=>by
  rw[pC a,pC c]at e;let p:(rs.map Prod.fst)[i]'(by simpa using a)=(rs.map Prod.fst)[j]'(by simpa using c):=by simpa using e
  show n ((aoj l).mp p)
 obtain h|⟨h,_⟩:=h
 .show h
 .let h':decide ((rs.getD j (0,[])).1<(rs.getD i (0,[])).1)=false:=h;have:=of_decide_eq_false h';show decide_eq_true ()
def bJ(rs:List Row)(p:Nat)(i:Nat):List V:=jX (((rs.getD i (0,[])).2[p]?).getD .non)
def ab8{os:List Ord}{o:Ord}{rs:List Row}{q:List Nat}(g:c7 cs (o::os))(z:∀r∈rs,ϙ cs r)(h:Line cs os rs)(s:fG rs.length (jx (!o.2) λi j=>aU (bJ rs (ϋ cs o.1) i) (bJ rs (ϋ cs o.1) j)) q):Line cs (o::os) (jn rs q):=by
 unfold Line jn;rw[anA];let u:q.Nodup:=(s.1.nodup_iff).mpr aqr;show(s.2.and u).imp_of_mem λ{i j} hi D f=>?_;let#[f,F]:=f;let a:=pO s hi;let c:=pO s D;let mi:rs.getD i (0,[])∈rs:=by rw[pC a];show aeq a
 let E:rs.getD j (0,[])∈rs:=by rw[pC c];show aeq c
 let l:ϕ (lK cs o.1) (bW cs (rs.getD i (0,[])).2 o.1):=by
  cases cY (z _ mi) g with|cons h _=>show h
 let m:ϕ (lK cs o.1) (bW cs (rs.getD j (0,[])).2 o.1):=by
  cases cY (z _ E) g with|cons h _=>show h
 let n:aU (bJ rs (ϋ cs o.1) i) (bJ rs (ϋ cs o.1) j)=before (bW cs (rs.getD i (0,[])).2 o.1) (bW cs (rs.getD j (0,[])).2 o.1):=X6 l m;let p:aU (bJ rs (ϋ cs o.1) j) (bJ rs (ϋ cs o.1) i)=before (bW cs (rs.getD j (0,[])).2 o.1) (bW cs (rs.getD i (0,[])).2 o.1):=X6 m l;let an:=vo (l.aF m) l.sc m.sc;let old:i<j->cX cs os (rs.getD i (0,[])) (rs.getD j (0,[]))=true:=λv=>by
  rw[pC a,pC c];show aoe.mp h i j a c v
 show(if bW cs (rs.getD i (0,[])).2 o.1=bW cs (rs.getD j (0,[])).2 o.1 then cX cs os (rs.getD i (0,[])) (rs.getD j (0,[]))else decide (before (bW cs (rs.getD i (0,[])).2 o.1) (bW cs (rs.getD j (0,[])).2 o.1)=o.2))=true;generalize bW cs (rs.getD i (0,[])).2 o.1=x at l n p an⊢;generalize bW cs (rs.getD j (0,[])).2 o.1=y at m n p an⊢;by_cases e:x=y
 .rw[if_pos e];show old ?_;subst e;obtain h1|⟨_,h1⟩:=f
  .unfold jx at h1;split at h1
   .let h1:aU (bJ rs (ϋ cs o.1) j) (bJ rs (ϋ cs o.1) i)=true:=h1;rw[p,Cq]at h1;cases h1
   .let h1:aU (bJ rs (ϋ cs o.1) i) (bJ rs (ϋ cs o.1) j)=true:=h1;rw[n,Cq]at h1;cases h1
  .show h1
 .rw[if_neg e];let B:=an e;show decide_eq_true ?_;cases hu:o.2 with
  |true=>
   rw[hu]at f;obtain h1|⟨h1,_⟩:=f
   .let h1:aU (bJ rs (ϋ cs o.1) i) (bJ rs (ϋ cs o.1) j)=true:=h1;rw[n]at h1;show h1
   .let h1:aU (bJ rs (ϋ cs o.1) j) (bJ rs (ϋ cs o.1) i)=false:=h1;rw[p,B]at h1;simpa using h1
  |false=>
   rw[hu]at f;obtain h1|⟨h1,_⟩:=f
   .let h1:aU (bJ rs (ϋ cs o.1) j) (bJ rs (ϋ cs o.1) i)=true:=h1;rw[p,B]at h1;simpa using h1
   .let h1:aU (bJ rs (ϋ cs o.1) i) (bJ rs (ϋ cs o.1) j)=false:=h1;rw[n]at h1;show h1
def agx{o:Ord}(a:∃c∈cs,c.1=o.1)(l:∀r∈rs,ϙ cs r):qy (bJ rs (ϋ cs o.1)):=by
 let f:∀i,ϕ (lK cs o.1) (((rs.getD i (0,[])).2[ϋ cs o.1]?).getD .non):=λi=>by
  by_cases hi:i<rs.length
  .let mi:rs.getD i (0,[])∈rs:=by rw[pC hi];show aeq hi
   cases cY (os:=[o]) (l _ mi) (λp m=>by cases abv.mp m;show a)with|cons h _=>show h
  .let e:rs.getD i (0,[])=(0,[]):=by rw[abJ,am9 ()];rfl
   rw[e];show .inl rfl
 show#[λi=>?_,?_]
 .show pW (jX _);obtain e|⟨_,n,e,_⟩|⟨_,z,e,_⟩:=f i<;>rw[e]
  .show .inl rfl
  .show .inr #[_,rfl]
  .show .inr #[_,rfl]
 .by_cases j:lK cs o.1="number"
  .show .inl λi x h=>?_
   let h:jX (((rs.getD i (0,[])).2[ϋ cs o.1]?).getD .non)=[x]:=h;obtain e|⟨_,n,e,_⟩|⟨g,z,e,_⟩:=f i
   .rw[e]at h;cases h
   .rw[e]at h;cases h;show#[n,rfl]
   .show absurd j g
  .show .inr λi x h=>?_
   let h:jX (((rs.getD i (0,[])).2[ϋ cs o.1]?).getD .non)=[x]:=h;obtain e|⟨g,n,e,_⟩|⟨_,z,e,_⟩:=f i
   .rw[e]at h;cases h
   .show absurd g j
   .rw[e]at h;cases h;show#[z,rfl]
inductive Oc (K:Ϩ) (vs:List V) (H:Hp) (Q:VK) (E:XK):Prop
 |mk (t:δ) (n:Int) (x:V):vs=[.ref t]->H t=some (.tup [.int n,x])->Q (.int n) H->Oc K vs H Q E
def HJ(T:Txt K mg):Def P w K mg base true 1 "number_of" ["told"] (Oc K):=by
 show Δ (N:=["told"]) T.HJ (λ_ _ _ _ _ H vs Q E c h=>?_);intro X _;let#[t,n,x,rfl,a,q]:=h;f_len;show ψ ?_;lk;show Α (ι.of a) (show Θ [V.int n,x] 0=some (V.int n)from rfl) ?_;show q
inductive Rj (K:Ϩ) (vs:List V) (H:Hp) (Q:VK) (E:XK):Prop
 |mk (x:V):vs=[x]->(∀p H',ζ H H'->H p=none->H' p=some (.tup (jX x))->Q (.ref p) H')->Rj K vs H Q E
def DR(T:Txt K mg):Def P w K mg base true 1 "rank_of" ["value"] (Rj K):=by
 show Δ (N:=["value"]) T.DR (λ_ _ _ _ _ H vs Q E c h=>?_);intro X _;let#[x,rfl,q]:=h;let hsz:=ϰ;f_len;show ψ ?_;lk;show Ε (λe=>?_) (λe=>?_)
 .lk;show#[Β,λp a=>?_];subst e;show q p _ (ζ.upd a) a ς
 .lk;show#[Β,λp a=>?_];let ex:jX x=[x]:=by
   cases x with
   |non=>show absurd rfl e
   |_=>rfl
  show q p _ (ζ.upd a) a (by rw[ex];show ς)
inductive DK (K:Ϩ) (vs:List V) (H:Hp) (Q:VK) (E:XK):Prop
 |mk (p:δ) (i:Nat) (up:Bool) (ws:List V) (rs:List Row):vs=[.ref p,.int i,.bl up]->H p=some (.lst ws)->ρ (aQ H) ws rs->rs.length<64->(∀r∈rs,i<r.2.length)->qy (bJ rs i)->H (dN K "sorted_by")=some (.tbl mD)->(∀q pl H',ζ H H'->H pl=none->fG rs.length (jx (!up) λa b=>aU (bJ rs i a) (bJ rs i b)) q->H' pl=some (.lst (dW ws q))->Q (.ref pl) H')->DK K vs H Q E
def G8(T:Txt K mg)(U:fj K mg base "sorted_by"):Def P w K mg base true 6 "sorted_by" ["rows","place","up"] (DK K):=by
 show ajN T.G8 U Tt (λ_ _ _ _ _ _ us hl=>by let#[_,_,_,rfl]:=Yz hl;rfl) (λvs H Q E h=>by let#[p,i,up,ws,rs,rfl,_]:=h;rfl) (λf A outer s H vs Q E Y h=>?_);let#[p,i,up,ws,rs,rfl,hp,G,h64,J,S,hP,q]:=h;let nd:=Tt.nd;let n1:=T.Ir;let L:=G.len;let hsz:=ϰ;w_up;show al6 (c:=iH K "sorted_by") (P:=dN K "sorted_by") (ps:=mD) (j:=3) (qual:="sorted_by.<locals>.rank") (clos:=[("place",s.heap.objs.size+1)]) nd (by rfl) (by rfl) (by rfl) U.code U.bm (by rfl) hP (akT _ _) (by change (Ϫ "sorted_by"++Ϫ ".<locals>.")++Ϫ "rank"=_;fin2) (by rfl) (by rfl) (by rfl) ?_;intro F c' oc doc pm ctv vs t' H1 m hfr Z n ab hq;let#[u1,n]:=n;let hK:∀(X:Cx)(σ:_L.St),X=jd true P w K mg base Z3 "sorted_by" (χ BZ) f (.ref (iH K "sorted_by")) A outer s H E->σ=[some (.ref p),some (.int i),some (.bl up),some (.ref F)]->vC X σ (.ref F) ws H1 (Tg (bJ rs i)):=by
  intro X σ eX ac;subst eX;subst ac;show#[λk v H2 H3 M h=>?_,λk x u ϵ B H2 hx ru M I=>?_]
  .let#[a,e,h]:=h;show#[a,e,M _ _ h]
  .let#[r,D,t,l,rfl,ht,hl]:=G.get hx;let hkl:=(aat.mp D).1;let O:=J r (aaD D);let dJ:=m.trans M;show acC (j:=1) (v:=.ref t) (z:=.int i) (x:="told") (y:="place") I (M _ _ Z) (M _ _ n) ab hq Y.in1.in1.depth (λ_ _ _ _ _=>rfl) (by rfl) (by rfl) (by rfl) (by rfl) (by rfl) (by fin2) (λa ha=>?_) (by rfl) (by rfl) (by rfl) (by rfl) ru ?_
   .let h:=PySem.mem_of_lookup ha;change (a,NameKind.free)∈[(Ϫ "told",NameKind.local),(Ϫ "place",NameKind.free),(Ϫ "rank_of",NameKind.globalImplicit)]at h;obtain e|h:=ϳ.mp h
    .cases e
    .obtain e|h:=ϳ.mp h
     .show congrArg Prod.fst e
     .cases abv.mp h
   .let D1:= @DR P w K mg base T;let hr':=((Y.in1).in1).deeper (W.envX "sorted_by.<locals>.rank" (χ (M4 (ϖ BZ) 0)) B.heap.objs.size F (.ref c') [("place",s.heap.objs.size+1)]);f_len;show ψ ?_;lk;show Α (ι.of (dJ _ _ ht)) (show Θ [V.int r.1,V.ref l] 1=some (V.ref l)from rfl) ?_;lk;show ϊ (η.of (dJ _ _ hl)) (ϒ (aaj O)) ?_;lk;show#[_,rfl,λa H3 s3 ha h3=>?_];show#[s3,a,rfl,?_];rw[h3];unfold bJ;rw[abJ,D];show _=some (HO.tup (jX ((r.2[i]?).getD .non)));rw[aaj O];rfl
 let hu:=Y.in1.in1.units0;change Ι _ _ _ [some (.ref p),some (.int i),some (.bl up),some (.ref F)] H1;w_up;show Μ ?_;lk;cases up with
 |true=>
  walk_at"t";f_len;show ψ ?_;show TX n1 ?_;lk;show#[p,F,ws,_,_,rfl,rfl,η.of (m _ _ hp),(),XJ S,hK _ _ rfl rfl,Xa hu S,λpl H2 qq B g R=>?_];rw[L]at R;show q qq pl _ ((m.trans B).trans (ζ.upd g)) ((m.trans B).free g) R ς
 |false=>
  walk_at"t";show Γ ?_;f_len;show ψ ?_;show amN (b:=true) (by rfl) n1 (by rfl) ?_;lk;show#[rfl,p,F,ws,_,_,rfl,rfl,η.of (m _ _ hp),(),XJ S,hK _ _ rfl rfl,Xa hu S,λpl H2 qq B g R=>?_];rw[L]at R;show q qq pl _ ((m.trans B).trans (ζ.upd g)) ((m.trans B).free g) R ς
def f9(q:δ)(H H':Hp)(v:V)(r:Row):=∃t l,v=.ref t/\H t=none/\H l=none/\l≠q/\H' t=some (.tup [.int r.1,.ref l])/\H' l=some (.lst r.2)
def f9.row(h:f9 q H H' v r):aQ H' v r:=by
 let#[t,l,e,_,_,_,h1,h2]:=h;show#[t,l,e,h1,h2]
def f9.same(h:f9 q H H' v r)(s:ζ H' H2):f9 q H H2 v r:=by
 let#[t,l,e,a,b,c,h1,h2]:=h;show#[t,l,e,a,b,c,s _ _ h1,s _ _ h2]
def f9.turn(h:f9 q H H' v r)(g:H' f=none):f9 f H H' v r:=by
 let#[t,l,e,a,b,c,h1,h2]:=h;show#[t,l,e,a,b,(λz=>by rw[z,g]at h2;cases h2),h1,h2]
inductive Ig (K:Ϩ) (vs:List V) (H:Hp) (Q:VK) (E:XK):Prop
 |mk (c b p:δ) (cs:List θ) (os:List Ord) (rs:List Row):vs=[.ref c,.ref b,.ref p]->Τ H c cs->ϥ H b os->fB H p rs->cs.length<=6->os.length<=6->c7 cs os->rs.length<64->(∀r∈rs,ϙ cs r)->(rs.map Prod.fst).Nodup->H (dN K "sorted_by")=some (.tbl mD)->(∀q ws ls H',ζ H H'->H q=none->H' q=some (.lst ws)->ρ (f9 q H H') ws ls->Line cs os ls->ls.Perm rs->Q (.ref q) H')->Ig K vs H Q E
def Kv(T:Txt K mg)(hN:fj K mg base "sorted_by"):Def P w K mg base true 8 "line_of" ["columns","order","rows"] (Ig K):=by
 show Δ (S:=Wl) T.Kv (λf Ϻ A outer s H vs Q E g h=>?_);let#[c,b,p,cs,os,rs,rfl,hC,#[ov,hb,Z],#[ws,hp,ab],hc6,wN,ac,h64,ae,ai,hP,q]:=h;let nd:=Wl.nd;let n1:=T.Ir;let n2:=T.afd;let n3:=T.jJ;let hwl:=ab.len;let aj:=Z.len;let hsz:=ϰ;let bQ:(["row","values"]:List Str).Nodup:=by fin2
 let D1:= @HJ P w K mg base T;let D2:= @pU P w K mg base T;let D3:Def P w K mg base true 6 "sorted_by" ["rows","place","up"] (DK K):=G8 T hN;w_up;f_tup;show TX n1 ?_;show jP ["row","values"] (σ':=[none,none]) (bN (χ xY)) ?_;lk;show#[p,ws,rfl,η.of hp,(),λτ=>∃o1 o2,τ=[o1,o2],λE2 k u H'=>∃r,rs[k]?=some r/\f9 E2 H H' u r,#[none,none,rfl],λE2 k u H2 H3 ys hE J p=>?_,λfp E2 C s3 H0 k τ x H4 H5 aY hi al Ο O hG=>?_,λq0 H2 us hq0 Y am e2 s2=>?_]
 .let#[r,g,t,l,e,h1,h2,h3,h4,h5]:=p;show#[r,g,t,l,e,h1,h2,h3,J _ _ (λz=>by rw[z,hE]at h4;cases h4) h4,J _ _ h3 h5]
 .let#[o1,o2,rfl]:=al;let#[aJ,rfl]:=hG;let#[r,g,t,l,rfl,ht,hl]:=ab.get aJ;let#[ys,O]:=O;show ao (ι.of (Ο _ _ ht)) (Κ (ω bQ (by rfl) (.inl rfl) (.inr rfl) (Κ (ω bQ (by rfl) (.inl rfl) (.inr rfl) (ak ?_)))));lk;show iJ (.inl (η.of (Ο _ _ hl))) λa Y=>?_
  let#[F,e5]:=Ξ Y (.lst r.2);let nl:a≠E2:=λe=>by rw[e,O]at Y;cases Y
  generalize upd H4 a (.lst r.2)=H5 at F e5⊢;lk;show#[Β,λt2 bY=>?_];let s6:ζ H5 (upd H5 t2 (.tup [.int r.1,.ref a])):=ζ.upd bY;show#[#[_,_,rfl],#[r,g,t2,a,rfl,(Ο.trans F).free bY,Ο.free Y,nl,ς,s6 _ _ e5],F.trans s6]
 let R:ρ (f9 q0 H H2) us rs:=nJ () λk r g=>by
  let J:k<us.length:=by have:=(aat.mp g).1;omega
  let#[r',af,hn]:=am k _ (aaj J);rw[g]at af;cases af;show#[_,aaj J,hn]
 let jG:=R.len;let#[fa,ap,nW]:=ak6 (σ:=[some (.ref c),some (.ref b),some (.ref p),none,none,none]) (X:=jd true P w K mg base Rw "line_of" (χ xY) f Ϻ A outer s H E) (H:=H2) (xs:=us) (KV:=M8 λi=>(rs.getD i (0,[])).1) D1 (g.mono (show 1+2<=7 by decide)) (λi v H H' _ h=>h) (λi x H' hx n=>by
  let#[r,g,t,l,rfl,_,_,_,ht,hl]:=R.get hx;show#[t,r.1,.ref l,rfl,n _ _ ht,ζ.refl _,?_];show V.int r.1=V.int (rs.getD i (0,[])).1;rw[abJ,g];rfl)
 show ajO ap (by rfl) (by decide) ?_;show#[q0,fa,us,_,_,rfl,rfl,η.of e2,(),ajX,nW,aix,λp1 H3 m s3 G L=>?_];rw[jG]at L;let j:ρ (f9 p1 H (upd H3 p1 (.lst (dW us m)))) (dW us m) (jn rs m):=(KC R λi hi=>by rw[jG];show pO L hi).imp λu r z=>((z.same s3).turn G).same (ζ.upd G)
 let y:=ahW (cs:=cs) ai L;let B:=Ru L;let aD:ζ H (upd H3 p1 (.lst (dW us m))):=(s2.trans s3).trans (ζ.upd G);let ar:H p1=none:=(s2.trans s3).free G;let ql:(upd H3 p1 (.lst (dW us m))) p1=some (.lst (dW us m)):=ς;generalize upd H3 p1 (.lst (dW us m))=H4 at j aD ql⊢;generalize dW us m=w1 at j ql;generalize jn rs m=l1 at j y B;w_up;show ai3 (by walk_at"po") (by rfl) (by rfl) n2 (by rfl) ?_;lk;show#[b,ov,rfl,η.of (aD _ _ hb),λi σ H'=>(∃o4 o5 M U a,σ=[some (.ref c),some (.ref b),some (.ref p),some (.ref M),o4,o5]/\ζ H H'/\H M=none/\H' M=some (.lst U)/\ρ (f9 M H H') U a/\Line cs (os.drop (os.length-i)) a/\a.Perm rs),?_,λi σ' H' _ D=>?_,λi x σ' H' hi hx D=>?_,λσ' H' D=>?_]
 .show#[none,none,p1,w1,l1,rfl,aD,ar,ql,j,?_,B];rw[aqF,aqb];show y
 .let#[_,_,_,_,_,_,n,_]:=D;show η.of (n _ _ hb)
 .let#[o4,o5,M,U,a,rfl,n,ag,Gj,hA,hL,Ϟ]:=D;let#[o,ho,t,rfl,ht]:=Z.get hx;let I:=ac o (aaD ho);let hlt:=rH I;let Y:a.length=rs.length:=Ϟ.length_eq;let av:=hA.len;let Eh:∀r∈a,ϙ cs r:=λr g=>ae r (Ϟ.mem_iff.mp g)
  show ao (ι.of (n _ _ ht)) (Κ (ω nd (by rfl) (.inl rfl) (.inl rfl) (Κ (ω nd (by rfl) (.inl rfl) (.inl rfl) (ak ?_)))));f_len;f_tup;lk;show#[c,cs,o.1,rfl,hC.same n,λH5 F=>?_];rw[vf 0 I,akh];lk;show#[M,ϋ cs o.1,o.2,U,a,rfl,F _ _ Gj,hA.imp λu r z=>(z.same F).row,(),λr g=>by have:=(Eh r g).len;omega,agx I Eh,F _ _ (n _ _ hP),λm pl H6 s6 ah L aw=>?_];let zP:=(n.trans F).trans s6;let ax:H pl=none:=(n.trans F).free ah;show#[_,_,pl,dW U m,jn a m,rfl,zP,ax,aw,(KC hA λi hi=>by rw[av];show pO L hi).imp λu r z=>?_,?_,(Ru L).trans Ϟ]
  .show((z.same F).turn ah).same s6
  .let W:os.drop (os.length-(i+1))=o::os.drop (os.length-i):=by
    let J:os.length-(i+1)<os.length:=()
    rw[show ov.length-1-i=os.length-(i+1)by omega]at ho;rw[aeQ J];let e1:=aaj J;rw[ho]at e1;cases e1;rw[show os.length-(i+1)+1=os.length-i by omega]
   rw[W];show ab8 (λo' ay=>by
    obtain rfl|h:=ϳ.mp ay
    .show I
    .show ac _ (adG h)) Eh hL L
 .let#[o4,o5,M,U,a,rfl,n,ag,Gj,hA,hL,Ϟ]:=D;f_len;show ψ ?_;lk;rw[aj,aq9,amf]at hL;show q M U a H' n ag Gj hA hL Ϟ
def pq(h:Χ cs=true):1<=cs.length/\cs.length<=6:=by
 unfold Χ at h;simp only[aaO,decide_eq_true_eq]at h;show h.1.1
inductive WM (K:Ϩ) (vs:List V) (H:Hp) (Q:VK) (E:XK):Prop
 |mk (a:δ) (ns:List Int) (k:Int) (b:δ) (cs:List θ):vs=[.ref a,.int k,.ref b]->η K H a (ns.map V.int)->ns.length<=63->0<=k->k<=40000->Τ H b cs->Χ cs=true->(∀p os H',ζ H H'->H p=none->ϥ H' p os->os.length<=4->c7 cs os->(os.map Prod.fst).Nodup->Q (.ref p) H')->WM K vs H Q E
def CZ(T:Txt K mg):Def P w K mg base true 2 "_law_order" ["_law_script","_law_k","_law_columns_here"] (WM K):=by
 show Δ (S:=Xw) T.CZ (λ_ _ A _ _ H vs Q E hr h=>?_);intro X _;let#[a,ns,k,b,cs,rfl,hS,hl,hk0,hk1,#[vs,hb,G],hok,q]:=h;let nd:=Xw.nd;let n1:=T.oX;let n2:=T.bh;let n3:=T.Bx;let hsz:=ϰ;let D1:= @gQ P w K mg base T;let hvl:=G.len;let#[c1,c6]:=pq hok;let uW:η K H b vs:=η.of hb;k_go;show#[a,ns,k+1,_,rfl,hS,hl,(),(),(),?_];let a0:=aN ns (k+1) (m:=(vs.length:Int)) ();let a1:=aZ ns (k+1) (m:=(vs.length:Int)) ();generalize ϓ ns (k+1) (vs.length:Int)=fs at a0 a1⊢;k_go;show#[Β,λp hp=>?_];let#[W,ep]:=Ξ hp (.lst []);generalize upd H p (.lst [])=H0 at W ep⊢;w_up;show pQ (by walk_at"po") (by rfl) (by rfl) n1 (by rfl) ?_;let an8:=W.seq uW;lk;show xH ?_;lk;let ab:∀x:Int,x=(if(vs.length:Int)+1<5 then(vs.length:Int)+1 else 5)->1<=x/\x<=5:=λx e=>by
  rw[e];split <;>omega
 generalize I:(if(vs.length:Int)+1<5 then(vs.length:Int)+1 else 5)=mm;let#[m1,m5]:=ab mm I.symm;show#[a,ns,k,mm,rfl,W.seq hS,hl,(),(),(),?_];let b0:=aN ns k (m:=mm) ();let b1:=aZ ns k (m:=mm) ();generalize ϓ ns k mm=m at b0 b1⊢;lk;show#[(),(),λi σ H'=>(∃o1 o2,σ=[some (.ref a),some (.int k),some (.ref b),some (.int fs),some (.ref p),o1,o2])/\ζ H H'/\∃os:List Ord,ϥ H' p os/\os.length=i/\c7 cs os/\(os.map Prod.fst).Nodup/\∀o∈os,∃(f q:Nat),f<i/\(fs+(f:Int)) % (vs.length:Int)=(q:Int)/\(cs.map Prod.fst)[q]?=some o.1,
  #[#[none,none,rfl],W,[],#[[],ep,.nil],rfl,λo ho=>by simp at ho,by simp,λo ho=>by simp at ho],λi σ H' hi hP=>?_,λσ H' hP=>?_]
 .let#[#[o1,o2,rfl],B,os,#[ws,g,J],l,n,s,L]:=hP;let hwl:=J.len;let hi':(i:Int)<m:=()
  let ac:=B.seq uW;show ω nd (by rfl) (.inl rfl) (.inl rfl) ?_;k_go;let e0:=ahb (fs+(i:Int)) (show(vs.length:Int)≠0 by omega);let e1:=afs (fs+(i:Int)) (show(0:Int)<(vs.length:Int)by omega);let#[j,ej]:=aa7 e0;rw[ej]at e1⊢;let hj:j<cs.length:=()
  let v:cs[j]?=some cs[j]:=aaj hj;let KH:(cs.map Prod.fst)[j]?=some cs[j].1:=by rw[abI,v];rfl
  let D:∀o∈os,¬o.1=cs[j].1:=λo ho e=>by
   let#[f,q,h1,h2,z]:=L o ho;rw[e, <-KH]at z;let ae:(cs.map Prod.fst).Nodup:=by
    unfold Χ at hok;simp only[aaO,decide_eq_true_eq]at hok;show hok.2
   let M:j<(cs.map Prod.fst).length:=by rw[aaA];show hj
   let af:q<(cs.map Prod.fst).length:=by
    rw[aaj M]at z;show(aat.mp z).1
   rw[aaj M,aaj af]at z;let ag:=(aoj ae).mp (Option.some.inj z);let h5:(fs+(i:Int)) % (vs.length:Int)=(fs+(f:Int)) % (vs.length:Int):=by rw[ej,h2,ag]
   let h6:=Int.emod_eq_emod_iff_emod_sub_eq_zero.mp h5;rw[show fs+(i:Int)-(fs+(f:Int))=(i:Int)-f by omega,anG () (by
    have:mm<=(vs.length:Int)+1:=by rw[<-I];split <;>omega
    omega)]at h6
   omega
  let O:cs[j]∈cs:=aeq hj;let#[cv,gc,t,rfl,ht]:=G.get' v;generalize cs[j]=cc at v O ht KH D;show ϊ ac (ϒ gc) ?_;lk;show Α (ι.of (B _ _ ht)) (show Θ [V.str cc.1,V.str cc.2] 0=some (V.str cc.1)from rfl) ?_;f_len;show aM (bU F.plainAttrs_list F.slot_list_append F.type_list_append (h:=?_));f_are;show#[.inl #[rfl,_,η.of g],?_];lk;show#[a,ns,_,2,rfl,B.seq hS,hl,(),(),by decide,?_];lk;show#[Β,λtp R=>?_];generalize decide (V.int (ϓ ns (k+2+(i:Int)) 2)=V.int 0)=up at R⊢;let Y:ζ H' (upd H' tp (.tup [.str cc.1,.bl up])):=ζ.upd R;let Z:(upd H' tp (.tup [.str cc.1,.bl up])) tp=some (.tup [.str cc.1,.bl up]):=ς;generalize upd H' tp (.tup [.str cc.1,.bl up])=H5 at Y Z⊢;lk;let U:H5 p=some (.lst ws):=Y _ _ g;show dF jY #[p,ws,_,rfl,rfl,U,(),?_];show#[#[_,_,rfl],λd o e=>?_,os++[(cc.1,up)],#[ws++[.ref tp],ς,ρ.app (J.imp λu c x=>?_) (.cons ?_ .nil)],by simp[l],λo ho=>?_,?_,λo ho=>?_]
  .rw[ξ (ϑ e hp)];show Y _ _ (B _ _ e)
  .let#[tq,rfl,hq]:=x;let D:tq≠p:=λe=>by subst e;rw[g]at hq;cases hq
   show#[tq,rfl,by rw[ξ D];show Y _ _ hq]
  .let D:tp≠p:=λe=>by subst e;rw[U]at Z;cases Z
   show#[tp,rfl,by rw[ξ D];show Z]
  .obtain ho|ho:=adb.mp ho
   .show n o ho
   .have :o=(cc.1,up):=by simpa using ho
    subst this;show#[cc,O,rfl]
  .rw[aoR];show apj.mpr #[s,by simp,λx hx y hy e=>?_];let#[o,ho,rfl]:=aa6.mp hx;have:y=cc.1:=by simpa using hy
   show D o ho (by rw[e,this])
  .obtain ho|ho:=adb.mp ho
   .let#[f,q,h1,h2,z]:=L o ho;show#[f,q,(),h2,z]
   .have :o=(cc.1,up):=by simpa using ho
    subst this;show#[i,j,(),ej,KH]
 .let#[#[o1,o2,rfl],B,os,hO,l,n,s,_]:=hP;f_len;show ψ ?_;lk;let hol':os.length=m.toNat:=by simpa using l
  show q p os H' B hp hO () n s
theorem Ua:∀{cs:List θ}{z:Str}{m:Nat}{c:θ},m<ϋ cs z->cs[m]?=some c->¬c.1=z
 |[],_,_,_,h,_=>by simp[ϋ]at h
 |d::r,z,m,c,h,e=>by
  unfold ϋ at h;split at h
  .omega
  .rename_i hd;cases m with
   |zero=>simp at e;subst e;show hd
   |succ m=>show Ua (cs:=r) (m:=m) () (by simpa using e)
def ame(h:∃c∈cs,c.1=z):(cs.map Prod.fst)[ϋ cs z]?=some z:=by
 let#[c,e1,a]:=G3 h;rw[abI,e1, <-a];rfl
def ahN(h:m<ϋ cs z)(e:(cs.map Prod.fst)[m]?=some y):¬y=z:=by
 rw[abI]at e;cases e2:cs[m]? with
 |none=>rw[e2]at e;cases e
 |some c=>
  rw[e2]at e;let a:c.1=y:=by simpa using e
  rw[<-a];show Ua h e2
inductive TF (K:Ϩ) (vs:List V) (H:Hp) (Q:VK) (E:XK):Prop
 |mk (a b:δ) (v:V) (cs:List θ) (os:List Ord) (r:Row):vs=[.ref a,.ref b,v]->Τ H a cs->ϥ H b os->aQ H v r->r.2.length=cs.length->cs.length<=1000->os.length<=1000->c7 cs os->(∀p k H',ζ H H'->H p=none->H k=none->H' p=some (.tup [.ref k,.int r.1])->H' k=some (.lst (Ν cs os r.2))->Q (.ref p) H')->TF K vs H Q E
def uE(T:Txt K mg):Def P w K mg base true 1 "_law_key" ["_law_columns_here","_law_order_here","_law_one"] (TF K):=by
 show Δ (S:=YS) T.uE (λ_ _ _ _ s H vs Q E hr h=>?_);intro X _;let#[a,b,v,cs,os,r,rfl,#[vs,ha,j],#[ws,hb,n],#[t,l,rfl,M,hv],cW,hcl,hol,U,q]:=h;let nd:=YS.nd;let hsz:=ϰ;let ph:(["_law_column"]:List Str).Nodup:=by fin2
 let v8:(["_law_name","_law_up","_law_names_here","_law_one"]:List Str).Nodup:=by fin2
 let W:=j.len;let Y:=n.len;w_up;f_tup;show jP ["_law_column"] (σ':=[none]) (bN (χ yN)) ?_;f_are;show#[a,vs,rfl,η.of ha,(),λz=>∃B,z=[B],λG i u H'=>∃c,cs[i]?=some c/\u=.str c.1,#[none,rfl],λG i u H2 H3 ys _ _ p=>p,λfp G C s3 H0 i z x H4 H3 aY hi f Ο Z hG=>?_,λL H1 ys hL ϻ ab e1 O =>?_]
 .let#[B,rfl]:=f;let#[I,rfl]:=hG;let#[c,hc,t,rfl,M]:=j.get I;show ω ph (by rfl) (.inl rfl) (.inr rfl) ?_;lk;show Α (ι.of (Ο _ _ M)) (show Θ [V.str c.1,V.str c.2] 0=some (V.str c.1)from rfl) ?_;show#[#[_,rfl],#[c,hc,rfl],ζ.refl _]
 let ey:=fD (ys:=cs) (λc=>V.str c.1) (by rw[ϻ,W]) ab;let gD:ys=(cs.map Prod.fst).map V.str:=by rw[ey,aep];rfl
 subst gD;f_len;show ψ ?_;show Ed (dH (by rfl) ?_);show jP ["_law_name","_law_up","_law_names_here","_law_one"] (σ':=[none,none,some (.ref L),some (.ref t)]) (bN (χ yN)) ?_;f_are;show#[b,ws,rfl,η.of (O _ _ hb),(),λz=>∃B o2,z=[B,o2,some (.ref L),some (.ref t)],λG i u H'=>∃o,os[i]?=some o/\u=bW cs r.2 o.1,#[none,none,rfl],λG i u H2 H3 ys _ _ p=>p,λfp G C s3 H0 i z x H7 H8 aY hi f R Z hG=>?_,λD H7 ys hD ac I e7 R=>?_]
 .let#[B,o2,rfl]:=f;let#[I,rfl]:=hG;let#[o,ho,tp,rfl,ae]:=n.get I;let J:=U o (aaD ho);let hlt:=rH J;let g1:r.2[ϋ cs o.1]?=some (bW cs r.2 o.1):=by
   let e:r.2[ϋ cs o.1]?=some (r.2[ϋ cs o.1]'()):=aaj _;unfold bW;rw[e];rfl
  let g:=O.trans R;let Vz:=R _ _ e1;show ao (ι.of (g _ _ ae)) (Κ (ω v8 (by rfl) (.inl rfl) (.inr rfl) (Κ (ω v8 (by rfl) (.inl rfl) (.inr rfl) (ak ?_)))));f_are;f_are;f_are;f_are;show Α (ι.of (g _ _ M)) (show Θ [V.int r.1,V.ref l] 1=some (V.ref l)from rfl) ?_;show bU F.plainAttrs_list F.slot_list_index F.type_list_index (h:=?_);f_are;show#[.inl #[rfl,_,η.of Vz],?_];lk;show alO (η.of Vz) (ame J) (λm y h e=>ahN h e) ?_;show ϊ (η.of (g _ _ hv)) (ϒ g1) ?_;show#[#[_,_,rfl],#[o,ho,rfl],ζ.refl _]
 let ey:=fD (ys:=os) (λo=>bW cs r.2 o.1) (by rw[ac,Y]) I;let gD:ys=Ν cs os r.2:=ey;subst gD;let g:=O.trans R;lk;show Α (ι.of (g _ _ M)) (show Θ [V.int r.1,V.ref l] 0=some (V.int r.1)from rfl) ?_;lk;show#[Β,λp hp=>?_];let s8:ζ H7 (upd H7 p (.tup [.ref D,.int r.1])):=ζ.upd hp;show q p D _ (g.trans s8) (g.free hp) (O.free hD) ς (s8 _ _ e7)
inductive Vs (vs:List V) (H:Hp) (Q:VK) (E:XK):Prop
 |mk (b) (p) (q) (os) (xs) (ys) (n) (k):vs=[.ref b,.ref p,.ref q]->ϥ H b os->jh H p xs n->jh H q ys k->xs.length=os.length->ys.length=os.length->os.length<=4->(∀(i:Nat) x y,xs[i]?=some x->ys[i]?=some y->scalar x=true/\scalar y=true/\aF x y)->(∀H',ζ H H'->Q (.bl (ϣ os xs ys n k)) H')->Vs vs H Q E
def Bl(T:Txt K mg):Def P w K mg base true 1 "_law_is_ahead" ["_law_order_here","_law_one","_law_other"] Vs:=by
 show Δ (S:=Yn) T.Bl (λ_ _ A _ _ H vs Q E hr h=>?_);intro X _;let#[b,p,q,os,xs,ys,n,k,rfl,#[ws,hb,B],#[l,hp,hl],#[m,hq,hm],cW,D,hol,Jw,f]:=h;let nd:=Yn.nd;let n1:=T.oX;let n2:=T.bh;let hsz:=ϰ;let hwl:=B.len;let u:η K H b ws:=η.of hb;w_up;show pQ (by walk_at"po") (by rfl) (by rfl) n1 (by rfl) ?_;lk;show#[(),(),λi σ H'=>(∃L M O o4,σ=[some (.ref b),some (.ref p),some (.ref q),L,M,O,o4])/\H'=H/\∀j x y,j<i->xs[j]?=some x->ys[j]?=some y->x=y,#[#[none,none,none,none,rfl],rfl,λj x y h=>()],λi σ H' hi R=>?_,λσ H' R=>?_]
 .let#[#[L,M,O,o4,rfl],rfl,a]:=R;let U:i<os.length:=()
  let W:os[i]?=some os[i]:=aaj U;let F:xs[i]?=some (xs[i]'()):=aaj _;let G:ys[i]?=some (ys[i]'()):=aaj _;generalize xs[i]'()=x at F;generalize ys[i]'()=y at G;let#[wv,v,t,rfl,g]:=B.get' W;let#[sx,J,I]:=Jw i x y F G;generalize os[i]=o at W g;show ω nd (by rfl) (.inl rfl) (.inl rfl) ?_;k_go;show Α (ι.of hp) (show Θ [V.ref l,V.int n] 0=some (V.ref l)from rfl) ?_;lk;show ϊ (η.of hl) (ϒ F) ?_;k_go;show Α (ι.of hq) (show Θ [V.ref m,V.int k] 0=some (V.ref m)from rfl) ?_;lk;show ϊ (η.of hm) (ϒ G) ?_;f_len;show Μ ?_;lk;show JK (xF sx J) ?_;lk;show je (λh=>?_) (λh=>?_)
  .let Ϲ:¬x=y:=by simpa using h
   let Y:=Pq (n:=n) (k:=k) cW D W F G a Ϲ;let s:∀c:Bool,c=before x y->decide (V.bl c=V.bl o.2)=ϣ os xs ys n k:=λc Z=>by
    rw[Y,Z]
    congr 1
    show propext #[λz=>by injection z,λz=>by rw[z]]
   let fin:∀(c:Bool),c=before x y->Q (.bl (decide (V.bl c=V.bl o.2))) H':=λc Z=>by rw[s c Z];show f H' (ζ.refl _)
   cases x with
   |non=>
    cases y with
    |non=>show absurd rfl Ϲ
    |int j=>
     cbv;show ϊ u (ϒ v) ?_;cbv;show Α (ι.of g) (show Θ [V.str o.1,V.bl o.2] 1=some (V.bl o.2)from rfl) ?_;cbv;show fin _ rfl
    |str z=>
     cbv;show ϊ u (ϒ v) ?_;cbv;show Α (ι.of g) (show Θ [V.str o.1,V.bl o.2] 1=some (V.bl o.2)from rfl) ?_;cbv;show fin _ rfl
    |_=>show absurd J aaF
   |int i1=>
    cases y with
    |non=>
     cbv;show ϊ u (ϒ v) ?_;cbv;show Α (ι.of g) (show Θ [V.str o.1,V.bl o.2] 1=some (V.bl o.2)from rfl) ?_;cbv;show fin _ rfl
    |int j=>
     cbv;show ϊ u (ϒ v) ?_;cbv;show Α (ι.of g) (show Θ [V.str o.1,V.bl o.2] 1=some (V.bl o.2)from rfl) ?_;cbv;show fin _ rfl
    |str z=>obtain z|z|⟨_,_,_,z⟩|⟨_,_,z,_⟩:=I<;>cases z
    |_=>show absurd J aaF
   |str z1=>
    cases y with
    |non=>
     cbv;show ϊ u (ϒ v) ?_;cbv;show Α (ι.of g) (show Θ [V.str o.1,V.bl o.2] 1=some (V.bl o.2)from rfl) ?_;cbv;show fin _ rfl
    |int j=>obtain z|z|⟨_,_,z,_⟩|⟨_,_,_,z⟩:=I<;>cases z
    |str z=>
     cbv;show ϊ u (ϒ v) ?_;cbv;show Α (ι.of g) (show Θ [V.str o.1,V.bl o.2] 1=some (V.bl o.2)from rfl) ?_;cbv;show fin _ rfl
    |_=>show absurd J aaF
   |_=>show absurd sx aaF
  .let he:x=y:=by simpa using h
   show Γ #[#[_,_,_,_,rfl],rfl,λj x' y' hj e1 s=>?_];by_cases e:j=i
   .subst e;rw[F]at e1;rw[G]at s;cases e1;cases s;show he
   .show a j x' y' () e1 s
 .let#[#[L,M,O,o4,rfl],rfl,a]:=R;f_len;show ψ ?_;lk;show Α (ι.of hp) (show Θ [V.ref l,V.int n] 1=some (V.int n)from rfl) ?_;lk;show Α (ι.of hq) (show Θ [V.ref m,V.int k] 1=some (V.int k)from rfl) ?_;lk;rw[<-Su (n:=n) (k:=k) cW D λj x y hj e1 s=>a j x y (by simp;omega) e1 s];show f _ (ζ.refl _)
def aW(B:Bk)(row:Int)(o:Option (List V)):Bk:=
 {B with rows:=(match o with|none=>fQ B.rows row|some xs=>cG B.rows row xs),touched:=(match o with|none=>fQ B.touched row|some _=>cG B.touched row (B.now+1)),
         done:=B.done++[#[B.now+1,row,Υ B.rows row,o]],now:=B.now+1}
def rQ(B:Bk):Prop:=B.rows.length<1000000/\B.touched.length<1000000/\B.done.length<1000000
def j7(B:Bk):=∀i,Υ B.rows i=none↔ Υ B.touched i=none
abbrev cB(mg:Str->Option ε):δ:=ο mg "Book"
inductive lH (mg:Str->Option ε) (vs:List V) (H:Hp) (Q:VK) (E:XK):Prop
 |mk (A:BA) (B:Bk) (row:Int) (v:V) (o:Option (List V)):vs=[.ref A.b,.int row,v]->Ω (cB mg) H A B->nH H v o->(o=none->Υ B.rows row≠none/\ Υ B.touched row≠none)->rQ B->(∀H',Out A.fp H H'->Ω (cB mg) H' A (aW B row o)->Q (.int (B.now+1)) H')->lH mg vs H Q E
def K5(T:Txt K mg):FD P w K mg base true 1 "do" "Book.do" xG ["self","row","values"] (lH mg):=by
 show bC (S:=Z1) (λf Ϻ A' outer s H vs Q E hr h=>?_);intro X _;let#[A,B,row,v,o,rfl,m,Y,Z,#[z1,z2,z3],q]:=h;let nd:=Z1.nd;let hsz:=ϰ;let g:=T.aG;let a1:=T.uF;let a2:=T.Hd;let a3:=T.YB;let L:=T.Kw;let hu:_+1<cLine:=ad1 (aeA (by decide:1<=64) _) hr.units;let kR:=m.rows;let#[Ϸ,er,hR]:=id kR;let#[tvs,et,hT]:=m.touched;let#[ds,ed,hD]:=m.done;let kI:=m.ins;w_up;f_tup;show agc hu (by constructor<;>rfl) ?_;show bD ?_;f_are;show#[A.b,_,_,_,_,rfl,kI,g,a1,rfl,A.r,rfl,.inl #[_,.inl er],?_];f_are;show#[_,Ϝ.k (k:=Sum.inl row) er,?_];let hw:nH H ((Ϣ Ϸ (Sum.inl row)).getD .non) (Υ B.rows row):=by
  obtain⟨e1,i⟩|⟨u,x,e1,i,r⟩:=iW hR row
  .rw[e1,i];rfl
  .rw[e1,i];show r
 generalize(Ϣ Ϸ (Sum.inl row)).getD .non=M at hw⊢;w_up;show amF ?_;f_are;show#[A.b,_,_,_,_,rfl,kI,g,L,rfl,?_];f_are;show#[_,_,rfl,rfl,_,_,kI,by show 6<1000;decide,?_];let k1:=m.ahw B.known (B.now+1);let O:Out A.fp H _:=Out.upd (H:=H) (a:=A.b) (o:=.ins (cB mg) A.dx [("heads",.ref A.h),("rows",.ref A.r),("touched",.ref A.t),("done",.ref A.d),("known",.int B.known),("now",.int (B.now+1))]) (by simp[BA.fp]);change Ι _ _ _ _ (upd H A.b (.ins (cB mg) A.dx [("heads",.ref A.h),("rows",.ref A.r),("touched",.ref A.t),("done",.ref A.d),("known",.int B.known),("now",.int (B.now+1))]));generalize upd H A.b _=H1 at k1 O⊢;let lF:=k1.ins;let fin:∀(H2:Hp)(n:Bk),Out A.fp H H2->Ω (cB mg) H2 A n->n={aW B row o with done:=B.done}->Ι X ((ϖ xG).drop 3) {nx:=λ_ H'=>Q .non H',rt:=Q} [some (.ref A.b),some (.int row),some v,some M] H2:=by
  intro H2 n j k2 i;let p:n.now=B.now+1/\n.done=B.done:=by rw[i];show#[rfl,rfl]
  let l:=k2.ins;let#[RK,Aj,y]:=k2.done;let st:=m.tup j;let ab:=hw.stay st;let GX:=Y.stay st;let ϻ:=y.len;rw[p.2]at ϻ y;rw[p.1]at l;w_up;show aM (bU F.plainAttrs_list F.slot_list_append F.type_list_append (h:=?_));show bD ?_;f_are;show#[A.b,_,_,_,_,rfl,l,g,a3,rfl,.inl #[rfl,_,η.of Aj],?_];cbv;show bD ?_;f_are;show#[A.b,_,_,_,_,rfl,l,g,L,rfl,?_];cbv;show#[Β,λt ht=>?_];let#[z,D]:=Ξ ht (.tup [.int (B.now+1),.int row,M,v]);generalize upd H2 t (.tup [.int (B.now+1),.int row,M,v])=G at z D⊢;let k3:=k2.same z;cbv;show dF jY #[A.d,_,_,rfl,rfl,z _ _ Aj,(),?_];let um:ρ (qx G) (RK++[V.ref t]) (B.done++[#[B.now+1,row,Υ B.rows row,o]]):=ρ.app (ρ.imp (λv d h=>h.stay λb ys e=>z _ _ e) y) (.cons #[t,M,v,rfl,D,ab.stay λb ys e=>z _ _ e,GX.stay λb ys e=>z _ _ e] .nil);let R:=k3.abp um;let o4:Out A.fp H _:=(j.trans (Out.of z)).trans (Out.upd (H:=G) (a:=A.d) (o:=.lst (RK++[V.ref t])) (by simp[BA.fp]));generalize upd G A.d _=H4 at R o4⊢;let ac:=R.ins;f_len;show ψ ?_;show bD ?_;f_are;show#[A.b,_,_,_,_,rfl,ac,g,L,rfl,?_];let e4:{n with done:=B.done++[#[B.now+1,row,Υ B.rows row,o]]}=aW B row o:=by rw[i];rfl
  rw[e4]at R;have:=q H4 o4 R;show Q (.int n.now) H4;rw[p.1];show this
 let#[U,Hn,W]:=k1.rows;let#[aoS,et1,ae]:=k1.touched;let af:=W.len;let htl:=ae.len;let z1':U.length<1000000:=by rw[af];show z1
 cases o with
 |none=>
  let ag:v=.non:=Y;subst ag;let#[g1,g2]:=Z rfl;w_up;cbv;show Jv ?_;show bD ?_;f_are;obtain⟨_,i⟩|⟨u,x,e1,_,_⟩:=iW W row
  .show absurd i g1
  show#[A.b,_,_,_,_,rfl,lF,g,a1,rfl,A.r,rfl,.inl #[_,.inl Hn],?_];f_are;show#[U,Sum.inl row,u,Hn,rfl,e1,?_];let k2:=k1.qJ (Jq W row);let j:Out A.fp H _:=O.trans (Out.upd (H:=H1) (a:=A.r) (o:=.dK (fY U (Sum.inl row))) (by simp[BA.fp]));generalize upd H1 A.r _=H2 at k2 j⊢;let l:=k2.ins;let#[I,D,c]:=k2.touched;f_len;show aM (Jv ?_);show bD ?_;f_are;obtain⟨_,i⟩|⟨u2,x2,e3,_,_⟩:=iW c row
  .show absurd i g2
  show#[A.b,_,_,_,_,rfl,l,g,a2,rfl,A.t,rfl,.inl #[_,.inl D],?_];f_are;show#[I,Sum.inl row,u2,D,rfl,e3,?_];let k3:=k2.aaz (Jq c row);let J:Out A.fp H _:=j.trans (Out.upd (H:=H2) (a:=A.t) (o:=.dK (fY I (Sum.inl row))) (by simp[BA.fp]));generalize upd H2 A.t _=G at k3 J⊢;show fin G _ J k3 rfl
 |some xs=>
  let#[t,rfl,ht]:=id Y;w_up;cbv;show mq hu ?_;f_are;show bD ?_;f_are;show#[A.b,_,_,_,_,rfl,lF,g,a1,rfl,?_];f_are;show#[A.r,_,rfl,fH.k (k:=Sum.inl row) Hn (),?_];let k2:=k1.qJ (rF W row (v:=.ref t) (x:=xs) #[t,rfl,m.tup O _ _ ht]);let j:Out A.fp H _:=O.trans (Out.upd (H:=H1) (a:=A.r) (o:=.dK (putK U (Sum.inl row) (.ref t))) (by simp[BA.fp]));generalize upd H1 A.r _=H2 at k2 j⊢;let l:=k2.ins;let#[I,D,c]:=k2.touched;let z2':I.length<1000000:=by rw[c.len];show z2
  f_len;show mq hu ?_;show bD ?_;f_are;show#[A.b,_,_,_,_,rfl,l,g,L,rfl,?_];show bD ?_;f_are;show#[A.b,_,_,_,_,rfl,l,g,a2,rfl,?_];f_are;show#[A.t,_,rfl,fH.k (k:=Sum.inl row) D (),?_];let k3:=k2.aaz (rF c row (v:=.int (B.now+1)) (x:=B.now+1) rfl);let J:Out A.fp H _:=j.trans (Out.upd (H:=H2) (a:=A.t) (o:=.dK (putK I (Sum.inl row) (.int (B.now+1)))) (by simp[BA.fp]));generalize upd H2 A.t _=G at k3 J⊢;show fin G _ J k3 rfl
def wR(T:Txt K mg):Def P w K mg base true 1 "is_whole" ["value"] V0:=by
 show Δ (N:=["value"]) T.wR (λ_ _ _ _ _ H vs Q E a h=>?_);intro X _;let#[v,rfl,hs,q]:=h;let n1:=T.ux;let n2:=T.zQ;let c:=T.Vw;f_len;show ψ ?_;cases v with
 |non=>
  cbv;show q
 |int i=>
  cbv;show q
 |str z=>
  cbv;show q
 |_=>cases hs
def Hr(T:Txt K mg):Def P w K mg base true 2 "is_number_value" ["value"] aaB:=by
 show Δ (N:=["value"]) T.Hr (λ_ _ _ _ _ H vs Q E a h=>?_);intro X _;let#[v,rfl,hs,q]:=h;let c:=T.X4;let f:= @wR P w K mg base T;f_len;show ψ ?_;cbv;show#[v,rfl,hs,?_];cbv;cases v with
 |int i=>
  show je (λ_=>?_) (λh=>by cases h);cbv;show Ε (λh=>?_) (λh=>?_)
  .cbv;let e:isNum (.int i)=decide (i<=1000000000000000000):=by unfold isNum;simp[h]
   rw[e]at q;show q
  .let e:isNum (.int i)=false:=by unfold isNum;simp[h]
   rw[e]at q;show q
 |non=>show je (λh=>by cases h) (λ_=>q)
 |str z=>show je (λh=>by cases h) (λ_=>q)
 |_=>cases hs
def Hf(T:Txt K mg):Def P w K mg base true 3 "is_value" ["kind","value"] W2:=by
 show Δ (N:=["kind","value"]) T.Hf (λ_ _ _ _ _ H vs Q E g h=>?_);intro X _;let#[k,v,rfl,hs,f,q]:=h;let i:=T.Kz;let j:= @Hr P w K mg base T;let l:= @Br P w K mg base T;w_up;cbv;show Ε (λh=>?_) (λh=>?_)
 .subst h;cbv;show q H (ζ.refl _)
 .cbv;let a:isVal k v=if k="number" then isNum v else iz v:=by cases v<;>first|rfl|show absurd rfl h
  show Ε (λh2=>?_) (λh2=>?_)
  .let c:k="number":=by cases h2;rfl
   rw[if_pos c]at a;rw[a]at q;cbv;show#[v,rfl,hs,q H (ζ.refl _)]
  .let c:¬k="number":=λe=>h2 (by rw[e])
   rw[if_neg c]at a;rw[a]at q;cbv;show#[v,rfl,hs,f,q]
def CP(T:Txt K mg):Def P w K mg base true 2 "is_name" ["name"] LQ:=by
 show Δ (N:=["name"]) T.CP (λ_ _ _ _ _ H vs Q E c h=>?_);intro X _;let#[z,rfl,a,q]:=h;let n1:=T.bh;let e:=T.ah3;let f:=T.amx;let hsz:=ϰ;let g:= @vm P w K mg base T;f_len;show ψ ?_;cbv;unfold isName at q;show Ε (λh=>?_) (λh=>?_)
 .cbv;show Ε (λh2=>?_) (λh2=>?_)
  .cbv;rw[decide_eq_true (show 1<=z.length/\z.length<=8 by omega)]at q;show#[z,_,rfl,a,q]
  .rw[decide_eq_false (show ¬(1<=z.length/\z.length<=8)by omega)]at q;show q H (ζ.refl _)
 .rw[decide_eq_false (show ¬(1<=z.length/\z.length<=8)by omega)]at q;cbv;show q H (ζ.refl _)
def ajw(k a b:Str):jc (.str k) [.str a,.str b]=decide (k=a\/k=b):=by
 let e:∀a:Str,(a==k)=decide (k=a):=λa=>by rw[aex,beq_iff_eq,decide_eq_true_iff];show eq_comm
 show((a==k)||((b==k)||false))=_;rw[e,e,aqs,ar7]
def FW(T:Txt K mg):Def P w K mg base true 3 "ask_columns" ["columns"] (zR (.ref (ο mg "NoColumns"))):=by
 show Δ (S:=Lr) T.FW (λ_ _ _ _ _ H vs Q E hr h=>?_);intro X _;let#[a,cs,rfl,#[vs,F,f],hcl,G,q]:=h;let n1:=T.bh;let n2:=T.U7;let g1:=T.ajk;let g2:=T.Kz;let g3:=T.aas;let nd:=Lr.nd;let hsz:=ϰ;let sa:η K H a vs:=.inl (.inl F);let jV:=f.len;let D1:= @CP P w K mg base T;let W:(["name","kind"]:List Str).Nodup:=by fin2
 let hok:Χ cs=true:=by
  cases e:Χ cs with
  |true=>rfl
  |false=>
   have:=q H (ζ.refl _);rw[e]at this;show this.elim
 rw[hok]at q;unfold Χ at hok;rw[aaO,aaO,decide_eq_true_eq,ack,decide_eq_true_eq]at hok;let#[#[hl6,s],I]:=hok;w_up;cbv;show Ε (λh1=>?_) (λh1=>absurd h1 ());cbv;show jl (λh2=>absurd h2 ()) (λh2=>?_);show Γ ?_;w_up;show rP (by walk_at"po") (by rfl) (by intro _;rfl) ?_;cbv;show#[a,vs,rfl,sa,λi σ H'=>(∃l m J,σ=[some (.ref a),l,m,J])/\ζ H H',#[#[none,none,none,rfl],ζ.refl _],λi σ H' hi v=>.inl (.inl (v.2 _ _ F)),λi x σ H' y v=>?_,λσ H' v=>?_]
 .let#[#[l,m,J,rfl],n]:=v;let#[c,L,t,rfl,M]:=f.get y;let z:=aaD L;let O:=G c z;let g:=s c z;rw[aaO]at g;show ao (ι.of (n _ _ M)) (Κ (ω nd (by rfl) (.inl rfl) (.inl rfl) (Κ (ω nd (by rfl) (.inl rfl) (.inl rfl) (ak ?_)))));w_up;cbv;show#[c.1,rfl,O.1,λH2 B =>?_];rw[g.1];cbv;let j:=n.trans B;show#[Β,λp hp=>?_];let Ο :=j.trans (ζ.upd (o:=.tup [.str "number",.str "text"]) hp);show Vh (ι.of ς) ?_;rw[show jc (.str c.2) [.str "number",.str "text"]=nY c.2 from ajw _ _ _,g.2];cbv;show#[#[_,_,_,rfl],Ο]
 .let#[#[l,m,J,rfl],n]:=v;w_up;show vV ["name","kind"] (σ':=[none,none]) (bN (χ HB)) nd ?_;cbv;show#[a,vs,rfl,.inl (.inl (n _ _ F)),(),λY=>∃l m,Y=[l,m],λR i u H'=>∃c,cs[i]?=some c/\u=.str c.1,#[none,none,rfl],λR i u H2 H3 ys _ _ p=>p,λfp R C s3 H0 i Y x H2 H3 hE hi U B hys hG=>?_,λR H2 ys hE hl y Z B =>?_]
  .let#[l,m,rfl]:=U;let#[y,rfl]:=hG;let#[c,L,t,rfl,M]:=f.get y;show ao (ι.of (B _ _ (n _ _ M))) (Κ (ω W (by rfl) (.inl rfl) (.inr rfl) (Κ (ω W (by rfl) (.inl rfl) (.inr rfl) (ak ?_)))));cbv;show#[#[_,_,rfl],#[c,L,rfl],ζ.refl _]
  .let ey:=fD (ys:=cs) (λc=>V.str c.1) (by rw[hl,jV]) y;let gD:ys=(cs.map Prod.fst).map V.str:=by rw[ey,aep];rfl
   subst gD;let D:(cs.map Prod.fst).length<=4000:=by simp;omega
   let j:=n.trans B;f_len;cbv;show RV (by rfl) (η.of Z) D λS hS=>?_
   cbv;show VJ ς D ?_;cbv;show vG (.inl (η.of ((ζ.upd hS) _ _ Z))) ?_;cbv;show jl (λh5=>(h5 ?_).elim) (λh5=>?_)
   .rw[(JZ _ (cs.map Prod.fst) rfl).mpr I];simp
   .show Γ (q _ (j.trans (ζ.upd hS)))
def Lb(T:Txt K mg):Def P w K mg base true 2 "is_row_number" ["row"] WW:=by
 show Δ (N:=["row"]) T.Lb (λ_ _ _ _ _ H vs Q E c h=>?_);intro X _;let#[v,rfl,a,q]:=h;let e:=T.Ye;let f:= @wR P w K mg base T;f_len;show ψ ?_;cbv;show#[v,rfl,a,?_];cases v with
 |int i=>
  change Q (.bl (decide (0<=i/\i<=1000000000))) H at q;rw[show qQ (V.int i)=true from rfl];cbv;show Ε (λh=>?_) (λh=>?_)
  .cbv;rw[show decide (0<=i/\i<=1000000000)=decide (i<=1000000000)from by rw[decide_eq_decide];omega]at q;show q
  .cbv;rw[decide_eq_false (show ¬(0<=i/\i<=1000000000)by omega)]at q;show q
 |non=>
  rw[show qQ V.non=false from rfl];cbv;show q
 |str z=>
  rw[show qQ (V.str z)=false from rfl];cbv;show q
 |_=>cases a
theorem X5:∀{cs:List θ}{xs:List V}{bs:List Bool},xs.length=cs.length->bs.length=cs.length->(∀(i:Nat)(b:Bool),bs[i]?=some b->∃c x,cs[i]?=some c/\xs[i]?=some x/\b=isVal c.2 x)->bs.all id=nO cs xs
 |[],[],[],_,_,_=>rfl
 |c::cs,x::xs,b::bs,h1,h2,h=>by
  let#[g,j,e1,a,f]:=h 0 b rfl;cases e1;cases a;rw[aqR];unfold nO;rw[X5 (by simpa using h1) (by simpa using h2) λi b e=>by simpa using h (i+1) b (by simpa using e)];rw[f];rfl
 |[],_::_,_,h1,_,_=>by simp at h1
 |_::_,[],_,h1,_,_=>by simp at h1
 |[],[],_::_,_,h2,_=>by simp at h2
 |_::_,_::_,[],_,h2,_=>by simp at h2
theorem Zk:∀{xs:List V},(∀(i:Nat) v,xs[i]?=some v->∃b,v=.bl b)->∃bs:List Bool,xs=bs.map V.bl
 |[],_=>#[[],rfl]
 |x::xs,h=>by
  let#[b,rfl]:=h 0 x rfl;let#[bs,rfl]:=Zk (xs:=xs) λi v e=>h (i+1) v (by simpa using e)
  show#[b::bs,rfl]
def Dm(T:Txt K mg):Def P w K mg base true 4 "is_row" ["columns","row","values"] Z9:=by
 show Δ (S:=WY) T.Dm (λ_ _ _ _ _ H vs Q E hr h=>?_);intro X _;let#[a,cs,v,b,xs,rfl,#[vs,G,f],Y,Z,I,m,q]:=h;let n1:=T.bh;let n2:=T.Rt;let n3:=T.HQ;let hsz:=ϰ;let nd:=WY.nd;let sa:η K H a vs:=.inl (.inl G);let sb:η K H b xs:=.inl (.inl I);let jV:=f.len;let D1:= @Lb P w K mg base T;let D2:= @Hf P w K mg base T;let J:(["column","value"]:List Str).Nodup:=by fin2
 unfold zc at q;w_up;cbv;show#[v,rfl,Z,?_];cbv;show akX (λh1=>?_) (λh1=>?_)
 .rw[h1,anQ,anQ]at q;cbv;show q H (ζ.refl _)
 .rw[h1,alm]at q;cbv;show jl (λh2=>?_) (λh2=>?_)
  .let j:¬xs.length=cs.length:=λe=>h2 (by rw[jV,e])
   rw[decide_eq_false j,anQ]at q;cbv;show q H (ζ.refl _)
  .let j:xs.length=cs.length:=by
    have:(xs.length:Int)=vs.length:=by injection h2
    omega
   rw[decide_eq_true j,alm]at q;show Γ ?_;f_len;show ψ ?_;f_are;f_are;show UG ["column","value"] (σ':=[none,none]) (bN (χ Ja)) n3 ?_;cbv;show#[a,b,vs,xs,rfl,rfl,G,I,(),λL=>∃M O,L=[M,O],λn i u H'=>∃c x,cs[i]?=some c/\xs[i]?=some x/\u=.bl (isVal c.2 x),#[none,none,rfl],λn i u H2 H3 ys _ _ p=>p,λfp n C s3 H0 i L x H2 H3 hE hi s z hys hG=>?_,λn H2 ys hE hl R B z=>?_]
   .let#[M,O,rfl]:=s;let#[l,y,u,rfl,hT,rfl,hy,U]:=hG;let#[c,hc,t,rfl,ht]:=f.get hy;let D :ζ H2 (upd H2 l (.tup [.ref t,u])):=ζ.upd hT;let W:(upd H2 l (.tup [.ref t,u])) l=some (.tup [.ref t,u]):=ς;generalize upd H2 l (.tup [.ref t,u])=H4 at D W⊢;show ao (ι.of W) (Κ (ω J (by rfl) (.inl rfl) (.inr rfl) (Κ (ω J (by rfl) (.inl rfl) (.inr rfl) (ak ?_)))));cbv;show Α (ι.of (D _ _ (z _ _ ht))) (show Θ [V.str c.1,V.str c.2] 1=some (V.str c.2)from rfl) ?_;cbv;let g:=m u (aaD U);show#[c.2,u,rfl,g.1,g.2,λH5 cQ=>#[#[_,_,rfl],#[c,u,hc,U,rfl],D.trans cQ]]
   .let#[bs,rfl]:=Zk λi v e=>by
     let#[c,x,_,_,e]:=R i v e;show#[_,e]
    let F:bs.length=cs.length:=by rw[aaA]at hl;omega
    let eb:bs.all id=nO cs xs:=X5 j F λi b e=>by
     let#[c,x,e1,B,e3]:=R i (.bl b) (by rw[abI,e];rfl);show#[c,x,e1,B,by injection e3]
    cbv;show Vd (by rfl) (η.of B) ?_;rw[eb];show q _ z
def vM(cs:List θ)(row:Int)(xs:List V):Prop:=0<=row/\row<=1000000000/\ρ (λc x=>ϕ c.2 x) cs xs
def Dk:∀c∈SG,c∈uw.cps.toList:=by fin2
def ϕ.is(h:ϕ a v):isVal a v=true/\scalar v=true/\short v:=by
 obtain rfl|⟨h1,i,rfl,h2,e⟩|⟨h1,z,rfl,h2,e⟩:=h
 .show#[rfl,rfl,trivial]
 .show#[?_,rfl,trivial];show(if a="number" then isNum (.int i)else iz (.int i))=true;rw[if_pos h1];show decide_eq_true #[h2,e]
 .show#[?_,rfl,by show z.length<=4000;omega];show(if a="number" then isNum (.str z)else iz (.str z))=true;rw[if_neg h1];show(decide (z.length<=20)&&eV z _)=true;rw[decide_eq_true h2,alm];show ack.mpr λc f=>decide_eq_true (Dk c (e c f))
def Rq(h:ρ (λ(c:θ) x=>ϕ c.2 x) cs xs):nO cs xs=true/\∀x∈xs,scalar x=true/\short x:=by
 induction h with
 |nil=>show#[rfl,λx a=>by simp at a]
 |cons h _ f=>
  show#[?_,λx a=>?_]
  .show(isVal _ _&&nO _ _)=true;rw[h.is.1,f.1];rfl
  .obtain e|e:=ϳ.mp a
   .rw[e];show h.is.2
   .show f.2 x e
def vM.ok(h:vM cs row xs):zc cs (.int row) xs=true:=by
 unfold zc;rw[(Rq h.2.2).1,decide_eq_true h.2.2.len.symm];show(decide (0<=row/\row<=1000000000)&&true&&true)=true;rw[decide_eq_true #[h.1,h.2.1]];rfl
inductive rY (mg:Str->Option ε) (vs:List V) (H:Hp) (Q:VK) (E:XK):Prop
 |mk (A:BA) (B:Bk) (row:Int) (b:δ) (xs:List V):vs=[.ref A.b,.int row,.ref b]->Ω (cB mg) H A B->H b=some (.lst xs)->B.heads.length<=6->vM B.heads row xs->(∀H',ζ H H'->Q .non H')->rY mg vs H Q E
def Vm(T:Txt K mg):FD P w K mg base true 5 "ask_row" "Book.ask_row" PX ["self","row","values"] (rY mg):=by
 show bC (N:=["self","row","values"]) (λf m n outer s H vs Q E p h=>?_);intro X _;let#[A,B,row,b,xs,rfl,a,e,u,c,q]:=h;let v:= @Dm P w K mg base T;let g:=T.aG;let i:=T.Ex;let j:=a.ins;f_len;cbv;show bD ?_;f_are;show#[A.b,_,_,_,_,rfl,j,g,i,rfl,?_];cbv;show#[A.h,B.heads,.int row,b,xs,rfl,a.heads,(),rfl,e,(Rq c.2.2).2,λH' l=>?_];rw[c.ok];cbv;show q H' l
inductive lQ (mg:Str->Option ε) (vs:List V) (H:Hp) (Q:VK) (E:XK):Prop
 |mk (A:BA) (B:Bk) (row:Int):vs=[.ref A.b,.int row]->Ω (cB mg) H A B->0<=row->row<=1000000000->(Υ B.rows row=none->False)->(Υ B.rows row≠none->Q .non H)->lQ mg vs H Q E
def DG(T:Txt K mg):FD P w K mg base true 3 "ask_there" "Book.ask_there" Oz ["self","row"] (lQ mg):=by
 show bC (N:=["self","row"]) (λf v y outer s H vs Q E g h=>?_);intro X _;let#[A,B,row,rfl,e,z,D,a,q]:=h;let i:=T.aG;let j:=T.uF;let l:=e.ins;let m:_+1<cLine:=ad1 (aeA (by decide:1<=64) _) g.units;let#[Ϸ,n,p]:=e.rows;f_len;cbv;show bD ?_;f_are;show#[A.b,_,_,_,_,rfl,l,i,j,rfl,?_];show alv m (Ϝ.k (k:=Sum.inl row) n) ?_;obtain⟨e1,c⟩|⟨u,x,e1,c,_⟩:=iW p row
 .rw[show(Ϣ Ϸ (Sum.inl row)).isSome=false by rw[e1];rfl,Bool.not_false];show(a c).elim
 .rw[show(Ϣ Ϸ (Sum.inl row)).isSome=true by rw[e1];rfl,Bool.not_true];cbv;show q (by rw[c];simp)
inductive qg (mg:Str->Option ε) (vs:List V) (H:Hp) (Q:VK) (E:XK):Prop
 |mk (A:BA) (B:Bk) (row:Int) (b:δ) (xs:List V):vs=[.ref A.b,.int row,.ref b]->Ω (cB mg) H A B->H b=some (.lst xs)->B.heads.length<=6->vM B.heads row xs->rQ B->(Υ B.rows row≠none->False)->(Υ B.rows row=none->∀H',Out A.fp H H'->Ω (cB mg) H' A (aW B row (some xs))->Q (.int (B.now+1)) H')->qg mg vs H Q E
theorem Xj(h:η X.K H p ys)(g:∀l,H l=none->Q (.ref l) (upd H l (.tup ys))):CL X (.type "tuple") [.ref p] H Q:=fM adu #[p,ys,rfl,.inl #[h,g]]
def aaL(T:Txt K mg):FD P w K mg base true 6 "put" "Book.put" Zj ["self","row","values"] (qg mg):=by
 show bC (N:=["self","row","values"]) (λf S U outer s H vs Q E a h=>?_);intro X _;let#[A,B,row,b,xs,rfl,c,p,z,D,g,i,q]:=h;let M1:aH P w K mg base true 5 (cB mg) "ask_row" ["self","row","values"] (rY mg):=(Vm T).meth T.aG T.aag;let M2:aH P w K mg base true 1 (cB mg) "do" ["self","row","values"] (lH mg):=(K5 T).meth T.aG T.JS;let F:=T.aG;let n1:=T.Fj;let G:=T.uF;let I:_+1<cLine:=ad1 (aeA (by decide:1<=64) _) a.units;w_up;show aM ?_;show dR (pl:=_) a Ϡ (h:=?_);f_are;show#[A.b,cB mg,A.dx,_,true,5,_,rY mg,rfl,c.ins,by rfl,M1,by decide,id,?_];cbv;show#[A,B,row,b,xs,rfl,c,p,z,D,λH1 j=>?_];let k1:=c.same j;let v:=k1.ins;let l:=j _ _ p;let#[Ϸ,J,L]:=k1.rows;w_up;cbv;show bD ?_;f_are;show#[A.b,_,_,_,_,rfl,v,F,G,rfl,?_];show Dg I (Ϝ.k (k:=Sum.inl row) J) ?_;obtain⟨e1,m⟩|⟨u,x,e1,m,_⟩:=iW L row
 .rw[show(Ϣ Ϸ (Sum.inl row)).isSome=false by rw[e1];rfl];cbv;show dR (pl:=_) a Ϡ (h:=?_);f_are;show#[A.b,cB mg,A.dx,_,true,1,_,lH mg,rfl,v,by rfl,M2,by decide,id,?_];cbv;show Xj (η.of l) λt M=>?_
  let#[n,y]:=Ξ M (.tup xs);generalize upd H1 t (.tup xs)=H2 at n y⊢;cbv;show#[A,B,row,.ref t,some xs,rfl,k1.same n,#[t,rfl,y],(λe=>by cases e),g,λO R k3=>?_];show q m O ((Out.of (j.trans n)).trans R) k3
 .rw[show(Ϣ Ϸ (Sum.inl row)).isSome=true by rw[e1];rfl];show(i (by rw[m];simp)).elim
inductive Aq (mg:Str->Option ε) (vs:List V) (H:Hp) (Q:VK) (E:XK):Prop
 |mk (A:BA) (B:Bk) (row:Int) (b:δ) (xs:List V):vs=[.ref A.b,.int row,.ref b]->Ω (cB mg) H A B->H b=some (.lst xs)->B.heads.length<=6->vM B.heads row xs->rQ B->(Υ B.rows row=none->False)->(Υ B.rows row≠none->∀H',Out A.fp H H'->Ω (cB mg) H' A (aW B row (some xs))->Q (.int (B.now+1)) H')->Aq mg vs H Q E
def agr(T:Txt K mg):FD P w K mg base true 6 "change" "Book.change" Sd ["self","row","values"] (Aq mg):=by
 show bC (N:=["self","row","values"]) (λf I J outer s H vs Q E a h=>?_);intro X _;let#[A,B,row,b,xs,rfl,c,u,y,g,i,j,q]:=h;let M1:aH P w K mg base true 5 (cB mg) "ask_row" ["self","row","values"] (rY mg):=(Vm T).meth T.aG T.aag;let M2:aH P w K mg base true 1 (cB mg) "do" ["self","row","values"] (lH mg):=(K5 T).meth T.aG T.JS;let z:aH P w K mg base true 3 (cB mg) "ask_there" ["self","row"] (lQ mg):=(DG T).meth T.aG T.Ef;let L:=T.aG;let n1:=T.Fj;w_up;show aM ?_;show dR (pl:=_) a Ϡ (h:=?_);f_are;show#[A.b,cB mg,A.dx,_,true,5,_,rY mg,rfl,c.ins,by rfl,M1,by decide,id,?_];cbv;show#[A,B,row,b,xs,rfl,c,u,y,g,λH1 l=>?_];let k1:=c.same l;let v:=k1.ins;let m:=l _ _ u;w_up;show aM ?_;show dR (pl:=_) a Ϡ (h:=?_);f_are;show#[A.b,cB mg,A.dx,_,true,3,_,lQ mg,rfl,v,by rfl,z,by decide,id,?_];cbv;show#[A,B,row,rfl,k1,g.1,g.2.1,λn=>j n,λn=>?_];f_len;show ψ ?_;show dR (pl:=_) a Ϡ (h:=?_);f_are;show#[A.b,cB mg,A.dx,_,true,1,_,lH mg,rfl,v,by rfl,M2,by decide,id,?_];cbv;show Xj (η.of m) λt D=>?_
 let#[p,x]:=Ξ D (.tup xs);generalize upd H1 t (.tup xs)=H2 at p x⊢;cbv;show#[A,B,row,.ref t,some xs,rfl,k1.same p,#[t,rfl,x],(λe=>by cases e),i,λF G k3=>?_];show q n F ((Out.of (l.trans p)).trans G) k3
inductive zZ (mg:Str->Option ε) (vs:List V) (H:Hp) (Q:VK) (E:XK):Prop
 |mk (A:BA) (B:Bk) (row:Int):vs=[.ref A.b,.int row]->Ω (cB mg) H A B->0<=row->row<=1000000000->rQ B->j7 B->(Υ B.rows row=none->False)->(Υ B.rows row≠none->∀H',Out A.fp H H'->Ω (cB mg) H' A (aW B row none)->Q (.int (B.now+1)) H')->zZ mg vs H Q E
def ajZ(T:Txt K mg):FD P w K mg base true 4 "take" "Book.take" Yl ["self","row"] (zZ mg):=by
 show bC (N:=["self","row"]) (λf p u outer s H vs Q E j h=>?_);intro X _;let#[A,B,row,rfl,a,l,m,c,e,g,q]:=h;let M2:aH P w K mg base true 1 (cB mg) "do" ["self","row","values"] (lH mg):=(K5 T).meth T.aG T.JS;let n:aH P w K mg base true 3 (cB mg) "ask_there" ["self","row"] (lQ mg):=(DG T).meth T.aG T.Ef;w_up;show aM ?_;show dR (pl:=_) j Ϡ (h:=?_);f_are;show#[A.b,cB mg,A.dx,_,true,3,_,lQ mg,rfl,a.ins,by rfl,n,by decide,id,?_];cbv;show#[A,B,row,rfl,a,l,m,g,λi=>?_];f_len;show ψ ?_;show dR (pl:=_) j Ϡ (h:=?_);f_are;show#[A.b,cB mg,A.dx,_,true,1,_,lH mg,rfl,a.ins,by rfl,M2,by decide,id,?_];cbv;show#[A,B,row,.non,none,rfl,a,rfl,λ_=>#[i,λz=>i ((e row).mpr z)],c,q i]
inductive lD (mg:Str->Option ε) (g:Bk->Int) (vs:List V) (H:Hp) (Q:VK) (E:XK):Prop
 |mk (A:BA) (B:Bk):vs=[.ref A.b]->Ω (cB mg) H A B->Q (.int (g B)) H->lD mg g vs H Q E
def Kr(T:Txt K mg):FD P w K mg base true 1 "moment" "Book.moment" Y4 ["self"] (lD mg Bk.now):=by
 show bC (N:=["self"]) (λf e g outer s H vs Q E i h=>?_);intro X _;let#[A,B,rfl,a,q]:=h;let c:=T.aG;f_len;show ψ (bD ?_);f_are;show#[A.b,_,_,_,_,rfl,a.ins,c,T.Kw,rfl,q]
inductive mL (mg:Str->Option ε) (vs:List V) (H:Hp) (Q:VK) (E:XK):Prop
 |mk (A:BA) (B:Bk):vs=[.ref A.b]->Ω (cB mg) H A B->(∀p H',ζ H H'->H p=none->Τ H' p B.heads->Q (.ref p) H')->mL mg vs H Q E
def J4(T:Txt K mg):FD P w K mg base true 1 "columns" "Book.columns" Sq ["self"] (mL mg):=by
 show bC (N:=["self"]) (λf n u outer s H vs Q E x h=>?_);intro X _;let#[A,B,rfl,a,q]:=h;let j:=T.aG;let n1:=T.jJ;let#[vs,l,m]:=a.heads;f_len;show ψ ?_;cbv;show bD ?_;f_are;show#[A.b,_,_,_,_,rfl,a.ins,j,T.Ex,rfl,?_];cbv;show iJ (.inl (η.of l)) λp g=>?_
 let i:=ζ.upd (H:=H) (o:=.lst vs) g;show q p _ i g #[vs,ς,ρ.imp (λv c z=>by let#[t,e,h]:=z;show #[t,e,i _ _ h]) m]
inductive za (mg:Str->Option ε) (vs:List V) (H:Hp) (Q:VK) (E:XK):Prop
 |mk (A:BA) (B:Bk) (row:Int):vs=[.ref A.b,.int row]->Ω (cB mg) H A B->0<=row->row<=1000000000->j7 B->(Υ B.rows row=none->False)->(∀i,Υ B.touched row=some i->Q (.int i) H)->za mg vs H Q E
def ace(T:Txt K mg):FD P w K mg base true 4 "since" "Book.since" PB ["self","row"] (za mg):=by
 show bC (N:=["self","row"]) (λf G I outer s H vs Q E j h=>?_);intro X _;let#[A,B,row,rfl,a,l,m,c,e,q]:=h;let n:aH P w K mg base true 3 (cB mg) "ask_there" ["self","row"] (lQ mg):=(DG T).meth T.aG T.Ef;let p:=T.aG;let v:_+1<cLine:=ad1 (aeA (by decide:1<=64) _) j.units;let#[Ϸ,y,z]:=a.touched;w_up;show aM ?_;show dR (pl:=_) j Ϡ (h:=?_);f_are;show#[A.b,cB mg,A.dx,_,true,3,_,lQ mg,rfl,a.ins,by rfl,n,by decide,id,?_];cbv;show#[A,B,row,rfl,a,l,m,e,λD=>?_];obtain⟨e1,g⟩|⟨u,x,e1,g,F⟩:=iW z row
 .show absurd ((c row).mpr g) D
 let i:u=.int x:=F;subst i;f_len;show ψ ?_;show aeM v (by intro _ _;rfl) ?_;show bD ?_;f_are;show#[A.b,_,_,_,_,rfl,a.ins,p,T.Hd,rfl,?_];f_are;show#[A.t,.int x,rfl,?_,q x g];have:=Ϝ.k (k:=Sum.inl row) y;rw[e1]at this;show this
def aiM(h:Χ cs=true):1<=cs.length/\cs.length<=6:=by
 unfold Χ at h;rw[aaO,aaO,decide_eq_true_eq]at h;show h.1.1
def ac8(h:Χ cs=true):Hv cs:=by
 unfold Χ nY at h;rw[aaO,aaO,ack]at h;intro c a;let h1:=h.1.2 c a;rw[aaO,decide_eq_true_eq]at h1;let#[h2,f]:=h1;unfold isName at h2;rw[aaO,decide_eq_true_eq]at h2;show#[(),?_];obtain e|e:=f<;>rw[e]
 .show(by fin2:("number":Str).length<=4000)
 .show(by fin2:("text":Str).length<=4000)
inductive Mt (mg:Str->Option ε) (vs:List V) (H:Hp) (Q:VK) (E:XK):Prop
 |mk (y dx a:δ) (cs:List θ):vs=[.ref y,.ref a]->H y=some (.ins (cB mg) dx [])->H dx=some (.own y)->Τ H a cs->Χ cs=true->(∀(H':Hp)(A:BA),A.b=y->A.dx=dx->H A.h=none->H A.r=none->H A.t=none->H A.d=none->Out [y] H H'->Ω (cB mg) H' A #[cs,[],[],[],0,0]->Q .non H')->Mt mg vs H Q E
def ahn(T:Txt K mg):FD P w K mg base true 4 "__init__" "Book.__init__" UT ["self","columns"] (Mt mg):=by
 show bC (N:=["self","columns"]) (λf Ϻ A' outer s H vs Q E hr h=>?_);intro X _;let#[y,dx,a,cs,rfl,m,i,hC,hok,q]:=h;let D1:= @FW P w K mg base T;let l:=T.aG;let n1:=T.jJ;let hsz:=ϰ;w_up;cbv;show#[a,cs,rfl,hC,by have:=aiM hok;omega,ac8 hok,λH1 D =>?_];rw[if_pos hok];let#[vs,ha,M]:=hC;let hy1:=D _ _ m;let YG:dx≠y:=λe=>by rw[e,m]at i;cases i
 w_up;show iZ ?_;cbv;show iJ (.inl (η.of (D _ _ ha))) λh hh=>?_
 let O:ζ H (upd H1 h (.lst vs)):=D.trans (ζ.upd hh);let eh:(upd H1 h (.lst vs)) h=some (.lst vs):=ς;let R:H h=none:=D.free hh;generalize upd H1 h (.lst vs)=H2 at O eh⊢;f_are;show#[y,_,dx,_,rfl,O _ _ m,l,T.Ex,by show 0<1000;decide,?_];let n:h≠y:=λe=>by rw[e,m]at R;cases R
 let o3:Out [y] H (upd H2 y (.ins (cB mg) dx [("heads",.ref h)])):=(Out.of O).trans (Out.upd (by simp));let WT:(upd H2 y (.ins (cB mg) dx [("heads",.ref h)])) h=some (.lst vs):=by rw[ξ n];show eh
 let S:(upd H2 y (.ins (cB mg) dx [("heads",.ref h)])) y=some (.ins (cB mg) dx [("heads",.ref h)]):=ς;change Ι _ _ _ _ (upd H2 y (.ins (cB mg) dx [("heads",.ref h)]));generalize upd H2 y (.ins (cB mg) dx [("heads",.ref h)])=F at o3 WT S⊢;let step:∀(H':Hp)(p:δ)(o o1:HO),H' y=some o1->Out [y] H H'->H' p=none->(H p=none/\p≠y/\∀fs,Out [y] H (upd (upd H' p o) y fs)/\(upd (upd H' p o) y fs) y=some fs/\(upd (upd H' p o) y fs) p=some o/\∀b u,b≠y->H' b=some u->b≠p/\(upd (upd H' p o) y fs) b=some u):=by
  intro H' p o o1 ey ho G;let j:p≠y:=λe=>by rw[e,ey]at G;cases G
  let keep:∀fs b u,b≠y->H' b=some u->b≠p/\(upd (upd H' p o) y fs) b=some u:=λfs b u g e=>by
   let Ud:b≠p:=λz=>by rw[z,G]at e;cases e
   show#[Ud,?_];rw[ξ g,ξ Ud];show e
  show#[?_,j,λfs=>#[λb u g e=>?_,ς,by rw[ξ j];show ς,keep fs]]
  .cases e1:H p with
   |none=>rfl
   |some u=>
    have:=ho p u (by simpa using j) e1;rw[G]at this;cases this
  .show(keep fs b u (by simpa using g) (ho b u g e)).2
 w_up;show iZ ?_;show Ag λr U=>?_
 f_are;let#[rn,ry,x]:=step F r (.dK []) _ S o3 U;let W:(upd F r (.dK [])) y=some (.ins (cB mg) dx [("heads",.ref h)]):=by rw[ξ (Ne.symm ry)];show S
 show#[y,_,dx,_,rfl,W,l,T.uF,by show 1<1000;decide,?_];let#[o4,Y,Mp,k4]:=x (.ins (cB mg) dx [("heads",.ref h),("rows",.ref r)]);change Ι _ _ _ _ (upd (upd F r (.dK [])) y (.ins (cB mg) dx [("heads",.ref h),("rows",.ref r)]));let R1:=(k4 _ _ n WT).2;generalize upd (upd F r (.dK [])) y (.ins (cB mg) dx [("heads",.ref h),("rows",.ref r)])=I at o4 Y Mp R1⊢;w_up;show iZ ?_;show Ag λt Z=>?_
 f_are;let#[tn,ty,x]:=step I t (.dK []) _ Y o4 Z;let ab:(upd I t (.dK [])) y=some (.ins (cB mg) dx [("heads",.ref h),("rows",.ref r)]):=by rw[ξ (Ne.symm ty)];show Y
 show#[y,_,dx,_,rfl,ab,l,T.Hd,by show 2<1000;decide,?_];let#[o5,Fd,Td,k5]:=x (.ins (cB mg) dx [("heads",.ref h),("rows",.ref r),("touched",.ref t)]);change Ι _ _ _ _ (upd (upd I t (.dK [])) y (.ins (cB mg) dx [("heads",.ref h),("rows",.ref r),("touched",.ref t)]));let Zc:=(k5 _ _ n R1).2;let#[rt,ZL]:=k5 _ _ ry Mp;generalize upd (upd I t (.dK [])) y (.ins (cB mg) dx [("heads",.ref h),("rows",.ref r),("touched",.ref t)])=J at o5 Fd Td ZL Zc⊢;w_up;show iZ ?_;cbv;show#[Β,λd ac=>?_];f_are;let#[dn,dy,x]:=step J d (.lst []) _ Fd o5 ac;let ae:(upd J d (.lst [])) y=some (.ins (cB mg) dx [("heads",.ref h),("rows",.ref r),("touched",.ref t)]):=by rw[ξ (Ne.symm dy)];show Fd
 show#[y,_,dx,_,rfl,ae,l,T.YB,by show 3<1000;decide,?_];let#[L,M9,Uv,k6]:=x (.ins (cB mg) dx [("heads",.ref h),("rows",.ref r),("touched",.ref t),("done",.ref d)]);change Ι _ _ _ _ (upd (upd J d (.lst [])) y (.ins (cB mg) dx [("heads",.ref h),("rows",.ref r),("touched",.ref t),("done",.ref d)]));let#[af,B]:=k6 _ _ n Zc;let#[_,Up]:=k6 _ _ ry ZL;let#[_,Mm]:=k6 _ _ ty Td;generalize upd (upd J d (.lst [])) y (.ins (cB mg) dx [("heads",.ref h),("rows",.ref r),("touched",.ref t),("done",.ref d)])=H6 at L M9 Uv Mm Up B⊢;w_up;show iZ ?_;f_are;f_are;show#[y,_,dx,_,rfl,M9,l,T.alI,by show 4<1000;decide,?_];f_len;show iZ ?_;f_are;f_are;show#[y,_,dx,_,rfl,ς,l,T.Kw,by show 5<1000;decide,?_];let fin:∀b u,b≠y->H6 b=some u->(upd (upd H6 y (.ins (cB mg) dx [("heads",.ref h),("rows",.ref r),("touched",.ref t),("done",.ref d),("known",.int 0)])) y (.ins (cB mg) dx [("heads",.ref h),("rows",.ref r),("touched",.ref t),("done",.ref d),("known",.int 0),("now",.int 0)])) b=some u:=λb u g e=>by
  rw[ξ g,ξ g];show e
 let Yq:∀t' ys,H t'=some (.tup ys)->t'≠y:=λt' ys e z=>by rw[z,m]at e;cases e
 show q (upd (upd H6 y (.ins (cB mg) dx [("heads",.ref h),("rows",.ref r),("touched",.ref t),("done",.ref d),("known",.int 0)])) y (.ins (cB mg) dx [("heads",.ref h),("rows",.ref r),("touched",.ref t),("done",.ref d),("known",.int 0),("now",.int 0)])) #[y,dx,h,r,t,d] rfl rfl R rn tn dn (λb u g e=>fin b u (by simpa using g) (L b u g e)) ?_;show#[ς,fin _ _ YG (L _ _ (by simpa using YG) i),#[vs,fin _ _ n B,ρ.imp (λv c z=>by let#[u,e,hu]:=z;show #[u,e,fin _ _ (Yq _ _ hu) (L _ _ (by simpa using Yq _ _ hu) hu)]) M],#[[],fin _ _ ry Up,.nil],#[[],fin _ _ ty Mm,.nil],#[[],fin _ _ dy Uv,.nil],rt,af]
def FQ(a H:Hp)(v:V)(p:Int×List V):=∃t l,v=.ref t/\H t=some (.tup [.int p.1,.ref l])/\H l=some (.lst p.2)/\a l=none/\a t=none
def gZ(rows:List (Int×List V))(ks:List Int):List (Int×List V):=ks.map λk=>(k,(Υ rows k).getD [])
inductive U9 (C:Unit) (vs:List V) (H:Hp) (Q:VK) (E:XK):Prop
 |mk (a:δ) (rows:List (Int×List V)):vs=[.ref a]->DictAt (TupAt H) H a rows->rows.length<64->(∀p ys ks H',ζ H H'->H p=none->ks.Perm (rows.map (·.1))->ks.Pairwise (· <= ·)->H' p=some (.lst ys)->ρ (FQ H H') ys (gZ rows ks)->Q (.ref p) H')->U9 C vs H Q E
def JC(T:Txt K mg):Def P w K mg base true 1 "told_rows" ["rows"] (U9 PUnit.unit):=by
 show Δ (N:=["rows"]) T.JC (λ_ _ _ _ _ H vs Q E hr h=>?_);intro X _;let#[a,rows,rfl,#[Ϸ,ea,hR],hl,q]:=h;let n1:=T.Ir;let n2:=T.jJ;let hsz:=ϰ;let hu:_+1<cLine:=ad1 (aeA (by decide:1<=64) _) hr.units;let uI:(["row","rows"]:List Str).Nodup:=by fin2
 f_len;show ψ ?_;show jP ["row","rows"] (σ':=[none,some (.ref a)]) (bN (χ Tj)) ?_;walk_at"cb";cbv;show alz (ks:=rows.map (·.1)) (by rfl) ea (afP hR) (by rw[aaA];show hl) λL ks hL D hs=>?_
 let#[j,eL]:=Ξ hL (.lst (ks.map V.int));generalize upd H L (.lst (ks.map V.int))=H1 at j eL⊢;let hkl:ks.length=rows.length:=by rw[D.length_eq,aaA]
 let f:(ks.map V.int).length=ks.length:=aaA ..;show#[L,_,rfl,η.of eL,(),λτ=>∃o1,τ=[o1,some (.ref a)],λn i u H'=>∃k t l,ks[i]?=some k/\u=.ref t/\t≠n/\l≠n/\H' t=some (.tup [.int k,.ref l])/\H' l=some (.lst ((Υ rows k).getD []))/\H l=none/\H t=none,#[none,rfl],λn i u H2 H3 ys y1 y2 y3=>?_,λfp n C s3 H0 i τ x H4 H3 aY hi F Ο G hG=>?_,λL2 H2 ys I ϻ J e2 Η =>?_]
 .let#[k,t,l,M,O,S,U,W,Y,Z,z8]:=y3;show#[k,t,l,M,O,S,U,y2 _ _ S W,y2 _ _ U Y,Z,z8]
 .let#[o1,rfl]:=F;let#[hx,rfl]:=hG;let Qg:i<ks.length:=by rw[f]at hi;show hi
  let hk:ks[i]?=some ks[i]:=aaj Qg;rw[abI,hk]at hx;let ab:x=.int ks[i]:=by simpa using hx.symm
  subst ab;let g:ks[i]∈rows.map (·.1):=D.mem_iff.mp (aeq Qg);let s:=j.trans Ο;let ac:=s _ _ ea;show ω uI (by rfl) (.inl rfl) (.inr rfl) ?_;cbv;rcases iW hR ks[i]with⟨_,e3⟩|⟨u,xs,e1,e3,t0,rfl,ae⟩
  .show absurd g (Ck.mp e3)
  let g4:=Ϝ.k (k:=Sum.inl ks[i]) ac;rw[e1]at g4;show bV hu g4 ?_;cbv;show iJ (.inr (ι.of (s _ _ ae))) λl y=>?_
  let#[z,el]:=Ξ y (.lst xs);generalize upd H4 l (.lst xs)=H5 at z el⊢;cbv;show#[Β,λt B=>?_];let aj:ζ H5 (upd H5 t (.tup [.int ks[i],.ref l])):=ζ.upd B;let#[ys0,hE]:=G;show#[#[_,rfl],#[ks[i],t,l,hk,rfl,λe=>?_,λe=>?_,ς,?_,s.free y,(s.trans z).free B],z.trans aj]
  .rw[e,z _ _ hE]at B;cases B
  .rw[e,hE]at y;cases y
  .rw[e3];show aj _ _ el
 .show q L2 ys ks H2 (j.trans Η) (j.free I) D hs e2 (nJ (R:=λv p=>FQ H H2 v p) (l:=ys) (m:=gZ rows ks) (by unfold gZ;rw[aaA,ϻ,f]) λi p c=>?_);unfold gZ at c;rw[abI]at c;let hi:i<ys.length:=by
   rw[ϻ,f];cases e:ks[i]? with
   |none=>rw[e]at c;cases c
   |some k=>show(aat.mp e).1
  let hy:ys[i]?=some ys[i]:=aaj hi;let#[k,t,l,M,O,S,U,W,Y,Z,z8]:=J i _ hy;rw[M]at c;let af:p=(k,(Υ rows k).getD []):=by simpa using c.symm
  rw[af];show#[_,hy,t,l,O,W,Y,Z,z8]
inductive Bv (mg:Str->Option ε) (vs:List V) (H:Hp) (Q:VK) (E:XK):Prop
 |mk (A:BA) (B:Bk):vs=[.ref A.b]->Ω (cB mg) H A B->B.rows.length<64->(∀p ys ks H',ζ H H'->H p=none->ks.Perm (B.rows.map (·.1))->ks.Pairwise (· <= ·)->H' p=some (.lst ys)->ρ (FQ H H') ys (gZ B.rows ks)->Q (.ref p) H')->Bv mg vs H Q E
def agb(T:Txt K mg):FD P w K mg base true 2 "now_rows" "Book.now_rows" NB ["self"] (Bv mg):=by
 show bC (N:=["self"]) (λf c e outer s H vs Q E g h=>?_);intro X _;let#[A,B,rfl,a,hl,q]:=h;let i:= @JC P w K mg base T;f_len;show ψ ?_;cbv;show bD ?_;f_are;show#[A.b,_,_,_,_,rfl,a.ins,T.aG,T.uF,rfl,?_];cbv;show#[A.r,B.rows,rfl,a.rows,hl,q]
theorem _root_._V.ρ.GC{α β:Type}{R:α->β->Prop}:∀{l:List α}{m:List β},ρ R l m->∀b∈m,∃a,a∈l/\R a b
 |_,_,.nil,b,c=>by simp at c
 |_,_,.cons (a:=a) r t,b,c=>by
  obtain e|e:=ϳ.mp c
  .subst e;show#[a,by simp,r]
  .let#[f,h1,h2]:=t.GC b e;show#[f,by simp[h1],h2]
def ϕ.word(h:ϕ g v)(s:g="number"\/g="text"):eQ g (wordOf v)=some v/\(wordOf v).length<=21/\32∉(wordOf v).cps.toList/\¬wordOf v=Ϫ "*"/\(∀c∈(wordOf v).cps.toList,c<1114112):=by
 obtain rfl|⟨l,i,rfl,h1,h2⟩|⟨l,z,rfl,hl,p⟩:=h
 .show#[?_,by fin2,by fin2,by fin2,by fin2];unfold eQ;rw[if_pos (show wordOf .non=Ϫ "?" from rfl)]
 .subst l;let m:=yO i;show#[amc h1 h2,?_,λh=>?_,λh=>?_,λc f=>?_]
  .have :=zj (i:=i) (k:=19) ();show(Ϫ (toString i)).length<=21;omega
  .have :=m 32 h;omega
  .let h':Ϫ (toString i)=Ϫ "*":=h;let e:("*":Str).cps.toList=[42]:=by fin2
   have:=m 42 (by rw[h',e];simp);omega
  .have :=m c f;omega
 .let n:g="text":=s.resolve_left l;subst n;let e1:("'":Str).length=1:=by fin2
  let u:=len_app ("'":Str) z;let j:∀c∈SG,¬c=32/\c<1114112:=by fin2
  let a:∀c∈(Ϫ "'"++z).cps.toList,c=39\/c∈SG:=λc f=>by
   rw[bA,BW]at f;obtain h|h:=adb.mp f
   .show .inl (by simpa using h)
   .show .inr (p c h)
  show#[aiI hl p,by show(Ϫ "'"++z).length<=21;omega,λh=>?_,λh=>?_,λc f=>?_]
  .obtain e|e:=a 32 h
   .omega
   .show(j 32 e).1 rfl
  .let h':Ϫ "'"++z=Ϫ "*":=h;let e:("*":Str).cps.toList=[42]:=by fin2
   let q:(Ϫ "'"++z).cps.toList[0]?=some 39:=by rw[bA,BW];rfl
   rw[h',e]at q;simp at q
  .obtain e|e:=a c f
   .omega
   .show(j c e).2
def plainS(z:Str):=∀c∈z.cps.toList,32<=c/\c<=122/\c≠46/\c≠47
theorem plainS.app(h:plainS a)(g:plainS b):plainS (a++b):=λc hc=>by
 rw[bA]at hc;obtain hc|hc:=adb.mp hc
 .show h c hc
 .show g c hc
theorem plainS.join:∀{ps:List Str},(∀p∈ps,plainS p)->plainS (adT " " ps)
 |[],_=>by
  intro c a;have:c∈([]:List Nat):=a;simp at this
 |[p],h=>h p (by simp)
 |p::q::r,h=>by
  let e:plainS (" ":Str):=by unfold plainS;fin2
  show((h p (by simp)).app e).app (plainS.join λx f=>h x (by simp[f]))
def acW:∀c∈SG,32<=c/\c<=122/\c≠46/\c≠47:=by fin2
theorem JD(i:Int):plainS (Ϫ (toString i)):=λc a=>by
 have:=yO i c a;omega
def ϕ.plain(h:ϕ e v):plainS (wordOf v):=by
 obtain rfl|⟨f,i,rfl,h1,h2⟩|⟨f,z,rfl,hl,g⟩:=h
 .unfold plainS;fin2
 .show JD i
 .show plainS.app (a:=Ϫ "'") ?_ λc j=>acW c (g c j)
  unfold plainS;fin2
def Fi(h:isName z=true):plainS z:=by
 unfold isName at h;rw[aaO]at h;intro c e;let h2:=h.2;unfold eV at h2;rw[ack]at h2;let f:=of_decide_eq_true (h2 c e);let a:∀c∈iT.cps.toList,32<=c/\c<=122/\c≠46/\c≠47:=by fin2
 show a c f
theorem kJ:∀ps:List Str,(adT " " ps).length<=(ps.map (·.length)).sum+ps.length
 |[]=>by show(0:Nat)<=_;omega
 |[p]=>by
  show p.length<=_;simp
 |p::q::r=>by
  let a:=kJ (q::r);let c:(" ":Str).length=1:=by fin2
  show(p++Ϫ " "++adT " " (q::r)).length<=_;rw[len_app,len_app,c];simp only[ac2,ang,acj]at a⊢;omega
def jO(ps:List Str)(n:Nat)(h:∀p∈ps,p.length<=n):(ps.map (·.length)).sum<=ps.length*n:=by
 induction ps with
 |nil=>simp
 |cons p ps a=>
  let h1:=a λx c=>h x (by simp[c])
  let h2:=h p (by simp);simp only[ac2,ang,acj,asi];omega
def oZ(h:isName z=true):z.length<=8:=by
 unfold isName at h;rw[aaO]at h;show(of_decide_eq_true h.1).2
def jM(a:Χ cs=true)(g:z∈cs.map Prod.fst):isName z=true:=by
 let#[c,f,e]:=aa6.mp g;unfold Χ at a;simp only[aaO,ack]at a;rw[<-e];show(a.1.2 c f).1
def fO(nm:Nat->Str):dU->List Str
 |.all=>["all"]
 |.none p=>["none",nm p]
 |.look l p v=>[aK l,nm p,wordOf v]
def wT(nm:Nat->Str):Tr->List Str
 |.one s=>fO nm s
 |.nt t=>"not"::wT nm t
def Φ(cs:List θ)(p:Nat):Str:=match cs[p]? with
 |some c=>c.1
 |none=>Ϫ ""
def vK(cs:List θ):dU->Prop
 |.all=>True
 |.none p=>p<cs.length
 |.look l p v=>∃c,cs[p]?=some c/\ϕ c.2 v/\v≠.non/\(l=.holds->c.2="text")
def gq(cs:List θ):Tr->Prop
 |.one s=>vK cs s
 |.nt t=>gq cs t
def AtW(nm:Nat->Str)(ws:List Str)(t:Tr)(s:Nat):=∃a,ws.drop s=wT nm t++a
def drop_cons{α:Type}{ws r:List α}{x:α}(h:ws.drop s=x::r):ws[s]?=some x/\ws.drop (s+1)=r:=by
 let hs:s<ws.length:=by
  let h2:(ws.drop s).length=(x::r).length:=by rw[h]
  rw[adh,acj]at h2;omega
 rw[aeQ hs]at h;injection h with h1 h2
 show#[by rw[aaj hs,h1],h2]
def Xn{α:Type}{ws a r:List α}(h:ws.drop s=a++r)(c:a≠[]):s+a.length<=ws.length:=by
 let h2:(ws.drop s).length=(a++r).length:=by rw[h]
 rw[adh,abo]at h2;have:0<a.length:=aqB.mpr c;omega
def Be(nm:Nat->Str)(s:dU):fO nm s≠[]:=by cases s<;>simp[fO]
def JQ(nm:Nat->Str)(t:Tr):wT nm t≠[]:=by
 cases t with
 |one s=>show Be nm s
 |nt t=>simp[wT]
theorem Zg:∀{cs:List θ}{p:Nat}{c:θ},(cs.map Prod.fst).Nodup->cs[p]?=some c->ϋ cs c.1=p
 |d::r,0,c,f,e=>by
  have:d=c:=by simpa using e
  subst this;show(if d.1=d.1 then 0 else ϋ r d.1+1)=0;rw[if_pos rfl]
 |d::r,p+1,c,f,e=>by
  let g:r[p]?=some c:=by simpa using e
  let a:=aid.mp f;let i:¬d.1=c.1:=λz=>a.1 (by rw[z];show aa6.mpr #[c,aaD g,rfl])
  show(if d.1=c.1 then 0 else ϋ r c.1+1)=p+1;rw[if_neg i,Zg a.2 g]
def qY(e:cs[p]?=some c):Φ cs p=c.1:=by
 unfold Φ;rw[e]
def Rb(f:(cs.map Prod.fst).Nodup)(a:cs[p]?=some c)(hs:s<60)(e:ws[s]?=some c.1):gB cs ws s=some p:=by
 unfold gB;rw[if_pos hs,e];show(if cs.any (λd=>decide (d.1=c.1))=true then some (ϋ cs c.1)else none)=some p;rw[if_pos (by rw[aqk];show#[c,aaD a,decide_eq_true rfl]),Zg f a]
theorem aeo(hok:Χ cs=true):∀{sv:dU},ws.drop s=fO (Φ cs) sv++a->s+(fO (Φ cs) sv).length<=60->vK cs sv->tU cs ws s sv (s+(fO (Φ cs) sv).length)
 |.all,e,hl,_=>#[(drop_cons (r:=a) e).1,rfl]
 |.none p,e,hl,i=>by
   let j:(cs.map Prod.fst).Nodup:=by
    unfold Χ at hok;simp only[aaO,decide_eq_true_eq]at hok;show hok.2
   let#[e1,m]:=drop_cons (r:=[Φ cs p]++a) e;let#[f,_]:=drop_cons (r:=a) m;let n:=Xn e (Be (Φ cs) (.none p));let q:s+2<=60:=hl;let u:cs[p]?=some cs[p]:=aaj i;rw[qY u]at f;show#[e1,n,Rb j u () f,rfl]
 |.look l p v,e,hl,i=>by
   let j:(cs.map Prod.fst).Nodup:=by
    unfold Χ at hok;simp only[aaO,decide_eq_true_eq]at hok;show hok.2
   let#[c,g,x,y,hh]:=i;let#[e1,m]:=drop_cons (r:=[Φ cs p,wordOf v]++a) e;let#[f,z]:=drop_cons (r:=[wordOf v]++a) m;let#[B,_]:=drop_cons (r:=a) z;let n:=Xn e (Be (Φ cs) (.look l p v));let q:s+3<=60:=hl;rw[qY g]at f;let D:c.2="number"\/c.2="text":=by
    unfold Χ at hok;simp only[aaO,ack]at hok;have:=(hok.1.2 c (aaD g)).2;unfold nY at this;show of_decide_eq_true this
   show#[n,(),e1,Rb j g () f,#[c,_,g,hh,B,(x.word D).1],y,rfl]
theorem GQ(hok:Χ cs=true):∀{t:Tr}{s:Nat},AtW (Φ cs) ws t s->s+(wT (Φ cs) t).length<=60->gq cs t->Reads cs ws t s (s+(wT (Φ cs) t).length)
 |.one sv,s,e,hl,c=>by
   let#[a,e]:=e;let j:0<(fO (Φ cs) sv).length:=aqB.mpr (Be (Φ cs) sv);let f:s+(fO (Φ cs) sv).length<=60:=hl;show#[(),aeo hok e hl c]
 |.nt t,s,e,hl,c=>by
   let#[a,e]:=e;let#[e1,g]:=drop_cons (r:=wT (Φ cs) t++a) e;let f:s+((wT (Φ cs) t).length+1)<=60:=hl;show#[(),e1,?_];have:=GQ hok (t:=t) #[a,g] () c;let i:s+(wT (Φ cs) (.nt t)).length=s+1+(wT (Φ cs) t).length:=by show s+((wT (Φ cs) t).length+1)=_;omega
   rw[i];show this
def join_cons(a:b≠[]):adT " " (x::b)=x++Ϫ " "++adT " " b:=by
 match b,a with
 |y::r,_=>rfl
theorem Wn(h:isName z=true):32∉z.cps.toList:=λa=>by
 unfold isName eV at h;rw[aaO,ack]at h;show absurd (of_decide_eq_true (h.2 32 a)) (by fin2)
theorem aml(hok:Χ cs=true):∀{sv:dU},vK cs sv->∀z∈fO (Φ cs) sv,z.length<=21/\32∉z.cps.toList/\plainS z
 |.all,_,z,f=>by
   have:z=Ϫ "all":=by simpa [fO]using f
   subst this;show#[by fin2,by fin2,by unfold plainS;fin2]
 |.none p,g,z,f=>by
   let a:z=Ϫ "none"\/z=Φ cs p:=by simpa [fO]using f
   obtain rfl|rfl:=a
   .show#[by fin2,by fin2,by unfold plainS;fin2]
   .let m:cs[p]?=some cs[p]:=aaj g;rw[qY m];let e:=jM hok (aa6.mpr #[cs[p],aeq g,rfl]);show#[by have:=oZ e;omega,λh=>by have:=(Wn e);show this h,Fi e]
 |.look l p v,g,z,f=>by
   let#[c,i,j,q,hh]:=g;let a:z=aK l\/z=Φ cs p\/z=wordOf v:=by simpa [fO]using f
   let e:=jM hok (aa6.mpr #[c,aaD i,rfl]);let n:c.2="number"\/c.2="text":=by
    unfold Χ at hok;simp only[aaO,ack]at hok;have:=(hok.1.2 c (aaD i)).2;unfold nY at this;show of_decide_eq_true this
   obtain rfl|rfl|rfl:=a
   .cases l<;>show#[by fin2,by fin2,by unfold plainS;fin2]
   .rw[qY i];show#[by have:=oZ e;omega,Wn e,Fi e]
   .let hw:=j.word n;show#[hw.2.1,hw.2.2.1,j.plain]
theorem wg(hok:Χ cs=true):∀{t:Tr},gq cs t->∀z∈wT (Φ cs) t,z.length<=21/\32∉z.cps.toList/\plainS z
 |.one s,a,z,hz=>aml hok a z hz
 |.nt t,a,z,hz=>by
   obtain rfl|hz:=ϳ.mp hz
   .show#[by fin2,by fin2,by unfold plainS;fin2]
   .show wg hok (t:=t) a z hz
def qP(cs:List θ)(z:Str)(n d:Nat):=∃t,gq cs t/\t.dep<=d/\z=adT " " (wT (Φ cs) t)/\(wT (Φ cs) t).length<=n
def qP.len(hok:Χ cs=true)(h:qP cs z n d):z.length<=22*n:=by
 let#[t,a,_,rfl,hl]:=h;let h1:=jO (wT (Φ cs) t) 21 λp c=>(wg hok a p c).1
 let h2:=kJ (wT (Φ cs) t);omega
def qP.good(hok:Χ cs=true)(h:qP cs z n d)(m:n<=60)(hd:d<=20):plainS z/\z.length<=2800/\(∀y∈Ϗ 32 z,y.length<=900)/\∃t:Tr,t.dep<=20/\Reads cs (Ϗ 32 z) t 0 (Ϗ 32 z).length:=by
 let c:=h.len hok;let#[t,e,g,rfl,hl]:=h;let a:=wg hok e;let f:Ϗ 32 (adT " " (wT (Φ cs) t))=wT (Φ cs) t:=xx (JQ (Φ cs) t) λz i=>(a z i).2.1
 show#[plainS.join λp j=>(a p j).2.2,(),by rw[f];show λy l=>by have:=(a y l).1;omega,t,(),?_];rw[f];have:=GQ hok (ws:=wT (Φ cs) t) (t:=t) (s:=0) #[[],by simp] () e;rw[akh]at this;show this
def aX(H:Hp)(v:V):Tr->Prop
 |.one .all=>∃t,v=.ref t/\H t=some (.tup [.str ("all":Str)])
 |.one (.none p)=>∃t,v=.ref t/\H t=some (.tup [.str ("none":Str),.int p])
 |.one (.look l p x)=>∃t,v=.ref t/\H t=some (.tup [.str (aK l),.int p,x])
 |.nt t=>∃a u,v=.ref a/\H a=some (.tup [.str ("not":Str),u])/\aX H u t
theorem aX.same(s:ζ H H'):∀{t:Tr}{v:V},aX H v t->aX H' v t
 |.one .all,_,⟨t,e,h⟩=>#[t,e,s _ _ h]
 |.one (.none p),_,⟨t,e,h⟩=>#[t,e,s _ _ h]
 |.one (.look l p x),_,⟨t,e,h⟩=>#[t,e,s _ _ h]
 |.nt t,_,⟨a,u,e,h,g⟩=>#[a,u,e,s _ _ h,aX.same s g]
def mY:Tr->Prop
 |.one (.look l _ _)=>¬l=.holds
 |.one _=>True
 |_=>False
def iU:Tr->Prop
 |.nt t=>mY t
 |t=>mY t
def ago(c:0<=d)(h1:d<3):∃l:Lk,¬l=.holds/\ Θ [V.str ("is":Str),V.str ("under":Str),V.str ("over":Str)] d=some (.str (aK l)):=by
 by_cases a:d=0
 .show#[.is,nofun,by rw[a];rfl]
 .by_cases e1:d=1
  .show#[.under,nofun,by rw[e1];rfl]
  .show#[.over,nofun,by rw[show d=2 by omega];rfl]
def adv(c:0<=d)(h1:d<2):∃l:Lk,¬l=.holds/\ Θ [V.str ("under":Str),V.str ("over":Str)] d=some (.str (aK l)):=by
 by_cases a:d=0
 .show#[.under,nofun,by rw[a];rfl]
 .show#[.over,nofun,by rw[show d=1 by omega];rfl]
inductive O6 (K:Ϩ) (vs:List V) (H:Hp) (Q:VK) (E:XK):Prop
 |mk (a:δ) (ns:List Int) (k:Int) (b:δ) (cs:List θ):vs=[.ref a,.int k,.ref b]->η K H a (ns.map V.int)->ns.length<=63->0<=k->k<=40000->Τ H b cs->1<=cs.length->cs.length<=6->(∀v t H',ζ H H'->aX H' v t->iU t->gq cs t->Q v H')->O6 K vs H Q E
def Dd(T:Txt K mg):Def P w K mg base true 4 "_law_sieve" ["_law_script","_law_k","_law_columns_here"] (O6 K):=by
 show Δ (S:=Nm) T.Dd (λ_ _ A _ s H vs Q E hr h=>?_);intro X _;let#[a,ns,k,b,cs,rfl,D,hl,hk0,hk1,#[vs,hb,i],c1,c6,q]:=h;let nd:=Nm.nd;let n1:=T.bh;let hsz:=ϰ;let hvl:=i.len;let M:η K H b vs:=η.of hb;let D1:= @gQ P w K mg base T;let D2:= @Bu P w K mg base T;k_go;show#[a,ns,k,8,rfl,D,hl,(),(),by decide,?_];let w0:=aN ns k (m:=8) (by decide);let w1:=aZ ns k (m:=8) (by decide);generalize ϓ ns k 8=way at w0 w1⊢;k_go;show#[a,ns,k+1,_,rfl,D,hl,(),(),(),?_];let O:=aN ns (k+1) (m:=(vs.length:Int)) ();let a1:=aZ ns (k+1) (m:=(vs.length:Int)) ();generalize ϓ ns (k+1) (vs.length:Int)=at_ at O a1⊢;let#[p,rfl]:=aa7 O;let j:p<vs.length:=()
 let#[c,hc,tc,ec,n]:=i.get (aaj j);let R:vs[p]?=some (.ref tc):=by rw[<-ec];show aaj j
 w_up;show Μ ?_;lk;show Ε (λ_=>?_) (λh3=>?_)
 .f_len;show ψ ?_;lk;show#[Β,λt g=>?_];show q _ (.one .all) _ (ζ.upd g) #[t,rfl,ς] trivial trivial
 show Γ ?_;w_up;show Μ ?_;lk;show Ε (λ_=>?_) (λh4=>?_)
 .f_len;show ψ ?_;lk;show#[Β,λt g=>?_];show q _ (.one (.none p)) _ (ζ.upd g) #[t,rfl,ς] trivial (by show p<cs.length;omega)
 let hw4:4<=way:=by
  let h4':¬way=3:=λe=>h4 (by rw[e])
  omega
 show Γ ?_;k_go;show ϊ M (ϒ R) ?_;lk;show Α (ι.of n) (show Θ [V.str c.1,V.str c.2] 1=some (V.str c.2)from rfl) ?_;lk;show#[a,ns,k+2,c.2,rfl,D,hl,(),(),λx H1 u hx=>?_];let fin:∀(y:V)(H2:Hp),ζ H H2->ϕ c.2 y->¬y=.non->Ι X ((ϖ Gk).drop 6) {nx:=λ_ H'=>Q .non H',rt:=Q} [some (.ref a),some (.int k),some (.ref b),some (.int way),some (.int p),some y] H2:=by
  intro y H2 F hy Ϲ;let good:∀l:Lk,¬l=.holds->vK cs (.look l p y):=λl hl=>#[c,hc,hy,Ϲ,λe=>absurd e hl]
  w_up;show Μ ?_;lk;show Ε (λ_=>?_) (λh7=>?_)
  .f_len;show ψ ?_;lk;show#[Β,λz G=>?_];let#[sz,v]:=Ξ G (.lst [.str ("under":Str),.str ("over":Str)]);generalize upd H2 z (.lst [.str ("under":Str),.str ("over":Str)])=U at sz v⊢;lk;show#[a,ns,k+5,2,rfl,(F.trans sz).seq D,hl,(),(),by decide,?_];let#[l,f,I]:=adv (aN ns (k+5) (m:=2) (by decide)) (aZ ns (k+5) (m:=2) (by decide));show ϊ (η.of v) I ?_;lk;show#[Β,λt g=>?_];let#[st,W]:=Ξ g (.tup [.str (aK l),.int p,y]);generalize upd U t (.tup [.str (aK l),.int p,y])=Y at st W⊢;lk;show#[Β,λZ bY=>?_];let B:ζ Y (upd Y Z (.tup [.str ("not":Str),.ref t])):=ζ.upd bY;show q _ (.nt (.one (.look l p y))) _ (((F.trans sz).trans st).trans B) #[Z,.ref t,rfl,ς,t,rfl,B _ _ W] f (good l f)
  .let hw7:way<7:=by
    let h7':¬way=7:=λe=>h7 (by rw[e])
    omega
   show Γ ?_;f_len;show ψ ?_;lk;show#[Β,λz G=>?_];let#[sz,v]:=Ξ G (.lst [.str ("is":Str),.str ("under":Str),.str ("over":Str)]);generalize upd H2 z (.lst [.str ("is":Str),.str ("under":Str),.str ("over":Str)])=U at sz v⊢;lk;let#[l,f,I]:=ago (d:=way-4) () ();show ϊ (η.of v) I ?_;lk;show#[Β,λt g=>?_];show q _ (.one (.look l p y)) _ ((F.trans sz).trans (ζ.upd g)) #[t,rfl,ς] f (good l f)
 w_up;show Μ ?_;lk;show Ε (λe=>?_) (λe=>Γ (fin x H1 u hx e));f_len;f_tup;lk;show ϊ (u.seq M) (ϒ R) ?_;lk;show Α (ι.of (u _ _ n)) (show Θ [V.str c.1,V.str c.2] 1=some (V.str c.2)from rfl) ?_;lk;show Ε (λJ=>?_) (λJ=>?_)
 .lk;let L:c.2="number":=by injection J
  show fin _ H1 u (.inr (.inl #[L,0,rfl,by decide,by decide])) nofun
 .lk;let L:¬c.2="number":=λz=>J (by rw[z])
  show fin _ H1 u (.inr (.inr #[L,_,rfl,by fin2,by fin2])) nofun
inductive UL (vs:List V) (H:Hp) (Q:VK) (E:XK):Prop
 |mk (v:V) (kd:Str):vs=[v]->ϕ kd v->Q (.str (wordOf v)) H->UL vs H Q E
def zV(T:Txt K mg):Def P w K mg base true 1 "_law_word" ["_law_value_here"] UL:=by
 show Δ (N:=["_law_value_here"]) T.zV (λ_ _ _ _ _ H vs Q E c h=>?_);intro X _;let#[v,e,rfl,a,q]:=h;let n1:=T.ux;let n2:=T.mW;let f:=T.zQ;let hsz:=ϰ;let g:("'":Str).length=1:=by fin2
 w_up;show Μ ?_;lk;obtain rfl|⟨_,i,rfl,h1,h2⟩|⟨_,z,rfl,hl,_⟩:=a
 .show bw ?_;f_len;show ψ ?_;lk;show q
 .show Ε (λh=>nomatch h) (λ_=>?_);show Γ ?_;f_len;show ψ ?_;lk;show j8 (kh ?_) ?_
  .have :(10:Nat)^60>1000000000000000000:=by decide
   omega
  show q
 .show Ε (λh=>nomatch h) (λ_=>?_);show Γ ?_;f_len;show ψ ?_;lk;show dq () ?_;show q
def YT(l:Lk):¬V.str (aK l)=V.str ("all":Str)/\¬V.str (aK l)=V.str ("not":Str)/\¬V.str (aK l)=V.str ("none":Str)/\(aK l).length<=5:=by
 cases l<;>show#[by fin2,by fin2,by fin2,by fin2]
inductive Il (K:Ϩ) (ok:Tr->Prop) (vs:List V) (H:Hp) (Q:VK) (E:XK):Prop
 |mk (v:V) (b:δ) (cs:List θ) (t:Tr):vs=[v,.ref b]->Τ H b cs->Χ cs=true->aX H v t->ok t->gq cs t->(∀H',ζ H H'->Q (.str (adT " " (wT (Φ cs) t))) H')->Il K ok vs H Q E
def Uz(T:Txt K mg)(hk:1<=k)(hr:Ϙ true k (A.deeper (envOfC "_law_sieve_text" (χ uv) s.heap.objs.size f M)))(U:Τ H b cs)(hok:Χ cs=true)(D:aX H v t)(hs:mY t)(G:gq cs t)(q:∀H',ζ H H'->Q (.str (adT " " (wT (Φ cs) t))) H'):Ι (jd true P w K mg base WL "_law_sieve_text" (χ uv) f M A outer s H E) (ϖ uv) {nx:=λ_ H'=>Q .non H',rt:=Q} [some v,some (.ref b),none] H:=by
 let nd:=Gi.nd;let n1:=T.bh;let hsz:=ϰ;let W:(" ":Str).length=1:=by fin2
 let D1:= @zV P w K mg base T;let#[vs,O,m]:=U;let X:=m.len;let I:=wg hok G;let bound:((wT (Φ cs) t).map (·.length)).sum+(wT (Φ cs) t).length*(" ":Str).length<=16777216:=by
  let h1:=jO (wT (Φ cs) t) 21 λp R=>(I p R).1
  let h2:(wT (Φ cs) t).length<=3:=by
   cases t with
   |one sv=>cases sv<;>simp[wT,fO]
   |_=>show hs.elim
  rw[W];omega
 cases t with
 |nt t=>show hs.elim
 |one sv=>
  cases sv with
  |all=>
   let#[t,rfl,g]:=D;w_up;show Μ ?_;lk;show Α (ι.of g) (show Θ [V.str ("all":Str)] 0=some (V.str ("all":Str))from rfl) ?_;lk;show bw ?_;f_len;show ψ ?_;lk;show q H (ζ.refl _)
  |none p=>
   let#[t,rfl,g]:=D;let R:p<cs.length:=G;let#[c,B,tc,Y,n]:=m.get (aaj (show p<vs.length by omega));let J:vs[p]?=some (.ref tc):=by rw[<-Y];show aaj _
   let a:Θ [V.str ("none":Str),V.int (p:Int)] 0=some (V.str ("none":Str)):=rfl;let y:Θ [V.str ("none":Str),V.int (p:Int)] 1=some (V.int (p:Int)):=rfl;w_up;show Μ ?_;lk;show Α (ι.of g) a ?_;lk;show bj ?_;show Γ ?_;w_up;show Μ ?_;lk;show Α (ι.of g) a ?_;lk;show bj ?_;show Γ ?_;k_go;show Α (ι.of g) a ?_;lk;show Α (ι.of g) y ?_;show ϊ (η.of O) (ϒ J) ?_;lk;show Α (ι.of n) (show Θ [V.str c.1,V.str c.2] 0=some (V.str c.1)from rfl) ?_;lk;show#[Β,λz i=>?_];let#[j,e1]:=Ξ i (.lst [.str ("none":Str),.str c.1]);generalize upd H z (.lst [.str ("none":Str),.str c.1])=H1 at j e1⊢;w_up;show Μ ?_;lk;show vG (.inr (ι.of (j _ _ g))) ?_;lk;show Ε (λh=>absurd h (by show ¬((2:Nat):Int)>2;decide)) (λ_=>?_);show Γ ?_;f_len;show ψ ?_;lk;show jg (ys:=wT (Φ cs) (.one (.none p))) ?_ bound (q H1 j);show η.of ?_;rw[e1];show _=some (HO.lst [V.str ("none":Str),V.str (Φ cs p)]);rw[qY B]
  |look l p x=>
   let#[t,rfl,g]:=D;let#[c,B,Z,Ϲ,hh]:=G;let#[wv,J,tc,rfl,n]:=m.get' B;let#[k1,k2,k3,k4]:=YT l;let a:Θ [V.str (aK l),V.int (p:Int),x] 0=some (V.str (aK l)):=rfl;let y:Θ [V.str (aK l),V.int (p:Int),x] 1=some (V.int (p:Int)):=rfl;let L:Θ [V.str (aK l),V.int (p:Int),x] 2=some x:=rfl;w_up;show Μ ?_;lk;show Α (ι.of g) a ?_;lk;show Ε (λh=>absurd h k1) (λ_=>?_);show Γ ?_;w_up;show Μ ?_;lk;show Α (ι.of g) a ?_;lk;show Ε (λh=>absurd h k2) (λ_=>?_);show Γ ?_;k_go;show Α (ι.of g) a ?_;lk;show Α (ι.of g) y ?_;show ϊ (η.of O) (ϒ J) ?_;lk;show Α (ι.of n) (show Θ [V.str c.1,V.str c.2] 0=some (V.str c.1)from rfl) ?_;lk;show#[Β,λz i=>?_];let#[j,e1]:=Ξ i (.lst [.str (aK l),.str c.1]);generalize upd H z (.lst [.str (aK l),.str c.1])=H1 at j e1⊢;w_up;show Μ ?_;lk;show vG (.inr (ι.of (j _ _ g))) ?_;lk;show Ε (λ_=>?_) (λh=>absurd (by show((3:Nat):Int)>2;decide) h);f_len;show aM (bU F.plainAttrs_list F.slot_list_append F.type_list_append (h:=?_));lk;show#[.inl #[rfl,_,η.of e1],?_];lk;show Α (ι.of (j _ _ g)) L ?_;lk;show#[x,c.2,rfl,Z,?_];lk;show dF jY #[z,_,_,rfl,rfl,e1,by show 2<ϯ;omega,?_];let s2:ζ H (upd H1 z (.lst ([.str (aK l),.str c.1]++[.str (wordOf x)]))):=λe u S=>by
    rw[ξ (ϑ S i)];show j _ _ S
   f_len;show ψ ?_;lk;show jg (ys:=wT (Φ cs) (.one (.look l p x))) ?_ bound (q _ s2);show η.of ?_;rw[ς];show _=some (HO.lst [V.str (aK l),V.str (Φ cs p),V.str (wordOf x)]);rw[qY B];rfl
def agp(T:Txt K mg):Def P w K mg base true 2 "_law_sieve_text" ["_law_sieve_here","_law_columns_here"] (Il K mY):=by
 show Δ (S:=Gi) T.wI (λ_ _ _ _ _ H vs Q E a h=>?_);intro X _;let#[v,b,cs,t,rfl,c,hok,e,hs,f,q]:=h;show Uz T (Ϭ _) a c hok e hs f q
def wI(T:Txt K mg):Def P w K mg base true 3 "_law_sieve_text" ["_law_sieve_here","_law_columns_here"] (Il K iU):=by
 show Δ (S:=Gi) T.wI (λ_ _ _ _ _ H vs Q E j h=>?_);intro X _;let#[v,b,cs,t,rfl,g,hok,i,hs,c,q]:=h;cases t with
 |one sv=>show Uz T (by decide) j g hok i hs c q
 |nt t=>
  let hsz:=ϰ;let ln:("not ":Str).length=4:=by fin2
  let p:= @agp P w K mg base T;let#[a,u,rfl,f,l]:=i;w_up;show Μ ?_;lk;show Α (ι.of f) (show Θ [V.str ("not":Str),u] 0=some (V.str ("not":Str))from rfl) ?_;lk;show bj ?_;show Γ ?_;w_up;show Μ ?_;lk;show Α (ι.of f) (show Θ [V.str ("not":Str),u] 0=some (V.str ("not":Str))from rfl) ?_;lk;show bw ?_;f_len;show ψ ?_;lk;show Α (ι.of f) (show Θ [V.str ("not":Str),u] 1=some u from rfl) ?_;lk;show#[u,b,cs,t,rfl,g,hok,l,hs,c,λH1 m=>?_];let hl:=qP.len hok (n:=(wT (Φ cs) t).length) (d:=t.dep) #[t,c,Ϭ _,rfl,Ϭ _];let s:(wT (Φ cs) t).length<=3:=by
   cases t with
   |one sv=>cases sv<;>simp[wT,fO]
   |_=>show hs.elim
  show dq () ?_;let e:adT " " (wT (Φ cs) (.nt t))=Ϫ "not "++adT " " (wT (Φ cs) t):=by
   show adT " " (Ϫ "not"::wT (Φ cs) t)=_;rw[join_cons (JQ (Φ cs) t)];rfl
  rw[e]at q;show q H1 m
inductive Dl (K:Ϩ) (ok:Tr->Prop) (vs:List V) (H:Hp) (Q:VK) (E:XK):Prop
 |mk (v:V) (b:δ) (cs:List θ) (t:Tr) (xs:List V):vs=[v,.ref b]->aX H v t->ok t->gq cs t->H b=some (.lst xs)->ρ (λ(c:θ) x=>ϕ c.2 x) cs xs->Q (.bl (bu xs t)) H->Dl K ok vs H Q E
def ym(T:Txt K mg):Def P w K mg base true 1 "_law_order_text" ["_law_order_here"] Ht:=by
 show Δ (N:=["_law_order_here"]) T.ym (λ_ _ _ _ _ H vs Q E hr h=>?_);intro X _;let#[a,os,rfl,#[vs,L,e],hl,v,q]:=h;let y:(["_law_name","_law_up"]:List Str).Nodup:=by fin2
 let hsz:=ϰ;let M:=e.len;let z:("+":Str).length=1:=by fin2
 let B:("-":Str).length=1:=by fin2
 let O:(" ":Str).length=1:=by fin2
 f_len;show ψ ?_;show bU F.plainAttrs_str F.slot_str_join F.type_str_join (h:=?_);f_are;show#[by rfl,dH (by rfl) ?_];show jP ["_law_name","_law_up"] (σ':=[none,none]) (bN (χ Zu)) ?_;f_are;show#[a,vs,rfl,η.of L,(),λD=>∃G I,D=[G,I],λg i u H'=>∃c,os[i]?=some c/\u=.str (Ϛ c),#[none,none,rfl],λg i u H2 R ys _ _ p=>p,λfp g C s3 H0 i D x J R S hi j m U W=>?_,λg J ys S Y n Z m =>?_]
 .let#[G,I,rfl]:=j;let#[aJ,rfl]:=W;let#[c,s,t,rfl,ht]:=e.get aJ;let hcn:=v c (aaD s);show ao (ι.of (m _ _ ht)) (Κ (ω y (by rfl) (.inl rfl) (.inr rfl) (Κ (ω y (by rfl) (.inl rfl) (.inr rfl) (ak ?_)))));cbv;show je (λh=>?_) (λh=>?_)
  .cbv;show dq (by rw[z];omega) ?_;show#[#[_,_,rfl],#[c,s,by unfold Ϛ;rw[if_pos h]],ζ.refl _]
  .cbv;show dq (by rw[B];omega) ?_;show#[#[_,_,rfl],#[c,s,by unfold Ϛ;rw[if_neg (by rw[h];show aaF)]],ζ.refl _]
 .let ey:=fD (ys:=os) (λc=>V.str (Ϛ c)) (by rw[Y,M]) n;let gD:ys=(os.map Ϛ).map V.str:=by rw[ey,aep];rfl
  subst gD;cbv;show jg (η.of Z) ?_ (q J m);rw[O,aaA];let f:∀l:List Ord,(∀o∈l,o.1.length<=1000)->((l.map Ϛ).map (·.length)).sum<=l.length*1001:=by
   intro l;induction l with
   |nil=>intro _;simp
   |cons o l ih=>
    intro h;let h1:=ih λx hx=>h x (by simp[hx])
    let h2:=h o (by simp);let h3:(Ϛ o).length<=1001:=by
     unfold Ϛ;rw[len_app];split
     .rw[z];omega
     .rw[B];omega
    simp only[ac2,ang,acj];omega
  have:=f os v;omega
def RZ(T:Txt K mg)(hr:Ϙ true k (A.deeper (envOfC "_law_lets" (χ vN) s.heap.objs.size f O)))(M:aX H v t)(hs:mY t)(R:gq cs t)(S:H b=some (.lst xs))(D:ρ (λ(c:θ) x=>ϕ c.2 x) cs xs)(q:Q (.bl (bu xs t)) H):Ι (jd true P w K mg base Tz "_law_lets" (χ vN) f O A outer s H E) (ϖ vN) {nx:=λ_ H'=>Q .non H',rt:=Q} [some v,some (.ref b),none] H:=by
 let nd:=Iv.nd;cases t with
 |nt t=>show hs.elim
 |one sv=>
  cases sv with
  |all=>
   let#[t,rfl,g]:=M;w_up;show Μ ?_;lk;show Α (ι.of g) (show Θ [V.str ("all":Str)] 0=some (V.str ("all":Str))from rfl) ?_;lk;show bw ?_;f_len;show ψ ?_;lk;show q
  |none p=>
   let#[t,rfl,g]:=M;let U:p<cs.length:=R;let#[x,F,J]:=D.get (aaj U);let W:Q (.bl (decide (x=.non))) H:=by
    let e:bu xs (.one (.none p))=decide (x=.non):=by
     show decide ((xs[p]?).getD .non=.non)=_;rw[F];rfl
    rw[e]at q;show q
   let a:Θ [V.str ("none":Str),V.int (p:Int)] 0=some (V.str ("none":Str)):=rfl;let n:Θ [V.str ("none":Str),V.int (p:Int)] 1=some (V.int (p:Int)):=rfl;w_up;show Μ ?_;lk;show Α (ι.of g) a ?_;lk;show bj ?_;show Γ ?_;w_up;show Μ ?_;lk;show Α (ι.of g) a ?_;lk;show bj ?_;show Γ ?_;k_go;show Α (ι.of g) n ?_;show ϊ (η.of S) (ϒ F) ?_;w_up;show Μ ?_;lk;show Α (ι.of g) a ?_;lk;show bw ?_;f_len;show ψ ?_;lk;show Α (ι.of g) a ?_;lk;show bw ?_;lk;show W
  |look l p y=>
   let#[t,rfl,g]:=M;let#[c,X,G,L,hh]:=R;let#[x,F,J]:=D.get X;let#[k1,k2,k3,k4]:=YT l;let e:bu xs (.one (.look l p y))=(!decide (x=.non)&&nD l x y):=by
    show(!decide ((xs[p]?).getD .non=.non)&&nD l ((xs[p]?).getD .non) y)=_;rw[F];rfl
   rw[e]at q;let a:Θ [V.str (aK l),V.int (p:Int),y] 0=some (V.str (aK l)):=rfl;let n:Θ [V.str (aK l),V.int (p:Int),y] 1=some (V.int (p:Int)):=rfl;let u:Θ [V.str (aK l),V.int (p:Int),y] 2=some y:=rfl;w_up;show Μ ?_;lk;show Α (ι.of g) a ?_;lk;show Ε (λh=>absurd h k1) (λ_=>?_);show Γ ?_;w_up;show Μ ?_;lk;show Α (ι.of g) a ?_;lk;show Ε (λh=>absurd h k2) (λ_=>?_);show Γ ?_;k_go;show Α (ι.of g) n ?_;show ϊ (η.of S) (ϒ F) ?_;w_up;show Μ ?_;lk;show Α (ι.of g) a ?_;lk;show Ε (λh=>absurd h k3) (λ_=>?_);lk;show Ε (λI=>?_) (λI=>?_)
   .f_len;show ψ ?_;lk;show Α (ι.of g) a ?_;lk;show Ε (λh=>absurd h k3) (λ_=>?_);rw[decide_eq_true I]at q;let m:decide (V.str (aK l)=V.str ("none":Str))=false:=decide_eq_false k3
    first
     |show q
     |(rw[m];show q)
   rw[decide_eq_false I]at q;let q:Q (.bl (nD l x y)) H:=q;show Γ ?_;w_up;show Μ ?_;lk;show Α (ι.of g) a ?_;lk;let Y:=J.sc;let Z:=G.sc;cases l with
   |holds=>show absurd rfl hs
   |is=>
    show bw ?_;f_len;show ψ ?_;lk;show Α (ι.of g) u ?_;show Kl (xF Y Z) ?_;show q
   |under=>
    show bj ?_;show Γ ?_;f_len;show ψ ?_;lk;show Α (ι.of g) a ?_;lk;show bw ?_;lk;show Α (ι.of g) u ?_;obtain rfl|⟨m,i,rfl,_⟩|⟨m,z,rfl,_⟩:=J
    .show absurd rfl I
    .obtain rfl|⟨_,j,rfl,_⟩|⟨B,z,rfl,_⟩:=G
     .show absurd rfl L
     .lk;show q
     .show absurd m B
    .obtain rfl|⟨B,j,rfl,_⟩|⟨_,z,rfl,_⟩:=G
     .show absurd rfl L
     .show absurd B m
     .lk;show q
   |over=>
    show bj ?_;show Γ ?_;f_len;show ψ ?_;lk;show Α (ι.of g) a ?_;lk;show bj ?_;lk;show Α (ι.of g) u ?_;obtain rfl|⟨m,i,rfl,_⟩|⟨m,z,rfl,_⟩:=J
    .show absurd rfl I
    .obtain rfl|⟨_,j,rfl,_⟩|⟨B,z,rfl,_⟩:=G
     .show absurd rfl L
     .lk;show q
     .show absurd m B
    .obtain rfl|⟨B,j,rfl,_⟩|⟨_,z,rfl,_⟩:=G
     .show absurd rfl L
     .show absurd B m
     .show agJ ?_;show q
def aiB(T:Txt K mg):Def P w K mg base true 1 "_law_lets" ["_law_sieve_here","_law_values_here"] (Dl K mY):=by
 show Δ (S:=Iv) T.zJ (λ_ _ _ _ _ H vs Q E c h=>?_);intro X _;let#[v,b,cs,t,xs,rfl,e,hs,f,g,a,q]:=h;show RZ T c e hs f g a q
def zJ(T:Txt K mg):Def P w K mg base true 2 "_law_lets" ["_law_sieve_here","_law_values_here"] (Dl K iU):=by
 show Δ (S:=Iv) T.zJ (λ_ _ _ _ _ H vs Q E j h=>?_);intro X _;let#[v,b,cs,t,xs,rfl,f,hs,g,i,c,q]:=h;cases t with
 |one sv=>show RZ T j f hs g i c q
 |nt t=>
  let m:= @aiB P w K mg base T;let#[a,u,rfl,e,l]:=f;w_up;show Μ ?_;lk;show Α (ι.of e) (show Θ [V.str ("not":Str),u] 0=some (V.str ("not":Str))from rfl) ?_;lk;show bj ?_;show Γ ?_;w_up;show Μ ?_;lk;show Α (ι.of e) (show Θ [V.str ("not":Str),u] 0=some (V.str ("not":Str))from rfl) ?_;lk;show bw ?_;f_len;show ψ ?_;lk;show Α (ι.of e) (show Θ [V.str ("not":Str),u] 1=some u from rfl) ?_;lk;show#[u,b,cs,t,xs,rfl,l,hs,g,i,c,?_];lk;show q
def kY(H:Hp)(Ϸ:List (Key×V))(rs:List Row):Prop:=ρ (λ(a:Key×V)(r:Row)=>a.1=Sum.inl r.1/\∃l,a.2=.ref l/\H l=some (.lst r.2)) Ϸ rs
theorem kY.keys:∀{Ϸ:List (Key×V)}{rs:List Row},kY H Ϸ rs->Ϸ.map (·.1)=(rs.map Prod.fst).map Sum.inl
 |_,_,.nil=>rfl
 |_,_,.cons h t=>by
  rw[ac2,ac2,ac2,h.1,kY.keys t]
theorem kY.get:∀{Ϸ:List (Key×V)}{rs:List Row},kY H Ϸ rs->(rs.map Prod.fst).Nodup->∀{i:Nat}{r:Row},rs[i]?=some r->∃l,Ϣ Ϸ (Sum.inl r.1)=some (.ref l)/\H l=some (.lst r.2)
 |_,_,.nil,_,i,r,h=>by simp at h
 |kv::Ϸ,c::rs,.cons h t,g,i,r,e=>by
  let#[h1,l,h2,j]:=h;let a:=aid.mp g;cases i with
  |zero=>
   have:c=r:=by simpa using e
   subst this;show#[l,by rw[oG h1,h2],j]
  |succ i=>
   let f:rs[i]?=some r:=by simpa using e
   let#[l',m,n]:=kY.get t a.2 f;show#[l',?_,n];rw[pX (λz=>a.1 ?_)]
   .show m
   .rw[h1]at z;let p:c.1=r.1:=by injection z
    rw[p];show aa6.mpr #[r,aaD f,rfl]
def iw(H H':Hp)(v:V)(r:Row):=∃t l,v=.ref t/\H' t=some (.tup [.int r.1,.ref l])/\H l=some (.lst r.2)
def iw.row(h:iw H H' v r)(s:ζ H H'):aQ H' v r:=by
 let#[t,l,e,e1,a]:=h;show#[t,l,e,e1,s _ _ a]
def iw.same(h:iw H H' v r)(s:ζ H' H2):iw H H2 v r:=by
 let#[t,l,e,e1,a]:=h;show#[t,l,e,s _ _ e1,a]
theorem ϙ.len(h:ϙ cs r):r.2.length=cs.length:=(ρ.len h).symm
theorem akR{α β:Type}{R:α->β->Prop}{l:List α}{m:List β}{a:α}{b:β}{k:Nat}(h:ρ R l m)(r:R a b):ρ R (gO l k a) (gO m k b):=(h.take k).app (.cons r (h.drop k))
theorem aX.stay(s:∀x ys,H x=some (.tup ys)->H' x=some (.tup ys)):∀{t:Tr}{v:V},aX H v t->aX H' v t
 |.one .all,_,⟨t,e,h⟩=>#[t,e,s _ _ h]
 |.one (.none p),_,⟨t,e,h⟩=>#[t,e,s _ _ h]
 |.one (.look l p x),_,⟨t,e,h⟩=>#[t,e,s _ _ h]
 |.nt t,_,⟨a,u,e,h,g⟩=>#[a,u,e,s _ _ h,aX.stay s g]
inductive Ow (K:Ϩ) (vs:List V) (H:Hp) (Q:VK) (E:XK):Prop
 |mk (c b d:δ) (v:V) (t0:Tr) (Ϸ:List (Key×V)) (cs:List θ) (os:List Ord) (rs:List Row):vs=[.ref c,.ref b,v,.ref d]->Τ H c cs->Χ cs=true->ϥ H b os->os.length<=4->c7 cs os->aX H v t0->iU t0->gq cs t0->H d=some (.dK Ϸ)->kY H Ϸ rs->(rs.map Prod.fst).Nodup->rs.length<=60->(∀r∈rs,ϙ cs r)->(∀p ws ls H',ζ H H'->H p=none->H' p=some (.lst ws)->ρ (iw H H') ws ls->Line cs os ls->ls.Perm (rs.filter λr=>bu r.2 t0)->Q (.ref p) H')->Ow K vs H Q E
def Av(T:Txt K mg):Def P w K mg base true 3 "_law_line" ["_law_columns_here","_law_order_here","_law_sieve_here","_law_rows"] (Ow K):=by
 show Δ (S:=SN) T.Av (λ_ _ A _ s H vs Q E hr h=>?_);intro X _;let#[c,b,d,v,t0,Ϸ,cs,os,rs,rfl,MP,hok,QS,ap,y,wF,ar,av,B,Od,ae,hrl,D,q]:=h;show acb B λo=>?_
 let st:∀x u,H x=some u->(∀ks,¬u=.dK ks)->(upd H d (.frz o (.dK Ϸ))) x=some u:=λx u e hu=>by
  rw[ξ (λz=>by rw[z,B]at e;cases e;show hu _ rfl)];show e
 let U6:∀x,(upd H d (.frz o (.dK Ϸ))) x=none->H x=none:=λx e=>by
  by_cases z:x=d
  .rw[z,ς]at e;cases e
  .rw[ξ z]at e;show e
 let hd:(upd H d (.frz o (.dK Ϸ))) d=some (.frz o (.dK Ϸ)):=ς;let hC:Τ (upd H d (.frz o (.dK Ϸ))) c cs:=by
  let#[cv,e1,m]:=MP;show#[cv,st _ _ e1 (λ_ z=>by cases z),m.imp λu k z=>by let#[t,e,h]:=z;show#[t,e,st _ _ h (λ_ z=>by cases z)]]
 let hO:ϥ (upd H d (.frz o (.dK Ϸ))) b os:=by
  let#[ov,e1,m]:=QS;show#[ov,st _ _ e1 (λ_ z=>by cases z),m.imp λu k z=>by let#[t,e,h]:=z;show#[t,e,st _ _ h (λ_ z=>by cases z)]]
 let af:aX (upd H d (.frz o (.dK Ϸ))) v t0:=aX.stay (λx ys e=>st _ _ e (λ_ z=>by cases z)) wF;let hD:kY (upd H d (.frz o (.dK Ϸ))) Ϸ rs:=Od.imp λa r z=>by
  let#[e,l,m,e3]:=z;show#[e,l,m,st _ _ e3 (λ_ z=>by cases z)]
 let fin:∀p ws ls H',ζ (upd H d (.frz o (.dK Ϸ))) H'->H p=none->H' p=some (.lst ws)->ρ (iw (upd H d (.frz o (.dK Ϸ))) H') ws ls->Line cs os ls->ls.Perm (rs.filter λr=>bu r.2 t0)->Q (.ref p) (upd H' d (.dK Ϸ)):=λp ws ls H' n hp f hA hL O=>by
  let aw:p≠d:=λz=>by rw[z,B]at hp;cases hp
  show q p ws ls _ (λx u e=>?_) hp (by rw[ξ aw];show f) (hA.imp λu r z=>?_) hL O
  .by_cases z:x=d
   .rw[z]at e⊢;rw[B]at e;cases e;show ς
   .rw[ξ z];show n _ _ (by rw[ξ z];show e)
  .let#[t,l,e,e1,m]:=z;show#[t,l,e,by rw[ξ (λz=>by rw[z,n _ _ hd]at e1;cases e1)];show e1,?_];rw[ξ (λz=>by rw[z,hd]at m;cases m)]at m;show m
 let ax:∀o u,¬H d=some (.frz o u):=λo u z=>by rw[B]at z;cases z
 let ag:∀p,(upd H d (.frz o (.dK Ϸ))) p=none->H p=none:=U6;clear q MP QS wF Od st U6;generalize upd H d (.frz o (.dK Ϸ))=HZ at hd hC hO af hD fin ag⊢;let nd:=SN.nd;let ab:=ad1 (aeA (show 1<=64 by decide) _) hr.units;let hsz:=ϰ;let#[c1,c6]:=pq hok;let D1:= @uE P w K mg base T;let D2:= @Bl P w K mg base T;let D3:= @zJ P w K mg base T;k_go;show#[Β,λp hp=>?_];let#[aL,ep]:=Ξ hp (.lst []);generalize upd HZ p (.lst [])=H0 at aL ep⊢;w_up;show aho (by walk_at"po") (by rfl) (by intro _;rfl) ?_;lk;show#[d,o,Ϸ,rs.map Prod.fst,rfl,aL _ _ hd,hD.keys,λi σ H'=>(∃o5 o6 o7 o8,σ=[some (.ref c),some (.ref b),some v,some (.ref d),some (.ref p),o5,o6,o7,o8])/\ζ HZ H'/\∃ws ls,H' p=some (.lst ws)/\ρ (iw HZ H') ws ls/\Line cs os ls/\ls.Perm ((rs.take i).filter λr=>bu r.2 t0),#[#[none,none,none,none,rfl],aL,[],[],ep,.nil,.nil,List.Perm.refl _],λi σ' H' G=>G.2.1 _ _ hd,λi k σ' H' hk G=>?_,λσ' H' G=>?_]
 .let#[#[o5,o6,o7,o8,rfl],n,ws,ls,f,I,hL,O]:=G;rw[abI]at hk;let#[r,J,rfl]:=amj.mp hk;let ay:=aaD J;let jk:=D r ay;let hi:=(aat.mp J).1;let Z:∀r∈ls,r∈rs.take i:=λr hr=>(ai5.mp (O.mem_iff.mp hr)).1
  let hll:ls.length<=i:=by
   rw[O.length_eq];show ad8 (aiu _ _) (by rw[adg];omega)
  let L:rs.take (i+1)=rs.take i++[r]:=by rw[anf,J];rfl
  let aC:=I.len;let#[l,ah,Iu]:=hD.get ae J;let dg:∀{H2:Hp},ζ HZ H2->Ϝ H2 d (.int r.1) (some (.ref l)):=λs2=>.inl #[Ϸ,Sum.inl r.1,.inr #[o,s2 _ _ hd],rfl,ah.symm]
  show ω nd (by rfl) (.inl rfl) (.inl rfl) ?_;f_len;show Μ ?_;lk;show bV ab (dg n) ?_;lk;show#[v,l,cs,t0,r.2,rfl,af.same n,ar,av,n _ _ Iu,jk,?_];cases hlt:bu r.2 t0 with
  |false=>
   lk;show Γ #[#[_,_,_,_,rfl],n,ws,ls,f,I,hL,?_];rw[L,aqG,List.filter_cons_of_neg (by rw[hlt];show aaF),ar3,aoJ];show O
  |true=>
  lk;k_go;show bV ab (dg n) ?_;lk;show#[Β,λt ht=>?_];let s1:ζ H' (upd H' t (.tup [.int r.1,.ref l])):=ζ.upd ht;let e1:(upd H' t (.tup [.int r.1,.ref l])) t=some (.tup [.int r.1,.ref l]):=ς;generalize upd H' t (.tup [.int r.1,.ref l])=H1 at s1 e1⊢;let Λ :=n.trans s1;lk;show#[c,b,_,cs,os,r,rfl,hC.same Λ,hO.same Λ,#[t,l,rfl,e1,Λ _ _ Iu],jk.len,(),(),y,λkp kl H2 s2 ap9 ao4 aD aE=>?_];let Η :=Λ.trans s2;k_go;let R:=s2 _ _ (s1 _ _ f);let Vx:ρ (iw HZ H2) ws ls:=I.imp λu q x=>(x.same s1).same s2
  let kr:=cY jk y;let ai:∀q∈ls,q∈rs:=λq hq=>adM (Z q hq)
  w_up;show rP (by walk_at"po") (by rfl) (by intro _;rfl) ?_;lk;show#[p,ws,rfl,η.of R,λj σ H'=>(∃o8,σ=[some (.ref c),some (.ref b),some v,some (.ref d),some (.ref p),some (.int r.1),some (.ref kp),some (.int ((ls.take j).countP λq=>cX cs os q r:Nat)),o8])/\ζ H2 H',#[#[_,rfl],ζ.refl _],λj σ' H' _ G=>η.of (G.2 _ _ R),λj x σ' H3 hx G=>?_,λσ' H3 G=>?_]
  .let#[#[aI,rfl],U]:=G;let#[M,hq,aj]:=Vx.get hx;let aJ:=ai M (aaD hq);let al:=D M aJ;let g:=Η.trans U;show ω nd (by rfl) (.inl rfl) (.inl rfl) ?_;f_len;show Μ ?_;lk;show#[c,b,x,cs,os,M,rfl,hC.same g,hO.same g,(aj.row Η).same U,al.len,(),(),y,λaP aS H4 W _ _ aT aY=>?_];let Ο :=g.trans W;let kq:=cY al y;let#[x1,x2,x3]:=kq.aF kr;lk;show#[b,aP,kp,os,_,_,M.1,r.1,rfl,hO.same Ο,#[aS,aT,aY],#[kl,W _ _ (U _ _ aD),W _ _ (U _ _ aE)],x1,x2,ap,x3,λH5 s5=>?_];let Nk:=(U.trans W).trans s5;let Y:(ls.take (j+1)).countP (λq=>cX cs os q r)=(ls.take j).countP (λq=>cX cs os q r)+(if cX cs os M r=true then 1 else 0):=by
    rw[anf,hq,arz]
    congr 1
    show aso _ [M]=_;rw[arV,ar4,akh]
   rw[show ϣ os (Ν cs os M.2) (Ν cs os r.2) M.1 r.1=cX cs os M r from rfl];cases Nj:cX cs os M r with
   |true=>
    rw[Nj,if_pos rfl]at Y;lk;f_len;f_tup;lk;show#[#[some x,?_],Nk];rw[Y];rfl
   |false=>
    rw[Nj,if_neg aaF,arG]at Y;lk;show Γ #[#[some x,?_],Nk];rw[Y];rfl
  .let#[#[aI,rfl],U]:=G;rw[aC,ajR];let g:=Η.trans U;let am:=U _ _ R;let hcl:=ap0 (p:=λq=>cX cs os q r) (l:=ls);f_len;show aM (bU F.plainAttrs_list F.slot_list_insert F.type_list_insert (h:=?_));f_are;show#[.inl #[rfl,_,η.of am],?_];lk;show bV ab (dg g) ?_;lk;show#[Β,λt2 bY=>?_];let#[W,e4]:=Ξ bY (.tup [.int r.1,.ref l]);generalize upd H3 t2 (.tup [.int r.1,.ref l])=H4 at W e4⊢;let Th:=W _ _ am;lk;show dF Z8 #[p,ws,ls.countP λq=>cX cs os q r,_,rfl,rfl,Th,(),(),?_];show#[#[_,_,_,_,rfl],λe u he=>?_,gO ws (ls.countP λq=>cX cs os q r) (.ref t2),gO ls (ls.countP λq=>cX cs os q r) r,ς,akR (Vx.imp λu q x=>?_) ?_,ahk y (λq hq=>D q (ai q hq)) jk hL (λq hq e=>?_),?_]
   .rw[ξ (ϑ he hp)];show W _ _ (g _ _ he)
   .let#[tq,lq,rfl,ac,a0]:=x;let nt:tq≠p:=λe=>by rw[e,R]at ac;cases ac
    show#[tq,lq,rfl,by rw[ξ nt];show W _ _ (U _ _ ac),a0]
   .let nt:t2≠p:=λe=>by rw[e,Th]at e4;cases e4
    show#[t2,l,rfl,by rw[ξ nt];show e4,Iu]
   .let#[j,hj,ej]:=aqx (Z q hq);let hj':j<i:=by rw[adg]at hj;omega
    let m:rs[j]?=some q:=by
     rw[List.getElem_take]at ej;rw[<-ej];show aaj _
    let e3:(rs.map Prod.fst)[j]?=(rs.map Prod.fst)[i]? :=by rw[abI,abI,m,J];show congrArg some e
    let a1:j<(rs.map Prod.fst).length:=by rw[aaA];omega
    let a2:i<(rs.map Prod.fst).length:=by rw[aaA];omega
    rw[aaj a1,aaj a2]at e3;have:=(aoj ae).mp (Option.some.inj e3);omega
   .rw[L,aqG,show(([r]:List Row).filter λr=>bu r.2 t0)=[r]from by rw[al3,if_pos hlt,ar3]];unfold gO;show List.perm_middle.trans ?_;rw[arc];show(List.Perm.cons r O).trans (List.perm_append_singleton r _).symm
 .let#[#[o5,o6,o7,o8,rfl],n,ws,ls,f,I,hL,O]:=G;rw[aaA,ajR]at O;show ado (n _ _ hd) ax ?_;f_len;show ψ ?_;lk;show fin p ws ls H' n (ag p hp) f I hL O
inductive YX (K:Ϩ) (mg:Str->Option ε) (t:Tr) (vs:List V) (H:Hp) (Q:VK) (E:XK):Prop
 |mk (a p:δ) (z:Str) (rs:List Row):vs=[.ref a,.ref p]->eO mg H t a z->fB H p rs->rs.length<=1000->(∀r∈rs,yu r.2 t)->(∀q ws H',ζ H H'->H q=none->H' q=some (.lst ws)->ρ (iw H H') ws (rs.filter λr=>bu r.2 t)->Q (.ref q) H')->YX K mg t vs H Q E
def al2(rs:List Row)(f:Row->Bool):(j9 (λi=>f (rs.getD i (0,[]))) rs.length).map (λi=>rs.getD i (0,[]))=rs.filter f:=by
 unfold j9;let h:=map_getD (0,[]) rs
 conv=>rhs;rw[<-h]
 rw[List.filter_map];rfl
theorem KR{α β c:Type}{R:α->c->Prop}(g:β->c):∀{l:List α}{m:List β},ρ (λa b=>R a (g b)) l m->ρ R l (m.map g)
 |_,_,.nil=>.nil
 |_,_,.cons h t=>.cons h (KR g t)
def Fv(T:Txt K mg)(t:Tr):Def P w K mg base true (4+t.dep) "let_through" ["sieve","rows"] (YX K mg t):=by
 rw[show 4+t.dep=(3+t.dep)+1 by omega];show Δ (N:=["sieve","rows"]) T.Fv (λ_ _ _ _ _ H vs Q E W h=>?_);intro X _;let#[a,p,z,rs,rfl,I,#[ws,Y,g],hl,Z,q]:=h;let hsz:=ϰ;let s:=g.len;let J:(["row","values","sieve"]:List Str).Nodup:=by fin2
 f_len;show ψ ?_;show acS ["row","values","sieve"] (σ':=[none,none,some (.ref a)]) (by rfl) (by rfl) (bN (χ VR)) (by intro _;rfl) ?_;lk;show#[p,ws,rfl,η.of Y,(),λL=>∃M O,L=[M,O,some (.ref a)],λi=>bu (rs.getD i (0,[])).2 t,λj i u H'=>u≠.ref j/\iw H H' u (rs.getD i (0,[])),#[none,none,rfl],λj i v H2 H3 ys hE hk h=>?_,λfp j C s3 H0 i L x H2 R hx y f c=>?_,λj H2 us R e2 S f=>?_]
 .let#[h0,B,l,e,h1,h2]:=h;show#[h0,B,l,e,hk _ _ (λz=>by rw[z,hE]at h1;cases h1) h1,h2]
 .let#[M,O,rfl]:=y;let#[r,m,tr,U,rfl,D,n]:=g.get hx;let#[ys,c]:=c;let F:rs.getD i (0,[])=r:=by rw[abJ,m];rfl
  let#[da,fa,ea,la]:=(I.same f).ins;show ao (ι.of (f _ _ D)) (Κ (ω J (by rfl) (.inl rfl) (.inr rfl) (Κ (ω J (by rfl) (.inl rfl) (.inr rfl) (ak ?_)))));show PN (λ_=>by rfl) ?_;show dR (pl:=_) W (by walk_at"xo") (by rfl) (by rfl) (by rfl) ?_;f_are;show#[a,iI mg t,da,_,true,3+t.dep,_,sX K mg t,rfl,ea,la,WD T t,Ϭ _,id,?_];lk;show#[a,U,z,r.2,rfl,I.same f,η.of (f _ _ n),Z r (aaD m),?_];show#[_,rfl,(by show bu r.2 t=bu (rs.getD i (0,[])).2 t;rw[F]),#[_,_,rfl],ζ.refl _,λ_=>?_];lk;show#[Β,λB G=>?_];show#[#[λz=>?_,B,U,rfl,by rw[F];show ς,by rw[F];show n],ζ.upd G];injection z with z
  rw[z,c]at G;cases G
 .rw[s]at S;let Ge:ρ (iw H H2) us (rs.filter λr=>bu r.2 t):=by
   rw[<-al2 rs λr=>bu r.2 t];show KR _ (S.imp λu i z=>by
    show z.2)
  show q j us H2 f R e2 Ge
theorem yo{os:List Ord}(c:c7 cs os):∀{l m:List Row},(∀r∈l,ϙ cs r)->l.Perm m->Line cs os l->Line cs os m->l=m
 |[],m,_,h,_,_=>List.Perm.nil_eq h
 |a::l,[],_,h,_,_=>absurd h.length_eq (by simp)
 |a::l,b::m,i,h,h1,h2=>by
  let f:=amt.mp h1;let g:=amt.mp h2;let e:a=b:=by
   let ha:a∈b::m:=h.mem_iff.mp (by simp);let hb:b∈a::l:=h.mem_iff.mpr (by simp);obtain e|ha:=ϳ.mp ha
   .show e
   .obtain e|hb:=ϳ.mp hb
    .show e.symm
    .let x1:cX cs os a b=true:=f.1 b hb;let x2:cX cs os b a=true:=g.1 a ha;let j:=cY (i a (by simp)) c;let n:=cY (i b (by simp[hb])) c;let x3:ϣ os (Ν cs os a.2) (Ν cs os a.2) a.1 a.1=true:=BJ j n j x1 x2;rw[uq (ajr cs os a.2)]at x3;show absurd (of_decide_eq_true x3) ()
  subst e;rw[yo c (λr p=>i r (by simp[p])) (List.Perm.cons_inv h) f.2 g.2]
theorem Qo{α:Type}:∀{m:List (Int×α)}{p:Int×α},(m.map (·.1)).Nodup->p∈m->Υ m p.1=some p.2
 |q::m,p,f,hp=>by
  let a:=aid.mp f;obtain rfl|hp:=ϳ.mp hp
  .unfold Υ;rw[adk,decide_eq_true rfl];rfl
  .let g:¬q.1=p.1:=λe=>a.1 (aa6.mpr #[p,hp,e.symm])
   let c:=Qo a.2 hp;unfold Υ at c⊢;rw[adk,decide_eq_false g];show c
def aev(a:(rows.map (·.1)).Nodup)(h:ks.Perm (rows.map (·.1))):(gZ rows ks).Perm rows:=by
 let h1:(gZ rows ks).Perm (gZ rows (rows.map (·.1))):=h.map _;let h2:gZ rows (rows.map (·.1))=rows:=by
  unfold gZ;rw[aep];have:rows.map ((λk=>(k,(Υ rows k).getD []))∘λx=>x.1)=rows.map id:=aqA λp c=>by
   show(p.1,(Υ rows p.1).getD [])=p;rw[Qo a c];rfl
  rw[this,aqT]
 rw[h2]at h1;show h1
inductive PL (K:Ϩ) (vs:List V) (H:Hp) (Q:VK) (E:XK):Prop
 |mk (a:δ) (ns:List Int) (k:Int):vs=[.ref a,.int k]->η K H a (ns.map V.int)->ns.length<=63->0<=k->k<=40000->(∀n:Int,1<=n->n<=100->Q (.int n) H)->PL K vs H Q E
def Jg(T:Txt K mg):Def P w K mg base true 2 "_law_some_size" ["_law_script","_law_k"] (PL K):=by
 show Δ (S:=V5) T.Jg (λ_ _ A _ _ H vs Q E j h=>?_);intro X _;let#[a,ns,k,rfl,c,hl,e,f,q]:=h;let nd:=V5.nd;let l:= @gQ P w K mg base T;k_go;show#[a,ns,k,8,rfl,c,hl,(),(),by decide,?_];generalize ϓ ns k 8=g;w_up;show Μ ?_;lk;show Ε (λ_=>?_) (λ_=>?_)
 .f_len;show ψ ?_;lk;show q 100 (by decide) (by decide)
 show Γ ?_;f_len;show ψ ?_;lk;show Ε (λ_=>?_) (λ_=>?_)
 .lk;show#[a,ns,k+1,30,rfl,c,hl,(),(),by decide,?_];let i:=aN ns (k+1) (m:=30) (by decide);let h1:=aZ ns (k+1) (m:=30) (by decide);lk;show q _ () ()
 .lk;show#[a,ns,k+1,4,rfl,c,hl,(),(),by decide,?_];let i:=aN ns (k+1) (m:=4) (by decide);let h1:=aZ ns (k+1) (m:=4) (by decide);lk;show q _ () ()
theorem abe(h:ρ (λ(c:θ) x=>ϕ c.2 x) cs xs):∀{sv:dU},vK cs sv->Px xs sv
 |.all,_=>trivial
 |.none p,f=>by
   have:=h.len;show p<xs.length;let q:p<cs.length:=f;omega
 |.look l p v,f=>by
   let#[c,s,m,n,hh]:=f;let#[x,u,B]:=h.get s;show#[x,u,?_];obtain e|⟨a,i,rfl,_⟩|⟨a,y,rfl,_⟩:=B
   .show .inl e
   .right;obtain e|⟨_,j,rfl,_⟩|⟨g,_⟩:=m
    .show absurd e n
    .cases l with
     |holds=>rw[hh rfl]at a;show absurd a (by fin2)
     |is=>show#[rfl,rfl,.inr (.inr (.inl #[i,j,rfl,rfl]))]
     |under=>show#[rfl,rfl,.inr (.inr (.inl #[i,j,rfl,rfl]))]
     |over=>show#[rfl,rfl,.inr (.inr (.inl #[i,j,rfl,rfl]))]
    .show absurd a g
   .right;obtain e|⟨g,_⟩|⟨_,z,rfl,_⟩:=m
    .show absurd e n
    .show absurd g a
    .cases l with
     |holds=>show#[y,z,rfl,rfl]
     |is=>show#[rfl,rfl,.inr (.inr (.inr #[y,z,rfl,rfl]))]
     |under=>show#[rfl,rfl,.inr (.inr (.inr #[y,z,rfl,rfl]))]
     |over=>show#[rfl,rfl,.inr (.inr (.inr #[y,z,rfl,rfl]))]
theorem Rf(h:ρ (λ(c:θ) x=>ϕ c.2 x) cs xs):∀{t:Tr},gq cs t->yu xs t
 |.one s,a=>abe h a
 |.nt t,a=>Rf h (t:=t) a
def _root_._V.Out.seq(o:Out S H H')(c:a∉S)(h:η K H a xs):η K H' a xs:=by
 rcases h with(h|⟨u,h⟩)|h
 .show .inl (.inl (o _ _ c h))
 .show .inl (.inr #[u,o _ _ c h])
 .show .inr h
def abi(h:η K H a xs):H a≠none\/∀H',η K H' a xs:=by
 rcases h with(h|⟨u,h⟩)|h
 .show .inl (by rw[h];nofun)
 .show .inl (by rw[h];nofun)
 .show .inr λ_=>.inr h
def zu{L:List δ}(h:L.Nodup)(is f:List Nat)(hd:∀i∈is,i∉f):∀x∈is.filterMap (λi=>L[i]?),x∉f.filterMap (λi=>L[i]?):=by
 intro x p q;let#[i,hi,g]:=ake.mp p;let#[j,s,l]:=ake.mp q;let a:=(aat.mp g).1;let c:=(aat.mp l).1;let e1:=(aat.mp g).2;let m:=(aat.mp l).2;let e:i=j:=by
  let n:=aoe.mp h;obtain z|z|z:=Nat.lt_trichotomy i j
  .show absurd (e1.trans m.symm) (n i j a c z)
  .show z
  .show absurd (m.trans e1.symm) (n j i c a z)
 subst e;show hd i hi s
def NT(H:Hp)(S:List δ):=∀x∈S,∀ys,H x≠some (.tup ys)
theorem NT.tup(h:NT H S)(o:Out S H H'):∀b ys,H b=some (.tup ys)->H' b=some (.tup ys):=λb ys e=>o b _ (λz=>h b z ys e) e
def _root_._V.BA.six(A:BA):List δ:=[A.h,A.r,A.t,A.d,A.b,A.dx]
def _root_._V.Ω.Jm(k:Ω C H A B):A.six.Nodup:=by
 let#[n1,n2,l,m,n,p,q,s,u,a,v,c]:=k.ne;let f:=k.rt;let g:=k.hd;let i:A.h≠A.dx:=λe=>by
  let#[_,j,_]:=k.heads;let h2:=k.own;rw[e,h2]at j;cases j
 simp only[BA.six,aid,ϳ,aew,or_false,not_or,not_false_eq_true,List.nodup_nil,and_true];show#[#[Ne.symm q,Ne.symm a,g,Ne.symm n2,i],#[f,s,Ne.symm l,p],#[v,Ne.symm m,u],#[Ne.symm n,c],n1]
def _root_._V.Ω.Rn(k:Ω C H A B):∀x∈A.six,H x≠none:=by
 intro x c;let a:x=A.h\/x=A.r\/x=A.t\/x=A.d\/x=A.b\/x=A.dx:=by simpa [BA.six]using c
 let#[_,e,_]:=k.heads;let#[_,f,_]:=k.rows;let#[_,g,_]:=k.touched;let#[_,i,_]:=k.done;obtain rfl|rfl|rfl|rfl|rfl|rfl:=a
 .rw[e];nofun
 .rw[f];nofun
 .rw[g];nofun
 .rw[i];nofun
 .rw[k.ins];nofun
 .rw[k.own];nofun
def aiU{A:BA}(c:x∈[A.b,A.dx,A.h,A.r,A.t,A.d]):x∈A.six:=by
 let a:x=A.b\/x=A.dx\/x=A.h\/x=A.r\/x=A.t\/x=A.d:=by simpa using c
 obtain rfl|rfl|rfl|rfl|rfl|rfl:=a<;>simp[BA.six]
theorem _root_._V.Ω.out(k:Ω C H A B)(o:Out S H H')(nt:NT H S)(a:∀x∈A.six,x∉S):Ω C H' A B:=
 k.stay (nt.tup o) λx u c e=>o x u (a x (aiU c)) e
theorem _root_._V.Τ.out(h:Τ H a cs)(o:Out S H H')(nt:NT H S)(c:a∉S):Τ H' a cs:=h.stay (λxs e=>o _ _ c e) (nt.tup o)
def made{H H':Hp}{y dx:δ}{A:BA}(f:H y=none)(a:H dx=none)(i:A.b=y)(j:A.dx=dx)(l:(upd (upd H dx (.own y)) y (.ins C dx [])) A.h=none)(m:(upd (upd H dx (.own y)) y (.ins C dx [])) A.r=none)(n:(upd (upd H dx (.own y)) y (.ins C dx [])) A.t=none)(p:(upd (upd H dx (.own y)) y (.ins C dx [])) A.d=none)(o:Out [y] (upd (upd H dx (.own y)) y (.ins C dx [])) H'):ζ H H'/\∀x∈A.six,H x=none:=by
 let c:ζ H (upd (upd H dx (.own y)) y (.ins C dx [])):=λb u e=>by
  rw[ξ (λz=>by rw[z,f]at e;cases e),ξ (λz=>by rw[z,a]at e;cases e)];show e
 show#[λb u e=>o b u (λz=>by rw[abv.mp z,f]at e;cases e) (c b u e),λx q=>?_];let g:x=A.h\/x=A.r\/x=A.t\/x=A.d\/x=A.b\/x=A.dx:=by simpa [BA.six]using q
 obtain rfl|rfl|rfl|rfl|rfl|rfl:=g
 .show c.free l
 .show c.free m
 .show c.free n
 .show c.free p
 .rw[i];show f
 .rw[j];show a
def LR(F:List δ)(H:Hp)(v:V)(xs:List V):=∃l,v=.ref l/\H l=some (.lst xs)/\l∉F
def amZ(F:List δ)(H:Hp)(a:δ)(m:List (Int×List V)):Prop:=DictAt (LR F H) H a m
def LR.stay(h:LR F H v xs)(s:∀b ys,b∉F->H b=some (.lst ys)->H' b=some (.lst ys)):LR F H' v xs:=by
 let#[l,e,h1,h2]:=h;show#[l,e,s _ _ h2 h1,h2]
def lA(cs:List θ)(xs:List V):Prop:=ρ (λc x=>ϕ c.2 x) cs xs
def stK(r s:δ)(n:Int):List (Key×V):=[(Sum.inr ("rows":Str),.ref r),(Sum.inr ("since":Str),.ref s),(Sum.inr ("moment":Str),.int n)]
def key_ne:¬(Sum.inr ("rows":Str):Key)=Sum.inr ("since":Str)/\¬(Sum.inr ("rows":Str):Key)=Sum.inr ("moment":Str)/\¬(Sum.inr ("since":Str):Key)=Sum.inr ("moment":Str):=by
 show#[?_,?_,?_]<;>intro e<;>injection e with e<;>show absurd e (by fin2)
theorem alH(r s:δ)(n:Int):Ϣ (stK r s n) (Sum.inr ("rows":Str))=some (.ref r):=oG rfl
def agI(r s:δ)(n:Int):Ϣ (stK r s n) (Sum.inr ("since":Str))=some (.ref s):=by
 unfold stK;rw[pX key_ne.1,oG rfl]
def afg(r s:δ)(n:Int):Ϣ (stK r s n) (Sum.inr ("moment":Str))=some (.int n):=by
 unfold stK;rw[pX key_ne.2.1,pX key_ne.2.2,oG rfl]
def acx(r s:δ)(n m:Int):putK (stK r s n) (Sum.inr ("moment":Str)) (.int m)=stK r s m:=by
 unfold putK stK;simp[key_ne.2.1,key_ne.2.2]
def ahF(r s:δ):lX [] [(Sum.inr ("rows":Str),V.ref r),(Sum.inr ("since":Str),V.ref s),(Sum.inr ("moment":Str),V.int 0)]=stK r s 0:=by
 simp[lX,putK,stK,key_ne.1,key_ne.2.1,key_ne.2.2]
def lR(e:H d=some (.dK (stK r s n))):Ϝ H d (.str ("rows":Str)) (some (.ref r)):=by
 have:=Ϝ.k (k:=Sum.inr ("rows":Str)) e;rw[alH]at this;show this
def HF(e:H d=some (.dK (stK r s n))):Ϝ H d (.str ("since":Str)) (some (.ref s)):=by
 have:=Ϝ.k (k:=Sum.inr ("since":Str)) e;rw[agI]at this;show this
def tZ(e:H d=some (.dK (stK r s n))):Ϝ H d (.str ("moment":Str)) (some (.int n)):=by
 have:=Ϝ.k (k:=Sum.inr ("moment":Str)) e;rw[afg]at this;show this
def Ni(e:H d=some (.dK (stK r s n))):fH H d (.str ("moment":Str)) (.int m) (upd H d (.dK (stK r s m))):=by
 have:=fH.k (k:=Sum.inr ("moment":Str)) (v:=.int m) e (by let hsz:ϯ=16777216:=ϰ;rw[hsz];show 3<16777216;decide);rw[acx]at this;show this
structure ύ(mg:Str->Option ε)(F:List δ)(A:BA)(d r s:δ)(H:Hp)(B:Bk)(n:Int)(m:List (Int×List V))(sn:List (Int×Int)):Prop where
 bk:Ω (cB mg) H A B
 st:H d=some (.dK (stK r s n))
 ro:amZ F H r m
 si:DictAt yR H s sn
structure jA(A:BA)(d r s:δ)(F:List δ):Prop where
 nd:[A.h,A.r,A.t,A.d,A.b,A.dx,d,r,s].Nodup
 inF:∀x∈d::r::s::A.fp,x∈F
section
variable{F:List δ}{A:BA}{d r s:δ}{H H':Hp}{B B':Bk}{n:Int}{m m':List (Int×List V)}{sn qz:List (Int×Int)}
def ύ.same(h:ύ mg F A d r s H B n m sn)(a:ζ H H'):ύ mg F A d r s H' B n m sn:=by
 let#[k1,e1,h1]:=h.ro;let#[k2,c,h2]:=h.si;show#[h.bk.same a,a _ _ h.st,#[k1,a _ _ e1,il h1 λv x z=>z.stay λb ys _ e=>a _ _ e],#[k2,a _ _ c,h2]]
def ύ.dicts(h:ύ mg F A d r s H B n m sn):∀x∈[d,r,s],∃Ϸ,H x=some (.dK Ϸ):=by
 let#[k1,e1,_]:=h.ro;let#[k2,c,_]:=h.si;intro x e;let a:x=d\/x=r\/x=s:=by simpa using e
 obtain rfl|rfl|rfl:=a
 .show#[_,h.st]
 .show#[_,e1]
 .show#[_,c]
def ύ.Fg(f:jA A d r s F)(h:ύ mg F A d r s H B n m sn)(c:x∈[d,r,s]):Ω (cB mg) (upd H x o) A B:=by
 let#[Ϸ,e]:=h.dicts x c;show h.bk.out (S:=[x]) (Out.upd (by simp)) (λy a ys z=>by rw[abv.mp a,e]at z;cases z) λy a g=>?_
 rw[abv.mp g]at a;show zu f.nd [0,1,2,3,4,5] [6,7,8] (by decide) x a c
def ύ.ne(a:jA A d r s F):d≠r/\d≠s/\r≠s:=by
 let h1:=zu a.nd [6] [7,8] (by decide) d (by simp);let h2:=zu a.nd [7] [8] (by decide) r (by simp);show#[λe=>h1 (by simp[e]),λe=>h1 (by simp[e]),λe=>h2 (by simp[e])]
def ύ.setM(a:jA A d r s F)(h:ύ mg F A d r s H B n m sn)(c:Int):ύ mg F A d r s (upd H d (.dK (stK r s c))) B c m sn:=by
 let#[n1,n2,i]:=ύ.ne a;let#[k1,e1,h1]:=h.ro;let#[k2,f,h2]:=h.si;show#[h.Fg a (by simp),ς,#[k1,by rw[ξ (Ne.symm n1)];show e1,il h1 λv x z=>z.stay λb ys g e=>?_],#[k2,by rw[ξ (Ne.symm n2)];show f,h2]];rw[ξ (λz=>g (by rw[z];show a.inF _ (by simp)))];show e
def ύ.qJ(a:jA A d r s F)(h:ύ mg F A d r s H B n m sn)(c:ρ (PR (LR F H)) Ϸ m'):ύ mg F A d r s (upd H r (.dK Ϸ)) B n m' sn:=by
 let#[n1,n2,f]:=ύ.ne a;let#[k2,g,h2]:=h.si;show#[h.Fg a (by simp),by rw[ξ n1];show h.st,#[Ϸ,ς,il c λv x z=>z.stay λb ys i e=>?_],#[k2,by rw[ξ (Ne.symm f)];show g,h2]];rw[ξ (λz=>i (by rw[z];show a.inF _ (by simp)))];show e
def ύ.Uh(a:jA A d r s F)(h:ύ mg F A d r s H B n m sn)(c:ρ (PR yR) Ϸ qz):ύ mg F A d r s (upd H s (.dK Ϸ)) B n m qz:=by
 let#[n1,n2,f]:=ύ.ne a;let#[k1,e1,h1]:=h.ro;show#[h.Fg a (by simp),by rw[ξ n2];show h.st,#[k1,by rw[ξ f];show e1,il h1 λv x z=>z.stay λb ys g e=>?_],#[Ϸ,ς,c]];rw[ξ (λz=>g (by rw[z];show a.inF _ (by simp)))];show e
def ύ.book(c:jA A d r s F)(h:ύ mg F A d r s H B n m sn)(o:Out A.fp H H')(k:Ω (cB mg) H' A B'):ύ mg F A d r s H' B' n m sn:=by
 let a:=zu c.nd [6,7,8] [4,1,2,3] (by decide);let#[k1,e1,h1]:=h.ro;let#[k2,f,h2]:=h.si;show#[k,o _ _ (a d (by simp)) h.st,#[k1,o _ _ (a r (by simp)) e1,il h1 λv x z=>z.stay λb ys g e=>o _ _ (λz=>g (c.inF _ (by simp[z]))) e],#[k2,o _ _ (a s (by simp)) f,h2]]
end
def akF(h:η K H a xs)(e:H d=some (.dK Ϸ)):η K (upd H d o) a xs:=by
 rcases h with(h|⟨u,h⟩)|h
 .show .inl (.inl (by rw[ξ (λz=>by rw[z,e]at h;cases h)];show h))
 .by_cases z:a=d
  .rw[z,e]at h;cases h
  .show .inl (.inr #[u,by rw[ξ z];show h])
 .show .inr h
def akm(h:Τ H a cs)(e:H d=some (.dK Ϸ)):Τ (upd H d o) a cs:=by
 show h.stay (λxs c=>?_) (λb ys c=>?_)
 .rw[ξ (λz=>by rw[z,e]at c;cases c)];show c
 .rw[ξ (λz=>by rw[z,e]at c;cases c)];show c
end
end _K
namespace _K
open PySem _L PyProof.Rows _M _V _W
section
variable{P:Ϯ}{w:ϭ}{K:Ϩ}{mg:Str->Option ε}{base:ϫ}
def Zw:List π->List π
 |(.If _ t _ _)::_=>t
 |_=>[]
def cJ:List Int:=[3,0,7,1000000000,12,5,1,999]
def qK(sn:List (Int×Int))(row n:Int):Option (List V)->List (Int×Int)
 |none=>sn
 |some _=>cG sn row n
inductive Q7 (K:Ϩ) (mg:Str->Option ε) (vs:List V) (H:Hp) (Q:VK) (E:XK):Prop
 |mk (F:List δ) (A:BA) (B:Bk) (sc c d r s:δ) (ns:List Int) (k:Int) (sn:List (Int×Int)):vs=[.ref sc,.int k,.ref c,.ref A.b,.ref d]->η K H sc (ns.map V.int)->ns.length<=63->0<=k->k<=30000->Τ H c B.heads->B.heads.length<=6->ύ mg F A d r s H B B.now B.rows sn->jA A d r s F->(∀x∈F,H x≠none)->rQ B->j7 B->sn.length<1000000->(∀i xs,Υ B.rows i=some xs->lA B.heads xs)->(∀row o H',row∈cJ->(Υ B.rows row=none->o≠none)->(∀xs,o=some xs->lA B.heads xs)->Out (d::r::s::A.fp) H H'->ύ mg F A d r s H' (aW B row o) (B.now+1) (aW B row o).rows (qK sn row (B.now+1) o)->Q (.int row) H')->Q7 K mg vs H Q E
def Bq(T:Txt K mg):Def P w K mg base true 7 "_law_deed" ["_law_script","_law_k","_law_columns_here","_law_book","_law_state"] (Q7 K mg):=by
 show Δ (S:=Sx) T.Bq (λf Ϻ A' outer s0 H vs Q E hr h=>?_);intro X _;let#[F,A,B,sc,c,d,r,s,ns,k,sn,rfl,hS,hl,k0,k1,hC,h6,hL,L,jV,M,ae,hsn,af,q]:=h;let nd:=Sx.nd;let n2:=T.jJ;let hsz:=ϰ;let a:_+1<cLine:=ad1 (aeA (by decide:1<=64) _) hr.units;let D0:= @gQ P w K mg base T;let D2:= @uJ P w K mg base T;let M1:aH P w K mg base true 6 (cB mg) "put" ["self","row","values"] (qg mg):=(aaL T).meth T.aG T.Pu;let M2:aH P w K mg base true 6 (cB mg) "change" ["self","row","values"] (Aq mg):=(agr T).meth T.aG T.akY;let M3:aH P w K mg base true 4 (cB mg) "take" ["self","row"] (zZ mg):=(ajZ T).meth T.aG T.ahu;k_go;show#[Β,λp hp=>?_];let#[U,ep]:=Ξ hp (.lst (cJ.map V.int));change EV _ _ _ (upd H p (.lst (cJ.map V.int))) _;generalize upd H p (.lst (cJ.map V.int))=H0 at U ep⊢;lk;show#[sc,ns,k,8,rfl,U.seq hS,hl,(),(),by decide,?_];let j0:=aN ns k (m:=8) (by decide);let j1:=aZ ns k (m:=8) (by decide);generalize ϓ ns k 8=jv at j0 j1⊢;let#[j,rfl]:=aa7 j0;let hj:j<cJ.length:=by show j<8;omega
 show ϊ (η.of ep) (v:=.int cJ[j]) (ϒ (by rw[abI,aaj hj];rfl)) ?_;let i:cJ[j]∈cJ:=aeq hj;let O:∀x∈cJ,0<=x/\x<=1000000000:=by decide
 let O:=O _ i;generalize cJ[j]=row at i O⊢;k_go;show#[sc,ns,k+1,5,rfl,U.seq hS,hl,(),(),by decide,?_];generalize ϓ ns (k+1) 5=Y;let n:=hL.same U;w_up;show mq a ?_;lk;show bV a (tZ n.st) ?_;lk;show#[d,_,rfl,Ni n.st,?_];let g:=n.setM L (B.now+1);let ab:η K (upd H0 d (.dK (stK r s (B.now+1)))) sc (ns.map V.int):=akF (U.seq hS) n.st;let uh:Τ (upd H0 d (.dK (stK r s (B.now+1)))) c B.heads:=akm (hC.same U) n.st;let o1:Out (d::r::s::A.fp) H (upd H0 d (.dK (stK r s (B.now+1)))):=(Out.of U).trans (Out.upd (by simp));let G9:∀x,(upd H0 d (.dK (stK r s (B.now+1)))) x=none->x∉F:=λx e hx=>by
  by_cases z:x=d
  .rw[z,ς]at e;cases e
  .rw[ξ z]at e;show jV x hx (U.free e)
 generalize upd H0 d (.dK (stK r s (B.now+1)))=H1 at g ab uh o1 G9⊢;let#[Ϸ,er,hR]:=id g.ro;let hkl:=hR.len;let vP:∀{H2 H3:Hp},Out A.fp H2 H3->Out (d::r::s::A.fp) H2 H3:=λo=>o.mono λx hx=>by simp[hx]
 let g1:=Ϝ.k (k:=Sum.inl row) er
 let tail:∀(v:δ)(xs:List V)(H3:Hp),lA B.heads xs->Out (d::r::s::A.fp) H H3->ύ mg F A d r s H3 (aW B row (some xs)) (B.now+1) B.rows sn->H3 v=some (.lst xs)->v∉F->
   Ι X ((ϖ tO).drop 6) {nx:=λ_ H'=>Q .non H',rt:=Q} [some (.ref sc),some (.int k),some (.ref c),some (.ref A.b),some (.ref d),some (.int row),some (.int Y),some (.ref v)] H3:=by
  intro v xs H3 hok l Z hv jH;let#[pJ,Bb,vh]:=id Z.ro;let aoh:=vh.len;w_up;show mq a ?_;lk;show bV a (lR Z.st) ?_;lk;show#[r,_,rfl,fH.k (k:=Sum.inl row) Bb (by have:=M.1;omega),?_];let oW:ύ mg F A d r s (upd H3 r (.dK (putK pJ (Sum.inl row) (.ref v)))) (aW B row (some xs)) (B.now+1) (aW B row (some xs)).rows sn:=Z.qJ L (rF vh row #[v,rfl,hv,jH]);let o4:Out (d::r::s::A.fp) H (upd H3 r (.dK (putK pJ (Sum.inl row) (.ref v)))):=l.trans (Out.upd (by simp));generalize upd H3 r (.dK (putK pJ (Sum.inl row) (.ref v)))=H4 at oW o4⊢;let#[ag,ah,QX]:=id oW.si;let aoa:=QX.len;w_up;show mq a ?_;lk;show bV a (tZ oW.st) ?_;lk;show bV a (HF oW.st) ?_;lk;show#[s,_,rfl,fH.k (k:=Sum.inl row) ah (),?_];let wy:ύ mg F A d r s (upd H4 s (.dK (putK ag (Sum.inl row) (.int (B.now+1))))) (aW B row (some xs)) (B.now+1) (aW B row (some xs)).rows (qK sn row (B.now+1) (some xs)):=oW.Uh L (rF QX row rfl);f_len;show ψ ?_;lk;show q row (some xs) _ i (λ_=>by simp) (λys e=>by cases e;show hok) (o4.trans (Out.upd (by simp))) wy
 let rest:Ι X ((ϖ tO).drop 4) {nx:=λ_ H'=>Q .non H',rt:=Q} [some (.ref sc),some (.int k),some (.ref c),some (.ref A.b),some (.ref d),some (.int row),some (.int Y),none] H1:=by
  k_go;show#[sc,ns,k+2,c,B.heads,rfl,ab,hl,(),(),uh,h6,λv xs H2 s2 ai hv D=>?_];let jH:=G9 v ai;let G:=g.same s2;let yx:=G.bk;let o2:=o1.trans (Out.of s2);let g2:=Ϝ.k (k:=Sum.inl row) (s2 _ _ er);w_up;show Μ ?_;lk;show bV a (lR G.st) ?_;show Dg a g2 ?_;obtain⟨e1,R⟩|⟨u,x,e1,R,lu,rfl,aj,ap1⟩:=iW hR row
  .rw[show(Ϣ Ϸ (Sum.inl row)).isSome=false by rw[e1];rfl];lk;f_len;show aM ?_;show dR (pl:=_) hr Ϡ (h:=?_);f_are;show#[A.b,cB mg,A.dx,_,true,6,_,qg mg,rfl,yx.ins,by rfl,M1,by decide,id,?_];lk;show iJ (.inl (η.of hv)) λb hb=>?_
   let#[I,eb]:=Ξ hb (.lst xs);generalize upd H2 b (.lst xs)=H8 at I eb⊢;lk;show#[A,B,row,b,xs,rfl,yx.same I,eb,h6,#[O.1,O.2,D],M,λz=>absurd R z,λ_ H3 l k3=>?_];show tail v xs H3 D ((o2.trans (Out.of I)).trans (vP l)) ((G.same I).book L l k3) (l _ _ (λz=>jH (L.inF _ (by simp[z]))) (I _ _ hv)) jH
  .rw[show(Ϣ Ϸ (Sum.inl row)).isSome=true by rw[e1];rfl];lk;let ac:∀(W:δ)(ys:List V)(H5:Hp),lA B.heads ys->ζ H2 H5->H5 W=some (.lst ys)->W∉F->Ι X ((Zw ((ϖ tO).drop 5)).drop 1) {nx:=λσ' H'=>Ι X ((ϖ tO).drop 6) {nx:=λ_ H'=>Q .non H',rt:=Q} σ' H',rt:=Q} [some (.ref sc),some (.int k),some (.ref c),some (.ref A.b),some (.ref d),some (.int row),some (.int Y),some (.ref W)] H5:=by
    intro W ys H5 hok s5 J Ra;f_len;show aM ?_;show dR (pl:=_) hr Ϡ (h:=?_);f_are;show#[A.b,cB mg,A.dx,_,true,6,_,Aq mg,rfl,(yx.same s5).ins,by rfl,M2,by decide,id,?_];lk;show iJ (.inl (η.of J)) λb hb=>?_
    let#[I,eb]:=Ξ hb (.lst ys);generalize upd H5 b (.lst ys)=H8 at I eb⊢;lk;show#[A,B,row,b,ys,rfl,(yx.same s5).same I,eb,h6,#[O.1,O.2,hok],M,(λz=>by rw[R]at z;cases z),λ_ H3 l k3=>?_];show tail W ys H3 hok (((o2.trans (Out.of s5)).trans (Out.of I)).trans (vP l)) (((G.same s5).same I).book L l k3) (l _ _ (λz=>Ra (L.inF _ (by simp[z]))) (I _ _ J)) Ra
   w_up;show Μ ?_;lk;show Ε (λh=>?_) (λh=>?_)
   .f_len;f_tup;lk;show bV a (lR G.st) ?_;lk;show bV a (v:=.ref lu) (by rw[e1]at g2;show g2) ?_;lk;show iJ (.inl (η.of (s2 _ _ aj))) λW J=>?_
    show ac W x _ (af row x R) (ζ.upd J) ς (G9 W (s2.free J))
   .show Γ (ac v xs H2 D (ζ.refl _) hv jH)
 w_up;show Μ ?_;lk;show bV a (lR g.st) ?_;show Dg a g1 ?_;obtain⟨e1,R⟩|⟨u,x,e1,R,_⟩:=iW hR row
 .rw[show(Ϣ Ϸ (Sum.inl row)).isSome=false by rw[e1];rfl];lk;show Γ rest
 .rw[show(Ϣ Ϸ (Sum.inl row)).isSome=true by rw[e1];rfl];lk;show Ε (λh=>?_) (λh=>?_)
  .w_up;show aM ?_;show dR (pl:=_) hr Ϡ (h:=?_);f_are;show#[A.b,cB mg,A.dx,_,true,4,_,zZ mg,rfl,g.bk.ins,by rfl,M3,by decide,id,?_];lk;show#[A,B,row,rfl,g.bk,O.1,O.2,M,ae,(λz=>by rw[R]at z;cases z),λ_ H3 l k3=>?_];let Z:=g.book L l k3;let#[pJ,Bb,vh]:=id Z.ro;w_up;show aM (Jv ?_);lk;show bV a (lR Z.st) ?_;show#[r,rfl,.inl #[_,.inl Bb],?_];lk;let al:∃v,Ϣ pJ (Sum.inl row)=some v:=by
    obtain⟨_,z⟩|⟨u,y,z,_⟩:=iW vh row
    .rw[R]at z;cases z
    .show#[u,z]
   let#[vv,GX]:=al;show#[pJ,Sum.inl row,vv,Bb,rfl,GX,?_];let oW:ύ mg F A d r s (upd H3 r (.dK (fY pJ (Sum.inl row)))) (aW B row none) (B.now+1) (aW B row none).rows sn:=Z.qJ L (Jq vh row);f_len;show ψ ?_;lk;show q row none _ i (λz=>by rw[R]at z;cases z) (λys e=>by cases e) ((o1.trans (vP l)).trans (Out.upd (by simp))) oW
  .show Γ rest
theorem aae{α:Type}[BEq α][LawfulBEq α]:∀{l m:List α},l.Nodup->(∀x∈l,x∈m)->l.length<=m.length
 |[],m,_,_=>ad5 _
 |a::r,m,h,s=>by
  let h':=aid.mp h;let f:=s a (ac3 ..);let c:=aae (l:=r) (m:=m.erase a) h'.2 λx g=>(List.mem_erase_of_ne (λe=>h'.1 (by subst e;show g))).mpr (s x (acr _ g))
  rw[List.length_erase_of_mem f]at c;have:=List.length_pos_of_mem f;rw[acj];omega
structure dw(cs:List θ)(ks:List Int)(B:Bk)(sn:List (Int×Int))(i:Nat):Prop where
 heads:B.heads=cs
 known:B.known=0
 nd:(B.rows.map (·.1)).Nodup
 wf:j7 B
 ok:∀p∈B.rows,lA cs p.2
 keys:∀k∈B.rows.map (·.1),k∈ks
 tl:B.touched.length<=i
 dl:B.done.length<=i
 sl:sn.length<=i
 now:B.now=(i:Int)
 si:∀j x,Υ B.touched j=some x->Υ sn j=some x
def R4{α:Type}{m:List (Int×α)}{x:α}{p:Int×α}(h:p∈cG m i x):p∈m\/p=(i,x):=by
 unfold cG at h;split at h
 .let#[q,a,e]:=aa6.mp h;split at e
  .next c=>show .inr (by rw[<-e,c])
  .show .inl (by rw[<-e];show a)
 .obtain h|h:=adb.mp h
  .show .inl h
  .show .inr (abv.mp h)
def Ln{α:Type}(m:List (Int×α))(i:Int)(x:α):(cG m i x).length<=m.length+1:=by
 unfold cG;split
 .rw[aaA];omega
 .rw[abo,aeg];omega
theorem aei{α:Type}(m:List (Int×α))(i:Int):(fQ m i).length<=m.length:=aiu ..
theorem j7.deed(h:j7 B)(row:Int)(o:Option (List V)):j7 (aW B row o):=λi=>by
 cases o with
 |none=>
  show Υ (fQ B.rows row) i=none↔ Υ (fQ B.touched row) i=none;rw[JH,JH];by_cases e:i=row
  .rw[if_pos e,if_pos e];show#[λ_=>rfl,λ_=>rfl]
  .rw[if_neg e,if_neg e];show h i
 |some xs=>
  show Υ (cG B.rows row xs) i=none↔ Υ (cG B.touched row (B.now+1)) i=none;rw[Du,Du];by_cases e:i=row
  .rw[if_pos e,if_pos e];show#[(λz=>by cases z),(λz=>by cases z)]
  .rw[if_neg e,if_neg e];show h i
def dw.deed(h:dw cs ks B sn i)(hs:∀k∈ks,k∈ks')(g:row∈ks')(l:∀xs,o=some xs->lA cs xs):dw cs ks' (aW B row o) (qK sn row (B.now+1) o) (i+1):=by
 let h1:=h.tl;let h2:=h.dl;let m:=h.sl;let n:=h.now;let hd:(aW B row o).done.length<=i+1:=by
  show(B.done++[_]).length<=i+1;rw[abo,aeg];omega
 let f:(aW B row o).now=((i+1:Nat):Int):=by
  show B.now+1=_;omega
 cases o with
 |none=>
  show#[h.heads,h.known,ak9 h.nd,h.wf.deed row none,λp hp=>h.ok p (ai5.mp hp).1,λk c=>?_,?_,hd,by show sn.length<=i+1;omega,f,λj x e=>?_]
  .let#[p,hp,rfl]:=aa6.mp c;show hs _ (h.keys _ (aa6.mpr #[p,(ai5.mp hp).1,rfl]))
  .show(fQ B.touched row).length<=i+1;have:=aei B.touched row;omega
  .let a:Υ (fQ B.touched row) j=some x:=e;rw[JH]at a;split at a
   .cases a
   .show h.si j x a
 |some xs=>
  show#[h.heads,h.known,ajp h.nd,h.wf.deed row (some xs),λp hp=>?_,λk c=>?_,?_,hd,?_,f,λj x e=>?_]
  .obtain hp|hp:=R4 hp
   .show h.ok p hp
   .rw[hp];show l xs rfl
  .let#[p,hp,rfl]:=aa6.mp c;obtain hp|hp:=R4 hp
   .show hs _ (h.keys _ (aa6.mpr #[p,hp,rfl]))
   .rw[hp];show g
  .show(cG B.touched row (B.now+1)).length<=i+1;have:=Ln B.touched row (B.now+1);omega
  .show(cG sn row (B.now+1)).length<=i+1;have:=Ln sn row (B.now+1);omega
  .let a:Υ (cG B.touched row (B.now+1)) j=some x:=e;show Υ (cG sn row (B.now+1)) j=some x;rw[Du]at a⊢;split at a
   .rw[if_pos (by assumption)];show a
   .rw[if_neg (by assumption)];show h.si j x a
theorem dw.get(h:dw cs ks B sn i):∀j xs,Υ B.rows j=some xs->lA B.heads xs:=λj xs e=>by
 rw[h.heads];show h.ok _ (agY e)
def dw.len(h:dw cs ks B sn i):B.rows.length<=ks.length:=by
 have:=aae h.nd h.keys;rw[aaA]at this;show this
def dw.small(h:dw cs ks B sn i)(hi:i<1000000)(a:ks.length<1000000):rQ B:=by
 let h1:=h.tl;let h2:=h.dl;let c:=h.len;show#[(),(),()]
def jm(i:Nat):List Int:=(acR i).map λj=>2000+((j*7 % 23:Nat):Int)
def nj:List Int:=cJ++jm 20
def aeR:∀i<20,(2000+((i*7 % 23:Nat):Int))∉cJ++jm i:=by decide
theorem ύ.live(h:ύ mg F A d r s H B n m sn):∀x∈d::r::s::A.fp,(∃o,H x=some o/\∀ys,¬o=.tup ys):=λx hx=>by
 let a:x∈[d,r,s]\/x∈A.fp:=by
  simp only[ϳ,aew,or_false]at hx⊢;obtain z|z|z|z:=hx
  .show .inl (.inl z)
  .show .inl (.inr (.inl z))
  .show .inl (.inr (.inr z))
  .show .inr z
 obtain hx|hx:=a
 .let#[Ϸ,e]:=h.dicts x hx;show#[_,e,λys z=>by cases z]
 .obtain⟨fs,z⟩|⟨Ϸ,z⟩|⟨xs,z⟩:=h.bk.EY hx<;>show⟨_,z,λys z=>by cases z⟩
inductive T9 (K:Ϩ) (mg:Str->Option ε) (vs:List V) (H:Hp) (Q:VK) (E:XK):Prop
 |mk (J:Bk->Prop) (A:BA) (sc c:δ) (ns:List Int) (many:Nat) (cs:List θ):vs=[.ref sc,.ref c,.ref A.b,.int (many:Nat)]->η K H sc (ns.map V.int)->ns.length<=63->many<=40->Τ H c cs->c∉A.fp->((∀H',η K H' sc (ns.map V.int))\/sc∉A.fp)->Χ cs=true->Ω (cB mg) H A #[cs,[],[],[],0,0]->J #[cs,[],[],[],0,0]->(∀B row o,(Υ B.rows row=none->o≠none)->(∀xs,o=some xs->lA B.heads xs)->J B->J (aW B row o))->(∀(d r s:δ)(B:Bk)(sn:List (Int×Int))(i:Nat) H',H d=none->H r=none->H s=none->Out A.fp H H'->ύ mg (d::r::s::A.fp) A d r s H' B B.now B.rows sn->jA A d r s (d::r::s::A.fp)->dw cs nj B sn i->many<=i->i<=many+20->J B->Q (.ref d) H')->T9 K mg vs H Q E
def Ko(T:Txt K mg):Def P w K mg base true 8 "_law_begun" ["_law_script","_law_columns_here","_law_book","_law_many"] (T9 K mg):=by
 show Δ (S:=Ls) T.Ko (λf Ϻ A' outer s0 H vs Q E hr h=>?_);intro X _;let#[J,A,sc,c,ns,many,cs,rfl,hS,hl,aos,hC,ae,ax,hok,kB,j0,Sy,q]:=h;let nd:=Ls.nd;let n1:=T.oX;let n2:=T.zQ;let n3:=T.jJ;let hsz:=ϰ;let l:_+1<cLine:=ad1 (aeA (by decide:1<=64) _) hr.units;let#[c1,c6]:=pq hok;let D0:= @gQ P w K mg base T;let D2:= @uJ P w K mg base T;let D3:= @Bq P w K mg base T;let M1:aH P w K mg base true 6 (cB mg) "put" ["self","row","values"] (qg mg):=(aaL T).meth T.aG T.Pu;w_up;f_tup;show aif λd hd=>?_
 let#[sd,ed]:=Ξ hd (.dK []);generalize upd H d (.dK [])=H1 at sd ed⊢;f_are;show Ag λr M=>?_
 let#[sr,er]:=Ξ M (.dK []);generalize upd H1 r (.dK [])=H2 at sr er⊢;f_are;show Ag λs O=>?_
 let#[ss,es]:=Ξ O (.dK []);generalize upd H2 s (.dK [])=H3 at ss es⊢;f_are;f_are;show#[(sr.trans ss) _ _ ed,Sum.inr ("rows":Str),Sum.inr ("since":Str),Sum.inr ("moment":Str),rfl,rfl,rfl,?_];rw[ahF];let aD:=(sd.trans sr).trans ss;let Y:H r=none:=sd.free M;let Z:H s=none:=(sd.trans sr).free O;let af:d≠r:=λe=>by rw[e]at ed;rw[ed]at M;cases M
 let ag:d≠s:=λe=>by have:=sr _ _ ed;rw[e,O]at this;cases this
 let ay:r≠s:=λe=>by rw[e,O]at er;cases er
 let six:∀x∈A.six,H x≠none:=kB.Rn;let Jm:=kB.Jm;let ap:jA A d r s (d::r::s::A.fp):=by
  show#[?_,λx m=>m];let h1:([A.h,A.r,A.t,A.d,A.b,A.dx]++[d,r,s]).Nodup:=by
   show apj.mpr #[Jm,by simp[af,ag,ay],λa ha b hb e=>six a ha ?_];rw[e];let aC:b=d\/b=r\/b=s:=by simpa using hb
   obtain rfl|rfl|rfl:=aC
   .show hd
   .show Y
   .show Z
  show h1
 let o0:Out A.fp H (upd H3 d (.dK (stK r s 0))):=λb u hb e=>by
  rw[ξ (λz=>by rw[z,hd]at e;cases e)];show aD _ _ e
 let ah:ύ mg (d::r::s::A.fp) A d r s (upd H3 d (.dK (stK r s 0))) #[cs,[],[],[],0,0] 0 [] []:=by
  show#[kB.stay (λb ys e=>?_) λx o m e=>?_,ς,#[[],?_,.nil],#[[],?_,.nil]]
  .rw[ξ (λz=>by rw[z,hd]at e;cases e)];show aD _ _ e
  .rw[ξ (λz=>by rw[z,hd]at e;cases e)];show aD _ _ e
  .rw[ξ (Ne.symm af)];show ss _ _ er
  .rw[ξ (Ne.symm ag)];show es
 let aE:dw cs cJ #[cs,[],[],[],0,0] [] 0:=#[rfl,rfl,by simp,λi=>by simp[Υ],λp hp=>by simp at hp,λk hk=>by simp at hk,Ϭ _,Ϭ _,Ϭ _,rfl,λj x e=>by simp[Υ]at e];let fr:∀x,H x≠none->x∉A.fp->x∉d::r::s::A.fp:=λx m hA hm=>by
  simp only[ϳ]at hm;obtain rfl|rfl|rfl|z:=hm
  .show m hd
  .show m Y
  .show m Z
  .show hA z
 let pR:H c≠none:=by
  let#[_,e,_]:=hC;rw[e];show λz=>by cases z
 let hcF:=fr c pR ae;let ab:∀{H':Hp},Out A.fp H H'->η K H' sc (ns.map V.int):=λo=>by
  obtain z|z:=ax
  .show z _
  .show o.seq z hS
 let aI:NT H A.fp:=λx m ys e=>by
  obtain⟨fs,z⟩|⟨Ϸ,z⟩|⟨xs,z⟩:=kB.EY m<;>(rw[z]at e;cases e)
 let U3:∀{H':Hp},Out A.fp H H'->Τ H' c cs:=λo=>hC.out o aI ae
 let oA:∀{H1 H':Hp},Out A.fp H H1->Out (d::r::s::A.fp) H1 H'->Out A.fp H H':=λo1 o2 b u hb e=>o2 b u (fr b (by rw[e];show λz=>by cases z) hb) (o1 b u hb e)
 generalize upd H3 d (.dK (stK r s 0))=H4 at o0 ah⊢
 let rest:∀(B:Bk)(sn:List (Int×Int))(σ:List (Option V))(H5:Hp)(n:Option V),σ=[some (.ref sc),some (.ref c),some (.ref A.b),some (.int (many:Nat)),some (.ref d),n,none,none]->Out A.fp H H5->ύ mg (d::r::s::A.fp) A d r s H5 B B.now B.rows sn->dw cs cJ B sn many->J B->
   Ι X ((ϖ Jc).drop 2) {nx:=λ_ H'=>Q .non H',rt:=Q} σ H5:=by
  intro B sn σ H5 n aJ R wy D I;subst aJ;w_up;show pQ (by walk_at"po") (by rfl) (by rfl) n1 (by rfl) ?_;lk;show#[sc,ns,590,12,rfl,ab R,hl,by decide,by decide,by decide,?_];generalize ϓ ns 590 12=dv;lk;show fM akg (.inr #[_,rfl,?_]);lk;let ai:∃cnt:Nat,cnt<=20/\(20:Int)*(if decide (V.int dv=V.int 0)=true then 1 else 0)=(cnt:Int):=by
   by_cases z:V.int dv=V.int 0
   .show#[20,Ϭ _,by rw[decide_eq_true z];rfl]
   .show#[0,(),by rw[decide_eq_false z];rfl]
  let#[cnt,ai,aL]:=ai;rw[aL];show#[(),(),λi σ' H'=>(∃n o6 o7,σ'=[some (.ref sc),some (.ref c),some (.ref A.b),some (.int (many:Nat)),some (.ref d),n,o6,o7])/\Out A.fp H H'/\∃B sn,ύ mg (d::r::s::A.fp) A d r s H' B B.now B.rows sn/\dw cs (cJ++jm i) B sn (many+i)/\J B,
   #[#[_,_,_,rfl],R,B,sn,wy,#[D.heads,D.known,D.nd,D.wf,D.ok,λk hk=>ags _ (D.keys k hk),D.tl,D.dl,D.sl,D.now,D.si],I],λi σ' H' hi hP=>?_,λσ' H' hP=>?_]
  .let#[#[n,o6,o7,rfl],y,B,sn,L,g,I]:=hP;let aP:i<20:=()
   let aj:=aeR i aP;let F:Υ B.rows (2000+((i*7 % 23:Nat):Int))=none:=Ck.mpr λz=>aj (g.keys _ z)
   let hrl:=g.len;let hkl:(cJ++jm i).length=8+i:=by rw[abo];unfold jm;rw[aaA,afO];rfl
   show ω nd (by rfl) (.inl rfl) (.inl rfl) ?_;k_go;rw[show(2000:Int)+(i:Int)*7 % 23=2000+((i*7 % 23:Nat):Int)by omega];let gm:(0:Int)<=2000+((i*7 % 23:Nat):Int)/\2000+((i*7 % 23:Nat):Int)<=1000000000:=()
   let W:(2000+((i*7 % 23:Nat):Int))∈cJ++jm (i+1):=ac6 _ (by
    unfold jm;show aa6.mpr #[i,by simp,rfl])
   generalize 2000+((i*7 % 23:Nat):Int)=row at F gm W⊢;k_go;show#[sc,ns,_,c,cs,rfl,ab y,hl,(),(),U3 y,c6,λv xs H6 s6 al hv G=>?_];let jH:v∉d::r::s::A.fp:=λz=>by
    let#[o,e,_]:=L.live v z;rw[e]at al;cases al
   w_up;show mq l ?_;show dR (pl:=_) hr Ϡ (h:=?_);f_are;let Al:=L.same s6;show#[A.b,cB mg,A.dx,_,true,6,_,qg mg,rfl,Al.bk.ins,by rfl,M1,by decide,id,?_];lk;show iJ (.inl (η.of hv)) λb hb=>?_
   let#[dY,eb]:=Ξ hb (.lst xs);generalize upd H6 b (.lst xs)=H7 at dY eb⊢;let rJ:=Al.same dY;lk;show#[A,B,row,b,xs,rfl,rJ.bk,eb,by rw[g.heads];show c6,#[gm.1,gm.2,by rw[g.heads];show G],g.small () (),λz=>absurd F z,λ_ H8 o8 k8=>?_];let am:=rJ.book ap o8 k8;lk;show#[d,_,rfl,Ni am.st,?_];let U:=am.setM ap (B.now+1);let vP:Out (d::r::s::A.fp) H7 H8:=o8.mono λx m=>by simp[m]
   let o9:Out A.fp H (upd H8 d (.dK (stK r s (B.now+1)))):=oA y (((Out.of (s6.trans dY)).trans vP).trans (Out.upd (by simp)));let Yv:(upd H8 d (.dK (stK r s (B.now+1)))) v=some (.lst xs):=by
    rw[ξ (λz=>jH (by rw[z];simp))];show o8 _ _ (λz=>jH (by simp[z])) (dY _ _ hv)
   generalize upd H8 d (.dK (stK r s (B.now+1)))=H9 at U o9 Yv⊢;let#[Je,aS,ar]:=id U.ro;let anV:=ar.len;w_up;show mq l ?_;lk;show bV l (lR U.st) ?_;lk;show#[r,_,rfl,fH.k (k:=Sum.inl row) aS (),?_];let jy:ύ mg (d::r::s::A.fp) A d r s (upd H9 r (.dK (putK Je (Sum.inl row) (.ref v)))) (aW B row (some xs)) (B.now+1) (aW B row (some xs)).rows sn:=U.qJ ap (rF ar row #[v,rfl,Yv,jH]);let cu:Out A.fp H (upd H9 r (.dK (putK Je (Sum.inl row) (.ref v)))):=oA o9 (Out.upd (by simp));generalize upd H9 r (.dK (putK Je (Sum.inl row) (.ref v)))=lV at jy cu⊢;let#[aT,aY,WX]:=id jy.si;let aqp:=WX.len;let a0:=g.sl;f_len;show mq l ?_;lk;show bV l (tZ jy.st) ?_;lk;show bV l (HF jy.st) ?_;lk;show#[s,_,rfl,fH.k (k:=Sum.inl row) aY (),?_];let a1:ύ mg (d::r::s::A.fp) A d r s (upd lV s (.dK (putK aT (Sum.inl row) (.int (B.now+1))))) (aW B row (some xs)) (B.now+1) (aW B row (some xs)).rows (qK sn row (B.now+1) (some xs)):=jy.Uh ap (rF WX row rfl);show#[#[_,_,_,rfl],oA cu (Out.upd (by simp)),_,_,a1,?_,Sy B row (some xs) (λ_=>by simp) (λys e=>by cases e;rw[g.heads];show G) I];show g.deed (λk hk=>by
    obtain hk|hk:=adb.mp hk
    .show ags _ hk
    .show ac6 _ ?_;unfold jm at hk⊢;let#[j,hj,e]:=aa6.mp hk;show aa6.mpr #[j,by simp at hj⊢;omega,e]) W (λys e=>by cases e;show G)
  .let#[#[n,o6,o7,rfl],y,B,sn,L,g,I]:=hP;f_len;show ψ ?_;lk;let av:∀k∈cJ++jm cnt,k∈nj:=λk hk=>by
    obtain hk|hk:=adb.mp hk
    .show ags _ hk
    .show ac6 _ ?_;unfold jm at hk⊢;let#[j,hj,e]:=aa6.mp hk;show aa6.mpr #[j,by simp at hj⊢;omega,e]
   let ac:(cnt:Int).toNat=cnt:=()
   show q d r s B sn (many+cnt) H' hd Y Z y L ap #[g.heads,g.known,g.nd,g.wf,g.ok,λk hk=>av k (by have:=g.keys k hk;simpa [ac]using this),g.tl,g.dl,g.sl,g.now,g.si] () () I
 w_up;show pQ (by walk_at"po") (by rfl) (by rfl) n1 (by rfl) ?_;lk;show#[(),(),λi σ' H'=>(∃n,σ'=[some (.ref sc),some (.ref c),some (.ref A.b),some (.int (many:Nat)),some (.ref d),n,none,none])/\Out A.fp H H'/\∃B sn,ύ mg (d::r::s::A.fp) A d r s H' B B.now B.rows sn/\dw cs cJ B sn i/\J B,#[#[none,rfl],o0,_,[],ah,aE,j0],λi σ' H' hi hP=>?_,λσ' H' hP=>?_]
 .let#[#[n,rfl],y,B,sn,L,g,I]:=hP;let hi':i<many:=()
  let a0:=g.sl;show ω nd (by rfl) (.inl rfl) (.inl rfl) ?_;f_len;show aM ?_;lk;show#[d::r::s::A.fp,A,B,sc,c,d,r,s,ns,_,sn,rfl,ab y,hl,(),(),by rw[g.heads];show U3 y,by rw[g.heads];show c6,L,ap,(λx m e=>by let#[o,z,_]:=L.live x m;rw[e]at z;cases z),g.small () (by show 8<1000000;decide),g.wf,(),g.get,λrow o H5 aw a2 xV R wy=>?_];show#[#[_,rfl],oA y R,_,_,wy,g.deed (λk hk=>hk) aw (λxs e=>by rw[<-g.heads];show xV xs e),Sy B row o a2 xV I]
 .let#[#[n,rfl],y,B,sn,L,g,I]:=hP;let ac:((many:Nat):Int).toNat=many:=()
  first
   |show rest B sn _ H' n rfl y L g I
   |(rw[ac]at g;show rest B sn _ H' n rfl y L g I)
def Di(T:Txt K mg):Def P w K mg base true 1 "value_word" ["value"] aaJ:=by
 show Δ (N:=["value"]) T.Di (λ_ _ _ _ _ H vs Q E f h=>?_);intro X _;let#[v,rfl,hs,a,c,q]:=h;let n1:=T.ux;let n2:=T.mW;let g:=T.PQ;let j:=T.RJ;let hsz:=ϰ;w_up;cases v with
 |non=>
  cbv;show q
 |int i=>
  cbv;show j8 (c i rfl) ?_;show q
 |str z=>
  let e:z.length<=4000:=a;let l:("'":Str).length=1:=by fin2
  cbv;show dq () ?_;show q
 |_=>cases hs
def QQ(x:V):Prop:=scalar x=true/\short x/\∀i,x=.int i->i.natAbs<10^60
inductive Qi (vs:List V) (H:Hp) (Q:VK) (E:XK):Prop
 |mk (i:Int) (l:δ) (xs:List V):vs=[.int i,.ref l]->i.natAbs<10^60->H l=some (.lst xs)->xs.length<=1000->(∀x∈xs,QQ x)->(∀p H',ζ H H'->H p=none->H' p=some (.lst ((Ϫ (toString i)::xs.map wordOf).map V.str))->Q (.ref p) H')->Qi vs H Q E
def Ik(T:Txt K mg):Def P w K mg base true 2 "row_words" ["row","values"] Qi:=by
 show Δ (N:=["row","values"]) T.Ik (λ_ _ _ _ _ H vs Q E U h=>?_);intro X _;let#[i,l,xs,rfl,hi,hl,W,D,q]:=h;let n1:=T.mW;let F:(["value"]:List Str).Nodup:=by fin2
 let hsz:=ϰ;let Y:= @Di P w K mg base T;f_len;show ψ ?_;cbv;show j8 (kh hi) ?_;cbv;show#[Β,λb G=>?_];let#[a,s]:=Ξ G (.lst [.str (Ϫ (toString i))]);change EV _ _ _ (upd H b (.lst [.str (Ϫ (toString i))])) _;generalize upd H b (.lst [.str (Ϫ (toString i))])=H1 at a s⊢;show jP ["value"] (σ':=[none]) (bN (χ T3)) ?_;f_are;show#[l,xs,rfl,η.of (a _ _ hl),(),λv=>∃y,v=[y],λf i u H'=>∃x,xs[i]?=some x/\u=.str (wordOf x),#[none,rfl],λf i u H2 I ys _ _ p=>p,λfp f C Z H0 i v x J I L hi g c M O=>?_,λf J ys L R m S c =>?_]
 .let#[y,rfl]:=g;let#[z,rfl]:=O;let n:=D x (aaD z);show ω F (by rfl) (.inl rfl) (.inr rfl) ?_;cbv;show#[x,rfl,n.1,n.2.1,λj e=>kh (n.2.2 j e),?_];show#[#[_,rfl],#[x,z,rfl],ζ.refl _]
 .let ey:=fD (ys:=xs) (λx=>V.str (wordOf x)) R m;subst ey;show xP (c _ _ s) S (by rw[aaA];show 1+xs.length<=ϯ;omega) λp B=>?_
  show q p _ ((a.trans c).trans (ζ.upd B)) ((a.trans c).free B) ?_;rw[ς,ac2,aep];rfl
def Hj(T:Txt K mg):Def P w K mg base true 1 "check_of" ["text"] Qt:=by
 show Δ (S:=Vj) T.Hj (λ_ _ _ _ _ H vs Q E m h=>?_);intro X _;let#[z,rfl,n,g,q]:=h;let s:=T.agU;let u:=T.acI;let n1:=T.MJ;let nd:=Vj.nd;w_up;cbv;show R3 (by walk_at"po") (by rfl) (by intro _;rfl) ?_;f_are;show#[z,rfl,λi σ H'=>H'=H/\∃t p o,σ=[some (.str z),some (.int t),some (.int p),o]/\0<=t/\t<9973/\0<=p/\p<9973/\(t+p*aO (z.cps.toList.drop i)) % 9973=aO z.cps.toList,#[rfl,0,1,none,rfl,by decide,by decide,by decide,by decide,?_],λi c σ H' hi a=>?_,λσ H' a=>?_]
 .have :=nU z.cps.toList;rw[amf,aqE,asp];show anG this.1 this.2
 .let#[rfl,t,p,o,rfl,t0,f,p0,p1,e]:=a;let j:=g c (aaD hi);let hd:z.cps.toList.drop i=c::z.cps.toList.drop (i+1):=by
   let#[h1,h2]:=aat.mp hi;rw[aeQ h1,h2]
  rw[hd]at e;show ω nd (by rfl) (.inl rfl) (.inl rfl) ?_;w_up;cbv;show#[rfl,_,_,_,rfl,ahb _ (by decide),afs _ (by decide),ahb _ (by decide),afs _ (by decide),Y5 e]
 .let#[rfl,t,p,o,rfl,t0,f,p0,p1,e]:=a;rw[aqb]at e;let l:t=aO z.cps.toList:=by
   rw[<-e];show t=(t+p*0) % 9973;rw[asm,asn,anG t0 f]
  cbv;rw[l];show q
def Az(T:Txt K mg):Def P w K mg base true 2 "check_word" ["text"] VL:=by
 show Δ (N:=["text"]) T.Az (λ_ _ _ _ _ H vs Q E e h=>?_);intro X _;let#[z,rfl,a,c,q]:=h;let f:=T.akS;let n1:=T.mW;let g:= @Hj P w K mg base T;f_len;show ψ ?_;show bU F.plainAttrs_str F.slot_str_zfill F.type_str_zfill (h:=?_);cbv;show#[z,rfl,a,c,?_];let i:=nU z.cps.toList;cbv;show j8 (kh ?_) ?_
 .have :(aO z.cps.toList).natAbs<9973:=()
  show acn this (by fin2)
 .cbv;show adD (by decide) (by decide) ?_;show q
def Gd(T:Txt K mg):Def P w K mg base true 1 "order_text" ["order"] Ht:=by
 show Δ (N:=["order"]) T.Gd (λ_ _ _ _ _ H vs Q E hr h=>?_);intro X _;let#[a,os,rfl,#[vs,L,e],hl,v,q]:=h;let g1:=T.X7;let g2:=T.Yw;let y:(["name","up"]:List Str).Nodup:=by fin2
 let hsz:=ϰ;let M:=e.len;let z:("+":Str).length=1:=by fin2
 let B:("-":Str).length=1:=by fin2
 let O:(" ":Str).length=1:=by fin2
 f_len;show ψ ?_;show bU F.plainAttrs_str F.slot_str_join F.type_str_join (h:=?_);f_are;show#[by rfl,dH (by rfl) ?_];show jP ["name","up"] (σ':=[none,none]) (bN (χ Nq)) ?_;f_are;show#[a,vs,rfl,η.of L,(),λD=>∃G I,D=[G,I],λg i u H'=>∃c,os[i]?=some c/\u=.str (Ϛ c),#[none,none,rfl],λg i u H2 R ys _ _ p=>p,λfp g C s3 H0 i D x J R S hi j m U W=>?_,λg J ys S Y n Z m =>?_]
 .let#[G,I,rfl]:=j;let#[aJ,rfl]:=W;let#[c,s,t,rfl,ht]:=e.get aJ;let hcn:=v c (aaD s);show ao (ι.of (m _ _ ht)) (Κ (ω y (by rfl) (.inl rfl) (.inr rfl) (Κ (ω y (by rfl) (.inl rfl) (.inr rfl) (ak ?_)))));cbv;show je (λh=>?_) (λh=>?_)
  .cbv;show dq (by rw[z];omega) ?_;show#[#[_,_,rfl],#[c,s,by unfold Ϛ;rw[if_pos h]],ζ.refl _]
  .cbv;show dq (by rw[B];omega) ?_;show#[#[_,_,rfl],#[c,s,by unfold Ϛ;rw[if_neg (by rw[h];show aaF)]],ζ.refl _]
 .let ey:=fD (ys:=os) (λc=>V.str (Ϛ c)) (by rw[Y,M]) n;let gD:ys=(os.map Ϛ).map V.str:=by rw[ey,aep];rfl
  subst gD;cbv;show jg (η.of Z) ?_ (q J m);rw[O,aaA];let f:∀l:List Ord,(∀o∈l,o.1.length<=1000)->((l.map Ϛ).map (·.length)).sum<=l.length*1001:=by
   intro l;induction l with
   |nil=>intro _;simp
   |cons o l ih=>
    intro h;let h1:=ih λx hx=>h x (by simp[hx])
    let h2:=h o (by simp);let h3:(Ϛ o).length<=1001:=by
     unfold Ϛ;rw[len_app];split
     .rw[z];omega
     .rw[B];omega
    simp only[ac2,ang,acj];omega
  have:=f os v;omega
def afX:∀(i:Nat),c∈cs->ie cs c.1 i≠.non:=by
 induction cs with
 |nil=>intro i h;simp at h
 |cons d r a=>
  intro i h;unfold ie;by_cases e:d.1=c.1
  .rw[if_pos e];intro z;cases z
  .rw[if_neg e];obtain z|z:=ϳ.mp h
   .subst z;show absurd rfl e
   .show a (i+1) z
def ZW:("+":Str).cps.toList=[43]/\("-":Str).cps.toList=[45]/\(" ":Str).cps.toList=[32]/\("":Str).cps.toList=[]:=by fin2
def aj0:ϐ (#[#v[x]]++n) (some 1) none=n:=by
 apply gb;rw[show(ϐ (#[#v[x]]++n) (some 1) none).cps.toList=(#[#v[x]]++n:Str).cps.toList.drop 1 from yq _ 1,bA];rfl
def agw(f:c∈cs)(e:c.1=o.1):iD cs (Ϛ o)=some o:=by
 let#[n,up]:=o;let g:ie cs n 0≠.non:=by rw[<-show c.1=n from e];show afX 0 f
 let a:∀x:Nat,(x=43\/x=45)->iD cs (#[#v[x]]++n)=some (n,decide (x=43)):=λx i=>by
  unfold iD;rw[aj0];let j:(#[#v[x]]++n:Str).cps.toList[0]?=some x:=by rw[bA];rfl
  rw[j,if_pos #[by obtain z|z:=i<;>simp[z],g]];simp
 unfold Ϛ;cases up with
 |true=>show a 43 (.inl rfl)
 |false=>show a 45 (.inr rfl)
def adn(h:32∉o.1.cps.toList):32∉(Ϛ o).cps.toList:=by
 unfold Ϛ;rw[bA];let#[e1,a,_]:=ZW;split
 .rw[e1];simpa using h
 .rw[a];simpa using h
theorem aeB:∀{ps:List Str},adT " " ps=""->ps=[]\/ps=[Ϫ ""]
 |[],_=>.inl rfl
 |[p],h=>.inr (by rw[show p="" from h])
 |p::q::r,h=>by
  let e:(adT " " (p::q::r)).cps.toList=gA 32 ((p::q::r).map λp=>p.cps.toList):=tM 32 _;rw[h]at e;let a:([]:List Nat)=p.cps.toList++32::gA 32 ((q::r).map λp=>p.cps.toList):=e;have:=congrArg aoo a;simp at this
def Rh{os:List Ord}(hl:os.length<=4)(n:(os.map Prod.fst).Nodup)(q:∀o∈os,∃c∈cs,c.1=o.1)(s:∀o∈os,32∉o.1.cps.toList):jb cs (bK os)=some os:=by
 unfold jb bK;by_cases l:os=[]
 .subst l;show if_pos (by fin2)
 .let h1:os.map Ϛ≠[]:=by simpa using l
  let u:∀p∈os.map Ϛ,32∉p.cps.toList:=λp v=>by
   let#[o,m,rfl]:=aa6.mp v;show adn (s o m)
  let B:os.map Ϛ≠[Ϫ ""]:=λe=>by
   have:Ϫ ""∈os.map Ϛ:=by rw[e];simp
   let#[o,m,a]:=aa6.mp this;let D:=congrArg (λz:Str=>z.cps.toList.length) a;let E:(Ϛ o).cps.toList.length=1+o.1.cps.toList.length:=by
    unfold Ϛ;rw[bA,abo];let#[F,G,_]:=ZW;split
    .rw[F];rfl
    .rw[G];rfl
   let H:("":Str).cps.toList.length=0:=by fin2
   let f:(Ϛ o).cps.toList.length=("":Str).cps.toList.length:=D;rw[E,H]at f;omega
  rw[if_neg (λz=>(aeB z).elim h1 B),xx h1 u,aaA,if_neg ()];let I:jK (iD cs) (os.map Ϛ)=some os:=by
   show YW (by simp) λi x y e1 a=>?_
   rw[abI,a]at e1;let g:Ϛ y=x:=Option.some.inj e1;let#[c,j,J]:=q y (aaD a);rw[<-g];show agw j J
  rw[I];show(if(os.map Prod.fst).Nodup then some os else none)=some os;rw[if_pos n]
structure Cut where
 ahead:Bool
 row:Nat
 xs:List V
structure Mk where
 living:Bool
 moment:Nat
 os:List Ord
 sieve:Str
 cut:Cut
def bM(b:Bool):Str:=if b=true then Ϫ "ahead" else Ϫ "behind"
def aA(b:Bool):Str:=if b=true then Ϫ "<" else Ϫ ">"
def bf(b:Bool):Str:=if b=true then Ϫ "living" else Ϫ "still"
def gG(b:Bool):Str:=if b=true then Ϫ "l" else Ϫ "s"
def qm(H:Hp)(c:δ)(C:Cut):=∃k v,H c=some (.tup [.str (bM C.ahead),.ref k])/\H k=some (.tup [.ref v,.int C.row])/\H v=some (.lst C.xs)
def qm.same(h:qm H c C)(s:ζ H H'):qm H' c C:=by
 let#[k,v,h1,h2,a]:=h;show#[k,v,s _ _ h1,s _ _ h2,s _ _ a]
def al1(H:Hp)(p:δ)(M:Mk):=∃o c,H p=some (.tup [.str (bf M.living),.int M.moment,.ref o,.str M.sieve,.ref c])/\ϥ H o M.os/\qm H c M.cut
def bL(C:Cut):List Str:=Ϫ (toString (C.row:Int))::C.xs.map wordOf
def cO(C:Cut):Str:=aA C.ahead++adT " " (bL C)
def b8(M:Mk):List Str:=[gG M.living,Ϫ (toString (M.moment:Int)),bK M.os,M.sieve,cO M.cut]
def Ϥ(M:Mk):Str:=adT "/" (b8 M)
def dD(M:Mk):Str:=Ϥ M++Ϫ "."++dm (aO (Ϥ M).cps.toList)
def akB(h:ps≠[])(a:∀p∈ps,47∉p.cps.toList):Ϗ 47 (adT "/" ps)=ps:=by
 unfold Ϗ;let e:(adT "/" ps).cps.toList=gA 47 (ps.map λp=>p.cps.toList):=tM 47 ps;rw[e,zy (by simpa using h) λp c=>?_,aep]
 .have :((λl:List Nat=>(#[l.toArray]:Str))∘λp:Str=>p.cps.toList)=id:=by
   funext p;rfl
  rw[this,aqT]
 .let#[q,f,rfl]:=aa6.mp c;show a q f
def jf(cs:List θ)(z:Str):Str:=match cs[ϋ cs z]? with
 |some c=>c.2
 |none=>Ϫ ""
structure bO(cs:List θ)(M:Mk):Prop where
 moment:M.moment<=5000
 len:M.os.length<=4
 names:∀o∈M.os,o.1∈cs.map Prod.fst
 nodup:(M.os.map Prod.fst).Nodup
 row:M.cut.row<=1000000000
 vals:ρ (λ(o:Ord) x=>ϕ (jf cs o.1) x) M.os M.cut.xs
 plain:plainS M.sieve
 short:M.sieve.length<=2800
 words:∀y∈Ϗ 32 M.sieve,y.length<=900
 reads:∃t:Tr,t.dep<=20/\Reads cs (Ϗ 32 M.sieve) t 0 (Ϗ 32 M.sieve).length
def acN(b:Bool):plainS (gG b):=by cases b<;>(unfold plainS;fin2)
def amX(b:Bool):plainS (aA b):=by cases b<;>(unfold plainS;fin2)
def ac4(h:plainS o.1):plainS (Ϛ o):=by
 unfold Ϛ;show plainS.app ?_ h;let h1:plainS ("+":Str):=by unfold plainS;fin2
 let h2:plainS ("-":Str):=by unfold plainS;fin2
 split
 .show h1
 .show h2
theorem aeL(h:bO cs M):∀p∈bL M.cut,plainS p:=λp hp=>by
 obtain rfl|hp:=ϳ.mp hp
 .show JD _
 .let#[x,a,rfl]:=aa6.mp hp;let#[o,_,c]:=h.vals.GC x a;show c.plain
theorem aam(a:Χ cs=true)(h:bO cs M):∀p∈b8 M,plainS p:=λp i=>by
 let f:p=gG M.living\/p=Ϫ (toString (M.moment:Int))\/p=bK M.os\/p=M.sieve\/p=cO M.cut:=by simpa [b8]using i
 obtain rfl|rfl|rfl|rfl|rfl:=f
 .show acN _
 .show JD _
 .show plainS.join λq j=>?_
  let#[o,l,rfl]:=aa6.mp j;show ac4 (Fi ?_);let#[c,g,e]:=aa6.mp (h.names o l);unfold Χ at a;simp only[aaO,ack]at a;rw[<-e];show(a.1.2 c g).1
 .show h.plain
 .show(amX _).app (plainS.join (aeL h))
theorem abV(a:Χ cs=true)(h:bO cs M):Ϗ 47 (Ϥ M)=b8 M:=
 akB (by simp[b8]) λp c e=>(aam a h p c 47 e).2.2.2 rfl
def zg(n:Int)(a:0<=n:=by omega)(h1:n<9973:=by omega):46∉(dm n).cps.toList/\(dm n).length=4:=by
 let#[m,rfl]:=aa7 a;have:=Rv (n:=m) ();unfold zM at this;simp only[aaO,decide_eq_true_eq,ack]at this;show#[λc=>?_,this.1];have:=this.2.1 46 c;unfold qI at this;simp at this
def Fy(M:Mk):Txt.rpartition (dD M) #[#v[46]]=(Ϥ M,#[#v[46]],dm (aO (Ϥ M).cps.toList)):=by
 let f:=nU (Ϥ M).cps.toList;let c:=zg (aO (Ϥ M).cps.toList);let e:(dD M).cps.toList=(Ϥ M).cps.toList++46::(dm (aO (Ϥ M).cps.toList)).cps.toList:=by
  unfold dD;rw[bA,bA,show(".":Str).cps.toList=[46]from by fin2,arE];rfl
 let a:∀z:Str,(#[z.cps.toList.toArray]:Str)=z:=λz=>by
  let#[#[l]]:=z;rfl
 rw[ajs e c.1,a,a]
theorem YZ:∀ps:List Str,(adT "/" ps).length<=(ps.map (·.length)).sum+ps.length
 |[]=>by show(0:Nat)<=_;omega
 |[p]=>by
  show p.length<=_;simp
 |p::q::r=>by
  let a:=YZ (q::r);let c:("/":Str).length=1:=by fin2
  show(p++Ϫ "/"++adT "/" (q::r)).length<=_;rw[len_app,len_app,c];simp only[ac2,ang,acj]at a⊢;omega
def WQ(a:Χ cs=true)(i:z∈cs.map Prod.fst):jf cs z="number"\/jf cs z="text":=by
 let#[c,f,e]:=aa6.mp i;let g:ϋ cs z<cs.length:=rH #[c,f,e];unfold jf;rw[aaj g];unfold Χ at a;simp only[aaO,ack]at a;let h2:=(a.1.2 cs[ϋ cs z] (aeq g)).2;unfold nY at h2;show of_decide_eq_true h2
theorem bO.IW(f:Χ cs=true)(h:bO cs M):∀x∈M.cut.xs,QQ x/\(wordOf x).length<=21/\32∉(wordOf x).cps.toList:=λx g=>by
 let#[o,l,a]:=h.vals.GC x g;let c:=a.word (WQ f (h.names o l));show#[#[a.sc,?_,λi e=>?_],c.2.1,c.2.2.1]
 .obtain rfl|⟨_,i,rfl,_⟩|⟨_,z,rfl,hl,_⟩:=a
  .trivial
  .trivial
  .show z.length<=4000;omega
 .subst e;obtain e|⟨_,j,e,h1,h2⟩|⟨_,z,e,_⟩:=a
  .cases e
  .cases e;have:(10:Nat)^60>1000000000000000000:=by decide
   omega
  .cases e
def bO.Yc(h:bO cs M):M.cut.xs.length<=4:=by
 have:=h.vals.len;have:=h.len;omega
def Cd(a:Χ cs=true)(h:bO cs M):(∀p∈bL M.cut,p.length<=21)/\(bL M.cut).length<=5:=by
 show#[λp hp=>?_,?_]
 .obtain rfl|hp:=ϳ.mp hp
  .have :=zj (i:=(M.cut.row:Int)) (k:=10) (by have:=h.row;have:(10:Nat)^10>1000000000:=(by decide);omega);omega
  .let#[x,c,rfl]:=aa6.mp hp;show(h.IW a x c).2.1
 .have :=h.Yc;show(M.cut.xs.map wordOf).length+1<=5;rw[aaA];omega
def KZ(a:Χ cs=true)(h:bO cs M):(cO M.cut).length<=200:=by
 let#[h1,h2]:=Cd a h;let c:=jO _ 21 h1;let e:=kJ (bL M.cut);let f:(aA M.cut.ahead).length=1:=by cases M.cut.ahead<;>fin2
 unfold cO;rw[len_app];omega
inductive Xv (vs:List V) (H:Hp) (Q:VK) (E:XK):Prop
 |mk (c:δ) (M:Mk) (cs:List θ):vs=[.ref c]->qm H c M.cut->Χ cs=true->bO cs M->(∀H',ζ H H'->Q (.str (cO M.cut)) H')->Xv vs H Q E
def Gb(T:Txt K mg):Def P w K mg base true 3 "cut_text" ["cut"] Xv:=by
 show Δ (S:=N5) T.Gb (λ_ _ A _ _ H vs Q E y h=>?_);intro X _;let#[c,M,cs,rfl,#[k,v,g,l,m],j,a,q]:=h;let nd:=N5.nd;let z:=T.wu;let B:=T.Wi;let D:=T.ZK;let hsz:=ϰ;let n:(" ":Str).length=1:=by fin2
 let F:= @Ik P w K mg base T;let#[h1,h2]:=Cd j a;let G:=jO _ 21 h1;let I:=kJ (bL M.cut);w_up;show d9 ?_;lk;show Α (ι.of g) (i:=1) rfl ?_;show ao (ι.of l) (Κ (ω nd (by rfl) (.inl rfl) (.inl rfl) (Κ (ω nd (by rfl) (.inl rfl) (.inl rfl) (ak ?_)))));let rest:Ι X ((ϖ DY).drop 2) {nx:=λ_ H'=>Q .non H',rt:=Q} [some (.ref c),some (.ref v),some (.int M.cut.row),some (.str (aA M.cut.ahead))] H:=by
  let J:(aA M.cut.ahead).length=1:=by cases M.cut.ahead<;>fin2
  f_len;show ψ ?_;lk;show#[(M.cut.row:Int),v,M.cut.xs,rfl,?_,m,by have:=a.Yc;omega,λx s=>(a.IW j x s).1,λp H1 u L e1=>?_]
  .have :=a.row;have:(10:Nat)^60>1000000000:=by decide
   omega
  lk;show jg (ys:=bL M.cut) (η.of e1) (by rw[n];omega) ?_;lk;show dq () ?_;show q H1 u
 k_go;show Α (ι.of g) (i:=0) rfl ?_;lk;have:M.cut.ahead=true\/M.cut.ahead=false:=by cases M.cut.ahead<;>simp
 obtain e|e:=this
 .let e1:V.str (bM M.cut.ahead)=V.str ("ahead":Str):=by rw[e];rfl
  let f:aA M.cut.ahead=Ϫ "<":=by rw[e];rfl
  show Ε (λ_=>?_) (λh=>absurd e1 h);lk;rw[f]at rest;show rest
 .let e1:¬V.str (bM M.cut.ahead)=V.str ("ahead":Str):=by rw[e];fin2
  let f:aA M.cut.ahead=Ϫ ">":=by rw[e];rfl
  show Ε (λh=>absurd h e1) (λ_=>?_);lk;rw[f]at rest;show rest
def Lp(a:Χ cs=true)(h:bO cs M):(bK M.os).length<=100:=by
 let h1:=jO (M.os.map Ϛ) 9 λp c=>by
  let#[o,e,rfl]:=aa6.mp c;have:=oZ (jM a (h.names o e));let f:("+":Str).length=1:=by fin2
  let g:("-":Str).length=1:=by fin2
  unfold Ϛ;rw[len_app];split <;>omega
 let h2:=kJ (M.os.map Ϛ);let i:=h.len;rw[aaA]at h1 h2;unfold bK;omega
def u6(a:Χ cs=true)(h:bO cs M):((b8 M).map (·.length)).sum<=3200/\(Ϥ M).length<=3300:=by
 let h1:(gG M.living).length=1:=by cases M.living<;>fin2
 let h2:=zj (i:=(M.moment:Int)) (k:=4) (by have:=h.moment;have:(10:Nat)^4>5000:=(by decide);omega);let c:=Lp a h;let f:=h.short;let g:=KZ a h;let e:((b8 M).map (·.length)).sum=(gG M.living).length+((Ϫ (toString (M.moment:Int))).length+((bK M.os).length+(M.sieve.length+((cO M.cut).length+0)))):=rfl;let j:=YZ (b8 M);let l:(b8 M).length=5:=rfl;unfold Ϥ;omega
def xq(a:Χ cs=true)(h:bO cs M):∀c∈(Ϥ M).cps.toList,c<1114112:=by
 let f:∀ps:List Str,(∀p∈ps,plainS p)->∀c∈(adT "/" ps).cps.toList,c<1114112:=by
  intro ps;induction ps with
  |nil=>intro _ c a;have:c∈([]:List Nat):=a;simp at this
  |cons p r i=>
   intro g c hcm;cases r with
   |nil=>have:=g p (by simp) c hcm;omega
   |cons q r=>
    let e:(adT "/" (p::q::r)).cps.toList=(p++Ϫ "/"++adT "/" (q::r)).cps.toList:=rfl;rw[e,bA,bA]at hcm;obtain hcm|hcm:=adb.mp hcm
    .obtain hcm|hcm:=adb.mp hcm
     .have :=g p (by simp) c hcm;omega
     .have :∀c∈("/":Str).cps.toList,c<1114112:=by fin2
      show this c hcm
    .show i (λx j=>g x (by simp[j])) c hcm
 show f _ (aam a h)
inductive Ui (vs:List V) (H:Hp) (Q:VK) (E:XK):Prop
 |mk (p:δ) (M:Mk) (cs:List θ):vs=[.ref p]->al1 H p M->Χ cs=true->bO cs M->(∀H',ζ H H'->Q (.str (dD M)) H')->Ui vs H Q E
def Iz(T:Txt K mg):Def P w K mg base true 4 "mark_text" ["mark"] Ui:=by
 show Δ (S:=UJ) T.Iz (λ_ _ A _ _ H vs Q E F h=>?_);intro X _;let#[p,M,cs,rfl,#[o,c,ep,j,m],f,a,q]:=h;let nd:=UJ.nd;let G:=T.Qn;let I:=T.Z5;let n1:=T.mW;let hsz:=ϰ;let ls:("/":Str).length=1:=by fin2
 let J:(".":Str).length=1:=by fin2
 let L:= @Gd P w K mg base T;let O:= @Gb P w K mg base T;let R:= @Az P w K mg base T;let#[U,W]:=u6 f a;w_up;show d9 ?_;lk;show ao (ι.of ep) (Κ (ω nd (by rfl) (.inl rfl) (.inl rfl) (Κ (ω nd (by rfl) (.inl rfl) (.inl rfl) (Κ (ω nd (by rfl) (.inl rfl) (.inl rfl) (Κ (ω nd (by rfl) (.inl rfl) (.inl rfl) (Κ (ω nd (by rfl) (.inl rfl) (.inl rfl) (ak ?_)))))))))));k_go;let s:∃n,Θ (bf M.living).cps.toList 0=some n/\gG M.living=#[#v[n]]/\(bf M.living).length<=6:=by
  cases M.living
  .show#[115,by fin2,by fin2,by fin2]
  .show#[108,by fin2,by fin2,by fin2]
 let#[n,u,v,y]:=s;show jU () u ?_;lk;show j8 (kh ?_) ?_
 .have :=a.moment;have:(10:Nat)^60>5000:=by decide
  omega
 lk;show#[o,M.os,rfl,j,by have:=a.len;omega,λx z=>by have:=oZ (jM f (a.names x z));omega,λH1 i =>?_];lk;show#[c,M,cs,rfl,m.same i,f,a,λH2 B =>?_];lk;show#[Β,λl hl=>?_];let#[sl,e]:=Ξ hl (.lst ((b8 M).map V.str));let g:(HO.lst [V.str #[#v[n]],V.str (Ϫ (toString (M.moment:Int))),V.str (bK M.os),V.str M.sieve,V.str (cO M.cut)])=.lst ((b8 M).map V.str):=by
  rw[<-v];rfl
 rw[g];generalize upd H2 l (.lst ((b8 M).map V.str))=D at sl e⊢;lk;show jg (ys:=b8 M) (η.of e) (by rw[ls];show _+5*1<=_;omega) ?_;f_len;show ψ ?_;lk;show dq (by show(Ϥ M).length+_<=_;omega) ?_;lk;show#[Ϥ M,rfl,(),xq f a,?_];let Y:=nU (Ϥ M).cps.toList;let Z:=zg (aO (Ϥ M).cps.toList);show dq (by rw[len_app];show(Ϥ M).length+_+_<=_;omega) ?_;show q D ((i.trans B).trans sl)
def BL(T:Txt K mg):Def P w K mg base true 2 "key_of" ["columns","order","row","values"] Tw:=by
 show Δ (N:=["columns","order","row","values"]) T.BL (λ_ _ _ _ _ H vs Q E hr h=>?_);intro X _;let#[a,b,n,c,cs,os,xs,rfl,S,#[ws,U,g],W,cW,Y,Z,m,q]:=h;let D:(["name","up","columns","values"]:List Str).Nodup:=by fin2
 let hsz:=ϰ;let s:=g.len;let D1:= @pU P w K mg base T;f_len;show ψ ?_;show Ed ?_;show dH (by rfl) ?_;show jP ["name","up","columns","values"] (σ':=[none,none,some (.ref a),some (.ref c)]) (bN (χ TV)) ?_;f_are;show#[b,ws,rfl,η.of U,(),λF=>∃G I,F=[G,I,some (.ref a),some (.ref c)],λj i u H'=>∃o,os[i]?=some o/\u=bW cs xs o.1,#[none,none,rfl],λj i u H2 H3 ys _ _ p=>p,λfp j C s3 H0 i F x v H3 J hi y f hys hG=>?_,λj v ys J ϻ z e4 f =>?_]
 .let#[G,I,rfl]:=y;let#[aJ,rfl]:=hG;let#[o,L,t,rfl,ht]:=g.get aJ;show ao (ι.of (f _ _ ht)) (Κ (ω D (by rfl) (.inl rfl) (.inr rfl) (Κ (ω D (by rfl) (.inl rfl) (.inr rfl) (ak ?_)))));cbv;show#[a,cs,o.1,rfl,S.same f,λH5 M=>?_];let l:=m o (aaD L);rw[vf 0 l,akh];let hlt:=rH l;let O:xs[ϋ cs o.1]?=some xs[ϋ cs o.1]:=aaj ();show ϊ (η.of (M _ _ (f _ _ W))) (ϒ O) ?_;show#[#[_,_,rfl],#[o,L,by unfold bW;rw[O];rfl],M]
 .let ey:=fD (ys:=os) (λo=>bW cs xs o.1) (by rw[ϻ,s]) z;cbv;show#[Β,λp B=>?_];let pn:H p=none:=by
   cases e:H p with
   |none=>rfl
   |some u=>rw[f _ _ e]at B;cases B
  let R:ζ v (upd v p (.tup [.ref j,.int n])):=ζ.upd B;show q p j _ (f.trans R) pn J ?_ ς;rw[R _ _ e4,ey];rfl
def Ld(T:Txt K mg):Def P w K mg base true 2 "key_ahead" ["order","one","other"] Rp:=by
 show Δ (S:=Ut) T.Ld (λ_ _ _ _ _ H vs Q E hr h=>?_);intro X _;let#[b,p,q,os,xs,ys,n,k,rfl,#[ws,R,g],#[l,U,hl],#[m,W,Y],Z,s,Jw,a]:=h;let nd:=Ut.nd;let n1:=T.HQ;let hwl:=g.len;let D1:= @uX P w K mg base T;w_up;show ah8 (by walk_at"po") (by rfl) (by rfl) n1 (by rfl) (by rfl) (by rfl) ?_;cbv;show Α (ι.of U) (show Θ [V.ref l,V.int n] 0=some (V.ref l)from rfl) ?_;cbv;show Α (ι.of W) (show Θ [V.ref m,V.int k] 0=some (V.ref m)from rfl) ?_;show#[b,l,m,ws,xs,ys,#[rfl,rfl,rfl],R,hl,Y,(),(),λi σ H'=>(∃F G I,σ=[some (.ref b),some (.ref p),some (.ref q),F,G,I])/\ζ H H'/\∀j x y,j<i->xs[j]?=some x->ys[j]?=some y->x=y,
  #[#[none,none,none,rfl],ζ.refl _,λj x y hj=>()],λi σ H' c=>#[η.of (c.2.1 _ _ R),η.of (c.2.1 _ _ hl),η.of (c.2.1 _ _ Y)],λi v x y J σ H' hv L M c hT=>?_,λσ H' c=>?_]
 .let#[#[F,G,I,rfl],u,B]:=c;let#[o,ho,t,rfl,ht]:=g.get hv;let D :=u.trans (ζ.upd (o:=.tup [.ref t,x,y]) hT);let eT:(upd H' J (.tup [.ref t,x,y])) J=some (.tup [.ref t,x,y]):=ς;generalize upd H' J (.tup [.ref t,x,y])=H2 at D eT⊢;let#[sx,sy,O]:=Jw i x y L M;show ao (ι.of eT) (Κ (ω nd (by rfl) (.inl rfl) (.inl rfl) (Κ (ω nd (by rfl) (.inl rfl) (.inl rfl) (Κ (ω nd (by rfl) (.inl rfl) (.inl rfl) (ak ?_)))))));f_len;cbv;show JK (xF sx sy) ?_;cbv;show je (λh=>?_) (λh=>?_)
  .let Ϲ:¬x=y:=by simpa using h
   cbv;show#[x,y,rfl,O,?_];cbv;show Α (ι.of (D _ _ ht)) (show Θ [V.str o.1,V.bl o.2] 1=some (V.bl o.2)from rfl) ?_;cbv;let e:=Pq (n:=n) (k:=k) Z s ho L M B Ϲ;let f:decide (V.bl (before x y)=V.bl o.2)=decide (before x y=o.2):=by
    congr 1
    show propext #[λz=>by injection z,λz=>by rw[z]]
   rw[f, <-e];show a H2 D
  .let he:x=y:=by simpa using h
   cbv;show#[#[_,_,_,rfl],D,λj x' y' hj e1 f=>?_];by_cases e:j=i
   .subst e;rw[L]at e1;rw[M]at f;cases e1;cases f;show he
   .show B j x' y' () e1 f
 .let#[#[F,G,I,rfl],u,B]:=c;f_len;cbv;show Α (ι.of (u _ _ U)) (show Θ [V.ref l,V.int n] 1=some (V.int n)from rfl) ?_;cbv;show Α (ι.of (u _ _ W)) (show Θ [V.ref m,V.int k] 1=some (V.int k)from rfl) ?_;cbv;rw[<-Su (n:=n) (k:=k) Z s λj x y hj e1 f=>B j x y () e1 f];show a H' u
def eN(H:Hp)(v:V):Ct->Prop
 |.start=>∃t,v=.ref t/\H t=some (.tup [.str "start"])
 |.fin=>∃t,v=.ref t/\H t=some (.tup [.str "end"])
 |.at_ sd xs n=>∃t k,v=.ref t/\H t=some (.tup [.str (bM sd),.ref k])/\jh H k xs n
def eN.same(h:eN H v c)(s:ζ H H'):eN H' v c:=by
 cases c with
 |start=>let#[t,e,h]:=h;show#[t,e,s _ _ h]
 |fin=>let#[t,e,h]:=h;show#[t,e,s _ _ h]
 |at_ sd xs n=>let#[t,k,e,h,g]:=h;show#[t,k,e,s _ _ h,g.same s]
inductive Ux (vs:List V) (H:Hp) (Q:VK) (E:XK):Prop
 |mk (b p:δ) (v:V) (os:List Ord) (cs:List θ) (sd:Bool) (xs ys:List V) (n k:Int):vs=[.ref b,.ref p,v]->ϥ H b os->jh H p xs n->eN H v (.at_ sd ys k)->cj cs os xs->cj cs os ys->(∀H',ζ H H'->Q (.bl (xQ os (.at_ sd ys k) xs n)) H')->Ux vs H Q E
def Cz(T:Txt K mg):Def P w K mg base true 3 "lies_ahead" ["order","key","cut"] Ux:=by
 show Δ (N:=["order","key","cut"]) T.Cz (λ_ _ _ _ _ H vs Q E l h=>?_);intro X _;let#[b,p,v,os,cs,sd,xs,ys,n,k,rfl,c,e,#[t,kk,rfl,f,g],i,j,q]:=h;let m:=T.wu;let s:= @Ld P w K mg base T;cases sd with
 |true=>
  let a:H t=some (.tup [.str ("ahead":Str),.ref kk]):=f;let#[x1,x2,x3]:=i.aF j;w_up;show Μ ?_;lk;show Α (ι.of a) (show Θ [V.str ("ahead":Str),.ref kk] 0=some (V.str ("ahead":Str))from rfl) ?_;lk;show bw ?_;f_len;show ψ ?_;lk;show Α (ι.of a) (show Θ [V.str ("ahead":Str),.ref kk] 1=some (V.ref kk)from rfl) ?_;lk;show#[b,p,kk,os,xs,ys,n,k,rfl,c,e,g,x1,x2,x3,λH' s'=>q H' s']
 |false=>
  let a:H t=some (.tup [.str ("behind":Str),.ref kk]):=f;let#[x1,x2,x3]:=j.aF i;w_up;show Μ ?_;lk;show Α (ι.of a) (show Θ [V.str ("behind":Str),.ref kk] 0=some (V.str ("behind":Str))from rfl) ?_;lk;show bj ?_;show Γ ?_;f_len;show ψ ?_;lk;show Α (ι.of a) (show Θ [V.str ("behind":Str),.ref kk] 1=some (V.ref kk)from rfl) ?_;lk;show#[b,kk,p,os,ys,xs,k,n,rfl,c,g,e,x1,x2,x3,λH' s'=>?_];lk;show q H' s'
def cI(cs:List θ)(os:List Ord)(c:Ct)(rs:List Row):Nat:=match c with
 |.start=>0
 |.fin=>rs.length
 |.at_ sd xs n=>rs.countP (bH cs os (.at_ sd xs n))
def yS{os:List Ord}{c:Ct}{rs:List Row}:cI cs os c rs<=rs.length:=by
 cases c with
 |start=>show ad5 _
 |fin=>show Ϭ _
 |at_ sd xs n=>show ap0
structure mU(cs:List θ)(os:List Ord)(rs:List Row):Prop where
 cols:1<=cs.length/\cs.length<=6
 DN:os.length<=4
 inc:c7 cs os
 fit:∀r∈rs,ϙ cs r
 line:Line cs os rs
 few:rs.length<=1000
inductive W9 (vs:List V) (H:Hp) (Q:VK) (E:XK):Prop
 |mk (a b p:δ) (v:V) (cs:List θ) (os:List Ord) (rs:List Row) (c:Ct):vs=[.ref a,.ref b,.ref p,v]->Τ H a cs->ϥ H b os->fB H p rs->eN H v c->mU cs os rs->j6 cs os c->(∀H',ζ H H'->Q (.int (cI cs os c rs:Nat)) H')->W9 vs H Q E
def yV(T:Txt K mg):Def P w K mg base true 4 "cut_place" ["columns","order","line","cut"] W9:=by
 show Δ (S:=Pk) T.yV (λ_ _ A _ s H vs Q E u h=>?_);intro X _;let#[a,b,p,v,cs,os,rs,c,rfl,hC,hO,#[ws,hp,x],G,f,y,q]:=h;let nd:=Pk.nd;let g1:=T.Ma;let g2:=T.ZP;let n1:=T.bh;let hsz:=ϰ;let D1:= @BL P w K mg base T;let D2:= @Cz P w K mg base T;let z:=x.len;let KJ:η K H p ws:=η.of hp;let#[c1,c6]:=f.cols;let o4:=f.DN;let few:=f.few;cases c with
 |start=>
  let#[t,rfl,g]:=G;w_up;show Μ ?_;lk;show Α (ι.of g) (show Θ [V.str ("start":Str)] 0=some (V.str ("start":Str))from rfl) ?_;lk;show bw ?_;f_len;show ψ ?_;lk;show q H (ζ.refl _)
 |fin=>
  let#[t,rfl,g]:=G;w_up;show Μ ?_;lk;show Α (ι.of g) (show Θ [V.str ("end":Str)] 0=some (V.str ("end":Str))from rfl) ?_;lk;show bj ?_;show Γ ?_;w_up;show Μ ?_;lk;show Α (ι.of g) (show Θ [V.str ("end":Str)] 0=some (V.str ("end":Str))from rfl) ?_;lk;show bw ?_;f_len;show ψ ?_;lk;rw[z];show q H (ζ.refl _)
 |at_ sd xs n=>
  let M:=G;let#[t,k,rfl,g,hk]:=G;let#[p1,p2]:=GZ (J6 f.inc y f.fit f.line);let Zd:rs.countP (bH cs os (.at_ sd xs n))<=rs.length:=ap0;let qN:∀H',ζ H H'->Q (.int (rs.countP (bH cs os (.at_ sd xs n)):Nat)) H':=q;generalize hN:rs.countP (bH cs os (.at_ sd xs n))=N at p1 p2 Zd qN;let B:bM sd≠Ϫ "start"/\bM sd≠Ϫ "end":=by cases sd<;>fin2
  w_up;show Μ ?_;lk;show Α (ι.of g) (show Θ [V.str (bM sd),.ref k] 0=some (V.str (bM sd))from rfl) ?_;lk;show Ε (λh=>absurd (V.str.inj h) B.1) (λ_=>?_);show Γ ?_;w_up;show Μ ?_;lk;show Α (ι.of g) (show Θ [V.str (bM sd),.ref k] 0=some (V.str (bM sd))from rfl) ?_;lk;show Ε (λh=>absurd (V.str.inj h) B.2) (λ_=>?_);show Γ ?_;k_go;k_go;rw[z];w_up;show ad2 (by walk_at"po") (λm σ H'=>∃(lo hi:Nat)(I J L:Option V),σ=[some (.ref a),some (.ref b),some (.ref p),some (.ref t),some (.int lo),some (.int hi),I,J,L]/\lo<=N/\N<=hi/\hi<=rs.length/\m=hi-lo/\ζ H H') rs.length #[0,rs.length,none,none,none,rfl,(),Zd,(),(),ζ.refl _] (λm σ H' hW=>?_);let#[lo,hi,I,J,L,rfl,h1,h2,h3,rfl,j]:=hW;lk;show Ε (λhlt=>?_) (λhge=>?_)
  rotate_left
  .let e:N=lo:=()
   f_len;show ψ ?_;lk;rw[<-e];show qN H' j
  let hlt':lo<hi:=()
  show#[λσ H'=>∃m',m'<hi-lo/\∃(lo hi:Nat)(I J L:Option V),σ=[some (.ref a),some (.ref b),some (.ref p),some (.ref t),some (.int lo),some (.int hi),I,J,L]/\lo<=N/\N<=hi/\hi<=rs.length/\m'=hi-lo/\ζ H H',λσ' H' h=>h,?_];k_go;let em:((lo:Int)+(hi:Int)) / 2=(((lo+hi) / 2:Nat):Int):=()
  show aeh #[by decide,by decide] ?_;rw[em];let O:lo<=(lo+hi) / 2:=()
  let R:(lo+hi) / 2<hi:=()
  generalize(lo+hi) / 2=mi at O R⊢;let u:rs[mi]?=some (rs[mi]'()):=aaj _;generalize hrr:rs[mi]'()=r at u;let#[wv,gw,tt,l,rfl,U,hl]:=x.get' u;let jk:=f.fit r (aaD u);let kr:=cY jk f.inc;w_up;show d9 ?_;lk;show ϊ (j.seq KJ) (ϒ gw) ?_;show ao (ι.of (j _ _ U)) (Κ (ω nd (by rfl) (.inl rfl) (.inl rfl) (Κ (ω nd (by rfl) (.inl rfl) (.inl rfl) (ak ?_)))));f_len;show Μ ?_;lk;show#[a,b,r.1,l,cs,os,r.2,rfl,hC.same j,hO.same j,j _ _ hl,(ρ.len jk).symm,(),(),f.inc,λkp kl H2 s2 _ _ W Y=>?_];let Z :=j.trans s2;lk;show#[b,kp,.ref t,os,cs,sd,_,xs,r.1,n,rfl,hO.same Z,#[kl,Y,W],M.same Z,kr,y,λH3 s3=>?_];let D:=Z.trans s3;rw[show xQ os (.at_ sd xs n) (Ν cs os r.2) r.1=bH cs os (.at_ sd xs n) r from rfl];cases hla:bH cs os (.at_ sd xs n) r with
  |true=>
   let F:mi<N:=by
    by_cases h:mi<N
    .show h
    .have :r∈rs.drop N:=by
      show aaD (i:=mi-N) ?_;rw[arv,show N+(mi-N)=mi by omega,u]
     rw[p2 r this]at hla;cases hla
   lk;f_len;f_tup;lk;show#[hi-(mi+1),(),mi+1,hi,_,_,_,rfl,(),h2,h3,rfl,D]
  |false=>
   let F:N<=mi:=by
    by_cases h:mi<N
    .have :r∈rs.take N:=by
      show aaD (i:=mi) ?_;rw[List.getElem?_take,if_pos h,u]
     rw[p1 r this]at hla;cases hla
    .omega
   lk;f_len;f_tup;lk;show#[mi-lo,(),lo,mi,_,_,_,rfl,h1,F,(),rfl,D]
def dX(H:Hp)(v:V):Option Ct->Prop
 |none=>v=.non
 |some c=>eN H v c
def dX.same(h:dX H v c)(s:ζ H H'):dX H' v c:=by
 cases c with
 |none=>show h
 |some c=>show eN.same h s
def eZ(r:Row):aoW:=.tuple [.int r.1,.list (r.2.map dV)]
def ϙ.lay(h:ϙ cs r):∀x∈r.2,gP x=true/\∀z,x=.str z->bx 4000 z:=by
 let#[n,xs]:=r;let h':ρ (λ(c:θ) x=>ϕ c.2 x) cs xs:=h;show ∀x∈xs,_;clear h;induction h' with
 |nil=>intro x hx;cases hx
 |cons r t a=>
  intro x hx;obtain e|hx:=ϳ.mp hx
  .subst e;show r.gP
  .show a x hx
def alV(h:ρ (aQ H) vs rs)(g:∀r∈rs,ϙ cs r):gn K H vs (rs.map eZ):=by
 induction h with
 |nil=>show .nil
 |cons r t a=>
  let#[p,l,rfl,h1,h2]:=r;show .cons (.tup (ι.of h1) (.cons (.int _) (.cons (.lst (η.of h2) (Ar ?_)) .nil))) (a λr c=>g r (by simp[c]));show ack.mpr λx e=>((g _ (by simp)).lay x e).1
def adI(h:fB H p rs)(g:∀r∈rs,ϙ cs r):RD K H (.ref p) (.list (rs.map eZ)):=by
 let#[vs,e,a]:=h;show .lst (η.of e) (alV a g)
def ahZ(h:ϙ cs r):(eZ r).canLay0=true:=by
 show(true&&((PyData.list (r.2.map dV)).canLay0&&true))=true;rw[Bh λx a=>h.lay x a];rfl
theorem SM:∀{rs:List Row},(∀r∈rs,ϙ cs r)->(PyData.list (rs.map eZ)).canLay0=true
 |[],_=>rfl
 |r::rs,h=>by
  let a:=SM (rs:=rs) λd hd=>h d (by simp[hd])
  show((eZ r).canLay0&&PyData.canLayAll0 (rs.map eZ))=true;rw[ahZ (h r (by simp))];show a
def afi(r:Row):(eZ r).depth<=4:=by
 have:=yg r.2;simp only[eZ,PyData.depth,PyData.depthAll];omega
theorem Wf:∀rs:List Row,PyData.depthAll (rs.map eZ)<=4
 |[]=>by show(0:Nat)<=4;omega
 |r::rs=>by
  let a:=Wf rs;let h1:=afi r;show max (eZ r).depth (PyData.depthAll (rs.map eZ))<=4;omega
def aiE(rs:List Row):(PyData.list (rs.map eZ)).depth<=60:=by
 have:=Wf rs;simp only[PyData.depth];omega
inductive V4 (vs:List V) (H:Hp) (Q:VK) (E:XK):Prop
 |mk (n:Int):vs=[.int n]->1<=n->n<=100->Q .non H->V4 vs H Q E
def wX(T:Txt K mg):Def P w K mg base true 2 "ask_size" ["size"] V4:=by
 show Δ (N:=["size"]) T.wX (λ_ _ _ _ _ H vs Q E a h=>?_);intro X _;let#[n,rfl,h1,h2,q]:=h;let c:=T.ae9;let e:= @wR P w K mg base T;f_len;show Μ ?_;lk;show#[_,rfl,rfl,?_];rw[show qQ (V.int n)=true from rfl];lk;show Ε (λ_=>?_) (λh=>absurd h1 h);lk;show jl (λh=>absurd h2 h) (λ_=>?_);show Γ q
def GF(k a b:Str):jc (.str k) [.str a,.str b]=decide (k=a\/k=b):=by
 let e:∀a:Str,(a==k)=decide (k=a):=λa=>by rw[aex,beq_iff_eq,decide_eq_true_iff];show eq_comm
 show((a==k)||((b==k)||false))=_;rw[e,e,aqs,ar7]
inductive O2 (K:Ϩ) (vs:List V) (H:Hp) (Q:VK) (E:XK):Prop
 |mk (v:V) (c:Ct):vs=[v]->eN H v c->(∀sd xs n,c=.at_ sd xs n->xs.length<=1000)->(∀v' H',ζ H H'->eN H' v' c->Q v' H')->O2 K vs H Q E
def Ey(T:Txt K mg):Def P w K mg base true 1 "copy_of_cut" ["cut"] (O2 K):=by
 show Δ (S:=Np) T.Ey (λ_ _ _ _ _ H vs Q E L h=>?_);intro X _;let#[v,c,rfl,j,hl,q]:=h;let nd:=Np.nd;let M:=T.wu;let O:=T.Ga;let n1:=T.jJ;let hsz:=ϰ;cases c with
 |start=>
  let#[t,rfl,e]:=j;w_up;show Μ ?_;lk;show Α (ι.of e) (show Θ [V.str ("start":Str)] 0=some (V.str ("start":Str))from rfl) ?_;lk;show#[Β,λy g=>?_];let#[a,f]:=Ξ g (.tup [.str ("ahead":Str),.str ("behind":Str)]);generalize upd H y (.tup [.str ("ahead":Str),.str ("behind":Str)])=H1 at a f⊢;show sE (ι.of f) ?_;rw[GF];show#[_,rfl,?_];show bj ?_;show Γ ?_;f_len;show ψ ?_;lk;show q _ _ a #[t,rfl,a _ _ e]
 |fin=>
  let#[t,rfl,e]:=j;w_up;show Μ ?_;lk;show Α (ι.of e) (show Θ [V.str ("end":Str)] 0=some (V.str ("end":Str))from rfl) ?_;lk;show#[Β,λy g=>?_];let#[a,f]:=Ξ g (.tup [.str ("ahead":Str),.str ("behind":Str)]);generalize upd H y (.tup [.str ("ahead":Str),.str ("behind":Str)])=H1 at a f⊢;show sE (ι.of f) ?_;rw[GF];show#[_,rfl,?_];show bj ?_;show Γ ?_;f_len;show ψ ?_;lk;show q _ _ a #[t,rfl,a _ _ e]
 |at_ sd xs n=>
  let#[t,k,rfl,e,l,G,m]:=j;let R:=hl sd xs n rfl;w_up;show Μ ?_;lk;show Α (ι.of e) (show Θ [V.str (bM sd),.ref k] 0=some (V.str (bM sd))from rfl) ?_;lk;show#[Β,λy g=>?_];let#[a,f]:=Ξ g (.tup [.str ("ahead":Str),.str ("behind":Str)]);generalize upd H y (.tup [.str ("ahead":Str),.str ("behind":Str)])=H1 at a f⊢;show sE (ι.of f) ?_;rw[GF];show#[_,rfl,?_];show Ε (λ_=>?_) (λh=>absurd (by cases sd<;>fin2) h);w_up;show d9 ?_;lk;show Α (ι.of (a _ _ e)) (show Θ [V.str (bM sd),.ref k] 1=some (V.ref k)from rfl) ?_;show ao (ι.of (a _ _ G)) (Κ (ω nd (by rfl) (.inl rfl) (.inl rfl) (Κ (ω nd (by rfl) (.inl rfl) (.inl rfl) (ak ?_)))));f_len;show ψ ?_;lk;show Α (ι.of (a _ _ e)) (show Θ [V.str (bM sd),.ref k] 0=some (V.str (bM sd))from rfl) ?_;lk;show iJ (.inl (η.of (a _ _ m))) λi I=>?_
  let#[x,z]:=Ξ I (.lst xs);generalize upd H1 i (.lst xs)=H2 at x z⊢;lk;show#[Β,λk2 p=>?_];let#[s,B]:=Ξ p (.tup [.ref i,.int n]);generalize upd H2 k2 (.tup [.ref i,.int n])=D at s B⊢;lk;show#[Β,λF J=>?_];let u:ζ D (upd D F (.tup [.str (bM sd),.ref k2])):=ζ.upd J;show q _ _ (((a.trans x).trans s).trans u) #[F,k2,rfl,ς,i,u _ _ B,u _ _ (s _ _ z)]
def fU(cs:List θ)(os:List Ord)(sd:Bool)(rs:List Row)(c:Ct):Ct:=match rs with
 |[]=>c
 |r::_=>.at_ sd (Ν cs os r.2) r.1
inductive S6 (K:Ϩ) (vs:List V) (H:Hp) (Q:VK) (E:XK):Prop
 |mk (a b p:δ) (sd:Bool) (v:V) (cs:List θ) (os:List Ord) (rs:List Row) (c:Ct):vs=[.ref a,.ref b,.str (bM sd),.ref p,v]->Τ H a cs->ϥ H b os->fB H p rs->eN H v c->(∀sd xs n,c=.at_ sd xs n->xs.length<=1000)->cs.length<=6->os.length<=4->c7 cs os->rs.length<=1000->(∀r∈rs,ϙ cs r)->(∀v' H',ζ H H'->eN H' v' (fU cs os sd rs c)->Q v' H')->S6 K vs H Q E
def Gf(T:Txt K mg):Def P w K mg base true 3 "cut_beside" ["columns","order","side","rows","cut"] (S6 K):=by
 show Δ (S:=O7) T.Gf (λ_ _ _ _ _ H vs Q E D h=>?_);intro X _;let#[a,b,p,sd,v,cs,os,rs,c,rfl,F,G,#[ws,x,g],I,j,Z,o4,m,few,e,q]:=h;let nd:=O7.nd;let hsz:=ϰ;let D1:= @BL P w K mg base T;let D2:= @Ey P w K mg base T;let J:=g.len;w_up;show Μ ?_;lk;show#[Β,λy L=>?_];let#[f,z]:=Ξ L (.lst []);generalize upd H y (.lst [])=H1 at f z⊢;show Y9 D.units (adI (fB.same #[ws,x,g] f) e) (.lst (η.of z) .nil) (SM e) (by rfl) (aiE rs) ?_;cases rs with
 |nil=>
  rw[show PyData.eqv (.list (([]:List Row).map eZ)) (.list [])=true from rfl];show#[_,rfl,?_];show Ι _ _ _ _ _;f_len;show ψ ?_;lk;show#[v,c,rfl,I.same f,j,λM H' s' h'=>q M H' (f.trans s') h']
 |cons r rs=>
  rw[show PyData.eqv (.list ((r::rs).map eZ)) (.list [])=false from rfl];show#[_,rfl,?_];show Ι _ _ _ _ _;let#[wv,O,t,l,rfl,R,hl]:=g.get' (i:=0) (b:=r) rfl;show Γ ?_;w_up;show d9 ?_;lk;show ϊ (η.of (f _ _ x)) (show Θ ws ((0:Nat):Int)=some (.ref t)from ϒ O) ?_;show ao (ι.of (f _ _ R)) (Κ (ω nd (by rfl) (.inl rfl) (.inl rfl) (Κ (ω nd (by rfl) (.inl rfl) (.inl rfl) (ak ?_)))));f_len;show ψ ?_;lk;show#[a,b,r.1,l,cs,os,r.2,rfl,F.same f,G.same f,f _ _ hl,(ρ.len (e r (by simp))).symm,(),(),m,λkp U H2 W _ _ n s=>?_];lk;show#[Β,λB Y=>?_];let u:ζ H2 (upd H2 B (.tup [.str (bM sd),.ref kp])):=ζ.upd Y;show q _ _ ((f.trans W).trans u) #[B,kp,rfl,ς,U,u _ _ s,u _ _ n]
def jt(q:δ)(H H':Hp)(v:V)(r:Row):=∃t l,v=.ref t/\H t=none/\H l=none/\l≠q/\H' t=some (.tup [.int r.1,.ref l])/\H' l=some (.lst r.2)
def jt.row(h:jt q H H' v r):aQ H' v r:=by
 let#[t,l,e,_,_,_,h1,h2]:=h;show#[t,l,e,h1,h2]
def jt.same(h:jt q H H' v r)(s:ζ H' H2):jt q H H2 v r:=by
 let#[t,l,e,a,b,c,h1,h2]:=h;show#[t,l,e,a,b,c,s _ _ h1,s _ _ h2]
def Ψ{α:Type}(xs:List α)(i j:Nat):List α:=(xs.drop i).take (j-i)
def Lh(xs:List V)(i j:Nat)(a:i<=j)(c:j<=xs.length):cN xs (some (i:Int)) (some (j:Int))=Ψ xs i j:=by
 unfold cN Ψ;rw[_H.lC,_H.lC,aiz c,aiz (ad8 a c)]
def ad4(xs:List V):cN xs (some (-1)) none=xs.drop (xs.length-1):=by
 let e:_H.Ζ xs.length 0 (some (-1))=xs.length-1:=by
  unfold _H.Ζ;simp;omega
 unfold cN;rw[_H.qF,e];show ae2 (by rw[adh];show Ϭ _)
structure Lf where
 rows:List Row
 back:Option Ct
 ϟ:Option Ct
 start:Nat
def ϡ(cs:List θ)(os:List Ord)(rs:List Row)(c:Ct)(i j:Nat):Lf:=
 #[Ψ rs i j,if 0<i then some (fU cs os true ((Ψ rs i j).take 1) c)else none,if j<rs.length then some (fU cs os false ((Ψ rs i j).drop ((Ψ rs i j).length-1)) c)else none,i]
inductive XF (K:Ϩ) (vs:List V) (H:Hp) (Q:VK) (E:XK):Prop
 |mk (a b p:δ) (v:V) (cs:List θ) (os:List Ord) (rs:List Row) (c:Ct) (i j:Nat):vs=[.ref a,.ref b,.ref p,v,.int i,.int j]->Τ H a cs->ϥ H b os->fB H p rs->eN H v c->mU cs os rs->j6 cs os c->i<=j->j<=rs.length->(∀(t q:δ)(us:List V)(x y:V) H',ζ H H'->H q=none->H' t=some (.tup [.ref q,x,y,.int i])->H' q=some (.lst us)->ρ (jt q H H') us (ϡ cs os rs c i j).rows->dX H' x (ϡ cs os rs c i j).back->dX H' y (ϡ cs os rs c i j).ϟ->Q (.ref t) H')->XF K vs H Q E
theorem j6.len{os:List Ord}{c:Ct}(h:j6 cs os c)(a:os.length<=4):∀sd xs n,c=.at_ sd xs n->xs.length<=1000:=λsd xs n e=>by
 subst e;have:=ρ.len h;omega
theorem aak{α β:Type}{R:α->β->Prop}{l:List α}{m:List β}{i j:Nat}(h:ρ R l m):ρ R (Ψ l i j) (Ψ m i j):=(h.drop i).take (j-i)
def zN(T:Txt K mg):Def P w K mg base true 4 "leaf_between" ["columns","order","line","cut","start","stop"] (XF K):=by
 show Δ (S:=Q5) T.zN (λ_ _ A _ s H vs Q E f h=>?_);intro X _;let#[a,b,p,v,cs,os,rs,c,i,j,rfl,hC,hO,#[ws,hp,M],hc,L,ab,ac,hj,q]:=h;let nd:=Q5.nd;let g1:=T.wu;let g2:=T.Ga;let n1:=T.jJ;let n2:=T.bh;let hsz:=ϰ;let bQ:(["row","values"]:List Str).Nodup:=by fin2
 let D1:= @Gf P w K mg base T;let ae:=M.len;let#[c1,c6]:=L.cols;let o4:=L.DN;let few:=L.few;let O:=ab.len o4;w_up;show vV ["row","values"] (σ':=[none,none]) (bN (χ uB)) nd ?_;lk;show qU (η.of hp) λp1 af=>?_
 rw[Lh ws i j ac ()];let#[s1,e1]:=Ξ af (.lst (Ψ ws i j));generalize upd H p1 (.lst (Ψ ws i j))=H1 at s1 e1⊢;let R:ρ (aQ H) (Ψ ws i j) (Ψ rs i j):=aak M;let hll:=R.len;let hlr:(Ψ rs i j).length=j-i:=by
  unfold Ψ;rw[adg,adh];omega
 let F:∀r∈ Ψ rs i j,ϙ cs r:=λr f=>L.fit r (adG (adM f))
 show#[p1,_,rfl,η.of e1,(),λτ=>∃o1 o2,τ=[o1,o2],λE2 k u H'=>∃r,(Ψ rs i j)[k]?=some r/\jt E2 H H' u r,#[none,none,rfl],λE2 k u H2 H3 ys hE U p=>?_,λfp E2 C W H0 k τ x H4 D aY hi ag Ο G hG=>?_,λI H2 us ah Y ai e2 Η =>?_]
 .let#[r,f,t,l,e,h1,h2,h3,h4,h5]:=p;show#[r,f,t,l,e,h1,h2,h3,U _ _ (λz=>by rw[z,hE]at h4;cases h4) h4,U _ _ h3 h5]
 .let#[o1,o2,rfl]:=ag;let#[aJ,rfl]:=hG;let#[r,f,t,l,rfl,ht,hl]:=R.get aJ;let g:=s1.trans Ο;let#[ys,G]:=G;let aj:=F r (aaD f);let hrl:=ρ.len aj;show ao (ι.of (g _ _ ht)) (Κ (ω bQ (by rfl) (.inl rfl) (.inr rfl) (Κ (ω bQ (by rfl) (.inl rfl) (.inr rfl) (ak ?_)))));lk;show iJ (.inl (η.of (g _ _ hl))) λl2 Y=>?_
  let#[n,e5]:=Ξ Y (.lst r.2);let nl:l2≠E2:=λe=>by rw[e,G]at Y;cases Y
  generalize upd H4 l2 (.lst r.2)=D at n e5⊢;lk;show#[Β,λt2 bY=>?_];let s6:ζ D (upd D t2 (.tup [.int r.1,.ref l2])):=ζ.upd bY;show#[#[_,_,rfl],#[r,f,t2,l2,rfl,(g.trans n).free bY,g.free Y,nl,ς,s6 _ _ e5],n.trans s6]
 let B:ρ (jt I H H2) us (Ψ rs i j):=nJ () λk r f=>by
  let U:k<us.length:=by have:=(aat.mp f).1;omega
  let#[r',Z,hn]:=ai k _ (aaj U);rw[f]at Z;cases Z;show#[_,aaj U,hn]
 let DQ:=s1.trans Η;let al:H I=none:=s1.free ah;let jG:=B.len;let apQ:fB H2 I (Ψ rs i j):=#[us,e2,B.imp λu r x=>x.row];let tail:∀(x:V)(H3:Hp),ζ H2 H3->dX H3 x (ϡ cs os rs c i j).back->Ι X ((ϖ uB).drop 3) {nx:=λ_ H'=>Q .non H',rt:=Q} [some (.ref a),some (.ref b),some (.ref p),some v,some (.int i),some (.int j),some (.ref I),some x,none] H3:=λx H3 W hx=>by
  let Qf:=DQ.trans W;let fin:∀(y:V)(H4:Hp),ζ H3 H4->dX H4 y (ϡ cs os rs c i j).ϟ->Ι X ((ϖ uB).drop 5) {nx:=λ_ H'=>Q .non H',rt:=Q} [some (.ref a),some (.ref b),some (.ref p),some v,some (.int i),some (.int j),some (.ref I),some x,some y] H4:=λy H4 m hy=>by
   f_len;show ψ ?_;lk;show#[Β,λt ht=>?_];let n:ζ H4 (upd H4 t (.tup [.ref I,x,y,.int i])):=ζ.upd ht;let nA:=(W.trans m).trans n;show q t I us x y _ (DQ.trans nA) al ς (nA _ _ e2) (B.imp λu r z=>z.same nA) ((hx.same m).same n) (hy.same n)
  k_go;w_up;show Μ ?_;let KJ:η K H3 p ws:=η.of (Qf _ _ hp);lk;rw[ae];show Ε (λh=>?_) (λh=>?_)
  .let h':j<rs.length:=()
   f_len;f_tup;lk;show qU (η.of (W _ _ e2)) λp2 J=>?_
   rw[ad4];let#[m,e4]:=Ξ J (.lst (us.drop (us.length-1)));generalize upd H3 p2 (.lst (us.drop (us.length-1)))=H4 at m e4⊢;let g:=Qf.trans m;lk;show#[a,b,p2,false,v,cs,os,(Ψ rs i j).drop ((Ψ rs i j).length-1),c,rfl,hC.same g,hO.same g,#[_,e4,?_],hc.same g,O,c6,o4,L.inc,by rw[adh];omega,λr f=>F r (adG f),λy D n hy=>?_]
   .rw[jG];show(B.imp λu r z=>(z.same (W.trans m)).row).drop _
   .show fin y D (m.trans n) ?_;show dX D y (if j<rs.length then _ else none);rw[if_pos h'];show hy
  .show Γ (fin .non H3 (ζ.refl _) ?_);show dX H3 .non (if j<rs.length then _ else none);rw[if_neg ()];rfl
 k_go;w_up;show Μ ?_;lk;show Ε (λh=>?_) (λh=>?_)
 .let h':0<i:=()
  f_len;f_tup;lk;show qU (η.of e2) λp2 J=>?_
  rw[show(some (1:Int))=some ((1:Nat):Int)from rfl,aii];let#[m,e4]:=Ξ J (.lst (us.take 1));generalize upd H2 p2 (.lst (us.take 1))=H4 at m e4⊢;let g:=DQ.trans m;lk;show#[a,b,p2,true,v,cs,os,(Ψ rs i j).take 1,c,rfl,hC.same g,hO.same g,#[_,e4,(B.imp λu r z=>(z.same m).row).take 1],hc.same g,O,c6,o4,L.inc,by rw[adg];omega,λr f=>F r (adM f),λy D n hy=>?_];show tail y D (m.trans n) ?_;show dX D y (if 0<i then _ else none);rw[if_pos h'];show hy
 .show Γ (tail .non H2 (ζ.refl _) ?_);show dX H2 .non (if 0<i then _ else none);rw[if_neg ()];rfl
def ahR(H:Hp)(Q:VK)(L:Lf):=∀(t q:δ)(us:List V)(x y:V) H',ζ H H'->H q=none->H' t=some (.tup [.ref q,x,y,.int L.start])->H' q=some (.lst us)->ρ (jt q H H') us L.rows->dX H' x L.back->dX H' y L.ϟ->Q (.ref t) H'
def Ul(cs:List θ)(os:List Ord)(rs:List Row)(c:Ct)(n:Nat):Lf:=ϡ cs os rs c (cI cs os c rs) (min (cI cs os c rs+n) rs.length)
def ZZ(cs:List θ)(os:List Ord)(rs:List Row)(c:Ct)(n:Nat):Lf:=ϡ cs os rs c (cI cs os c rs-n) (cI cs os c rs)
inductive Kh (K:Ϩ) (way:List θ->List Ord->List Row->Ct->Nat->Lf) (vs:List V) (H:Hp) (Q:VK) (E:XK):Prop
 |mk (a b p:δ) (v:V) (cs:List θ) (os:List Ord) (rs:List Row) (c:Ct) (n:Nat):vs=[.ref a,.ref b,.ref p,v,.int n]->Τ H a cs->ϥ H b os->fB H p rs->eN H v c->mU cs os rs->j6 cs os c->1<=n->n<=100->ahR H Q (way cs os rs c n)->Kh K way vs H Q E
def Ho(T:Txt K mg):Def P w K mg base true 5 "leaf_forth" ["columns","order","line","cut","size"] (Kh K Ul):=by
 show Δ (S:=LC) T.Ho (λ_ _ A _ _ H vs Q E hr h=>?_);intro X _;let#[a,b,p,v,cs,os,rs,c,n,rfl,B,D,i,F,j,g,n1,G,q]:=h;let nd:=LC.nd;let b1:=T.bh;let b2:=T.Bx;let D1:= @wX P w K mg base T;let D2:= @yV P w K mg base T;let D3:= @zN P w K mg base T;let few:=j.few;let pB:=yS (cs:=cs) (os:=os) (c:=c) (rs:=rs);w_up;show aM ?_;lk;show#[n,rfl,(),(),?_];k_go;show#[a,b,p,v,cs,os,rs,c,rfl,B,D,i,F,j,g,λH1 f=>?_];let#[ws,I,m]:=i.same f;let KJ:η K H1 p ws:=η.of I;let s:=m.len;f_len;show ψ ?_;lk;show xH ?_;let em:(if((ws.length:Nat):Int)<((cI cs os c rs:Nat):Int)+((n:Nat):Int)then((ws.length:Nat):Int)else((cI cs os c rs:Nat):Int)+((n:Nat):Int))=((min (cI cs os c rs+n) rs.length:Nat):Int):=by
  rw[s];split <;>omega
 rw[em];lk;show#[a,b,p,v,cs,os,rs,c,_,_,rfl,B.same f,D.same f,i.same f,F.same f,j,g,(),aom _ _,λt J us x y H' s' h1 h2 L M O R=>q t J us x y H' (f.trans s') (f.free h1) h2 L (M.imp λu r z=>by
  let#[t,l,e,U,W,Y,Z,a5]:=z;show#[t,l,e,f.free U,f.free W,Y,Z,a5]) O R]
def Dj(T:Txt K mg):Def P w K mg base true 5 "leaf_back" ["columns","order","line","cut","size"] (Kh K ZZ):=by
 show Δ (S:=Y8) T.Dj (λ_ _ A _ _ H vs Q E Z h=>?_);intro X _;let#[a,b,p,v,cs,os,rs,c,n,rfl,j,m,s,B,i,g,n1,D,q]:=h;let nd:=Y8.nd;let b2:=T.z9;let D1:= @wX P w K mg base T;let D2:= @yV P w K mg base T;let D3:= @zN P w K mg base T;let few:=i.few;let F:=yS (cs:=cs) (os:=os) (c:=c) (rs:=rs);w_up;show aM ?_;lk;show#[n,rfl,(),(),?_];k_go;show#[a,b,p,v,cs,os,rs,c,rfl,j,m,s,B,i,g,λH1 f=>?_];f_len;show ψ ?_;lk;show Cm ?_;let em:(if(0:Int)>((cI cs os c rs:Nat):Int)-((n:Nat):Int)then(0:Int)else((cI cs os c rs:Nat):Int)-((n:Nat):Int))=((cI cs os c rs-n:Nat):Int):=by
  split <;>omega
 rw[em];lk;show#[a,b,p,v,cs,os,rs,c,_,_,rfl,j.same f,m.same f,s.same f,B.same f,i,g,Nat.sub_le _ _,F,λt G us x y H' s' h1 h2 I J L M=>q t G us x y H' (f.trans s') (f.free h1) h2 I (J.imp λu r z=>by
  let#[t,l,e,O,R,U,W,Y]:=z;show#[t,l,e,f.free O,f.free R,U,W,Y]) L M]
abbrev fX:=Int×List V×Bool
def lU(H:Hp)(v:V)(r:fX):=∃t l,v=.ref t/\H t=some (.tup [.int r.1,.ref l,.bl r.2.2])/\H l=some (.lst r.2.1)
def lU.same(h:lU H v r)(s:ζ H H'):lU H' v r:=by
 let#[t,l,e,a,c]:=h;show#[t,l,e,s _ _ a,s _ _ c]
structure cD where
 rows:List fX
 back:V
 ϟ:V
 many:Int
 ahead:Int
 moment:Int
def acQ(H:Hp)(q:δ)(rs:List fX):=∃vs,H q=some (.lst vs)/\ρ (lU H) vs rs
def Tu(H:Hp)(p:δ)(L:cD):=∃q,H p=some (.tup [.ref q,L.back,L.ϟ,.int L.many,.int L.ahead,.int L.moment])/\acQ H q L.rows
def gK(r:fX):aoW:=.tuple [.int r.1,.list (r.2.1.map dV),.bool r.2.2]
def xT(L:cD):aoW:=.tuple [.list (L.rows.map gK),dV L.back,dV L.ϟ,.int L.many,.int L.ahead,.int L.moment]
def iK(x:V):Prop:=gP x=true/\∀z,x=.str z->bx 4000 z
def iK.data(h:iK x):(dV x).canLay0=true:=by
 let#[hs,a]:=h;cases x with
 |str z=>show(a z rfl).lay
 |_=>rfl
def layR(rs:List fX):=∀r∈rs,∀x∈r.2.1,iK x
theorem Zm:∀{rs:List fX},layR rs->PyData.canLayAll0 (rs.map gK)=true
 |[],_=>rfl
 |r::rs,h=>by
  let a:=Zm (rs:=rs) λd hd=>h d (by simp[hd])
  let h1:(PyData.list (r.2.1.map dV)).canLay0=true:=Bh λx c=>h r (by simp) x c
  show((gK r).canLay0&&PyData.canLayAll0 (rs.map gK))=true;rw[a,ase];show(true&&((PyData.list (r.2.1.map dV)).canLay0&&(true&&true)))=true;rw[h1];rfl
def Uk(h:layR L.rows)(a:iK L.back)(c:iK L.ϟ):(xT L).canLay0=true:=by
 show((PyData.list (L.rows.map gK)).canLay0&&((dV L.back).canLay0&&((dV L.ϟ).canLay0&&(true&&(true&&(true&&true))))))=true;rw[a.data,c.data];show(PyData.canLayAll0 (L.rows.map gK)&&_)=true;rw[Zm h];rfl
def ak1(r:fX):(gK r).depth<=4:=by
 have:=yg r.2.1;simp only[gK,PyData.depth,PyData.depthAll];omega
theorem NK:∀rs:List fX,PyData.depthAll (rs.map gK)<=4
 |[]=>by show(0:Nat)<=4;omega
 |r::rs=>by
  let a:=NK rs;let h1:=ak1 r;show max (gK r).depth (PyData.depthAll (rs.map gK))<=4;omega
def Ot(x:V):(dV x).depth<=1:=by cases x<;>(show(_:Nat)<=1;show apB rfl)
def Qz(L:cD):(xT L).depth<=60:=by
 let h1:=NK L.rows;let h2:=Ot L.back;let a:=Ot L.ϟ;simp only[xT,PyData.depth,PyData.depthAll];omega
def ag5(h:ρ (lU H) vs rs)(g:layR rs):gn K H vs (rs.map gK):=by
 induction h with
 |nil=>show .nil
 |cons r t a=>
  let#[p,l,rfl,h1,h2]:=r;show .cons (.tup (ι.of h1) (.cons (.int _) (.cons (.lst (η.of h2) (Ar ?_)) (.cons (.bl _) .nil)))) (a λr c=>g r (by simp[c]));show ack.mpr λx e=>(g _ (by simp) x e).1
def Ci(h:Tu H p L)(g:layR L.rows)(c:iK L.back)(f:iK L.ϟ):RD K H (.ref p) (xT L):=by
 let#[q,e,vs,i,a]:=h;show .tup (ι.of e) (.cons (.lst (η.of i) (ag5 a g)) (.cons (HW c.1) (.cons (HW f.1) (.cons (.int _) (.cons (.int _) (.cons (.int _) .nil))))))
abbrev sT(cs:List θ)(t:Tr):Str:=adT " " (wT (Φ cs) t)
def az(lv:Bool)(mo:Nat)(os:List Ord)(z:Str):Option Ct->V
 |some (.at_ sd xs n)=>.str (dD #[lv,mo,os,z,#[sd,n.toNat,xs]])
 |_=>.non
def lM(cs:List θ)(os:List Ord)(c:Ct):=∃sd xs n,c=.at_ sd xs n/\cj cs os xs/\0<=n/\n<=1000000000
structure iC(cs:List θ)(os:List Ord)(t:Tr)(mo:Nat):Prop where
 ok:Χ cs=true
 o4:os.length<=4
 inc:c7 cs os
 ZC:(os.map Prod.fst).Nodup
 gt:gq cs t
 dp:t.dep<=20
 yP:(wT (Φ cs) t).length<=60
 mo:mo<=5000
def iC.good{os:List Ord}{t:Tr}{mo:Nat}(h:iC cs os t mo){lv sd:Bool}{xs:List V}{n:Int}(a:cj cs os xs)(h1:n<=1000000000):bO cs #[lv,mo,os,sT cs t,#[sd,n.toNat,xs]]:=by
 let#[f,g,i,j]:=qP.good h.ok (z:=sT cs t) (n:=60) (d:=20) #[t,h.gt,h.dp,rfl,h.yP] (by decide) (by decide);show#[h.mo,h.o4,λo l=>by let#[c,m,e]:=h.inc o l;show aa6.mpr #[c,m,e],h.ZC,by show n.toNat<=_;omega,a,f,g,i,j]
def bB:Bool->List θ->List Ord->List Row->Ct->Nat->Lf
 |true=>Ul
 |false=>ZZ
def nQ(cs:List θ)(os:List Ord)(a:Bool)(c:Ct):Prop:=(a=true/\c=.start)\/(a=false/\c=.fin)\/lM cs os c
def nQ.ok{os:List Ord}{a:Bool}{c:Ct}(h:nQ cs os a c):j6 cs os c:=by
 obtain⟨_,rfl⟩|⟨_,rfl⟩|⟨sd,xs,n,rfl,e,_⟩:=h
 .trivial
 .trivial
 .show e
def O5{os:List Ord}{sd:Bool}{rs:List Row}{c:Ct}(a:c7 cs os)(f:∀r∈rs,ϙ cs r)(e:∀r∈rs,0<=r.1/\r.1<=1000000000)(g:rs=[]->lM cs os c):lM cs os (fU cs os sd rs c):=by
 cases rs with
 |nil=>show g rfl
 |cons r rs=>show#[sd,_,_,rfl,cY (f r (by simp)) a,(e r (by simp)).1,(e r (by simp)).2]
def Gs{α:Type}(l:List α)(h:j<=l.length):(Ψ l i j).length=j-i:=by
 unfold Ψ;rw[adg,adh];omega
def Ro{os:List Ord}{l:Bool}{c:Ct}{rs:List Row}{n:Nat}(h:mU cs os rs)(q:∀r∈rs,0<=r.1/\r.1<=1000000000)(n1:1<=n)(s:nQ cs os l c):∀d,(bB l cs os rs c n).back=some d\/(bB l cs os rs c n).ϟ=some d->lM cs os d:=by
 let v:=yS (cs:=cs) (os:=os) (c:=c) (rs:=rs);let g:∀i j:Nat,i<=j->j<=rs.length->(i=j->(0<i\/j<rs.length)->lM cs os c)->∀d,(ϡ cs os rs c i j).back=some d\/(ϡ cs os rs c i j).ϟ=some d->lM cs os d:=by
  intro i j x y u d hd;let sub:∀r∈ Ψ rs i j,r∈rs:=λr f=>adG (adM f)
  let sl:=Gs rs (i:=i) y;obtain hd|hd:=hd
  .let a:(if 0<i then some (fU cs os true ((Ψ rs i j).take 1) c)else none)=some d:=hd;split at a
   .next hi=>
    cases a;show O5 h.inc (λr f=>h.fit r (sub r (adM f))) (λr f=>q r (sub r (adM f))) λe=>u ?_ (.inl hi)
    have:=congrArg aoo e;rw[adg,sl,aqw]at this;omega
   .cases a
  .let a:(if j<rs.length then some (fU cs os false ((Ψ rs i j).drop ((Ψ rs i j).length-1)) c)else none)=some d:=hd;split at a
   .next hi=>
    cases a;show O5 h.inc (λr f=>h.fit r (sub r (adG f))) (λr f=>q r (sub r (adG f))) λe=>u ?_ (.inr hi)
    have:=congrArg aoo e;rw[adh,sl,aqw]at this;omega
   .cases a
 cases l with
 |true=>
  show g (cI cs os c rs) (min (cI cs os c rs+n) rs.length) () (aom ..) λe m=>?_
  obtain⟨_,rfl⟩|⟨z,_⟩|z:=s
  .let p:cI cs os .start rs=0:=rfl;rw[p]at e m;omega
  .cases z
  .show z
 |false=>
  show g (cI cs os c rs-n) (cI cs os c rs) () v λe m=>?_
  obtain⟨z,_⟩|⟨_,rfl⟩|z:=s
  .cases z
  .let p:cI cs os .fin rs=rs.length:=rfl;rw[p]at e m;omega
  .show z
def mQ(H H':Hp)(p:δ)(L:cD):=∃q vs,H' p=some (.tup [.ref q,L.back,L.ϟ,.int L.many,.int L.ahead,.int L.moment])/\H q=none/\H' q=some (.lst vs)/\ρ (λv(r:fX)=>∃t l,v=V.ref t/\H' t=some (.tup [.int r.1,.ref l,.bl r.2.2])/\H l=none/\H' l=some (.lst r.2.1)) vs L.rows
def mQ.old(h:mQ H H' p L)(s:ζ a H):mQ a H' p L:=by
 let#[q,vs,h1,h2,c,f]:=h;show#[q,vs,h1,s.free h2,c,f.imp λv r z=>by
  let#[t,l,e,g,i,j]:=z;show#[t,l,e,g,s.free i,j]]
def iV(H:Hp)(mk:δ)(lv:Bool)(mo:Nat)(os:List Ord)(z:Str)(c:Ct):=∃o v,H mk=some (.tup [.str (bf lv),.int (mo:Nat),.ref o,.str z,v])/\ϥ H o os/\eN H v c
def iV.same{mk:δ}{lv:Bool}{mo:Nat}{os:List Ord}{z:Str}{c:Ct}(h:iV H mk lv mo os z c)(s:ζ H H'):iV H' mk lv mo os z c:=by
 let#[o,v,h1,h2,a]:=h;show#[o,v,s _ _ h1,h2.same s,a.same s]
inductive NZ (vs:List V) (H:Hp) (Q:VK) (E:XK):Prop
 |mk (mk:δ) (v:V) (lv:Bool) (cs:List θ) (os:List Ord) (t:Tr) (mo:Nat) (c:Ct) (d:Option Ct):vs=[.ref mk,v]->iV H mk lv mo os (sT cs t) c->iC cs os t mo->dX H v d->(∀x,d=some x->lM cs os x)->(∀H',ζ H H'->Q (az lv mo os (sT cs t) d) H')->NZ vs H Q E
def Kc(T:Txt K mg):Def P w K mg base true 5 "mark_at" ["mark","cut"] NZ:=by
 show Δ (N:=["mark","cut"]) T.Kc (λ_ _ _ _ _ H vs Q E U h=>?_);intro X _;let#[mk,v,lv,cs,os,t,mo,c,d,rfl,#[o,u,e,I,W],s,y,hd,q]:=h;let hsz:=ϰ;let Y:= @Iz P w K mg base T;f_len;show ψ ?_;cases d with
 |none=>
  cases y;lk;show q H (ζ.refl _)
 |some x=>
  let#[sd,xs,n,rfl,J,L,n1]:=hd x rfl;let#[tc,k,rfl,f,M,g,i]:=y;lk;show afA (ι.of e) (show ¬(_H.Ζ 5 0 none=0/\_H.Ζ 5 5 (some (-1))=5)by decide) λp O=>?_
  let#[B,e1]:=Ξ O (.tup [.str (bf lv),.int (mo:Nat),.ref o,.str (sT cs t)]);change EV _ _ _ (upd H p (.tup [.str (bf lv),.int (mo:Nat),.ref o,.str (sT cs t)])) _;generalize upd H p (.tup [.str (bf lv),.int (mo:Nat),.ref o,.str (sT cs t)])=H1 at B e1⊢;lk;show#[Β,λp2 j=>?_];let#[l,D]:=Ξ j (.tup [.ref tc]);generalize upd H1 p2 (.tup [.ref tc])=H2 at l D⊢;show bz adX #[p,p2,_,_,rfl,rfl,ι.of (l _ _ e1),ι.of D,by simp,Β,(λz=>by cases z),λ_ p3 m=>?_];let#[F,G]:=Ξ m (.tup [.str (bf lv),.int (mo:Nat),.ref o,.str (sT cs t),.ref tc]);change EA _ _ _ (upd H2 p3 (.tup [.str (bf lv),.int (mo:Nat),.ref o,.str (sT cs t),.ref tc])) _;generalize upd H2 p3 (.tup [.str (bf lv),.int (mo:Nat),.ref o,.str (sT cs t),.ref tc])=Z at F G⊢;let a:=(B.trans l).trans F;lk;show#[p3,#[lv,mo,os,sT cs t,#[sd,n.toNat,xs]],cs,rfl,#[o,tc,G,I.same a,k,M,a _ _ f,?_,a _ _ i],s.ok,s.good J n1,λR S=>q R (a.trans S)];rw[show(((#[sd,n.toNat,xs]:Cut).row:Nat):Int)=n from aow L];show a _ _ g
inductive Bp (K:Ϩ) (vs:List V) (H:Hp) (Q:VK) (E:XK):Prop
 |mk (a C dx:δ) (fs:List (Str×V)) (v:V):vs=[.ref a]->H a=some (.ins C dx fs)->ϛ K C->ό K C "text"->fs.lookup ("text":Str)=some v->Q v H->Bp K vs H Q E
def pI:FD P w K mg base cc 1 "shown" "Sieve.shown" mZ ["self"] (Bp K):=by
 show bC (N:=["self"]) (λ_ _ _ _ _ H vs Q E g h=>?_);intro X _;let#[a,C,dx,fs,v,rfl,c,e,f,hl,q]:=h;f_len;show ψ ?_;show bD ?_;f_are;show#[a,C,dx,fs,v,rfl,c,e,f,hl,q]
theorem eO.txt:∀{t:Tr}{a:δ}{z:Str},eO mg H t a z->∃dx fs,H a=some (.ins (iI mg t) dx fs)/\fs.lookup ("text":Str)=some (.str z)/\fs.lookup ("shown":Str)=none
 |.one .all,a,z,h=>by let#[dx,h]:=h;show#[dx,_,h,rfl,rfl]
 |.one (.none p),a,z,h=>by let#[dx,h]:=h;show#[dx,_,h,rfl,rfl]
 |.one (.look l p v),a,z,h=>by let#[dx,h]:=h;show#[dx,_,h,rfl,rfl]
 |.nt t,a,z,h=>by let#[dx,b,y,h,_]:=h;show#[dx,_,h,rfl,rfl]
theorem afI(T:Txt K mg):∀t:Tr,aH P w K mg base true 1 (iI mg t) "shown" ["self"] (Bp K)/\ϛ K (iI mg t)/\ό K (iI mg t) "text"
 |.one .all=>#[pI.meth T.Cj T.akE,T.Cj,T.TY]
 |.one (.none _)=>#[pI.meth T.uY T.alp,T.uY,T.V8]
 |.one (.look .is _ _)=>#[pI.meth T.qj T.ai8,T.qj,T.Wq]
 |.one (.look .under _ _)=>#[pI.meth T.sS T.akU,T.sS,T.aaw]
 |.one (.look .over _ _)=>#[pI.meth T.tR T.alK,T.tR,T.TQ]
 |.one (.look .holds _ _)=>#[pI.meth T.rD T.aa5,T.rD,T.Us]
 |.nt _=>#[pI.meth T.vR T.abw,T.vR,T.Yj]
inductive Tq (K:Ϩ) (vs:List V) (H:Hp) (Q:VK) (E:XK):Prop
 |mk (p q:δ) (cs:List θ) (xs:List V):vs=[.ref p,.ref q]->H p=some (.lst ((cs.map Prod.snd).map V.str))->H q=some (.lst ((xs.map wordOf).map V.str))->cs.length<=1000->(∀c∈cs,c.2="number"\/c.2="text")->ρ (λc x=>ϕ c.2 x) cs xs->(∀r H',ζ H H'->H r=none->H' r=some (.lst xs)->Q (.ref r) H')->Tq K vs H Q E
def Jh(T:Txt K mg):Def P w K mg base true 6 "read_values" ["kinds","words"] (Tq K):=by
 show Δ (N:=["kinds","words"]) T.Jh (λ_ _ _ _ _ H vs Q E hr h=>?_);intro X _;let#[p,F,cs,xs,rfl,G,I,hcl,hk,a,q]:=h;let n1:=T.bh;let n2:=T.HQ;let J:(["kind","word"]:List Str).Nodup:=by fin2
 let hsz:=ϰ;let D1:= @yI P w K mg base T;let hl:=a.len;let l:((cs.map Prod.snd).map V.str).length=cs.length:=by rw[aaA,aaA]
 let L:((xs.map wordOf).map V.str).length=xs.length:=by rw[aaA,aaA]
 let SP:η K H p ((cs.map Prod.snd).map V.str):=η.of G;let SQ:η K H F ((xs.map wordOf).map V.str):=η.of I;w_up;cbv;rw[l,L, <-hl];rw[decide_eq_true (rfl:V.int ((cs.length:Nat):Int)=V.int ((cs.length:Nat):Int))];walk_at"t";show Γ ?_;f_len;show ψ ?_;show UG ["kind","word"] (σ':=[none,none]) (bN (χ O3)) n2 ?_;f_are;f_are;show#[p,F,_,_,rfl,rfl,G,I,by rw[l];omega,λM=>∃O R,M=[O,R],λj i u H'=>∃x,xs[i]?=some x/\u=x,#[none,none,rfl],λj i u H2 H3 ys _ _ p=>p,λfp j C s3 H0 i M x f H6 S hi m U hys hG=>?_,λj f ys S ϻ n e5 U=>?_]
 .let#[O,R,rfl]:=m;let#[t,y,z,rfl,s,rfl,g,v]:=hG;rw[abI,abI]at g v;obtain⟨c,W,rfl⟩:∃c,cs[i]?=some c/\V.str c.2=y:=by
   cases e:cs[i]? with
   |none=>rw[e]at g;cases g
   |some c=>rw[e]at g;show#[c,rfl,Option.some.inj g]
  let#[x,Y,hv]:=a.get W;rw[Y]at v;let B:z=.str (wordOf x):=(Option.some.inj v).symm;subst B;let hw:=hv.word (hk c (aaD W));let Z:ζ f (upd f t (.tup [.str c.2,.str (wordOf x)])):=ζ.upd s;show ao (ι.of ς) (Κ (ω J (by rfl) (.inl rfl) (.inr rfl) (Κ (ω J (by rfl) (.inl rfl) (.inr rfl) (ak ?_)))));generalize upd f t (.tup [.str c.2,.str (wordOf x)])=H7 at Z⊢;cbv;show#[c.2,wordOf x,rfl,(),λH8 K6=>?_];rw[hw.1];show#[#[_,_,rfl],#[x,Y,rfl],Z.trans K6]
 .let D:ys.length=xs.length:=by rw[ϻ,l,L];omega
  let ey:=fD (ys:=xs) (λx=>x) D n;rw[List.map_id']at ey;subst ey;show q j f U S e5
def ald{i:Nat}(h:(i:Int)<=m):ik (Ϫ (toString (i:Int))).cps.toList m=some (i:Int):=by
 let#[a,b]:=En i;unfold ik;rw[a,b,if_pos #[rfl,h]]
inductive Wu (vs:List V) (H:Hp) (Q:VK) (E:XK):Prop
 |mk (b:Bool):vs=[.str (gG b)]->(∀H',ζ H H'->Q (.str (bf b)) H')->Wu vs H Q E
def JL(T:Txt K mg):Def P w K mg base true 1 "read_make" ["letter"] Wu:=by
 show Δ (S:=Ze) T.JL (λ_ _ _ _ _ H vs Q E m h=>?_);intro X _;let#[b,rfl,q]:=h;let nd:=Ze.nd;let p:=T.Et;let s:=T.Pz;let hsz:=ϰ;w_up;show amG (by walk_at"po") (by rfl) (by intro _;rfl) ?_;lk;show#[Β,λt l=>?_];let#[st,j]:=Ξ l (.tup [.str ("living":Str),.str ("still":Str)]);show#[t,_,rfl,ι.of j,λi σ H'=>(∃o,σ=[some (.str (gG b)),o])/\H'=upd H t (.tup [.str ("living":Str),.str ("still":Str)])/\(1<=i->b=false)/\i<2,#[#[none,rfl],rfl,λh=>absurd h (),()],λi σ' H' hi c=>?_,λi x σ' H' e c=>?_,λσ' H' c=>?_]
 .let#[_,rfl,_]:=c;show ι.of j
 .let#[#[o,rfl],rfl,f,g]:=c;show ω nd (by rfl) (.inl rfl) (.inl rfl) ?_
  match i,g,e with
  |0,_,e=>
   let a:x=.str ("living":Str):=(Option.some.inj e).symm;subst a;f_len;show Μ ?_;lk;show jU (n:=108) (by rw[hsz];fin2) (by fin2) ?_;lk;cases b with
   |true=>
    show Ε (λ_=>?_) (λh=>absurd (by fin2) h);f_len;show ψ ?_;lk;show q _ st
   |false=>
    show bj ?_;show Γ #[#[_,rfl],rfl,λ_=>rfl,()]
  |1,_,e=>
   let a:x=.str ("still":Str):=(Option.some.inj e).symm;subst a;let f:=f ();subst f;f_len;show Μ ?_;lk;show jU (n:=115) (by rw[hsz];fin2) (by fin2) ?_;lk;show Ε (λ_=>?_) (λh=>absurd (by fin2) h);f_len;show ψ ?_;lk;show q _ st
 .let#[_,_,_,h]:=c;show absurd h (by show ¬2<2;omega)
inductive Oq (vs:List V) (H:Hp) (Q:VK) (E:XK):Prop
 |mk (i:Nat) (m:Int):vs=[.str (Ϫ (toString (i:Int))),.int m]->(m=5000\/m=1000000000)->(i:Int)<=m->(∀H',ζ H H'->Q (.int (i:Int)) H')->Oq vs H Q E
def Ab(T:Txt K mg):Def P w K mg base true 4 "read_whole" ["word","most"] Oq:=by
 show Δ (S:=Y6) T.Ab (λ_ _ A _ _ H vs Q E j h=>?_);intro X _;let#[i,m,rfl,c,e,q]:=h;let nd:=Y6.nd;let l:= @zT P w K mg base T;let n:(10:Nat)^60>1000000000:=by decide
 let hl:=zj (i:=(i:Int)) (k:=10) (by have:(10:Nat)^10>1000000000:=(by decide);omega);obtain⟨k,f,a,k1,k2⟩:∃k,(Ϫ (toString m)).length=k/\m<((10^k:Nat):Int)/\1<=k/\k<=600:=by
  obtain rfl|rfl:=c
  .show#[4,by fin2,by decide,(),()]
  .show#[10,by fin2,by decide,(),()]
 k_go;show#[_,m,k,rfl,(),(),(),f,a,k1,k2,λH1 g =>?_];rw[ald e];w_up;show Μ ?_;lk;show Γ ?_;f_len;show ψ ?_;lk;show q H1 g
inductive QM (vs:List V) (H:Hp) (Q:VK) (E:XK):Prop
 |mk (b:Bool):vs=[.str (aA b)]->Q (.str (bM b)) H->QM vs H Q E
def JB(T:Txt K mg):Def P w K mg base true 1 "read_side" ["sign"] QM:=by
 show Δ (N:=["sign"]) T.JB (λ_ _ _ _ _ H vs Q E a h=>?_);intro X _;let#[b,rfl,q]:=h;let c:=T.Wi;let e:=T.ZK;let f:=T.wu;let g:=T.Ga;w_up;show Μ ?_;lk;cases b with
 |true=>
  show bw ?_;f_len;show ψ ?_;lk;show q
 |false=>
  show bj ?_;show Γ ?_;w_up;show Μ ?_;lk;show bw ?_;f_len;show ψ ?_;lk;show q
def aj1(h:∃c∈cs,c.1=z):∃c,cs[ϋ cs z]?=some c/\c.2=jf cs z:=by
 let a:=rH h;show#[cs[ϋ cs z],aaj a,?_];unfold jf;rw[aaj a]
theorem bO.W0(h:bO cs M):∀o∈M.os,∃c∈cs,c.1=o.1:=λo a=>by
 let#[c,f,e]:=aa6.mp (h.names o a);show#[c,f,e]
def ak5(C:Cut):∃n,aA C.ahead=#[#v[n]]/\(cO C).cps.toList=n::(adT " " (bL C)).cps.toList:=by
 unfold cO;cases C.ahead
 .show#[62,by fin2,by rw[bA,show(aA false).cps.toList=[62]from by fin2];rfl]
 .show#[60,by fin2,by rw[bA,show(aA true).cps.toList=[60]from by fin2];rfl]
def abW(a:Χ cs=true)(h:bO cs M):Ϗ 32 (adT " " (bL M.cut))=bL M.cut:=by
 show xx (by simp[bL]) λp hp=>?_
 obtain rfl|hp:=ϳ.mp hp
 .intro c;have:=yO (M.cut.row:Int) 32 c;omega
 .let#[x,e,rfl]:=aa6.mp hp;show(h.IW a x e).2.2
def vq(cs:List θ)(os:List Ord):List θ:=os.map λo=>(o.1,jf cs o.1)
theorem Za:∀{os:List Ord}{xs:List V},ρ (λ(o:Ord) x=>ϕ (jf cs o.1) x) os xs->ρ (λ(c:θ) x=>ϕ c.2 x) (vq cs os) xs
 |_,_,.nil=>.nil
 |_,_,.cons r t=>.cons r (Za t)
inductive Wk (vs:List V) (H:Hp) (Q:VK) (E:XK):Prop
 |mk (a b:δ) (M:Mk) (cs:List θ):vs=[.ref a,.ref b,.str (cO M.cut)]->Τ H a cs->ϥ H b M.os->Χ cs=true->bO cs M->(∀p H',ζ H H'->H p=none->qm H' p M.cut->(∀k v,H' p=some (.tup [.str (bM M.cut.ahead),.ref k])->H' k=some (.tup [.ref v,.int M.cut.row])->H v=none)->Q (.ref p) H')->Wk vs H Q E
def Gu(T:Txt K mg):Def P w K mg base true 7 "read_cut" ["columns","order","text"] Wk:=by
 show Δ (S:=Yu) T.Gu (λ_ _ A _ s H vs Q E hr h=>?_);intro X _;let#[a,b,M,cs,rfl,hC,#[ws,hb,l],z,j,q]:=h;let nd:=Yu.nd;let g1:=T.Ye;let hsz:=ϰ;let wM:(["name","up","columns"]:List Str).Nodup:=by fin2
 let D1:= @JB P w K mg base T;let D2:= @Ab P w K mg base T;let D3:= @Jh P w K mg base T;let D4:= @pU P w K mg base T;let hlen:=KZ z j;let#[n,en,X8]:=ak5 M.cut;let eS:ϐ (cO M.cut) none (some 1)=aA M.cut.ahead:=by
  apply gb;rw[show ϐ (cO M.cut) none (some 1)=ϐ (cO M.cut) none (some ((1:Nat):Int))from rfl,Am,X8,en];rfl
 let eR:ϐ (cO M.cut) (some 1) none=adT " " (bL M.cut):=by
  apply gb;have:=yq (cO M.cut) 1;rw[show((1:Nat):Int)=1 from rfl]at this;rw[this,X8];rfl
 let L:=l.len;let apZ:=j.len;k_go;show iG () ?_;rw[eS];lk;show#[M.cut.ahead,rfl,?_];w_up;f_tup;show bU F.plainAttrs_str F.slot_str_split F.type_str_split (h:=?_);lk;show iG () ?_;rw[eR];lk;let#[O,kl2]:=Cd z j;let anr:=jO _ 21 O;let kj:=kJ (bL M.cut);show m_split (c:=32) λl1 h1=>?_
 rw[abW z j];let#[s1,e1]:=Ξ h1 (.lst ((bL M.cut).map V.str));generalize upd H l1 (.lst ((bL M.cut).map V.str))=H1 at s1 e1⊢;k_go;show ϊ (η.of e1) (show Θ ((bL M.cut).map V.str) ((0:Nat):Int)=some (V.str (Ϫ (toString (M.cut.row:Int))))from ϒ rfl) ?_;lk;show#[M.cut.row,1000000000,rfl,.inr rfl,by have:=j.row;omega,λH2 s2=>?_];let g:=s1.trans s2;w_up;show vV ["name","up","columns"] (σ':=[none,none,some (.ref a)]) (bN (χ Fz)) nd ?_;f_are;show#[b,ws,rfl,η.of (g _ _ hb),(),λτ=>∃o1 o2,τ=[o1,o2,some (.ref a)],λB i u H'=>∃o,M.os[i]?=some o/\u=.str (jf cs o.1),#[none,none,rfl],λB i u H2 H3 ys _ _ p=>p,λfp B C s3 H0 i τ x H4 H3 aY hi R m hys hG=>?_,λB H4 ys aY ϻ U e4 m =>?_]
 .let#[o1,o2,rfl]:=R;let#[aJ,rfl]:=hG;let#[o,D,t,rfl,ht]:=l.get aJ;show ao (ι.of (m _ _ (g _ _ ht))) (Κ (ω wM (by rfl) (.inl rfl) (.inr rfl) (Κ (ω wM (by rfl) (.inl rfl) (.inr rfl) (ak ?_)))));lk;let jQ:=(hC.same g).same m;show#[a,cs,o.1,rfl,jQ,λH5 cQ=>?_];let y:=j.W0 o (aaD D);rw[vf 0 y,akh];let#[c,hg,W]:=aj1 y;let#[vs,ea,Y]:=jQ.same cQ;let#[cv,gc,tc,rfl,Z]:=Y.get' hg;show ϊ (η.of ea) (ϒ gc) ?_;lk;show Α (ι.of Z) (show Θ [V.str c.1,V.str c.2] 1=some (V.str c.2)from rfl) ?_;show#[#[_,_,rfl],#[o,D,by rw[W]],cQ]
 .let ey:=fD (ys:=M.os) (λo=>V.str (jf cs o.1)) (by rw[ϻ,L]) U;let gD:ys=((vq cs M.os).map Prod.snd).map V.str:=by rw[ey];unfold vq;rw[aep,aep];rfl
  subst gD;let pG:=g.trans m;let ab:=m _ _ (s2 _ _ e1);f_len;show ψ ?_;lk;show qU (η.of ab) λl2 h2=>?_
  let ac:cN ((bL M.cut).map V.str) (some 1) none=(M.cut.xs.map wordOf).map V.str:=by
   rw[show(some (1:Int))=some ((1:Nat):Int)from rfl,ahq];rfl
  rw[ac];let#[G,e5]:=Ξ h2 (.lst ((M.cut.xs.map wordOf).map V.str));generalize upd H4 l2 (.lst ((M.cut.xs.map wordOf).map V.str))=H5 at G e5⊢;lk;show#[B,l2,vq cs M.os,M.cut.xs,rfl,G _ _ e4,e5,by unfold vq;rw[aaA];omega,λc ae=>?_,Za j.vals,λv H6 s6 hv ev=>?_]
  .let#[o,D,rfl]:=aa6.mp ae;show WQ z (j.names o D)
  lk;show#[Β,λk W=>?_];let#[I,e7]:=Ξ W (.tup [.ref v,.int M.cut.row]);generalize upd H6 k (.tup [.ref v,.int M.cut.row])=H7 at I e7⊢;lk;show#[Β,λp hp=>?_];let J:ζ H7 (upd H7 p (.tup [.str (bM M.cut.ahead),.ref k])):=ζ.upd hp;let jz:=pG.trans (G.trans s6);let af:H v=none:=(pG.trans G).free hv;show q p _ (jz.trans (I.trans J)) ((jz.trans I).free hp) #[k,v,ς,J _ _ e7,J _ _ (I _ _ ev)] λk' v' e f=>?_
  rw[ς]at e;injection e with e
  injection e with e
  injection e with _ e
  injection e with e _
  injection e with e
  subst e;rw[J _ _ e7]at f;injection f with f
  injection f with f
  injection f with f _
  injection f with f
  subst f;show af
inductive Ph (vs:List V) (H:Hp) (Q:VK) (E:XK):Prop
 |mk (a:δ) (M:Mk) (cs:List θ):vs=[.ref a,.str (Ϥ M)]->Τ H a cs->Χ cs=true->bO cs M->(∀p o c k v H',ζ H H'->H' p=some (.tup [.str (bf M.living),.int M.moment,.ref o,.str M.sieve,.ref c])->H o=none->ϥ H' o M.os->H' c=some (.tup [.str (bM M.cut.ahead),.ref k])->H' k=some (.tup [.ref v,.int M.cut.row])->H v=none->H' v=some (.lst M.cut.xs)->o≠v->Q (.ref p) H')->Ph vs H Q E
def Jd(T:Txt K mg):Def P w K mg base true 51 "read_body" ["columns","body"] Ph:=by
 show Δ (S:=Wd) T.Jd (λ_ _ A _ s H vs Q E hr h=>?_);intro X _;let#[a,M,cs,rfl,B,j,f,q]:=h;let nd:=Wd.nd;let g1:=T.Qn;let g2:=T.ala;let g3:=T.ad0;let n1:=T.bh;let hsz:=ϰ;let#[t,D,G]:=f.reads;let D1:= @JL P w K mg base T;let D2:= @Ab P w K mg base T;let D3:= @zH P w K mg base T;let D4:= @Oi P w K mg base T t;let D5:= @Gu P w K mg base T;let#[M2,kc,na]:=afI (P:=P) (w:=w) (base:=base) T t;let#[b1,b2]:=u6 j f;w_up;f_tup;show bU F.plainAttrs_str F.slot_str_split F.type_str_split (h:=?_);lk;show m_split (c:=47) λZ h1=>?_
 rw[abV j f];let#[g,e1]:=Ξ h1 (.lst ((b8 M).map V.str));generalize upd H Z (.lst ((b8 M).map V.str))=H1 at g e1⊢;let l:η K H1 Z ((b8 M).map V.str):=η.of e1;w_up;show Μ ?_;lk;show jl (λh=>absurd rfl h) (λ_=>?_);show Γ ?_;k_go;show ϊ l (i:=0) rfl ?_;lk;show#[M.living,rfl,λH2 s2=>?_];k_go;show ϊ (s2.seq l) (i:=1) rfl ?_;lk;show#[M.moment,5000,rfl,.inl rfl,by have:=f.moment;omega,λH3 s3=>?_];let u:=s2.trans s3;k_go;show ϊ (u.seq l) (i:=2) rfl ?_;lk;let gM:jb cs (bK M.os)=some M.os:=Rh f.len f.nodup f.W0 λo I hm=>by
  let J:=jM j (f.names o I);unfold isName eV at J;rw[aaO,ack]at J;show absurd (of_decide_eq_true (J.2 32 hm)) (by fin2)
 show#[a,cs,bK M.os,rfl,B.same (g.trans u),(by have:=Lp j f;omega),(λH' sm e=>by rw[gM]at e;cases e),λo os H4 s4 x I L=>?_];rw[gM]at x;cases x;let O:=u.trans s4;let Xf:H o=none:=(g.trans u).free I;k_go;show ϊ (O.seq l) (i:=3) rfl ?_;lk;show#[a,cs,M.sieve,rfl,B.same (g.trans O),(by have:=f.short;omega),(λy hy=>by have:=f.words y hy;omega),D,G,λsv H5 z m=>?_];let R:=O.trans z;let U:cV (Ϗ 32 M.sieve) 0 (Ϗ 32 M.sieve).length=M.sieve:=by
  unfold cV;rw[amf,aqF,ajR,amb]
 rw[U]at m;let#[dx,fs,es,et,W]:=m.txt;f_len;show ψ ?_;lk;show mX (pl:=_) hr Ϡ ?_;f_are;show#[sv,iI mg t,dx,_,true,1,_,Bp K,rfl,es,W,M2,by decide,id,sv,iI mg t,dx,fs,_,rfl,es,kc,na,et,?_];lk;show ϊ (R.seq l) (i:=4) rfl ?_;lk;show#[a,o,M,cs,rfl,B.same (g.trans R),L.same z,j,f,λc H6 s6 hc0 pN hv=>?_];lk;show#[Β,λp hp=>?_];let#[k,v,z1,z2,z3]:=pN;let n:ζ H6 (upd H6 p (.tup [.str (bf M.living),.int M.moment,.ref o,.str M.sieve,.ref c])):=ζ.upd hp;let bZ:=g.trans R;let Y:=hv k v z1 z2;let#[ws,x,_]:=L.same z;show q p o c k v _ (bZ.trans (s6.trans n)) ς Xf ((L.same z).same (s6.trans n)) (n _ _ z1) (n _ _ z2) (bZ.free Y) (n _ _ z3) λe=>?_
 rw[<-e,x]at Y;cases Y
inductive Rr (vs:List V) (H:Hp) (Q:VK) (E:XK):Prop
 |mk (a:δ) (M:Mk) (cs:List θ):vs=[.ref a,.str (dD M)]->Τ H a cs->Χ cs=true->bO cs M->(∀p o c k v H',ζ H H'->H' p=some (.tup [.str (bf M.living),.int M.moment,.ref o,.str M.sieve,.ref c])->H o=none->ϥ H' o M.os->H' c=some (.tup [.str (bM M.cut.ahead),.ref k])->H' k=some (.tup [.ref v,.int M.cut.row])->H v=none->H' v=some (.lst M.cut.xs)->o≠v->Q (.ref p) H')->Rr vs H Q E
def Fw(T:Txt K mg):Def P w K mg base true 52 "read_mark" ["columns","text"] Rr:=by
 show Δ (S:=QV) T.Fw (λ_ _ _ _ _ H vs Q E G h=>?_);intro X _;let#[a,M,cs,rfl,i,f,g,q]:=h;let nd:=QV.nd;let I:=T.Z5;let hsz:=ϰ;let J:= @Jd P w K mg base T;let L:= @Az P w K mg base T;let#[O,R]:=u6 f g;let U:=nU (Ϥ M).cps.toList;let W:=zg (aO (Ϥ M).cps.toList);let Y:(".":Str).length=1:=by fin2
 w_up;show d9 ?_;show bU PySem.F.plainAttrs_str PySem.F.slot_str_rpartition PySem.F.type_str_rpartition (h:=?_);lk;show af0 (c:=46) (by unfold dD;rw[len_app,len_app];omega) λt j=>?_
 let p1:(Txt.rpartition (dD M) #[#v[46]]).1=Ϥ M:=by rw[Fy]
 let p2:(Txt.rpartition (dD M) #[#v[46]]).2.1=#[#v[46]]:=by rw[Fy]
 let p3:(Txt.rpartition (dD M) #[#v[46]]).2.2=dm (aO (Ϥ M).cps.toList):=by rw[Fy]
 rw[p1,p2,p3];show ao (ι.of ς) (Κ (ω nd (by rfl) (.inl rfl) (.inl rfl) (Κ (ω nd (by rfl) (.inl rfl) (.inl rfl) (Κ (ω nd (by rfl) (.inl rfl) (.inl rfl) (ak ?_)))))));let e:ζ H (upd H t (.tup [.str (Ϥ M),.str #[#v[46]],.str (dm (aO (Ϥ M).cps.toList))])):=ζ.upd j;generalize upd H t (.tup [.str (Ϥ M),.str #[#v[46]],.str (dm (aO (Ϥ M).cps.toList))])=H1 at e⊢;w_up;show Μ ?_;lk;show bj ?_;lk;show#[Ϥ M,rfl,(),xq f g,?_];generalize dm (aO (Ϥ M).cps.toList)=Z;lk;show jl (λh=>absurd rfl h) (λ_=>?_);show Γ ?_;f_len;show Qx (λ_ _ _ _=>False) rfl rfl (λF pn xo po=>?_) (λσ c d H' l=>l.elim);f_len;show ψ ?_;lk;show#[a,M,cs,rfl,i.same e,f,g,λp o c k v H' m n s u x y z B D=>q p o c k v H' (e.trans m) n (e.free s) u x y (e.free z) B D]
abbrev lY:Str:=Ϫ "living"
def gY(B:Bk)(mo:Nat)(row:Int):Bool:=decide ((Υ B.touched row).getD 0<=(mo:Nat))
structure tu(mg:Str->Option ε)(H:Hp)(A:BA)(B:Bk)(mo:Nat):Prop where
 bk:Ω (cB mg) H A B
 le:(mo:Int)<=B.now
 wf:j7 B
 r64:B.rows.length<64
 nd:(B.rows.map Prod.fst).Nodup
 fit:∀r∈B.rows,ϙ B.heads r/\0<=r.1/\r.1<=1000000000
theorem tu.same(h:tu mg H A B mo)(s:ζ H H'):tu mg H' A B mo:=#[h.bk.same s,h.le,h.wf,h.r64,h.nd,h.fit]
inductive Rc (K:Ϩ) (mg:Str->Option ε) (t:Tr) (vs:List V) (H:Hp) (Q:VK) (E:XK):Prop
 |mk (A:BA) (B:Bk) (mo:Nat) (a:δ) (z:Str):vs=[.ref A.b,.str lY,.int (mo:Nat),.ref a]->tu mg H A B mo->eO mg H t a z->gq B.heads t->(∀q ws rs H',ζ H H'->H q=none->H' q=some (.lst ws)->ρ (aQ H') ws rs->rs.Perm (B.rows.filter λr=>bu r.2 t)->Q (.ref q) H')->Rc K mg t vs H Q E
def Jl(T:Txt K mg)(t:Tr):Def P w K mg base true (5+t.dep) "rows_of_list" ["book","make","begin","sieve"] (Rc K mg t):=by
 rw[show 5+t.dep=(4+t.dep)+1 by omega];show Δ (S:=RW) T.Jl (λf U W outer s H vs Q E j h=>?_);intro X _;let#[A,B,mo,a,z,rfl,g,G,m,q]:=h;let nd:=RW.nd;let Y:=T.Et;let M2:aH P w K mg base true 2 (cB mg) "now_rows" ["self"] (Bv mg):=(agb T).meth T.aG T.akq;let Z:= @Fv P w K mg base T t;k_go;show bw ?_;show mX (pl:=_) j Ϡ ?_;f_are;show#[A.b,cB mg,A.dx,_,true,2,_,Bv mg,rfl,g.bk.ins,by rfl,M2,(),id,A,B,rfl,g.bk,g.r64,λp1 ys ks H1 n I p J v x=>?_];let c:=aev (rows:=B.rows) g.nd p;let D:fB H1 p1 (gZ B.rows ks):=#[ys,v,x.imp λu r z=>by
  let#[t,l,e,h1,h2,_]:=z;show#[t,l,e,h1,h2]]
 generalize gZ B.rows ks=rs at c D;let L:=c.length_eq;let M:=g.r64;f_len;show ψ ?_;lk;show#[a,p1,z,rs,rfl,G.same n,D,(),λr j=>Rf (g.fit r (c.mem_iff.mp j)).1 m,λp2 O H2 F y i R=>?_];show q p2 O _ H2 (n.trans F) (n.free y) i (R.imp λu r z=>z.row F) (c.filter _)
inductive Ue (mg:Str->Option ε) (vs:List V) (H:Hp) (Q:VK) (E:XK):Prop
 |mk (A:BA) (B:Bk) (mo:Nat) (r:Row):vs=[.ref A.b,.str lY,.int (mo:Nat),.int r.1]->tu mg H A B mo->r∈B.rows->Q (.bl (gY B mo r.1)) H->Ue mg vs H Q E
def CJ(T:Txt K mg):Def P w K mg base true 5 "is_untouched" ["book","make","begin","row"] (Ue mg):=by
 show Δ (N:=["book","make","begin","row"]) T.CJ (λf l m outer s H vs Q E g h=>?_);intro X _;let#[A,B,mo,r,rfl,a,c,q]:=h;let n:=T.Pz;let M1:aH P w K mg base true 4 (cB mg) "since" ["self","row"] (za mg):=(ace T).meth T.aG T.ail;f_len;show ψ ?_;lk;show Ε (λh=>absurd (V.str.inj h) (by fin2)) (λ_=>?_);lk;show dR (pl:=_) g Ϡ (h:=?_);f_are;show#[A.b,cB mg,A.dx,_,true,4,_,za mg,rfl,a.bk.ins,by rfl,M1,by decide,id,?_];lk;let#[_,j,n1]:=a.fit r c;show#[A,B,r.1,rfl,a.bk,j,n1,a.wf,λz=>absurd (aov (f:=Prod.fst) c) (Ck.mp z),λi hi=>?_];lk;let e:gY B mo r.1=decide (i<=(mo:Nat)):=by
  unfold gY;rw[hi];rfl
 rw[<-e];show q
def fJ(B:Bk)(mo:Nat)(os:List Ord)(z:Str)(many:Nat)(L:Lf):cD:=#[L.rows.map λr=>(r.1,r.2,gY B mo r.1),az true mo os z L.back,az true mo os z L.ϟ,many,L.start,B.now]
structure jZ(K:Ϩ)(mg:Str->Option ε)(H:Hp)(A:BA)(B:Bk)(os:List Ord)(t:Tr)(mo n:Nat):Prop where
 bk:tu mg H A B mo
 li:iC B.heads os t mo
 n1:1<=n
 n2:n<=100
 tb:H (dN K "sorted_by")=some (.tbl mD)
theorem jZ.same{A:BA}{B:Bk}{os:List Ord}{t:Tr}{mo n:Nat}(h:jZ K mg H A B os t mo n)(s:ζ H H'):jZ K mg H' A B os t mo n:=#[h.bk.same s,h.li,h.n1,h.n2,s _ _ h.tb]
def sG(B:Bk)(os:List Ord)(t:Tr)(mo n:Nat)(a:Bool)(c:Ct)(H:Hp)(Q:VK):=∀p ls H',ζ H H'->Line B.heads os ls->ls.Perm (B.rows.filter λr=>bu r.2 t)->mQ H H' p (fJ B mo os (sT B.heads t) ls.length (bB a B.heads os ls c n))->Q (.ref p) H'
theorem sG.same{os:List Ord}{t:Tr}{mo n:Nat}{a:Bool}{c:Ct}{H H':Hp}{Q:VK}(h:sG B os t mo n a c H Q)(s:ζ H H'):sG B os t mo n a c H' Q:=λp ls H2 e h1 h2 f=>h p ls H2 (s.trans e) h1 h2 (f.old s)
inductive sH (K:Ϩ) (mg:Str->Option ε) (t:Tr) (on:Bool) (vs:List V) (H:Hp) (Q:VK) (E:XK):Prop
 |mk (A:BA) (B:Bk) (mk:δ) (os:List Ord) (mo n:Nat) (c:Ct):vs=[.ref A.b,.ref mk,.int (n:Nat),.bl on]->jZ K mg H A B os t mo n->iV H mk true mo os (sT B.heads t) c->nQ B.heads os on c->sG B os t mo n on c H Q->sH K mg t on vs H Q E
def tQ(T:Txt K mg)(hN:fj K mg base "sorted_by")(t:Tr)(D:Bool):Def P w K mg base true (10+2*t.dep) "leaf_from" ["book","mark","size","onward"] (sH K mg t D):=by
 rw[show 10+2*t.dep=(9+2*t.dep)+1 by omega];show Δ (S:=aaI) T.tQ (λf Ϻ A' outer s H vs Q E g h=>?_);intro X _;let#[A,B,mk,os,mo,n,ct,rfl,a,#[o,v,ab,hO,R],uD,q]:=h;let nd:=aaI.nd;let n1:=T.bh;let g1:=T.Et;let hsz:=ϰ;let U:=a.li.gt;let hok:=a.li.ok;let ac:=a.li.inc;let wN:=a.li.o4;let#[c1,c6]:=pq hok;let V7:(["row","values","book","make","begin"]:List Str).Nodup:=by fin2
 let D1:= @Oi P w K mg base T t;let D2:= @Jl P w K mg base T t;let D3:Def P w K mg base true 8 "line_of" ["columns","order","rows"] (Ig K):=Kv T hN;let D4:= @Ho P w K mg base T;let D5:= @Dj P w K mg base T;let D6:= @CJ P w K mg base T;let D7:= @Kc P w K mg base T;let M2:aH P w K mg base true 1 (cB mg) "moment" ["self"] (lD mg Bk.now):=(Kr T).meth T.aG T.K7;let M3:aH P w K mg base true 1 (cB mg) "columns" ["self"] (mL mg):=(J4 T).meth T.aG T.CT;let hw:=wg hok U;let pN:Ϗ 32 (sT B.heads t)=wT (Φ B.heads) t:=xx (JQ (Φ B.heads) t) λz hz=>(hw z hz).2.1
 let aqq:=a.li.yP;let pL:(sT B.heads t).length<=3000:=by
  let h1:=jO (wT (Φ B.heads) t) 21 λp hp=>(hw p hp).1
  let h2:=kJ (wT (Φ B.heads) t);show(adT " " (wT (Φ B.heads) t)).length<=3000;omega
 let aj:Reads B.heads (wT (Φ B.heads) t) t 0 (wT (Φ B.heads) t).length:=by
  have:=GQ hok (ws:=wT (Φ B.heads) t) (t:=t) (s:=0) #[[],by simp] () U;rw[akh]at this;show this
 let al:=a.bk.r64;let Hz:=a.bk.fit;w_up;show d9 ?_;lk;show ao (ι.of ab) (Κ (ω nd (by rfl) (by first|show Or.inl rfl|show Or.inr rfl) (by first|show Or.inl rfl|show Or.inr rfl) (Κ (ω nd (by rfl) (by first|show Or.inl rfl|show Or.inr rfl) (by first|show Or.inl rfl|show Or.inr rfl) (Κ (ω nd (by rfl) (.inl rfl) (.inl rfl) (Κ (ω nd (by rfl) (.inl rfl) (.inl rfl) (Κ (ω nd (by rfl) (.inl rfl) (.inl rfl) (ak ?_)))))))))));w_up;f_tup;show mX (pl:=_) g Ϡ ?_;f_are;show⟨A.b,cB mg,A.dx,_,true,1,_,mL mg,rfl,a.bk.bk.ins,by rfl,M3,(),id,A,B,rfl,a.bk.bk,λc H1 s1 hc0 hC=>?_⟩;k_go;show#[c,B.heads,_,rfl,hC,pL,by rw[pN];show λy M=>by have:=(hw y M).1;omega,a.li.dp,by rw[pN];show aj,λsv H2 s2 hv=>?_];generalize cV (Ϗ 32 (sT B.heads t)) 0 (Ϗ 32 (sT B.heads t)).length=zz at hv;let dJ:=s1.trans s2;lk;show#[A,B,mo,sv,zz,rfl,a.bk.same dJ,hv,U,λp2 Ea rs H3 s3 hp2 ae CQ I=>?_];let aD:=dJ.trans s3;let am:(B.rows.filter λr=>bu r.2 t).length<=B.rows.length:=aiu ..;let ap:rs.length<64:=ad1 (ad8 (am2 I.length_eq) am) al;let O:∀r∈rs,r∈B.rows:=λr g=>(ai5.mp (I.mem_iff.mp g)).1
 let ar:(rs.map Prod.fst).Nodup:=(I.map Prod.fst).nodup_iff.mpr (a.bk.nd.sublist (List.Sublist.map _ arl));lk;show#[c,o,p2,B.heads,os,rs,rfl,hC.same (s2.trans s3),hO.same aD,#[Ea,ae,CQ],c6,(),ac,ap,λr g=>(Hz r (O r g)).1,ar,aD _ _ a.tb,λln lw ls H4 s4 d8 T6 W4 hL Ϟ=>?_];let Z:=aD.trans s4;let qC:=W4.len;let av:=Ϟ.trans I;let hll:ls.length=rs.length:=Ϟ.length_eq;let m:∀r∈ls,r∈B.rows:=λr g=>O r (Ϟ.mem_iff.mp g)
 let Io:mU B.heads os ls:=#[#[c1,c6],wN,ac,λr g=>(Hz r (m r g)).1,hL,()];let af:∀r∈ls,0<=r.1/\r.1<=1000000000:=λr g=>(Hz r (m r g)).2
 let Z2:fB H4 ln ls:=#[lw,T6,W4.imp λu r z=>by
  let#[t,l,e,_,_,_,h1,h2]:=z;show#[t,l,e,h1,h2]]
 let Ku:=Ro Io af a.n1 uD
 let rest:∀(G:δ)(us:List V)(x y:V)(H5:Hp),ζ H4 H5->H4 G=none->H5 G=some (.lst us)->ρ (jt G H4 H5) us (bB D B.heads os ls ct n).rows->dX H5 x (bB D B.heads os ls ct n).back->dX H5 y (bB D B.heads os ls ct n).ϟ->
   Ι X ((ϖ Ca).drop 4) {nx:=λ_ H'=>Q .non H',rt:=Q} [some (.ref A.b),some (.ref mk),some (.int (n:Nat)),some (.bl D),some (.str lY),some (.int (mo:Nat)),some (.ref o),some (.str (sT B.heads t)),some v,some (.ref c),some (.ref ln),some (.ref G),some x,some y,some (.int ((bB D B.heads os ls ct n).start:Nat)),none,none] H5:=by
  intro G us x y H5 s5 J hq i hx M;let Oo:∀r∈(bB D B.heads os ls ct n).rows,r∈ls:=λr g=>by
   cases D<;>show adG (adM g)
  generalize ag:bB D B.heads os ls ct n=L at i hx M Ku Oo⊢;let jG:=i.len;let bZ:=Z.trans s5;let Wv:L.rows.length<=1000:=by
   have:=i.len;rw[<-ag];cases D
   .show(Ψ ls _ _).length<=1000;unfold Ψ;rw[adg,adh];omega
   .show(Ψ ls _ _).length<=1000;unfold Ψ;rw[adg,adh];omega
  w_up;show vV ["row","values","book","make","begin"] (σ':=[none,none,some (.ref A.b),some (.str lY),some (.int (mo:Nat))]) (bN (χ Ca)) nd ?_;lk;show#[G,us,rfl,η.of hq,(),λτ=>∃o1 o2,τ=[o1,o2,some (.ref A.b),some (.str lY),some (.int (mo:Nat))],λE2 j u H'=>u≠.ref E2/\∃r t l,L.rows[j]?=some r/\u=.ref t/\H' t=some (.tup [.int r.1,.ref l,.bl (gY B mo r.1)])/\H4 l=none/\H5 l=some (.lst r.2),#[none,none,rfl],λE2 j u H8 H9 ys hE hk p=>?_,λfp E2 C s9 H8 j τ x H6 H7 aY hi aw zP W hG=>?_,λq1 H6 VD ax hl6 ay e6 s6=>?_]
  .let#[h0,r,t,l,g,e,h1,h2,h3]:=p;show#[h0,r,t,l,g,e,hk _ _ (λz=>h0 (by rw[e,z])) h1,h2,h3]
  .let#[o1,o2,rfl]:=aw;let#[aJ,rfl]:=hG;let#[r,F,tr,lr,rfl,anN,aC,_,aE,aI]:=i.get aJ;let#[ys,W]:=W;show ao (ι.of (zP _ _ aE)) (Κ (ω V7 (by rfl) (.inl rfl) (.inr rfl) (Κ (ω V7 (by rfl) (.inl rfl) (.inr rfl) (ak ?_)))));lk;show#[A,B,mo,r,rfl,a.bk.same (bZ.trans zP),m r (Oo r (aaD F)),?_];lk;show#[Β,λt2 bY=>?_];show#[#[_,_,rfl],#[λz=>?_,r,t2,lr,F,rfl,ς,aC,aI],ζ.upd bY];injection z with z
   rw[z,W]at bY;cases bY
  let jz:=bZ.trans s6;let ah:iV H6 mk true mo os (sT B.heads t) ct:=iV.same #[o,v,ab,hO,R] jz;let aL:η K H6 ln lw:=(s5.trans s6).seq (η.of T6);k_go;show bw ?_;show mX (pl:=_) g Ϡ ?_;f_are;show#[A.b,cB mg,A.dx,_,true,1,_,lD mg Bk.now,rfl,(a.bk.bk.same jz).ins,by rfl,M2,(),id,A,B,rfl,a.bk.bk.same jz,?_];f_len;show ψ ?_;lk;show#[mk,x,true,B.heads,os,t,mo,ct,L.back,rfl,ah,a.li,hx.same s6,λd e=>Ku d (.inl e),λH7 Y=>?_];lk;show#[mk,y,true,B.heads,os,t,mo,ct,L.ϟ,rfl,ah.same Y,a.li,M.same (s6.trans Y),λd e=>Ku d (.inr e),λH8 s8=>?_];let sq8:η K H8 ln lw:=(Y.trans s8).seq aL;lk;show#[Β,λp9 aP=>?_];let s9:=ζ.upd (o:=.tup [.ref q1,az true mo os (sT B.heads t) L.back,az true mo os (sT B.heads t) L.ϟ,.int (lw.length:Nat),.int (L.start:Nat),.int B.now]) aP;show q p9 ls _ (((jz.trans Y).trans s8).trans s9) hL av ?_;rw[ag];show#[q1,VD,by rw[ς,qC];rfl,bZ.free ax,((Y.trans s8).trans s9) _ _ e6,nJ (by show(L.rows.map _).length=_;rw[aaA];omega) λj r' aS=>?_];let ai:(L.rows.map λr=>(r.1,r.2,gY B mo r.1))[j]?=some r':=aS;rw[abI]at ai;let#[r,g,rfl]:=amj.mp ai;let hj:j<VD.length:=by have:=(aat.mp g).1;omega
  let#[_,r2,t2,l2,F,e,h1,h2,h3]:=ay j _ (aaj hj);rw[g]at F;cases F;show#[_,aaj hj,t2,l2,e,((Y.trans s8).trans s9) _ _ h1,Z.free h2,((s6.trans Y).trans (s8.trans s9)) _ _ h3]
 w_up;show Μ ?_;lk;cases D with
 |true=>
  lk;f_len;show d9 ?_;lk;show#[c,o,ln,v,B.heads,os,ls,ct,n,rfl,hC.same ((s2.trans s3).trans s4),hO.same Z,Z2,R.same Z,Io,uD.ok,a.n1,a.n2,λt4 G us x y H5 s5 J Es hq i hx M=>?_];show ao (ι.of Es) (Κ (ω nd (by rfl) (.inl rfl) (.inl rfl) (Κ (ω nd (by rfl) (.inl rfl) (.inl rfl) (Κ (ω nd (by rfl) (.inl rfl) (.inl rfl) (Κ (ω nd (by rfl) (.inl rfl) (.inl rfl) (ak ?_)))))))));show rest G us x y H5 s5 J hq i hx M
 |false=>
  lk;f_len;show d9 ?_;lk;show#[c,o,ln,v,B.heads,os,ls,ct,n,rfl,hC.same ((s2.trans s3).trans s4),hO.same Z,Z2,R.same Z,Io,uD.ok,a.n1,a.n2,λt4 G us x y H5 s5 J Es hq i hx M=>?_];show ao (ι.of Es) (Κ (ω nd (by rfl) (.inl rfl) (.inl rfl) (Κ (ω nd (by rfl) (.inl rfl) (.inl rfl) (Κ (ω nd (by rfl) (.inl rfl) (.inl rfl) (Κ (ω nd (by rfl) (.inl rfl) (.inl rfl) (ak ?_)))))))));show rest G us x y H5 s5 J hq i hx M
inductive aaq (mg:Str->Option ε) (vs:List V) (H:Hp) (Q:VK) (E:XK):Prop
 |mk (A:BA) (B:Bk) (zo z:Str) (v:V) (os:List Ord) (c:Ct) (mo:Nat):vs=[.ref A.b,.str lY,.str zo,.str z,v]->Ω (cB mg) H A B->B.now=(mo:Nat)->zo.length<=4000->jb B.heads zo=some os->eN H v c->(∀p H',ζ H H'->iV H' p true mo os z c->Q (.ref p) H')->aaq mg vs H Q E
def zO(T:Txt K mg):Def P w K mg base true 4 "begin_of" ["book","make","order","sieve","cut"] (aaq mg):=by
 show Δ (N:=["book","make","order","sieve","cut"]) T.zO (λf O R outer s H vs Q E l h=>?_);intro X _;let#[A,B,x,z,v,os,ct,mo,rfl,a,g,y,m,i,q]:=h;let hsz:=ϰ;let S:= @zH P w K mg base T;let M2:aH P w K mg base true 1 (cB mg) "moment" ["self"] (lD mg Bk.now):=(Kr T).meth T.aG T.K7;let D:aH P w K mg base true 1 (cB mg) "columns" ["self"] (mL mg):=(J4 T).meth T.aG T.CT;f_len;show ψ ?_;lk;show mX (pl:=_) l Ϡ ?_;f_are;show#[A.b,cB mg,A.dx,_,true,1,_,lD mg Bk.now,rfl,a.ins,by rfl,M2,by decide,id,A,B,rfl,a,?_];lk;show mX (pl:=_) l Ϡ ?_;f_are;show#[A.b,cB mg,A.dx,_,true,1,_,mL mg,rfl,a.ins,by rfl,D,by decide,id,A,B,rfl,a,λc H1 n F G=>?_];lk;show#[c,B.heads,x,rfl,G,y,(λH' _ e=>by rw[m]at e;cases e),λb I H2 u e J L=>?_];rw[m]at e;cases e;lk;show#[Β,λp M=>?_];let j:=ζ.upd (o:=.tup [.str lY,.int B.now,.ref b,.str z,v]) M;show q p _ ((n.trans u).trans j) #[b,v,by rw[ς,g];rfl,L.same j,i.same ((n.trans u).trans j)]
def kZ(a:Bool):Ct:=if a=true then .start else .fin
inductive t8 (K:Ϩ) (mg:Str->Option ε) (t:Tr) (on:Bool) (vs:List V) (H:Hp) (Q:VK) (E:XK):Prop
 |mk (A:BA) (B:Bk) (os:List Ord) (zo:Str) (mo n:Nat):vs=[.ref A.b,.str lY,.str zo,.str (sT B.heads t),.int (n:Nat)]->jZ K mg H A B os t mo n->B.now=(mo:Nat)->zo.length<=4000->jb B.heads zo=some os->sG B os t mo n on (kZ on) H Q->t8 K mg t on vs H Q E
def Eb(T:Txt K mg)(i:fj K mg base "sorted_by")(t:Tr):Def P w K mg base true (11+2*t.dep) "first_leaf" ["book","make","order","sieve","size"] (t8 K mg t true):=by
 rw[show 11+2*t.dep=(10+2*t.dep)+1 by omega];show Δ (N:=["book","make","order","sieve","size"]) T.Eb (λf x y outer s H vs Q E z h=>?_);intro X _;let#[A,B,os,j,mo,n,rfl,e,c,l,m,q]:=h;let hsz:=ϰ;let D:=T.Ma;let F:= @zO P w K mg base T;let G:Def P w K mg base true (10+2*t.dep) "leaf_from" ["book","mark","size","onward"] (sH K mg t true):=tQ T i t true;f_len;show ψ ?_;lk;show#[Β,λp u=>?_];let#[a,e1]:=Ξ u (.tup [.str ("start":Str)]);change EA _ _ _ (upd H p (.tup [.str ("start":Str)])) _;generalize upd H p (.tup [.str ("start":Str)])=H1 at a e1⊢;lk;show#[A,B,j,_,_,os,.start,mo,rfl,(e.same a).bk.bk,c,l,m,#[p,rfl,e1],λmk H2 g v=>?_];lk;show#[A,B,mk,os,mo,n,.start,rfl,e.same (a.trans g),v,.inl #[rfl,rfl],q.same (a.trans g)]
def Ez(T:Txt K mg)(i:fj K mg base "sorted_by")(t:Tr):Def P w K mg base true (11+2*t.dep) "last_leaf" ["book","make","order","sieve","size"] (t8 K mg t false):=by
 rw[show 11+2*t.dep=(10+2*t.dep)+1 by omega];show Δ (N:=["book","make","order","sieve","size"]) T.Ez (λf x y outer s H vs Q E z h=>?_);intro X _;let#[A,B,os,j,mo,n,rfl,e,c,l,m,q]:=h;let hsz:=ϰ;let D:=T.ZP;let F:= @zO P w K mg base T;let G:Def P w K mg base true (10+2*t.dep) "leaf_from" ["book","mark","size","onward"] (sH K mg t false):=tQ T i t false;f_len;show ψ ?_;lk;show#[Β,λp u=>?_];let#[a,e1]:=Ξ u (.tup [.str ("end":Str)]);change EA _ _ _ (upd H p (.tup [.str ("end":Str)])) _;generalize upd H p (.tup [.str ("end":Str)])=H1 at a e1⊢;lk;show#[A,B,j,_,_,os,.fin,mo,rfl,(e.same a).bk.bk,c,l,m,#[p,rfl,e1],λmk H2 g v=>?_];lk;show#[A,B,mk,os,mo,n,.fin,rfl,e.same (a.trans g),v,.inr (.inl #[rfl,rfl]),q.same (a.trans g)]
inductive Zn (mg:Str->Option ε) (vs:List V) (H:Hp) (Q:VK) (E:XK):Prop
 |mk (A:BA) (B:Bk) (M:Mk):vs=[.ref A.b,.str (dD M)]->Ω (cB mg) H A B->Χ B.heads=true->bO B.heads M->(M.moment:Int)<=B.now->(∀p H',ζ H H'->iV H' p M.living M.moment M.os M.sieve (.at_ M.cut.ahead M.cut.xs M.cut.row)->Q (.ref p) H')->Zn mg vs H Q E
def zG(T:Txt K mg):Def P w K mg base true 53 "read_good_mark" ["book","text"] (Zn mg):=by
 show Δ (S:=Tc) T.zG (λf U W outer s H vs Q E j h=>?_);intro X _;let#[A,B,M,rfl,a,hok,n,u,q]:=h;let nd:=Tc.nd;let Y:= @Fw P w K mg base T;let M2:aH P w K mg base true 1 (cB mg) "moment" ["self"] (lD mg Bk.now):=(Kr T).meth T.aG T.K7;let x:aH P w K mg base true 1 (cB mg) "columns" ["self"] (mL mg):=(J4 T).meth T.aG T.CT;w_up;generalize y:dD M=z;f_tup;lk;show mX (pl:=_) j Ϡ ?_;f_are;show#[A.b,cB mg,A.dx,_,true,1,_,mL mg,rfl,a.ins,by rfl,x,by decide,id,A,B,rfl,a,λc H1 D F G=>?_];lk;show#[c,M,B.heads,by rw[y],G,hok,n,λp o l k v H2 I m Z J e L O R _=>?_];let g:=D.trans I;w_up;show Μ ?_;lk;show Α (ι.of m) (i:=1) rfl ?_;lk;show mX (pl:=_) j Ϡ ?_;f_are;show#[A.b,cB mg,A.dx,_,true,1,_,lD mg Bk.now,rfl,(a.same g).ins,by rfl,M2,by decide,id,A,B,rfl,a.same g,?_];lk;show Ε (λh=>?_) (λ_=>?_)
 .show absurd h ()
 show Γ ?_;f_len;show ψ ?_;lk;show q p H2 g #[o,.ref l,m,J,l,k,rfl,e,v,L,R]
inductive uo (K:Ϩ) (mg:Str->Option ε) (t:Tr) (on:Bool) (vs:List V) (H:Hp) (Q:VK) (E:XK):Prop
 |mk (A:BA) (B:Bk) (os:List Ord) (mo n:Nat) (sd:Bool) (xs:List V) (k:Int):vs=[.ref A.b,az true mo os (sT B.heads t) (some (.at_ sd xs k)),.int (n:Nat)]->jZ K mg H A B os t mo n->cj B.heads os xs->0<=k->k<=1000000000->sG B os t mo n on (.at_ sd xs k) H Q->uo K mg t on vs H Q E
def Iw(T:Txt K mg)(i:fj K mg base "sorted_by")(t:Tr)(j:t.dep<=20):Def P w K mg base true 54 "turn_forth" ["book","mark","size"] (uo K mg t true):=by
 show Δ (N:=["book","mark","size"]) T.Iw (λf v x outer s H vs Q E y h=>?_);intro X _;let#[A,B,os,mo,n,sd,xs,k,rfl,a,e,k0,k1,q]:=h;let D:= @zG P w K mg base T;let F:Def P w K mg base true (10+2*t.dep) "leaf_from" ["book","mark","size","onward"] (sH K mg t true):=tQ T i t true;let l:(((k.toNat:Nat):Int))=k:=aow k0;let m:=a.li.good (lv:=true) (sd:=sd) e k1;f_len;show ψ ?_;generalize p:az true mo os (sT B.heads t) (some (.at_ sd xs k))=z;lk;show#[A,B,#[true,mo,os,sT B.heads t,#[sd,k.toNat,xs]],by first|rfl|(rw[<-p];rfl),a.bk.bk,a.li.ok,m,a.bk.le,λmk H1 g u=>?_];lk;show#[A,B,mk,os,mo,n,.at_ sd xs k,rfl,a.same g,?_,.inr (.inr #[sd,xs,k,rfl,e,k0,k1]),q.same g];let c:iV H1 mk true mo os (sT B.heads t) (.at_ sd xs ((k.toNat:Nat):Int)):=u;rw[l]at c;show c
def JW(T:Txt K mg)(i:fj K mg base "sorted_by")(t:Tr)(j:t.dep<=20):Def P w K mg base true 54 "turn_back" ["book","mark","size"] (uo K mg t false):=by
 show Δ (N:=["book","mark","size"]) T.JW (λf v x outer s H vs Q E y h=>?_);intro X _;let#[A,B,os,mo,n,sd,xs,k,rfl,a,e,k0,k1,q]:=h;let D:= @zG P w K mg base T;let F:Def P w K mg base true (10+2*t.dep) "leaf_from" ["book","mark","size","onward"] (sH K mg t false):=tQ T i t false;let l:(((k.toNat:Nat):Int))=k:=aow k0;let m:=a.li.good (lv:=true) (sd:=sd) e k1;f_len;show ψ ?_;generalize p:az true mo os (sT B.heads t) (some (.at_ sd xs k))=z;lk;show#[A,B,#[true,mo,os,sT B.heads t,#[sd,k.toNat,xs]],by first|rfl|(rw[<-p];rfl),a.bk.bk,a.li.ok,m,a.bk.le,λmk H1 g u=>?_];lk;show#[A,B,mk,os,mo,n,.at_ sd xs k,rfl,a.same g,?_,.inr (.inr #[sd,xs,k,rfl,e,k0,k1]),q.same g];let c:iV H1 mk true mo os (sT B.heads t) (.at_ sd xs ((k.toNat:Nat):Int)):=u;rw[l]at c;show c
def adU{n:Nat}(h:n<9973):ϐ (Ϫ "000"++Ϫ (toString (n:Int))) (some (-4)) none=dm n:=by
 apply gb;let hd:=oO (m:=n) (k:=4) (by decide) ();rw[Wc (),Ai];let a:("000":Str).length=3:=by fin2
 let c:("000":Str).cps.toList=[48,48,48]:=by fin2
 let f:1<=(Ϫ (toString (n:Int))).length:=by
  rw[_L.len_list,mJ];show aqB.mpr (by simp[aqz])
 generalize Ϫ (toString (n:Int))=x at hd f⊢;let g:=_L.len_list x;rw[bA,c,len_app,a];let es:_H.Ζ (3+x.length) 0 (some (-4))=x.length-1:=by
  have:=vJ (3+x.length) 0 (-4);rw[if_pos (by decide)]at this;omega
 rw[es,_H.qF,ae2 (by rw[adh,abo];show 3+_-_<=_;omega)];rcases(show x.length=1\/x.length=2\/x.length=3\/x.length=4 by omega)with e|e|e|e<;>rw[e]
 .rfl
 .rfl
 .rfl
 .rfl
inductive Oe (vs:List V) (H:Hp) (Q:VK) (E:XK):Prop
 |mk (c b:δ) (lv sd:Bool) (mo:Nat) (v u:V) (cs:List θ) (os:List Ord) (t:Tr) (r:Row):vs=[.ref c,.str (bf lv),.int (mo:Nat),.ref b,v,.str (aA sd),u]->Τ H c cs->ϥ H b os->iC cs os t mo->aX H v t->iU t->aQ H u r->ϙ cs r->0<=r.1->r.1<=1000000000->(∀H',ζ H H'->Q (az lv mo os (sT cs t) (some (.at_ sd (Ν cs os r.2) r.1))) H')->Oe vs H Q E
def Ba(T:Txt K mg):Def P w K mg base true 4 "_law_mark" ["_law_columns_here","_law_make","_law_begin_here","_law_order_here","_law_sieve_here","_law_sign","_law_one"] Oe:=by
 show Δ (S:=Xq) T.Ba (λ_ _ A _ _ H vs Q E hr h=>?_);intro X _;let#[c,b,lv,sd,mo,v,u,cs,os,t,r,rfl,hC,hO,f,hv,J,hu,B,r0,r1,q]:=h;let nd:=Xq.nd;let n1:=T.mW;let n2:=T.MJ;let hsz:=ϰ;let ls:("/":Str).length=1:=by fin2
 let lb:(" ":Str).length=1:=by fin2
 let lp:(".":Str).length=1:=by fin2
 let l3:("000":Str).length=3:=by fin2
 let ph:(["_law_value_here"]:List Str).Nodup:=by fin2
 let D1:= @uE P w K mg base T;let D2:= @zV P w K mg base T;let D3:= @ym P w K mg base T;let D4:= @wI P w K mg base T;let#[c1,c6]:=pq f.ok;let wN:=f.o4;let g:=cY B f.inc;let s:=f.good (lv:=lv) (sd:=sd) g r1;let hks:=g.len;let er:((r.1.toNat:Nat):Int)=r.1:=aow r0;let#[b1,b2]:=u6 f.ok s;let bc:=xq f.ok s;let kl:=Cd f.ok s;obtain⟨k1,k2⟩:(∀p∈bL (#[sd,r.1.toNat,Ν cs os r.2]:Cut),p.length<=21)/\(bL (#[sd,r.1.toNat,Ν cs os r.2]:Cut)).length<=5:=kl;let k3:=jO _ 21 k1;let k4:=kJ (bL (#[sd,r.1.toNat,Ν cs os r.2]:Cut));let M:=KZ f.ok s;let hcl:(cO (#[sd,r.1.toNat,Ν cs os r.2]:Cut)).length<=200:=M;k_go;show#[c,b,u,cs,os,r,rfl,hC,hO,hu,(ρ.len B).symm,(),(),f.inc,λp k H1 s1 _ _ hp hk=>?_];k_go;show Α (ι.of hp) (i:=1) rfl ?_;lk;show j8 (kh ?_) ?_
 .have :(10:Nat)^60>1000000000:=by decide
  omega
 lk;show#[Β,λw1 O=>?_];let#[F,D]:=Ξ O (.lst [.str (Ϫ (toString r.1))]);change EV _ _ _ (upd H1 w1 (.lst [.str (Ϫ (toString r.1))])) _;generalize upd H1 w1 (.lst [.str (Ϫ (toString r.1))])=H2 at F D⊢;show jP ["_law_value_here"] (σ':=[none]) (bN (χ Eu)) ?_;lk;show Α (ι.of (F _ _ hp)) (i:=0) rfl ?_;show#[k,Ν cs os r.2,rfl,η.of (F _ _ hk),(),λτ=>∃o1,τ=[o1],λE2 i x H'=>∃y,(Ν cs os r.2)[i]?=some y/\x=.str (wordOf y),#[none,rfl],λE2 i x H2 R ys _ _ p=>p,λfp E2 C U H0 i τ x H4 R aY hi W Ο hys s=>?_,λL R ys jq Y G e3 U=>?_]
 .let#[o1,rfl]:=W;let#[G,rfl]:=s;show ω ph (by rfl) (.inl rfl) (.inr rfl) ?_;lk;let#[o,_,Z]:=ρ.get' g G;show#[x,_,rfl,Z,?_];show#[#[_,rfl],#[x,G,rfl],ζ.refl _]
 let ey:=fD (ys:=Ν cs os r.2) (λy=>V.str (wordOf y)) Y G;subst ey;show xP (U _ _ D) e3 (by rw[aaA];show 1+_<=_;omega) λw2 ab=>?_
 let ek:[V.str (Ϫ (toString r.1))]++(Ν cs os r.2).map (λy=>V.str (wordOf y))=(bL (#[sd,r.1.toNat,Ν cs os r.2]:Cut)).map V.str:=by
  show _=V.str (Ϫ (toString ((r.1.toNat:Nat):Int)))::((Ν cs os r.2).map wordOf).map V.str;rw[er,aep];rfl
 rw[ek];let#[s4,e4]:=Ξ ab (.lst ((bL (#[sd,r.1.toNat,Ν cs os r.2]:Cut)).map V.str));generalize upd R w2 (.lst ((bL (#[sd,r.1.toNat,Ν cs os r.2]:Cut)).map V.str))=H4 at s4 e4⊢;let I:=(s1.trans F).trans (U.trans s4);k_go;let el:∃n,Θ (bf lv).cps.toList 0=some n/\gG lv=#[#v[n]]/\(bf lv).length<=6:=by
  cases lv
  .show#[115,by fin2,by fin2,by fin2]
  .show#[108,by fin2,by fin2,by fin2]
 let#[n,en,Jy,el3]:=el;show jU () en ?_;lk;show j8 (kh ?_) ?_
 .have :=f.mo;have:(10:Nat)^60>5000:=by decide
  omega
 lk;show#[b,os,rfl,hO.same I,(),λx hx=>by
  let#[cc,ac,e]:=f.inc x hx;have:=oZ (jM f.ok (z:=x.1) (aa6.mpr #[cc,ac,e]));omega,λH5 s5=>?_]
 lk;show#[v,c,cs,t,rfl,hC.same (I.trans s5),f.ok,hv.same (I.trans s5),J,f.gt,λH6 s6=>?_];lk;show#[Β,λhd De=>?_];rw[<-Jy];let#[s7,e7]:=Ξ De (.lst [.str (gG lv),.str (Ϫ (toString (mo:Int))),.str (bK os),.str (sT cs t)]);change Ι _ _ _ _ (upd H6 hd (.lst [.str (gG lv),.str (Ϫ (toString (mo:Int))),.str (bK os),.str (sT cs t)]));generalize upd H6 hd (.lst [.str (gG lv),.str (Ϫ (toString (mo:Int))),.str (bK os),.str (sT cs t)])=H7 at s7 e7⊢;let Yt:=(s5.trans s6).trans s7;k_go;show jg (ys:=bL (#[sd,r.1.toNat,Ν cs os r.2]:Cut)) (η.of (Yt _ _ e4)) (by rw[lb];omega) ?_;let hsg:(aA sd).length=1:=by cases sd<;>fin2
 show dq () ?_;lk;show#[Β,λl1 ae=>?_];let#[s8,e8]:=Ξ ae (.lst [.str (cO #[sd,r.1.toNat,Ν cs os r.2])]);change OP _ _ _ _ (upd H7 l1 (.lst [.str (cO #[sd,r.1.toNat,Ν cs os r.2])])) _;generalize upd H7 l1 (.lst [.str (cO #[sd,r.1.toNat,Ν cs os r.2])])=H8 at s8 e8⊢;show xP (s8 _ _ e7) e8 (by show 4+1<=ϯ;omega) λl2 ϻ=>?_
 let#[s9,e9]:=Ξ ϻ (.lst ((b8 #[lv,mo,os,sT cs t,#[sd,r.1.toNat,Ν cs os r.2]]).map V.str));change EA _ _ _ (upd H8 l2 (.lst ((b8 #[lv,mo,os,sT cs t,#[sd,r.1.toNat,Ν cs os r.2]]).map V.str))) _;generalize upd H8 l2 (.lst ((b8 #[lv,mo,os,sT cs t,#[sd,r.1.toNat,Ν cs os r.2]]).map V.str))=H9 at s9 e9⊢;let af:=(I.trans Yt).trans (s8.trans s9);let a:=q H9 af;let ep:az lv mo os (sT cs t) (some (.at_ sd (Ν cs os r.2) r.1))=.str (dD #[lv,mo,os,sT cs t,#[sd,r.1.toNat,Ν cs os r.2]]):=rfl;rw[ep]at a;lk;show jg (ys:=b8 #[lv,mo,os,sT cs t,#[sd,r.1.toNat,Ν cs os r.2]]) (η.of e9) (by rw[ls];show _+5*1<=_;omega) ?_;let em:dD #[lv,mo,os,sT cs t,#[sd,r.1.toNat,Ν cs os r.2]]=Ϥ #[lv,mo,os,sT cs t,#[sd,r.1.toNat,Ν cs os r.2]]++Ϫ "."++dm (aO (Ϥ #[lv,mo,os,sT cs t,#[sd,r.1.toNat,Ν cs os r.2]]).cps.toList):=rfl;rw[em]at a;change Ι _ _ _ _ _;let eb:adT ("/":Str) (b8 #[lv,mo,os,sT cs t,#[sd,r.1.toNat,Ν cs os r.2]])=Ϥ #[lv,mo,os,sT cs t,#[sd,r.1.toNat,Ν cs os r.2]]:=rfl;generalize Ϥ #[lv,mo,os,sT cs t,#[sd,r.1.toNat,Ν cs os r.2]]=z at b2 bc a eb;rw[eb];k_go;k_go;w_up;show R3 (by walk_at"po") (by rfl) (by intro _;rfl) ?_;f_are;let cn:=nU z.cps.toList;show#[z,rfl,λi σ H'=>H'=H9/\∃j l o,σ=[some (.ref c),some (.str (bf lv)),some (.int (mo:Nat)),some (.ref b),some v,some (.str (aA sd)),some u,some (.ref p),some (.ref w2),some (.ref hd),some (.str z),some (.int j),some (.int l),o]/\0<=j/\j<9973/\0<=l/\l<9973/\(j+l*aO (z.cps.toList.drop i)) % 9973=aO z.cps.toList,#[rfl,0,1,none,rfl,by decide,by decide,by decide,by decide,?_],λi cc σ H' hi hP=>?_,λσ H' hP=>?_]
 .rw[amf,aqE,asp];show anG cn.1 cn.2
 .let#[rfl,j,l,o,rfl,t0,t1,p0,p1,e]:=hP;let hcb:=bc cc (aaD hi);let ag:z.cps.toList.drop i=cc::z.cps.toList.drop (i+1):=by
   let#[h1,h2]:=aat.mp hi;rw[aeQ h1,h2]
  rw[ag]at e;show ω nd (by rfl) (.inl rfl) (.inl rfl) ?_;w_up;cbv;show#[rfl,_,_,_,rfl,ahb _ (by decide),afs _ (by decide),ahb _ (by decide),afs _ (by decide),Y5 e]
 .let#[rfl,j,l,o,rfl,t0,t1,p0,p1,e]:=hP;rw[aqb]at e;let D:j=aO z.cps.toList:=by
   rw[<-e];show j=(j+l*0) % 9973;rw[asm,asn,anG t0 t1]
  let#[m,hm]:=aa7 cn.1;rw[hm]at D a;rw[D];let hm4:=oO (m:=m) (k:=4) (by decide) ();let h4:=zg ((m:Nat):Int);f_len;show ψ ?_;lk;show dq () ?_;lk;show j8 (kh ?_) ?_
  .have :(10:Nat)^60>10000:=by decide
   omega
  show dq () ?_;lk;show iG (by rw[len_app];omega) ?_;rw[adU ()];show dq (by rw[len_app];omega) ?_;show a
abbrev mH(B:Bk)(mo:Nat)(os:List Ord)(t:Tr)(ls:List Row)(ct:Ct)(i j:Nat):cD:=fJ B mo os (sT B.heads t) ls.length (ϡ B.heads os ls ct i j)
structure pA(H:Hp)(c hd ln d s b:δ)(v:V)(mo:Nat)(B:Bk)(os:List Ord)(t:Tr)(ls:List Row)(lw:List V)(Ϸ:List (Key×V)):Prop where
 hd:H hd=some (.tup [.str (bf true),.int (mo:Nat),.ref b,v])
 co:Τ H c B.heads
 or:ϥ H b os
 li:iC B.heads os t mo
 sv:aX H v t
 sh:iU t
 ln:H ln=some (.lst lw)
 rw_:ρ (aQ H) lw ls
 fit:∀r∈ls,ϙ B.heads r/\0<=r.1/\r.1<=1000000000
 len:ls.length<=60
 st:∃r,H d=some (.dK (stK r s B.now))
 si:H s=some (.dK Ϸ)
 tc:∀r∈ls,∃k,Ϣ Ϸ (Sum.inl r.1)=some (.int k)/\ Υ B.touched r.1=some k
section
variable{H H':Hp}{c hd ln d s b:δ}{v:V}{mo:Nat}{B:Bk}{os:List Ord}{t:Tr}{ls:List Row}{lw:List V}{Ϸ:List (Key×V)}
def pA.same(h:pA H c hd ln d s b v mo B os t ls lw Ϸ)(a:ζ H H'):pA H' c hd ln d s b v mo B os t ls lw Ϸ:=by
 let#[r,e]:=h.st;show#[a _ _ h.hd,h.co.same a,h.or.same a,h.li,h.sv.same a,h.sh,a _ _ h.ln,h.rw_.imp λu r z=>z.same a,h.fit,h.len,#[r,a _ _ e],a _ _ h.si,h.tc]
def pA.row(h:pA H c hd ln d s b v mo B os t ls lw Ϸ)(a:n<ls.length):∃u,lw[n]?=some u/\aQ H u ls[n]:=by
 let#[u,e,z]:=h.rw_.get' (aaj a);show#[u,e,z]
end
def af2{os:List Ord}{ls:List Row}{ct:Ct}{i j:Nat}(a:0<i)(c:i<j)(f:j<=ls.length):(ϡ cs os ls ct i j).back=some (.at_ true (Ν cs os (ls[i]'()).2) (ls[i]'()).1):=by
 let e:(ϡ cs os ls ct i j).back=some (fU cs os true ((Ψ ls i j).take 1) ct):=if_pos a;rw[e];unfold Ψ;rw[List.take_take,aiz (),aeQ ()];rfl
def afJ{os:List Ord}{ls:List Row}{ct:Ct}{i j:Nat}(a:i<j)(c:j<ls.length):(ϡ cs os ls ct i j).ϟ=some (.at_ false (Ν cs os (ls[j-1]'()).2) (ls[j-1]'()).1):=by
 let e:(ϡ cs os ls ct i j).ϟ=some (fU cs os false ((Ψ ls i j).drop ((Ψ ls i j).length-1)) ct):=if_pos c;rw[e,Gs ls ()];unfold Ψ;rw[List.drop_take,ar5,show j-i-(j-i-1)=1 by omega,show i+(j-i-1)=j-1 by omega,aeQ ()];rfl
def akI{os:List Ord}{ls:List Row}{ct:Ct}{i:Nat}(a:0<i):(ϡ cs os ls ct i i).back=some ct:=by
 let e:(ϡ cs os ls ct i i).back=some (fU cs os true ((Ψ ls i i).take 1) ct):=if_pos a;rw[e];unfold Ψ;rw[aq9,ar8];rfl
def akD{os:List Ord}{ls:List Row}{ct:Ct}{i:Nat}(a:i<ls.length):(ϡ cs os ls ct i i).ϟ=some ct:=by
 let e:(ϡ cs os ls ct i i).ϟ=some (fU cs os false ((Ψ ls i i).drop ((Ψ ls i i).length-1)) ct):=if_pos a;rw[e];unfold Ψ;rw[aq9,ar8];rfl
abbrev vQ(c hd ln d b:δ)(i j mo:Nat)(ov v:V)(o1 o2 o3 o4 o5 o6:Option V):_L.St:=[some (.ref c),some (.ref hd),some (.ref ln),some (.ref d),some (.int (i:Nat)),some (.int (j:Nat)),some ov,some (.str (bf true)),some (.int (mo:Nat)),some (.ref b),some v,o1,o2,o3,o4,o5,o6]
inductive TJ (vs:List V) (H:Hp) (Q:VK) (E:XK):Prop
 |mk (c hd ln d s b:δ) (v ov:V) (mo:Nat) (B:Bk) (os:List Ord) (t:Tr) (ls:List Row) (lw:List V) (Ϸ:List (Key×V)) (ct:Ct) (i j:Nat):vs=[.ref c,.ref hd,.ref ln,.ref d,.int (i:Nat),.int (j:Nat),ov]->pA H c hd ln d s b v mo B os t ls lw Ϸ->i<=j->j<=ls.length->(0<i\/j<ls.length->i<j\/ov=az true mo os (sT B.heads t) (some ct))->(∀p q0 us H',ζ H H'->H q0=none->H' p=some (.tup [.ref q0,(mH B mo os t ls ct i j).back,(mH B mo os t ls ct i j).ϟ,.int (ls.length:Nat),.int (i:Nat),.int B.now])->H' q0=some (.lst us)->ρ (lU H') us (mH B mo os t ls ct i j).rows->Q (.ref p) H')->TJ vs H Q E
def yc(T:Txt K mg):Def P w K mg base true 5 "_law_leaf" ["_law_columns_here","_law_head","_law_line_here","_law_state","_law_first","_law_after","_law_own"] TJ:=by
 show Δ (S:=O9) T.yc (λf Ϻ A outer s0 H vs Q E hr h=>?_);intro X _;let#[c,hd,ln,d,s,b,v,J,mo,B,os,t,ls,lw,Ϸ,ct,i,j,rfl,a,ag,ab,Ϲ,q]:=h;let nd:=O9.nd;let n1:=T.bh;let hsz:=ϰ;let M:_+1<cLine:=ad1 (aeA (by decide:1<=64) _) hr.units;let D1:= @Ba P w K mg base T;let qC:=a.rw_.len;let hlen:=a.len;let sl:=Gs ls (i:=i) ab;let#[rA,ac]:=a.st;w_up;show d9 ?_;lk;show ao (ι.of a.hd) ?_
 iterate 4 show Κ (ω nd (by rfl) (.inl rfl) (.inl rfl) ?_)
 show ak (xK ?_);f_tup;lk;show#[Β,λq0 O=>?_];let#[s1,e1]:=Ξ O (.lst []);generalize upd H q0 (.lst [])=H1 at s1 e1⊢;w_up;show rP (by walk_at"po") (by rfl) (by intro _;rfl) ?_;lk;show qU (η.of (s1 _ _ a.ln)) λp3 R=>?_
 rw[Lh lw i j ag ()];let#[s2,e2]:=Ξ R (.lst (Ψ lw i j));let ah:p3≠q0:=λz=>by rw[z,e1]at R;cases R
 generalize upd H1 p3 (.lst (Ψ lw i j))=H2 at s2 e2⊢;let zW:ρ (aQ H) (Ψ lw i j) (Ψ ls i j):=aak a.rw_;let ai:=zW.len;show#[p3,_,rfl,η.of e2,λk σ H'=>∃U W us,σ=vQ c hd ln d b i j mo J v (some (.ref q0)) U W none none none/\ζ H H'/\H' p3=some (.lst (Ψ lw i j))/\H' q0=some (.lst us)/\ρ (λu(r:Row)=>∃t l,u=V.ref t/\H' t=some (.tup [.int r.1,.ref l,.bl (gY B mo r.1)])/\H l=some (.lst r.2)) us ((Ψ ls i j).take k),#[none,none,[],rfl,s1.trans s2,e2,s2 _ _ e1,.nil],λk σ' H' _ hP=>?_,λk x σ' H' hx hP=>?_,λσ' H' hP=>?_]
 .let#[_,_,_,_,_,z,_]:=hP;show η.of z
 .let#[U,W,us,rfl,y,JV,Y,p]:=hP;let#[r,Z,tr,lr,rfl,aj,al]:=zW.get hx;let am:r∈ls:=adG (adM (aaD Z));let jG:=p.len;rw[adg]at jG;let hkl:k<(Ψ ls i j).length:=(aat.mp Z).1;show ao (ι.of (y _ _ aj)) (Κ (ω nd (by rfl) (.inl rfl) (.inl rfl) (Κ (ω nd (by rfl) (.inl rfl) (.inl rfl) (ak ?_)))));f_len;show aM (bU F.plainAttrs_list F.slot_list_append F.type_list_append (h:=?_));f_are;show#[.inl #[rfl,_,η.of Y],?_];let#[kk,ap,ar]:=a.tc r am;let dg:Ϝ H' s (.int r.1) (some (.int kk)):=by
   have:=Ϝ.k (k:=Sum.inl r.1) (y _ _ a.si);rw[ap]at this;show this
  let av:decide (kk<=(mo:Nat))=gY B mo r.1:=by
   unfold gY;rw[ar];rfl
  lk;show Ε (λh=>absurd (V.str.inj h) (by fin2)) (λ_=>?_);lk;show bV M (HF (y _ _ ac)) ?_;lk;show bV M dg ?_;lk;rw[av];show#[Β,λtt m=>?_];lk;show dF jY #[q0,us,_,rfl,rfl,(ζ.upd m) _ _ Y,(),?_];let aw:tt≠q0:=λz=>by rw[z,Y]at m;cases m
  show#[_,_,us++[.ref tt],rfl,λb' u e=>?_,?_,ς,?_]
  .rw[ξ (λz=>by rw[z,O]at e;cases e),ξ (λz=>by rw[z]at e;rw[y _ _ e]at m;cases m)];show y _ _ e
  .rw[ξ ah,ξ (λz=>by rw[z,m]at JV;cases JV)];show JV
  .rw[anf,Z];show(p.imp λu r' z=>?_).app (.cons #[tt,lr,rfl,by rw[ξ aw,ς],al] .nil);let#[t',l',e,g1,g2]:=z;show#[t',l',e,by rw[ξ (λz=>by rw[z,Y]at g1;cases g1),ξ (λz=>by rw[z,m]at g1;cases g1)];show g1,g2]
 let#[U,W,us,rfl,y,_,Y,p]:=hP;rw[ai,ajR]at p;let jG:=p.len;let Pa:∀{H2},ζ H' H2->η K H2 q0 us:=λs=>η.of (s _ _ Y)
 obtain⟨L,I⟩:∃L,ϡ B.heads os ls ct i j=L:=#[_,rfl];let Wv:L.rows=Ψ ls i j:=by rw[<-I];rfl
 let fin:∀(H5:Hp),ζ H' H5->Ι X ((ϖ p8).drop 7) {nx:=λ_ H'=>Q .non H',rt:=Q} (vQ c hd ln d b i j mo J v (some (.ref q0)) U W (some (az true mo os (sT B.heads t) L.back)) (some (az true mo os (sT B.heads t) L.ϟ)) none) H5:=by
  intro H5 s5;let bZ:=y.trans s5;let ae:η K H5 ln lw:=η.of (bZ _ _ a.ln);k_go;show bw ?_;lk;show bV M (tZ (bZ _ _ ac)) ?_;f_len;show ψ ?_;lk;show#[Β,λpf ax=>?_];rw[qC];let s6:=ζ.upd (o:=.tup [.ref q0,az true mo os (sT B.heads t) L.back,az true mo os (sT B.heads t) L.ϟ,.int (ls.length:Nat),.int (i:Nat),.int B.now]) ax;show q pf q0 us _ (bZ.trans s6) O ?_ ((s5.trans s6) _ _ Y) ?_
  .show _=some (HO.tup [.ref q0,az true mo os (sT B.heads t) (ϡ B.heads os ls ct i j).back,az true mo os (sT B.heads t) (ϡ B.heads os ls ct i j).ϟ,.int (ls.length:Nat),.int (i:Nat),.int B.now]);rw[I];show ς
  show ρ _ us ((ϡ B.heads os ls ct i j).rows.map λr=>(r.1,r.2,gY B mo r.1));rw[I,Wv];show KR (λr:Row=>((r.1,r.2,gY B mo r.1):fX)) (p.imp λu r z=>?_);let#[t,l,e,g1,g2]:=z;show#[t,l,e,(s5.trans s6) _ _ g1,(bZ.trans s6) _ _ g2]
 let two:∀(D:V)(H4:Hp),D=(if j<ls.length then J else .non)->ζ H' H4->Ι X ((ϖ p8).drop 6) {nx:=λ_ H'=>Q .non H',rt:=Q} (vQ c hd ln d b i j mo J v (some (.ref q0)) U W (some (az true mo os (sT B.heads t) L.back)) (some D) none) H4:=by
  intro D H4 g s4;let iy:=a.same (y.trans s4);let sq4:=Pa s4;let ae:η K H4 ln lw:=η.of iy.ln;w_up;show Μ (lZ ?_);lk;show Ε (λh=>?_) (λh=>?_)
  .let nR:j<ls.length:=()
   lk;show Ε (λh0=>?_) (λh0=>?_)
   .let DP:i<j:=()
    let ay:j-1<ls.length:=()
    let#[u,hu,wk]:=a.row ay;f_len;f_tup;lk;show ϊ ae (show Θ lw ((j:Int)-1)=some u by rw[show(j:Int)-1=((j-1:Nat):Int)by omega];show ϒ hu) ?_;lk;let#[f1,f2,f3]:=a.fit ls[j-1] (aeq _);show#[c,b,true,false,mo,v,u,B.heads,os,t,ls[j-1],rfl,iy.co,iy.or,a.li,iy.sv,a.sh,wk.same (y.trans s4),f1,f2,f3,λH5 s5=>?_];have:=fin H5 (s4.trans s5);let G:=afJ (cs:=B.heads) (os:=os) (ct:=ct) DP nR;rw[I]at G;rw[G]at this;show this
   .let e:i=j:=()
    subst e;rw[if_pos nR]at g;rcases Ϲ (.inr nR)with z|z
    .omega
    have:=fin H4 s4;let G:=akD (cs:=B.heads) (os:=os) (ct:=ct) nR;rw[I]at G;rw[G, <-z]at this;subst g;show Γ this
  .let nR:¬j<ls.length:=()
   rw[if_neg nR]at g;lk;have:=fin H4 s4;rw[show az true mo os (sT B.heads t) L.ϟ=D by rw[g, <-I,show(ϡ B.heads os ls ct i j).ϟ=none from if_neg nR];rfl]at this;show Γ this
 let aC:η K H' ln lw:=η.of (y _ _ a.ln);k_go;let af:∀(bk:V),bk=(if 0<i then J else .non)->Ι X ((ϖ p8).drop 4) {nx:=λ_ H'=>Q .non H',rt:=Q} (vQ c hd ln d b i j mo J v (some (.ref q0)) U W (some bk) none none) H':=by
  intro bk BX;let S5:∀(D:V),D=(if j<ls.length then J else .non)->Ι X ((ϖ p8).drop 5) {nx:=λ_ H'=>Q .non H',rt:=Q} (vQ c hd ln d b i j mo J v (some (.ref q0)) U W (some bk) (some D) none) H':=by
   intro D g;let rR:=a.same y;let sq3:=Pa (ζ.refl _);w_up;show Μ (lZ ?_);lk;show Ε (λh=>?_) (λh=>?_)
   .let n:0<i:=()
    lk;show Ε (λh0=>?_) (λh0=>?_)
    .let DP:i<j:=()
     let aD:i<ls.length:=()
     let#[u,hu,wk]:=a.row aD;f_len;f_tup;lk;show ϊ aC (ϒ hu) ?_;lk;let#[f1,f2,f3]:=a.fit ls[i] (aeq _);show#[c,b,true,true,mo,v,u,B.heads,os,t,ls[i],rfl,rR.co,rR.or,a.li,rR.sv,a.sh,wk.same y,f1,f2,f3,λH5 s5=>?_];have:=two D H5 g s5;let G:=af2 (cs:=B.heads) (os:=os) (ct:=ct) n DP ab;rw[I]at G;rw[G]at this;show this
    .let e:i=j:=()
     subst e;rw[if_pos n]at BX;rcases Ϲ (.inl n)with z|z
     .omega
     have:=two D H' g (ζ.refl _);let G:=akI (cs:=B.heads) (os:=os) (ls:=ls) (ct:=ct) n;rw[I]at G;rw[G, <-z]at this;subst BX;show Γ this
   .let n:¬0<i:=()
    rw[if_neg n]at BX;lk;have:=two D H' g (ζ.refl _);rw[show az true mo os (sT B.heads t) L.back=bk by rw[BX, <-I,show(ϡ B.heads os ls ct i j).back=none from if_neg n];rfl]at this;show Γ this
  k_go;show Ε (λh=>?_) (λh=>?_)
  .lk;show S5 _ (if_pos ()).symm
  .lk;show S5 _ (if_neg ()).symm
 show Ε (λh=>?_) (λh=>?_)
 .lk;show af _ (if_pos ()).symm
 .lk;show af _ (if_neg ()).symm
end
end _K
namespace _K
open PySem _L PyProof.Rows _M _V _W
section
variable{P:Ϯ}{w:ϭ}{K:Ϩ}{mg:Str->Option ε}{base:ϫ}
def qL(xs:List V)(n:Int):aoW:=.tuple [.list (xs.map dV),.int n]
def cj.lay{os:List Ord}{xs:List V}(h:cj cs os xs):∀x∈xs,scalar x=true/\gP x=true/\∀z,x=.str z->bx 4000 z:=by
 let h':ρ (λ(o:Ord) x=>ϕ (lK cs o.1) x) os xs:=h;clear h;induction h' with
 |nil=>intro x hx;cases hx
 |cons r t a=>
  intro x hx;obtain e|hx:=ϳ.mp hx
  .subst e;show#[r.sc,r.gP]
  .show a x hx
def N8(h:jh H p xs n)(hs:∀x∈xs,scalar x=true/\gP x=true/\∀z,x=.str z->bx 4000 z):RD K H (.ref p) (qL xs n):=by
 let#[l,h1,h2]:=h;show .tup (ι.of h1) (.cons (.lst (η.of h2) (Ar (ack.mpr λx a=>(hs x a).2.1))) (.cons (.int _) .nil))
def aac(h:∀x∈xs,scalar x=true/\gP x=true/\∀z,x=.str z->bx 4000 z):(qL xs n).canLay0=true:=by
 show((PyData.list (xs.map dV)).canLay0&&(true&&true))=true;rw[Bh λx a=>(h x a).2];rfl
def aeZ(xs:List V)(n:Int):(qL xs n).depth<=4:=by
 have:=yg xs;simp only[qL,PyData.depth,PyData.depthAll];omega
def ahV(c:scalar x=true)(a:scalar y=true):PyData.eqv (dV x) (dV y)=decide (x=y):=by
 cases x with
 |non=>
  cases y with
  |non=>rfl
  |int j=>rfl
  |str z=>rfl
  |_=>show absurd a aaF
 |int i=>
  cases y with
  |non=>rfl
  |int j=>
   show(i==j)=decide (V.int i=V.int j);rw[aex,decide_eq_true_eq,beq_iff_eq];show#[λz=>by rw[z],λz=>by injection z]
  |str z=>rfl
  |_=>show absurd a aaF
 |str z=>
  cases y with
  |non=>rfl
  |int j=>rfl
  |str y=>
   show(z==y)=decide (V.str z=V.str y);rw[aex,decide_eq_true_eq,beq_iff_eq];show#[λz=>by rw[z],λz=>by injection z]
  |_=>show absurd a aaF
 |_=>show absurd c aaF
theorem YL:∀{xs ys:List V},(∀x∈xs,scalar x=true)->(∀y∈ys,scalar y=true)->PyData.eqvAll (xs.map dV) (ys.map dV)=decide (xs=ys)
 |[],[],_,_=>rfl
 |x::xs,y::ys,c,e=>by
  show(PyData.eqv (dV x) (dV y)&&PyData.eqvAll (xs.map dV) (ys.map dV))=_;rw[ahV (c x (by simp)) (e y (by simp)),YL (xs:=xs) (ys:=ys) (λz a=>c z (by simp[a])) λz a=>e z (by simp[a])];rw[aex,aaO,decide_eq_true_eq,decide_eq_true_eq,decide_eq_true_eq,List.cons.injEq]
 |[],_::_,_,_=>rfl
 |_::_,[],_,_=>rfl
def ahz(a:∀x∈xs,scalar x=true)(c:∀y∈ys,scalar y=true):PyData.eqv (qL xs n) (qL ys k)=decide (xs=ys/\n=k):=by
 show(PyData.eqvAll (xs.map dV) (ys.map dV)&&((n==k)&&true))=_;rw[YL a c,ase,aex,aaO,decide_eq_true_eq,decide_eq_true_eq,beq_iff_eq]
def Ji:List π->List π
 |(.For _ _ b _ _)::_=>b
 |_=>[]
inductive Ms (K:Ϩ) (vs:List V) (H:Hp) (Q:VK) (E:XK):Prop
 |mk (a b p:δ) (u:V) (cs:List θ) (os:List Ord) (rs:List Row) (ws:List V) (sd:Bool) (r0:Row):vs=[.ref a,.ref b,.ref p,.str (aA sd),u]->Τ H a cs->ϥ H b os->H p=some (.lst ws)->ρ (aQ H) ws rs->aQ H u r0->ϙ cs r0->mU cs os rs->(∀H',ζ H H'->Q (.int (cI cs os (.at_ sd (Ν cs os r0.2) r0.1) rs:Nat)) H')->Ms K vs H Q E
def IV(T:Txt K mg):Def P w K mg base true 2 "_law_place" ["_law_columns_here","_law_order_here","_law_line_here","_law_sign","_law_one"] (Ms K):=by
 show Δ (S:=UW) T.IV (λ_ _ A _ s H vs Q E U h=>?_);intro X _;let#[a,b,p,u,cs,os,rs,ws,sd,r0,rfl,hC,hO,hp,I,ab,vz,m,q]:=h;let nd:=UW.nd;let hu:=U.units;let hsz:=ϰ;let D1:= @uE P w K mg base T;let D2:= @Bl P w K mg base T;let ac:=I.len;let#[c1,c6]:=m.cols;let o4:=m.DN;let few:=m.few;let i:=cY vz m.inc;let W:=cj.lay i;k_go;show#[a,b,u,cs,os,r0,rfl,hC,hO,ab,(ρ.len vz).symm,(),(),m.inc,λk0 l0 H0 Y _ _ v z=>?_];generalize Ν cs os r0.2=xs at i W z q;generalize r0.1=n at v q;k_go;w_up;show rP (by walk_at"po") (by rfl) (by intro _;rfl) ?_;lk;show#[p,ws,rfl,η.of (Y _ _ hp),λj σ H'=>(∃f g,σ=[some (.ref a),some (.ref b),some (.ref p),some (.str (aA sd)),some u,some (.ref k0),some (.int ((rs.take j).countP (bH cs os (.at_ sd xs n)):Nat)),f,g])/\ζ H0 H',#[#[_,_,rfl],ζ.refl _],λj σ' H' _ J=>η.of ((Y.trans J.2) _ _ hp),λj x σ' H1 hx J=>?_,λσ' H1 J=>?_]
 .let#[#[f,g,rfl],Z]:=J;let#[r,U,L]:=I.get hx;let jk:=m.fit r (aaD U);let kr:=cY jk m.inc;let Fe:=kr.lay;let yG:=Y.trans Z;show ω nd (by rfl) (.inl rfl) (.inl rfl) ?_;k_go;show#[a,b,x,cs,os,r,rfl,hC.same yG,hO.same yG,L.same yG,(ρ.len jk).symm,(),(),m.inc,λkp kl H2 s2 _ _ M O=>?_];let B:=Z.trans s2;let dJ:=yG.trans s2;let l:(rs.take (j+1)).countP (bH cs os (.at_ sd xs n))=(rs.take j).countP (bH cs os (.at_ sd xs n))+(if bH cs os (.at_ sd xs n) r=true then 1 else 0):=by
   rw[anf,U,arz]
   congr 1
   show aso _ [r]=_;rw[arV,ar4,akh]
  let c:bH cs os (.at_ sd xs n) r=(ϣ os (Ν cs os r.2) xs r.1 n||(!sd&&decide (Ν cs os r.2=xs/\r.1=n))):=aly kr i;let⟨x1,x2,x3⟩:=kr.aF i;let R:∀(D:Ends)(H3:Hp),ζ H2 H3->bH cs os (.at_ sd xs n) r=true->(∀f g,D.nx [some (.ref a),some (.ref b),some (.ref p),some (.str (aA sd)),some u,some (.ref k0),some (.int ((rs.take (j+1)).countP (bH cs os (.at_ sd xs n)):Nat)),f,g] H3)->Ι X (Zw ((Ji ((ϖ Ds).drop 2)).drop 1)) D [some (.ref a),some (.ref b),some (.ref p),some (.str (aA sd)),some u,some (.ref k0),some (.int ((rs.take j).countP (bH cs os (.at_ sd xs n)):Nat)),some x,some (.ref kp)] H3:=λD H3 F hl hD=>by
   f_len;f_tup;lk;rw[hl,if_pos rfl]at l;have:=hD (some x) (some (.ref kp));rw[l]at this;show this
  let no:∀(D:Ends)(H3:Hp),bH cs os (.at_ sd xs n) r=false->(∀f g,D.nx [some (.ref a),some (.ref b),some (.ref p),some (.str (aA sd)),some u,some (.ref k0),some (.int ((rs.take (j+1)).countP (bH cs os (.at_ sd xs n)):Nat)),f,g] H3)->D.nx [some (.ref a),some (.ref b),some (.ref p),some (.str (aA sd)),some u,some (.ref k0),some (.int ((rs.take j).countP (bH cs os (.at_ sd xs n)):Nat)),some x,some (.ref kp)] H3:=λD H3 hl hD=>by
   rw[hl,if_neg aaF,arG]at l;have:=hD (some x) (some (.ref kp));rw[l]at this;show this
  f_len;show Μ (lZ ?_);lk;show#[b,kp,k0,os,Ν cs os r.2,xs,r.1,n,rfl,hO.same dJ,#[kl,M,O],#[l0,B _ _ v,B _ _ z],x1,x2,o4,x3,λH3 F=>?_];let G:=B.trans F;cases ha:ϣ os (Ν cs os r.2) xs r.1 n with
  |true=>
   lk;show R _ H3 F (by rw[c,ha];rfl) λf g=>#[#[_,_,rfl],G]
  |false=>
   lk;cases sd with
   |true=>
    show Ε (λh=>absurd (V.str.inj h) (by fin2)) (λ_=>?_);show Γ (no _ H3 (by rw[c,ha];rfl) λf g=>#[#[_,_,rfl],G])
   |false=>
    show bw ?_;lk;show Y9 hu (N8 #[kl,F _ _ M,F _ _ O] Fe) (N8 #[l0,G _ _ v,G _ _ z] W) (aac Fe) (aac W) (ad8 (aeZ ..) (by decide)) ?_;rw[ahz (λy hy=>(Fe y hy).1) (λy hy=>(W y hy).1)];by_cases e:Ν cs os r.2=xs/\r.1=n
    .rw[decide_eq_true e];lk;show R _ H3 F (by rw[c,ha,decide_eq_true e];rfl) λf g=>#[#[_,_,rfl],G]
    .rw[decide_eq_false e];lk;show Γ (no _ H3 (by rw[c,ha,decide_eq_false e];rfl) λf g=>#[#[_,_,rfl],G])
 .let#[#[f,g,rfl],Z]:=J;f_len;show ψ ?_;lk;rw[ac,ajR];show q H1 (Y.trans Z)
theorem Xy(h:ρ (PR (LR F H)) Ϸ m):kY H Ϸ m:=h.imp λf p z=>by
 let#[e,l,a,c,_]:=z;show#[e,l,a,c]
structure dZ(mg:Str->Option ε)(F:List δ)(A:BA)(c hd d r s b:δ)(v:V)(H:Hp)(B:Bk)(mo:Nat)(os:List Ord)(t:Tr)(sn:List (Int×Int)):Prop where
 hd:H hd=some (.tup [.str (bf true),.int (mo:Nat),.ref b,v])
 co:Τ H c B.heads
 or:ϥ H b os
 sv:aX H v t
 sh:iU t
 li:iC B.heads os t mo
 st:ύ mg F A d r s H B B.now B.rows sn
 nd:(B.rows.map Prod.fst).Nodup
 wf:j7 B
 r60:B.rows.length<=60
 fit:∀r∈B.rows,ϙ B.heads r/\0<=r.1/\r.1<=1000000000
 si:∀i x,Υ B.touched i=some x->Υ sn i=some x
section
variable{F:List δ}{A:BA}{c hd d r s b ln:δ}{v:V}{H H':Hp}{B:Bk}{mo:Nat}{os:List Ord}{t:Tr}{sn:List (Int×Int)}{ls:List Row}{lw:List V}
theorem dZ.same(h:dZ mg F A c hd d r s b v H B mo os t sn)(a:ζ H H'):dZ mg F A c hd d r s b v H' B mo os t sn:=#[a _ _ h.hd,h.co.same a,h.or.same a,h.sv.same a,h.sh,h.li,h.st.same a,h.nd,h.wf,h.r60,h.fit,h.si]
theorem dZ.mem(h:dZ mg F A c hd d r s b v H B mo os t sn)(a:ls.Perm (B.rows.filter λr=>bu r.2 t)):ls.length<=60/\∀r∈ls,r∈B.rows:=#[ad8 (am2 a.length_eq) (ad8 (aiu ..) h.r60),λr e=>(ai5.mp (a.mem_iff.mp e)).1]
def dZ.ins(h:dZ mg F A c hd d r s b v H B mo os t sn)(n:ls.Perm (B.rows.filter λr=>bu r.2 t))(e:H ln=some (.lst lw))(p:ρ (aQ H) lw ls):∃Ϸ,pA H c hd ln d s b v mo B os t ls lw Ϸ:=by
 let#[q,es,g]:=h.st.si;let#[y,mem]:=h.mem n;show#[q,h.hd,h.co,h.or,h.li,h.sv,h.sh,e,p,λr D=>h.fit r (mem r D),y,#[r,h.st.st],es,λa i=>?_];let E:Υ B.rows a.1≠none:=λz=>absurd (aov (f:=Prod.fst) (mem a i)) (Ck.mp z)
 let G:Υ B.touched a.1≠none:=λz=>E ((h.wf a.1).mpr z)
 let#[k,j]:=Option.ne_none_iff_exists'.mp G;obtain⟨_,z⟩|⟨u,x,I,m,J⟩:=iW g a.1
 .rw[h.si _ _ j]at z;cases z
 .rw[h.si _ _ j]at m;cases m;let l:u=.int k:=J;show#[k,by rw[I,l],j]
def dZ.Dq(h:dZ mg F A c hd d r s b v H B mo os t sn)(a:ls.Perm (B.rows.filter λr=>bu r.2 t))(e:Line B.heads os ls):mU B.heads os ls:=by
 let#[g,mem]:=h.mem a;show#[pq h.li.ok,h.li.o4,h.li.inc,λr f=>(h.fit r (mem r f)).1,e,()]
end
def fu(H:Hp)(cs:List θ)(v:V):=∃t sd u r,v=.ref t/\H t=some (.tup [.str (aA sd),u])/\aQ H u r/\ϙ cs r/\0<=r.1/\r.1<=1000000000
def fu.same(h:fu H cs v)(s:ζ H H'):fu H' cs v:=by
 let#[t,sd,u,r,e,h1,h2,a]:=h;show#[t,sd,u,r,e,s _ _ h1,h2.same s,a]
def km(a c:Hp)(cs:List θ)(v:V):=∃t sd u r,v=.ref t/\c t=some (.tup [.str (aA sd),u])/\aQ a u r/\ϙ cs r/\0<=r.1/\r.1<=1000000000
def km.at'(h:km c a cs v)(s:ζ c a):fu a cs v:=by
 let#[t,sd,u,r,e,h1,h2,f]:=h;show#[t,sd,u,r,e,h1,h2.same s,f]
def km.put(m:f pm=none)(s:ζ f c)(e:c pm=some (.lst ms))(g:c a=none)(h:∀v∈ms,km f c cs v)(n:aQ f u r)(p:ϙ cs r)(q:0<=r.1)(h1:r.1<=1000000000):ζ f (upd (upd c a (.tup [.str (aA sd),u])) pm (.lst (ms++[.ref a])))/\(upd (upd c a (.tup [.str (aA sd),u])) pm (.lst (ms++[.ref a]))) pm=some (.lst (ms++[.ref a]))/\∀v∈ms++[.ref a],km f (upd (upd c a (.tup [.str (aA sd),u])) pm (.lst (ms++[.ref a]))) cs v:=by
 let l:a≠pm:=λz=>by rw[z,e]at g;cases g
 show#[λG x i=>?_,ς,λv y=>?_]
 .rw[ξ (λz=>by rw[z,m]at i;cases i),ξ (λz=>by rw[z]at i;rw[s _ _ i]at g;cases g)];show s _ _ i
 .obtain z|z:=adb.mp y
  .let#[t',B,D,E,e1,j,F]:=h v z;show#[t',B,D,E,e1,?_,F];rw[ξ (λz=>by rw[z,e]at j;cases j),ξ (λz=>by rw[z,g]at j;cases j)];show j
  .rw[abv.mp z];show#[a,sd,u,r,rfl,by rw[ξ l,ς],n,p,q,h1]
def gC(H H':Hp)(p:δ)(L:cD):=∃q us,H' p=some (.tup [.ref q,L.back,L.ϟ,.int L.many,.int L.ahead,.int L.moment])/\H q=none/\H' q=some (.lst us)/\ρ (lU H') us L.rows
def gC.same(h:gC H H' p L)(s:ζ H' H2):gC H H2 p L:=by
 let#[q,us,e,h1,h2,a]:=h;show#[q,us,s _ _ e,h1,s _ _ h2,a.imp λu r z=>z.same s]
def gC.old(h:gC H H' p L)(s:ζ a H):gC a H' p L:=by
 let#[q,us,e,h1,h2,c]:=h;show#[q,us,e,s.free h1,h2,c]
def YF{os:List Ord}{z:Str}{cs:List θ}{rs:List Row}{sd a:Bool}{xs:List V}{n:Int}:∃x,az true mo os z (some (fU cs os sd rs (.at_ a xs n)))=.str x:=by
 cases rs with
 |nil=>show#[_,rfl]
 |cons r rs=>show#[_,rfl]
abbrev Im(c hd d r kt b:δ)(n mo:Nat)(on:Bool)(v:V)(o1 o2 o3 o4 o5 o6 o7:Option V):_L.St:=[some (.ref c),some (.ref hd),some (.ref d),some (.ref r),some (.ref kt),some (.int (n:Nat)),some (.bl on),some (.str (bf true)),some (.int (mo:Nat)),some (.ref b),some v,o1,o2,o3,o4,o5,o6,o7]
inductive XN (mg:Str->Option ε) (vs:List V) (H:Hp) (Q:VK) (E:XK):Prop
 |mk (F:List δ) (A:BA) (B:Bk) (c hd d r s b kt:δ) (v u:V) (mo n:Nat) (on sd:Bool) (os:List Ord) (t:Tr) (sn:List (Int×Int)) (r0:Row):vs=[.ref c,.ref hd,.ref d,.ref r,.ref kt,.int (n:Nat),.bl on]->dZ mg F A c hd d r s b v H B mo os t sn->H kt=some (.tup [.str (aA sd),u])->aQ H u r0->ϙ B.heads r0->0<=r0.1->r0.1<=1000000000->1<=n->n<=100->(∀p pd pm ls ms H',ζ H H'->Line B.heads os ls->ls.Perm (B.rows.filter λr=>bu r.2 t)->H' p=some (.tup [az true mo os (sT B.heads t) (some (.at_ sd (Ν B.heads os r0.2) r0.1)),.ref pd,.ref pm])->gC H H' pd (fJ B mo os (sT B.heads t) ls.length (bB on B.heads os ls (.at_ sd (Ν B.heads os r0.2) r0.1) n))->H pm=none->H' pm=some (.lst ms)->(∀v∈ms,fu H' B.heads v)->ms.length<=2->Q (.ref p) H')->XN mg vs H Q E
def Gr(T:Txt K mg):Def P w K mg base true 6 "_law_turned" ["_law_columns_here","_law_head","_law_state","_law_rows","_law_kept","_law_size","_law_forth"] (XN mg):=by
 show Δ (S:=Ur) T.Gr (λf Ϻ A' outer s0 H vs Q E hr h=>?_);intro X _;let#[F,A,B,c,hd,d,r,s,b,kt,v,u,mo,n,on,sd,os,t,sn,r0,rfl,a,m,ab,vz,rK,tV,n1,n2,q]:=h;let nd:=Ur.nd;let m1:=T.bh;let m2:=T.Bx;let m3:=T.z9;let hsz:=ϰ;let D1:= @Av P w K mg base T;let D2:= @IV P w K mg base T;let D3:= @Ba P w K mg base T;let D4:= @yc P w K mg base T;let#[Ϸ,er,hR]:=a.st.ro;w_up;show d9 ?_;lk;show ao (ι.of a.hd) ?_
 iterate 4 show Κ (ω nd (by rfl) (.inl rfl) (.inl rfl) ?_)
 show ak (xK ?_);f_tup;lk;show#[c,b,r,v,t,Ϸ,B.heads,os,B.rows,rfl,a.co,a.li.ok,a.or,a.li.o4,a.li.inc,a.sv,a.sh,a.li.gt,er,Xy hR,a.nd,a.r60,λr hr=>(a.fit r hr).1,λln lw ls H1 s1 alX d8 ac gR Ϟ=>?_];let hA:ρ (aQ H1) lw ls:=ac.imp λu r z=>z.row s1
 let qC:=hA.len;let#[qO,mem]:=a.mem Ϟ;let uh:=a.same s1;let vy:=a.Dq Ϟ gR;k_go;show Α (ι.of (s1 _ _ m)) (i:=0) rfl ?_;lk;show Α (ι.of (s1 _ _ m)) (i:=1) rfl ?_;lk;show#[c,b,ln,u,B.heads,os,ls,lw,sd,r0,rfl,uh.co,uh.or,d8,hA,ab.same s1,vz,vy,λH2 s2=>?_];let dJ:=s1.trans s2;let nu:=a.same dJ;generalize G:Ct.at_ sd (Ν B.heads os r0.2) r0.1=ct at q;let pB:=yS (cs:=B.heads) (os:=os) (c:=ct) (rs:=ls);generalize hp:cI B.heads os ct ls=p at pB;k_go;show Α (ι.of (dJ _ _ m)) (i:=0) rfl ?_;lk;show Α (ι.of (dJ _ _ m)) (i:=1) rfl ?_;lk;show#[c,b,true,sd,mo,v,u,B.heads,os,t,r0,rfl,nu.co,nu.or,a.li,nu.sv,a.sh,ab.same dJ,vz,rK,tV,λH3 s3=>?_];rw[G];let aD:=dJ.trans s3;let ae:=a.same aD;let Xc:=(s2.trans s3) _ _ d8;let CQ:ρ (aQ H3) lw ls:=hA.imp λu r z=>z.same (s2.trans s3)
 let aal:η K H3 ln lw:=η.of Xc;let#[rG,rR]:=ae.ins Ϟ Xc CQ;let rest:∀(i j:Nat),i<=j->j<=ls.length->bB on B.heads os ls ct n=ϡ B.heads os ls ct i j->Ι X ((ϖ uy).drop 6) {nx:=λ_ H'=>Q .non H',rt:=Q} (Im c hd d r kt b n mo on v (some (.ref ln)) (some (.int (p:Nat))) (some (az true mo os (sT B.heads t) (some ct))) (some (.int (i:Nat))) (some (.int (j:Nat))) none none) H3:=by
  intro i j af ag ah;k_go;show#[c,hd,ln,d,s,b,v,_,mo,B,os,t,ls,lw,rG,ct,i,j,rfl,rR,af,ag,λ_=>.inr rfl,λpd q0 us I s4 ai J aj al=>?_];let pY:gC H3 I pd (mH B mo os t ls ct i j):=#[q0,us,J,ai,aj,al];let L:=rR.same s4;let aqd:η K I ln lw:=η.of L.ln;k_go;show#[Β,λpm y=>?_];let#[M,e5]:=Ξ y (.lst []);generalize upd I pm (.lst [])=H5 at M e5⊢;let bZ:=(aD.trans s4).trans M;let am:H pm=none:=(aD.trans s4).free y;let e:∀(ms:List V)(H6:Hp),ζ I H6->H6 pm=some (.lst ms)->(∀v∈ms,km I H6 B.heads v)->ms.length<=2->Ι X ((ϖ uy).drop 10) {nx:=λ_ H'=>Q .non H',rt:=Q} (Im c hd d r kt b n mo on v (some (.ref ln)) (some (.int (p:Nat))) (some (az true mo os (sT B.heads t) (some ct))) (some (.int (i:Nat))) (some (.int (j:Nat))) (some (.ref pd)) (some (.ref pm))) H6:=by
   intro ms H6 D O g rT;f_len;show ψ ?_;lk;show#[Β,λpr ap=>?_];let s7:=ζ.upd (o:=.tup [az true mo os (sT B.heads t) (some ct),.ref pd,.ref pm]) ap;let zx:=((aD.trans s4).trans D).trans s7;show q pr pd pm ls ms _ zx gR Ϟ ς (by rw[ah];show(pY.same (D.trans s7)).old aD) am (s7 _ _ O) (λv R=>((g v R).at' D).same s7) rT
  let two:∀(ms:List V)(H6:Hp),ζ I H6->H6 pm=some (.lst ms)->(∀v∈ms,km I H6 B.heads v)->ms.length<=1->Ι X ((ϖ uy).drop 9) {nx:=λ_ H'=>Q .non H',rt:=Q} (Im c hd d r kt b n mo on v (some (.ref ln)) (some (.int (p:Nat))) (some (az true mo os (sT B.heads t) (some ct))) (some (.int (i:Nat))) (some (.int (j:Nat))) (some (.ref pd)) (some (.ref pm))) H6:=by
   intro ms H6 D O g rT;w_up;show Μ (lZ ?_);lk;show Α (ι.of (D _ _ J)) (i:=2) rfl ?_;by_cases hj:j<ls.length
   .let U:(ϡ B.heads os ls ct i j).ϟ=some (fU B.heads os false ((Ψ ls i j).drop ((Ψ ls i j).length-1)) ct):=if_pos hj;obtain⟨zf,W⟩:∃x,(mH B mo os t ls ct i j).ϟ=.str x:=by
     show ∃x,az true mo os (sT B.heads t) (ϡ B.heads os ls ct i j).ϟ=.str x;rw[U, <-G];show YF
    rw[W];lk;show Ε (λh=>?_) (λh=>?_)
    .let ar:j-1<ls.length:=()
     let#[uu,Y,Z]:=L.row ar;let#[f1,f2,f3]:=L.fit ls[j-1] (aeq _);f_len;show aM (bU PySem.F.plainAttrs_list PySem.F.slot_list_append PySem.F.type_list_append (h:=?_));f_are;show#[.inl #[rfl,_,η.of O],?_];lk;show ϊ (η.of (D _ _ L.ln)) (show Θ lw ((j:Int)-1)=some uu by rw[show(j:Int)-1=((j-1:Nat):Int)by omega];show ϒ Y) ?_;lk;show#[Β,λtt l=>?_];lk;show dF jY #[pm,ms,_,rfl,rfl,(ζ.upd l) _ _ O,(),?_];let#[a1,a2,a3]:=km.put (sd:=false) y D O l g Z f1 f2 f3;show e _ _ a1 a2 a3 (by rw[abo,aeg];omega)
    .show Γ (e ms H6 D O g ())
   .let U:(ϡ B.heads os ls ct i j).ϟ=none:=if_neg hj;let W:(mH B mo os t ls ct i j).ϟ=.non:=by
     show az true mo os (sT B.heads t) (ϡ B.heads os ls ct i j).ϟ=.non;rw[U];rfl
    rw[W];lk;show Γ (e ms H6 D O g ())
  w_up;show Μ (lZ ?_);lk;show Α (ι.of (M _ _ J)) (i:=1) rfl ?_;by_cases hi:0<i
  .let U:(ϡ B.heads os ls ct i j).back=some (fU B.heads os true ((Ψ ls i j).take 1) ct):=if_pos hi;obtain⟨zf,W⟩:∃x,(mH B mo os t ls ct i j).back=.str x:=by
    show ∃x,az true mo os (sT B.heads t) (ϡ B.heads os ls ct i j).back=.str x;rw[U, <-G];show YF
   rw[W];lk;show Ε (λh=>?_) (λh=>?_)
   .let av:i<ls.length:=()
    let#[uu,Y,Z]:=L.row av;let#[f1,f2,f3]:=L.fit ls[i] (aeq _);f_len;show aM (bU PySem.F.plainAttrs_list PySem.F.slot_list_append PySem.F.type_list_append (h:=?_));f_are;show#[.inl #[rfl,_,η.of e5],?_];lk;show ϊ (η.of (M _ _ L.ln)) (ϒ Y) ?_;lk;show#[Β,λtt l=>?_];lk;show dF jY #[pm,[],_,rfl,rfl,(ζ.upd l) _ _ e5,by show 0<ϯ;omega,?_];let#[a1,a2,a3]:=km.put (sd:=true) y M e5 l (λv R=>by cases R) Z f1 f2 f3;show two _ _ a1 a2 a3 (Ϭ _)
   .show Γ (two [] H5 M e5 (λv R=>by cases R) (ad5 _))
  .let U:(ϡ B.heads os ls ct i j).back=none:=if_neg hi;let W:(mH B mo os t ls ct i j).back=.non:=by
    show az true mo os (sT B.heads t) (ϡ B.heads os ls ct i j).back=.non;rw[U];rfl
   rw[W];lk;show Γ (two [] H5 M e5 (λv R=>by cases R) (ad5 _))
 k_go;cases on with
 |true=>
  lk;k_go;show xH ?_;rw[show(if(p:Int)+((n:Nat):Int)<(lw.length:Nat)then(p:Int)+((n:Nat):Int)else(lw.length:Nat))=((min (p+n) ls.length:Nat):Int)by split <;>omega];show rest p (min (p+n) ls.length) () (aom ..) (by rw[<-hp];rfl)
 |false=>
  lk;show Cm ?_;rw[show(if(p:Int)-((n:Nat):Int)>0 then(p:Int)-((n:Nat):Int)else 0)=((p-n:Nat):Int)by split <;>omega];k_go;show rest (p-n) p () pB (by rw[<-hp];rfl)
end
end _K
namespace _K
open PySem _L PyProof.Rows _M _V _W
section
variable{P:Ϯ}{w:ϭ}{K:Ϩ}{mg:Str->Option ε}{base:ϫ}
def afH(a:Χ cs=true)(h:bO cs M):bx 4000 (dD M):=by
 let#[_,f]:=u6 a h;let p:=nU (Ϥ M).cps.toList;let#[m,g]:=aa7 (show 0<=aO (Ϥ M).cps.toList by omega);let e:=Rv (n:=m) ();unfold zM at e;simp only[aaO,decide_eq_true_eq,ack]at e;let i:bx 3300 (Ϥ M):=#[f,xq a h];let j:bx 1 (".":Str):=#[by fin2,by fin2];let l:bx 4 (dm (aO (Ϥ M).cps.toList)):=by
  rw[g];show#[am2 e.1,λc a=>?_];have:=e.2.1 c a;unfold qI at this;simp at this;omega
 show((i.app j).app l).mono (by decide)
def ais(g:Χ cs=true){os:List Ord}(a:c7 cs os)(l:os.length<=4):(bK os).length<=100:=by
 let h1:=jO (os.map Ϛ) 9 λp i=>by
  let#[o,j,rfl]:=aa6.mp i;let#[c,f,e]:=a o j;have:=oZ (jM g (z:=o.1) (aa6.mpr #[c,f,e]));let m:("+":Str).length=1:=by fin2
  let n:("-":Str).length=1:=by fin2
  unfold Ϛ;rw[len_app];split <;>omega
 let h2:=kJ (os.map Ϛ);rw[aaA]at h1 h2;unfold bK;omega
theorem afu(i:Χ cs=true){os:List Ord}(a:c7 cs os)(j:os.length<=4)(f:(os.map Prod.fst).Nodup):jb cs (bK os)=some os:=Rh j f a λo l m=>by
 let#[c,g,e]:=a o l;let f:=jM i (z:=o.1) (aa6.mpr #[c,g,e]);unfold isName eV at f;rw[aaO,ack]at f;show absurd (of_decide_eq_true (f.2 32 m)) (by fin2)
theorem Ss:∀{t:Tr},iU t->(wT (Φ cs) t).length<=60/\t.dep<=1
 |.one .all,_=>#[by show 1<=60;decide,by show 0<=1;decide]
 |.one (.none _),_=>#[by show 2<=60;decide,by show 0<=1;decide]
 |.one (.look _ _ _),_=>#[by show 3<=60;decide,by show 0<=1;decide]
 |.nt (.one .all),_=>#[by show 2<=60;decide,by show 1<=1;decide]
 |.nt (.one (.none _)),_=>#[by show 3<=60;decide,by show 1<=1;decide]
 |.nt (.one (.look _ _ _)),_=>#[by show 4<=60;decide,by show 1<=1;decide]
 |.nt (.nt _),h=>h.elim
def ai0{os:List Ord}(a:Bool):nQ cs os a (kZ a):=by
 cases a
 .show .inr (.inl #[rfl,rfl])
 .show .inl #[rfl,rfl]
inductive Kg (K:Ϩ) (mg:Str->Option ε) (vs:List V) (H:Hp) (Q:VK) (E:XK):Prop
 |mk (F:List δ) (A:BA) (B:Bk) (sc c hd d r s b:δ) (ns:List Int) (v:V) (mo n:Nat) (os:List Ord) (t:Tr) (sn:List (Int×Int)):vs=[.ref sc,.ref c,.ref A.b,.ref d,.ref hd,.int (n:Nat)]->η K H sc (ns.map V.int)->ns.length<=63->dZ mg F A c hd d r s b v H B mo os t sn->jZ K mg H A B os t mo n->B.now=(mo:Nat)->(∀p pf pd pm on ls ms Hm H',ζ H Hm->ζ Hm H'->Line B.heads os ls->ls.Perm (B.rows.filter λr=>bu r.2 t)->H' p=some (.tup [.ref pf,.ref pd,.ref pm])->mQ H Hm pf (fJ B mo os (sT B.heads t) ls.length (bB on B.heads os ls (kZ on) n))->gC H Hm pd (fJ B mo os (sT B.heads t) ls.length (bB on B.heads os ls (kZ on) n))->Hm pm=none->H' pm=some (.lst ms)->(∀v∈ms,fu H' B.heads v)->ms.length<=1->Q (.ref p) H')->Kg K mg vs H Q E
def J0(T:Txt K mg)(hN:fj K mg base "sorted_by"):Def P w K mg base true 20 "_law_begin" ["_law_script","_law_columns_here","_law_book","_law_state","_law_head","_law_size"] (Kg K mg):=by
 show Δ (S:=Pn) T.J0 (λf Ϻ A' outer s0 H vs Q E W h=>?_);intro X _;let#[F,A,B,sc,c,hd,d,r,s,b,ns,v,mo,n,os,t,sn,rfl,hS,hl,j,hI,Zy,q]:=h;let nd:=Pn.nd;let m1:=T.bh;let m2:=T.Bx;let m3:=T.z9;let hsz:=ϰ;let m:_+1<cLine:=ad1 (aeA (by decide:1<=64) _) W.units;let#[_,hdp]:=Ss (cs:=B.heads) j.sh;let D0:= @gQ P w K mg base T;let D1:= @Av P w K mg base T;let D2:= @ym P w K mg base T;let D3:= @wI P w K mg base T;let D4:= @yc P w K mg base T;let D5:Def P w K mg base true (11+2*t.dep) "first_leaf" ["book","make","order","sieve","size"] (t8 K mg t true):=Eb T hN t;let D6:Def P w K mg base true (11+2*t.dep) "last_leaf" ["book","make","order","sieve","size"] (t8 K mg t false):=Ez T hN t;let li:=j.li;let nn1:=hI.n1;let Nt:(bK os).length<=4000:=by have:=ais li.ok li.inc li.o4;omega
 let gM:=afu li.ok li.inc li.o4 li.ZC;let#[Ϸ,er,hR]:=j.st.ro;k_go;show Α (ι.of j.hd) (i:=2) rfl ?_;lk;show#[b,os,rfl,j.or,by have:=li.o4;omega,(λo ho=>by
  let#[cc,aj,e]:=li.inc o ho;have:=oZ (jM li.ok (z:=o.1) (aa6.mpr #[cc,aj,e]));omega),λH2 s2=>?_]
 let nu:=j.same s2;lk;show Α (ι.of nu.hd) (i:=3) rfl ?_;lk;show#[v,c,B.heads,t,rfl,nu.co,li.ok,nu.sv,j.sh,li.gt,λH3 s3=>?_];lk;show#[Β,λtx al=>?_];let#[s4,e4]:=Ξ al (.lst [.str (bK os),.str (sT B.heads t)]);change Ι _ _ _ _ (upd H3 tx (.lst [.str (bK os),.str (sT B.heads t)]));generalize upd H3 tx (.lst [.str (bK os),.str (sT B.heads t)])=H4 at s4 e4⊢;let dO:=(s2.trans s3).trans s4;let jQ:=j.same dO;k_go;show Α (ι.of jQ.hd) (i:=2) rfl ?_;lk;show Α (ι.of jQ.hd) (i:=3) rfl ?_;lk;show bV m (lR jQ.st.st) ?_;lk;show#[c,b,r,v,t,Ϸ,B.heads,os,B.rows,rfl,jQ.co,li.ok,jQ.or,li.o4,li.inc,jQ.sv,j.sh,li.gt,dO _ _ er,(Xy hR).imp (λa r z=>by
  let#[e,l,e2,e3]:=z;show#[e,l,e2,dO _ _ e3]),j.nd,j.r60,λr W=>(j.fit r W).1,λln lw ls R s5 alX d8 am gR Ϟ=>?_]
 let hA:ρ (aQ R) lw ls:=am.imp λu r z=>z.row s5
 let qC:=hA.len;let#[qO,mem]:=j.mem Ϟ;let U:=dO.trans s5;let GD:=j.same U;let#[rG,yW]:=GD.ins Ϟ d8 hA;let sq5:η K R ln lw:=η.of d8;let Bt:∀{H2},ζ R H2->η K H2 tx [.str (bK os),.str (sT B.heads t)]:=λs=>η.of ((s5.trans s) _ _ e4)
 let fin:∀(on:Bool)(G J pm:δ)(ms:List V)(Ha x Hc:Hp),ζ R Ha->ζ Ha x->ζ x Hc->gC R Ha G (fJ B mo os (sT B.heads t) ls.length (bB on B.heads os ls (kZ on) n))->mQ Ha x J (fJ B mo os (sT B.heads t) ls.length (bB on B.heads os ls (kZ on) n))->x pm=none->Hc pm=some (.lst ms)->(∀v∈ms,fu Hc B.heads v)->ms.length<=1->Ι X ((ϖ Ft).drop 3) {nx:=λ_ H'=>Q .non H',rt:=Q} [some (.ref sc),some (.ref c),some (.ref A.b),some (.ref d),some (.ref hd),some (.int (n:Nat)),some (.ref tx),some (.ref ln),some (.ref G),some (.ref J),some (.ref pm)] Hc:=by
  intro on G J pm ms Ha x Hc sa sb ap ar av g lE aw rT;f_len;show ψ ?_;lk;show#[Β,λp hp=>?_];let s9:=ζ.upd (o:=.tup [.ref J,.ref G,.ref pm]) hp;let Yp:=U.trans sa;show q p J G pm on ls ms x _ (Yp.trans sb) (ap.trans s9) gR Ϟ ς (av.old Yp) ((ar.same sb).old U) g (s9 _ _ lE) (λv Y=>(aw v Y).same s9) rT
 let mk:∀(sd:Bool)(k:Nat)(x:Hp),k<ls.length->ζ R x->∃I,lw[k]?=some I/\∀D pm,x D=none->(upd x D (.tup [.str (aA sd),I])) pm=none->ζ x (upd (upd x D (.tup [.str (aA sd),I])) pm (.lst [.ref D]))/\x pm=none/\∀v∈[V.ref D],fu (upd (upd x D (.tup [.str (aA sd),I])) pm (.lst [.ref D])) B.heads v:=by
  intro sd k x hk sb;let#[I,m,ax]:=yW.row hk;let#[f1,f2,f3]:=yW.fit ls[k] (aeq _);show#[I,m,λD pm L g=>?_];let s1:=ζ.upd (o:=.tup [.str (aA sd),I]) L;let s2:=ζ.upd (o:=.lst [.ref D]) g;show#[s1.trans s2,s1.free g,λv Y=>?_];rw[abv.mp Y];show#[D,sd,I,ls[k],rfl,s2 _ _ ς,ax.same ((sb.trans s1).trans s2),f1,f2,f3]
 w_up;show Μ ?_;lk;show#[sc,ns,19,2,rfl,U.seq hS,hl,by decide,by decide,by decide,?_];lk;show Ε (λ_=>?_) (λ_=>?_)
 .w_up;f_tup;lk;show xH ?_;rw[show(if((lw.length:Nat):Int)<((n:Nat):Int)then((lw.length:Nat):Int)else((n:Nat):Int))=((min n ls.length:Nat):Int)by split <;>omega];lk;show#[c,hd,ln,d,s,b,v,_,mo,B,os,t,ls,lw,rG,.start,0,min n ls.length,rfl,yW,ad5 _,aom ..,λh=>.inl (),λG q0 us Z y ab ac Cy ae=>?_];let e:bB true B.heads os ls (kZ true) n=ϡ B.heads os ls .start 0 (min n ls.length):=by
   show ϡ B.heads os ls .start 0 (min (0+n) ls.length)=_;rw[akh]
  let hD:gC R Z G (fJ B mo os (sT B.heads t) ls.length (bB true B.heads os ls (kZ true) n)):=by rw[e];show#[q0,us,ac,ab,Cy,ae]
  k_go;show Α (ι.of ((U.trans y) _ _ j.hd)) (i:=0) rfl ?_;lk;show ϊ (Bt y) (i:=0) rfl ?_;lk;show ϊ (Bt y) (i:=1) rfl ?_;lk;show#[A,B,os,bK os,mo,n,rfl,hI.same (U.trans y),Zy,Nt,gM,λJ iB O s7 af ag M=>?_];let ah:=yo li.inc (λr W=>(j.fit r (mem r W)).1) (Ϟ.trans ag.symm) gR af;subst ah;let uN:=y.trans s7;let Hw:η K O ln lw:=η.of (uN _ _ d8);f_len;f_tup;lk;show Ε (λh=>?_) (λh=>?_)
  .let#[I,m,ai]:=mk false (n-1) O () uN;lk;show ϊ Hw (show Θ lw ((n:Int)-1)=some I by rw[show(n:Int)-1=((n-1:Nat):Int)by omega];show ϒ m) ?_;lk;show#[Β,λD L=>?_];lk;show#[Β,λpm g=>?_];let#[a1,a2,a3]:=ai D pm L g;show fin true G J pm _ Z O _ y s7 a1 hD M a2 ς a3 (Ϭ _)
  .lk;show#[Β,λpm g=>?_];show fin true G J pm [] Z O _ y s7 (ζ.upd g) hD M g ς (λv Y=>by cases Y) (ad5 _)
 .w_up;f_tup;lk;show Cm ?_;rw[show(if((lw.length:Nat):Int)-((n:Nat):Int)>0 then((lw.length:Nat):Int)-((n:Nat):Int)else 0)=((ls.length-n:Nat):Int)by split <;>omega];lk;rw[qC];show#[c,hd,ln,d,s,b,v,_,mo,B,os,t,ls,lw,rG,.fin,ls.length-n,ls.length,rfl,yW,(),Ϭ _,λh=>.inl (),λG q0 us Z y ab ac Cy ae=>?_];let hD:gC R Z G (fJ B mo os (sT B.heads t) ls.length (bB false B.heads os ls (kZ false) n)):=#[q0,us,ac,ab,Cy,ae];k_go;show Α (ι.of ((U.trans y) _ _ j.hd)) (i:=0) rfl ?_;lk;show ϊ (Bt y) (i:=0) rfl ?_;lk;show ϊ (Bt y) (i:=1) rfl ?_;lk;show#[A,B,os,bK os,mo,n,rfl,hI.same (U.trans y),Zy,Nt,gM,λJ iB O s7 af ag M=>?_];let ah:=yo li.inc (λr W=>(j.fit r (mem r W)).1) (Ϟ.trans ag.symm) gR af;subst ah;let uN:=y.trans s7;let Hw:η K O ln lw:=η.of (uN _ _ d8);f_len;f_tup;lk;show Ε (λh=>?_) (λh=>?_)
  .let#[I,m,ai]:=mk true (ls.length-n) O () uN;lk;show ϊ Hw (show Θ lw ((lw.length:Nat)-(n:Nat):Int)=some I by rw[show((lw.length:Nat)-(n:Nat):Int)=((ls.length-n:Nat):Int)by omega];show ϒ m) ?_;lk;show#[Β,λD L=>?_];lk;show#[Β,λpm g=>?_];let#[a1,a2,a3]:=ai D pm L g;show fin false G J pm _ Z O _ y s7 a1 hD M a2 ς a3 (Ϭ _)
  .lk;show#[Β,λpm g=>?_];show fin false G J pm [] Z O _ y s7 (ζ.upd g) hD M g ς (λv Y=>by cases Y) (ad5 _)
def LN(H:Hp)(F:List δ):=∀l∈F,∀x xs,H l=some (.lst (x::xs))->∃a,x=.ref a
structure Ou(F:List δ)(H H':Hp):Prop where
 o:Out F H H'
 nt:NT H F
 ln:LN H F
theorem Ou.tup(h:Ou F H H')(e:H b=some (.tup ys)):H' b=some (.tup ys):=h.nt.tup h.o _ _ e
def Ou.vals(h:Ou F H H')(j:1<=cs.length)(m:ϙ cs r)(e:H l=some (.lst r.2)):H' l=some (.lst r.2):=by
 show h.o _ _ (λhl=>?_) e;let f:ρ (λ(c:θ) x=>ϕ c.2 x) cs r.2:=m;generalize r.2=xs at f e;cases f with
 |nil=>show absurd j (by decide)
 |cons g _=>
  let#[a,n]:=h.ln l hl _ _ e;rw[n]at g;obtain z|⟨_,i,z,_⟩|⟨_,y,z,_⟩:=g<;>cases z
def Ou.row(h:Ou F H H')(a:1<=cs.length)(c:ϙ cs r)(g:aQ H u r):aQ H' u r:=by
 let#[t,l,e,f,i]:=g;show#[t,l,e,h.tup f,h.vals a c i]
def fu.ou(g:fu H cs v)(h:Ou F H H')(c:1<=cs.length):fu H' cs v:=by
 let#[t,sd,u,r,e,h1,h2,a,f]:=g;show#[t,sd,u,r,e,h.tup h1,h.row c a h2,a,f]
def cM(F:List δ)(cs:List θ)(H:Hp)(p:δ)(L:cD):=∃q us,H p=some (.tup [.ref q,L.back,L.ϟ,.int L.many,.int L.ahead,.int L.moment])/\H q=some (.lst us)/\q∉F/\ρ (lU H) us L.rows
def Jp(cs:List θ)(L:cD):=∀x∈L.rows,ϙ cs (x.1,x.2.1)
def cM.ou(g:cM F cs H p L)(f:Jp cs L)(h:Ou F H H')(i:1<=cs.length):cM F cs H' p L:=by
 let#[q,us,e,h1,h2,a]:=g;show#[q,us,h.tup e,h.o _ _ h2 h1,h2,nJ (by rw[a.len]) λj x c=>?_];let#[u,m,t,l,e1,n,s]:=a.get' c;show#[u,m,t,l,e1,h.tup n,h.vals (r:=(x.1,x.2.1)) i (f x (aaD c)) s]
def cM.at'(g:cM F cs H p L):Tu H p L:=by
 let#[q,us,e,h1,h2,a]:=g;show#[q,e,us,h1,a]
def cM.new(g:mQ H H' p L)(lv:∀x∈F,H x≠none):cM F cs H' p L:=by
 let#[q,us,e,h1,h2,a]:=g;show#[q,us,e,h2,λz=>lv q z h1,a.imp λu r z=>by
  let#[t,l,e,c,_,f]:=z;show#[t,l,e,c,f]]
def cM.due(g:gC H H' p L)(lv:∀x∈F,H x≠none):cM F cs H' p L:=by
 let#[q,us,e,h1,h2,a]:=g;show#[q,us,e,h2,λz=>lv q z h1,a]
def Vr(L:cD):Prop:=layR L.rows/\iK L.back/\iK L.ϟ
def uC(F:List δ)(cs:List θ)(H:Hp)(v:V):=∃t a c L,v=.ref t/\H t=some (.tup [.ref a,.ref c])/\cM F cs H a L/\cM F cs H c L/\Jp cs L/\Vr L/\L.rows.length<=100
def uC.ou(g:uC F cs H v)(h:Ou F H H')(c:1<=cs.length):uC F cs H' v:=by
 let#[t,f,i,L,e,h1,h2,j,a,l]:=g;show#[t,f,i,L,e,h.tup h1,h2.ou a h c,j.ou a h c,a,l]
def ZJ{os:List Ord}{t:Tr}{mo:Nat}(a:iC cs os t mo){d:Option Ct}(h:∀x,d=some x->lM cs os x):iK (az true mo os (sT cs t) d):=by
 cases d with
 |none=>show#[rfl,λz e=>by cases e]
 |some x=>
  let#[sd,xs,n,rfl,c,_,h1]:=h x rfl;let h:=afH a.ok (a.good (lv:=true) (sd:=sd) c h1);show iK (.str (dD #[true,mo,os,sT cs t,#[sd,n.toNat,xs]]));generalize dD #[true,mo,os,sT cs t,#[sd,n.toNat,xs]]=f at h;show#[rfl,λz e=>by cases e;show h]
def R7{mo n:Nat}{os:List Ord}{t:Tr}{ls:List Row}{a:Bool}{c:Ct}(g:iC B.heads os t mo)(l:mU B.heads os ls)(m:∀r∈ls,0<=r.1/\r.1<=1000000000)(n1:1<=n)(p:nQ B.heads os a c)(z:Nat)(u:ls.length<=z):Jp B.heads (fJ B mo os (sT B.heads t) ls.length (bB a B.heads os ls c n))/\Vr (fJ B mo os (sT B.heads t) ls.length (bB a B.heads os ls c n))/\(fJ B mo os (sT B.heads t) ls.length (bB a B.heads os ls c n)).rows.length<=z:=by
 let ok:=Ro l m n1 p;obtain⟨i,j,e⟩:∃i j,bB a B.heads os ls c n=ϡ B.heads os ls c i j:=by cases a<;>show#[_,_,rfl]
 rw[e]at ok⊢;let fit:∀x∈(Ψ ls i j).map (λr=>((r.1,r.2,gY B mo r.1):fX)),ϙ B.heads (x.1,x.2.1):=λx f=>by
  let#[r,q,rfl]:=aa6.mp f;show l.fit r (adG (adM q))
 show#[fit,#[λx f y s=>?_,ZJ g λx h=>ok x (.inl h),ZJ g λx h=>ok x (.inr h)],?_]
 .show(fit x f).lay y s
 .show((Ψ ls i j).map _).length<=z;rw[aaA];unfold Ψ;rw[adg,adh];omega
def ύ.nl(h:ύ mg F A d r s H B n m sn):NT H (d::r::s::A.fp)/\LN H (d::r::s::A.fp):=by
 show#[λx i ys e=>?_,λl hl x xs e=>?_]
 .let#[o,z,g]:=h.live x i;rw[e]at z;cases z;show g _ rfl
 .let a:l∈[d,r,s]\/l∈A.fp:=by
   simp only[ϳ,aew,or_false]at hl⊢;obtain z|z|z|z:=hl
   .show .inl (.inl z)
   .show .inl (.inr (.inl z))
   .show .inl (.inr (.inr z))
   .show .inr z
  obtain z|z:=a
  .let#[Ϸ,c]:=h.dicts l z;rw[e]at c;cases c
  .let z':l=A.b\/l=A.r\/l=A.t\/l=A.d:=by simpa [BA.fp]using z
   let#[k1,e1,_]:=h.bk.rows;let#[k2,j,_]:=h.bk.touched;let#[k3,p,f]:=h.bk.done;obtain rfl|rfl|rfl|rfl:=z'
   .rw[h.bk.ins]at e;cases e
   .rw[e1]at e;cases e
   .rw[j]at e;cases e
   .rw[p]at e;cases e;generalize B.done=ds at f;cases f with
    |cons g _=>
     let#[t,w,u,e,_]:=g;show#[t,e]
def ύ.add(h:ύ mg F A d r s H B n m sn)(c:H p=none):ύ mg (p::F) A d r s H B n m sn:=by
 let#[k1,e1,h1]:=h.ro;show#[h.bk,h.st,#[k1,e1,il h1 λv x z=>?_],h.si];let#[l,e,a,f]:=z;show#[l,e,a,λz=>?_];obtain z|z:=ϳ.mp z
 .rw[z,c]at a;cases a
 .show f z
def ύ.held(h:ύ mg F A d r s H B n m sn)(o:Out [p] H H')(c:p∈F)(f:p∉A.six)(g:p≠d)(i:p≠r)(ps:p≠s)(nt:∀ys,H p≠some (.tup ys)):ύ mg F A d r s H' B n m sn:=by
 let#[k1,e1,h1]:=h.ro;let#[k2,j,h2]:=h.si;show#[h.bk.out o (λy a ys z=>by rw[abv.mp a]at z;show nt ys z) (λy a l=>by rw[abv.mp l]at a;show f a),o _ _ (λz=>g (abv.mp z).symm) h.st,#[k1,o _ _ (λz=>i (abv.mp z).symm) e1,il h1 λv x z=>z.stay λb ys q e=>o _ _ (λy=>q (by rw[abv.mp y];show c)) e],#[k2,o _ _ (λz=>ps (abv.mp z).symm) j,h2]]
def ahv:∀k∈nj,0<=k/\k<=1000000000:=by decide
def Bj{A:BA}{c hd d r s b:δ}{v:V}{H:Hp}{B:Bk}{mo i:Nat}{os:List Ord}{t:Tr}{sn:List (Int×Int)}{cs:List θ}(dk:dw cs nj B sn i)(e:H hd=some (.tup [.str (bf true),.int (mo:Nat),.ref b,v]))(co:Τ H c cs)(or:ϥ H b os)(sv:aX H v t)(sh:iU t)(li:iC cs os t mo)(st:ύ mg F A d r s H B B.now B.rows sn):dZ mg F A c hd d r s b v H B mo os t sn:=by
 let hl:=dk.len;let g:nj.length=28:=rfl;let hh:=dk.heads;subst hh;show#[e,co,or,sv,sh,li,st,dk.nd,dk.wf,(),λr a=>#[dk.ok r a,ahv r.1 (dk.keys _ (aov (f:=Prod.fst) a))],dk.si]
structure gk(mg:Str->Option ε)(A:BA)(c hd d r s b hl:δ)(v:V)(cs:List θ)(mo:Nat)(os:List Ord)(t:Tr)(k:Nat)(H:Hp)(B:Bk)(sn:List (Int×Int))(i:Nat)(mk:δ)(ms hs:List V):Prop where
 C:dZ mg (hl::d::r::s::A.fp) A c hd d r s b v H B mo os t sn
 dk:dw cs nj B sn i
 mi:mo<=i
 ml:H mk=some (.lst ms)
 mF:mk∉hl::d::r::s::A.fp
 mm:∀v∈ms,fu H cs v
 m1:1<=ms.length
 m2:ms.length<=2+2*k
 hls:H hl=some (.lst hs)
 hh:∀v∈hs,uC (hl::d::r::s::A.fp) cs H v
 h2:hs.length<=1+k
section
variable{A:BA}{c hd d r s b hl mk:δ}{v:V}{cs:List θ}{mo:Nat}{os:List Ord}{t:Tr}{k:Nat}{H H':Hp}{B:Bk}{sn:List (Int×Int)}{i:Nat}{ms hs:List V}
def gk.nl(g:gk mg A c hd d r s b hl v cs mo os t k H B sn i mk ms hs):NT H (hl::d::r::s::A.fp)/\LN H (hl::d::r::s::A.fp)/\∀x∈hl::d::r::s::A.fp,H x≠none:=by
 let#[n1,n2]:=g.C.st.nl;show#[λx hx ys e=>?_,λl hl x xs e=>?_,λx hx e=>?_]
 .obtain rfl|hx:=ϳ.mp hx
  .rw[g.hls]at e;cases e
  .show n1 x hx ys e
 .obtain rfl|hl:=ϳ.mp hl
  .rw[g.hls]at e;cases e;let#[t,_,_,_,e,_]:=g.hh x (ac3 ..);show#[t,e]
  .show n2 l hl x xs e
 .obtain rfl|hx:=ϳ.mp hx
  .rw[g.hls]at e;cases e
  .let#[o,z,_]:=g.C.st.live x hx;rw[e]at z;cases z
theorem gk.ou(g:gk mg A c hd d r s b hl v cs mo os t k H B sn i mk ms hs)(o:Out (hl::d::r::s::A.fp) H H'):Ou (hl::d::r::s::A.fp) H H':=#[o,g.nl.1,g.nl.2.1]
theorem gk.same(g:gk mg A c hd d r s b hl v cs mo os t k H B sn i mk ms hs)(f:1<=cs.length)(a:ζ H H'):gk mg A c hd d r s b hl v cs mo os t k H' B sn i mk ms hs:=#[g.C.same a,g.dk,g.mi,a _ _ g.ml,g.mF,λv e=>(g.mm v e).same a,g.m1,g.m2,a _ _ g.hls,λv e=>(g.hh v e).ou (g.ou (.of a)) f,g.h2]
theorem aX.ou(h:aX H v t)(k:Ou F H H'):aX H' v t:=aX.stay (λx ys e=>k.tup e) h
def ϥ.ou(h:ϥ H b os)(k:Ou F H H')(a:b∉F):ϥ H' b os:=by
 let#[ws,e,h2]:=h;show#[ws,k.o _ _ a e,h2.imp λu x z=>by
  let#[t,e,z]:=z;show#[t,e,k.tup z]]
theorem Τ.ou(h:Τ H c cs)(k:Ou F H H')(a:c∉F):Τ H' c cs:=h.out k.o k.nt a
def gk.deed(g:gk mg A c hd d r s b hl v cs mo os t k H B sn i mk ms hs)(l:1<=cs.length)(n:c∉hl::d::r::s::A.fp)(p:b∉hl::d::r::s::A.fp)(q:row∈cJ)(hok:∀xs,o=some xs->lA B.heads xs)(m:Out (d::r::s::A.fp) H H')(y:ύ mg (hl::d::r::s::A.fp) A d r s H' (aW B row o) (B.now+1) (aW B row o).rows (qK sn row (B.now+1) o))(f:hl∉d::r::s::A.fp):gk mg A c hd d r s b hl v cs mo os t k H' (aW B row o) (qK sn row (B.now+1) o) (i+1) mk ms hs:=by
 let u:=g.ou (m.mono λx z=>acr _ z);let a:=g.dk.deed (ks':=nj) (λk D=>D) (ags _ q) (λxs e=>by rw[<-g.dk.heads];show hok xs e) (row:=row) (o:=o);let hh:=g.dk.heads;let co:=g.C.co;let li:=g.C.li;rw[hh]at co li;let mi:=g.mi;show#[Bj a (u.tup g.C.hd) (Τ.ou co u n) (ϥ.ou g.C.or u p) (aX.ou g.C.sv u) g.C.sh li y,a,(),u.o _ _ g.mF g.ml,g.mF,λv j=>(g.mm v j).ou u l,g.m1,g.m2,m _ _ f g.hls,λv j=>(g.hh v j).ou u l,g.h2]
end
end
end _K
namespace _K
open PySem _L PyProof.Rows _M _V _W
section
variable{P:Ϯ}{w:ϭ}{K:Ϩ}{mg:Str->Option ε}{base:ϫ}
abbrev tW(a c:δ)(A:BA)(d b hd:δ)(o6 o7 o8 o9 cu gf lB jT jR lg jF kO:Option V):_L.St:=[some (.ref a),some (.ref c),some (.ref A.b),some (.ref d),some (.ref b),some (.ref hd),o6,o7,o8,o9,cu,gf,lB,jT,jR,lg,jF,kO]
def Vk(mg:Str->Option ε)(A:BA)(a c hd d r s b hl:δ)(v:V)(cs:List θ)(mo:Nat)(os:List Ord)(t:Tr)(H:Hp)(k:Nat)(σ:_L.St)(H':Hp):=∃e f g j l m n p q B sn i mk ms hs,σ=tW a c A d b hd e f (some (.ref mk)) (some (.ref hl)) g j l m n p q none/\ζ H H'/\i<=28+2*k/\gk mg A c hd d r s b hl v cs mo os t k H' B sn i mk ms hs
def ahM(T:Txt K mg)(hN:fj K mg base "sorted_by")(F:cZ K "law" "law" lW f fd):dM P w K mg base (cU P w) true 60 f fd ["_law_script"] (JM K "sorted_by" mD):=by
 show Ke F Qq (λvs H Q E h=>by let#[a,ns,rfl,_]:=h;rfl) (λϺ A' outer s0 H vs Q E hr h=>?_);let#[a,ns,rfl,S,hl,aS,q]:=h;let nd:=Qq.nd;let hu:=hr.units;let ay:_+1<cLine:=ad1 (aeA (by decide:1<=64) _) hr.units;let n1:=T.jJ;let n2:=T.oX;let n3:=T.bh;let n4:=T.z9;let n5:=T.ux;let n6:=T.Fj;let n7:=T.Vw;let hsz:=ϰ;let D0:= @gQ P w K mg base T;let D1:= @HD P w K mg base T;let D2:= @CZ P w K mg base T;let D3:= @Dd P w K mg base T;let D4:= @uJ P w K mg base T;let D6:= @Jg P w K mg base T;let D7:= @Ko P w K mg base T;let D8:= @Bq P w K mg base T;let D9:Def P w K mg base true 20 "_law_begin" ["_law_script","_law_columns_here","_law_book","_law_state","_law_head","_law_size"] (Kg K mg):=J0 T hN;let D10:= @Gr P w K mg base T;let MB:=(ahn (P:=P) (w:=w) (base:=base) T).make T.ajL T.ams;let aT:=abi S;let Gz:∀{A:BA},∀x∈A.fp,x∈A.six:=λ{A} x hx=>by
  let ah:x=A.b\/x=A.r\/x=A.t\/x=A.d:=by simpa [BA.fp]using hx
  obtain rfl|rfl|rfl|rfl:=ah<;>simp[BA.six]
 k_go;show#[a,ns,rfl,S,hl,λc cs H1 s1 hc0 hC hok=>?_];let#[c1,c6]:=pq hok;let#[cv,ec,aY]:=id hC;w_up;f_tup;show lL MB hr (by decide) (λ_=>rfl) Ϡ ?_;lk;show iJ (.inl (η.of ec)) λlc a0=>?_
 let#[s5,Ve]:=Ξ a0 (.lst cv);generalize upd H1 lc (.lst cv)=H5 at s5 Ve⊢;let GD:Τ H5 lc cs:=#[cv,Ve,aY.imp λu k z=>by let#[t,e,h]:=z;show#[t,e,s5 _ _ h]];lk;intro y dx hy aC Ϲ;let qd:ζ H5 (upd (upd H5 dx (.own y)) y (.ins (cB mg) dx [])):=λb u e=>by
  rw[ξ (λz=>by rw[z,hy]at e;cases e),ξ (λz=>by rw[z,aC]at e;cases e)];show e
 show#[y,dx,lc,cs,rfl,ς,by rw[ξ Ϲ,ς],GD.same qd,hok,λH6 A eb J1 f1 f2 f3 f4 o6 k6=>?_];let#[s6,fr]:=made hy aC eb J1 f1 f2 f3 f4 o6;subst eb;show#[rfl,?_];let tE:=s5.trans s6;let jz:=s1.trans tE;let Jf:∀x∈A.six,H1 x=none:=λx hx=>s5.free (fr x hx)
 let a1:c∉A.fp:=λz=>by
  have:=Jf c (Gz c z);rw[ec]at this;cases this
 let zW:(∀H',η K H' a (ns.map V.int))\/a∉A.fp:=by
  obtain z|z:=aT
  .show .inr λy=>z (s1.free (Jf a (Gz a y)))
  .show .inl z
 k_go;show#[a,ns,15,9,rfl,jz.seq S,hl,by decide,by decide,by decide,?_];let g0:=aN ns 15 (m:=9) (by decide);let g1:=aZ ns 15 (m:=9) (by decide);generalize ϓ ns 15 9=mv at g0 g1⊢;let#[many,rfl]:=aa7 g0;lk;show#[λ_=>True,A,a,c,ns,many,cs,rfl,jz.seq S,hl,(),hC.same tE,a1,zW,hok,k6,trivial,λ_ _ _ _ _ _=>trivial,λd r s B sn i0 H7 a2 a3 a4 o7 rJ a5 qG hi1 hi2 _=>?_];let old:∀x∈d::r::s::A.fp,H1 x=none:=λx hx=>by
  let ah:x=d\/x=r\/x=s\/x∈A.fp:=by simpa using hx
  obtain rfl|rfl|rfl|z:=ah
  .show tE.free a2
  .show tE.free a3
  .show tE.free a4
  .show Jf x (Gz x z)
 let Hg:ζ H1 H7:=λb' u e=>o7 _ _ (λz=>by rw[old b' (by simp[z])]at e;cases e) (tE _ _ e)
 let zx:=s1.trans Hg;let Tn:=hC.same Hg;let Rg:=qG.now;k_go;show#[a,ns,20,c,cs,rfl,zx.seq S,hl,by decide,by decide,Tn,hok,λb os H8 s8 a6 hO wN a7 a8=>?_];let a9:=rJ.same s8;k_go;show bV ay (tZ a9.st) ?_;lk;show#[a,ns,30,c,cs,rfl,(zx.trans s8).seq S,hl,by decide,by decide,Tn.same s8,c1,c6,λv t H9 s9 aD ap ba=>?_];lk;rw[Rg];show#[Β,λhd De=>?_];let#[tH,ar]:=Ξ De (.tup [.str (bf true),.int ((i0:Nat):Int),.ref b,v]);change Ι _ _ _ _ (upd H9 hd (.tup [.str (bf true),.int ((i0:Nat):Int),.ref b,v]));generalize upd H9 hd (.tup [.str (bf true),.int ((i0:Nat):Int),.ref b,v])=lV at tH ar⊢;let yd:=s9.trans tH;let aE:=s8.trans yd;let tY:=Hg.trans aE;let qt:=s1.trans tY;let#[yP,hdp]:=Ss (cs:=cs) ap;let li:iC cs os t i0:=#[hok,wN,a7,a8,ba,(),yP,()];let jy:=rJ.same aE;let Y:dZ mg (d::r::s::A.fp) A c hd d r s b v lV B i0 os t sn:=Bj qG ar (hC.same tY) (hO.same yd) (aD.same tH) ap li jy;let ins:∀{F:List δ}{H':Hp}{B':Bk}{qz:List (Int×Int)}{i n:Nat},dZ mg F A c hd d r s b v H' B' i0 os t qz->dw cs nj B' qz i->i0<=i->1<=n->n<=100->ζ H H'->jZ K mg H' A B' os t i0 n:=λ{F H' B' qz i n} hc dk hi n1 n2 sm=>by
  let hn:=dk.now;let r60:=hc.r60;show#[#[hc.st.bk,(),hc.wf,(),hc.nd,hc.fit],hc.li,n1,n2,sm _ _ aS]
 w_up;show d9 ?_;lk;show#[a,ns,18,3,rfl,qt.seq S,hl,by decide,by decide,by decide,?_];lk;let e0:=aN ns 18 (m:=3) (by decide);let e1:=aZ ns 18 (m:=3) (by decide);generalize ϓ ns 18 3=kn at e0 e1⊢;let#[na,rfl]:=aa7 e0;rw[show(1:Int)+(na:Nat)=((na+1:Nat):Int)by omega];show#[_,A,B,a,c,hd,d,r,s,b,ns,v,i0,na+1,os,t,sn,rfl,qt.seq S,hl,Y,ins Y qG (Ϭ _) () () qt,Rg,λpt pf pd pm on ls ms Hm yz Λ U gR Ϟ oF M ab ai lE av rT=>?_];let M7:=qt.trans Λ;let QD:=M7.trans U;let aI:=qG.heads;show ao (ι.of oF) ?_
 iterate 3 show Κ (ω nd (by rfl) (.inl rfl) (.inl rfl) ?_)
 show ak (xK ?_);f_tup;lk;show#[Β,λtp aj=>?_];let#[ac,JN]:=Ξ aj (.tup [.ref pf,.ref pd]);generalize upd yz tp (.tup [.ref pf,.ref pd])=RT at ac JN⊢;lk;show#[Β,λg wQ=>?_];let#[Ah,Gv]:=Ξ wQ (.lst [.ref tp]);change Ι _ _ _ _ (upd RT g (.lst [.ref tp]));generalize upd RT g (.lst [.ref tp])=H13 at Ah Gv⊢;let wK:=ac.trans Ah;w_up;show aM (bU PySem.F.plainAttrs_list PySem.F.slot_list_insert PySem.F.type_list_insert (h:=?_));f_are;show#[.inl #[rfl,_,η.of (wK _ _ lE)],?_];lk;show#[a,ns,50,c,cs,rfl,(QD.trans wK).seq S,hl,by decide,by decide,hC.same (((tY.trans Λ).trans U).trans wK),c6,λvp xs bb pG bc wF bd=>?_];lk;show#[Β,λt5 Q3=>?_];let#[rZ,Fq]:=Ξ Q3 (.tup [.int 5,.ref vp]);generalize upd bb t5 (.tup [.int 5,.ref vp])=BK at rZ Fq⊢;lk;show#[Β,λW Wj=>?_];let pD:ζ BK (upd BK W (.tup [.str (">":Str),.ref t5])):=ζ.upd Wj;let Gx:(upd BK W (.tup [.str (">":Str),.ref t5])) W=some (.tup [.str (aA false),.ref t5]):=ς;generalize upd BK W (.tup [.str (">":Str),.ref t5])=ud at pD Gx⊢;lk;let xf:=((wK.trans pG).trans rZ).trans pD;let Ky:=xf _ _ lE;show dF Z8 #[pm,ms,0,_,rfl,rfl,Ky,(),(),?_];let be:gO ms 0 (V.ref W)=.ref W::ms:=rfl;rw[be];let vU:Ou [pm] ud (upd ud pm (.lst (.ref W::ms))):=#[Out.upd (by simp),(λx hx ys e=>by rw[abv.mp hx,Ky]at e;cases e),λl ϻ x xs e=>by
  rw[abv.mp ϻ,Ky]at e;cases e;let#[t,_,_,_,e,_]:=av x (ac3 ..);show#[t,e]]
 let Uu:(upd ud pm (.lst (.ref W::ms))) pm=some (.lst (.ref W::ms)):=ς;let sM:ζ Hm (upd ud pm (.lst (.ref W::ms))):=λx u e=>by
  rw[ξ (λz=>by rw[z,ai]at e;cases e)];show(U.trans xf) _ _ e
 generalize upd ud pm (.lst (.ref W::ms))=sJ at vU Uu sM⊢;let qH:=Λ.trans sM;let Ys:=qt.trans qH;let QB:g≠pm:=λz=>by rw[z,ac _ _ lE]at wQ;cases wQ
 let bg:sJ g=some (.lst [.ref tp]):=vU.o _ _ (λz=>QB (abv.mp z)) (((pG.trans rZ).trans pD) _ _ Gv);let N6:sJ tp=some (.tup [.ref pf,.ref pd]):=vU.tup ((((Ah.trans pG).trans rZ).trans pD) _ _ JN);let W3:Hm g=none:=(U.trans ac).free wQ;let ni:lV g=none:=Λ.free W3;let bi:ϙ cs ((5:Int),xs):=bd;let xX:∀x∈d::r::s::A.fp,lV x≠none:=λx hx e=>by
  let#[o,z,_]:=jy.live x hx;rw[e]at z;cases z
 let Cp:g∉d::r::s::A.fp:=λz=>xX g z ni
 let bn:pm∉g::d::r::s::A.fp:=λz=>by
  obtain z|z:=ϳ.mp z
  .show QB z.symm
  .show xX pm z (Λ.free ai)
 let vy:=Y.Dq Ϟ gR;let#[qO,yX]:=Y.mem Ϟ;let#[fL,yL,zL]:=R7 (mo:=i0) (t:=t) Y.li vy (λr hr=>(Y.fit r (yX r hr)).2) (show 1<=na+1 by omega) (ai0 on) 100 ();let nq:∀{p:δ}{L:cD},cM (d::r::s::A.fp) cs Hm p L->cM (g::d::r::s::A.fp) cs sJ p L:=λ{p L} h=>by
  let#[q,us,g1,g2,g3,g4]:=h;show#[q,us,sM _ _ g1,sM _ _ g2,λz=>?_,g4.imp λu r z=>z.same sM];obtain z|z:=ϳ.mp z
  .rw[z,W3]at g2;cases g2
  .show g3 z
 let aJ:uC (g::d::r::s::A.fp) cs sJ (.ref tp):=#[tp,pf,pd,_,rfl,N6,nq (cM.new M xX),nq (cM.due ab xX),by rw[<-aI];show fL,yL,zL];let Ub:∀v∈V.ref W::ms,fu sJ cs v:=λv hv=>by
  obtain rfl|hv:=ϳ.mp hv
  .have :=fu.ou (F:=[pm]) (v:=.ref W) (cs:=cs) #[W,false,.ref t5,(5,xs),rfl,Gx,#[t5,vp,rfl,pD _ _ Fq,(rZ.trans pD) _ _ wF],bi,by show(0:Int)<=5;decide,by show(5:Int)<=1000000000;decide] vU c1;show this
  .let h1:=av v hv;rw[aI]at h1;show(h1.same xf).ou vU c1
 let bo:gk mg A c hd d r s b g v cs i0 os t 0 sJ B sn i0 pm (.ref W::ms) [.ref tp]:=#[Bj qG (qH _ _ ar) (hC.same (tY.trans qH)) ((hO.same yd).same qH) ((aD.same tH).same qH) ap li ((jy.add ni).same qH),qG,Ϭ _,Uu,bn,Ub,by rw[acj];omega,by rw[acj];omega,bg,λv hv=>by rw[abv.mp hv];show aJ,Ϭ _];let bp:jA A d r s (g::d::r::s::A.fp):=#[a5.nd,λx hx=>acr _ hx];let bF:b∉g::d::r::s::A.fp:=λz=>by
  let#[wv,eb,_]:=hO;obtain z|z:=ϳ.mp z
  .rw[<-z,yd _ _ eb]at ni;cases ni
  .let#[o,y,_]:=rJ.live b z;rw[a6]at y;cases y
 let cF:c∉g::d::r::s::A.fp:=λz=>by
  obtain z|z:=ϳ.mp z
  .rw[<-z,tY _ _ ec]at ni;cases ni
  .have :=old c z;rw[ec]at this;cases this
 let bq:∀x∈g::d::r::s::A.fp,H x=none:=λx hx=>by
  obtain rfl|hx:=ϳ.mp hx
  .show qt.free ni
  .show s1.free (old x hx)
 let sF:∀{Ha Hb:Hp},ζ H Ha->Out (g::d::r::s::A.fp) Ha Hb->ζ H Hb:=λs o b u e=>o _ _ (λz=>by rw[bq b z]at e;cases e) (s _ _ e)
 let br:g∉A.six:=λz=>by have:=jy.bk.Rn g z;show this ni
 let bt:g≠d:=λz=>Cp (by rw[z];show ac3 ..)
 let bv:g≠r:=λz=>Cp (by rw[z];simp)
 let bE:g≠s:=λz=>Cp (by rw[z];simp)
 clear M ab av Ub aJ nq fL yL zL Gx Fq JN Gv N6 sM U wK ac Ah pG rZ pD xf M7 QD oF lE aj wQ Q3 Wj wF bc;let Nz:t.dep<=20:=()
 let D11:Def P w K mg base true 54 "turn_forth" ["book","mark","size"] (uo K mg t true):=Iw T hN t Nz;let D12:Def P w K mg base true 54 "turn_back" ["book","mark","size"] (uo K mg t false):=JW T hN t Nz;w_up;show pQ (by walk_at"po") (by rfl) (by rfl) n2 (by rfl) ?_;lk;show#[a,ns,13,5,rfl,Ys.seq S,hl,by decide,by decide,by decide,?_];lk;let d0:=aN ns 13 (m:=5) (by decide);let d1:=aZ ns 13 (m:=5) (by decide);generalize ϓ ns 13 5=cc at d0 d1⊢;let#[m0,rfl]:=aa7 d0;rw[show(2:Int)+(m0:Nat)=((m0+2:Nat):Int)by omega];show#[(),(),Vk mg A a c hd d r s b g v cs i0 os t H,#[some (.ref pf),some (.ref pd),none,none,none,none,none,none,none,B,sn,i0,pm,_,_,rfl,Ys,(),bo],λk σ' H' hk O=>?_,λσ' H' O=>?_]
 .let#[o6,o7,cu,gf,lB,jT,jR,lg,jF,B1,Zz,i1,mk,du,R,rfl,sm,hi,G]:=O;let hk6:k<6:=by have:=hk;omega
  show ω nd (by rfl) (.inl rfl) (.inl rfl) ?_;w_up;show pQ (by walk_at"po") (by rfl) (by rfl) n2 (by rfl) ?_;lk;show#[a,ns,70+9*(k:Nat),3,rfl,sm.seq S,hl,(),(),by decide,?_];let w0:=aN ns (70+9*(k:Nat)) (m:=3) (by decide);let w1:=aZ ns (70+9*(k:Nat)) (m:=3) (by decide);generalize ϓ ns (70+9*(k:Nat)) 3=cc at w0 w1⊢;let#[m1,rfl]:=aa7 w0;show#[(m1:Nat),rfl,(),(),λj σ H'=>∃gf B sn,σ=tW a c A d b hd o6 o7 (some (.ref mk)) (some (.ref g)) (some (.int (k:Nat))) gf lB jT jR lg jF none/\ζ H H'/\gk mg A c hd d r s b g v cs i0 os t k H' B sn (i1+j) mk du R,#[_,B1,Zz,rfl,sm,G],λj σ' H2 hj O=>?_,λσ' H2 O=>?_]
  .let#[gf,J,wO,rfl,U,I]:=O;let hj2:j<m1:=by have:=hj;omega
   let ap6:=I.dk.sl;show ω nd (by rfl) (.inl rfl) (.inl rfl) ?_;f_len;show aM ?_;lk;show#[g::d::r::s::A.fp,A,J,a,c,d,r,s,ns,1000+40*(k:Nat)+16*(j:Nat),wO,rfl,U.seq S,hl,(),(),I.C.co,by rw[I.dk.heads];show c6,I.C.st,bp,I.nl.2.2,I.dk.small () (by decide),I.dk.wf,(),I.dk.get,λrow o H3 aL hno xV o5 Al=>?_];show#[_,_,_,rfl,sF U (o5.mono λx hx=>acr _ hx),I.deed c1 cF bF aL xV o5 Al Cp]
  let#[gf,J,wO,rfl,U,I]:=O;rw[show((m1:Nat):Int).toNat=m1 from apa _]at I;let zK:=I.dk.heads;let gm1:=I.m1;let gm2:=I.m2;let gh2:=I.h2;let bG:η K H2 mk du:=η.of I.ml;let rest:∀(D:Ends)(at_:Nat),at_<du.length->D.rt=Q->(∀aP H2,Vk mg A a c hd d r s b g v cs i0 os t H (k+1) aP H2->D.nx aP H2)->Ι (jd true P w K mg base KN "law" (χ lW) f Ϻ A' outer s0 H E) ((Ji ((ϖ lW).drop 8)).drop 3) D (tW a c A d b hd o6 o7 (some (.ref mk)) (some (.ref g)) (some (.int (k:Nat))) gf (some (.int (at_:Nat))) jT jR lg jF none) H2:=by
   intro D at_ bI J5 bP;k_go;show#[a,ns,74+9*(k:Nat),rfl,U.seq S,hl,(),(),λnz hn1 hn2=>?_];let#[n,rfl]:=aa7 (show 0<=nz by omega);k_go;show#[a,ns,76+9*(k:Nat),3,rfl,U.seq S,hl,(),(),by decide,?_];lk;generalize decide (0<ϓ ns (76+9*(k:Nat)) 3)=fo;w_up;show d9 ?_;lk;show bV ay (lR I.C.st.st) ?_;lk;let hx:du[at_]?=some du[at_]:=aaj bI;let#[tk,sd,u,r0,bQ,bS,wk,bT,rK,tV]:=I.mm _ (aaD hx);rw[bQ]at hx;show ϊ bG (ϒ hx) ?_;lk;let QJ:ϙ J.heads r0:=by rw[zK];show bT
   show#[g::d::r::s::A.fp,A,J,c,hd,d,r,s,b,tk,v,u,i0,n,fo,sd,os,t,wO,r0,rfl,I.C,bS,wk,QJ,rK,tV,(),(),λpt pd pm ls CW H5 s5 gR Ϟ oF ab ai lE bX rT=>?_];obtain⟨zm,oY⟩:∃zm,az true i0 os (sT J.heads t) (some (.at_ sd (Ν J.heads os r0.2) r0.1))=.str zm:=#[_,rfl];rw[oY]at oF;show ao (ι.of oF) ?_
   iterate 3 show Κ (ω nd (by rfl) (.inl rfl) (.inl rfl) ?_)
   show ak ?_;let cQ:=U.trans s5;let G5:=I.same c1 s5;let ae:=cY QJ I.C.li.inc;let uD:∀on,nQ J.heads os on (.at_ sd (Ν J.heads os r0.2) r0.1):=λon=>.inr (.inr #[_,_,_,rfl,ae,rK,tV])
   let#[qO,yX]:=I.C.mem Ϟ;let vy:=I.C.Dq Ϟ gR;let fin:∀(Z:δ)(iB:List Row)(H6:Hp),ζ H5 H6->Line J.heads os iB->iB.Perm (J.rows.filter λr=>bu r.2 t)->mQ H5 H6 Z (fJ J i0 os (sT J.heads t) iB.length (bB fo J.heads os iB (.at_ sd (Ν J.heads os r0.2) r0.1) n))->Ι (jd true P w K mg base KN "law" (χ lW) f Ϻ A' outer s0 H E) ((Ji ((ϖ lW).drop 8)).drop 7) D (tW a c A d b hd (some (.ref Z)) (some (.ref pd)) (some (.ref mk)) (some (.ref g)) (some (.int (k:Nat))) gf (some (.int (at_:Nat))) (some (.int (n:Nat))) (some (.bl fo)) (some (.str zm)) (some (.ref pm)) none) H6:=by
    intro Z iB H6 s6 af ag M;let bY:=yo I.C.li.inc (λr hr=>(I.C.fit r (yX r hr)).1) (Ϟ.trans ag.symm) gR af;subst bY;let am:=R7 (mo:=i0) (t:=t) I.C.li vy (λr hr=>(I.C.fit r (yX r hr)).2) (show 1<=n by omega) (uD fo) 100 ();generalize fJ J i0 os (sT J.heads t) ls.length (bB fo J.heads os ls (.at_ sd (Ν J.heads os r0.2) r0.1) n)=L at M ab am;let#[fL,#[y1,y2,y3],zL]:=am;rw[zK]at fL;let uU:cM (g::d::r::s::A.fp) cs H6 Z L:=cM.new M G5.nl.2.2;let Sg:=s5.trans s6;let Ad:cM (g::d::r::s::A.fp) cs H6 pd L:=cM.due (ab.same s6) I.nl.2.2;let G6:=I.same c1 Sg;let ly:=Uk y1 y2 y3;w_up;show Μ ?_;lk;show XQ hu (Ci uU.at' y1 y2 y3) (Ci Ad.at' y1 y2 y3) ly ly (Qz _) ?_;rw[SeqAt.eqv_refl _ ly];lk;show Γ ?_;w_up;show aM (bU PySem.F.plainAttrs_list PySem.F.slot_list_append PySem.F.type_list_append (h:=?_));f_are;show#[.inl #[rfl,_,η.of G6.hls],?_];lk;show#[Β,λtp aj=>?_];let#[s7,e7]:=Ξ aj (.tup [.ref Z,.ref pd]);generalize upd H6 tp (.tup [.ref Z,.ref pd])=H7 at s7 e7⊢;let X:=G6.same c1 s7;lk;show dF jY #[g,R,_,rfl,rfl,X.hls,(),?_];let o8:Out [g] H7 (upd H7 g (.lst (R++[.ref tp]))):=Out.upd (by simp);let e8:(upd H7 g (.lst (R++[.ref tp]))) g=some (.lst (R++[.ref tp])):=ς;generalize upd H7 g (.lst (R++[.ref tp]))=H8 at o8 e8⊢;let u8:=X.ou (o8.mono λx hx=>by rw[abv.mp hx];show ac3 ..);let K6:=sF ((U.trans Sg).trans s7) u8.o;let bZ:=(s6.trans s7) _ _ lE;let b0:pm∉g::d::r::s::A.fp:=λz=>I.nl.2.2 pm z ai
    let oR:=u8.o _ _ X.mF X.ml;let b1:=u8.o _ _ b0 bZ;f_len;f_tup;lk;show xP oR b1 () λnm al=>?_
    let#[s9,e9]:=Ξ al (.lst (du++CW));generalize upd H8 nm (.lst (du++CW))=H9 at s9 e9⊢;let Nu:=X.C.co;let Tf:=X.C.li;rw[zK]at Nu Tf;let V1:=X.C.st.held o8 (ac3 ..) br bt bv bE (λys z=>by rw[X.hls]at z;cases z);let C9:dZ mg (g::d::r::s::A.fp) A c hd d r s b v H9 J i0 os t wO:=Bj X.dk ((s9 _ _ (u8.tup X.C.hd))) ((Τ.ou Nu u8 cF).same s9) ((ϥ.ou X.C.or u8 bF).same s9) ((aX.ou X.C.sv u8).same s9) X.C.sh Tf (V1.same s9);let b2:nm∉g::d::r::s::A.fp:=λz=>by
     obtain z|z:=ϳ.mp z
     .rw[z,e8]at al;cases al
     .let#[o,y,_]:=V1.live nm z;rw[al]at y;cases y
    let u9:Ou (g::d::r::s::A.fp) H7 H9:=#[u8.o.trans (.of s9),u8.nt,u8.ln];show bP _ _ #[_,_,_,_,_,_,_,_,_,J,wO,i1+m1,nm,du++CW,R++[.ref tp],rfl,K6.trans s9,(),#[C9,I.dk,I.mi,e9,b2,λv hv=>?_,by rw[abo];omega,by rw[abo];omega,s9 _ _ e8,λv hv=>?_,by rw[abo,aeg];omega]]
    .obtain z|z:=adb.mp hv
     .show(X.mm v z).ou u9 c1
     .have :=bX v z;rw[zK]at this;show(this.same (s6.trans s7)).ou u9 c1
    .obtain z|z:=adb.mp hv
     .show(X.hh v z).ou u9 c1
     .rw[abv.mp z];let u7:Ou (g::d::r::s::A.fp) H6 H7:=G6.ou (.of s7);show#[tp,Z,pd,L,rfl,u9.tup e7,(uU.ou fL u7 c1).ou fL u9 c1,(Ad.ou fL u7 c1).ou fL u9 c1,fL,#[y1,y2,y3],zL]
   let i5:jZ K mg H5 A J os t i0 n:=ins G5.C I.dk I.mi () () cQ;k_go;show je (λaw=>?_) (λaw=>?_)
   .subst aw;lk;show#[A,J,os,i0,n,_,_,_,by rw[oY],i5,ae,rK,tV,λZ iB H6 s6 af ag M=>fin Z iB H6 s6 af ag M]
   .subst aw;lk;show#[A,J,os,i0,n,_,_,_,by rw[oY],i5,ae,rK,tV,λZ iB H6 s6 af ag M=>fin Z iB H6 s6 af ag M]
  k_go;show#[a,ns,71+9*(k:Nat),3,rfl,U.seq S,hl,(),(),by decide,?_];let x0:=aN ns (71+9*(k:Nat)) (m:=3) (by decide);generalize ϓ ns (71+9*(k:Nat)) 3=dr at x0⊢;let#[dn,rfl]:=aa7 x0;lk;show Cm ?_;rw[show(if(du.length:Nat)-1-((dn:Nat):Int)>0 then(du.length:Nat)-1-((dn:Nat):Int)else 0)=((du.length-1-dn:Nat):Int)by split <;>omega];w_up;show Μ ?_;lk;show#[a,ns,72+9*(k:Nat),4,rfl,U.seq S,hl,(),(),by decide,?_];lk;show Ε (λ_=>?_) (λ_=>?_)
  .f_len;f_tup;lk;show#[a,ns,73+9*(k:Nat),(du.length:Nat),rfl,U.seq S,hl,(),(),(),?_];let x1:=aN ns (73+9*(k:Nat)) (m:=(du.length:Nat)) ();let x2:=aZ ns (73+9*(k:Nat)) (m:=(du.length:Nat)) ();generalize ϓ ns (73+9*(k:Nat)) (du.length:Nat)=da at x1 x2⊢;let#[at_,rfl]:=aa7 x1;show rest _ at_ () rfl λ_ _ z=>z
  .show Γ (rest _ (du.length-1-dn) () rfl λ_ _ z=>z)
 .let#[o6,o7,cu,gf,lB,jT,jR,lg,jF,B1,Zz,i1,mk,du,R,rfl,sm,hi,G]:=O;w_up;show rP (by walk_at"po") (by rfl) (by intro _;rfl) ?_;lk;show#[g,R,rfl,η.of G.hls,λj σ G'=>(∃o6 o7 kO,σ=tW a c A d b hd o6 o7 (some (.ref mk)) (some (.ref g)) cu gf lB jT jR lg jF kO)/\H'=G',#[#[_,_,_,rfl],rfl],λj σ G' _ O=>by rw[<-O.2];show η.of G.hls,λj x σ G' hx O=>?_,λσ G' O=>?_]
  .let#[#[o6,o7,kO,rfl],rfl]:=O;let#[tp,Z,b3,L,rfl,qR,uU,Ad,fL,#[y1,y2,y3],zL]:=G.hh x (aaD hx);let ly:=Uk y1 y2 y3;let#[q1,us,Fp,ax,_,b4]:=id uU;show ao (ι.of qR) (Κ (ω nd (by rfl) (.inl rfl) (.inl rfl) (Κ (ω nd (by rfl) (.inl rfl) (.inl rfl) (ak ?_)))));w_up;show Μ (lZ ?_);lk;show Nf Fp ?_;lk;show Α (ι.of Fp) (i:=0) rfl ?_;lk;show akn ax ?_;lk;show XQ hu (Ci uU.at' y1 y2 y3) (Ci Ad.at' y1 y2 y3) ly ly (Qz _) ?_;rw[SeqAt.eqv_refl _ ly];lk;show Γ ?_;f_len;show rP (by walk_at"po") (by rfl) (by intro _;rfl) ?_;lk;show Α (ι.of Fp) (i:=0) rfl ?_;show#[q1,us,rfl,η.of ax,λj σ G'=>(∃kO,σ=tW a c A d b hd (some (.ref Z)) (some (.ref b3)) (some (.ref mk)) (some (.ref g)) cu gf lB jT jR lg jF kO)/\H'=G',#[#[_,rfl],rfl],λj σ G' _ O=>by rw[<-O.2];show η.of ax,λj x σ G' hx O=>?_,λσ G' O=>?_]
   .let#[#[kO,rfl],rfl]:=O;let#[x',ah,tt,l,rfl,ht,_]:=b4.get hx;show ω nd (by rfl) (.inl rfl) (.inl rfl) ?_;f_len;show Μ (lZ ?_);lk;show Nf ht ?_;lk;show Α (ι.of ht) (i:=2) rfl ?_;lk;show Γ #[#[_,rfl],rfl]
   .let#[#[kO,rfl],rfl]:=O;show#[#[_,_,_,rfl],rfl]
  .let#[#[o6,o7,kO,rfl],rfl]:=O;f_len;show ψ ?_;lk;show q _
end
end _K
theorem PySem.Challenge.cw_turnleaf_k63_a_living_list_turned_holds : PySem.Challenge.rw_turnleaf_k63_a_living_list_turned.Holds := by
 show PySem.Challenge.t0 (by intro P w K mg base a b _ _ c;show _K.ahM a b c)
#print axioms PySem.Challenge.cw_turnleaf_k63_a_living_list_turned_holds
