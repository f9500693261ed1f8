import PyProof.Rows.All
import Wide.All
import OpenK.AllK
import Wide.FinOn
import Lean
import PyProof.EqAt
import PyProof.EqKinds
import PyProof.TupleCall
import PyProof.NeData
import PyProof.ZipIter
import PyProof.WalksEnum
import PyProof.Rows.SetFrom
import PyProof.StrLawsTight
import PyProof.StrLawsChain
import PyProof.StrCalls2
import PyProof.ListStr
import PyProof.Rows.StrOrd
import KE.KRevIter
import PyProof.ExcInit
import PyProof.InstStoreFacts
import PyProof.ExcArgs
import PyProof.ExcAttrAll.ValueError
import PyProof.NsDelKeeps
import PyProof.RulesAs
import OpenK.KCls
import PyProof.Rows.TupAssign
import PyProof.StrLawsIn
import KE.KDictSum
import PyProof.DictWalks
import PyProof.Rows.CountFlat
import KE.KTryMore
import KE.KxWritten
import KE.KStrOpen
import KE.KSortTup
import KE.KNest
import PyProof.FString5
import PySem.Challenge.RW_turnleaf_k71_pages_refused
set_option maxHeartbeats 4000000
set_option Elab.async false
set_option linter.all false
set_option maxRecDepth 100000
namespace L2
open PySem PySem.Spec PyProof.Rows
abbrev Key:=Sum Int Str
def keyIs:Key->Value->Bool
 | .inl k,v=>Value.isInt k v
 | .inr x,v=>Value.isStrOf x v
def keyH(w:World):Key->Int
 | .inl k=>hashInt k
 | .inr x=>hashStr w x
theorem keyIs_shape:∀{k:Key} {v:Value},keyIs k v=true->(∃i t,k=Sum.inl i/\v=Value.int i t)\/(∃x t,k=Sum.inr x/\v=Value.str x t)
 | .inl i,v,h=>by
   obtain⟨t,e⟩:=Value.isInt_shape (k:=i) (v:=v) h
   exact .inl ⟨i,t,rfl,e⟩
 | .inr x,v,h=>by
   obtain⟨t,e⟩:=Value.isStrOf_shape (x:=x) (v:=v) h
   exact .inr ⟨x,t,rfl,e⟩
theorem key_ll(a b:Int):decide ((Sum.inl a:Key)=Sum.inl b)=(a==b):=by
 by_cases e:a=b
 .subst e;simp
 .have h:¬(Sum.inl a:Key)=Sum.inl b:=λq=>e (Sum.inl.inj q)
  rw[decide_eq_false h]
  exact(beq_eq_false_iff_ne.mpr e).symm
theorem key_rr(a b:Str):decide ((Sum.inr a:Key)=Sum.inr b)=decide (a=b):=by
 by_cases e:a=b
 .subst e;simp
 .have h:¬(Sum.inr a:Key)=Sum.inr b:=λq=>e (Sum.inr.inj q)
  rw[decide_eq_false h,decide_eq_false e]
theorem key_lr(a:Int)(b:Str):decide ((Sum.inl a:Key)=Sum.inr b)=false:=decide_eq_false (λq=>nomatch q)
theorem key_rl(a:Str)(b:Int):decide ((Sum.inr a:Key)=Sum.inl b)=false:=decide_eq_false (λq=>nomatch q)
def mixKind(prog:Program)(w:World):PySem.KeyKind prog w Key where
 is:=keyIs
 hash:=keyH w
 inj:=λv a b ha hb=>by
  rcases keyIs_shape ha with⟨i,t,rfl,rfl⟩ |⟨x,t,rfl,rfl⟩
  .rcases keyIs_shape hb with⟨j,u,rfl,e⟩ |⟨y,u,rfl,e⟩
   .injection e with e1 _;rw[e1]
   .exact nomatch e
  .rcases keyIs_shape hb with⟨j,u,rfl,e⟩ |⟨y,u,rfl,e⟩
   .exact nomatch e
   .injection e with e1 _;rw[e1]
 byValue:=λk v h=>by
  rcases keyIs_shape h with⟨i,t,rfl,rfl⟩ |⟨x,t,rfl,rfl⟩<;>rfl
 pyHash:=λhv h=>by
  rcases keyIs_shape hv with⟨i,t,rfl,rfl⟩ |⟨x,t,rfl,rfl⟩
  .exact wpAny_pyHash_int h
  .exact wpAny_pyHash_str h
 eqBool:=λhu hv h=>by
  rcases keyIs_shape hu with⟨i,t,rfl,rfl⟩ |⟨x,t,rfl,rfl⟩
  .rcases keyIs_shape hv with⟨j,u,rfl,rfl⟩ |⟨y,u,rfl,rfl⟩
   .rw[key_ll]at h;exact wpAny_eqBool_int h
   .rw[key_lr]at h;exact SeqAt.EqAt.int_str i t y u _ _ _ _ h
  .rcases keyIs_shape hv with⟨j,u,rfl,rfl⟩ |⟨y,u,rfl,rfl⟩
   .rw[key_rl]at h;exact SeqAt.EqAt.str_int x t j u _ _ _ _ h
   .rw[key_rr]at h;exact wpAny_eqBool_str h
 «strs» :=λk x t v h=>by
  rcases keyIs_shape h with⟨i,u,rfl,e⟩ |⟨y,u,rfl,e⟩
  .exact nomatch e
  .injection e with e1 _
   subst e1
   cases v<;>rfl
end L2
namespace L2
open PySem PySem.Spec PyProof.Rows
inductive V where
 |non |bl (b:Bool) |int (i:Int) |str (x:Str) |byt (b:Array UInt8) |flt (b:UInt64) |ref (a:Addr) |ty (n:String)
 deriving DecidableEq
def RelV:V->Value->Prop
 | .non,u=>u=Value.none
 | .bl b,u=>u=Value.bool b
 | .int i,u=>∃t,u=Value.int i t
 | .str x,u=>∃t,u=Value.str x t
 | .byt b,u=>∃t,u=Value.bytes b t
 | .flt b,u=>∃t,u=Value.float b t
 | .ref a,u=>u=Value.ref a
 | .ty n,u=>u=Value.type n
abbrev Vals:List V->List Value->Prop:=Paired RelV
theorem Vals.length{xs:List V}{us:List Value}(r:Vals xs us):xs.length=us.length:=Paired.length r
theorem Vals.get:∀{xs:List V} {us:List Value} {i:Nat} {x:V},Vals xs us->xs[i]? =some x->∃u,us[i]? =some u/\RelV x u
 |_,_,_,_,.nil,e=>by simp at e
 |_,_,0,_,.cons r _,e=>by simp at e;subst e;exact⟨_,rfl,r⟩
 |_,_,i+1,x,.cons _ t,e=>by
  obtain⟨u,h1,h2⟩:=Vals.get (i:=i) (x:=x) t (by simpa using e)
  exact⟨u,by simpa using h1,h2⟩
theorem Vals.set{x:V}{u:Value}(r:RelV x u):∀{xs:List V} {us:List Value} (i:Nat),Vals xs us->Vals (xs.set i x) (us.set i u)
 |_,_,_,.nil=>.nil
 |_,_,0,.cons _ t=>.cons r t
 |_,_,i+1,.cons q t=>.cons q (Vals.set r i t)
theorem Vals.append:∀{xs ys:List V} {us ws:List Value},Vals xs us->Vals ys ws->Vals (xs++ys) (us++ws)
 |_,_,_,_,.nil,s=>s
 |_,_,_,_,.cons r t,s=>.cons r (Vals.append t s)
theorem Vals.take:∀{xs:List V} {us:List Value} (n:Nat),Vals xs us->Vals (xs.take n) (us.take n)
 |_,_,0,_=>.nil
 |_,_,_+1,.nil=>.nil
 |_,_,n+1,.cons r t=>.cons r (Vals.take n t)
theorem Vals.drop:∀{xs:List V} {us:List Value} (n:Nat),Vals xs us->Vals (xs.drop n) (us.drop n)
 |_,_,0,r=>r
 |_,_,_+1,.nil=>.nil
 |_,_,n+1,.cons _ t=>Vals.drop n t
def RelO:Option V->Option Value->Prop
 |some v,some u=>RelV v u
 |none,none=>True
 |_,_=>False
def KV{κ:Type}:List (κ×V)->List (κ×Value)->Prop:=Paired λ(p:κ×V) (q:κ×Value)=>p.1=q.1/\RelV p.2 q.2
def kV:Key->V
 | .inl i=>.int i
 | .inr x=>.str x
inductive HO where
 |lst (xs:List V)
 |tup (xs:List V)
 |dK (kvs:List (Key×V)) |dT (kvs:List (List Key×V))
 |set (S:Int->Bool) (n:Nat)
 |ins (C dx:Addr) (fs:List (Str×V))
 |own (x:Addr)
 |xd (fs:List (Str×V))
 |met (f x:Addr)
 |rng (lo hi:Int)
 |frz (o:Obj) (u:HO)
 |tbl (ps:Array Value)
 |ext (φ:Heap->Prop)
abbrev Hp:=Addr->Option HO
def upd(H:Hp)(a:Addr)(o:HO):Hp:=λb=>if b=a then some o else H b
theorem upd_same{H:Hp}{a:Addr}{o:HO}:upd H a o a=some o:=by unfold upd;rw[if_pos rfl]
theorem upd_ne{H:Hp}{a b:Addr}{o:HO}(h:b≠a):upd H a o b=H b:=by unfold upd;rw[if_neg h]
theorem ne_of_none{H:Hp}{a b:Addr}{o:HO}(h:H a=some o)(h':H b=none):a≠b:=by
 intro e;subst e;rw[h]at h';cases h'
section
variable(P:Program)(w:World)
def ObjOk(H:Hp)(h:Heap)(a:Addr):HO->Prop
 | .lst xs=>xs.length≤sizeLine/\∃(its:List Value) (n:Nat),Vals xs its/\h.get? a=some {cls:=.type "list",data:=.seq its.toArray n}
 | .tup xs=>xs.length≤sizeLine/\∃its:List Value,Vals xs its/\IsTup h a its.toArray
 | .dK kvs=>kvs.length≤sizeLine/\(a==sysModules)=false/\∃vs,KV kvs vs/\h.DictOf (mixKind P w) a vs
 | .dT kvs=>kvs.length≤sizeLine/\(a==sysModules)=false/\∃xs:List (List Key×Addr×Value),
   Paired (λ(p:List Key×V) (q:List Key×Addr×Value)=>p.1=q.1/\H q.2.1=some (.tup (p.1.map kV))/\RelV p.2 q.2.2) kvs xs/\
   ∃o es ep,h.get? a=some o/\o.ExactDict/\o.data= .dict es ep/\es.toList=xs.map (entryOfKey (tupleKind (mixKind P w)))/\(xs.map (·.1)).Nodup
 | .set S n=>h.SetOf (intKind P w) a S n
 | .ins C dx fs=>H dx=some (.own a)/\fs.length≤1000/\dx≠a/\h.get? a=some (PySem.W.instObj C dx)/\
   ∃mA,h.Ns1 dx mA/\(∀f,RelO (fs.lookup f) (mA f))/\PySem.Within mA (fs.map (·.1))
 | .own _=>∃o,h.get? a=some o
 | .xd fs=>∃mA,h.Ns1 a mA/\∀f,RelO (fs.lookup f) (mA f)
 | .rng lo hi=>∃t u v,h.get? a=some {cls:=.type "range",data:=.fields #[.int lo t,.int hi u,.int 1 v]}
 | .frz o u=>h.get? a=some o/\ObjOk H h a u
 | .tbl ps=>∃qs:Array Value,h.get? a=some {cls:=.none,data:=.fields qs}/\TriplesOk qs.toList/\∀(p:Pos) (cv:Value),codeAmong p qs.toList=some cv->∃c oc u q t vs t',cv= .ref c/\codeAmong p ps.toList=some (.str q t)/\H c=some (.frz oc u)/\oc.data= .fields vs/\vs[1]? =some (.str q t')
 | .met f x=>h.get? a=some (PySem.W.methodObj (.ref f) (.ref x))
 | .ext φ=>φ h/\(∃o,h.get? a=some o)/\∀h1 h2:Heap,φ h1->(∀o,h1.get? a=some o->h2.get? a=some o)->φ h2
def HOk(H:Hp)(h:Heap):Prop:=∀a o,H a=some o->ObjOk P w H h a o
end
section
variable{P:Program}{w:World}{H H':Hp}{h h':Heap}{a:Addr}{o:HO}
theorem ObjOk.lt(x:ObjOk P w H h a o):a<h.objs.size:=by
 cases o with
 |lst xs=>obtain⟨_,_,_,_,e⟩:=x;exact Heap.lt_size e
 |tup xs=>obtain⟨_,_,_,p⟩:=x;exact p.lt
 |dK kvs=>obtain⟨_,_,_,_,o,_,_,e,_⟩:=x;exact Heap.lt_size e
 |dT kvs=>obtain⟨_,_,_,_,o,_,_,e,_⟩:=x;exact Heap.lt_size e
 |set S n=>obtain⟨o,_,_,_,e,_⟩:=x;exact Heap.lt_size e
 |ins C dx fs=>obtain⟨_,_,_,e,_⟩:=x;exact Heap.lt_size e
 |own y=>obtain⟨_,e⟩:=x;exact Heap.lt_size e
 |xd fs=>obtain⟨_,⟨_,_,_,e,_⟩,_⟩:=x;exact Heap.lt_size e
 |rng lo hi=>obtain⟨_,_,_,e⟩:=x;exact Heap.lt_size e
 |frz ob u=>obtain⟨e,_⟩:=x;exact Heap.lt_size e
 |tbl ps=>obtain⟨_,e,_⟩:=x;exact Heap.lt_size e
 |met f y=>exact Heap.lt_size (show h.get? a=some _ from x)
 |ext φ=>obtain⟨_,⟨_,e⟩,_⟩:=x;exact Heap.lt_size e
theorem Paired.mapP{α β:Type}{F G:α->β->Prop}:∀{l₁:List α} {l₂:List β},Paired F l₁ l₂->(∀a b,F a b->G a b)->Paired G l₁ l₂
 |_,_,.nil,_=>.nil
 |_,_,.cons r t,f=>.cons (f _ _ r) (Paired.mapP t f)
theorem ObjOk.stay(x:ObjOk P w H h a o)(k:∀b u,(b=a\/H b=some (.own a))->h.get? b=some u->h'.get? b=some u)
  (ho:∀b,H b=some (.own a)->H' b=some (.own a)) (ht:∀b xs,H b=some (.tup xs)->H' b=some (.tup xs)) (hz:∀b ob u,H b=some (.frz ob u)->H' b=some (.frz ob u):=by exact λ_ _ _ q=>q):ObjOk P w H' h' a o:=by
 induction o with
 |lst xs=>obtain⟨z,its,n,r,e⟩:=x;exact⟨z,its,n,r,k _ _ (.inl rfl) e⟩
 |tup xs=>obtain⟨z,its,r,ob,e,c⟩:=x;exact⟨z,its,r,ob,k _ _ (.inl rfl) e,c⟩
 |dK kvs=>obtain⟨z,y,vs,r,ob,es,ep,e,c⟩:=x;exact⟨z,y,vs,r,ob,es,ep,k _ _ (.inl rfl) e,c⟩
 |dT kvs=>
  obtain⟨z,y,xs,r,ob,es,ep,e,c⟩:=x
  exact⟨z,y,xs,Paired.mapP r λp q z=>⟨z.1,ht _ _ z.2.1,z.2.2⟩,ob,es,ep,k _ _ (.inl rfl) e,c⟩
 |set S n=>obtain⟨ob,es,ep,t,e,c⟩:=x;exact⟨ob,es,ep,t,k _ _ (.inl rfl) e,c⟩
 |ins C dx fs=>
  obtain⟨d,z,ne,e,mA,⟨od,es,ep,e2,c⟩,r⟩:=x
  exact⟨ho _ d,z,ne,k _ _ (.inl rfl) e,mA,⟨od,es,ep,k _ _ (.inr d) e2,c⟩,r⟩
 |own y=>obtain⟨ob,e⟩:=x;exact⟨ob,k _ _ (.inl rfl) e⟩
 |xd fs=>obtain⟨mA,⟨od,es,ep,e,c⟩,r⟩:=x;exact⟨mA,⟨od,es,ep,k _ _ (.inl rfl) e,c⟩,r⟩
 |rng lo hi=>obtain⟨t,u,v,e⟩:=x;exact⟨t,u,v,k _ _ (.inl rfl) e⟩
 |frz ob u ih=>obtain⟨e,q⟩:=x;exact⟨k _ _ (.inl rfl) e,ih q⟩
 |tbl ps=>
  obtain⟨qs,e,tr,z⟩:=x
  refine⟨qs,k _ _ (.inl rfl) e,tr,λp cv hc=>?_⟩
  obtain⟨c,oc,u,q,t,vs,t',e1,e2,e3,e4⟩:=z p cv hc
  exact⟨c,oc,u,q,t,vs,t',e1,e2,hz _ _ _ e3,e4⟩
 |met f y=>
  have e:h.get? a=some (PySem.W.methodObj (.ref f) (.ref y)):=x
  show h'.get? a=some (PySem.W.methodObj (.ref f) (.ref y))
  exact k a _ (.inl rfl) e
 |ext φ=>obtain⟨p,⟨o,e⟩,st⟩:=x;exact⟨st _ _ p λo q=>k _ _ (.inl rfl) q,⟨o,k _ _ (.inl rfl) e⟩,st⟩
theorem HOk.lt(x:HOk P w H h)(e:H a=some o):a<h.objs.size:=(x a o e).lt
theorem HOk.fresh(x:HOk P w H h)(e:h.objs.size≤a):H a=none:=by
 cases q:H a with
 |none=>rfl
 |some u=>exact absurd (Nat.lt_of_lt_of_le (x.lt q) e) (Nat.lt_irrefl _)
theorem HOk.kept(x:HOk P w H h)(k:∀b u,h.get? b=some u->h'.get? b=some u):HOk P w H h':=λa o e=>
 (x a o e).stay (λb u _ q=>k b u q) (λ_ q=>q) λ_ _ q=>q
theorem HOk.laid(x:HOk P w H h)(k:∀b u,h.get? b=some u->h'.get? b=some u)(hp:h.objs.size≤a)(new:ObjOk P w (upd H a o) h' a o):HOk P w (upd H a o) h':=λb u e=>by
 have hn:=x.fresh hp
 by_cases hb:b=a
 .subst hb;rw[upd_same]at e;cases e;exact new
 .rw[upd_ne hb]at e
  exact(x b u e).stay (λc v _ q=>k c v q) (λc q=>by rw[upd_ne (ne_of_none q hn)];exact q) (λc xs q=>by rw[upd_ne (ne_of_none q hn)];exact q) λc ob v q=>by rw[upd_ne (ne_of_none q hn)];exact q
end
def Rd(H:Hp)(a:Addr)(u:HO):Prop:=H a=some u\/∃o,H a=some (.frz o u)
theorem Rd.ok{P:Program}{w:World}{H:Hp}{h:Heap}{a:Addr}{u:HO}(r:Rd H a u)(x:HOk P w H h):ObjOk P w H h a u:=by
 rcases r with r |⟨o,r⟩
 .exact x a u r
 .obtain⟨_,q⟩:=x a _ r
  exact q
def Mut:Option HO->Prop
 |some (.lst _)=>True
 |some (.dK _)=>True
 |some (.dT _)=>True
 |some (.set _ _)=>True
 |some (.ins _ _ _)=>True
 |some (.ext _)=>True
 |_=>False
section
variable{P:Program}{w:World}{H:Hp}{h h':Heap}{x e:Addr}{o':HO}
theorem HOk.write(ok:HOk P w H h)(mu:Mut (H x))(he:e=x\/H e=some (.own x))(k:∀b u,b≠e->h.get? b=some u->h'.get? b=some u)(heo:∃u,h'.get? e=some u)
  (new:ObjOk P w (upd H x o') h' x o'):HOk P w (upd H x o') h':=λb u q=>by
 have nown:∀c y,H c=some (.own y)->c≠x:=λc y r z=>by subst z;rw[r]at mu;exact mu
 have ntup:∀c xs,H c=some (.tup xs)->c≠x:=λc xs r z=>by subst z;rw[r]at mu;exact mu
 by_cases hb:b=x
 .subst hb;rw[upd_same]at q;cases q;exact new
 .rw[upd_ne hb]at q
  by_cases hbe:b=e
  .have q':H b=some (.own x):=by
    rcases he with z |z
    .exact absurd (hbe.trans z) hb
    .rw[hbe];exact z
   rw[q]at q';cases q'
   obtain⟨v,hv⟩:=heo
   exact⟨v,by rw[hbe];exact hv⟩
  .refine(ok b u q).stay (λc v hc r=>k c v ?_ r) (λc r=>by rw[upd_ne (nown c b r)];exact r) (λc xs r=>by rw[upd_ne (ntup c xs r)];exact r) λc ob v r=>by rw[upd_ne (λz=>by subst z;rw[r]at mu;exact mu)];exact r
   rcases hc with rfl |hc
   .exact hbe
   .rintro rfl
    rcases he with z |z
    .exact nown c b hc z
    .rw[hc]at z;cases z;exact hb rfl
end
structure Un(fs ex:List Addr)(H H':Hp)(h h':Heap):Prop where
 keep:∀b o,h.get? b=some o->H b=none->b∉fs->b∉ex->h'.get? b=some o
 slot:∀b o,h.get? b=some o->H b=none->b∈fs->b∉ex->∃sl,h'.get? b=some {o with slots:=sl}
 free:∀b o,h.get? b=some o->H b=none->b∉ex->H' b=none
 there:∀b o,h.get? b=some o->b∉ex->∃o',h'.get? b=some o'
 tups:∀b xs,H b=some (.tup xs)->H' b=some (.tup xs)
 frzs:∀b o u,H b=some (.frz o u)->H' b=some (.frz o u)
 tbls:∀b ps,H b=some (.tbl ps)->∃more,H' b=some (.tbl (ps++more))
section
variable{fs fs' ex ex':List Addr}{H H1 H2:Hp}{h h1 h2 h':Heap}{a x e:Addr}{o:HO}
theorem Un.any(u:Un fs ex H H1 h h1){b:Addr}{ob:Obj}(q:h.get? b=some ob)(n:H b=none)(hx:b∉ex):∃sl,h1.get? b=some {ob with slots:=sl}:=by
 by_cases hb:b∈fs
 .exact u.slot b ob q n hb hx
 .exact⟨ob.slots,u.keep b ob q n hb hx⟩
theorem Un.kept(k:∀b u,h.get? b=some u->h'.get? b=some u):Un fs ex H H h h':=
 ⟨λb ob q _ _ _=>k b ob q,λb ob q _ _ _=>⟨ob.slots,k b ob q⟩,λ_ _ _ n _=>n,λb ob q _=>⟨ob,k b ob q⟩,λ_ _ q=>q,λ_ _ _ q=>q,λ_ ps q=>⟨#[],by rw[q];simp⟩⟩
theorem Un.refl:Un fs ex H H h h:=Un.kept λ_ _ q=>q
theorem Un.laid(k:∀b u,h.get? b=some u->h'.get? b=some u)(hp:h.objs.size≤a)(hn:H a=none):Un fs ex H (upd H a o) h h' where
 keep:=λb u q _ _ _=>k b u q
 slot:=λb u q _ _ _=>⟨u.slots,k b u q⟩
 free:=λb u q n _=>by rw[upd_ne (Nat.ne_of_lt (Nat.lt_of_lt_of_le (Heap.lt_size q) hp))];exact n
 there:=λb u q _=>⟨u,k b u q⟩
 tups:=λb xs q=>by rw[upd_ne (ne_of_none q hn)];exact q
 frzs:=λb u xs q=>by rw[upd_ne (ne_of_none q hn)];exact q
 tbls:=λb ps q=>⟨#[],by rw[upd_ne (ne_of_none q hn),q];simp⟩
theorem Un.write(mu:Mut (H x))(he:e=x\/H e=some (.own x))(k:∀b u,b≠e->h.get? b=some u->h'.get? b=some u)(heo:∃u,h'.get? e=some u):Un fs ex H (upd H x o) h h':=by
 have hx:∀b,H b=none->b≠x:=λb n z=>by subst z;rw[n]at mu;exact mu
 have hb:∀b,H b=none->b≠e:=λb n z=>by
  subst z
  rcases he with r |r
  .exact hx b n r
  .rw[n]at r;cases r
 have hm:∀b u,H b=some u->¬Mut (some u)->b≠x:=λb u q nm z=>by subst z;rw[q]at mu;exact nm mu
 refine⟨λb u q n _ _=>k b u (hb b n) q,λb u q n _ _=>⟨u.slots,k b u (hb b n) q⟩,λb u q n _=>by rw[upd_ne (hx b n)];exact n,λb u q _=>?_,
  λb xs q=>by rw[upd_ne (hm b _ q λz=>z)];exact q,λb u xs q=>by rw[upd_ne (hm b _ q λz=>z)];exact q,λb ps q=>⟨#[],by rw[upd_ne (hm b _ q λz=>z),q];simp⟩⟩
 by_cases hbe:b=e
 .subst hbe;exact heo
 .exact⟨u,k b u hbe q⟩
end
def trk(h:Heap)(H:Hp):List Addr:=(List.range h.objs.size).filter λa=>(H a).isSome
def hidT(h:Heap)(H:Hp):Heap:=PySem.W.hideAll h (trk h H)
theorem hidT_size(h:Heap)(H:Hp):(hidT h H).objs.size=h.objs.size:=PySem.W.hideAll_size _ _
theorem hidT_get{h:Heap}{H:Hp}{b:Addr}{o:Obj}(e:h.get? b=some o)(n:H b=none):(hidT h H).get? b=some o:=
 PySem.W.hideAll_get _ e λhm=>by
  have q:(H b).isSome=true:=(List.mem_filter.mp hm).2
  rw[n]at q;simp at q
theorem of_hidT{h:Heap}{H:Hp}{b:Addr}{o:Obj}(e:(hidT h H).get? b=some o):h.get? b=some o/\H b=none:=by
 have e':h.get? b=some o:=PySem.W.of_hideAll (trk h H) e
 refine⟨e',?_⟩
 cases q:H b with
 |none=>rfl
 |some x=>
  have hm:b∈trk h H:=List.mem_filter.mpr ⟨List.mem_range.mpr (Heap.lt_size e'),by simp[q]⟩
  have z:(hidT h H).get? b=none:=PySem.W.hideAll_none (trk h H) hm
  rw[z]at e;cases e
def allNews(g h:Heap)(L:Addr):List (Addr×Obj):=(List.range h.objs.size).filterMap λa=>if a=L\/(g.get? a).isSome=true then none else(h.get? a).map λo=>(a,o)
def rest(g h:Heap)(L d:Addr):List (Addr×Obj):=(allNews g h L).filter λp=>decide (p.1≠d)
end L2
namespace L2
open PySem PySem.Spec PyProof.Rows
structure Mod(K:PySem.W.Frag)(mg:Str->Option Value)(base:Heap):Prop where
 kin:K.In base
 glob:base.Ns mainGlobals mg
 blt:∃mb,base.Ns builtinsNs mb/\∀x:Str,x≠"__name__"->mb x=bootBuiltins x
 nolimit:base.NoLimit
structure Cx where
 prog:Program
 w:World
 K:PySem.W.Frag
 mg:Str->Option Value
 base:Heap
 A:Around
 N:List Str
 s₀:Shared
 H₀:Hp
 env:Env
 outer:List Env
 stack:List Env
 ex:List Addr
 fn:Str->Bool
 calm:Bool
 pn:List (Addr×Obj)
 xe:Value->Shared->Prop
def frs(l:List Env):List Addr:=l.filterMap (·.frame)
abbrev Cx.fs(X:Cx):List Addr:=frs X.outer
def Vis(sc:Scope)(x:Str):Prop:=sc.names.lookup x=some .local\/sc.names.lookup x=some .cell\/sc.names.lookup x=some .free
def Loc(sc:Scope)(x:Str):Prop:=sc.names.lookup x=some .local\/sc.names.lookup x=some .cell
def Look(env:Env)(h:Heap)(m:Str->Option Value)(x:Str)(u:Value):Prop:=
 (env.kindOf x=some .local/\m x=some u)\/((env.kindOf x=some .cell\/env.kindOf x=some .free)/\∃c,env.cells.lookup x=some c/\h.IsCell c (some u))
structure Cx.Ok(X:Cx):Prop where
 mod:Mod X.K X.mg X.base
 kind:X.env.scope.kind= .function
 glob:X.env.globals=mainGlobals
 blt:X.env.builtins=builtinsNs
 above:X.s₀.heap.objs.size≤X.env.locals
 inj:∀x y c,X.env.cells.lookup x=some c->X.env.cells.lookup y=some c->x=y
 has:∀x,(X.env.kindOf x=some .cell\/X.env.kindOf x=some .free)->∃c,X.env.cells.lookup x=some c
 cab:∀x c,X.fn x=true->X.env.cells.lookup x=some c->X.s₀.heap.objs.size≤c
 hd:X.calm=true->X.A.handled=none
 frames:X.A.frames=some X.stack
 stk:X.stack=X.outer\/(X.stack=X.env::X.outer/\X.env.frame=some X.env.locals)
 exf:∀b∈X.ex,b≠X.env.locals/\∀x c,X.env.cells.lookup x=some c->c≠b
 bs:∀b o,X.base.get? b=some o->X.s₀.heap.get? b=some o/\X.H₀ b=none
 bsz:X.base.objs.size≤X.s₀.heap.objs.size
 noex:∀b o,X.base.get? b=some o->b∉X.ex
 exfs:∀b∈X.ex,b∉X.fs
 funs:X.s₀.heap.FunFrames X.base X.outer
 frf:∀b∈X.fs,X.H₀ b=none
structure Inv(X:Cx)(pins:List (Addr×Obj))(σ:List (Option V))(H:Hp)(s:Shared):Prop where
 ok:X.Ok
 os:s.os=X.s₀.os
 bare:AllBare s.gens
 base:Un X.fs X.ex X.H₀ H X.s₀.heap s.heap
 loc:∃m,s.heap.Ns X.env.locals m/\∀(i:Nat) (x:Str) (v:V),X.N[i]? =some x->σ[i]? =some (some v)->Vis X.env.scope x->∃u,RelV v u/\Look X.env s.heap m x u
 cell:∀x c,X.env.cells.lookup x=some c->∃v,s.heap.IsCell c v
 free:H X.env.locals=none
 freeC:∀x c,X.env.cells.lookup x=some c->H c=none
 pin:∀p∈X.pn++pins,s.heap.get? p.1=some p.2/\H p.1=none/\p.1≠X.env.locals/\p.1∉X.fs/\∀v,p.2.data≠ .cell v
 hok:HOk X.prog X.w H s.heap
 len:σ.length=X.N.length
section
variable{X:Cx}{pins:List (Addr×Obj)}{σ:List (Option V)}{H H':Hp}{s:Shared}{h':Heap}
theorem Cx.Ok.nofr(ok:X.Ok){b:Addr}{o:Obj}(e:X.base.get? b=some o):b∉X.fs:=λhb=>by
 have :=(ok.funs.mem hb).1
 rw[e]at this;cases this
theorem Inv.bs(I:Inv X pins σ H s):∀b o,X.base.get? b=some o->s.heap.get? b=some o/\H b=none:=λb o e=>
 ⟨I.base.keep b o (I.ok.bs b o e).1 (I.ok.bs b o e).2 (I.ok.nofr e) (I.ok.noex b o e),I.base.free b o (I.ok.bs b o e).1 (I.ok.bs b o e).2 (I.ok.noex b o e)⟩
theorem Inv.bk(I:Inv X pins σ H s):∀b o,X.base.get? b=some o->s.heap.get? b=some o:=λb o e=>(I.bs b o e).1
theorem Inv.mod(I:Inv X pins σ H s):Mod X.K X.mg X.base:=I.ok.mod
theorem Inv.kIn(I:Inv X pins σ H s):X.K.In s.heap:=I.ok.mod.kin.keeps I.bk
theorem Inv.lt(I:Inv X pins σ H s):X.env.locals<s.heap.objs.size:=let⟨_,hn,_⟩:=I.loc;hn.lt
theorem Inv.sz(I:Inv X pins σ H s):X.s₀.heap.objs.size≤s.heap.objs.size:=Nat.le_trans I.ok.above (Nat.le_of_lt I.lt)
theorem Inv.nofs(I:Inv X pins σ H s){a:Addr}(h:s.heap.objs.size≤a):a∉X.fs:=λhb=>by
 obtain⟨_,o,ho,_⟩:=I.ok.funs.mem hb
 exact absurd (Nat.lt_of_lt_of_le (Heap.lt_size ho) (Nat.le_trans I.sz h)) (Nat.lt_irrefl _)
theorem Inv.cne(I:Inv X pins σ H s):∀x c,X.env.cells.lookup x=some c->c≠X.env.locals:=λx c e z=>by
 obtain⟨v,o,ho,hd⟩:=I.cell x c e
 obtain⟨m,⟨o',es,ep,ho',hd',_⟩,_⟩:=I.loc
 rw[z,ho']at ho;cases ho;rw[hd']at hd;cases hd
theorem Inv.funs(I:Inv X pins σ H s):s.heap.FunFrames X.base X.outer:=by
 have all:∀(l:List Env),(∀b∈frs l,b∈X.fs)->X.s₀.heap.FunFrames X.base l->s.heap.FunFrames X.base l:=by
  intro l
  induction l with
  |nil=>intro _ _;trivial
  |cons env r ih=>
   intro hs hl
   obtain⟨hk,⟨L,o,hf,hn,ho,hd⟩,hr⟩:=hl
   have hL:L∈X.fs:=hs L (by unfold frs;rw[List.filterMap_cons,hf];exact List.mem_cons_self)
   obtain⟨sl,e⟩:=I.base.slot L o ho (I.ok.frf L hL) hL λz=>I.ok.exfs L z hL
   exact⟨hk,⟨L,_,hf,hn,e,hd⟩,ih (λb hb=>hs b (by unfold frs;rw[List.filterMap_cons,hf];exact List.mem_cons_of_mem _ hb)) hr⟩
 exact all X.outer (λ_ hb=>hb) I.ok.funs
theorem Inv.stack(I:Inv X pins σ H s):s.heap.FunFrames X.base X.stack:=by
 rcases I.ok.stk with e |⟨e,hf⟩
 .rw[e];exact I.funs
 .rw[e]
  obtain⟨m,hn,_⟩:=I.loc
  refine .cons (by rw[I.ok.kind];decide) hf hn ?_ I.funs
  exact Heap.get?_none_of_le (Nat.le_trans I.ok.bsz I.ok.above)
theorem Inv.stkSub(I:Inv X pins σ H s):∀b∈frs X.stack,b∈X.env.locals::X.fs:=λb hb=>by
 rcases I.ok.stk with e |⟨e,hf⟩
 .rw[e]at hb;exact List.mem_cons_of_mem _ hb
 .rw[e]at hb
  unfold frs at hb
  rw[List.filterMap_cons,hf]at hb
  exact hb
theorem Inv.stkFree(I:Inv X pins σ H s):∀b∈frs X.stack,H b=none:=λb hb=>by
 rcases List.mem_cons.mp (I.stkSub b hb)with e |hb
 .rw[e];exact I.free
 .obtain⟨_,o,ho,_⟩:=I.ok.funs.mem hb
  exact I.base.free b o ho (I.ok.frf b hb) λz=>I.ok.exfs b z hb
theorem Inv.step{g':Array GenState}{t':Nat}{d':Drawn}{ch:List Addr}(I:Inv X pins σ H s)
  (hch:∀b∈ch,(b∈X.ex\/X.s₀.heap.get? b=none)/\b≠X.env.locals/\(∀x c,X.env.cells.lookup x=some c->c≠b)/\∀p∈X.pn++pins,p.1≠b)
  (keep:∀b o,b≠X.env.locals->b∉X.fs->b∉ch->s.heap.get? b=some o->H b=none->h'.get? b=some o)
  (slot:∀b o,b≠X.env.locals->b∈X.fs->b∉ch->s.heap.get? b=some o->H b=none->∃sl,h'.get? b=some {o with slots:=sl}) (free:∀b o,b∉ch->s.heap.get? b=some o->H b=none->H' b=none)
  (there:∀b o,b∉ch->s.heap.get? b=some o->∃o',h'.get? b=some o')
  (tups:∀b xs,H b=some (.tup xs)->H' b=some (.tup xs)) (frzs:∀b o u,H b=some (.frz o u)->H' b=some (.frz o u)) (tbls:∀b ps,H b=some (.tbl ps)->∃more,H' b=some (.tbl (ps++more)))
  (ns:∀m,s.heap.Ns X.env.locals m->h'.Ns X.env.locals m) (hok:HOk X.prog X.w H' h') (hg:AllBare g'):
  Inv X pins σ H' {s with heap:=h',gens:=g',drawn:=d',toks:=t'}:=by
 have neL:∀b o,X.s₀.heap.get? b=some o->b≠X.env.locals:=λb o e=>Nat.ne_of_lt (Nat.lt_of_lt_of_le (Heap.lt_size e) I.ok.above)
 have neC:∀b o,X.s₀.heap.get? b=some o->b∉X.ex->b∉ch:=λb o e hx hb=>by
  rcases(hch b hb).1 with z |z
  .exact hx z
  .rw[e]at z;cases z
 have cellK:∀x c,X.env.cells.lookup x=some c->∀v,s.heap.IsCell c v->h'.IsCell c v:=λx c e v ⟨o,ho,hd⟩=>by
  have nch:c∉ch:=λz=>(hch c z).2.2.1 x c e rfl
  by_cases hc:c∈X.fs
  .obtain⟨sl,q⟩:=slot c o (I.cne x c e) hc nch ho (I.freeC x c e)
   exact⟨_,q,hd⟩
  .exact⟨o,keep c o (I.cne x c e) hc nch ho (I.freeC x c e),hd⟩
 refine⟨I.ok,I.os,hg,⟨λb o e n hb hx=>?_,λb o e n hb hx=>?_,λb o e n hx=>?_,λb o e hx=>?_,λb xs e=>tups b xs (I.base.tups b xs e),λb o xs e=>frzs b o xs (I.base.frzs b o xs e),λb ps e=>?_⟩,?_,λx c e=>?_,?_,λx c e=>?_,λp hp=>?_,hok,I.len⟩
 .exact keep b o (neL b o e) hb (neC b o e hx) (I.base.keep b o e n hb hx) (I.base.free b o e n hx)
 .obtain⟨sl,e1⟩:=I.base.slot b o e n hb hx
  obtain⟨sl',e2⟩:=slot b _ (neL b o e) hb (neC b o e hx) e1 (I.base.free b o e n hx)
  exact⟨sl',e2⟩
 .obtain⟨o',e1⟩:=I.base.there b o e hx
  exact free b o' (neC b o e hx) e1 (I.base.free b o e n hx)
 .obtain⟨o',e1⟩:=I.base.there b o e hx
  exact there b o' (neC b o e hx) e1
 .obtain⟨m1,e1⟩:=I.base.tbls b ps e
  obtain⟨m2,e2⟩:=tbls b _ e1
  exact⟨m1++m2,by rw[e2,Array.append_assoc]⟩
 .obtain⟨m,hn,hl⟩:=I.loc
  refine⟨m,ns m hn,λi x v e1 e2 e3=>?_⟩
  obtain⟨u,r,l⟩:=hl i x v e1 e2 e3
  refine⟨u,r,?_⟩
  rcases l with l |⟨k,c,e,z⟩
  .exact .inl l
  .exact .inr ⟨k,c,e,cellK x c e _ z⟩
 .obtain⟨v,z⟩:=I.cell x c e
  exact⟨v,cellK x c e v z⟩
 .obtain⟨m,⟨o,_,_,ho,_⟩,_⟩:=I.loc
  exact free _ o (λz=>(hch _ z).2.1 rfl) ho I.free
 .obtain⟨v,o,ho,hd⟩:=I.cell x c e
  exact free c o (λz=>(hch c z).2.2.1 x c e rfl) ho (I.freeC x c e)
 .obtain⟨e,n,ne,nf,d⟩:=I.pin p hp
  have nch:p.1∉ch:=λz=>(hch p.1 z).2.2.2 p hp rfl
  exact⟨keep p.1 p.2 ne nf nch e n,free p.1 p.2 nch e n,ne,nf,d⟩
theorem Inv.un{t':Nat}(I:Inv X pins σ H s)(u:Un X.fs [] H H' s.heap h')(hok:HOk X.prog X.w H' h'):Inv X pins σ H' {s with heap:=h',toks:=t'}:=by
 obtain⟨m,⟨o,es,ep,ho,r⟩,_⟩:=id I.loc
 obtain⟨sl,hL⟩:=u.any ho I.free (by simp)
 exact I.step (g':=s.gens) (d':=s.drawn) (ch:=[]) (λ_ z=>nomatch z) (λb o _ hb _ e n=>u.keep b o e n hb (by simp)) (λb o _ hb _ e n=>u.slot b o e n hb (by simp)) (λb o _ e n=>u.free b o e n (by simp)) (λb o _ e=>u.there b o e (by simp)) u.tups u.frzs u.tbls (λm' hm=>by
  obtain⟨o',es',ep',ho',r'⟩:=hm
  rw[ho]at ho';cases ho'
  exact⟨_,es',ep',hL,r'⟩) hok I.bare
theorem Inv.call{g':Array GenState}{t':Nat}{d':Drawn}{ch:List Addr}(I:Inv X pins σ H s)(u:Un (frs X.stack) ch H H' s.heap h')(hok:HOk X.prog X.w H' h')(hg:AllBare g')
  (hch:∀b∈ch,(b∈X.ex\/X.s₀.heap.get? b=none)/\b≠X.env.locals/\(∀x c,X.env.cells.lookup x=some c->c≠b)/\∀p∈X.pn++pins,p.1≠b):
  Inv X pins σ H' {s with heap:=h',gens:=g',drawn:=d',toks:=t'}:=by
 obtain⟨m,⟨o,es,ep,ho,r⟩,_⟩:=id I.loc
 obtain⟨sl,hL⟩:=u.any ho I.free λz=>(hch _ z).2.1 rfl
 exact I.step (ch:=ch) hch (λb o hL hb hc e n=>u.keep b o e n (λz=>(List.mem_cons.mp (I.stkSub b z)).elim hL hb) hc) (λb o _ _ hc e n=>u.any e n hc) (λb o hc e n=>u.free b o e n hc) (λb o hc e=>u.there b o e hc) u.tups u.frzs u.tbls (λm' hm=>by
  obtain⟨o',es',ep',ho',r'⟩:=hm
  rw[ho]at ho';cases ho'
  exact⟨_,es',ep',hL,r'⟩) hok hg
theorem Inv.turned{t':Nat}{it:Addr}(I:Inv X pins σ H s)(k:∀b o,b≠it->s.heap.get? b=some o->h'.get? b=some o)(hn:H it=none)(hL:it≠X.env.locals)
  (h1:it∈X.ex\/X.s₀.heap.get? it=none) (h2:∀x c,X.env.cells.lookup x=some c->c≠it) (h3:∀p∈X.pn++pins,p.1≠it):Inv X pins σ H {s with heap:=h',toks:=t'}:=by
 have nit:∀b u,H b=some u->b≠it:=λb u e z=>by rw[z,hn]at e;cases e
 refine I.step (g':=s.gens) (d':=s.drawn) (ch:=[it]) (λb hb=>?_) (λb o _ _ hc e _=>k b o (λz=>hc (by simp[z])) e) (λb o _ _ hc e _=>⟨o.slots,k b o (λz=>hc (by simp[z])) e⟩) (λ_ _ _ _ n=>n)
  (λb o hc e=>⟨o,k b o (λz=>hc (by simp[z])) e⟩) (λ_ _ e=>e) (λ_ _ _ e=>e) (λb ps e=>⟨#[],by rw[e];simp⟩) (λm hm=>?_) (λb u e=>?_) I.bare
 .have e:b=it:=by simpa using hb
  subst e
  exact⟨h1,hL,h2,h3⟩
 .obtain⟨o,es,ep,ho,r⟩:=hm
  exact⟨o,es,ep,k _ o (Ne.symm hL) ho,r⟩
 .refine(I.hok b u e).stay (λc v hc q=>k c v ?_ q) (λ_ q=>q) λ_ _ q=>q
  rcases hc with z |z
  .rw[z];exact nit b u e
  .exact nit c _ z
theorem Inv.tok(I:Inv X pins σ H s)(t:Nat):Inv X pins σ H {s with toks:=t}:=I.un (h':=s.heap) (t':=t) Un.refl I.hok
theorem Inv.kept{t':Nat}(I:Inv X pins σ H s)(k:∀b u,s.heap.get? b=some u->h'.get? b=some u):Inv X pins σ H {s with heap:=h',toks:=t'}:=I.un (Un.kept k) (I.hok.kept k)
theorem Inv.laid{a:Addr}{o:HO}{t':Nat}(I:Inv X pins σ H s)(k:∀b u,s.heap.get? b=some u->h'.get? b=some u)(hp:s.heap.objs.size≤a)(new:ObjOk X.prog X.w (upd H a o) h' a o):
  Inv X pins σ (upd H a o) {s with heap:=h',toks:=t'}:=I.un (Un.laid k hp (I.hok.fresh hp)) (I.hok.laid k hp new)
theorem Inv.write{x e:Addr}{o:HO}{t':Nat}(I:Inv X pins σ H s)(mu:Mut (H x))(he:e=x\/H e=some (.own x))(k:∀b u,b≠e->s.heap.get? b=some u->h'.get? b=some u)(heo:∃u,h'.get? e=some u)
  (new:ObjOk X.prog X.w (upd H x o) h' x o):Inv X pins σ (upd H x o) {s with heap:=h',toks:=t'}:=I.un (Un.write mu he k heo) (I.hok.write mu he k heo new)
theorem Inv.weak{σ':List (Option V)}(I:Inv X pins σ H s)(hl:σ'.length=σ.length)(w:∀(i:Nat) v,σ'[i]? =some (some v)->σ[i]? =some (some v)):Inv X pins σ' H s:=
 ⟨I.ok,I.os,I.bare,I.base,let⟨m,hn,hl'⟩:=I.loc;⟨m,hn,λi x v e1 e2 e3=>hl' i x v e1 (w i v e2) e3⟩,I.cell,I.free,I.freeC,I.pin,I.hok,hl.trans I.len⟩
theorem Inv.pins_of{pins':List (Addr×Obj)}(I:Inv X pins σ H s)(h:∀p∈pins',s.heap.get? p.1=some p.2/\H p.1=none/\p.1≠X.env.locals/\p.1∉X.fs/\∀v,p.2.data≠ .cell v):Inv X pins' σ H s:=
 ⟨I.ok,I.os,I.bare,I.base,I.loc,I.cell,I.free,I.freeC,λp hp=>(List.mem_append.mp hp).elim (λz=>I.pin p (List.mem_append_left _ z)) (h p),I.hok,I.len⟩
theorem nodup_ix{N:List Str}(hN:N.Nodup){i j:Nat}{x:Str}(a:N[i]? =some x)(b:N[j]? =some x):i=j:=by
 obtain⟨h1,e1⟩:=List.getElem?_eq_some_iff.mp a
 obtain⟨h2,e2⟩:=List.getElem?_eq_some_iff.mp b
 exact(List.getElem_inj hN).mp (e1.trans e2.symm)
theorem store_ok2{M:Model}{A:Around}{E:Value->Shared->Prop}{i:Nat}{x:Str}{v:V}{u:Value}{Q:Unit->Shared->Prop}(I:Inv X pins σ H s)(hN:X.N.Nodup)(hi:X.N[i]? =some x)(hx:Loc X.env.scope x)(r:RelV v u)
  (h:∀s',Inv X pins (σ.set i (some v)) H s'->(∃a,Heap.SameBut a s.heap s'.heap/\(a=X.env.locals\/X.env.cells.lookup x=some a))->Q () s') (hf:X.fn x=true\/X.env.scope.names.lookup x=some .local:=by first |exact .inl rfl |exact .inr rfl |assumption):wpAny M A (storeName X.env x u) Q E s:=by
 obtain⟨m,hn,hl⟩:=id I.loc
 have hcls:(X.env.scope.kind== .class||(X.env.scope.kind== .module&&X.env.locals !=X.env.globals))=false:=by rw[I.ok.kind];rfl
 have hiσ:i<σ.length:=by rw[I.len];exact(List.getElem?_eq_some_iff.mp hi).1
 have cne:=I.cne
 have tracked:∀{a:Addr} {h':Heap},(∃o,s.heap.get? a=some o/\H a=none)->Heap.SameBut a s.heap h'->HOk X.prog X.w H h':=λ{a h'} ha hs b ob e=>by
  obtain⟨_,_,hfree⟩:=ha
  refine(I.hok b ob e).stay (λc w' hc q=>(hs.2 c ?_).trans q) (λ_ q=>q) λ_ _ q=>q
  rintro rfl
  rcases hc with rfl |hc
  .rw[hfree]at e;cases e
  .rw[hfree]at hc;cases hc
 rcases hx with hk |hk
 .refine wpAny_storeName_local hk hn (λh' hn' hs=>?_) hcls
  obtain⟨oL,_,_,hoL,_⟩:=id hn
  refine h _ ⟨I.ok,I.os,I.bare,⟨λb o e n hb hx=>?_,λb o e n hb hx=>?_,I.base.free,λb o e hx=>?_,I.base.tups,I.base.frzs,I.base.tbls⟩,⟨_,hn',λj y v' e1 e2 e3=>?_⟩,λy c e=>?_,I.free,I.freeC,λp hp=>?_,tracked ⟨oL,hoL,I.free⟩ hs,by simpa using I.len⟩ ⟨_,hs,.inl rfl⟩
  .exact(hs.2 b (Nat.ne_of_lt (Nat.lt_of_lt_of_le (Heap.lt_size e) I.ok.above))).trans (I.base.keep b o e n hb hx)
  .obtain⟨sl,e1⟩:=I.base.slot b o e n hb hx
   exact⟨sl,(hs.2 b (Nat.ne_of_lt (Nat.lt_of_lt_of_le (Heap.lt_size e) I.ok.above))).trans e1⟩
  .obtain⟨o',e1⟩:=I.base.there b o e hx
   exact⟨o',(hs.2 b (Nat.ne_of_lt (Nat.lt_of_lt_of_le (Heap.lt_size e) I.ok.above))).trans e1⟩
  .by_cases hj:j=i
   .subst hj
    rw[hi]at e1;cases e1
    rw[List.getElem?_set_self hiσ]at e2
    cases e2
    exact⟨u,r,.inl ⟨hk,by simp⟩⟩
   .rw[List.getElem?_set_ne (Ne.symm hj)]at e2
    obtain⟨u',r',q⟩:=hl j y v' e1 e2 e3
    refine⟨u',r',?_⟩
    rcases q with⟨k,e⟩ |⟨k,c,e,z⟩
    .refine .inl ⟨k,?_⟩
     have :y≠x:=λe=>hj (nodup_ix hN e1 (e▸hi))
     simp[this,e]
    .exact .inr ⟨k,c,e,z.sameBut hs (cne y c e)⟩
  .obtain⟨w',z⟩:=I.cell y c e
   exact⟨w',z.sameBut hs (cne y c e)⟩
  .obtain⟨e,n,ne,nf,d⟩:=I.pin p hp
   exact⟨(hs.2 p.1 ne).trans e,n,ne,nf,d⟩
 .have hfn:X.fn x=true:=by
   rcases hf with z |z
   .exact z
   .rw[z]at hk;cases hk
  obtain⟨c,hc⟩:=I.ok.has x (.inl hk)
  obtain⟨w',z⟩:=I.cell x c hc
  refine wpAny_storeName_cell I.ok.kind hk hc z (λh' hc' hs=>?_)
  obtain⟨oc,hoc,hocd⟩:=id z
  refine h {s with heap:=h'} ⟨I.ok,I.os,I.bare,⟨λb o e n hb hx=>?_,λb o e n hb hx=>?_,I.base.free,λb o e hx=>?_,I.base.tups,I.base.frzs,I.base.tbls⟩,⟨m,hn.sameBut hs (Ne.symm (cne x c hc)),λj y v' e1 e2 e3=>?_⟩,λy c' e=>?_,I.free,I.freeC,λp hp=>?_,tracked ⟨oc,hoc,I.freeC x c hc⟩ hs,by simpa using I.len⟩ ⟨c,hs,.inr hc⟩
  .exact(hs.2 b (Nat.ne_of_lt (Nat.lt_of_lt_of_le (Heap.lt_size e) (I.ok.cab x c hfn hc)))).trans (I.base.keep b o e n hb hx)
  .obtain⟨sl,e1⟩:=I.base.slot b o e n hb hx
   exact⟨sl,(hs.2 b (Nat.ne_of_lt (Nat.lt_of_lt_of_le (Heap.lt_size e) (I.ok.cab x c hfn hc)))).trans e1⟩
  .obtain⟨o',e1⟩:=I.base.there b o e hx
   exact⟨o',(hs.2 b (Nat.ne_of_lt (Nat.lt_of_lt_of_le (Heap.lt_size e) (I.ok.cab x c hfn hc)))).trans e1⟩
  .by_cases hj:j=i
   .subst hj
    rw[hi]at e1;cases e1
    rw[List.getElem?_set_self hiσ]at e2
    cases e2
    exact⟨u,r,.inr ⟨.inl hk,c,hc,hc'⟩⟩
   .rw[List.getElem?_set_ne (Ne.symm hj)]at e2
    obtain⟨u',r',q⟩:=hl j y v' e1 e2 e3
    refine⟨u',r',?_⟩
    rcases q with q |⟨k,c',e,z'⟩
    .exact .inl q
    .refine .inr ⟨k,c',e,z'.sameBut hs ?_⟩
     rintro rfl
     exact hj (nodup_ix hN e1 (I.ok.inj _ _ _ e hc▸hi))
  .by_cases hcc:c'=c
   .subst hcc;exact⟨_,hc'⟩
   .obtain⟨w2,z2⟩:=I.cell y c' e
    exact⟨w2,z2.sameBut hs hcc⟩
  .obtain⟨e,n,ne,nf,d⟩:=I.pin p hp
   refine⟨(hs.2 p.1 ?_).trans e,n,ne,nf,d⟩
   intro q
   rw[q,hoc]at e
   have q':oc=p.2:=Option.some.inj e
   exact d w' (by rw[<-q'];exact hocd)
theorem store_ok{M:Model}{A:Around}{E:Value->Shared->Prop}{i:Nat}{x:Str}{v:V}{u:Value}{Q:Unit->Shared->Prop}(I:Inv X pins σ H s)(hN:X.N.Nodup)(hi:X.N[i]? =some x)(hx:Loc X.env.scope x)(r:RelV v u)
  (h:∀s',Inv X pins (σ.set i (some v)) H s'->Q () s') (hf:X.fn x=true\/X.env.scope.names.lookup x=some .local:=by first |exact .inl rfl |exact .inr rfl |assumption):wpAny M A (storeName X.env x u) Q E s:=
 store_ok2 I hN hi hx r (λs' I' _=>h s' I') hf
theorem Inv.call'{s':Shared}{ch:List Addr}(I:Inv X pins σ H s)(ho:s'.os=s.os)(u:Un (frs X.stack) ch H H' s.heap s'.heap)(hok:HOk X.prog X.w H' s'.heap)(hg:AllBare s'.gens)
  (hch:∀b∈ch,(b∈X.ex\/X.s₀.heap.get? b=none)/\b≠X.env.locals/\(∀x c,X.env.cells.lookup x=some c->c≠b)/\∀p∈X.pn++pins,p.1≠b):Inv X pins σ H' s':=by
 obtain⟨h',g',d',t',o'⟩:=s'
 have e:o'=s.os:=ho
 subst e
 exact I.call (g':=g') (t':=t') (d':=d') u hok hg hch
end
abbrev XK:=Value->Option Addr×Bool->Hp->Prop
abbrev St:=List (Option V)
abbrev VK:=V->Hp->Prop
abbrev TE:=St->Hp->VK->Prop
abbrev TT:=St->Hp->(Bool->Hp->Prop)->Prop
abbrev TA:=St->Hp->(List V->Hp->Prop)->Prop
structure Ends where
 nx:St->Hp->Prop
 rt:VK
 bk:St->Hp->Prop:=λ_ _=>False
 ct:St->Hp->Prop:=λ_ _=>False
abbrev TS:=Ends->St->Hp->Prop
def EP(X:Cx)(pins:List (Addr×Obj))(σ:St)(Q:VK)(u:Value)(s':Shared):Prop:=∃v H',Inv X pins σ H' s'/\RelV v u/\Q v H'
def TP(X:Cx)(pins:List (Addr×Obj))(σ:St)(Q:Bool->Hp->Prop)(b:Bool)(s':Shared):Prop:=∃H',Inv X pins σ H' s'/\Q b H'
def AP(X:Cx)(pins:List (Addr×Obj))(σ:St)(Q:List V->Hp->Prop)(us:List Value)(s':Shared):Prop:=∃vs H',Inv X pins σ H' s'/\Vals vs us/\Q vs H'
def SP(X:Cx)(pins:List (Addr×Obj))(D:Ends)(f:Flow)(s':Shared):Prop:=
 match f with
 | .next=>∃σ' H',Inv X pins σ' H' s'/\D.nx σ' H'
 | .brk=>∃σ' H',Inv X pins σ' H' s'/\D.bk σ' H'
 | .cont=>∃σ' H',Inv X pins σ' H' s'/\D.ct σ' H'
 | .ret u=>∃v σ' H',Inv X pins σ' H' s'/\RelV v u/\D.rt v H'
def PE(X:Cx)(e:Expr)(t:TE):Prop:=
 ∀(pins:List (Addr×Obj)) (s:Shared) (σ:St) (H:Hp) (Q:VK),Inv X pins σ H s->t σ H Q->wpAny (model X.prog X.w) X.A (eval e X.env) (EP X pins σ Q) X.xe s
def PT(X:Cx)(e:Expr)(t:TT):Prop:=
 ∀(pins:List (Addr×Obj)) (s:Shared) (σ:St) (H:Hp) (Q:Bool->Hp->Prop),Inv X pins σ H s->t σ H Q->wpAny (model X.prog X.w) X.A (isTrue e X.env (eval e X.env)) (TP X pins σ Q) X.xe s
def PW(X:Cx)(e:Expr)(t:TT):Prop:=
 ∀(whole:Sem Value) (pins:List (Addr×Obj)) (s:Shared) (σ:St) (H:Hp) (Q:Bool->Hp->Prop),Inv X pins σ H s->t σ H Q->wpAny (model X.prog X.w) X.A (isTrue e X.env whole) (TP X pins σ Q) X.xe s
theorem PW.pt{X:Cx}{e:Expr}{t:TT}(h:PW X e t):PT X e t:=h _
def PA(X:Cx)(es:List Expr)(t:TA):Prop:=
 ∀(pos:Pos) (pins:List (Addr×Obj)) (s:Shared) (σ:St) (H:Hp) (Q:List V->Hp->Prop),Inv X pins σ H s->t σ H Q->wpAny (model X.prog X.w) X.A (spliced (backTo pos (starEach es X.env))) (AP X pins σ Q) X.xe s
def PS(X:Cx)(st:Stmt)(t:TS):Prop:=
 ∀(pins:List (Addr×Obj)) (s:Shared) (σ:St) (H:Hp) (D:Ends),Inv X pins σ H s->t D σ H->wpAny (model X.prog X.w) X.A (exec st X.env) (SP X pins D) X.xe s
def PSs(X:Cx)(st:List Stmt)(t:TS):Prop:=
 ∀(pins:List (Addr×Obj)) (s:Shared) (σ:St) (H:Hp) (D:Ends),Inv X pins σ H s->t D σ H->wpAny (model X.prog X.w) X.A (execs st X.env) (SP X pins D) X.xe s
theorem thn{α:Type}{t:Sem α}{Q Q':α->Shared->Prop}{M:Model}{A:Around}{E:Value->Shared->Prop}{s:Shared}(h:wpAny M A t Q E s)(hQ:∀a s,Q a s->Q' a s):wpAny M A t Q' E s:=wpAny_mono h hQ λ_ _ x=>x
end L2
namespace L2
open PySem PySem.Spec PyProof.Rows
section
variable{X:Cx}
def tVar(i:Nat):TE:=λσ H Q=>∃v,σ[i]? =some (some v)/\Q v H
def tC(v:V):TE:=λ_ H Q=>Q v H
theorem pe_var{i:Nat}{x:Str}{pos:Pos}(hN:X.N[i]? =some x)(hv:Vis X.env.scope x)(hd:(x==("__debug__":Str))=false:=by decide)(hcd:(x==("__classdict__":Str))=false:=by decide):PE X (.Name x pos) (tVar i):=by
 intro pins s σ H Q I h
 obtain⟨v,e,h⟩:=h
 obtain⟨m,hn,hl⟩:=I.loc
 obtain⟨u,r,l⟩:=hl i x v hN e hv
 have fin:EP X pins σ Q u s:=⟨v,H,I,r,h⟩
 rcases l with⟨hk,hm⟩ |⟨hk,c,hc,hcell⟩
 .exact wpAny_Name (wpAny_loadName_local I.ok.kind hk hn hm fin) hd
 .rcases hk with hk |hk
  .exact wpAny_Name (wpAny_loadName_cell I.ok.kind hk hc hcell fin) hd
  .exact wpAny_Name (wpAny_loadName_free I.ok.kind hk hc hcell fin hcd) hd
theorem pe_int{i j pos}:PE X (.Constant (.int i) j pos) (tC (.int i)):=λ_ _ _ H _ I h=>wpAny_Constant_int ⟨.int i,H,I.tok _,⟨_,rfl⟩,h⟩
theorem pe_non{j pos}:PE X (.Constant .none j pos) (tC .non):=λ_ _ _ H _ I h=>Constant_none ⟨.non,H,I,rfl,h⟩
theorem pe_str{x j pos}:PE X (.Constant (.str x) j pos) (tC (.str x)):=λ_ _ _ H _ I h=>Calls.Constant_str ⟨.str x,H,I.tok _,⟨_,rfl⟩,h⟩
def Gl(X:Cx)(x:Str):Prop:=X.env.kindOf x=some .globalImplicit
theorem ld_glob{E:Value->Shared->Prop}{pins:List (Addr×Obj)}{s:Shared}{σ:St}{H:Hp}{x:Str}{u:Value}{pos:Pos}{Q:Value->Shared->Prop}(I:Inv X pins σ H s)(hg:Gl X x)(hm:X.mg x=some u)(h:Q u s)
  (hd:(x==("__debug__":Str))=false:=by decide):wpAny (model X.prog X.w) X.A (eval (.Name x pos) X.env) Q E s:=
 Calls.Name_function_global I.ok.kind hg (Calls.loadGlobal_global (by rw[I.ok.glob];exact I.mod.glob.keeps I.bk) hm h) hd
theorem ld_blt{E:Value->Shared->Prop}{pins:List (Addr×Obj)}{s:Shared}{σ:St}{H:Hp}{x:Str}{u:Value}{pos:Pos}{Q:Value->Shared->Prop}(I:Inv X pins σ H s)(hg:Gl X x)(hm:X.mg x=none)(hv:bootBuiltins x=some u)(h:Q u s)
  (hn:x≠"__name__":=by decide) (hd:(x==("__debug__":Str))=false:=by decide):wpAny (model X.prog X.w) X.A (eval (.Name x pos) X.env) Q E s:=by
 obtain⟨mb,h1,h2⟩:=I.mod.blt
 exact Calls.Name_function_global I.ok.kind hg (Calls.loadGlobal_builtin (by rw[I.ok.glob];exact I.mod.glob.keeps I.bk) hm (by rw[I.ok.blt];exact h1.keeps I.bk) ((h2 x hn).trans hv) h) hd
theorem pe_glob{x:Str}{v:V}{u:Value}{pos:Pos}(hg:Gl X x)(hm:X.mg x=some u)(r:RelV v u)(hd:(x==("__debug__":Str))=false:=by decide):PE X (.Name x pos) (tC v):=
 λ_ _ _ H _ I h=>ld_glob I hg hm ⟨v,H,I,r,h⟩ hd
theorem pe_bltn{x:Str}{v:V}{u:Value}{pos:Pos}(hg:Gl X x)(hm:X.mg x=none)(hv:bootBuiltins x=some u)(r:RelV v u)(hn:x≠"__name__":=by decide)(hd:(x==("__debug__":Str))=false:=by decide):PE X (.Name x pos) (tC v):=
 λ_ _ _ H _ I h=>ld_blt I hg hm hv ⟨v,H,I,r,h⟩ hn hd
def t2I(ta tb:TE)(k:Int->Int->Hp->Prop):St->Hp->Prop:=λσ H=>ta σ H λx H1=>tb σ H1 λy H2=>∃i j,x= .int i/\y= .int j/\k i j H2
def tAdd(ta tb:TE):TE:=λσ H Q=>t2I ta tb (λi j H2=>Q (.int (i+j)) H2) σ H
def tSub(ta tb:TE):TE:=λσ H Q=>t2I ta tb (λi j H2=>Q (.int (i-j)) H2) σ H
def tMul(ta tb:TE):TE:=λσ H Q=>t2I ta tb (λi j H2=>(-(2^64)<i/\i<2^64)/\Q (.int (i*j)) H2) σ H
variable{a b:Expr}{ta tb:TE}{pos:Pos}
def PC(X:Cx)(op:CmpOp)(a b:Expr)(t:TE):Prop:=
 ∀(pins:List (Addr×Obj)) (s:Shared) (σ:St) (H:Hp) (Q:VK),Inv X pins σ H s->t σ H Q->
  wpAny (model X.prog X.w) X.A (eval a X.env) (λv s₁=>wpAny (model X.prog X.w) X.A (eval b X.env) (λu s₂=>wpAny (model X.prog X.w) X.A (compareOp op v u) (EP X pins σ Q) X.xe s₂) X.xe s₁) X.xe s
def tCmp(p:Int->Int->Bool)(ta tb:TE):TE:=λσ H Q=>t2I ta tb (λi j H2=>Q (.bl (p i j)) H2) σ H
abbrev tLt:TE->TE->TE:=tCmp λi j=>decide (i<j)
abbrev tLe:TE->TE->TE:=tCmp λi j=>decide (i≤j)
abbrev tGt:TE->TE->TE:=tCmp λi j=>decide (j<i)
abbrev tGe:TE->TE->TE:=tCmp λi j=>decide (j≤i)
abbrev tEqI:TE->TE->TE:=tCmp λi j=>decide (i=j)
abbrev tNeI:TE->TE->TE:=tCmp λi j=> !decide (i=j)
def tIsN(ta:TE):TE:=λσ H Q=>ta σ H λx H1=>Q (.bl (decide (x= .non))) H1
def tNotN(ta:TE):TE:=λσ H Q=>ta σ H λx H1=>Q (.bl (!decide (x= .non))) H1
def tB(t:TE):TT:=λσ H Q=>t σ H λx H1=>∃c,x= .bl c/\Q c H1
variable{tA tB':TT}{rest:List Expr}
def tAnd(t u:TT):TT:=λσ H Q=>t σ H λc H1=>if c=true then u σ H1 Q else Q false H1
def tOr(t u:TT):TT:=λσ H Q=>t σ H λc H1=>if c=true then Q true H1 else u σ H1 Q
def tNot(t:TT):TT:=λσ H Q=>t σ H λc H1=>Q (!c) H1
theorem pw_and1(ha:PT X a tA):PW X (.BoolOp .And [a] pos) tA:=by
 intro wh pins s σ H Q I h
 refine isTrue_and (thn (ha pins s σ H Q I h) λc s1 e=>?_)
 cases c with
 |true=>exact isTrue_and_nil e
 |false=>exact e
theorem pw_or1(ha:PT X a tA):PW X (.BoolOp .Or [a] pos) tA:=by
 intro wh pins s σ H Q I h
 refine isTrue_or (thn (ha pins s σ H Q I h) λc s1 e=>?_)
 cases c with
 |false=>exact isTrue_or_nil e
 |true=>exact e
theorem pw_and(ha:PT X a tA)(hb:PW X (.BoolOp .And (b::rest) pos) tB'):PW X (.BoolOp .And (a::b::rest) pos) (tAnd tA tB'):=by
 intro wh pins s σ H Q I h
 refine isTrue_and (thn (ha pins s σ H _ I h) λc s1 ⟨H1,I1,q1⟩=>?_)
 cases c with
 |true=>exact hb wh pins s1 σ H1 Q I1 q1
 |false=>exact⟨H1,I1,q1⟩
theorem pw_or(ha:PT X a tA)(hb:PW X (.BoolOp .Or (b::rest) pos) tB'):PW X (.BoolOp .Or (a::b::rest) pos) (tOr tA tB'):=by
 intro wh pins s σ H Q I h
 refine isTrue_or (thn (ha pins s σ H _ I h) λc s1 ⟨H1,I1,q1⟩=>?_)
 cases c with
 |true=>exact⟨H1,I1,q1⟩
 |false=>exact hb wh pins s1 σ H1 Q I1 q1
theorem pt_not(ha:PT X a tA):PT X (.UnaryOp .Not a pos) (tNot tA):=by
 intro pins s σ H Q I h
 exact isTrue_not (ha pins s σ H (λc H1=>Q (!c) H1) I h)
def tAndV(ta tb:TE):TE:=λσ H Q=>ta σ H λx H1=>∃c,x= .bl c/\if c=true then tb σ H1 Q else Q (.bl false) H1
def tOrV(ta tb:TE):TE:=λσ H Q=>ta σ H λx H1=>∃c,x= .bl c/\if c=true then Q (.bl true) H1 else tb σ H1 Q
def tNotV(ta:TE):TE:=λσ H Q=>ta σ H λx H1=>∃c,x= .bl c/\Q (.bl (!c)) H1
theorem pe_one{op}{t:TE}(h:PE X a t):PE X (.BoolOp op [a] pos) t:=λpins s σ H Q I hw=>BoolOp_one (h pins s σ H Q I hw)
theorem pe_and(ha:PE X a ta)(hb:PE X (.BoolOp .And (b::rest) pos) tb):PE X (.BoolOp .And (a::b::rest) pos) (tAndV ta tb):=by
 intro pins s σ H Q I h
 refine BoolOp_and (thn (ha pins s σ H _ I h) λv s1 ⟨x,H1,I1,r1,q1⟩=>?_)
 obtain⟨c,rfl,q1⟩:=q1
 cases r1
 refine wpAny_truthy_bool ?_
 cases c with
 |true=>exact hb pins s1 σ H1 Q I1 q1
 |false=>exact⟨.bl false,H1,I1,rfl,q1⟩
theorem pe_or(ha:PE X a ta)(hb:PE X (.BoolOp .Or (b::rest) pos) tb):PE X (.BoolOp .Or (a::b::rest) pos) (tOrV ta tb):=by
 intro pins s σ H Q I h
 refine BoolOp_or (thn (ha pins s σ H _ I h) λv s1 ⟨x,H1,I1,r1,q1⟩=>?_)
 obtain⟨c,rfl,q1⟩:=q1
 cases r1
 refine wpAny_truthy_bool ?_
 cases c with
 |false=>exact hb pins s1 σ H1 Q I1 q1
 |true=>exact⟨.bl true,H1,I1,rfl,q1⟩
theorem pe_not(ha:PE X a ta):PE X (.UnaryOp .Not a pos) (tNotV ta):=by
 intro pins s σ H Q I h
 refine UnaryOp_ (thn (ha pins s σ H _ I h) λv s1 ⟨x,H1,I1,r1,q1⟩=>?_)
 obtain⟨c,rfl,q1⟩:=q1
 cases r1
 exact not_of (wpAny_truthy_bool ⟨.bl (!c),H1,I1,rfl,q1⟩)
def tIf(t:TT)(ta tb:TE):TE:=λσ H Q=>t σ H λc H1=>if c=true then ta σ H1 Q else tb σ H1 Q
theorem pe_ifExp{c:Expr}(hc:PT X c tA)(ha:PE X a ta)(hb:PE X b tb):PE X (.IfExp c a b pos) (tIf tA ta tb):=by
 intro pins s σ H Q I h
 refine wpAny_IfExp (thn (hc pins s σ H _ I h) λd s1 ⟨H1,I1,q1⟩=>?_)
 cases d with
 |true=>exact ha pins s1 σ H1 Q I1 q1
 |false=>exact hb pins s1 σ H1 Q I1 q1
end
end L2
namespace L2
open PySem PySem.Spec PyProof.Rows
def SqL(K:PySem.W.Frag)(H:Hp)(a:Addr)(xs:List V):Prop:=
 Rd H a (.lst xs)\/
  ∃(o:Obj) (its:Array Value) (n:Nat),K.lookup a=some o/\o.cls= .type "list"/\o.dict=none/\o.data= .seq its n/\its.size≤sizeLine/\Vals xs its.toList
def SqT(K:PySem.W.Frag)(H:Hp)(a:Addr)(xs:List V):Prop:=
 Rd H a (.tup xs)\/
  ∃(o:Obj) (its:Array Value) (n:Nat),K.lookup a=some o/\o.cls= .type "tuple"/\o.data= .seq its n/\its.size≤sizeLine/\Vals xs its.toList
def absV:Value->Option V
 | .none=>some .non
 | .bool b=>some (.bl b)
 | .int i _=>some (.int i)
 | .str x _=>some (.str x)
 | .bytes b _=>some (.byt b)
 | .float b _=>some (.flt b)
 | .ref a=>some (.ref a)
 | .type n=>some (.ty n)
 |_=>none
theorem RelV.abs{x:V}{u:Value}(r:RelV x u):absV u=some x:=by
 cases x with
 |non=>cases r;rfl
 |bl _=>cases r;rfl
 |int _=>obtain⟨t,rfl⟩:=r;rfl
 |str _=>obtain⟨t,rfl⟩:=r;rfl
 |byt _=>obtain⟨t,rfl⟩:=r;rfl
 |flt _=>obtain⟨t,rfl⟩:=r;rfl
 |ref _=>cases r;rfl
 |ty _=>cases r;rfl
theorem RelV.inj{x y:V}{u:Value}(r:RelV x u)(q:RelV y u):x=y:=Option.some.inj (r.abs.symm.trans q.abs)
theorem Vals.inj:∀{xs ys:List V} {us:List Value},Vals xs us->Vals ys us->xs=ys
 |_,_,_,.nil,.nil=>rfl
 |_,_,_,.cons r t,.cons r' t'=>by rw[r.inj r',Vals.inj t t']
section
variable{X:Cx}{pins:List (Addr×Obj)}{σ:St}{H:Hp}{s:Shared}{a:Addr}{xs ys:List V}
theorem SqL.of{K:PySem.W.Frag}(h:H a=some (.lst xs)):SqL K H a xs:=.inl (.inl h)
theorem SqT.of{K:PySem.W.Frag}(h:H a=some (.tup xs)):SqT K H a xs:=.inl (.inl h)
theorem Inv.list(I:Inv X pins σ H s)(h:SqL X.K H a xs):∃its:List Value,Vals xs its/\PlainL s.heap a its.toArray/\xs.length≤sizeLine:=by
 rcases h with h |⟨o,its,n,hk,hc,hd,hs,hz,r⟩
 .obtain⟨z,its,n,r,e⟩:=h.ok I.hok
  exact⟨its,r,⟨_,n,e,rfl,rfl,rfl⟩,z⟩
 .refine⟨its.toList,r,⟨o,n,I.kIn a o hk,hc,hd,by simpa using hs⟩,?_⟩
  have e:=r.length
  simp only[Array.length_toList]at e
  omega
theorem Inv.tuple(I:Inv X pins σ H s)(h:SqT X.K H a xs):∃its:List Value,Vals xs its/\IsTup s.heap a its.toArray/\xs.length≤sizeLine:=by
 rcases h with h |⟨o,its,n,hk,hc,hs,hz,r⟩
 .obtain⟨z,its,r,p⟩:=h.ok I.hok
  exact⟨its,r,p,z⟩
 .refine⟨its.toList,r,⟨o,I.kIn a o hk,hc,n,by simpa using hs⟩,?_⟩
  have e:=r.length
  simp only[Array.length_toList]at e
  omega
theorem Inv.list_inj(I:Inv X pins σ H s)(h:SqL X.K H a xs)(h':SqL X.K H a ys):xs=ys:=by
 obtain⟨its,r,⟨o,n,e,_,_,d⟩,_⟩:=I.list h
 obtain⟨its',r',⟨o',n',e',_,_,d'⟩,_⟩:=I.list h'
 rw[e]at e';cases e'
 rw[d]at d'
 injection d' with d1 _
 have :its=its':=by simpa using congrArg Array.toList d1
 subst this
 exact r.inj r'
end
abbrev Cx.wish(X:Cx)(E:Value->Shared->Prop):Cx:={X with xe:=E}
abbrev Cx.nox(X:Cx):Cx:=X.wish λ_ _=>False
section
variable{X:Cx}{pins:List (Addr×Obj)}{σ:St}{H:Hp}{s:Shared}{E:Value->Shared->Prop}
end
section
variable{X:Cx}{st:Stmt}{rest:List Stmt}{t u:TS}{e:Expr}{te:TE}{pos:Pos}
def tNext:TS:=λD σ H=>D.nx σ H
def tSeq(t u:TS):TS:=λD σ H=>t {D with nx:=u D} σ H
theorem pss_nil:PSs X [] tNext:=λ_ _ σ H _ I h=>wpAny_execs_nil ⟨σ,H,I,h⟩
theorem pss_cons(h1:PS X st t)(h2:PSs X rest u):PSs X (st::rest) (tSeq t u):=by
 intro pins s σ H D I h
 refine wpAny_execs_cons (thn (h1 pins s σ H {D with nx:=u D} I h) λf s1 q=>?_)
 cases f with
 |next=>
  obtain⟨σ',H',I',q⟩:=q
  exact h2 pins s1 σ' H' D I' q
 |ret v=>exact q
 |brk=>exact q
 |cont=>exact q
theorem pss_one(h1:PS X st t):PSs X [st] t:=by
 intro pins s σ H D I h
 refine wpAny_execs_cons (thn (h1 pins s σ H D I h) λf s1 q=>?_)
 cases f with
 |next=>exact wpAny_execs_nil q
 |ret v=>exact q
 |brk=>exact q
 |cont=>exact q
def tBreak:TS:=λD σ H=>D.bk σ H
def tCont:TS:=λD σ H=>D.ct σ H
theorem Inv.quiet{pins:List (Addr×Obj)}{σ:St}{H:Hp}{s:Shared}(I:Inv X pins σ H s):interactive X.env=false:=by simp[interactive,I.ok.kind]
def tDrop(te:TE):TS:=λD σ H=>te σ H λ_ H1=>D.nx σ H1
theorem ps_expr(he:PE X e te)(hs:swapsWith e none pos.line X.env=pure false:=by rfl):PS X (.Expr e pos) (tDrop te):=by
 intro pins s σ H D I h
 exact wpAny_Expr_any (thn (he pins s σ H _ I h) λv s1 ⟨x,H1,I1,r1,q1⟩=>⟨σ,H1,I1,q1⟩) I.quiet hs
def tRet(te:TE):TS:=λD σ H=>te σ H D.rt
theorem ps_ret(he:PE X e te):PS X (.Return (some e) pos) (tRet te):=by
 intro pins s σ H D I h
 exact wpAny_Return_some (thn (he pins s σ H _ I h) λv s1 ⟨x,H1,I1,r1,q1⟩=>⟨x,σ,H1,I1,r1,q1⟩)
def tRetN:TS:=λD _ H=>D.rt .non H
def tIfS(c:TT)(t u:TS):TS:=λD σ H=>c σ H λb H1=>if b=true then t D σ H1 else u D σ H1
theorem ps_if{c:Expr}{a b:List Stmt}{tc:TT}(hc:PT X c tc)(ha:PSs X a t)(hb:PSs X b u):PS X (.If c a b pos) (tIfS tc t u):=by
 intro pins s σ H D I h
 refine wpAny_If (thn (hc pins s σ H _ I h) λd s1 ⟨H1,I1,q1⟩=>?_)
 cases d with
 |true=>exact ha pins s1 σ H1 D I1 q1
 |false=>exact hb pins s1 σ H1 D I1 q1
def tNever:TS:=λ_ _ _=>False
end
abbrev TG:=V->St->Hp->(St->Hp->Prop)->Prop
abbrev TGs:=List V->St->Hp->(St->Hp->Prop)->Prop
def PG(X:Cx)(target:Expr)(t:TG):Prop:=
 ∀(pins:List (Addr×Obj)) (s:Shared) (σ:St) (H:Hp) (v:V) (u:Value) (Q:St->Hp->Prop),Inv X pins σ H s->RelV v u->t v σ H Q->
  wpAny (model X.prog X.w) X.A (assign target X.env u) (λ_ s'=>∃σ' H',Inv X pins σ' H' s'/\Q σ' H') X.xe s
def PGs(X:Cx)(ts:List Expr)(t:TGs):Prop:=
 ∀(pins:List (Addr×Obj)) (s:Shared) (σ:St) (H:Hp) (vs:List V) (us:List Value) (Q:St->Hp->Prop),Inv X pins σ H s->Vals vs us->t vs σ H Q->
  wpAny (model X.prog X.w) X.A (assignInOrder ((assignEach ts X.env).map (·.2)) us) (λ_ s'=>∃σ' H',Inv X pins σ' H' s'/\Q σ' H') X.xe s
abbrev TSet:=V->V->V->Hp->(Hp->Prop)->Prop
def PSet(X:Cx)(t:TSet):Prop:=
 ∀(pins:List (Addr×Obj)) (s:Shared) (σ:St) (H:Hp) (o i v:V) (ov iv u:Value) (Q:Hp->Prop),Inv X pins σ H s->RelV o ov->RelV i iv->RelV v u->t o i v H Q->
  wpAny (model X.prog X.w) X.A (setItem ov iv u) (λ_ s'=>∃H',Inv X pins σ H' s'/\Q H') X.xe s
abbrev TIp:=V->V->Hp->VK->Prop
def PIp(X:Cx)(op:Operator)(t:TIp):Prop:=
 ∀(pins:List (Addr×Obj)) (s:Shared) (σ:St) (H:Hp) (x y:V) (v u:Value) (Q:VK),Inv X pins σ H s->RelV x v->RelV y u->t x y H Q->
  wpAny (model X.prog X.w) X.A (inplaceOp op v u) (EP X pins σ Q) X.xe s
section
variable{X:Cx}{pos:Pos}
def gName(i:Nat):TG:=λv σ H Q=>Q (σ.set i (some v)) H
theorem pg_name{i:Nat}{x:Str}(hN:X.N.Nodup)(hi:X.N[i]? =some x)(hx:Loc X.env.scope x)(hf:X.fn x=true\/X.env.scope.names.lookup x=some .local:=by first |exact .inl rfl |exact .inr rfl |assumption):PG X (.Name x pos) (gName i):=by
 intro pins s σ H v u Q I r h
 exact wpAny_assign_Name (store_ok I hN hi hx r (λs' I'=>⟨_,H,I',h⟩) hf)
def gNil:TGs:=λvs σ H Q=>vs=[]/\Q σ H
def gCons(t:TG)(u:TGs):TGs:=λvs σ H Q=>∃v r,vs=v::r/\t v σ H λσ' H'=>u r σ' H' Q
theorem pgs_nil:PGs X [] gNil:=by
 intro pins s σ H vs us Q I r h
 obtain⟨e,h⟩:=h
 subst e
 cases r
 exact assignInOrder_nil ⟨σ,H,I,h⟩
theorem pgs_cons{e:Expr}{es:List Expr}{t:TG}{u:TGs}(h1:PG X e t)(h2:PGs X es u)
  (hs:(assignEach (e::es) X.env).map (·.2)=assign e X.env::(assignEach es X.env).map (·.2):=by rfl):PGs X (e::es) (gCons t u):=by
 intro pins s σ H vs us Q I r h
 obtain⟨v,vr,e1,h⟩:=h
 subst e1
 cases r with
 |cons r rr=>
  rw[hs]
  refine assignInOrder_cons (thn (h1 pins s σ H _ _ _ I r h) λ_ s1 ⟨σ1,H1,I1,q1⟩=>?_)
  exact h2 pins s1 σ1 H1 _ _ Q I1 rr q1
def gTup(K:PySem.W.Frag)(n:Nat)(t:TGs):TG:=λv σ H Q=>∃a xs,v= .ref a/\SqT K H a xs/\xs.length=n/\t xs σ H Q
theorem pg_tup{es:List Expr}{k:Nat}{t:TGs}{n:Nat}(hc:X.calm=true)(h:PGs X es t)
  (hn:(assignEach es X.env).length=n:=by rfl) (hst:(assignEach es X.env).findIdx? (·.1)=none:=by rfl):PG X (.Tuple es k pos) (gTup X.K n t):=by
 intro pins s σ H v u Q I r hw
 obtain⟨a,xs,e1,hq,hl,hw⟩:=hw
 subst e1
 cases r
 obtain⟨its,rv,ht,hz⟩:=I.tuple hq
 refine assign_Tuple_tuple (I.ok.hd hc) ht (by simp[hn, <-hl,rv.length]) hst λh' hx=>?_
 have I1:Inv X pins σ H {s with heap:=h'}:=I.kept (t':=s.toks) λb o e=>hx b o (Nat.ne_of_lt (Heap.lt_size e)) e
 exact h pins _ σ H xs _ Q I1 (by simpa using rv) hw
def gSub(to ti:TE)(t:TSet):TG:=λv σ H Q=>to σ H λo H1=>ti σ H1 λi H2=>t o i v H2 λH3=>Q σ H3
theorem pg_sub{o i:Expr}{to ti:TE}{t:TSet}(ho:PE X o to)(hi:PE X i ti)(hs:PSet X t)
  (ha:∀v,assign (.Subscript o i pos) X.env v=(do
   let ov<-holding [v] (eval o X.env)
   let iv<-holding [v,ov] (eval i X.env)
   standAt pos
   holding [v,ov,iv] (setItem ov iv v)
   release [v,ov,iv] []):=by intro _;rfl):PG X (.Subscript o i pos) (gSub to ti t):=by
 intro pins s σ H v u Q I r h
 rw[ha]
 refine wpAny_bind (wpAny_holding (thn (ho pins s σ H _ I h) λov s1 ⟨x,H1,I1,r1,q1⟩=>?_))
 refine wpAny_bind (wpAny_holding (thn (hi pins s1 σ H1 _ I1 q1) λiv s2 ⟨y,H2,I2,r2,q2⟩=>?_))
 refine wpAny_bind (wpAny_standAt (wpAny_bind (wpAny_holding (thn (hs pins s2 σ H2 x y v ov iv u _ I2 r1 r2 r q2) λ_ s3 ⟨H3,I3,q3⟩=>?_))))
 exact wpAny_release ⟨σ,H3,I3,q3⟩
def tAsg(te:TE)(g:TG):TS:=λD σ H=>te σ H λx H1=>g x σ H1 D.nx
theorem ps_asg{tg e:Expr}{te:TE}{g:TG}(he:PE X e te)(hg:PG X tg g)(hs:swapsWithSole [tg] e pos.line X.env=pure false:=by rfl)(hw:swappedStores [tg] e X.env=pure none:=by rfl)
  (h1:(assignEach [tg] X.env).map (·.2)=[assign tg X.env]:=by rfl):PS X (.Assign [tg] e pos) (tAsg te g):=by
 intro pins s σ H D I h
 refine wpAny_Assign_stores (thn (he pins s σ H _ I h) λv s1 ⟨x,H1,I1,r1,q1⟩=>?_) hs hw
 rw[h1]
 exact thn (hg pins s1 σ H1 x v _ I1 r1 q1) λ_ s2 q=>q
theorem ps_set{i:Nat}{x:Str}{e:Expr}{te:TE}{pos':Pos}(hN:X.N.Nodup)(hi:X.N[i]? =some x)(hx:Loc X.env.scope x)(he:PE X e te)(hs:swapsWith e (some (.Name x pos')) pos.line X.env=pure false:=by rfl)(hf:X.fn x=true\/X.env.scope.names.lookup x=some .local:=by first |exact .inl rfl |exact .inr rfl |assumption):
  PS X (.Assign [.Name x pos'] e pos) (tAsg te (gName i)):=by
 intro pins s σ H D I h
 refine wpAny_Assign_Name (thn (he pins s σ H _ I h) λv s1 ⟨y,H1,I1,r1,q1⟩=>?_) hs
 exact store_ok I1 hN hi hx r1 (λs2 I2=>⟨_,H1,I2,q1⟩) hf
def tPar(i j:Nat)(ta:TA):TS:=λD σ H=>ta σ H λvs H1=>∃v w,vs=[v,w]/\D.nx ((σ.set i (some v)).set j (some w)) H1
def tAug(i:Nat)(te:TE)(ti:TIp):TS:=λD σ H=>∃x,σ[i]? =some (some x)/\te σ H λy H1=>ti x y H1 λz H2=>D.nx (σ.set i (some z)) H2
theorem ps_aug{i:Nat}{x:Str}{e:Expr}{te:TE}{op:Operator}{ti:TIp}{pos':Pos}(hN:X.N.Nodup)(hi:X.N[i]? =some x)(hx:Loc X.env.scope x)(he:PE X e te)(ho:PIp X op ti)(hf:X.fn x=true\/X.env.scope.names.lookup x=some .local:=by first |exact .inl rfl |exact .inr rfl |assumption):
  PS X (.AugAssign (.Name x pos') op e pos) (tAug i te ti):=by
 intro pins s σ H D I h
 obtain⟨v,e1,h⟩:=h
 obtain⟨m,hn,hl⟩:=I.loc
 have vis:Vis X.env.scope x:=by rcases hx with k |k;exact .inl k;exact .inr (.inl k)
 obtain⟨u,r,l⟩:=hl i x v hi e1 vis
 refine wpAny_AugAssign_Name ?_
 have go:wpAny (model X.prog X.w) X.A (eval e X.env) (λw s₂=>wpAny (model X.prog X.w) X.A (inplaceOp op u w) (λr s₃=>wpAny (model X.prog X.w) X.A (storeName X.env x r) (λ_=>SP X pins D .next) X.xe s₃) X.xe s₂) X.xe s:=by
  refine thn (he pins s σ H _ I h) λw s1 ⟨y,H1,I1,r1,q1⟩=>?_
  refine thn (ho pins s1 σ H1 v y u w _ I1 r r1 q1) λz s2 ⟨zv,H2,I2,r2,q2⟩=>?_
  exact store_ok I2 hN hi hx r2 (λs3 I3=>⟨_,H2,I3,q2⟩) hf
 rcases l with⟨hk,hm⟩ |⟨hk,c,hc,hcell⟩
 .exact wpAny_loadName_local I.ok.kind hk hn hm go
 .rcases hk with hk |hk
  .exact wpAny_loadName_cell I.ok.kind hk hc hcell go
  .rcases hx with k |k
   .have :X.env.scope.names.lookup x=some .free:=hk
    rw[k]at this;cases this
   .have :X.env.scope.names.lookup x=some .free:=hk
    rw[k]at this;cases this
def tAugS(to ti te:TE)(tget:V->V->Hp->VK->Prop)(tip:TIp)(tset:TSet):TS:=λD σ H=>to σ H λo H1=>ti σ H1 λi H2=>tget o i H2 λx H3=>te σ H3 λy H4=>tip x y H4 λz H5=>tset o i z H5 λH6=>D.nx σ H6
def PGet(X:Cx)(t:V->V->Hp->VK->Prop):Prop:=
 ∀(pins:List (Addr×Obj)) (s:Shared) (σ:St) (H:Hp) (o i:V) (ov iv:Value) (Q:VK),Inv X pins σ H s->RelV o ov->RelV i iv->t o i H Q->
  wpAny (model X.prog X.w) X.A (getItem ov iv) (EP X pins σ Q) X.xe s
def ipI(f:Int->Int->Int):TIp:=λx y H Q=>∃i j,x= .int i/\y= .int j/\Q (.int (f i j)) H
theorem ip_add:PIp X .Add (ipI λi j=>i+j):=by
 intro pins s σ H x y v u Q I r1 r2 h
 obtain⟨i,j,e1,e2,q⟩:=h
 subst e1;subst e2
 obtain⟨t,rfl⟩:=r1
 obtain⟨t',rfl⟩:=r2
 exact iadd_int ⟨.int _,H,I.tok _,⟨_,rfl⟩,q⟩
end
section
variable{X:Cx}{pos:Pos}
def tWhile(c:TT)(tb:TS):TS:=λD σ H=>∃W:Nat->St->Hp->Prop,(∃m,W m σ H)/\∀m σ H,W m σ H->
 c σ H λb H1=>if b=true then ∃N:St->Hp->Prop,(∀σ' H',N σ' H'->∃m',m'<m/\W m' σ' H')/\tb {D with nx:=N,ct:=N,bk:=D.nx} σ H1 else D.nx σ H1
theorem ps_while{c:Expr}{body:List Stmt}{tc:TT}{tb:TS}(hp:PassesOwn (model X.prog X.w) X.A X.env X.xe)(hc:PT X c tc)(hb:PSs X body tb):PS X (.While c body [] pos) (tWhile tc tb):=by
 intro pins s σ H D I h
 obtain⟨W,⟨m0,w0⟩,turn⟩:=h
 refine wpAny_While (codeAny_whileLoop (λn s'=>∃σ' H',Inv X pins σ' H' s'/\W n σ' H') ?_ m0 ⟨σ,H,I,w0⟩)
 rintro n s1 ⟨σ1,H1,I1,w1⟩
 refine wpAny_passesOwn hp (thn (hc pins s1 σ1 H1 _ I1 (turn n σ1 H1 w1)) λb s2 ⟨H2,I2,q2⟩=>?_)
 cases b with
 |true=>
  obtain⟨N,hN,q2⟩:=q2
  rw[if_pos rfl]
  refine wpAny_passesOwn hp (thn (hb pins s2 σ1 H2 _ I2 q2) λf s3 q3=>?_)
  cases f with
  |next=>
   obtain⟨σ3,H3,I3,n3⟩:=q3
   obtain⟨m',hm,w3⟩:=hN σ3 H3 n3
   exact⟨m',hm,σ3,H3,I3,w3⟩
  |cont=>
   obtain⟨σ3,H3,I3,n3⟩:=q3
   obtain⟨m',hm,w3⟩:=hN σ3 H3 n3
   exact⟨m',hm,σ3,H3,I3,w3⟩
  |brk=>exact q3
  |ret v=>exact q3
 |false=>
  rw[if_neg Bool.false_ne_true]
  exact wpAny_execs_nil ⟨σ1,H2,I2,q2⟩
end
structure It where
 go:Nat->Hp->Prop
 yld:Nat->Hp->V->Hp->Prop
 stop:Nat->Hp->Prop
def FpOk(X:Cx)(pins:List (Addr×Obj))(H:Hp)(b:Addr):Prop:=
 H b=none/\b≠X.env.locals/\b∉X.fs/\(b∈X.ex\/X.s₀.heap.get? b=none)/\(∀x c,X.env.cells.lookup x=some c->c≠b)/\∀p∈X.pn++pins,p.1≠b
theorem Inv.fpOk{X:Cx}{pins:List (Addr×Obj)}{σ:St}{H H':Hp}{s:Shared}{b:Addr}(I:Inv X pins σ H s)(hb:s.heap.objs.size≤b)(hn:H' b=none):FpOk X pins H' b:=by
 refine⟨hn,Nat.ne_of_gt (Nat.lt_of_lt_of_le I.lt hb),I.nofs hb,.inr (Heap.get?_none_of_le (Nat.le_trans I.sz hb)),λx c e z=>?_,λp hp z=>?_⟩
 .obtain⟨v,q⟩:=I.cell x c e
  exact absurd (Nat.lt_of_lt_of_le q.lt (by rw[z];exact hb)) (Nat.lt_irrefl _)
 .exact absurd (Nat.lt_of_lt_of_le (Heap.lt_size (I.pin p hp).1) (by rw[z];exact hb)) (Nat.lt_irrefl _)
structure Turn(P:Program)(w:World)(K:PySem.W.Frag)(tg:Expr)(J:It)(fp:List Addr)(it:Addr)(tn:Nat->Heap->Prop):Prop where
 mem:it∈fp
 obj:∀i h,tn i h->∀b∈fp,∃o,h.get? b=some o/\∀v,o.data≠ .cell v
 keep:∀i h h',tn i h->(∀b∈fp,∀o,h.get? b=some o->h'.get? b=some o)->tn i h'
 item:∀(X:Cx),X.prog=P->X.w=w->X.K=K->X.calm=true->∀(i:Nat) (pins:List (Addr×Obj)) (s:Shared) (σ:St) (H:Hp) (E:Value->Shared->Prop),Inv X pins σ H s->(∀b∈fp,FpOk X pins H b)->tn i s.heap->J.go i H->
  wpAny (model P w) X.A (pyNext (.ref it)) (λr s1=>∃u,r=some u/\
   wpAny (model P w) X.A (letOwnedTupleGo tg (.ref it) u) (λ_ s2=>∃x H',Inv X pins σ H' s2/\RelV x u/\J.yld i H x H'/\tn (i+1) s2.heap/\∀b∈fp,H' b=none) E s1) E s
 done:∀(X:Cx),X.prog=P->X.w=w->X.K=K->X.calm=true->∀(i:Nat) (pins:List (Addr×Obj)) (s:Shared) (σ:St) (H:Hp) (E:Value->Shared->Prop),Inv X pins σ H s->(∀b∈fp,FpOk X pins H b)->tn i s.heap->J.stop i H->
  wpAny (model P w) X.A (pyNext (.ref it)) (λr s1=>r=none/\Inv X pins σ H s1) E s
 self:∀(A:Around) (i:Nat) (s:Shared) (Q:Value->Shared->Prop) (E:Value->Shared->Prop),tn i s.heap->Q (.ref it) s->wpAny (model P w) A (pyIter (.ref it)) Q E s
abbrev TI:=St->Hp->(It->Hp->Prop)->Prop
def PIE(X:Cx)(pins:List (Addr×Obj))(σ:St)(tg:Expr)(R:It->Hp->Prop)(itv:Value)(s2:Shared):Prop:=
 ∃(it:Addr) (fp:List Addr) (tn:Nat->Heap->Prop) (J:It) (H':Hp),itv= .ref it/\Inv X pins σ H' s2/\Turn X.prog X.w X.K tg J fp it tn/\tn 0 s2.heap/\(∀b∈fp,FpOk X pins H' b)/\R J H'
def PI(X:Cx)(tg iter:Expr)(wi:TI):Prop:=
 ∀(pins:List (Addr×Obj)) (s:Shared) (σ:St) (H:Hp) (R:It->Hp->Prop),Inv X pins σ H s->wi σ H R->
  wpAny (model X.prog X.w) X.A (eval iter X.env) (λv s1=>wpAny (model X.prog X.w) X.A (pyIter v) (PIE X pins σ tg R) X.xe s1) X.xe s
theorem go_of{M:Model}{A:Around}{E:Value->Shared->Prop}{s:Shared}{tg:Expr}{it:Addr}{u:Value}{o:Obj}{n:String}{vs:Array Value}{Q:Unit->Shared->Prop}(ho:s.heap.get? it=some o)(hc:o.cls= .type n)(hd:o.data= .fields vs)
  (hn:["enumerate","zip","dict_itemiterator","dict_reverseitemiterator","odict_iterator","itertools.zip_longest","itertools.pairwise"].contains n=false) (hQ:Q () s):wpAny M A (letOwnedTupleGo tg (.ref it) u) Q E s:=by
 unfold letOwnedTupleGo
 cases tg<;>first
  |exact wpAny_pure hQ
  |(cases u<;>first
   |exact wpAny_pure hQ
   |(refine wpAny_bind (wpAny_load ho ?_)
     rw[hc,hd]
     show wpAny M A (if(["enumerate","zip","dict_itemiterator","dict_reverseitemiterator","odict_iterator","itertools.zip_longest","itertools.pairwise"].contains n&&vs[0]? ==some (rawInt _))=true then _ else _) Q E s
     rw[if_neg (by intro h;rw[hn,Bool.false_and]at h;cases h)]
     exact wpAny_pure hQ))
def Itl(K:PySem.W.Frag)(a:Addr):It:=
 ⟨λi H=>∃xs x,SqL K H a xs/\xs[i]? =some x,λi H x H'=>H'=H/\∀xs,SqL K H a xs->xs[i]? =some x,λi H=>∃xs,SqL K H a xs/\xs.length≤i⟩
def Itt(K:PySem.W.Frag)(a:Addr):It:=
 ⟨λi H=>∃xs x,SqT K H a xs/\xs[i]? =some x,λi H x H'=>H'=H/\∀xs,SqT K H a xs->xs[i]? =some x,λi H=>∃xs,SqT K H a xs/\xs.length≤i⟩
def Itr(lo:Int)(n:Nat):It:=⟨λi _=>i<n,λi H x H'=>H'=H/\x= .int (lo+i),λi _=>n≤i⟩
theorem turn_list{P:Program}{w:World}{K:PySem.W.Frag}{tg:Expr}(a it:Addr):Turn P w K tg (Itl K a) [it] it (λi h=>h.IsListIter it a i)where
 mem:=by simp
 obj:=λi h st b hb=>by
  have e:b=it:=by simpa using hb
  subst e
  obtain⟨o,e,c,d⟩:=st
  exact⟨o,e,λv z=>by rw[d]at z;cases z⟩
 keep:=λi h h' st k=>st.at λo e=>k it (by simp) o e
 item:=by
  intro X hP hw hK hc i pins s σ H E I hf st hg
  subst hP hw hK
  obtain⟨xs,x,hq,hx⟩:=hg
  obtain⟨its,rv,p,hz⟩:=I.list hq
  obtain⟨u,hu,ru⟩:=rv.get hx
  obtain⟨f0,f1,f2,f3,f4,f5⟩:=hf it (by simp)
  refine wpAny_pyNext_list_item st p.isList (x:=u) (by simpa using hu) λh' st' sb=>?_
  have I1:Inv X pins σ H {s with heap:=h'}:=I.turned (t':=s.toks) (λb o hb e=>(sb.2 b hb).trans e) f0 f1 f3 f4 f5
  obtain⟨o,e,c,d⟩:=id st'
  exact⟨u,rfl,go_of (s:={s with heap:=h'}) e c d (by decide) ⟨x,H,I1,ru,⟨rfl,λys hy=>by rw[I.list_inj hy hq];exact hx⟩,st',λb hb=>(hf b hb).1⟩⟩
 done:=by
  intro X hP hw hK hc i pins s σ H E I hf st hg
  subst hP hw hK
  obtain⟨xs,hq,hx⟩:=hg
  obtain⟨its,rv,p,hz⟩:=I.list hq
  obtain⟨f0,f1,f2,f3,f4,f5⟩:=hf it (by simp)
  have hl:=rv.length
  exact wpAny_pyNext_list_end (I.ok.hd hc) st p.isList (by simp;omega) λh' eb=>⟨rfl,I.turned (t':=s.toks) (λb o hb e=>eb b o hb e) f0 f1 f3 f4 f5⟩
 self:=λ_ _ _ _ _ st h=>wpAny_pyIter_listiter st h
theorem turn_range{P:Program}{w:World}{K:PySem.W.Frag}{tg:Expr}(it:Addr)(lo:Int)(n:Nat):Turn P w K tg (Itr lo n) [it] it (λi h=>IsRangeIter h it (lo+(i:Nat)*1) ((n:Int)-(i:Nat)) 1)where
 mem:=by simp
 obj:=λi h st b hb=>by
  have e:b=it:=by simpa using hb
  subst e
  exact⟨_,st,λv z=>by
   have z':Data.fields _=Data.cell v:=z
   cases z'⟩
 keep:=λi h h' st k=>k it (by simp) _ st
 item:=by
  intro X hP hw hK hc i pins s σ H E I hf st hg
  subst hP hw hK
  obtain⟨f0,f1,f2,f3,f4,f5⟩:=hf it (by simp)
  have W:=Walks.range (prog:=X.prog) (w:=X.w) (I.ok.hd hc) it lo 1 n
  refine W.item i s _ _ hg st λv h' tk hv st' kk=>?_
  obtain⟨t,rfl⟩:=hv
  have I1:Inv X pins σ H {s with heap:=h',toks:=tk}:=I.turned (λb o hb e=>kk b o (by simpa using hb) e) f0 f1 f3 f4 f5
  refine⟨_,rfl,go_of (s:={s with heap:=h',toks:=tk}) (n:="range_iterator") st' rfl rfl (by decide) ⟨.int (lo+i),H,I1,⟨t,?_⟩,⟨rfl,rfl⟩,st',λb hb=>(hf b hb).1⟩⟩
  rw[Int.mul_one]
 done:=by
  intro X hP hw hK hc i pins s σ H E I hf st hg
  subst hP hw hK
  obtain⟨f0,f1,f2,f3,f4,f5⟩:=hf it (by simp)
  exact wpAny_pyNext_range_end (I.ok.hd hc) st (by have :n≤i:=hg;omega) λh' eb=>⟨rfl,I.turned (t':=s.toks) (λb o hb e=>eb b o hb e) f0 f1 f3 f4 f5⟩
 self:=λ_ _ _ _ _ st h=>wpAny_pyIter_rangeiter st h
end L2
namespace L2
open PySem PySem.Spec PyProof.Rows
section
variable{X:Cx}{tg:Expr}
def iList(K:PySem.W.Frag)(tl:TE):TI:=λσ H R=>tl σ H λx H1=>∃a,x= .ref a/\(∃xs,SqL K H1 a xs)/\R (Itl K a) H1
def iTup(K:PySem.W.Frag)(tl:TE):TI:=λσ H R=>tl σ H λx H1=>∃a,x= .ref a/\(∃xs,SqT K H1 a xs)/\R (Itt K a) H1
theorem pi_list{l:Expr}{tl:TE}(hl:PE X l tl):PI X tg l (iList X.K tl):=by
 intro pins s σ H R I h
 refine thn (hl pins s σ H _ I h) λv s1 ⟨x,H1,I1,r1,q1⟩=>?_
 obtain⟨a,e,⟨xs,hq⟩,q⟩:=q1
 subst e
 cases r1
 obtain⟨its,rv,p,hz⟩:=I1.list hq
 refine wpAny_pyIter_list p.isList ?_
 refine⟨s1.heap.objs.size,[s1.heap.objs.size],_,_,H1,rfl,I1.kept (t':=s1.toks) λb o e=>Heap.get?_push_of_some _ e,turn_list a _,⟨_,Heap.get?_push_size _ rfl,rfl,rfl⟩,λb hb=>?_,q⟩
 have e:b=s1.heap.objs.size:=by simpa using hb
 subst e
 exact I1.fpOk (Nat.le_refl _) (I1.hok.fresh (Nat.le_refl _))
theorem range_it{pins:List (Addr×Obj)}{σ:St}{H:Hp}{s:Shared}{R:It->Hp->Prop}{E:Value->Shared->Prop}{lo hi:Int}{t u v:Tok}{tk:Nat}(I:Inv X pins σ H s)(h1: -(2^62)≤lo)(h2:lo<2^62)(h3: -(2^62)≤hi)(h4:hi<2^62)
  (q:R (Itr lo (hi-lo).toNat) H):wpAny (model X.prog X.w) X.A (pyIter (.ref s.heap.objs.size)) (PIE X pins σ tg R) E {s with heap:=s.heap.push {cls:=.type "range",data:=.fields #[.int lo t,.int hi u,.int 1 v]},toks:=tk}:=by
 refine wpAny_pyIter_range (IsRange.new ..) (small_one h1 h2 h3 h4) ?_
 have I1:Inv X pins σ H {s with heap:=s.heap.push {cls:=.type "range",data:=.fields #[.int lo t,.int hi u,.int 1 v]},toks:=tk}:=I.kept λb o e=>Heap.get?_push_of_some _ e
 refine⟨(s.heap.push {cls:=.type "range",data:=.fields #[.int lo t,.int hi u,.int 1 v]}).objs.size,[(s.heap.push {cls:=.type "range",data:=.fields #[.int lo t,.int hi u,.int 1 v]}).objs.size],_,_,H,rfl,
  I1.kept (t':=tk) λb o e=>Heap.get?_push_of_some _ e,turn_range _ lo (hi-lo).toNat,?_,λb hb=>?_,q⟩
 .have e1:lo+((0:Nat):Int)*1=lo:=by simp
  have e2:(((hi-lo).toNat:Nat):Int)-((0:Nat):Int)=Builtin.Range.rangeSize lo hi 1:=by rw[rangeSize_one];split <;>omega
  show IsRangeIter _ _ (lo+((0:Nat):Int)*1) ((((hi-lo).toNat:Nat):Int)-((0:Nat):Int)) 1
  rw[e1,e2]
  exact Heap.get?_push_size _ rfl
 .have e:b=(s.heap.push {cls:=.type "range",data:=.fields #[.int lo t,.int hi u,.int 1 v]}).objs.size:=by simpa using hb
  subst e
  exact I1.fpOk (Nat.le_refl _) (I1.hok.fresh (Nat.le_refl _))
def iRng1(ta:TA):TI:=λσ H R=>ta σ H λvs H1=>∃j:Int,vs=[.int j]/\ -(2^62)≤j/\j<2^62/\R (Itr 0 j.toNat) H1
def iRng2(ta:TA):TI:=λσ H R=>ta σ H λvs H1=>∃i j:Int,vs=[.int i,.int j]/\(-(2^62)≤i/\i<2^62/\ -(2^62)≤j/\j<2^62)/\R (Itr i (j-i).toNat) H1
theorem pi_range1{a:Expr}{ta:TA}{p pos:Pos}(hg:Gl X "range")(hm:X.mg "range"=none)(ha:PA X [a] ta)(hs:starEach [a] X.env=[(false,eval a X.env)]:=by rfl):PI X tg (.Call (.Name "range" p) [a] [] pos) (iRng1 ta):=by
 intro pins s σ H R I h
 refine Call_ (ld_blt I hg hm boot_range (PyProof.Rows.callWith_type1 (thn (ha pos pins s σ H _ I h) λus s1 ⟨vs,H1,I1,r1,q1⟩=>?_) hs rfl))
 obtain⟨j,e,q1,q2,q⟩:=q1
 subst e
 cases r1 with
 |cons r rr=>
  cases rr
  obtain⟨t,rfl⟩:=r
  exact call_range_1 (range_it I1 (by omega) (by omega) q1 q2 (by simpa using q))
theorem pi_range2{a b:Expr}{ta:TA}{p pos:Pos}(hg:Gl X "range")(hm:X.mg "range"=none)(ha:PA X [a,b] ta)(hs:starEach [a,b] X.env=[(false,eval a X.env),(false,eval b X.env)]:=by rfl)(hs2:starEach [b] X.env=[(false,eval b X.env)]:=by rfl):
  PI X tg (.Call (.Name "range" p) [a,b] [] pos) (iRng2 ta):=by
 intro pins s σ H R I h
 refine Call_ (ld_blt I hg hm boot_range (PyProof.Rows.callWith_type1 (thn (ha pos pins s σ H _ I h) λus s1 ⟨vs,H1,I1,r1,q1⟩=>?_) (by rw[hs,hs2]) (by rw[hs2];rfl)))
 obtain⟨i,j,e,⟨q1,q2,q3,q4⟩,q⟩:=q1
 subst e
 cases r1 with
 |cons r rr=>
  cases rr with
  |cons r' rr=>
   cases rr
   obtain⟨t,rfl⟩:=r
   obtain⟨t',rfl⟩:=r'
   exact call_range_2 (range_it I1 q1 q2 q3 q4 q)
def tFor(wi:TI)(g:TG)(tb:TS):TS:=λD σ H=>wi σ H λJ H1=>∃W:Nat->Nat->St->Hp->Prop,(∃m,W 0 m σ H1)/\∀i m σ H,W i m σ H->
 (J.stop i H/\D.nx σ H)\/(J.go i H/\∃N:St->Hp->Prop,(∀σ' H',N σ' H'->∃m',m'<m/\W (i+1) m' σ' H')/\∀x H',J.yld i H x H'->g x σ H' λσ2 H2=>tb {D with nx:=N,ct:=N,bk:=D.nx} σ2 H2)
def pinsAt(fp:List Addr)(h:Heap):List (Addr×Obj):=fp.filterMap λb=>(h.get? b).map λo=>(b,o)
theorem mem_pinsAt{fp:List Addr}{h:Heap}{b:Addr}{o:Obj}(hb:b∈fp)(e:h.get? b=some o):(b,o)∈pinsAt fp h:=List.mem_filterMap.mpr ⟨b,hb,by rw[e];rfl⟩
theorem of_pinsAt{fp:List Addr}{h:Heap}{p:Addr×Obj}(hp:p∈pinsAt fp h):p.1∈fp/\h.get? p.1=some p.2:=by
 obtain⟨b,hb,e⟩:=List.mem_filterMap.mp hp
 cases q:h.get? b with
 |none=>rw[q]at e;cases e
 |some o=>
  rw[q]at e
  have e':(b,o)=p:=Option.some.inj e
  subst e'
  exact⟨hb,q⟩
theorem Inv.pinned{pins:List (Addr×Obj)}{σ:St}{H:Hp}{s:Shared}{fp:List Addr}(I:Inv X pins σ H s)(hf:∀b∈fp,FpOk X pins H b)(ho:∀b∈fp,∃o,s.heap.get? b=some o/\∀v,o.data≠ .cell v):Inv X (pins++pinsAt fp s.heap) σ H s:=
 I.pins_of λp hp=>(List.mem_append.mp hp).elim (λz=>I.pin p (List.mem_append_right _ z)) λz=>by
  obtain⟨hb,e⟩:=of_pinsAt z
  obtain⟨f0,f1,f2,_⟩:=hf p.1 hb
  obtain⟨o,e',d⟩:=ho p.1 hb
  rw[e]at e';cases e'
  exact⟨e,f0,f1,f2,d⟩
theorem Inv.unpinned{pins pl:List (Addr×Obj)}{σ:St}{H:Hp}{s:Shared}(I:Inv X (pins++pl) σ H s):Inv X pins σ H s:=I.pins_of λp hp=>I.pin p (List.mem_append_right _ (List.mem_append_left _ hp))
theorem ps_for{iter:Expr}{body:List Stmt}{wi:TI}{g:TG}{tb:TS}{pos:Pos}(hp:PassesOwn (model X.prog X.w) X.A X.env X.xe)(hc:X.calm=true)(hi:PI X tg iter wi)(hg:PG X tg g)(hb:PSs X body tb)
  (hs:∀x,foldedSetIterable iter X.env x=pure x:=by intro _;rfl):PS X (.For tg iter body [] pos) (tFor wi g tb):=by
 intro pins s σ H D I h
 refine wpAny_For (thn (hi pins s σ H _ I h) λv s1 h1=>thn h1 λitv s2 h2=>?_) hs
 obtain⟨it,fp,tn,J,H2,e,I2,T,st2,f2,W,⟨m0,w0⟩,turn⟩:=h2
 subst e
 have stat:∀{H':Hp},(∀b∈fp,H' b=none)->∀b∈fp,FpOk X pins H' b:=λhn b hb=>⟨hn b hb,(f2 b hb).2⟩
 refine codeAny_forLoop_any (λn s'=>∃i σ' H',Inv X pins σ' H' s'/\tn i s'.heap/\(∀b∈fp,H' b=none)/\W i n σ' H') ?_ m0 ⟨0,σ,H2,I2,st2,λb hb=>(f2 b hb).1,w0⟩
 rintro n s3 ⟨i,σ3,H3,I3,st3,fr3,w3⟩
 rcases turn i n σ3 H3 w3 with⟨stop,qn⟩ |⟨go,N,hN,step⟩
 .refine wpAny_passesOwn hp (thn (T.done X rfl rfl rfl hc i pins s3 σ3 H3 X.xe I3 (stat fr3) st3 stop) λr s4 ⟨hr,I4⟩=>?_)
  subst hr
  exact wpAny_execs_nil ⟨σ3,H3,I4,qn⟩
 .refine wpAny_passesOwn hp (thn (T.item X rfl rfl rfl hc i pins s3 σ3 H3 X.xe I3 (stat fr3) st3 go) λr s4 ⟨u,hr,h4⟩=>?_)
  subst hr
  refine wpAny_passesOwn hp (thn h4 λ_ s5 ⟨x,H5,I5,r5,y5,st5,fr5⟩=>?_)
  have I5':=I5.pinned (stat fr5) (T.obj _ _ st5)
  refine wpAny_passesOwn hp (thn (hg _ s5 σ3 H5 x u _ I5' r5 (step x H5 y5)) λ_ s6 ⟨σ6,H6,I6,q6⟩=>?_)
  refine wpAny_passesOwn hp (thn (hb _ s6 σ6 H6 _ I6 q6) λf s7 q7=>?_)
  have again:∀{σ7:St} {H7:Hp},Inv X (pins++pinsAt fp s5.heap) σ7 H7 s7->N σ7 H7->∃m,m<n/\∃i σ' H',Inv X pins σ' H' s7/\tn i s7.heap/\(∀b∈fp,H' b=none)/\W i m σ' H':=λ{σ7 H7} I7 n7=>by
   obtain⟨m',hm,w7⟩:=hN σ7 H7 n7
   refine⟨m',hm,i+1,σ7,H7,I7.unpinned,T.keep _ _ _ st5 λb hb o e=>(I7.pin (b,o) (List.mem_append_right _ (List.mem_append_right _ (mem_pinsAt hb e)))).1,λb hb=>?_,w7⟩
   obtain⟨o,e,d⟩:=T.obj _ _ st5 b hb
   exact(I7.pin (b,o) (List.mem_append_right _ (List.mem_append_right _ (mem_pinsAt hb e)))).2.1
  cases f with
  |next=>obtain⟨σ7,H7,I7,n7⟩:=q7;exact again I7 n7
  |cont=>obtain⟨σ7,H7,I7,n7⟩:=q7;exact again I7 n7
  |brk=>obtain⟨σ7,H7,I7,q7⟩:=q7;exact⟨σ7,H7,I7.unpinned,q7⟩
  |ret v=>obtain⟨x7,σ7,H7,I7,r7,q7⟩:=q7;exact⟨x7,σ7,H7,I7.unpinned,r7,q7⟩
end
theorem for_range{lo:Int}{n:Nat}{g:TG}{tb:TS}{D:Ends}{σ:St}{H:Hp}(Pv:Nat->St->Hp->Prop)(h0:Pv 0 σ H)
  (hs:∀i σ H,i<n->Pv i σ H->g (.int (lo+i)) σ H λσ2 H2=>tb {D with nx:=Pv (i+1),ct:=Pv (i+1),bk:=D.nx} σ2 H2) (hd:∀σ H,Pv n σ H->D.nx σ H):
  ∃W:Nat->Nat->St->Hp->Prop,(∃m,W 0 m σ H)/\∀i m σ H,W i m σ H->
   ((Itr lo n).stop i H/\D.nx σ H)\/((Itr lo n).go i H/\∃N:St->Hp->Prop,(∀σ' H',N σ' H'->∃m',m'<m/\W (i+1) m' σ' H')/\∀x H',(Itr lo n).yld i H x H'->g x σ H' λσ2 H2=>tb {D with nx:=N,ct:=N,bk:=D.nx} σ2 H2):=by
 refine⟨λi m σ H=>m=n-i/\i≤n/\Pv i σ H,⟨n,by simp,Nat.zero_le _,h0⟩,?_⟩
 rintro i m σ H ⟨rfl,hi,p⟩
 by_cases hlt:i<n
 .refine .inr ⟨hlt,Pv (i+1),λσ' H' p'=>⟨n-(i+1),by omega,rfl,hlt,p'⟩,λx H' y=>?_⟩
  obtain⟨e,y⟩:=y
  subst e y
  exact hs i σ _ hlt p
 .have e:i=n:=by omega
  subst e
  exact .inl ⟨Nat.le_refl _,hd σ H p⟩
end L2
namespace L2
open PySem PySem.Spec PyProof.Rows
abbrev R2:=V->V->Hp->VK->Prop
def OpR(X:Cx)(f:Value->Value->Sem Value)(r:R2):Prop:=
 ∀(pins:List (Addr×Obj)) (s:Shared) (σ:St) (H:Hp) (x y:V) (v u:Value) (Q:VK),Inv X pins σ H s->RelV x v->RelV y u->r x y H Q->
  wpAny (model X.prog X.w) X.A (f v u) (EP X pins σ Q) X.xe s
def UnR(X:Cx)(f:Value->Sem Value)(r:V->Hp->VK->Prop):Prop:=
 ∀(pins:List (Addr×Obj)) (s:Shared) (σ:St) (H:Hp) (x:V) (v:Value) (Q:VK),Inv X pins σ H s->RelV x v->r x H Q->
  wpAny (model X.prog X.w) X.A (f v) (EP X pins σ Q) X.xe s
def CallR(X:Cx)(f:Value)(r:List V->Hp->VK->Prop):Prop:=
 ∀(pins:List (Addr×Obj)) (s:Shared) (σ:St) (H:Hp) (xs:List V) (us:List Value) (Q:VK),Inv X pins σ H s->Vals xs us->r xs H Q->
  wpAny (model X.prog X.w) X.A (call f us) (EP X pins σ Q) X.xe s
def TruR(X:Cx)(r:V->Hp->(Bool->Hp->Prop)->Prop):Prop:=
 ∀(pins:List (Addr×Obj)) (s:Shared) (σ:St) (H:Hp) (x:V) (v:Value) (Q:Bool->Hp->Prop),Inv X pins σ H s->RelV x v->r x H Q->
  wpAny (model X.prog X.w) X.A (truthy v) (TP X pins σ Q) X.xe s
def tOp(r:R2)(ta tb:TE):TE:=λσ H Q=>ta σ H λx H1=>tb σ H1 λy H2=>r x y H2 Q
def tUn(r:V->Hp->VK->Prop)(ta:TE):TE:=λσ H Q=>ta σ H λx H1=>r x H1 Q
def rI(C:Int->Int->Prop)(g:Int->Int->V):R2:=λx y H Q=>∃i j,x= .int i/\y= .int j/\C i j/\Q (g i j) H
def rI0(g:Int->Int->V):R2:=λx y H Q=>∃i j,x= .int i/\y= .int j/\Q (g i j) H
def rU(g:Int->V):V->Hp->VK->Prop:=λx H Q=>∃i,x= .int i/\Q (g i) H
section
variable{X:Cx}{a b c:Expr}{ta tb tc:TE}{pos:Pos}
theorem binT(ha:PE X a ta)(hb:PE X b tb){pins:List (Addr×Obj)}{s:Shared}{σ:St}{H:Hp}{R:V->V->Hp->Prop}(I:Inv X pins σ H s)
  (h:ta σ H λx H1=>tb σ H1 λy H2=>R x y H2) {Q:Value->Shared->Prop} {f:Value->Value->Sem Value}
  (hf:∀v u s2 x y H2,Inv X pins σ H2 s2->RelV x v->RelV y u->R x y H2->wpAny (model X.prog X.w) X.A (f v u) Q X.xe s2):
  wpAny (model X.prog X.w) X.A (eval a X.env) (λv s₁=>wpAny (model X.prog X.w) X.A (eval b X.env) (λu s₂=>wpAny (model X.prog X.w) X.A (f v u) Q X.xe s₂) X.xe s₁) X.xe s:=by
 refine thn (ha pins s σ H _ I h) λv s1 ⟨x,H1,I1,r1,q1⟩=>?_
 refine thn (hb pins s1 σ H1 _ I1 q1) λu s2 ⟨y,H2,I2,r2,q2⟩=>?_
 exact hf v u s2 x y H2 I2 r1 r2 q2
theorem pe_op{op:Operator}{r:R2}(ho:OpR X (binaryOp op) r)(ha:PE X a ta)(hb:PE X b tb):PE X (.BinOp a op b pos) (tOp r ta tb):=by
 intro pins s σ H Q I h
 exact wpAny_BinOp (binT ha hb I h λv u s2 x y H2 I2 rx ry q=>ho pins s2 σ H2 x y v u Q I2 rx ry q)
theorem pe_un{op:UnaryOp}{r:V->Hp->VK->Prop}(ho:UnR X (unaryOp op) r)(ha:PE X a ta):PE X (.UnaryOp op a pos) (tUn r ta):=by
 intro pins s σ H Q I h
 exact UnaryOp_ (thn (ha pins s σ H _ I h) λv s1 ⟨x,H1,I1,r1,q1⟩=>ho pins s1 σ H1 x v Q I1 r1 q1)
theorem opI{f:Value->Value->Sem Value}{C:Int->Int->Prop}{g:Int->Int->Int}
  (rule:∀(i j:Int) (t u:Tok) (s:Shared) (Q:Value->Shared->Prop) (E:Value->Shared->Prop),C i j->Q (.int (g i j) s.toks) {s with toks:=s.toks+1}->wpAny (model X.prog X.w) X.A (f (.int i t) (.int j u)) Q E s):
  OpR X f (rI C λi j=>.int (g i j)):=by
 intro pins s σ H x y v u Q I rx ry h
 obtain⟨i,j,rfl,rfl,hc,q⟩:=h
 obtain⟨t,rfl⟩:=rx
 obtain⟨t',rfl⟩:=ry
 exact rule i j t t' s _ _ hc ⟨.int (g i j),H,I.tok _,⟨_,rfl⟩,q⟩
theorem opI0{f:Value->Value->Sem Value}{g:Int->Int->Int}
  (rule:∀(i j:Int) (t u:Tok) (s:Shared) (Q:Value->Shared->Prop) (E:Value->Shared->Prop),Q (.int (g i j) s.toks) {s with toks:=s.toks+1}->wpAny (model X.prog X.w) X.A (f (.int i t) (.int j u)) Q E s):
  OpR X f (rI0 λi j=>.int (g i j)):=by
 intro pins s σ H x y v u Q I rx ry h
 obtain⟨i,j,rfl,rfl,q⟩:=h
 obtain⟨t,rfl⟩:=rx
 obtain⟨t',rfl⟩:=ry
 exact rule i j t t' s _ _ ⟨.int (g i j),H,I.tok _,⟨_,rfl⟩,q⟩
theorem opB0{f:Value->Value->Sem Value}{g:Int->Int->Bool}
  (rule:∀(i j:Int) (t u:Tok) (s:Shared) (Q:Value->Shared->Prop) (E:Value->Shared->Prop),Q (.bool (g i j)) s->wpAny (model X.prog X.w) X.A (f (.int i t) (.int j u)) Q E s):
  OpR X f (rI0 λi j=>.bl (g i j)):=by
 intro pins s σ H x y v u Q I rx ry h
 obtain⟨i,j,rfl,rfl,q⟩:=h
 obtain⟨t,rfl⟩:=rx
 obtain⟨t',rfl⟩:=ry
 exact rule i j t t' s _ _ ⟨.bl (g i j),H,I,rfl,q⟩
def CDiv(i j:Int):Prop:=0<j/\j<1073741824
def CDivN(i j:Int):Prop:=j≠0/\j.natAbs<1073741824
def CPow(i j:Int):Prop:=0≤j/\j≤1000000/\i.natAbs<2^64
def CMul(i j:Int):Prop:=(-(2^64)<i/\i<2^64)\/(-(2^64)<j/\j<2^64)
theorem CMul.ok{i j:Int}(h:CMul i j):IntMulOk i j:=by
 rcases h with⟨h1,h2⟩ |⟨h1,h2⟩
 .exact .of_left (intBits_le_64 h1 h2)
 .exact .of_right (intBits_le_64 h1 h2)
theorem op_add:OpR X (binaryOp .Add) (rI0 λi j=>.int (i+j)):=opI0 λ_ _ _ _ _ _ _ q=>add_int q
theorem op_sub:OpR X (binaryOp .Sub) (rI0 λi j=>.int (i-j)):=opI0 λ_ _ _ _ _ _ _ q=>sub_int q
theorem op_mul:OpR X (binaryOp .Mult) (rI CMul λi j=>.int (i*j)):=opI λ_ _ _ _ _ _ _ hc q=>mul_int q hc.ok
theorem op_mod:OpR X (binaryOp .Mod) (rI (λ_ j=>0<j) λi j=>.int (i % j)):=opI λi j _ _ _ _ _ hc q=>by
 have h1:(0:Int)<j:=hc
 exact mod_int' (by omega) (by rw[Int.fmod_eq_emod_of_nonneg i (by omega)];exact q)
theorem op_pow:OpR X (binaryOp .Pow) (rI CPow λi j=>.int (i^j.toNat)):=opI λ_ _ _ _ _ _ _ hc q=>pow_int_small hc.1 hc.2.1 hc.2.2 q
theorem unI{f:Value->Sem Value}{g:Int->Int}
  (rule:∀(i:Int) (t:Tok) (s:Shared) (Q:Value->Shared->Prop) (E:Value->Shared->Prop),Q (.int (g i) s.toks) {s with toks:=s.toks+1}->wpAny (model X.prog X.w) X.A (f (.int i t)) Q E s):
  UnR X f (rU λi=>.int (g i)):=by
 intro pins s σ H x v Q I rx h
 obtain⟨i,rfl,q⟩:=h
 obtain⟨t,rfl⟩:=rx
 exact rule i t s _ _ ⟨.int (g i),H,I.tok _,⟨_,rfl⟩,q⟩
theorem un_neg:UnR X (unaryOp .USub) (rU λi=>.int (-i)):=unI λ_ _ _ _ _ q=>neg_int q
end
def scal:V->V->Bool
 | .non,.non=>true | .non,.int _=>true | .int _,.non=>true | .non,.bl _=>true | .bl _,.non=>true | .non,.str _=>true | .str _,.non=>true
 | .int _,.int _=>true | .bl _,.bl _=>true | .str _,.str _=>true | .byt _,.byt _=>true
 | .int _,.str _=>true | .str _,.int _=>true | .bl _,.str _=>true | .str _,.bl _=>true
 |_,_=>false
def rEq:R2:=λx y H Q=>scal x y=true/\Q (.bl (decide (x=y))) H
def rNe:R2:=λx y H Q=>scal x y=true/\Q (.bl (!decide (x=y))) H
theorem dec_int{i j:Int}:decide (V.int i=V.int j)=(i==j):=by
 rw[Bool.eq_iff_iff]
 simp
theorem dec_bl{i j:Bool}:decide (V.bl i=V.bl j)=(i==j):=by
 rw[Bool.eq_iff_iff]
 simp
theorem dec_str{i j:Str}:decide (V.str i=V.str j)=(i==j):=by
 rw[Bool.eq_iff_iff]
 simp
theorem dec_byt{i j:Array UInt8}:decide (V.byt i=V.byt j)=(i.toList==j.toList):=by
 rw[Bool.eq_iff_iff]
 cases i
 cases j
 simp
section
variable{X:Cx}{a b c:Expr}{ta tb tc:TE}{pos:Pos}
theorem fin_bl{pins:List (Addr×Obj)}{σ:St}{H:Hp}{s:Shared}{Q:VK}{k k':Bool}(I:Inv X pins σ H s)(q:Q (.bl k) H)(e:k=k'):EP X pins σ Q (.bool k') s:=by
 subst e
 exact⟨.bl k,H,I,rfl,q⟩
theorem op_eq:OpR X (compareOp .Eq) rEq:=by
 intro pins s σ H x y v u Q I rx ry h
 obtain⟨hs,q⟩:=h
 cases x with
 |non=>
  cases rx
  cases y with
  |non=>cases ry;exact PySem.EqNone.eq_none_none (fin_bl I q (by simp))
  |bl j=>cases ry;exact PySem.EqNone.eq_none_bool (fin_bl I q (by simp))
  |int j=>obtain⟨t',rfl⟩:=ry;exact PySem.EqNone.eq_none_int (fin_bl I q (by simp))
  |str j=>obtain⟨t',rfl⟩:=ry;exact PySem.EqNone.eq_none_str (fin_bl I q (by simp))
  |_=>exact absurd (show false=true from hs) Bool.false_ne_true
 |bl i=>
  cases rx
  cases y with
  |non=>cases ry;exact PySem.EqNone.eq_bool_none (fin_bl I q (by simp))
  |bl j=>cases ry;exact eq_bool (fin_bl I q dec_bl)
  |str j=>obtain⟨t',rfl⟩:=ry;exact PySem.EqMixed.eq_bool_str (fin_bl I q (by simp))
  |_=>exact absurd (show false=true from hs) Bool.false_ne_true
 |int i=>
  obtain⟨t,rfl⟩:=rx
  cases y with
  |non=>cases ry;exact PySem.EqNone.eq_int_none (fin_bl I q (by simp))
  |int j=>obtain⟨t',rfl⟩:=ry;exact eq_int (fin_bl I q dec_int)
  |str j=>obtain⟨t',rfl⟩:=ry;exact PySem.EqMixed.eq_int_str (fin_bl I q (by simp))
  |_=>exact absurd (show false=true from hs) Bool.false_ne_true
 |str i=>
  obtain⟨t,rfl⟩:=rx
  cases y with
  |non=>cases ry;exact PySem.EqNone.eq_str_none (fin_bl I q (by simp))
  |bl j=>cases ry;exact PySem.EqMixed.eq_str_bool (fin_bl I q (by simp))
  |int j=>obtain⟨t',rfl⟩:=ry;exact PySem.EqMixed.eq_str_int (fin_bl I q (by simp))
  |str j=>obtain⟨t',rfl⟩:=ry;exact eq_str (fin_bl I q dec_str)
  |_=>exact absurd (show false=true from hs) Bool.false_ne_true
 |byt i=>
  obtain⟨t,rfl⟩:=rx
  cases y with
  |byt j=>obtain⟨t',rfl⟩:=ry;exact PySem.W.eq_bytes (fin_bl I q dec_byt)
  |_=>exact absurd (show false=true from hs) Bool.false_ne_true
 |_=>cases y<;>exact absurd (show false=true from hs) Bool.false_ne_true
theorem op_ne:OpR X (compareOp .NotEq) rNe:=by
 intro pins s σ H x y v u Q I rx ry h
 obtain⟨hs,q⟩:=h
 cases x with
 |non=>
  cases rx
  cases y with
  |non=>cases ry;exact PySem.EqNone.ne_none_none (fin_bl I q (by simp))
  |bl j=>cases ry;exact PySem.EqNone.ne_none_bool (fin_bl I q (by simp))
  |int j=>obtain⟨t',rfl⟩:=ry;exact PySem.EqNone.ne_none_int (fin_bl I q (by simp))
  |str j=>obtain⟨t',rfl⟩:=ry;exact PySem.EqNone.ne_none_str (fin_bl I q (by simp))
  |_=>exact absurd (show false=true from hs) Bool.false_ne_true
 |bl i=>
  cases rx
  cases y with
  |non=>cases ry;exact PySem.EqNone.ne_bool_none (fin_bl I q (by simp))
  |bl j=>cases ry;exact ne_bool (fin_bl I q (congrArg not dec_bl))
  |str j=>obtain⟨t',rfl⟩:=ry;exact PySem.EqMixed.ne_bool_str (fin_bl I q (by simp))
  |_=>exact absurd (show false=true from hs) Bool.false_ne_true
 |int i=>
  obtain⟨t,rfl⟩:=rx
  cases y with
  |non=>cases ry;exact PySem.EqNone.ne_int_none (fin_bl I q (by simp))
  |int j=>obtain⟨t',rfl⟩:=ry;exact ne_int (fin_bl I q (congrArg not dec_int))
  |str j=>obtain⟨t',rfl⟩:=ry;exact PySem.EqMixed.ne_int_str (fin_bl I q (by simp))
  |_=>exact absurd (show false=true from hs) Bool.false_ne_true
 |str i=>
  obtain⟨t,rfl⟩:=rx
  cases y with
  |non=>cases ry;exact PySem.EqNone.ne_str_none (fin_bl I q (by simp))
  |bl j=>cases ry;exact PySem.EqMixed.ne_str_bool (fin_bl I q (by simp))
  |int j=>obtain⟨t',rfl⟩:=ry;exact PySem.EqMixed.ne_str_int (fin_bl I q (by simp))
  |str j=>obtain⟨t',rfl⟩:=ry;exact ne_str (fin_bl I q (congrArg not dec_str))
  |_=>exact absurd (show false=true from hs) Bool.false_ne_true
 |byt i=>
  obtain⟨t,rfl⟩:=rx
  cases y with
  |byt j=>obtain⟨t',rfl⟩:=ry;exact PySem.W.ne_bytes (fin_bl I q (congrArg not dec_byt))
  |_=>exact absurd (show false=true from hs) Bool.false_ne_true
 |_=>cases y<;>exact absurd (show false=true from hs) Bool.false_ne_true
theorem op_lt:OpR X (compareOp .Lt) (rI0 λi j=>.bl (decide (i<j))):=opB0 λ_ _ _ _ _ _ _ q=>lt_int q
theorem op_le:OpR X (compareOp .LtE) (rI0 λi j=>.bl (decide (i≤j))):=opB0 λ_ _ _ _ _ _ _ q=>le_int q
theorem op_gt:OpR X (compareOp .Gt) (rI0 λi j=>.bl (decide (j<i))):=opB0 λ_ _ _ _ _ _ _ q=>gt_int q
theorem op_ge:OpR X (compareOp .GtE) (rI0 λi j=>.bl (decide (j≤i))):=opB0 λ_ _ _ _ _ _ _ q=>ge_int q
theorem op_in_str:OpR X (compareOp .In) (λx y H Q=>∃i j,x= .str i/\y= .str j/\Q (.bl (!(Builtin.Str.occurrences j i 0 j.length 1).isEmpty)) H):=by
 intro pins s σ H x y v u Q I rx ry h
 obtain⟨i,j,rfl,rfl,q⟩:=h
 obtain⟨t,rfl⟩:=rx
 obtain⟨t',rfl⟩:=ry
 exact in_str (fin_bl I q rfl)
theorem op_isN:OpR X (compareOp .Is) (λx y H Q=>y= .non/\Q (.bl (decide (x= .non))) H):=by
 intro pins s σ H x y v u Q I rx ry h
 obtain⟨rfl,q⟩:=h
 cases ry
 refine is_none_gen (fin_bl I q ?_)
 cases x<;>first
  |(cases rx;rfl)
  |(obtain⟨t,rfl⟩:=rx;rfl)
theorem op_notN:OpR X (compareOp .IsNot) (λx y H Q=>y= .non/\Q (.bl (!decide (x= .non))) H):=by
 intro pins s σ H x y v u Q I rx ry h
 obtain⟨rfl,q⟩:=h
 cases ry
 refine isnot_none_gen (fin_bl I q ?_)
 cases x<;>first
  |(cases rx;rfl)
  |(obtain⟨t,rfl⟩:=rx;rfl)
theorem op_notin_str:OpR X (compareOp .NotIn) (λx y H Q=>∃i j,x= .str i/\y= .str j/\Q (.bl (!(!(Builtin.Str.occurrences j i 0 j.length 1).isEmpty))) H):=by
 intro pins s σ H x y v u Q I rx ry h
 obtain⟨i,j,rfl,rfl,q⟩:=h
 obtain⟨t,rfl⟩:=rx
 obtain⟨t',rfl⟩:=ry
 exact notIn_str (fin_bl I q rfl)
def isObj:HO->Bool
 | .lst _=>true
 | .ins _ _ _=>true
 |_=>false
theorem nomark(b:Expr){op:CmpOp}(h:op≠ .In:=by decide)(h2:op≠ .NotIn:=by decide):behindInMarks op b=false:=by
 have e1:(op==CmpOp.In)=false:=by cases op<;>first |rfl |exact absurd rfl h
 have e2:(op==CmpOp.NotIn)=false:=by cases op<;>first |rfl |exact absurd rfl h2
 cases b<;>simp[behindInMarks,e1,e2]
theorem pe_cmpR{op:CmpOp}{r:R2}(ho:OpR X (compareOp op) r)(ha:PE X a ta)(hb:PE X b tb)(hm:behindInMarks op b=false):PE X (.Compare a [op] [b] pos) (tOp r ta tb):=by
 intro pins s σ H Q I h
 exact wpAny_Compare1 (binT ha hb I h λv u s2 x y H2 I2 rx ry q=>ho pins s2 σ H2 x y v u Q I2 rx ry q) hm
def tTest(t:TE):TT:=λσ H Q=>t σ H λx H'=>∃k,x= .bl k/\Q k H'
theorem pt_cmpR{op:CmpOp}{r:R2}(ho:OpR X (compareOp op) r)(ha:PE X a ta)(hb:PE X b tb)(hm:behindInMarks op b=false):PT X (.Compare a [op] [b] pos) (tTest (tOp r ta tb)):=by
 intro pins s σ H Q I h
 refine wpAny_isTrue_Compare1 (thn (ha pins s σ H _ I h) λv s1 ⟨x,H1,I1,r1,q1⟩=>thn (hb pins s1 σ H1 _ I1 q1) λu s2 ⟨y,H2,I2,r2,q2⟩=>
  thn (ho pins s2 σ H2 x y v u _ I2 r1 r2 q2) λc s3 ⟨z,H3,I3,r3,k,e,q3⟩=>?_) hm
 subst e
 cases r3
 exact wpAny_truthy_bool ⟨H3,I3,q3⟩
def tChain(r r':R2)(ta tb tc:TE):TE:=λσ H Q=>ta σ H λx H1=>tb σ H1 λy H2=>r x y H2 λz H3=>∃k,z= .bl k/\
 (if k=true then tc σ H3 λw' H4=>r' y w' H4 Q else Q (.bl false) H3)
def TruV(K:PySem.W.Frag)(x:V)(H:Hp)(k:Bool):Prop:=
 match x with
 | .non=>k=false
 | .bl b=>k=b
 | .int i=>k=(i !=0)
 | .str y=>y.length≤sizeLine/\k=((y.length:Int) !=0)
 | .byt y=>y.size≤sizeLine/\k=((y.size:Int) !=0)
 | .ref p=>(∃xs,SqL K H p xs/\k= !xs.isEmpty)\/(∃xs,SqT K H p xs/\k= !xs.isEmpty)\/∃kvs,H p=some (.dK kvs)/\k= !kvs.isEmpty
 |_=>False
theorem isEmpty_kv{κ:Type}{kvs:List (κ×V)}{vs:List (κ×Value)}(r:KV kvs vs):(!vs.isEmpty)= !kvs.isEmpty:=by
 cases r<;>rfl
theorem isEmpty_of{xs:List V}{its:List Value}(r:Vals xs its):(!its.toArray.isEmpty)= !xs.isEmpty:=by
 cases r<;>simp
theorem line63:(sizeLine:Nat)<2^63:=by rw[sizeLine_eq];decide
theorem tru_ok:TruR X (λx H Q=>∃k,TruV X.K x H k/\Q k H):=by
 intro pins s σ H x v Q I rx h
 obtain⟨k,e,q⟩:=h
 have hl:=line63
 have hs:sizeLine=16777216:=sizeLine_eq
 cases x with
 |non=>
  cases rx
  have e':k=false:=e
  subst e'
  exact truthy_none ⟨H,I,q⟩
 |bl b=>
  cases rx
  have e':k=b:=e
  subst e'
  exact wpAny_truthy_bool ⟨H,I,q⟩
 |int i=>
  obtain⟨t,rfl⟩:=rx
  have e':k=(i !=0):=e
  subst e'
  exact PySem.P.truthy_int ⟨H,I,q⟩
 |str y=>
  obtain⟨t,rfl⟩:=rx
  obtain⟨hy,e'⟩:y.length≤sizeLine/\k=((y.length:Int) !=0):=e
  subst e'
  exact PySem.P.truthy_str (by omega) ⟨H,I.tok _,q⟩
 |byt y=>
  obtain⟨t,rfl⟩:=rx
  obtain⟨hy,e'⟩:y.size≤sizeLine/\k=((y.size:Int) !=0):=e
  subst e'
  exact PySem.W.truthy_bytes (by omega) ⟨H,I.tok _,q⟩
 |ref p=>
  cases rx
  have e':(∃xs,SqL X.K H p xs/\k= !xs.isEmpty)\/(∃xs,SqT X.K H p xs/\k= !xs.isEmpty)\/∃kvs,H p=some (.dK kvs)/\k= !kvs.isEmpty:=e
  rcases e' with⟨xs,hx,e'⟩ |⟨xs,hx,e'⟩ |⟨kvs,hx,e'⟩
  .subst e'
   obtain⟨its,r,pl,hz⟩:=I.list hx
   have hlen:=r.length
   exact wpAny_truthy_list pl.isList (by simp only[List.size_toArray];omega) ⟨H,I.tok _,by rw[isEmpty_of r];exact q⟩
  .subst e'
   obtain⟨its,r,pl,hz⟩:=I.tuple hx
   have hlen:=r.length
   exact truthy_tuple pl (by simp only[List.size_toArray];omega) ⟨H,I.tok _,by rw[isEmpty_of r];exact q⟩
  .subst e'
   obtain⟨hz,hS,vs,r,m⟩:kvs.length≤sizeLine/\(p==sysModules)=false/\∃vs,KV kvs vs/\s.heap.DictOf (mixKind X.prog X.w) p vs:=I.hok p _ hx
   have hlen:kvs.length=vs.length:=Paired.length r
   exact wpAny_truthy_dict hS m (by omega) ⟨H,I.tok _,by rw[isEmpty_kv r];exact q⟩
 |_=>exact(show False from e).elim
theorem pt_truth(ha:PE X a ta)(he:∀whole,isTrue a X.env whole=(do let v<-whole;standAt a.pos;holding [v] (truthy v))):
  PT X a (λσ H Q=>ta σ H λx H'=>∃k,TruV X.K x H' k/\Q k H'):=by
 intro pins s σ H Q I h
 exact isTrue_plain (thn (ha pins s σ H _ I h) λv s1 ⟨x,H1,I1,r1,q1⟩=>tru_ok pins s1 σ H1 x v Q I1 r1 q1) (he _)
theorem op_add_str:OpR X (binaryOp .Add) (λx y H Q=>∃i j,x= .str i/\y= .str j/\i.length+j.length≤sizeLine/\Q (.str (i++j)) H):=by
 intro pins s σ H x y v u Q I rx ry h
 obtain⟨i,j,rfl,rfl,hz,q⟩:=h
 obtain⟨t,rfl⟩:=rx
 obtain⟨t',rfl⟩:=ry
 exact add_str (λt' tk=>⟨.str (i++j),H,I.tok _,⟨_,rfl⟩,q⟩) hz
def PlainIxT(b:Expr):Prop:=∀o i,subscripted b false o i=operate [o,i] (getItem o i)
theorem vals1{x:V}{us:List Value}(r:Vals [x] us):∃u,us=[u]/\RelV x u:=by
 cases r with
 |cons r1 r2=>cases r2;exact⟨_,rfl,r1⟩
theorem vals2{x y:V}{us:List Value}(r:Vals [x,y] us):∃u w',us=[u,w']/\RelV x u/\RelV y w':=by
 cases r with
 |cons r1 r2=>
  cases r2 with
  |cons r3 r4=>cases r4;exact⟨_,_,rfl,r1,r3⟩
theorem call_str_int:CallR X (.type "str") (λxs H Q=>∃i,xs=[.int i]/\i.natAbs.log2<1920/\Q (.str (toString i)) H):=by
 intro pins s σ H xs us Q I r h
 obtain⟨i,rfl,hz,q⟩:=h
 obtain⟨u,rfl,t,rfl⟩:=vals1 r
 exact PySem.P.str_of_int hz ⟨.str _,H,I.tok _,⟨_,rfl⟩,q⟩
def LenV(K:PySem.W.Frag)(x:V)(H:Hp)(n:Nat):Prop:=
 match x with
 | .str y=>y.length≤sizeLine/\n=y.length
 | .byt y=>y.size≤sizeLine/\n=y.size
 | .ref p=>(∃xs,SqL K H p xs/\n=xs.length)\/∃xs,SqT K H p xs/\n=xs.length
 |_=>False
end
end L2
namespace L2
open PySem PySem.Spec PyProof.Rows
structure ObjM(h:Heap)(x dx C:Addr)(mA:Str->Option Value):Prop where
 obj:h.get? x=some (PySem.W.instObj C dx)
 ns:h.Ns1 dx mA
 ne:dx≠x
theorem lookIn_ns{h:Heap}{dx:Addr}{mA:Str->Option Value}(n:h.Ns1 dx mA):∃od,h.get? dx=some od/\∀name,PySem.W.lookIn name od=some (mA name):=by
 obtain⟨o,es,ep,ho,hd,hk,_,hm⟩:=n
 refine⟨o,ho,λname=>?_⟩
 have e:=hm name
 unfold nsFind findBy at e
 rw[<-Array.find?_toList]at e
 unfold PySem.W.lookIn
 rw[hd]
 dsimp only
 split
 .rename_i y q
  rw[q]at e
  exact congrArg some e
 .rename_i q
  rw[q]at e
  have a:es.toList.any (·.refKey)=false:=by
   rw[List.any_eq_false]
   intro y hy
   obtain⟨z,t,hkey⟩:=hk y (Array.mem_toList_iff.mp hy)
   simp[DictEntry.refKey,hkey]
  have a':¬es.toList.any (·.refKey)=true:=by rw[a];exact Bool.false_ne_true
  rw[if_neg a']
  exact congrArg some e
theorem ObjM.look{h:Heap}{x dx C:Addr}{mA:Str->Option Value}(I:ObjM h x dx C mA):∃od,PySem.W.InstAt h x (PySem.W.instObj C dx) C (some od)/\∀name,PySem.W.lookIn name od=some (mA name):=
 let⟨od,ho,hl⟩:=lookIn_ns I.ns
 ⟨od,⟨I.obj,rfl,rfl,ho⟩,hl⟩
section
variable{prog:Program}{w:World}{A:Around}{E:Value->Shared->Prop}{s:Shared}{K:PySem.W.Frag}{x dx C f:Addr}{mA:Str->Option Value}{name:Str}{v:Value}
end
def putF(f:Str)(v:V):List (Str×V)->List (Str×V)
 |[]=>[(f,v)]
 |(g,x)::r=>if g=f then(g,v)::r else(g,x)::putF f v r
section
variable{P:Program}{w:World}{H H':Hp}{h h':Heap}{a C dx:Addr}{fs fs':List (Str×V)}
theorem ins_get(hok:HOk P w H h)(e:H a=some (.ins C dx fs)):∃mA,ObjM h a dx C mA/\(∀f,RelO (fs.lookup f) (mA f))/\PySem.Within mA (fs.map (·.1))/\fs.length≤1000/\H dx=some (.own a):=by
 obtain⟨d,z,ne,ob,mA,n,r,q⟩:=(show ObjOk P w H h a (.ins C dx fs)from hok a _ e)
 exact⟨mA,⟨ob,n,ne⟩,r,q,z,d⟩
end
structure Cls(K:PySem.W.Frag)(C:Addr):Prop where
 pg:PySem.W.plainGet K C Str.empty=true
 hd:PySem.W.hasDictIn K C=true
 po:PySem.W.plainOver K C=true
 sa:PySem.W.findIn K (.ref C) "__setattr__"=some (some (.builtin "object.__setattr__"))
theorem Cls.get{K:PySem.W.Frag}{C:Addr}(c:Cls K C)(f:Str):PySem.W.plainGet K C f=true:=c.pg
def NoAttr(K:PySem.W.Frag)(C:Addr)(f:Str):Prop:=PySem.W.findIn K (.ref C) f=some none
structure Con(K:PySem.W.Frag)(C:Addr)(f:Str)(v:V)(u:Value):Prop where
 at_:PySem.W.findIn K (.ref C) f=some (some u)
 rel:RelV v u
 get:PySem.W.specialIn K u "__get__"=some none
 cp:PySem.W.copiedNames.contains f=false
structure Meth(K:PySem.W.Frag)(C:Addr)(m:Str)(f:Addr):Prop where
 at_:PySem.W.findIn K (.ref C) m=some (some (.ref f))
 fn:PySem.W.isFn K (.ref f)=true
 kp:PySem.W.keepIn K (.ref f)=true
section
variable{X:Cx}{pins:List (Addr×Obj)}{σ:St}{H:Hp}{s:Shared}{a C dx:Addr}{fs:List (Str×V)}{f:Str}{v:V}{A:Around}{E:Value->Shared->Prop}
theorem attr_of{prog:Program}{w:World}{env:Env}{e:Expr}{f:Str}{pos:Pos}{s:Shared}{Q:Value->Shared->Prop}(hb:attributeBase e f env (eval e env)=eval e env)
  (h:wpAny (model prog w) A (eval e env) (λo s₁=>wpAny (model prog w) A (getAttr o f true) Q E s₁) E s):wpAny (model prog w) A (eval (.Attribute e f pos) env) Q E s:=
 Attribute_any_ h (by rw[arm_eval_Attribute,hb])
end
def tFld(K:PySem.W.Frag)(ta:TE)(f:Str):TE:=λσ H Q=>ta σ H λx H1=>∃a C dx fs v,x= .ref a/\H1 a=some (.ins C dx fs)/\Cls K C/\NoAttr K C f/\fs.lookup f=some v/\Q v H1
def tCon(K:PySem.W.Frag)(ta:TE)(f:Str):TE:=λσ H Q=>ta σ H λx H1=>∃a C dx fs v u,x= .ref a/\H1 a=some (.ins C dx fs)/\Cls K C/\Con K C f v u/\fs.lookup f=none/\Q v H1
def sFld(K:PySem.W.Frag)(ta tv:TE)(f:Str):TS:=λD σ H=>tv σ H λy H1=>ta σ H1 λx H2=>∃a C dx fs,x= .ref a/\H2 a=some (.ins C dx fs)/\Cls K C/\NoAttr K C f/\fs.length<1000/\
 D.nx σ (upd H2 a (.ins C dx (putF f y fs)))
def InOp(X:Cx)(op:Operator)(rd:V->V->Hp->VK->Prop):Prop:=
 ∀(pins:List (Addr×Obj)) (s:Shared) (σ:St) (H:Hp) (x y:V) (u v:Value) (Q:VK),Inv X pins σ H s->RelV x u->RelV y v->rd x y H Q->wpAny (model X.prog X.w) X.A (inplaceOp op u v) (EP X pins σ Q) X.xe s
def sFldAug(K:PySem.W.Frag)(ta tv:TE)(rd:V->V->Hp->VK->Prop)(f:Str):TS:=λD σ H=>ta σ H λx H1=>∃a C dx fs v,x= .ref a/\H1 a=some (.ins C dx fs)/\Cls K C/\NoAttr K C f/\fs.lookup f=some v/\
 tv σ H1 λy H2=>rd v y H2 λz H3=>∃dx' fs',H3 a=some (.ins C dx' fs')/\fs'.length<1000/\D.nx σ (upd H3 a (.ins C dx' (putF f z fs')))
section
variable{X:Cx}{o e value:Expr}{f:Str}{pos pos' tpos:Pos}{ta tv:TE}
def rAdd:V->V->Hp->VK->Prop:=λx y H Q=>∃i j,x= .int i/\y= .int j/\Q (.int (i+j)) H
def rSub:V->V->Hp->VK->Prop:=λx y H Q=>∃i j,x= .int i/\y= .int j/\Q (.int (i-j)) H
end
section
variable{X:Cx}{pins:List (Addr×Obj)}{σ:St}{H:Hp}{s:Shared}{A:Around}{E:Value->Shared->Prop}{Q:Value->Shared->Prop}{c:Value}{b:Bool}
inductive TyOf (K:PySem.W.Frag) (H:Hp):V->Value->Prop where
 |non:TyOf K H .non (.type "NoneType")
 |bl (x:Bool):TyOf K H (.bl x) (.type "bool")
 |int (i:Int):TyOf K H (.int i) (.type "int")
 |str (x:Str):TyOf K H (.str x) (.type "str")
 |flt (x:UInt64):TyOf K H (.flt x) (.type "float")
 |lst {a:Addr} {xs:List V} (e:H a=some (.lst xs)):TyOf K H (.ref a) (.type "list")
 |frz {a:Addr} {o:Obj} {xs:List V} (e:H a=some (.frz o (.lst xs))):TyOf K H (.ref a) (.type "list")
 |tup {a:Addr} {xs:List V} (e:H a=some (.tup xs)):TyOf K H (.ref a) (.type "tuple")
 |dK {a:Addr} {kvs:List (Key×V)} (e:H a=some (.dK kvs)):TyOf K H (.ref a) (.type "dict")
 |dT {a:Addr} {kvs:List (List Key×V)} (e:H a=some (.dT kvs)):TyOf K H (.ref a) (.type "dict")
 |ins {a C dx:Addr} {fs:List (Str×V)} (e:H a=some (.ins C dx fs)) (cl:Cls K C) (ha:PySem.W.findIn K (.ref C) "__class__"=some (some (.builtin "object.__class__")))
  (hn:PySem.W.specialIn K (.builtin "object.__class__") "__get__"=some (some (.builtin "getset_descriptor.__get__"))) (htk:PySem.W.takesIn K (.builtin "object.__class__")=some true)
  (hm:PySem.W.mroIn K C (.type "object")=some true):TyOf K H (.ref a) (.ref C)
theorem isinst_ok{x:V}{u t:Value}(I:Inv X pins σ H s)(rx:RelV x u)(ty:TyOf X.K H x t)(e:PySem.W.kitOne X.K t c=some b)(h:∀tk,Q (.bool b) {s with toks:=tk}):
  wpAny (model X.prog X.w) A (call (.builtin "isinstance") [u,c]) Q E s:=by
 cases ty with
 |non=>cases(show u=Value.none from rx);exact PySem.W.kia_one PySem.W.kitx_none I.kIn True.intro e (λz=>nomatch z) h
 |bl y=>cases(show u=Value.bool y from rx);exact PySem.W.kia_one PySem.W.kitx_bool I.kIn True.intro e (λz=>nomatch z) h
 |int i=>obtain⟨t,q⟩:=(show ∃t,u=Value.int i t from rx);cases q;exact PySem.W.kia_one PySem.W.kitx_int I.kIn True.intro e (λz=>nomatch z) h
 |str y=>obtain⟨t,q⟩:=(show ∃t,u=Value.str y t from rx);cases q;exact PySem.W.kia_one PySem.W.kitx_str I.kIn True.intro e (λz=>nomatch z) h
 |flt y=>obtain⟨t,q⟩:=(show ∃t,u=Value.float y t from rx);cases q;exact PySem.W.kia_one PySem.W.kitx_float I.kIn True.intro e (λz=>nomatch z) h
 | @lst a xs ea=>
   cases(show u=Value.ref a from rx)
   obtain⟨_,_,n,_,h1⟩:=(show ObjOk X.prog X.w H s.heap a (.lst xs)from I.hok a _ ea)
   exact PySem.W.kia_one PySem.W.kitx_list I.kIn ⟨_,h1,rfl⟩ e (λz=>nomatch z) h
 | @frz a ob xs ea=>
   cases(show u=Value.ref a from rx)
   obtain⟨_,_,_,n,_,h1⟩:=(show ObjOk X.prog X.w H s.heap a (.frz ob (.lst xs))from I.hok a _ ea)
   exact PySem.W.kia_one PySem.W.kitx_list I.kIn ⟨_,h1,rfl⟩ e (λz=>nomatch z) h
 | @tup a xs ea=>
   cases(show u=Value.ref a from rx)
   obtain⟨_,_,_,p⟩:=(show ObjOk X.prog X.w H s.heap a (.tup xs)from I.hok a _ ea)
   obtain⟨o,h1,h2,_⟩:=p
   exact PySem.W.kia_one PySem.W.kitx_tuple I.kIn ⟨o,h1,h2⟩ e (λz=>nomatch z) h
 | @dK a kvs ea=>
   cases(show u=Value.ref a from rx)
   obtain⟨_,_,vs,_,p⟩:=(show ObjOk X.prog X.w H s.heap a (.dK kvs)from I.hok a _ ea)
   obtain⟨o,es,ep,h1,h2,_⟩:=p
   exact PySem.W.kia_one PySem.W.kitx_dict I.kIn ⟨o,h1,h2.1⟩ e (λz=>nomatch z) h
 | @dT a kvs ea=>
   cases(show u=Value.ref a from rx)
   obtain⟨_,_,xs,_,o,es,ep,h1,h2,_⟩:=(show ObjOk X.prog X.w H s.heap a (.dT kvs)from I.hok a _ ea)
   exact PySem.W.kia_one PySem.W.kitx_dict I.kIn ⟨o,h1,h2.1⟩ e (λz=>nomatch z) h
 | @ins a C dx fs ea cl ha hn htk hm=>
   cases(show u=Value.ref a from rx)
   obtain⟨mA,O,_⟩:=ins_get I.hok ea
   obtain⟨od,J,_⟩:=O.look
   exact PySem.W.kia_one (PySem.W.kitx_own (cl.get _) cl.hd ha hn htk hm) I.kIn J e (λz=>nomatch z) h
end
end L2
namespace L2
open PySem PySem.Spec PyProof.Rows
structure Room(cc:Bool)(k:Nat)(A:Around):Prop where
 hd:cc=true->A.handled=none
 dp:A.depth+3*k+5<recursionLimit
 un:A.units+16*k+200<cLine
theorem Room.mono{j k:Nat}{A:Around}(r:Room cc k A)(h:j≤k):Room cc j A:=⟨r.hd,by have :=r.dp;omega,by have :=r.un;omega⟩
theorem Room.deeper{k:Nat}{A:Around}(r:Room cc (k+1) A)(env:Env):Room cc k (A.deeper env):=
 ⟨r.hd,by have :=r.dp;show A.depth+1+3*k+5<_;omega,by have :=r.un;show A.units+3+16*k+200<_;omega⟩
theorem make_depth{A:Around}{C:Addr}{us:List Value}{kw:List (Str×Value)}:(A.under (.builtin "type.__call__" ⟨.ref C::us,kw⟩)).depth=A.depth+1:=by
 first |rfl |simp[Around.under,Code.weight,Code.isCreation,Code.isGuard,Code.isCaller,Code.frames,Code.isFrame,guardIds]
theorem make_units{A:Around}{C:Addr}{us:List Value}{kw:List (Str×Value)}:(A.under (.builtin "type.__call__" ⟨.ref C::us,kw⟩)).units=A.units+1:=by
 first |rfl |simp[Around.under,Code.cUnits,Code.frames,Code.isFrame]
theorem Room.make{k:Nat}{A:Around}(r:Room cc (k+1) A)(C:Addr)(us:List Value)(kw:List (Str×Value)):Room cc k (A.under (.builtin "type.__call__" ⟨.ref C::us,kw⟩)):=
 ⟨r.hd,by have :=r.dp;rw[make_depth];omega,by have :=r.un;rw[make_units];omega⟩
theorem Room.depth{k:Nat}{A:Around}(r:Room cc k A):A.depth<recursionLimit:=by have :=r.dp;omega
theorem Room.units{k:Nat}{A:Around}(r:Room cc k A):A.units+64<cLine:=by have :=r.un;omega
def tNil:TA:=λ_ H Q=>Q [] H
def tCons(ta:TE)(tr:TA):TA:=λσ H Q=>ta σ H λx H1=>tr σ H1 λxs H2=>Q (x::xs) H2
section
variable{X:Cx}{e:Expr}{es:List Expr}{te:TE}{t:TA}{pos:Pos}
theorem pa_nil:PA X [] tNil:=λ_ _ _ _ H Q I h=>Calls.spliced_nil ⟨[],H,I,.nil,h⟩
theorem pa_cons(ha:PE X e te)(hr:PA X es t)(hs:starEach (e::es) X.env=(false,eval e X.env)::starEach es X.env:=by rfl):PA X (e::es) (tCons te t):=by
 intro pos pins s σ H Q I h
 rw[hs]
 show wpAny _ _ (spliced ((false,eval e X.env)::backTo pos (starEach es X.env))) _ _ s
 refine Calls.spliced_cons (thn (ha pins s σ H _ I h) λu s1 ⟨x,H1,I1,r1,q1⟩=>?_)
 exact thn (hr pos pins s1 σ H1 _ I1 q1) λus s2 ⟨xs,H2,I2,r2,q2⟩=>⟨x::xs,H2,I2,.cons r1 r2,q2⟩
def tTup(t:TA):TE:=λσ H Q=>t σ H λxs H1=>xs.length≤sizeLine/\∀p,H1 p=none->Q (.ref p) (upd H1 p (.tup xs))
def tLst(t:TA):TE:=λσ H Q=>t σ H λxs H1=>xs.length≤sizeLine/\∀p,H1 p=none->Q (.ref p) (upd H1 p (.lst xs))
theorem pe_tup{x1}(h:PA X es t):PE X (.Tuple es x1 pos) (tTup t):=by
 intro pins s σ H Q I hq
 refine wpAny_Tuple_spliced (thn (h pos pins s σ H _ I hq) λus s1 ⟨xs,H1,I1,r,z,q⟩=>⟨by rw[<-r.length];exact z,?_⟩)
 have hf:H1 s1.heap.objs.size=none:=I1.hok.fresh (Nat.le_refl _)
 refine⟨.ref s1.heap.objs.size,upd H1 s1.heap.objs.size (.tup xs),I1.laid (t':=s1.toks) (λb u e=>Heap.get?_push_of_some _ e) (Nat.le_refl _) ?_,rfl,q _ hf⟩
 exact⟨z,us,r,⟨_,Heap.get?_push_size _ rfl,rfl,_,rfl⟩⟩
theorem pe_lst(h:PA X es t):PE X (.List es pos) (tLst t):=by
 intro pins s σ H Q I hq
 refine wpAny_List_spliced (thn (h pos pins s σ H _ I hq) λus s1 ⟨xs,H1,I1,r,z,q⟩=>⟨by rw[<-r.length];exact z,?_⟩)
 have hf:H1 s1.heap.objs.size=none:=I1.hok.fresh (Nat.le_refl _)
 refine⟨.ref s1.heap.objs.size,upd H1 s1.heap.objs.size (.lst xs),I1.laid (t':=s1.toks) (λb u e=>Heap.get?_push_of_some _ e) (Nat.le_refl _) ?_,rfl,q _ hf⟩
 exact⟨z,us,0,r,Heap.get?_push_size _ rfl⟩
end
abbrev Sp:=List V->Hp->VK->XK->Prop
abbrev CXT:=List Env->Hp->Shared->XK->Value->Shared->Prop
structure Env0(P:Program)(w:World)(K:PySem.W.Frag)(mg:Str->Option Value)(base:Heap)(A:Around)(outer:List Env)(s:Shared)(H:Hp):Prop where
 frames:A.frames=some outer
 mod:Mod K mg base
 bs:∀b o,base.get? b=some o->s.heap.get? b=some o/\H b=none
 bsz:base.objs.size≤s.heap.objs.size
 funs:s.heap.FunFrames base outer
 frf:∀b∈frs outer,H b=none
 hok:HOk P w H s.heap
 bare:AllBare s.gens
def CE(outer:List Env)(P:Program)(w:World)(H:Hp)(s:Shared)(Q:VK)(u:Value)(s':Shared):Prop:=
 ∃v H',s'.os=s.os/\AllBare s'.gens/\Un (frs outer) [] H H' s.heap s'.heap/\HOk P w H' s'.heap/\RelV v u/\Q v H'
def CR(CX:CXT)(outer:List Env)(P:Program)(w:World)(H:Hp)(s:Shared)(Q:VK)(E:XK)(r:Result)(s':Shared):Prop:=
 match r with
 | .ok (.ret u)=>CE outer P w H s Q u s'
 | .ok _=>False
 | .error e=>CX outer H s E e s'
structure FnOk(P:Program)(w:World)(K:PySem.W.Frag)(mg:Str->Option Value)(base:Heap)(CX:CXT)(cc:Bool)(k:Nat)(f:Addr)(fd:FuncData)(ps:List Str)(sp:Sp):Prop where
 len:∀vs H Q E,sp vs H Q E->vs.length=ps.length
 run:∀(A:Around) (outer:List Env) (s:Shared) (H:Hp) (args:Args) (us:List Value) (vs:List V) (Q:VK) (E:XK),Room cc k A->Env0 P w K mg base A outer s H->BindsTo s fd args (ps.zip us)->Vals vs us->sp vs H Q E->
  codeAny (model P w) A (.call (.ref f) args) (CR CX outer P w H s Q E) s
theorem Env0.make{P:Program}{w:World}{K:PySem.W.Frag}{mg:Str->Option Value}{base:Heap}{A:Around}{outer:List Env}{s:Shared}{H:Hp}(e:Env0 P w K mg base A outer s H)(C:Addr)(us:List Value)(kw:List (Str×Value)):
  Env0 P w K mg base (A.under (.builtin "type.__call__" ⟨.ref C::us,kw⟩)) outer s H:=⟨by first |exact e.frames |(simpa [Around.under,Code.envs,Code.isFrame,pushEnvs]using e.frames),e.mod,e.bs,e.bsz,e.funs,e.frf,e.hok,e.bare⟩
section
variable{X:Cx}{pins:List (Addr×Obj)}{σ:St}{H:Hp}{s s':Shared}
theorem Inv.env0(I:Inv X pins σ H s):Env0 X.prog X.w X.K X.mg X.base X.A X.stack s H:=
 ⟨I.ok.frames,I.ok.mod,I.bs,Nat.le_trans I.ok.bsz I.sz,I.stack,I.stkFree,I.hok,I.bare⟩
theorem Inv.after{Q:VK}{u:Value}(I:Inv X pins σ H s)(h:CE X.stack X.prog X.w H s Q u s'):EP X pins σ Q u s':=by
 obtain⟨v,H',os,bare,un,hok,r,q⟩:=h
 obtain⟨hh,g,d,t,os'⟩:=s'
 obtain rfl:os'=s.os:=os
 exact⟨v,H',I.call (h':=hh) (g':=g) (d':=d) (t':=t) (ch:=[]) un hok bare (λb z=>absurd z (by simp)),r,q⟩
end
def tCall(sp:Sp)(dvs:List V)(E:XK)(t:TA):TE:=λσ H Q=>t σ H λvs H1=>sp (vs++dvs) H1 Q E
def tMeth(C:Addr)(m:Str)(sp:Sp)(dvs:List V)(E:XK)(ta:TE)(t:TA):TE:=λσ H Q=>ta σ H λx H1=>∃a dx fs,x= .ref a/\H1 a=some (.ins C dx fs)/\fs.lookup m=none/\
 t σ H1 λvs H2=>sp (x::(vs++dvs)) H2 Q E
def tMake(C:Addr)(sp:Sp)(dvs:List V)(E:XK)(t:TA):TE:=λσ H Q=>t σ H λvs H1=>∀x dx,H1 x=none->H1 dx=none->dx≠x->
 sp (.ref x::(vs++dvs)) (upd (upd H1 dx (.own x)) x (.ins C dx [])) (λv H2=>v= .non/\Q (.ref x) H2) E
def Binds(K:PySem.W.Frag)(fd:FuncData)(ps:List Str)(ds:List Value):Prop:=
 ∀(s:Shared) (us:List Value),K.In s.heap->(us++ds).length=ps.length->BindsTo s fd ⟨us,[]⟩ (ps.zip (us++ds))
theorem Binds.all{K:PySem.W.Frag}{fd:FuncData}{ps:List Str}(h:∀us:List Value,us.length=ps.length->bindArgs fd ⟨us,[]⟩=pure (ps.zip us)):Binds K fd ps []:=λs us _ hl=>by
 rw[List.append_nil]at hl⊢
 exact .of_eq (h us hl)
def Passes(CX:CXT)(X:Cx)(E:XK):Prop:=∀(pins:List (Addr×Obj)) (σ:St) (H:Hp) (s:Shared) (e:Value) (s':Shared),Inv X pins σ H s->CX X.stack H s E e s'->X.xe e s'
section
variable{X:Cx}{CX:CXT}{k:Nat}{f C:Addr}{fd:FuncData}{ps:List Str}{sp:Sp}{dvs:List V}{ds:List Value}{E:XK}{x m:Str}{p pos apos:Pos}{e o:Expr}{es:List Expr}{ta:TE}{t:TA}
structure Mk(K:PySem.W.Frag)(C f:Addr):Prop where
 makes:PySem.W.makesIn K C=true
 init:PySem.W.findIn K (.ref C) "__init__"=some (some (.ref f))
 fn:PySem.W.isFn K (.ref f)=true
 kp:PySem.W.keepIn K (.ref C)=true
end
def PK(X:Cx)(kws:List Keyword)(t:TA):Prop:=
 ∀(pos:Pos) (pins:List (Addr×Obj)) (s:Shared) (σ:St) (H:Hp) (Q:List V->Hp->Prop),Inv X pins σ H s->t σ H Q->wpAny (model X.prog X.w) X.A (evalAll ((backToKw pos (keywordEach kws X.env)).map (·.2))) (AP X pins σ Q) X.xe s
section
variable{X:Cx}{CX:CXT}{k:Nat}{f C:Addr}{fd:FuncData}{ps ks:List Str}{sp:Sp}{E:XK}{x m:Str}{p pos apos kpos:Pos}{e o:Expr}{es:List Expr}{kws:List Keyword}{te ta:TE}{t tk:TA}{nm:Option Str}
structure KBinds(K:PySem.W.Frag)(fd:FuncData)(ps ks:List Str)(g:List Value->List Value->List Value)(gV:List V->List V->List V):Prop where
 to:∀(s:Shared) (us ws:List Value),K.In s.heap->(g us ws).length=ps.length->BindsTo s fd ⟨us,ks.zip ws⟩ (ps.zip (g us ws))
 rel:∀{vs:List V} {us:List Value} {zs:List V} {ws:List Value},Vals vs us->Vals zs ws->Vals (gV vs zs) (g us ws)
def tCallK(sp:Sp)(gV:List V->List V->List V)(E:XK)(t tk:TA):TE:=λσ H Q=>t σ H λvs H1=>tk σ H1 λzs H2=>sp (gV vs zs) H2 Q E
variable{g:List Value->List Value->List Value}{gV:List V->List V->List V}
end
structure FnScope(N P:List Str)(sc:Scope):Prop where
 kind:sc.kind= .function
 co:sc.isCoroutine=false
 gen:sc.isGenerator=false
 nd:N.Nodup
 pre:N.take P.length=P
 par:∀x∈P,sc.names.lookup x=some .local\/sc.names.lookup x=some .cell
 nofree:∀y∈sc.names,y.2≠ .free
theorem bindL_out{kindOf:Str->Option NameKind}{x:Str}:∀{binds:List (Str×Value)} {m:Str->Option Value},(∀v,(x,v)∉binds)->bindL kindOf binds m x=m x
 |[],_,_=>rfl
 |(n,v)::r,m,h=>by
  unfold bindL
  rw[bindL_out λw hw=>h w (List.mem_cons_of_mem _ hw)]
  split
  .have :x≠n:=by rintro rfl;exact h v List.mem_cons_self
   simp[this]
  .rfl
theorem bindC_out{kindOf:Str->Option NameKind}{x:Str}:∀{binds:List (Str×Value)} {m:Str->Option Value},(∀v,(x,v)∉binds)->bindC kindOf binds m x=m x
 |[],_,_=>rfl
 |(n,v)::r,m,h=>by
  unfold bindC
  rw[bindC_out λw hw=>h w (List.mem_cons_of_mem _ hw)]
  split
  .rfl
  .have :x≠n:=by rintro rfl;exact h v List.mem_cons_self
   simp[this]
theorem bindL_get{kindOf:Str->Option NameKind}{x:Str}{v:Value}:∀{P:List Str} {vs:List Value} {i:Nat} {m:Str->Option Value},P.Nodup->P[i]? =some x->vs[i]? =some v->kindOf x=some .local->
  bindL kindOf (P.zip vs) m x=some v
 |[],_,_,_,_,h,_,_=>by simp at h
 |_::_,[],_,_,_,_,h,_=>by simp at h
 |p::P,w::vs,0,m,nd,h1,h2,hk=>by
  simp at h1 h2;subst h1;subst h2
  show bindL kindOf ((p,w)::P.zip vs) m p=_
  unfold bindL
  rw[bindL_out λv hv=>(List.nodup_cons.mp nd).1 (List.of_mem_zip hv).1,if_pos hk]
  simp
 |p::P,w::vs,i+1,m,nd,h1,h2,hk=>by
  show bindL kindOf ((p,w)::P.zip vs) m x=_
  unfold bindL
  exact bindL_get (i:=i) (List.nodup_cons.mp nd).2 (by simpa using h1) (by simpa using h2) hk
theorem bindC_get{kindOf:Str->Option NameKind}{x:Str}{v:Value}:∀{P:List Str} {vs:List Value} {i:Nat} {m:Str->Option Value},P.Nodup->P[i]? =some x->vs[i]? =some v->kindOf x≠some .local->
  bindC kindOf (P.zip vs) m x=some v
 |[],_,_,_,_,h,_,_=>by simp at h
 |_::_,[],_,_,_,_,h,_=>by simp at h
 |p::P,w::vs,0,m,nd,h1,h2,hk=>by
  simp at h1 h2;subst h1;subst h2
  show bindC kindOf ((p,w)::P.zip vs) m p=_
  unfold bindC
  rw[bindC_out λv hv=>(List.nodup_cons.mp nd).1 (List.of_mem_zip hv).1,if_neg hk]
  simp
 |p::P,w::vs,i+1,m,nd,h1,h2,hk=>by
  show bindC kindOf ((p,w)::P.zip vs) m x=_
  unfold bindC
  exact bindC_get (i:=i) (List.nodup_cons.mp nd).2 (by simpa using h1) (by simpa using h2) hk
def start(N:List Str)(vs:List V):St:=vs.map some++List.replicate (N.length-vs.length) none
def cxOf(cc:Bool)(CX:CXT)(P:Program)(w:World)(K:PySem.W.Frag)(mg:Str->Option Value)(base:Heap)(N:List Str)(qual:Str)(scope:Scope)(f:Addr)(cd:Value)(A:Around)(outer:List Env)(s:Shared)(H:Hp)(E:XK):Cx where
 prog:=P
 w:=w
 K:=K
 mg:=mg
 base:=base
 A:=A.deeper (envOfC qual scope s.heap.objs.size f cd)
 N:=N
 s₀:=s
 H₀:=H
 env:=envOfC qual scope s.heap.objs.size f cd
 outer:=outer
 stack:=envOfC qual scope s.heap.objs.size f cd::outer
 ex:=[]
 calm:=cc
 fn:=λ_=>true
 pn:=[]
 xe:=λe s'=>wpAny (model P w) (A.deeper (envOfC qual scope s.heap.objs.size f cd)) (leaving (envOfC qual scope s.heap.objs.size f cd) e) (λ_ s''=>CX outer H s E e s'') (λe' s''=>CX outer H s E e' s'') s'
theorem cell_has{sc:Scope}{n:Nat}{x:Str}(h:sc.names.lookup x=some .cell):∃c,(cellsFrom n sc.names []).lookup x=some c:=by
 have q:=PySem.W.cellsFrom_some sc.names n [] (.inl h)
 exact Option.isSome_iff_exists.mp q
theorem inv_start{CX:CXT}{P:Program}{w:World}{K:PySem.W.Frag}{mg:Str->Option Value}{base:Heap}{N ps:List Str}{qual:Str}{scope:Scope}{f:Addr}{cd:Value}{A:Around}{outer:List Env}{s s1:Shared}{H:Hp}{E:XK}{us:List Value}{vs:List V}
  (S:FnScope N ps scope) (hd:cc=true->A.handled=none) (e0:Env0 P w K mg base A outer s H) (hl:vs.length=ps.length) (r:Vals vs us)
  (x:InCallC s s.heap.objs.size (bindL (envOfC qual scope s.heap.objs.size f cd).kindOf (ps.zip us) λ_=>none) (cellsFrom (s.heap.objs.size+1) scope.names []) (bindC (envOfC qual scope s.heap.objs.size f cd).kindOf (ps.zip us) λ_=>none) s1):
  Inv (cxOf cc CX P w K mg base N qual scope f cd A outer s H E) [] (start N vs) H s1:=by
 have hpl:ps.length≤N.length:=by have :=congrArg List.length S.pre;rw[List.length_take]at this;omega
 obtain⟨h1,tk,rfl,hk⟩:=x.done
 have noA:∀b:Addr,b∉(cxOf cc CX P w K mg base N qual scope f cd A outer s H E).ex:=λb z=>absurd (show b∈([]:List Addr)from z) (by simp)
 refine⟨⟨e0.mod,S.kind,rfl,rfl,Nat.le_refl _,λy z c h1 h2=>?_,λy hy=>?_,λy c _ h=>?_,hd,Around.frames_deeper e0.frames,.inr ⟨rfl,rfl⟩,λb z=>absurd z (noA b),e0.bs,e0.bsz,λb _ _=>noA b,λb z=>absurd z (noA b),e0.funs,e0.frf⟩,
  rfl,e0.bare,Un.kept hk,⟨_,x.toInCall.ns,λi y v h1 h2 h3=>?_⟩,λy c h=>⟨_,x.cell y c h⟩,e0.hok.fresh (Nat.le_refl _),λy c h=>?_,λp hp=>absurd (show p∈([]:List (Addr×Obj))from hp) (by simp),e0.hok.kept hk,?_⟩
 .exact name_of_addr x.apart (PySem.mem_of_lookup h1) (PySem.mem_of_lookup h2)
 .have hy:scope.names.lookup y=some .cell\/scope.names.lookup y=some .free:=hy
  rcases hy with hy |hy
  .exact cell_has hy
  .exact absurd rfl (S.nofree _ (PySem.mem_of_lookup hy))
 .exact Nat.le_of_lt (x.above y c (PySem.mem_of_lookup h))
 .have hi:i<vs.length:=by
   unfold start at h2
   by_cases hi:i<vs.length
   .exact hi
   .rw[List.getElem?_append_right (by simpa using hi)]at h2
    rw[List.getElem?_replicate]at h2
    split at h2<;>cases h2
  have ha:vs[i]? =some v:=by
   unfold start at h2
   rw[List.getElem?_append_left (by simpa using hi),List.getElem?_map]at h2
   cases e:vs[i]? with
   |none=>rw[e]at h2;cases h2
   |some a=>rw[e]at h2;cases h2;rfl
  obtain⟨u,hu,rv⟩:=r.get ha
  have hp:ps[i]? =some y:=by
   rw[<-S.pre,List.getElem?_take_of_lt (by omega)];exact h1
  have ndP:ps.Nodup:=by rw[<-S.pre];exact S.nd.sublist (List.take_sublist _ _)
  refine⟨u,rv,?_⟩
  rcases S.par y (List.mem_of_getElem? hp)with k |k
  .exact .inl ⟨k,bindL_get ndP hp hu k⟩
  .obtain⟨c,e⟩:=cell_has (n:=s.heap.objs.size+1) k
   refine .inr ⟨.inl k,c,e,?_⟩
   have q:=x.cell y c e
   rw[bindC_get ndP hp hu (by show scope.names.lookup y≠_;rw[k];decide)]at q
   exact q
 .exact e0.hok.fresh (Nat.le_of_lt (x.above y c (PySem.mem_of_lookup h)))
 .unfold start
  show _=N.length
  rw[List.length_append,List.length_map,List.length_replicate]
  omega
theorem fn_of{CX:CXT}{P:Program}{w:World}{K:PySem.W.Frag}{mg:Str->Option Value}{base:Heap}{k:Nat}{f:Addr}{name qual:Str}{params:Arguments}{body:List Stmt}{scope:Scope}{dV kV doc pm cdv ct oc:Value}{an od:Option Addr}
  {osl:Array (Option Value)} {N ps:List Str} {sp:Sp} (lk:K.lookup f=some ⟨oc,od,.func (PySem.W.fnOf name qual params body scope dV kV doc pm an cdv ct),osl⟩) (hcd:PySem.W.codeIn K cdv qual=true) (S:FnScope N ps scope)
  (len:∀vs H Q E,sp vs H Q E->vs.length=ps.length)
  (hbody:∀(A:Around) (outer:List Env) (s:Shared) (H:Hp) (vs:List V) (Q:VK) (E:XK),Room cc k (A.deeper (envOfC qual scope s.heap.objs.size f cdv))->sp vs H Q E->
   ∃t,PSs (cxOf cc CX P w K mg base N qual scope f cdv A outer s H E) body t/\t {nx:=λ_ H'=>Q .non H',rt:=Q} (start N vs) H):
  FnOk P w K mg base CX cc (k+1) f (PySem.W.fnOf name qual params body scope dV kV doc pm an cdv ct) ps sp:=by
 refine⟨len,λA outer s H args us vs Q E hr e0 hb r hsp=>?_⟩
 have hl:=len _ _ _ _ hsp
 have KX:K.In s.heap:=e0.mod.kin.keeps λb o e=>(e0.bs b o e).1
 have lim:s.heap.NoLimit:=e0.mod.nolimit.keeps λb o e=>(e0.bs b o e).1
 have hkind:∀y∈ps.zip us,scope.names.lookup y.1=some .local\/(scope.names.lookup y.1=some .cell/\((cellsFrom (s.heap.objs.size+1) scope.names []).lookup y.1).isSome=true):=λ⟨n,v⟩ hy=>by
  rcases S.par n (List.of_mem_zip hy).1 with q |q
  .exact .inl q
  .exact .inr ⟨q,PySem.W.cellsFrom_some _ _ _ (.inl q)⟩
 refine codeAny_call_function hr.depth (KX _ _ lk) rfl S.co S.gen rfl (PySem.W.codeRec_of KX hcd) (hb _ _ _ _ ?_)
 refine wpAny_newFunctionEnv_cells S.kind hkind λenv he s1 x=>?_
 subst he
 refine⟨lim.keeps x.toInCall.keep,codeAny_func ?_⟩
 obtain⟨t,ht,hq⟩:=hbody A outer s H vs Q E (hr.deeper _) hsp
 have I:Inv (cxOf cc CX P w K mg base N qual scope f cdv A outer s H E) [] (start N vs) H s1:=inv_start S hr.hd e0 hl r x
 refine wpAny_mono (ht [] s1 (start N vs) H _ I hq) (λfl s' hs=>?_) λe s' hs=>hs
 have fin:∀{σ':St} {H':Hp} {v:V} {u:Value},Inv (cxOf cc CX P w K mg base N qual scope f cdv A outer s H E) [] σ' H' s'->RelV v u->Q v H'->CE outer P w H s Q u s':=
  λ{σ' H' v u} J rv q=>⟨v,H',J.os,J.bare,J.base,J.hok,rv,q⟩
 cases fl with
 |ret u=>
  obtain⟨v,σ',H',J,rv,q⟩:=hs
  exact fin J rv q
 |next=>
  obtain⟨σ',H',J,q⟩:=hs
  exact fin (v:=V.non) (u:=Value.none) J rfl q
 |brk=>
  obtain⟨_,_,_,q⟩:=hs
  exact False.elim q
 |cont=>
  obtain⟨_,_,_,q⟩:=hs
  exact False.elim q
end L2
namespace L2
open PySem PySem.Spec PyProof.Rows
section
variable{X:Cx}{x:Str}{p pos:Pos}{e:Expr}{es:List Expr}{t:TA}{id T:String}{r:List V->Hp->VK->Prop}
def tCB(r:List V->Hp->VK->Prop)(t:TA):TE:=λσ H Q=>t σ H λvs H1=>r vs H1 Q
theorem pe_callB(hc:CallR X (.builtin id) r)(hg:Gl X x)(hm:X.mg x=none)(hv:bootBuiltins x=some (.builtin id))(ha:PA X (e::es) t)(hn:x≠"__name__":=by decide)(hdb:(x==("__debug__":Str))=false:=by decide)
  (he:starEach (e::es) X.env=(false,eval e X.env)::starEach es X.env:=by rfl) (hpl:(backTo pos (starEach es X.env)).any (·.1)=false:=by rfl):PE X (.Call (.Name x p) (e::es) [] pos) (tCB r t):=by
 intro pins s σ H Q I h
 refine wpAny_Call_Name_kw (ld_blt I hg hm hv ?_ hn hdb)
 exact PyProof.Rows.callWith_builtin1 (thn (ha pos pins s σ H _ I h) λus s1 ⟨vs,H1,I1,r1,q1⟩=>hc pins s1 σ H1 vs us Q I1 r1 q1) he hpl
theorem pe_callTy(hc:CallR X (.type T) r)(hg:Gl X x)(hm:X.mg x=none)(hv:bootBuiltins x=some (.type T))(ha:PA X (e::es) t)(hn:x≠"__name__":=by decide)(hdb:(x==("__debug__":Str))=false:=by decide)
  (he:starEach (e::es) X.env=(false,eval e X.env)::starEach es X.env:=by rfl) (hpl:(backTo pos (starEach es X.env)).any (·.1)=false:=by rfl):PE X (.Call (.Name x p) (e::es) [] pos) (tCB r t):=by
 intro pins s σ H Q I h
 refine wpAny_Call_Name_kw (ld_blt I hg hm hv ?_ hn hdb)
 exact PyProof.Rows.callWith_type1 (thn (ha pos pins s σ H _ I h) λus s1 ⟨vs,H1,I1,r1,q1⟩=>hc pins s1 σ H1 vs us Q I1 r1 q1) he hpl
end
end L2
namespace HT
open PySem PyProof.Rows
def lexLt:List Int->List Int->Bool
 |[],[]=>false
 |[],_::_=>true
 |_::_,[]=>false
 |x::xs,y::ys=>if x=y then lexLt xs ys else decide (x<y)
section
open PySem.SeqAt
open PySem.AutoSeq1 (wpAny_loadPart')
open PySem.MeetsSeq PySem.MeetsSeq2 PySem.MeetsSeq3
end
section
variable{prog:Program}{w:World}{A:Around}{E:Value->Shared->Prop}{s:Shared}
def sIx(n d:Nat):Option Int->Nat
 |none=>d
 |some v=>if v<0 then(v+(n:Int)).toNat else min v.toNat n
theorem sIx_none(n d:Nat):sIx n d none=d:=rfl
theorem sIx_nat(n d k:Nat):sIx n d (some (k:Int))=min k n:=by
 show(if(k:Int)<0 then((k:Int)+(n:Int)).toNat else min (k:Int).toNat n)=min k n
 rw[if_neg (by omega),Int.toNat_natCast]
theorem sIx_le(n d:Nat)(hd:d≤n)(o:Option Int):sIx n d o≤n:=by
 cases o with
 |none=>exact hd
 |some v=>
  show(if v<0 then(v+(n:Int)).toNat else min v.toNat n)≤n
  by_cases hv:v<0
  .rw[if_pos hv];omega
  .rw[if_neg hv];exact Nat.min_le_right _ _
theorem clip_eq(v:Int)(n d:Nat):(if v<0 then max (v+(n:Int)) 0 else min v (n:Int))=((sIx n d (some v):Nat):Int):=by
 show(if v<0 then max (v+(n:Int)) 0 else min v (n:Int))=(((if v<0 then(v+(n:Int)).toNat else min v.toNat n):Nat):Int)
 by_cases hv:v<0
 .simp only[if_pos hv];omega
 .simp only[if_neg hv];omega
end
end HT
namespace L2
open PySem PySem.Spec PyProof.Rows
abbrev TO:=St->Hp->(Option Int->Hp->Prop)->Prop
def PO(X:Cx)(e:Option Expr)(t:TO):Prop:=
 ∀(pins:List (Addr×Obj)) (s:Shared) (σ:St) (H:Hp) (Q:Option Int->Hp->Prop),Inv X pins σ H s->t σ H Q->
  wpAny (model X.prog X.w) X.A (evalPart e X.env) (λu s'=>∃o H',Inv X pins σ H' s'/\IsPart u o/\Q o H') X.xe s
def tNoPart:TO:=λ_ H Q=>Q none H
def tPart(t:TE):TO:=λσ H Q=>t σ H λx H1=>∃i,x= .int i/\Q (some i) H1
section
variable{X:Cx}{e:Expr}{te:TE}{lo hi:Option Expr}{tl th:TO}{pos p2:Pos}
theorem po_none:PO X none tNoPart:=by
 intro pins s σ H Q I h
 rw[evalPart_none]
 exact wpAny_pure ⟨none,H,I,.none,h⟩
theorem po_some(h:PE X e te):PO X (some e) (tPart te):=by
 intro pins s σ H Q I hw
 rw[evalPart_some]
 refine thn (h pins s σ H _ I hw) λu s1 ⟨x,H1,I1,r1,q1⟩=>?_
 obtain⟨i,rfl,q⟩:=q1
 obtain⟨t,rfl⟩:=r1
 exact⟨some i,H1,I1,.int i t,q⟩
def SlR(X:Cx)(r:V->Option Int->Option Int->Hp->VK->Prop):Prop:=
 ∀(pins:List (Addr×Obj)) (s:Shared) (σ:St) (H:Hp) (x:V) (v vl vu:Value) (lo hi:Option Int) (sl:Addr) (Q:VK),Inv X pins σ H s->RelV x v->s.heap.IsSliceOf sl vl vu .none->IsPart vl lo->IsPart vu hi->r x lo hi H Q->
  ∃T id,typeLookup (.type T) "__getitem__"=pure (some (.builtin id))/\s.TypeIs v T/\wpAny (model X.prog X.w) X.A (getItem v (.ref sl)) (EP X pins σ Q) X.xe s
def tSl(r:V->Option Int->Option Int->Hp->VK->Prop)(te:TE)(tl th:TO):TE:=λσ H Q=>te σ H λx H1=>tl σ H1 λl H2=>th σ H2 λu H3=>r x l u H3 Q
theorem pe_slice{r:V->Option Int->Option Int->Hp->VK->Prop}(hr:SlR X r)(he:PE X e te)(hl:PO X lo tl)(hu:PO X hi th):PE X (.Subscript e (.Slice lo hi none p2) pos) (tSl r te tl th):=by
 intro pins s σ H Q I h
 refine Subscript_ (thn (he pins s σ H _ I h) λv s1 ⟨x,H1,I1,r1,q1⟩=>?_)
 refine wpAny_Slice (thn (hl pins s1 σ H1 _ I1 q1) λvl s2 ⟨l,H2,I2,pl,q2⟩=>thn (hu pins s2 σ H2 _ I2 q2) λvu s3 ⟨u,H3,I3,pu,q3⟩=>?_)
 rw[evalPart_none]
 refine wpAny_pure ?_
 have I4:Inv X pins σ H3 {s3 with heap:=s3.heap.push {cls:=.type "slice",data:=.fields #[vl,vu,.none]}}:=I3.kept (t':=s3.toks) λb ob q=>Heap.get?_push_of_some _ q
 obtain⟨T,id,hT,ht,hg⟩:=hr pins {s3 with heap:=s3.heap.push {cls:=.type "slice",data:=.fields #[vl,vu,.none]}} σ H3 x v vl vu l u s3.heap.objs.size Q I4 r1 (Heap.IsSliceOf.new ..) pl pu q3
 show wpAny (model X.prog X.w) X.A (subscriptTail e (.Slice lo hi none p2) v (.ref s3.heap.objs.size)) (EP X pins σ Q) X.xe {s3 with heap:=s3.heap.push {cls:=.type "slice",data:=.fields #[vl,vu,.none]}}
 exact tail_any (ops:=[.ref s3.heap.objs.size,v]) ht hT hg (by with_unfolding_all rfl)
def cutV(xs:List V)(lo hi:Option Int):List V:=(xs.drop (HT.sIx xs.length 0 lo)).take (HT.sIx xs.length xs.length hi-HT.sIx xs.length 0 lo)
theorem cutV_length(xs:List V)(lo hi:Option Int):(cutV xs lo hi).length≤xs.length:=by
 unfold cutV
 rw[List.length_take,List.length_drop]
 omega
def rSlT(K:PySem.W.Frag):V->Option Int->Option Int->Hp->VK->Prop:=λx lo hi H Q=>∃a xs,x= .ref a/\SqT K H a xs/\
 ¬(HT.sIx xs.length 0 lo=0/\HT.sIx xs.length xs.length hi=xs.length)/\∀p,H p=none->Q (.ref p) (upd H p (.tup (cutV xs lo hi)))
def rLtT(K:PySem.W.Frag):R2:=λx y H Q=>∃a b ns ms,x= .ref a/\y= .ref b/\SqT K H a (ns.map V.int)/\SqT K H b (ms.map V.int)/\Q (.bl (HT.lexLt ns ms)) H
def rCatT(K:PySem.W.Frag):R2:=λx y H Q=>∃a b xs ys,x= .ref a/\y= .ref b/\SqT K H a xs/\SqT K H b ys/\xs≠[]/\xs.length+ys.length≤sizeLine/\
 (ys=[]->Q (.ref a) H)/\(ys≠[]->∀p,H p=none->Q (.ref p) (upd H p (.tup (xs++ys))))
end
end L2
namespace L2
open PySem PySem.Spec PyProof.Rows
def ixN(n:Nat)(i:Int):Option Nat:=if 0≤i then(if i<n then some i.toNat else none)else if -(n:Int)≤i then some (i+n).toNat else none
def atI{α:Type}(xs:List α)(i:Int):Option α:=(ixN xs.length i).bind λj=>xs[j]?
theorem ixN_seq{n:Nat}{i:Int}{j:Nat}(h:ixN n i=some j):seqIndex? i n=some j/\j<n/\ -(n:Int)≤i/\i<n:=by
 unfold ixN at h
 by_cases h0:0≤i
 .rw[if_pos h0]at h
  by_cases h1:i<n
  .rw[if_pos h1]at h
   have e:i.toNat=j:=Option.some.inj h
   exact⟨by rw[seqIndex_of h0 h1,e],by omega,by omega,h1⟩
  .rw[if_neg h1]at h;cases h
 .rw[if_neg h0]at h
  by_cases h1: -(n:Int)≤i
  .rw[if_pos h1]at h
   have e:(i+n).toNat=j:=Option.some.inj h
   exact⟨by rw[seqIndex_neg (by omega) h1,e],by omega,h1,by omega⟩
  .rw[if_neg h1]at h;cases h
theorem atI_get{α:Type}{xs:List α}{i:Int}{v:α}(h:atI xs i=some v):∃j,seqIndex? i xs.length=some j/\xs[j]? =some v/\j<xs.length/\ -(xs.length:Int)≤i/\i<xs.length:=by
 unfold atI at h
 cases e:ixN xs.length i with
 |none=>rw[e]at h;cases h
 |some j=>
  rw[e]at h
  obtain⟨h1,h2,h3,h4⟩:=ixN_seq e
  exact⟨j,h1,h,h2,h3,h4⟩
theorem atI_nat{α:Type}{xs:List α}{j:Nat}{v:α}(h:xs[j]? =some v):atI xs (j:Int)=some v:=by
 have hj:j<xs.length:=(List.getElem?_eq_some_iff.mp h).1
 have e:ixN xs.length (j:Int)=some j:=by
  unfold ixN
  rw[if_pos (by omega),if_pos (by omega)];simp
 unfold atI;rw[e];exact h
theorem atI_last{α:Type}(xs:List α)(v:α):atI (xs++[v]) (-1)=some v:=by
 have hl:(xs++[v]).length=xs.length+1:=by simp
 have e:ixN (xs++[v]).length (-1)=some xs.length:=by
  unfold ixN
  rw[hl,if_neg (by decide),if_pos (by omega)]
  congr 1
  omega
 unfold atI
 rw[e]
 show(xs++[v])[xs.length]? =some v
 simp
def PlainIx(b:Expr):Prop:=∀o i,subscripted b false o i=operate [o,i] (getItem o i)
def IxR(X:Cx)(r:R2):Prop:=
 ∀(value slice:Expr) (pins:List (Addr×Obj)) (s:Shared) (σ:St) (H:Hp) (x y:V) (v u:Value) (Q:VK),Inv X pins σ H s->RelV x v->RelV y u->r x y H Q->
  subscripted slice false v u=operate [v,u] (getItem v u)->wpAny (model X.prog X.w) X.A (subscriptTail value slice v u) (EP X pins σ Q) X.xe s
def MtR(X:Cx)(id:String)(r:V->List V->Hp->VK->Prop):Prop:=
 ∀(pins:List (Addr×Obj)) (s:Shared) (σ:St) (H:Hp) (x:V) (xs:List V) (v:Value) (us:List Value) (Q:VK),Inv X pins σ H s->RelV x v->Vals xs us->r x xs H Q->
  wpAny (model X.prog X.w) X.A (call (.builtin id) (v::us)) (EP X pins σ Q) X.xe s
section
variable{X:Cx}{a b:Expr}{ta tb:TE}{pos:Pos}
theorem pe_ix{r:R2}(hr:IxR X r)(ha:PE X a ta)(hb:PE X b tb)(hs:PlainIx b):PE X (.Subscript a b pos) (tOp r ta tb):=by
 intro pins s σ H Q I h
 exact Subscript_ (binT ha hb I h λv u s2 x y H2 I2 rx ry q=>hr a b pins s2 σ H2 x y v u Q I2 rx ry q (hs _ _))
def rIxL(K:PySem.W.Frag):R2:=λx y H Q=>∃p xs i v,x= .ref p/\y= .int i/\SqL K H p xs/\atI xs i=some v/\Q v H
def rIxT(K:PySem.W.Frag):R2:=λx y H Q=>∃p xs i v,x= .ref p/\y= .int i/\SqT K H p xs/\atI xs i=some v/\Q v H
def rIxS:R2:=λx y H Q=>∃z i c,x= .str z/\y= .int i/\z.length≤sizeLine/\atI z.cps.toList i=some c/\Q (.str ⟨#[c]⟩) H
theorem ix_list:IxR X (rIxL X.K):=by
 intro value slice pins s σ H x y v u Q I rx ry h hs
 obtain⟨p,xs,i,z,rfl,rfl,hq,he,q⟩:=h
 cases rx
 obtain⟨t,rfl⟩:=ry
 obtain⟨its,r,pl,hz⟩:=I.list hq
 obtain⟨j,h1,h2,h3,h4,h5⟩:=atI_get he
 obtain⟨w,ew,rw'⟩:=r.get h2
 have hl:=r.length
 have hn:=line63
 have fin:EP X pins σ Q w s:=⟨z,H,I,rw',q⟩
 by_cases h0:0≤i
 .have hj:i.toNat=j:=by
   rw[seqIndex_of h0 h5]at h1
   exact Option.some.inj h1
  exact item_listR pl.isList h0 (by omega) (by rw[hj];simpa using ew) fin hs
 .have hj:(i+(its.toArray.size:Int)).toNat=j:=by
   rw[seqIndex_neg (by omega) h4]at h1
   rw[List.size_toArray, <-hl]
   exact Option.some.inj h1
  exact subscriptTail_builtinR (x:=w) pl.isList.typeIs slot_list_getitem.lookup
   (wpAny_getItem_list_neg (Q:=λr s'=>r=w/\EP X pins σ Q r s') pl.isList (by omega) (by rw[List.size_toArray]<;>omega) (by omega) (by rw[hj];simpa using ew) ⟨rfl,fin⟩) hs
theorem ix_tup:IxR X (rIxT X.K):=by
 intro value slice pins s σ H x y v u Q I rx ry h hs
 obtain⟨p,xs,i,z,rfl,rfl,hq,he,q⟩:=h
 cases rx
 obtain⟨t,rfl⟩:=ry
 obtain⟨its,r,pl,hz⟩:=I.tuple hq
 obtain⟨j,h1,h2,h3,h4,h5⟩:=atI_get he
 obtain⟨w,ew,rw'⟩:=r.get h2
 have hl:=r.length
 have hn:=line63
 have fin:EP X pins σ Q w s:=⟨z,H,I,rw',q⟩
 exact subscriptTail_builtinR (x:=w) pl.typeIs slot_tuple_getitem.lookup
  (getItem_tuple (j:=j) (Q:=λr s'=>r=w/\EP X pins σ Q r s') pl (by omega) (by omega) (by rw[List.size_toArray, <-hl];exact h1) (by simpa using ew) ⟨rfl,fin⟩) hs
theorem ix_str:IxR X rIxS:=by
 intro value slice pins s σ H x y v u Q I rx ry h hs
 obtain⟨z,i,c,rfl,rfl,hz,he,q⟩:=h
 obtain⟨t,rfl⟩:=rx
 obtain⟨t',rfl⟩:=ry
 obtain⟨j,h1,h2,h3,h4,h5⟩:=atI_get he
 have hl:z.cps.toList.length=z.length:=by simp[Str.length]
 rw[hl]at h1 h4 h5
 have hn:=line63
 exact tail_any (typeIs_str s z t) slot_str_getitem.lookup (getItem_str (c:=c) (by
  have e1:decide (i< -(2^63:Int))=false:=decide_eq_false (by omega)
  have e2:decide (i≥2^63)=false:=decide_eq_false (by omega)
  rw[e1,e2,Bool.or_false]) (by rw[h1];simpa using h2) ⟨.str ⟨#[c]⟩,H,I.tok _,⟨_,rfl⟩,q⟩) hs
def rIx(K:PySem.W.Frag):R2:=λx y H Q=>rIxL K x y H Q\/rIxT K x y H Q\/rIxS x y H Q
theorem mapSeq_set(its:List Value)(n j:Nat)(u:Value):Obj.mapSeq (·.setIfInBounds j u) {cls:=.type "list",data:=.seq its.toArray n}={cls:=.type "list",data:=.seq (its.set j u).toArray n}:=by
 simp[Obj.mapSeq]
theorem Inv.lst{pins:List (Addr×Obj)}{σ:St}{H:Hp}{s:Shared}{p:Addr}{xs:List V}(I:Inv X pins σ H s)(h:H p=some (.lst xs)):
  ∃(its:List Value) (n:Nat),Vals xs its/\s.heap.get? p=some {cls:=.type "list",data:=.seq its.toArray n}/\xs.length≤sizeLine:=by
 obtain⟨z,its,n,r,e⟩:=I.hok p _ h
 exact⟨its,n,r,e,z⟩
theorem Inv.lstUpd{pins:List (Addr×Obj)}{σ:St}{H:Hp}{s:Shared}{p:Addr}{xs ys:List V}{its its':List Value}{n n':Nat}{f:Obj->Obj}(I:Inv X pins σ H s)(h:H p=some (.lst xs))
  (ho:s.heap.get? p=some {cls:=.type "list",data:=.seq its.toArray n}) (hf:f {cls:=.type "list",data:=.seq its.toArray n}={cls:=.type "list",data:=.seq its'.toArray n'}) (r:Vals ys its') (hz:ys.length≤sizeLine) (t:Nat):
  Inv X pins σ (upd H p (.lst ys)) {s with heap:=s.heap.update p f,toks:=t}:=by
 have e:(s.heap.update p f).get? p=some {cls:=.type "list",data:=.seq its'.toArray n'}:=by
  rw[Heap.get?_update_self f ho (by rw[hf]<;>rfl),hf]
 refine I.write (x:=p) (e:=p) (by rw[h];trivial) (.inl rfl) (λb u hb q=>(Heap.get?_update_other _ _ (Ne.symm hb)).trans q) ⟨_,e⟩ ?_
 exact⟨hz,its',n',r,e⟩
def rSetL:V->V->V->Hp->(Hp->Prop)->Prop:=λo i v H Q=>∃p xs k j,o= .ref p/\i= .int k/\H p=some (.lst xs)/\ixN xs.length k=some j/\Q (upd H p (.lst (xs.set j v)))
theorem set_list:PSet X rSetL:=by
 intro pins s σ H o i v ov iv u Q I ro ri rv h
 obtain⟨p,xs,k,j,rfl,rfl,hp,hj,q⟩:=h
 cases ro
 obtain⟨t,rfl⟩:=ri
 obtain⟨its,n,r,ho,hz⟩:=I.lst hp
 obtain⟨h1,h2,h3,h4⟩:=ixN_seq hj
 have hl:=r.length
 have hn:=line63
 have I':Inv X pins σ (upd H p (.lst (xs.set j v))) {s with heap:=s.heap.update p (Obj.mapSeq (·.setIfInBounds j u))}:=
  I.lstUpd hp ho (mapSeq_set its n j u) (r.set rv j) (by rw[List.length_set];exact hz) s.toks
 by_cases h0:0≤k
 .have hk:k.toNat=j:=by
   rw[seqIndex_of h0 h4]at h1
   exact Option.some.inj h1
  exact PySem.W.ki_setAt ho h0 (by omega) (by rw[List.size_toArray, <-hl];exact h4) (by rw[hk];exact⟨_,I',q⟩)
 .have hk:(k+(its.toArray.size:Int)).toNat=j:=by
   rw[seqIndex_neg (by omega) h3]at h1
   rw[List.size_toArray, <-hl]
   exact Option.some.inj h1
  exact PySem.W.ki_setBack ho (by omega) (by rw[List.size_toArray, <-hl];exact h3) (by omega) (by rw[hk];exact⟨_,I',q⟩)
theorem slice_bounds(lo hi:Option Int)(n:Nat):(sliceBounds lo hi none n).1=((HT.sIx n 0 lo:Nat):Int)/\(sliceBounds lo hi none n).2.1=((HT.sIx n n hi:Nat):Int)/\(sliceBounds lo hi none n).2.2=1:=by
 refine⟨?_,?_,rfl⟩
 .cases lo with
  |none=>simp[sliceBounds,HT.sIx]
  |some i=>
   simp only[sliceBounds,HT.sIx,Option.getD_none,show(1:Int)>0 by decide,if_true]
   by_cases h:i<0
   .simp only[h,if_true]<;>omega
   .simp only[h,if_false]<;>omega
 .cases hi with
  |none=>simp[sliceBounds,HT.sIx]
  |some i=>
   simp only[sliceBounds,HT.sIx,Option.getD_none,show(1:Int)>0 by decide,if_true]
   by_cases h:i<0
   .simp only[h,if_true]<;>omega
   .simp only[h,if_false]<;>omega
theorem slicePick_cut(its:List Value)(lo hi:Option Int):slicePick its.toArray lo hi none=((its.drop (HT.sIx its.length 0 lo)).take (HT.sIx its.length its.length hi-HT.sIx its.length 0 lo)).toArray:=by
 obtain⟨h1,h2,h3⟩:=slice_bounds lo hi its.toArray.size
 unfold slicePick
 rw[h1,h2,h3]
 simp only[sliceRange_one,pick_run,List.size_toArray]<;>rfl
def rSlL(K:PySem.W.Frag):V->Option Int->Option Int->Hp->VK->Prop:=λx lo hi H Q=>∃a xs,x= .ref a/\SqL K H a xs/\∀p,H p=none->Q (.ref p) (upd H p (.lst (cutV xs lo hi)))
theorem sl_list:SlR X (rSlL X.K):=by
 intro pins s σ H x v vl vu lo hi sl Q I rx hs pl pu h
 obtain⟨a,xs,rfl,hx,q⟩:=h
 cases rx
 obtain⟨its,r,ht,hz⟩:=I.list hx
 have hlen:=r.length
 refine⟨"list",_,slot_list_getitem.lookup,ht.isList.typeIs,?_⟩
 refine wpAny_getItem_list_slice ht.isList hs pl pu .none (by simp) ?_ (by rw[List.size_toArray]<;>omega)
 rw[slicePick_cut, <-hlen]
 refine⟨.ref s.heap.objs.size,_,I.laid (t':=s.toks) (o:=.lst (cutV xs lo hi)) (λb ob q=>Heap.get?_push_of_some _ q) (Nat.le_refl _) ?_,rfl,q _ (I.hok.fresh (Nat.le_refl _))⟩
 exact⟨Nat.le_trans (cutV_length xs lo hi) hz,_,0,(r.drop (HT.sIx xs.length 0 lo)).take (HT.sIx xs.length xs.length hi-HT.sIx xs.length 0 lo),Heap.get?_push_size _ rfl⟩
def flatV:V->Bool
 | .non=>true
 | .bl _=>true
 | .int _=>true
 | .str _=>true
 |_=>false
def eqV:V->V->Bool
 | .non,.non=>true
 | .bl a,.bl b=>a==b
 | .bl a,.int b=>(if a then 1 else 0)==b
 | .int a,.bl b=>a==(if b then 1 else 0)
 | .int a,.int b=>a==b
 | .str a,.str b=>a==b
 |_,_=>false
theorem eqAt_V{A:Around}{s:Shared}{y x:V}{u v:Value}(ry:RelV y u)(rx:RelV x v)(fy:flatV y=true)(fx:flatV x=true):SeqAt.EqAt A s u v (eqV y x):=by
 cases y with
 |non=>
  cases ry
  cases x with
  |non=>cases rx;exact SeqAt.EqAt.same _
  |bl b=>cases rx;exact SeqAt.EqAt.none_bool b
  |int b=>obtain⟨t,rfl⟩:=rx;exact SeqAt.EqAt.none_int b t
  |str b=>obtain⟨t,rfl⟩:=rx;exact SeqAt.EqAt.none_str b t
  |_=>exact absurd (show false=true from fx) Bool.false_ne_true
 |bl a=>
  cases ry
  cases x with
  |non=>cases rx;exact SeqAt.EqAt.bool_none a
  |bl b=>cases rx;exact SeqAt.EqAt.bool_bool a b
  |int b=>obtain⟨t,rfl⟩:=rx;exact SeqAt.EqAt.bool_int a b t
  |str b=>obtain⟨t,rfl⟩:=rx;exact SeqAt.EqAt.bool_str a b t
  |_=>exact absurd (show false=true from fx) Bool.false_ne_true
 |int a=>
  obtain⟨t',rfl⟩:=ry
  cases x with
  |non=>cases rx;exact SeqAt.EqAt.int_none a t'
  |bl b=>cases rx;exact SeqAt.EqAt.int_bool a t' b
  |int b=>obtain⟨t,rfl⟩:=rx;exact SeqAt.EqAt.int_int a t' b t
  |str b=>obtain⟨t,rfl⟩:=rx;exact SeqAt.EqAt.int_str a t' b t
  |_=>exact absurd (show false=true from fx) Bool.false_ne_true
 |str a=>
  obtain⟨t',rfl⟩:=ry
  cases x with
  |non=>cases rx;exact SeqAt.EqAt.str_none a t'
  |bl b=>cases rx;exact SeqAt.EqAt.str_bool a t' b
  |int b=>obtain⟨t,rfl⟩:=rx;exact SeqAt.EqAt.str_int a t' b t
  |str b=>obtain⟨t,rfl⟩:=rx;exact SeqAt.EqAt.str_str a t' b t
  |_=>exact absurd (show false=true from fx) Bool.false_ne_true
 |_=>exact absurd (show false=true from fy) Bool.false_ne_true
def eqU(x:V)(u:Value):Bool:=match u with
 | .none=>eqV .non x
 | .bool b=>eqV (.bl b) x
 | .int i _=>eqV (.int i) x
 | .str z _=>eqV (.str z) x
 |_=>false
theorem eqU_of{x y:V}{u:Value}(r:RelV y u)(f:flatV y=true):eqU x u=eqV y x:=by
 cases y with
 |non=>cases r;rfl
 |bl b=>cases r;rfl
 |int i=>obtain⟨t,rfl⟩:=r;rfl
 |str z=>obtain⟨t,rfl⟩:=r;rfl
 |_=>exact absurd (show false=true from f) Bool.false_ne_true
theorem any_eqU{x:V}:∀{xs:List V} {us:List Value},Vals xs us->xs.all flatV=true->us.any (eqU x)=xs.any λy=>eqV y x
 |_,_,.nil,_=>rfl
 |y::xs,u::us,.cons r t,f=>by
  rw[List.all_cons,Bool.and_eq_true]at f
  rw[List.any_cons,List.any_cons,eqU_of r f.1,any_eqU t f.2]
theorem mem_eqAt{A:Around}{s:Shared}{x:V}{v:Value}(rx:RelV x v)(fx:flatV x=true):∀{xs:List V} {us:List Value},Vals xs us->xs.all flatV=true->∀u∈us,SeqAt.EqAt A s u v (eqU x u)
 |_,_,.nil,_=>λu hu=>by cases hu
 |y::xs,u::us,.cons r t,f=>λu' hu=>by
  rw[List.all_cons,Bool.and_eq_true]at f
  rcases List.mem_cons.mp hu with rfl |hu
  .rw[eqU_of r f.1];exact eqAt_V r rx f.1 fx
  .exact mem_eqAt rx fx t f.2 u' hu
def inV(x:V)(xs:List V):Bool:=xs.any λy=>eqV y x
def rIn(K:PySem.W.Frag)(neg:Bool):R2:=λx y H Q=>∃p xs,y= .ref p/\(SqL K H p xs\/SqT K H p xs)/\flatV x=true/\xs.all flatV=true/\Q (.bl (if neg then !inV x xs else inV x xs)) H
theorem op_in_seq:OpR X (compareOp .In) (rIn X.K false):=by
 intro pins s σ H x y v u Q I rx ry h
 obtain⟨p,xs,rfl,hq,fx,fs,q⟩:=h
 cases ry
 rcases hq with hq |hq
 .obtain⟨its,r,pl,hz⟩:=I.list hq
  refine SeqAt.in_listAt (eqU x) pl.isList (λw hw=>mem_eqAt rx fx r fs w (by simpa using hw)) ⟨.bl _,H,I,rfl,?_⟩
  rw[show its.toArray.any (eqU x)=its.any (eqU x)by simp,any_eqU r fs]
  exact q
 .obtain⟨its,r,pl,hz⟩:=I.tuple hq
  refine SeqAt.in_tupleAt (eqU x) pl (λw hw=>mem_eqAt rx fx r fs w (by simpa using hw)) ⟨.bl _,H,I,rfl,?_⟩
  rw[show its.toArray.any (eqU x)=its.any (eqU x)by simp,any_eqU r fs]
  exact q
theorem call_len_seq:CallR X (.builtin "len") (λxs H Q=>∃p ys,xs=[.ref p]/\(SqL X.K H p ys\/SqT X.K H p ys)/\Q (.int ys.length) H):=by
 intro pins s σ H xs us Q I r h
 obtain⟨p,ys,rfl,hq,q⟩:=h
 obtain⟨u,rfl,rx⟩:=vals1 r
 cases rx
 have hn:=line63
 rcases hq with hq |hq
 .obtain⟨its,r',pl,hz⟩:=I.list hq
  have hlen:=r'.length
  exact Calls.call_len_list pl.isList (by simp only[List.size_toArray]<;>omega) ⟨.int ys.length,H,I.tok _,⟨s.toks+1,by rw[List.size_toArray,hlen]⟩,q⟩
 .obtain⟨its,r',pl,hz⟩:=I.tuple hq
  have hlen:=r'.length
  exact len_tuple pl (by simp only[List.size_toArray]<;>omega) ⟨.int ys.length,H,I.tok _,⟨s.toks+1,by rw[List.size_toArray,hlen]⟩,q⟩
theorem call_len_str:CallR X (.builtin "len") (λxs H Q=>∃z,xs=[.str z]/\z.length≤sizeLine/\Q (.int z.length) H):=by
 intro pins s σ H xs us Q I r h
 obtain⟨z,rfl,hz,q⟩:=h
 obtain⟨u,rfl,t,rfl⟩:=vals1 r
 have hn:=line63
 exact len_str (by omega) ⟨.int z.length,H,I.tok _,⟨_,rfl⟩,q⟩
theorem call_list_of:CallR X (.type "list") (λxs H Q=>∃p ys,xs=[.ref p]/\(SqL X.K H p ys\/SqT X.K H p ys)/\∀l,H l=none->Q (.ref l) (upd H l (.lst ys))):=by
 intro pins s σ H xs us Q I r h
 obtain⟨p,ys,rfl,hq,q⟩:=h
 obtain⟨u,rfl,rx⟩:=vals1 r
 cases rx
 have fin:∀(its:List Value),Vals ys its->ys.length≤sizeLine->∀(h':Heap) (c':Nat),(∀b o',s.heap.get? b=some o'->h'.get? b=some o')->
   h'.get? s.heap.objs.size=some {cls:=.type "list",dict:=none,data:=.seq its.toArray c',slots:= #[]}->EP X pins σ Q (.ref s.heap.objs.size) {s with heap:=h'}:=λits r' hz h' c' kp e=>
  ⟨.ref s.heap.objs.size,_,I.laid (t':=s.toks) kp (Nat.le_refl _) (show ObjOk X.prog X.w _ h' _ (.lst ys)from⟨hz,its,c',r',e⟩),rfl,q _ (I.hok.fresh (Nat.le_refl _))⟩
 rcases hq with hq |hq
 .obtain⟨its,r',pl,hz⟩:=I.list hq
  have hlen:=r'.length
  obtain⟨o,ho,hc,n,hd⟩:=pl.isList
  exact call_list_seq p (.inl rfl) ho hc hd (λh' c' kp e=>fin its r' hz h' c' kp e) (by simp only[List.size_toArray]<;>omega)
 .obtain⟨its,r',pl,hz⟩:=I.tuple hq
  have hlen:=r'.length
  obtain⟨o,ho,hc,n,hd⟩:=pl
  exact call_list_seq p (.inr rfl) ho hc hd (λh' c' kp e=>fin its r' hz h' c' kp e) (by simp only[List.size_toArray]<;>omega)
def tyV(K:PySem.W.Frag)(T:String)(x:V)(H:Hp):Prop:=match x with
 | .str _=>T="str"
 | .int _=>T="int"
 | .ref p=>(T="list"/\∃xs,SqL K H p xs)\/(T="tuple"/\∃o,K.lookup p=some o/\o.cls= .type "tuple"/\o.dict=none)\/
   (T="dict"/\((∃kvs,H p=some (.dK kvs))\/∃kvs,H p=some (.dT kvs)))\/(T="set"/\∃S n,H p=some (.set S n))
 |_=>False
theorem tyV_is{pins:List (Addr×Obj)}{σ:St}{H:Hp}{s:Shared}{T:String}{x:V}{v:Value}(I:Inv X pins σ H s)(r:RelV x v)(ty:tyV X.K T x H):
  s.TypeIs v T/\∀a,v= .ref a->∃ob,s.heap.get? a=some ob/\ob.dict=none:=by
 cases x with
 |str z=>
  obtain⟨t,rfl⟩:=r
  cases(show T="str" from ty)
  exact⟨typeIs_str s z t,λ_ e=>nomatch e⟩
 |int i=>
  obtain⟨t,rfl⟩:=r
  cases(show T="int" from ty)
  exact⟨typeIs_int s i t,λ_ e=>nomatch e⟩
 |ref p=>
  cases r
  rcases ty with⟨rfl,xs,hq⟩ |⟨rfl,o,hk,hc,hd⟩ |⟨rfl,hk⟩ |⟨rfl,S,n,hk⟩
  .obtain⟨its,_,pl,_⟩:=I.list hq
   refine⟨pl.isList.typeIs,λa e=>?_⟩
   cases e
   obtain⟨o,n,e,c,hd,_⟩:=pl
   exact⟨o,e,hd⟩
  .refine⟨⟨o,I.kIn p o hk,hc⟩,λa e=>?_⟩
   cases e
   exact⟨o,I.kIn _ o hk,hd⟩
  .have z:∃o,s.heap.get? p=some o/\o.ExactDict:=by
    rcases hk with⟨kvs,hk⟩ |⟨kvs,hk⟩
    .obtain⟨_,_,_,_,o,_,_,e,ex,_⟩:=I.hok p _ hk
     exact⟨o,e,ex⟩
    .obtain⟨_,_,_,_,o,_,_,e,ex,_⟩:=I.hok p _ hk
     exact⟨o,e,ex⟩
   obtain⟨o,e,ex⟩:=z
   refine⟨⟨o,e,ex.1⟩,λa e2=>?_⟩
   cases e2
   exact⟨o,e,ex.2.1⟩
  .obtain⟨o,_,_,_,e,ex,_⟩:=I.hok p _ hk
   refine⟨⟨o,e,ex.1⟩,λa e2=>?_⟩
   cases e2
   exact⟨o,e,ex.2.1⟩
 |_=>exact False.elim ty
def tBM0(K:PySem.W.Frag)(T:String)(r:V->List V->Hp->VK->Prop)(to:TE):TE:=λσ H Q=>to σ H λx H1=>tyV K T x H1/\r x [] H1 Q
def tBM(K:PySem.W.Frag)(T:String)(r:V->List V->Hp->VK->Prop)(to:TE)(t:TA):TE:=λσ H Q=>to σ H λx H1=>tyV K T x H1/\t σ H1 λxs H2=>r x xs H2 Q
variable{o e:Expr}{es:List Expr}{to:TE}{t:TA}{name:Str}{apos cpos:Pos}{T id:String}{r:V->List V->Hp->VK->Prop}
theorem pe_bm0(pa:PlainAttrs T)(slot:Slot T name id)(hty:typeOf (.builtin id)=pure (.type "method_descriptor"))(hm:MtR X id r)(ho:PE X o to)
  (hbase:attributeBase o name X.env (eval o X.env)=eval o X.env:=by rfl) (hline:(apos.endLine==cpos.line)=true:=by rfl):PE X (.Call (.Attribute o name apos) [] [] cpos) (tBM0 X.K T r to):=by
 intro pins s σ H Q I h
 refine wpAny_Call_method0_late hbase hline (thn (ho pins s σ H _ I h) λv s1 ⟨x,H1,I1,r1,ty,q1⟩=>?_)
 obtain⟨h1,h2⟩:=tyV_is I1 r1 ty
 exact⟨T,id,pa,slot,hty,h1,h2,Calls.callWith_builtin rfl (PySem.evalArgs_none (hm pins s1 σ H1 x [] v [] Q I1 r1 .nil q1))⟩
theorem pe_bm(pa:PlainAttrs T)(slot:Slot T name id)(hty:typeOf (.builtin id)=pure (.type "method_descriptor"))(hm:MtR X id r)(ho:PE X o to)(ha:PA X (e::es) t)
  (hbase:attributeBase o name X.env (eval o X.env)=eval o X.env:=by rfl)
  (hfew:((backTo cpos (starEach (e::es) X.env)).all (λx=> !x.1)&&(backToKw cpos (keywordEach [] X.env)).all (λx=>x.1.isSome)
   &&decide ((e::es).length+([]:List Keyword).length+(if([]:List Keyword).isEmpty then 0 else 1)<30))=true:=by rfl)
  (hline:(apos.endLine==cpos.line)=true:=by rfl) (hs:starEach (e::es) X.env=(false,eval e X.env)::starEach es X.env:=by rfl) (hplain:(backTo cpos (starEach es X.env)).any (·.1)=false:=by rfl):
  PE X (.Call (.Attribute o name apos) (e::es) [] cpos) (tBM X.K T r to t):=by
 intro pins s σ H Q I h
 refine wpAny_Call_method_late hbase hfew hline rfl (thn (ho pins s σ H _ I h) λv s1 ⟨x,H1,I1,r1,ty,q1⟩=>?_)
 obtain⟨h1,h2⟩:=tyV_is I1 r1 ty
 refine⟨T,id,pa,slot,hty,h1,h2,?_⟩
 have hA:=ha cpos pins s1 σ H1 _ I1 q1
 rw[hs]at hA⊢
 refine Calls.callWith_builtin (by show(false||(backTo cpos (starEach es X.env)).any (·.1))=false;rw[hplain]<;>rfl) (Calls.evalArgs_plain ?_)
 exact thn hA λus s2 ⟨vs,H2,I2,r2,q2⟩=>hm pins s2 σ H2 x vs v us Q I2 r1 r2 q2
end
end L2
namespace L2
open PySem PySem.Spec PyProof.Rows
def MtM(X:Cx)(id:String)(r:V->List V->Hp->VK->Prop):Prop:=
 ∀(pins:List (Addr×Obj)) (s:Shared) (σ:St) (H:Hp) (x:V) (xs:List V) (v:Value) (us:List Value) (Q:VK),Inv X pins σ H s->RelV x v->Vals xs us->r x xs H Q->
  wpAny (model X.prog X.w) X.A (call (.builtin id) (v::us)) (EP X pins σ Q) X.xe s
theorem Vals.one:∀{x:V} {us:List Value},Vals [x] us->∃u,us=[u]/\RelV x u
 |_,_,.cons r .nil=>⟨_,rfl,r⟩
theorem Vals.two:∀{x y:V} {us:List Value},Vals [x,y] us->∃u v,us=[u,v]/\RelV x u/\RelV y v
 |_,_,_,.cons r (.cons q .nil)=>⟨_,_,rfl,r,q⟩
theorem Vals.zero:∀{us:List Value},Vals [] us->us=[]
 |_,.nil=>rfl
theorem Vals.eraseIdx:∀{xs:List V} {us:List Value} (i:Nat),Vals xs us->Vals (xs.eraseIdx i) (us.eraseIdx i)
 |_,_,_,.nil=>.nil
 |_,_,0,.cons _ t=>t
 |_,_,i+1,.cons r t=>.cons r (Vals.eraseIdx i t)
theorem Vals.reverse{xs:List V}{us:List Value}(h:Vals xs us):Vals xs.reverse us.reverse:=by
 induction h with
 |nil=>exact .nil
 |cons r t ih=>rw[List.reverse_cons,List.reverse_cons];exact Vals.append ih (.cons r .nil)
theorem len_erase{α:Type}:∀(l:List α) (i:Nat),(l.eraseIdx i).length≤l.length
 |[],_=>Nat.le_refl _
 |_::_,0=>Nat.le_succ _
 |_::r,i+1=>Nat.succ_le_succ (len_erase r i)
section
variable{X:Cx}{pins:List (Addr×Obj)}{σ:St}{H:Hp}{s:Shared}{l b:Addr}{xs ys zs:List V}
theorem Inv.lset{its its':List Value}{n:Nat}{f:Array Value->Array Value}{t':Nat}(I:Inv X pins σ H s)(hH:H l=some (.lst xs))
  (e:s.heap.get? l=some {cls:=.type "list",data:=.seq its.toArray n}) (hf:f its.toArray=its'.toArray) (hv:Vals ys its') (hz:ys.length≤sizeLine):
  Inv X pins σ (upd H l (.lst ys)) {s with heap:=s.heap.update l (Obj.mapSeq f),toks:=t'}:=by
 have q:=PySem.IsL.update e f
 rw[hf]at q
 refine I.write (x:=l) (e:=l) (by rw[hH];exact trivial) (.inl rfl) (λb' u hb hu=>(Heap.get?_update_other s.heap (Obj.mapSeq f) (Ne.symm hb)).trans hu) ⟨_,q⟩ ?_
 exact⟨hz,its',_,hv,q⟩
theorem Inv.lnew{its:List Value}{t':Nat}(I:Inv X pins σ H s)(hv:Vals ys its)(hz:ys.length≤sizeLine):
  Inv X pins σ (upd H s.heap.objs.size (.lst ys)) {s with heap:=s.heap.push {cls:=.type "list",data:=.seq its.toArray},toks:=t'}:=
 I.laid (λ_ _ q=>Heap.get?_push_of_some _ q) (Nat.le_refl _) ⟨hz,its,0,hv,Heap.get?_push_size _ rfl⟩
theorem Inv.fresh(I:Inv X pins σ H s):H s.heap.objs.size=none:=I.hok.fresh (Nat.le_refl _)
theorem Inv.lstM(I:Inv X pins σ H s)(hH:H l=some (.lst xs)):xs.length≤sizeLine/\∃(its:List Value) (n:Nat),Vals xs its/\xs.length=its.length/\s.heap.get? l=some {cls:=.type "list",data:=.seq its.toArray n}:=by
 obtain⟨z,its,n,r,e⟩:=I.hok l _ hH
 exact⟨z,its,n,r,r.length,e⟩
end
section
variable{X:Cx}
def rAppend:V->List V->Hp->VK->Prop:=λx vs H Q=>∃l xs y,x= .ref l/\vs=[y]/\H l=some (.lst xs)/\xs.length<sizeLine/\Q .non (upd H l (.lst (xs++[y])))
theorem mt_append:MtM X "list.append" rAppend:=by
 intro pins s σ H x vs v us Q I rx rv h
 obtain⟨l,xs,y,rfl,rfl,hH,hz,q⟩:=h
 cases rx
 obtain⟨u,rfl,ru⟩:=rv.one
 obtain⟨z,its,n,r,hl,e⟩:=I.lstM hH
 refine call_meets F.slot_list_append ⟨_,e,rfl⟩ F.entry_list_append (F.args_list_append_2 _ _) (PySem.list_append l its.toArray n u (by rw[List.size_toArray];omega)) ⟨e,?_⟩
 refine⟨.non,_,I.lset (its':=its++[u]) hH e (by simp) (r.append (.cons ru .nil)) ?_,rfl,q⟩
 rw[List.length_append,List.length_singleton]
 omega
def rExtend:V->List V->Hp->VK->Prop:=λx vs H Q=>∃l b xs zs,x= .ref l/\vs=[.ref b]/\H l=some (.lst xs)/\H b=some (.lst zs)/\xs.length+zs.length≤sizeLine/\Q .non (upd H l (.lst (xs++zs)))
def rPop:V->List V->Hp->VK->Prop:=λx vs H Q=>∃l xs y,x= .ref l/\vs=[]/\H l=some (.lst xs)/\xs[xs.length-1]? =some y/\Q y (upd H l (.lst xs.dropLast))
def rPopAt:V->List V->Hp->VK->Prop:=λx vs H Q=>∃l xs i k y,x= .ref l/\vs=[.int i]/\H l=some (.lst xs)/\ -(2^63)≤i/\i<2^63/\seqIndex? i xs.length=some k/\xs[k]? =some y/\Q y (upd H l (.lst (xs.eraseIdx k)))
theorem mt_popAt:MtM X "list.pop" rPopAt:=by
 intro pins s σ H x vs v us Q I rx rv h
 obtain⟨l,xs,i,k,y,rfl,rfl,hH,h1,h2,hk,hy,q⟩:=h
 cases rx
 obtain⟨u,rfl,ru⟩:=rv.one
 obtain⟨t,rfl⟩:=ru
 obtain⟨z,its,n,r,hl,e⟩:=I.lstM hH
 obtain⟨w,hw,rw'⟩:=r.get hy
 refine call_meets F.slot_list_pop ⟨_,e,rfl⟩ F.entry_list_pop (F.args_list_pop_2 _ _)
  (MeetsSeq.list_pop_at l its.toArray n i t k w (fitsIndex_both h1 h2) (by rw[List.size_toArray, <-hl];exact hk) (by rw[<-Array.getElem?_toList];exact hw) (by rw[List.size_toArray];omega)) ⟨e,?_⟩
 refine⟨y,_,I.lset (its':=its.eraseIdx k) hH e ?_ (r.eraseIdx k) ?_,rw',q⟩
 .show its.toArray.eraseIdxIfInBounds k=(its.eraseIdx k).toArray
  rw[List.eraseIdxIfInBounds_toArray]
 .have :=len_erase xs k
  omega
def rReverse:V->List V->Hp->VK->Prop:=λx vs H Q=>∃l xs,x= .ref l/\vs=[]/\H l=some (.lst xs)/\Q .non (upd H l (.lst xs.reverse))
theorem mt_reverse:MtM X "list.reverse" rReverse:=by
 intro pins s σ H x vs v us Q I rx rv h
 obtain⟨l,xs,rfl,rfl,hH,q⟩:=h
 cases rx
 have hus:=rv.zero
 subst hus
 obtain⟨z,its,n,r,hl,e⟩:=I.lstM hH
 refine call_meets F.slot_list_reverse ⟨_,e,rfl⟩ F.entry_list_reverse (F.args_list_reverse_1 _) (AutoSeq1.list_reverse_list_0 l its.toArray n (by rw[List.size_toArray];omega)) ⟨e,?_⟩
 refine⟨.non,_,I.lset (its':=its.reverse) hH e (by simp) r.reverse ?_,rfl,q⟩
 rw[List.length_reverse]
 omega
def rClear:V->List V->Hp->VK->Prop:=λx vs H Q=>∃l xs,x= .ref l/\vs=[]/\H l=some (.lst xs)/\Q .non (upd H l (.lst []))
def rCat:R2:=λx y H Q=>∃l b xs zs,x= .ref l/\y= .ref b/\H l=some (.lst xs)/\H b=some (.lst zs)/\xs.length+zs.length≤sizeLine/\∀p,H p=none->Q (.ref p) (upd H p (.lst (xs++zs)))
theorem op_cat:OpR X (binaryOp .Add) rCat:=by
 intro pins s σ H x y v u Q I rx ry h
 obtain⟨l,b,xs,zs,rfl,rfl,hH,hB,hz,q⟩:=h
 cases rx
 cases ry
 obtain⟨z,its,n,r,hl,e⟩:=I.lstM hH
 obtain⟨z2,its2,n2,r2,hl2,e2⟩:=I.lstM hB
 refine PySem.P.add_list e e2 ?_ (by rw[List.size_toArray,List.size_toArray];omega)
 have ea:its.toArray++its2.toArray=(its++its2).toArray:=by simp
 rw[ea]
 exact⟨.ref _,_,I.lnew (t':=s.toks) (r.append r2) (by rw[List.length_append];omega),rfl,q _ I.fresh⟩
def rRep:R2:=λx y H Q=>∃l k xs,x= .ref l/\y= .int k/\H l=some (.lst xs)/\ -(2^63)≤k/\k<2^63/\xs.length*k.toNat≤sizeLine/\
 ∀p,H p=none->Q (.ref p) (upd H p (.lst (List.replicate k.toNat xs).flatten))
end
section
variable{prog:Program}{w:World}{A:Around}{E:Value->Shared->Prop}{s:Shared}
end
section
variable{X:Cx}
end
end L2
namespace L2
open PySem PySem.Spec PyProof.Rows
section
variable{κ:Type} [DecidableEq κ]
def valV(kvs:List (κ×V))(k:κ):Option V:=(kvs.find? λkv=>decide (kv.1=k)).map (·.2)
def putK(kvs:List (κ×V))(k:κ)(v:V):List (κ×V):=
 if(kvs.any λkv=>decide (kv.1=k))=true then kvs.map (λkv=>if kv.1=k then(kv.1,v)else kv)else kvs++[(k,v)]
def dropK(kvs:List (κ×V))(k:κ):List (κ×V):=kvs.filter λkv=>decide (kv.1≠k)
end
abbrev KT(H:Hp):List (List Key×V)->List (List Key×Addr×Value)->Prop:=Paired λp q=>p.1=q.1/\H q.2.1=some (.tup (p.1.map kV))/\RelV p.2 q.2.2
section
variable{P:Program}{w:World}{H:Hp}{h:Heap}{a:Addr}
end
def DGet(H:Hp)(a:Addr)(y:V)(r:Option V):Prop:=
 (∃kvs k,Rd H a (.dK kvs)/\y=kV k/\r=valV kvs k)\/∃kvs k b,Rd H a (.dT kvs)/\y= .ref b/\H b=some (.tup (k.map kV))/\r=valV kvs k
def DPut(H:Hp)(a:Addr)(y v:V)(H':Hp):Prop:=
 (∃kvs k,H a=some (.dK kvs)/\y=kV k/\kvs.length<sizeLine/\H'=upd H a (.dK (putK kvs k v)))\/
 ∃kvs k b,H a=some (.dT kvs)/\y= .ref b/\H b=some (.tup (k.map kV))/\kvs.length<sizeLine/\H'=upd H a (.dT (putK kvs k v))
section
variable{X:Cx}{pins:List (Addr×Obj)}{σ:St}{H:Hp}{s:Shared}{a:Addr}{y v:V}{u r:Value}{o:Option V}{A:Around}{E:Value->Shared->Prop}
end
section
variable{X:Cx}{pins:List (Addr×Obj)}{σ:St}{H:Hp}{s:Shared}{a:Addr}{kvs:List (Key×V)}{k:Key}{u:Value}{A:Around}{E:Value->Shared->Prop}
end
def NoSl(i:Expr):Prop:=∀ov iv,subscripted i false ov iv=operate [ov,iv] (getItem ov iv)
def tDGet(td ty:TE):TE:=λσ H Q=>td σ H λx H1=>ty σ H1 λy H2=>∃a v,x= .ref a/\DGet H2 a y (some v)/\Q v H2
def tDIn(ty td:TE):TE:=λσ H Q=>ty σ H λy H1=>td σ H1 λx H2=>∃a o,x= .ref a/\DGet H2 a y o/\Q (.bl o.isSome) H2
def tDNotIn(ty td:TE):TE:=λσ H Q=>ty σ H λy H1=>td σ H1 λx H2=>∃a o,x= .ref a/\DGet H2 a y o/\Q (.bl (!o.isSome)) H2
def sDPut(td ty tv:TE):TS:=λD σ H=>tv σ H λv H1=>td σ H1 λx H2=>ty σ H2 λy H3=>∃a H4,x= .ref a/\DPut H3 a y v H4/\D.nx σ H4
def sDAug(td ty tv:TE)(rd:V->V->Hp->VK->Prop):TS:=λD σ H=>td σ H λx H1=>ty σ H1 λy H2=>∃a v,x= .ref a/\DGet H2 a y (some v)/\
 tv σ H2 λy2 H3=>rd v y2 H3 λz H4=>∃H5,DPut H4 a y z H5/\D.nx σ H5
def sDDel(td ty:TE):TS:=λD σ H=>td σ H λx H1=>ty σ H1 λy H2=>∃a kvs k,x= .ref a/\H2 a=some (.dK kvs)/\y=kV k/\(valV kvs k).isSome=true/\D.nx σ (upd H2 a (.dK (dropK kvs k)))
section
variable{X:Cx}{o i e value:Expr}{pos pos' tpos:Pos}{td ty tv:TE}
end
def tDNewK:TE:=λ_ H Q=>∀p,H p=none->Q (.ref p) (upd H p (.dK []))
def tDNewT:TE:=λ_ H Q=>∀p,H p=none->Q (.ref p) (upd H p (.dT []))
section
variable{X:Cx}{pos:Pos}
end
def tPairs:List (TE×TE)->St->Hp->(List (V×V)->Hp->Prop)->Prop
 |[],_,H,Q=>Q [] H
 |(tk,tv)::r,σ,H,Q=>tk σ H λx H1=>tv σ H1 λy H2=>tPairs r σ H2 λps H3=>Q ((x,y)::ps) H3
abbrev VV:List (V×V)->List (Value×Value)->Prop:=Paired λp q=>RelV p.1 q.1/\RelV p.2 q.2
def PPs(X:Cx)(pos:Pos)(keys:List (Option Expr))(values:List Expr)(trs:List (TE×TE)):Prop:=
 ∀(pins:List (Addr×Obj)) (s:Shared) (σ:St) (H:Hp) (Q:List (V×V)->Hp->Prop),Inv X pins σ H s->tPairs trs σ H Q->
  wpAny (model X.prog X.w) X.A (evalPairs (pairTrees keys values X.env pos)) (λvs s'=>∃ps H',Inv X pins σ H' s'/\VV ps vs/\Q ps H') X.xe s
def mergeK(kvs more:List (Key×V)):List (Key×V):=more.foldl (λacc kv=>putK acc kv.1 kv.2) kvs
def tDisp(trs:List (TE×TE)):TE:=λσ H Q=>∀p,H p=none->tPairs trs σ (upd H p (.dK [])) λps H2=>H2 p=some (.dK [])/\∃kvs:List (Key×V),ps=kvs.map (λkv=>(kV kv.1,kv.2))/\kvs.length≤15/\Q (.ref p) (upd H2 p (.dK (mergeK [] kvs)))
structure M1(X:Cx)(o:Expr)(m:Str)(apos:Pos)(e:Expr)(cpos:Pos):Prop where
 base:attributeBase o m X.env (eval o X.env)=eval o X.env
 few:((backTo cpos (starEach [e] X.env)).all (λx=> !x.1)&&(backToKw cpos (keywordEach [] X.env)).all (λx=>x.1.isSome)
  &&decide (([e]:List Expr).length+([]:List Keyword).length+(if([]:List Keyword).isEmpty then 0 else 1)<30))=true
 line:(apos.endLine==cpos.line)=true
 trees:backTo cpos (starEach [e] X.env)=[(false,eval e X.env)]
structure M2(X:Cx)(o:Expr)(m:Str)(apos:Pos)(e f:Expr)(cpos:Pos):Prop where
 base:attributeBase o m X.env (eval o X.env)=eval o X.env
 few:((backTo cpos (starEach [e,f] X.env)).all (λx=> !x.1)&&(backToKw cpos (keywordEach [] X.env)).all (λx=>x.1.isSome)
  &&decide (([e,f]:List Expr).length+([]:List Keyword).length+(if([]:List Keyword).isEmpty then 0 else 1)<30))=true
 line:(apos.endLine==cpos.line)=true
 trees:backTo cpos (starEach [e,f] X.env)=[(false,eval e X.env),(false,eval f X.env)]
def IsD(H:Hp)(a:Addr):Prop:=(∃kvs,Rd H a (.dK kvs))\/∃kvs,Rd H a (.dT kvs)
section
variable{X:Cx}{pins:List (Addr×Obj)}{σ:St}{H:Hp}{s:Shared}{a:Addr}{y d:V}{u r:Value}{o:Option V}{A:Around}{E:Value->Shared->Prop}
end
def tDGet1(td ty:TE):TE:=λσ H Q=>td σ H λx H1=>∃a,x= .ref a/\IsD H1 a/\ty σ H1 λy H2=>∃o,DGet H2 a y o/\Q (o.getD .non) H2
def tDGet2(td ty tx:TE):TE:=λσ H Q=>td σ H λx H1=>∃a,x= .ref a/\IsD H1 a/\ty σ H1 λy H2=>tx σ H2 λz H3=>∃o,DGet H3 a y o/\Q (o.getD z) H3
def tDPop1(td ty:TE):TE:=λσ H Q=>td σ H λx H1=>∃a,x= .ref a/\IsD H1 a/\ty σ H1 λy H2=>∃kvs k v,H2 a=some (.dK kvs)/\y=kV k/\valV kvs k=some v/\Q v (upd H2 a (.dK (dropK kvs k)))
def tDPop2(td ty tx:TE):TE:=λσ H Q=>td σ H λx H1=>∃a,x= .ref a/\IsD H1 a/\ty σ H1 λy H2=>tx σ H2 λz H3=>∃kvs k,H3 a=some (.dK kvs)/\y=kV k/\
 (∀v,valV kvs k=some v->Q v (upd H3 a (.dK (dropK kvs k))))/\(valV kvs k=none->Q z H3)
section
variable{X:Cx}{o e f:Expr}{apos cpos:Pos}{td ty tx:TE}
end
section
variable{X:Cx}{pins:List (Addr×Obj)}{σ:St}{H:Hp}{s:Shared}{a:Addr}{kvs:List (Key×V)}{A:Around}{E:Value->Shared->Prop}
end
section
variable{X:Cx}{pins:List (Addr×Obj)}{σ:St}{H:Hp}{s:Shared}{a:Addr}{y:V}{u:Value}{A:Around}{E:Value->Shared->Prop}
end
end L2
namespace Att
open PySem PySem.W PySem.Calls PyProof.Rows
theorem ints_of_wellAll{P:Params}{h:Heap}:∀(ns:List Int) (vs:List Value),WellAll P h vs (ns.map WData.int)->IntsAre vs ns:=by
 intro ns
 induction ns with
 |nil=>
  intro vs w
  rw[List.map_nil]at w
  cases w
  exact .nil
 |cons n ns ih=>
  intro vs w
  rw[List.map_cons]at w
  cases w with
  |cons a b=>
   cases a
   exact .cons _ _ (ih _ b)
theorem script_of{l:OpenLaw}{n:Nat}(hn:l.most=some n){P:Params}{h:Heap}{args:List WData}{vals:List Value}
  (hpre:l.row.toRowW.claim.pre args=true) (hwl:WellAll P h vals args):
  ∃a vs ns,vals=[Value.ref a]/\args=[WData.list (ns.map WData.int)]/\h.get? a=some {cls:=.type "list",data:=.seq vs.toArray}/\IntsAre vs ns/\ns.length≤n:=by
 have hsh:WShape.hasAll [] args [.list .int]=true:=(pre_splitW hpre).1
 have hc:l.pre.holds [] {args:=args}=true:=(pre_splitW hpre).2
 obtain⟨d,r,rfl,h1,h2⟩:=hasAllW_cons hsh
 obtain rfl:=hasAllW_nil h2
 obtain⟨xs,rfl,h3⟩:=hasW_list h1
 obtain⟨ns,rfl⟩:=items_int h3
 have hlen:ns.length≤n:=by
  unfold OpenLaw.pre at hc
  have h4:(WTm.not (.lt (.lit (.int (n:Int))) (.len (.arg 0)))).holds [] {args:=[.list (ns.map .int)]}=true:=by
   have h4:=(holds_andW hc).1
   rw[hn]at h4
   exact h4
  have h5:=condW_of h4 (w_not (w_lt w_lit (w_len_list (w_arg rfl))))
  rw[List.length_map]at h5
  refine Nat.le_of_not_lt λq=>?_
  have q':(n:Int)<((ns.length:Nat):Int):=by omega
  first
   |(rw[decide_eq_true q']at h5;exact absurd h5 (by decide))
   |(simp at h5;omega)
 cases hwl with
 |cons w1 w2=>
  cases w2
  cases w1 with
  |list ho hall=>exact⟨_,_,ns,rfl,rfl,ho,ints_of_wellAll ns _ hall,hlen⟩
theorem post_true(l:OpenLaw)(args:List WData):l.row.toRowW.claim.post args (.bool true) args=true:=
 postW_of (r:=l.row.toRowW) (X:=(true==true))
  (show WShape.has [] (.bool true) .bool=true by first |rfl |decide |simp[WShape.has,WShape.arms,WShape.armsAll])
  (show(WTm.eq .res (.lit (.bool true))).value [] {args:=args,res:=some (.bool true),after:=args}=some (.bool (true==true))from w_eq_bool (w_res rfl) w_lit) rfl
theorem attach_call{l:OpenLaw}{n:Nat}{q:Program}{loose:List Str}{XP:(Str->Option Value)->Heap->Prop}{YP:World->Heap->Prop}{d:DefRec}
  (hn:l.most=some n) (hdf:d.params.defaults=[])
  (call:∀(w:World) (s₀ s₁:Shared) (mg mb:Str->Option Value) (fa:Addr) (o:Obj) (pm cd doc:Value) (a:Addr) (vs:List Value) (ns:List Int),
   Ground q loose [] XP w s₀ mg mb s₁.heap->YP w s₁.heap->
   s₁.heap.get? fa=some o->o.data= .func (docDef d.name d.params d.body d.scope pm cd doc)->s₁.heap.CodeRec cd d.name->mg d.name=some (.ref fa)->
   s₁.heap.get? a=some {cls:=.type "list",data:=.seq vs.toArray}->IntsAre vs ns->ns.length≤n->s₁.gens= #[]->
   codeAny (model l.prog w) callerA (.call (.ref fa) ⟨[.ref a],[]⟩) (λr s'=>r= .ok (.ret (.bool true))/\OldK s₁.heap s'.heap/\s'.os=s₁.os/\AllBare s'.gens) s₁):
  WalkO q loose XP YP l.row.toRowW d [] (λf vs=>PySem.call f vs):=by
 intro w s₀ s₁ mg mb G Y fa o pm cd doc dV kV ho hd hcd hD hmg hg args vals as hpre hlay hrd hwl hlo
 obtain rfl:dV= .none:=Dflts.none hD hdf
 obtain rfl:kV= .none:=Dflts.noKw hD
 obtain⟨a,vs,ns,rfl,rfl,hobj,hints,hlen⟩:=script_of hn hpre hwl
 refine enter_call (codeAny_mono (call w s₀ s₁ mg mb fa o pm cd doc a vs ns G Y ho (fd_plain hd) hcd hmg hobj hints hlen hg) λr s' hq=>?_)
 obtain⟨rfl,h2,h3,h4⟩:=hq
 exact⟨.inl ⟨.bool true,.bool true,[],rfl,λ_=>rfl,.bool true,post_true l _,λ_=>⟨List.Pairwise.nil,λ_ hm=>(nomatch hm)⟩⟩,h2,h3,h4⟩
section
variable{prog:Program}{w:World}{A:Around}{E:Value->Shared->Prop}{s:Shared}{K:Frag}
def noObjs(h:Heap):Heap:={h with objs:= #[]}
def ledger(h:Heap)(L d:Addr):List (Addr×Obj):=(List.range h.objs.size).filterMap λa=>if a=L\/a=d then none else(h.get? a).map λo=>(a,o)
end
end Att
namespace L2
open PySem PySem.Spec PyProof.Rows
theorem vals_ints:∀{vs:List Value} {ns:List Int},IntsAre vs ns->Vals (ns.map V.int) vs
 |_,_,.nil=>.nil
 |_,_,.cons n t h=>.cons ⟨t,rfl⟩ (vals_ints h)
def Only(H:Hp):Prop:=∀b,H b=none\/∃o xs,H b=some (.frz o (.lst xs))
theorem law_call{P:Program}{w:World}{K:PySem.W.Frag}{mg mb:Str->Option Value}{CX:CXT}{k:Nat}{fa a:Addr}{fd:FuncData}{x:Str}{sp:Sp}{s₁:Shared}{vs:List Value}{ns:List Int}
  (KX:K.In s₁.heap) (hns:s₁.heap.Ns mainGlobals mg) (hb:s₁.heap.Ns builtinsNs mb) (hbb:∀x:Str,x≠"__name__"->mb x=bootBuiltins x) (hlim:s₁.heap.NoLimit) (hg:s₁.gens= #[])
  (ha:s₁.heap.get? a=some {cls:=.type "list",data:=.seq vs.toArray}) (hi:IntsAre vs ns) (hl:ns.length≤sizeLine) (hr:Room cc k callerA)
  (F:∀base:Heap,K.In base->base.Ns mainGlobals mg->FnOk P w K mg base CX cc k fa fd [x] sp) (hbind:∀(s:Shared) (u:Value),BindsTo s fd ⟨[u],[]⟩ [(x,u)])
  (hsp:∀H:Hp,Only H->SqL K H a (ns.map V.int)->sp [.ref a] H (λv _=>v= .bl true) λ_ _ _=>False)
  (hCX:∀H e s',CX [] H s₁ (λ_ _ _=>False) e s'->False):
  codeAny (model P w) callerA (.call (.ref fa) ⟨[.ref a],[]⟩) (λr s'=>r= .ok (.ret (.bool true))/\OldK s₁.heap s'.heap/\s'.os=s₁.os/\AllBare s'.gens) s₁:=by
 have rv:=vals_ints hi
 have lenV:=hi.length
 have core:∀H:Hp,Only H->SqL K H a (ns.map V.int)->HOk P w H s₁.heap->(∀b,H b≠none->b=a)->(H a≠none->K.lookup a=none)->
   codeAny (model P w) callerA (.call (.ref fa) ⟨[.ref a],[]⟩) (λr s'=>r= .ok (.ret (.bool true))/\OldK s₁.heap s'.heap/\s'.os=s₁.os/\AllBare s'.gens) s₁:=by
  intro H hO hS hok hA hK
  have base_of:∀{b:Addr} {o:Obj},s₁.heap.get? b=some o->H b=none->(hidT s₁.heap H).get? b=some o:=λe n=>hidT_get e n
  have noA:∀{b:Addr} {o:Obj} {es:Array DictEntry} {ep:Nat},s₁.heap.get? b=some o->o.data= .dict es ep->H b=none:=λ{b o es ep} e d=>by
   cases q:H b with
   |none=>rfl
   |some u=>
    have e':b=a:=hA b (by rw[q];simp)
    subst e'
    rw[ha]at e;cases e
    have d':Data.seq vs.toArray _=Data.dict es ep:=d
    cases d'
  have nsK:∀{b:Addr} {m:Str->Option Value},s₁.heap.Ns b m->(hidT s₁.heap H).Ns b m:=λ{b m} ⟨o,es,ep,e,d,r⟩=>⟨o,es,ep,base_of e (noA e d),d,r⟩
  have hKb:K.In (hidT s₁.heap H):=λb o e=>base_of (KX b o e) (by
   cases q:H b with
   |none=>rfl
   |some u=>
    have e':b=a:=hA b (by rw[q];simp)
    subst e'
    rw[hK (by rw[q];simp)]at e;cases e)
  have hM:Mod K mg (hidT s₁.heap H):=⟨hKb,nsK hns,⟨mb,nsK hb,hbb⟩,let⟨mc,h1,h2⟩:=hlim;⟨mc,nsK h1,h2⟩⟩
  have e0:Env0 P w K mg (hidT s₁.heap H) callerA [] s₁ H:=⟨rfl,hM,λb o e=>of_hidT e,Nat.le_of_eq (hidT_size _ _),trivial,λb hb=>absurd (show b∈([]:List Addr)from hb) (by simp),hok,.of_eq hg⟩
  refine codeAny_mono ((F _ hKb (nsK hns)).run callerA [] s₁ H ⟨[.ref a],[]⟩ [.ref a] [.ref a] _ _ hr e0 (hbind s₁ (.ref a)) (.cons rfl .nil) (hsp H hO hS)) λr s' h=>?_
  cases r with
  |error e=>exact(hCX H e s' h).elim
  |ok fl=>
   cases fl with
   |next=>exact False.elim h
   |brk=>exact False.elim h
   |cont=>exact False.elim h
   |ret u=>
    obtain⟨v,H',os,bare,un,hok',r',q⟩:=h
    have q':v= .bl true:=q
    subst q'
    obtain rfl:u=Value.bool true:=r'
    refine⟨rfl,OldK.of_keep λb o e=>?_,os,bare⟩
    cases q:H b with
    |none=>exact un.keep b o e q (by intro z;exact absurd (show b∈([]:List Addr)from z) (by simp)) (by simp)
    |some u=>
     rcases hO b with z |⟨ob,xs,z⟩
     .rw[q]at z;cases z
     .have z2:=un.frzs b ob _ z
      obtain⟨e1,_⟩:=hok b _ z
      obtain⟨e2,_⟩:=hok' b _ z2
      rw[e]at e1;cases e1
      exact e2
 cases hk:K.lookup a with
 |some o=>
  have e:=KX a o hk
  rw[ha]at e
  cases e
  refine core (λ_=>none) (λ_=>.inl rfl) (.inr ⟨_,vs.toArray,_,hk,rfl,rfl,rfl,by rw[List.size_toArray,lenV];exact hl,by simpa using rv⟩) (λb u z=>by have z':(none:Option HO)=some u:=z;cases z') (λb z=>absurd rfl z) λz=>absurd rfl z
 |none=>
  refine core (λb=>if b=a then some (.frz {cls:=.type "list",data:=.seq vs.toArray} (.lst (ns.map V.int)))else none) (λb=>?_) (.inl (.inr ⟨{cls:=.type "list",data:=.seq vs.toArray},if_pos rfl⟩)) (λb u z=>?_) (λb z=>?_) λ_=>hk
  .by_cases hb:b=a
   .exact .inr ⟨_,_,if_pos hb⟩
   .exact .inl (if_neg hb)
  .by_cases hb:b=a
   .have z':=(if_pos hb).symm.trans z
    cases z'
    subst hb
    exact⟨ha,by rw[List.length_map];exact hl,vs,_,rv,ha⟩
   .have z':=(if_neg hb).symm.trans z
    cases z'
  .by_cases hb:b=a
   .exact hb
   .exact absurd (if_neg hb) z
end L2
namespace L2
open PySem PySem.Spec PyProof.Rows
abbrev KOf{K:PySem.W.Frag}{h:Heap}(_:K.In h):PySem.W.Frag:=K
theorem walk_of{l:PySem.W.OpenLaw}{n k:Nat}{q:Program}{loose:List Str}{XP:(Str->Option Value)->Heap->Prop}{YP:World->Heap->Prop}{d:DefRec}{K:Params->PySem.W.Frag}{CX:World->CXT}{sp:World->Sp}{x:Str}
  (hn:l.most=some n) (hn2:n≤sizeLine) (hdf:d.params.defaults=[]) (hr:Room cc k callerA)
  (hY:∀(w:World) (h:Heap),YP w h->(K w.params).In h)
  (F:∀(w:World) (mg:Str->Option Value) (fa:Addr) (h:Heap),(K w.params).In h->h.Ns mainGlobals mg->mg d.name=some (.ref fa)->
   ∃fd:FuncData,(∀(s:Shared) (u:Value),BindsTo s fd ⟨[u],[]⟩ [(x,u)])/\
    ∀base:Heap,(K w.params).In base->base.Ns mainGlobals mg->FnOk l.prog w (K w.params) mg base (CX w) cc k fa fd [x] (sp w))
  (hsp:∀(w:World) (H:Hp) (a:Addr) (ns:List Int),ns.length≤n->Only H->SqL (K w.params) H a (ns.map V.int)->sp w [.ref a] H (λv _=>v= .bl true) λ_ _ _=>False)
  (hCX:∀(w:World) (H:Hp) (s:Shared) (e:Value) (s':Shared),CX w [] H s (λ_ _ _=>False) e s'->False):
  PySem.W.WalkO q loose XP YP l.row.toRowW d [] (λf vs=>PySem.call f vs):=by
 refine Att.attach_call hn hdf λw s₀ s₁ mg mb fa o pm cd doc a vs ns G Y ho hd hcd hmg hobj hints hlen hg=>?_
 have KX:=hY w _ Y
 obtain⟨fd,hb,hF⟩:=F w mg fa _ KX G.T.g hmg
 exact law_call KX G.T.g G.T.b G.T.builtins G.T.nolimit hg hobj hints (Nat.le_trans hlen hn2) hr hF hb (λH hO hS=>hsp w H a ns hlen hO hS) λH e s'=>hCX w H s₁ e s'
end L2
namespace L2
open PySem PySem.Spec PyProof.Rows
def inClass(s:Stmt)(j:Nat):Stmt:=match s with
 | .ClassDef _ _ _ body _ _ _ _ _ _ _=>body.getD j (.Pass ⟨0,0,0,0⟩)
 |_=>.Pass ⟨0,0,0,0⟩
def defArgs(s:Stmt):Arguments:=match s with
 | .FunctionDef _ a _ _ _ _ _ _ _ _=>a
 |_=>{posonlyargs:=[],args:=[],vararg:=none,kwonlyargs:=[],kw_defaults:=[],kwarg:=none,defaults:=[]}
def defBody(s:Stmt):List Stmt:=match s with
 | .FunctionDef _ _ b _ _ _ _ _ _ _=>b
 |_=>[]
def defScope(s:Stmt):Scope:=match s with
 | .FunctionDef _ _ _ _ _ _ sc _ _ _=>sc
 |_=>{kind:=.function,names:=[],isGenerator:=false,isCoroutine:=false}
abbrev CX0:CXT:=λ_ _ _ _ _ _=>False
abbrev E0:XK:=λ_ _ _=>False
structure Fun(K:PySem.W.Frag)(x qual:Str)(st:Stmt)(f:Addr)(fd:FuncData):Prop where
 ex:∃(oc:Value) (od:Option Addr) (kV doc pm:Value) (an:Option Addr) (cdv ct:Value) (osl:Array (Option Value)),
  fd=PySem.W.fnOf x qual (defArgs st) (defBody st) (defScope st) .none kV doc pm an cdv ct/\K.lookup f=some ⟨oc,od,.func fd,osl⟩/\PySem.W.codeIn K cdv qual=true
 kp:PySem.W.keepIn K (.ref f)=true
section
variable{P:Program}{w:World}{K:PySem.W.Frag}{mg:Str->Option Value}{base:Heap}
theorem Fun.binds{x qual:Str}{st:Stmt}{f:Addr}{fd:FuncData}{ps:List Str}(F:Fun K x qual st f fd)
  (h:∀(kV doc pm:Value) (an:Option Addr) (cdv ct:Value) (us:List Value),us.length=ps.length->bindArgs (PySem.W.fnOf x qual (defArgs st) (defBody st) (defScope st) .none kV doc pm an cdv ct) ⟨us,[]⟩=pure (ps.zip us)):Binds K fd ps []:=by
 obtain⟨oc,od,kV,doc,pm,an,cdv,ct,osl,rfl,lk,hcd⟩:=F.ex
 exact .all (h kV doc pm an cdv ct)
theorem fun_mk{x qual:Str}{st:Stmt}{f:Addr}{oc:Value}{od an:Option Addr}{osl:Array (Option Value)}{kV doc pm cdv ct:Value}(l:K.lookup f=some ⟨oc,od,.func (PySem.W.fnOf x qual (defArgs st) (defBody st) (defScope st) .none kV doc pm an cdv ct),osl⟩)
  (c:PySem.W.codeIn K cdv qual=true) (k:PySem.W.keepIn K (.ref f)=true):Fun K x qual st f (PySem.W.fnOf x qual (defArgs st) (defBody st) (defScope st) .none kV doc pm an cdv ct):=⟨⟨oc,od,kV,doc,pm,an,cdv,ct,osl,rfl,l,c⟩,k⟩
end
section
variable{X:Cx}
end
theorem iteF{A B:Prop}(h:B):if false=true then A else B:=by
 rw[if_neg Bool.false_ne_true]
 exact h
theorem iteT{A B:Prop}(h:A):if true=true then A else B:=by
 rw[if_pos rfl]
 exact h
def Same(H H':Hp):Prop:=∀b o,H b=some o->H' b=some o
theorem Same.refl(H:Hp):Same H H:=λ_ _ h=>h
theorem Same.trans{H H1 H2:Hp}(a:Same H H1)(b:Same H1 H2):Same H H2:=λc o h=>b c o (a c o h)
theorem Same.free{H H':Hp}(e:Same H H'){l:Addr}(h:H' l=Option.none):H l=Option.none:=by
 cases q:H l with
 |none=>rfl
 |some o=>
  rw[e l o q]at h
  cases h
theorem Same.seq{K:PySem.W.Frag}{H H':Hp}{a:Addr}{xs:List V}(e:Same H H')(h:SqL K H a xs):SqL K H' a xs:=by
 rcases h with(h |⟨o,h⟩) |h
 .exact .inl (.inl (e _ _ h))
 .exact .inl (.inr ⟨o,e _ _ h⟩)
 .exact .inr h
end L2
namespace L2
open PySem PySem.Spec PyProof.Rows
section
variable{X:Cx}
end
section
variable{κ:Type} [DecidableEq κ]
end
end L2
namespace L2
open PySem PySem.Spec PyProof.Rows
def Linked(h:Heap):Option Value->List Addr->Prop
 |c,[]=>c=some .none
 |c,a::r=>c=some (.ref a)/\∃o vs,h.get? a=some o/\o.data= .fields vs/\Linked h vs[2]? r
theorem Linked.stay{h h':Heap}{e:Addr}(k:∀v o ws,v≠e->h.get? v=some o->o.data= .fields ws->∃o' ws',h'.get? v=some o'/\o'.data= .fields ws'/\ws'[2]? =ws[2]?):∀{l:List Addr} {c:Option Value},Linked h c l->e∉l->Linked h' c l
 |[],_,q,_=>q
 |a::r,c,⟨q1,o,vs,q2,q3,q4⟩,n=>by
  obtain⟨o',ws',k1,k2,k3⟩:=k a o vs (λz=>n (by simp[z])) q2 q3
  refine⟨q1,o',ws',k1,k2,?_⟩
  rw[k3]
  exact Linked.stay k q4 λz=>n (by simp[z])
def Ctx(h:Heap)(e:Addr)(b:Bool)(c:Option Value):Prop:=(b=true->c=some .none)/\∃l,Linked h c l/\e∉l/\l.Nodup
theorem Ctx.yes{h:Heap}{e:Addr}{c:Option Value}(q:c=some .none):Ctx h e true c:=⟨λ_=>q,[],q,by simp,.nil⟩
theorem Ctx.stay{h h':Heap}{e:Addr}{b:Bool}{c:Option Value}(q:Ctx h e b c)(k:∀v o ws,v≠e->h.get? v=some o->o.data= .fields ws->∃o' ws',h'.get? v=some o'/\o'.data= .fields ws'/\ws'[2]? =ws[2]?):Ctx h' e b c:=by
 obtain⟨q1,l,q2,q3,q4⟩:=q
 exact⟨q1,l,q2.stay k q3,q3,q4⟩
def Flies(h:Heap)(e:Addr)(cls:Value)(d:Option Addr×Bool)(tb:Option Addr)(fl:Value):Prop:=
 ∃oe vs,h.get? e=some oe/\oe.cls=cls/\oe.dict=d.1/\oe.data= .fields vs/\vs[1]? =some (tb.elim Value.none Value.ref)/\2<vs.size/\Ctx h e d.2 vs[2]? /\
  ∀T,tb=some T->T≠e/\∃oT ws,h.get? T=some oT/\oT.data= .fields ws/\ws[3]? =some fl
theorem ObjOk.there{P:Program}{w:World}{H:Hp}{h:Heap}{a:Addr}{o:HO}(x:ObjOk P w H h a o):∃ob,h.get? a=some ob:=by
 cases o with
 |lst xs=>obtain⟨_,_,_,_,e⟩:=x;exact⟨_,e⟩
 |tup xs=>obtain⟨_,_,_,ob,e,_⟩:=x;exact⟨_,e⟩
 |dK kvs=>obtain⟨_,_,_,_,o,_,_,e,_⟩:=x;exact⟨_,e⟩
 |dT kvs=>obtain⟨_,_,_,_,o,_,_,e,_⟩:=x;exact⟨_,e⟩
 |set S n=>obtain⟨o,_,_,_,e,_⟩:=x;exact⟨_,e⟩
 |ins C dx fs=>obtain⟨_,_,_,e,_⟩:=x;exact⟨_,e⟩
 |own y=>obtain⟨_,e⟩:=x;exact⟨_,e⟩
 |xd fs=>obtain⟨_,⟨_,_,_,e,_⟩,_⟩:=x;exact⟨_,e⟩
 |rng lo hi=>obtain⟨_,_,_,e⟩:=x;exact⟨_,e⟩
 |frz ob u=>obtain⟨e,_⟩:=x;exact⟨_,e⟩
 |tbl ps=>obtain⟨_,e,_⟩:=x;exact⟨_,e⟩
 |met f y=>exact⟨_,(show h.get? a=some _ from x)⟩
 |ext φ=>obtain⟨_,⟨_,e⟩,_⟩:=x;exact⟨_,e⟩
theorem HOk.free{P:Program}{w:World}{H:Hp}{h:Heap}{a:Addr}(x:HOk P w H h)(e:h.get? a=none):H a=none:=by
 cases q:H a with
 |none=>rfl
 |some u=>
  obtain⟨ob,z⟩:=(x a u q).there
  rw[e]at z;cases z
def CX1(P:Program)(w:World):CXT:=λouter H s E x s'=>∃e tb cls d H',x= .ref e/\s'.os=s.os/\AllBare s'.gens/\Un (frs outer) [] H H' s.heap s'.heap/\HOk P w H' s'.heap/\Flies s'.heap e cls d tb .none/\
 (∀b∈e::tb.toList,H' b=none/\s.heap.get? b=none)/\E cls d H'
theorem CX1.never{P:Program}{w:World}{outer:List Env}{H:Hp}{s s':Shared}{e:Value}(h:CX1 P w outer H s (λ_ _ _=>False) e s'):False:=by
 obtain⟨_,_,_,_,_,_,_,_,_,_,_,_,z⟩:=h
 exact z
section
variable{M:Model}{A:Around}{E:Value->Shared->Prop}{s:Shared}
theorem entry_new{base:Heap}{env:Env}{outer:List Env}{L e:Addr}{oe:Obj}{vs:Array Value}{head:Value}{hadNext:Bool}{Q:Unit->Shared->Prop}
  (hfr:A.frames=some (env::outer)) (hl:s.heap.FunFrames base (env::outer)) (hf:env.frame=some L) (he:s.heap.get? e=some oe) (hd:oe.data= .fields vs) (hsz:1<vs.size)
  (k:∀(h':Heap) (T:Addr) (oT:Obj) (ws:Array Value),s.heap.objs.size≤h'.objs.size->(∀b o,s.heap.get? b=some o->b≠e->b∉frs (env::outer)->h'.get? b=some o)->
   (∀b o,s.heap.get? b=some o->b≠e->∃sl,h'.get? b=some {o with slots:=sl})->s.heap.objs.size≤T->h'.get? e=some (oe.mapFields (·.setIfInBounds 1 (.ref T)))->
   h'.get? T=some oT->oT.data= .fields ws->ws[3]? =some (rawInt L)->Q () {s with heap:=h'}):
  wpAny M A (do
   let a<-frameOf env
   let pl<-entryPlaceOf L hadNext
   let b<-EntryCells.newEntry head a .none (rawInt L) .none pl
   setField (.ref e) 1 b) Q E s:=by
 have hne:e∉(env::outer).filterMap (·.frame):=λm=>by
  obtain⟨_,o,ho,nf⟩:=hl.mem m
  rw[he]at ho
  cases ho
  exact nf vs hd
 refine wpAny_bind (wpAny_frameOf_fun hfr hl hf λh1 so=>wpAny_bind (wpAny_entryPlaceOf λpl hp=>?_))
 unfold EntryCells.newEntry newFields
 refine wpAny_bind (wpAny_newObj_type ?_ (hp.sizeOk5 _ _ _ _ _))
 have e1:h1.get? e=some oe:=(so.2.1 e hne).trans he
 have hTe:e≠h1.objs.size:=Nat.ne_of_lt (Heap.lt_size e1)
 refine wpAny_setField (Heap.get?_push_of_some _ e1) hd hsz (k _ h1.objs.size {cls:=.type "traceback",dict:=none,data:=.fields (([head,.ref L,.none,rawInt L,.none]:List Value)++(if pl.isEmpty then List.replicate 6 Value.none else pl)).toArray} (([head,.ref L,.none,rawInt L,.none]:List Value)++(if pl.isEmpty then List.replicate 6 Value.none else pl)).toArray ?_ (λb o hb hbe hbf=>?_) (λb o hb hbe=>?_) (Nat.le_of_eq so.1.symm) ?_ ?_ ?_ ?_)
 .rw[Heap.size_after_update,Heap.size_push,so.1]
  exact Nat.le_succ _
 .rw[Heap.get?_update_other _ _ (Ne.symm hbe)]
  exact Heap.get?_push_of_some _ ((so.2.1 b hbf).trans hb)
 .obtain⟨sl,q⟩:=so.2.2 b o hb
  exact⟨sl,by rw[Heap.get?_update_other _ _ (Ne.symm hbe)];exact Heap.get?_push_of_some _ q⟩
 .exact Heap.get?_update_self _ (Heap.get?_push_of_some _ e1) (Obj.isFreed_of_fields (Obj.data_mapFields hd _))
 .rw[Heap.get?_update_other _ _ hTe]
  exact Heap.get?_push_size h1 rfl
 .exact rfl
 .first
   |(simp;done)
   |(rcases hp with rfl |⟨_,_,_,_,_,_,_,rfl⟩<;>simp)
structure Noted(h h':Heap)(ch fs:List Addr):Prop where
 keep:∀b o,h.get? b=some o->b∉fs->b∉ch->h'.get? b=some o
 slot:∀b o,h.get? b=some o->b∉ch->∃sl,h'.get? b=some {o with slots:=sl}
 there:∀b o,h.get? b=some o->∃o',h'.get? b=some o'
theorem note_any{base:Heap}{env:Env}{outer:List Env}{L e:Addr}{cls:Value}{d:Option Addr×Bool}{tb:Option Addr}{fl:Value}{Q:Unit->Shared->Prop}
  (hfr:A.frames=some (env::outer)) (hl:s.heap.FunFrames base (env::outer)) (hf:env.frame=some L) (F:Flies s.heap e cls d tb fl) (hfl:(fl==rawInt L)=false)
  (k:∀(h':Heap) (T:Addr),Noted s.heap h' (e::tb.toList) (frs (env::outer))->s.heap.objs.size≤T->Flies h' e cls d (some T) (rawInt L)->Q () {s with heap:=h'}):
  wpAny M A (noteFrame (.ref e) env) Q E s:=by
 obtain⟨oe,vs,he,hc,hdx,hd,h1,hz,h2,ht⟩:=F
 have fin:∀{hp:Heap} {h':Heap} {T:Addr} {oT:Obj} {ws:Array Value},(∀v o ws,v≠e->s.heap.get? v=some o->o.data= .fields ws->∃o' ws',h'.get? v=some o'/\o'.data= .fields ws'/\ws'[2]? =ws[2]?)->hp.get? e=some oe->hp.objs.size≤T->h'.get? e=some (oe.mapFields (·.setIfInBounds 1 (.ref T)))->h'.get? T=some oT->oT.data= .fields ws->
   ws[3]? =some (rawInt L)->Flies h' e cls d (some T) (rawInt L):=λ{hp h' T oT ws} kk e0 hT q1 q2 q3 q4=>by
  have hd':=Obj.data_mapFields hd (·.setIfInBounds 1 (Value.ref T))
  refine⟨_,_,q1,(Obj.cls_mapFields _ _).trans hc,?_,hd',?_,by simpa using hz,?_,λT' eT=>?_⟩
  .obtain⟨c0,d0,dt,sl⟩:=oe
   cases hd
   exact hdx
  .have :1<vs.size:=by omega
   simp[this]
  .rw[Array.getElem?_setIfInBounds_ne (by decide)]
   exact h2.stay kk
  .cases eT
   exact⟨λz=>Nat.lt_irrefl _ (Nat.lt_of_lt_of_le (Heap.lt_size e0) (z▸hT)),oT,ws,q2,q3,q4⟩
 unfold noteFrame
 simp only[hf]
 cases tb with
 |none=>
  have h1':vs[1]? =some Value.none:=h1
  refine wpAny_bind (wpAny_field he hd h1' ?_)
  rw[if_neg (by decide)]
  refine entry_new hfr hl hf he hd (by omega) λh' T oT ws a1 a2 a3 a4 a5 a6 a7 a8=>k h' T ⟨λb o q1 q2 q3=>a2 b o q1 (λz=>q3 (by simp[z])) q2,λb o q1 q3=>a3 b o q1 λz=>q3 (by simp[z]),λb o q1=>?_⟩ a4 (fin (λv o ws hv q1 q2=>by obtain⟨sl,q⟩:=a3 v o q1 hv;exact⟨_,ws,q,q2,rfl⟩) he a4 a5 a6 a7 a8)
  by_cases z:b=e
  .subst z;exact⟨_,a5⟩
  .obtain⟨sl,q⟩:=a3 b o q1 z
   exact⟨_,q⟩
 |some T0=>
  obtain⟨hne,oT0,ws0,t1,t2,t3⟩:=ht T0 rfl
  have h1':vs[1]? =some (Value.ref T0):=h1
  refine wpAny_bind (wpAny_field he hd h1' ?_)
  rw[if_pos (show(Value.ref T0 !=Value.none)=true from by simp)]
  refine wpAny_bind (wpAny_field t1 t2 t3 ?_)
  rw[if_neg (by rw[hfl];exact Bool.false_ne_true)]
  refine wpAny_bind (wpAny_setField t1 t2 (Array.getElem?_eq_some_iff.mp t3).1 ?_)
  have oth:∀b,b≠T0->(s.heap.update T0 (Obj.mapFields (·.setIfInBounds 3 Value.none))).get? b=s.heap.get? b:=λb hb=>Heap.get?_update_other _ _ (Ne.symm hb)
  have slf:=Heap.get?_update_self (Obj.mapFields (·.setIfInBounds 3 Value.none)) t1 (Obj.isFreed_of_fields (Obj.data_mapFields t2 _))
  have hsz:(s.heap.update T0 (Obj.mapFields (·.setIfInBounds 3 Value.none))).objs.size=s.heap.objs.size:=Heap.size_after_update ..
  have hl':(s.heap.update T0 (Obj.mapFields (·.setIfInBounds 3 Value.none))).FunFrames base (env::outer):=hl.of_keeps λb o hb nf=>⟨o,(oth b λz=>by
   subst z
   rw[t1]at hb
   cases hb
   exact nf ws0 t2).trans hb,rfl⟩
  refine entry_new (s:={s with heap:=s.heap.update T0 (Obj.mapFields (·.setIfInBounds 3 Value.none))}) hfr hl' hf ((oth e (Ne.symm hne)).trans he) hd (by omega) λh' T oT ws a1 a2 a3 a4 a5 a6 a7 a8=>
   k h' T ⟨λb o q1 q2 q3=>a2 b o ((oth b λz=>q3 (by simp[z])).trans q1) (λz=>q3 (by simp[z])) q2,λb o q1 q3=>a3 b o ((oth b λz=>q3 (by simp[z])).trans q1) λz=>q3 (by simp[z]),λb o q1=>?_⟩ (hsz▸a4) (fin (λv o ws hv q1 q2=>by
     by_cases z2:v=T0
     .subst z2
      obtain⟨sl,q⟩:=a3 v _ slf hv
      rw[t1]at q1
      cases q1
      exact⟨_,_,q,Obj.data_mapFields q2 _,by rw[Array.getElem?_setIfInBounds_ne (by decide)]⟩
     .obtain⟨sl,q⟩:=a3 v o ((oth v z2).trans q1) hv
      exact⟨_,ws,q,q2,rfl⟩) ((oth e (Ne.symm hne)).trans he) a4 a5 a6 a7 a8)
  by_cases z:b=e
  .subst z;exact⟨_,a5⟩
  .by_cases z2:b=T0
   .subst z2
    obtain⟨sl,q⟩:=a3 b _ slf z
    exact⟨_,q⟩
   .obtain⟨sl,q⟩:=a3 b o ((oth b z2).trans q1) z
    exact⟨_,q⟩
theorem note_new{base:Heap}{env:Env}{outer:List Env}{L e:Addr}{cls:Value}{d:Option Addr×Bool}{tb:Option Addr}{Q:Unit->Shared->Prop}
  (hfr:A.frames=some (env::outer)) (hl:s.heap.FunFrames base (env::outer)) (hf:env.frame=some L) (F:Flies s.heap e cls d tb .none)
  (k:∀(h':Heap) (T:Addr),Noted s.heap h' (e::tb.toList) (frs (env::outer))->s.heap.objs.size≤T->Flies h' e cls d (some T) (rawInt L)->Q () {s with heap:=h'}):
  wpAny M A (noteFrame (.ref e) env) Q E s:=
 note_any hfr hl hf F (by simp[rawInt]) k
theorem note_held{env:Env}{L e:Addr}{cls:Value}{d:Option Addr×Bool}{tb:Option Addr}{Q:Unit->Shared->Prop}(hf:env.frame=some L)(F:Flies s.heap e cls d tb (rawInt L))(ht:tb.isSome=true)(k:Q () s):
  wpAny M A (noteFrame (.ref e) env) Q E s:=by
 obtain⟨oe,vs,he,hc,hdx,hd,h1,hz,h2,hT⟩:=F
 cases tb with
 |none=>cases ht
 |some T=>
  obtain⟨_,oT,ws,t1,t2,t3⟩:=hT T rfl
  exact wpAny_noteFrame_inFlight hf he hd h1 t1 t2 t3 k
theorem flight_off{e T:Addr}{cls:Value}{d:Option Addr×Bool}{fl:Value}{Q:Unit->Shared->Prop}(F:Flies s.heap e cls d (some T) fl)
  (k:∀h',Noted s.heap h' [T] []->Flies h' e cls d (some T) .none->Q () {s with heap:=h'}):wpAny M A (setFlight (.ref e) none) Q E s:=by
 obtain⟨oe,vs,he,hc,hdx,hd,h1,hz,h2,hT⟩:=F
 obtain⟨hne,oT,ws,t1,t2,t3⟩:=hT T rfl
 have h3:3<ws.size:=(Array.getElem?_eq_some_iff.mp t3).1
 refine wpAny_setFlight_none he hd h1 t1 t2 h3 (k _ ⟨λb o q _ n=>?_,λb o q n=>⟨o.slots,?_⟩,λb o q=>?_⟩ ?_)
 .rw[Heap.get?_update_other _ _ (λz=>n (by simp[z]))];exact q
 .rw[Heap.get?_update_other _ _ (λz=>n (by simp[z]))];exact q
 .by_cases z:b=T
  .subst z;exact⟨_,Heap.get?_update_self _ t1 (Obj.isFreed_of_fields (Obj.data_mapFields t2 _))⟩
  .exact⟨o,by rw[Heap.get?_update_other _ _ (Ne.symm z)];exact q⟩
 .refine⟨oe,vs,?_,hc,hdx,hd,h1,hz,h2.stay λv o ws hv q1 q2=>?_,λT' eT=>?_⟩
  .rw[Heap.get?_update_other _ _ hne];exact he
  .by_cases z:v=T
   .subst z
    rw[t1]at q1
    cases q1
    exact⟨_,_,Heap.get?_update_self _ t1 (Obj.isFreed_of_fields (Obj.data_mapFields t2 _)),Obj.data_mapFields q2 _,by rw[Array.getElem?_setIfInBounds_ne (by decide)]⟩
   .exact⟨o,ws,by rw[Heap.get?_update_other _ _ (Ne.symm z)];exact q1,q2,rfl⟩
  .cases eT
   exact⟨hne,_,_,Heap.get?_update_self _ t1 (Obj.isFreed_of_fields (Obj.data_mapFields t2 _)),Obj.data_mapFields t2 _,by simp[h3]⟩
end
section
variable{X:Cx}{pins:List (Addr×Obj)}{σ:St}{H H':Hp}{s s':Shared}
def Ch(X:Cx)(pins:List (Addr×Obj))(b:Addr):Prop:=(b∈X.ex\/X.s₀.heap.get? b=none)/\b≠X.env.locals/\(∀x c,X.env.cells.lookup x=some c->c≠b)/\∀p∈X.pn++pins,p.1≠b
theorem Inv.ch(I:Inv X pins σ H s){b:Addr}(h:s.heap.get? b=none):Ch X pins b:=by
 refine⟨?_,λz=>?_,λx c q z=>?_,λp hp z=>?_⟩
 .by_cases hx:b∈X.ex
  .exact .inl hx
  .refine .inr ?_
   cases q:X.s₀.heap.get? b with
   |none=>rfl
   |some o=>
    obtain⟨o',q'⟩:=I.base.there b o q hx
    rw[h]at q';cases q'
 .obtain⟨_,⟨o,_,_,ho,_⟩,_⟩:=I.loc
  rw[<-z,h]at ho;cases ho
 .obtain⟨_,o,ho,_⟩:=I.cell x c q
  rw[z,h]at ho;cases ho
 .have :=(I.pin p hp).1
  rw[z,h]at this;cases this
theorem Inv.noted{ch:List Addr}{h':Heap}(I:Inv X pins σ H s)(N:Noted s.heap h' ch (frs X.stack))(hc:∀b∈ch,H b=none/\Ch X pins b):Inv X pins σ H {s with heap:=h'}:=by
 have trk:∀b u,H b=some u->b∉frs X.stack/\b∉ch:=λb u e=>⟨(λz=>by rw[I.stkFree b z]at e;cases e),(λz=>by rw[(hc b z).1]at e;cases e)⟩
 refine I.call (g':=s.gens) (d':=s.drawn) (t':=s.toks) (ch:=ch) (h':=h') ⟨λb o e _ hb hx=>N.keep b o e hb hx,λb o e _ _ hx=>N.slot b o e hx,λ_ _ _ n _=>n,λb o e _=>N.there b o e,λ_ _ e=>e,λ_ _ _ e=>e,λb ps e=>⟨#[],by rw[e];simp⟩⟩ ?_ I.bare λb hb=>(hc b hb).2
 intro b u e
 refine(I.hok b u e).stay (λc v hcv q=>?_) (λ_ q=>q) λ_ _ q=>q
 rcases hcv with z |z
 .subst z;exact N.keep c v q (trk c u e).1 (trk c u e).2
 .exact N.keep c v q (trk c _ z).1 (trk c _ z).2
def XAt(X:Cx)(pins:List (Addr×Obj))(σ:St)(H:Hp)(s:Shared)(e:Addr)(cls:Value)(d:Option Addr×Bool):Prop:=
 Inv X pins σ H s/\∃tb fl,Flies s.heap e cls d tb fl/\(fl= .none\/(fl=rawInt X.env.locals/\tb.isSome=true))/\∀b∈e::tb.toList,H b=none/\Ch X pins b
def XOk(X:Cx)(Kx:St->XK):Prop:=∀(pins:List (Addr×Obj)) (σ:St) (H:Hp) (s:Shared) (e:Addr) (cls:Value) (d:Option Addr×Bool),XAt X pins σ H s e cls d->Kx σ cls d H->X.xe (.ref e) s
theorem Inv.flown{E:XK}{x:Value}(I:Inv X pins σ H s)(c:CX1 X.prog X.w X.stack H s E x s'):∃e cls d H',x= .ref e/\XAt X pins σ H' s' e cls d/\E cls d H':=by
 obtain⟨e,tb,cls,d,H',rfl,os,bare,un,hok,F,ch,q⟩:=c
 have I':Inv X pins σ H' s':=I.call' (ch:=[]) os un hok bare λb z=>absurd z (by simp)
 exact⟨e,cls,d,H',rfl,⟨I',tb,.none,F,.inl rfl,λb hb=>⟨(ch b hb).1,I.ch (ch b hb).2⟩⟩,q⟩
theorem xok_false(h:X.xe=λ_ _=>False):XOk X (λ_ _ _ _=>False):=λ_ _ _ _ _ _ _ _ z=>z.elim
theorem XAt.note{M:Model}{E:Value->Shared->Prop}{e:Addr}{cls:Value}{d:Option Addr×Bool}{Q:Unit->Shared->Prop}(x:XAt X pins σ H s e cls d)(hst:X.stack=X.env::X.outer)(hf:X.env.frame=some X.env.locals)
  (k:∀s' T,Inv X pins σ H s'->Flies s'.heap e cls d (some T) (rawInt X.env.locals)->(∀b∈[e,T],H b=none/\Ch X pins b)->Q () s'):wpAny M X.A (noteFrame (.ref e) X.env) Q E s:=by
 obtain⟨I,tb,fl,F,hfl,ch⟩:=x
 rcases hfl with z |⟨z,ht⟩
 .subst z
  have hl:=I.stack
  rw[hst]at hl
  refine note_new (base:=X.base) (I.ok.frames.trans (by rw[hst])) hl hf F λh' T N hT F'=>k _ T (I.noted (by rw[hst];exact N) ch) F' λb hb=>?_
  rcases List.mem_cons.mp hb with z |z
  .subst z;exact ch _ List.mem_cons_self
  .have z':b=T:=by simpa using z
   subst z'
   exact⟨I.hok.fresh hT,I.ch (Heap.get?_none_of_le hT)⟩
 .subst z
  cases tb with
  |none=>cases ht
  |some T=>exact note_held hf F rfl (k s T I F ch)
theorem Inv.off{M:Model}{E:Value->Shared->Prop}{e T:Addr}{cls:Value}{d:Option Addr×Bool}{fl:Value}{Q:Unit->Shared->Prop}(I:Inv X pins σ H s)(F:Flies s.heap e cls d (some T) fl)(hc:∀b∈[e,T],H b=none/\Ch X pins b)
  (k:∀s',Inv X pins σ H s'->Flies s'.heap e cls d (some T) .none->Q () s') {A:Around}:wpAny M A (setFlight (.ref e) none) Q E s:=by
 refine flight_off F λh' N F'=>k _ (I.noted (ch:=[T]) ⟨λb o q _ n=>N.keep b o q (by simp) n,N.slot,N.there⟩ λb hb=>?_) F'
 have z:b=T:=by simpa using hb
 subst z
 exact hc b (by simp)
end
theorem xok_fn{cc:Bool}{P:Program}{w:World}{K:PySem.W.Frag}{mg:Str->Option Value}{base:Heap}{N:List Str}{qual:Str}{scope:Scope}{f:Addr}{cd:Value}{A:Around}{outer:List Env}{s₀:Shared}{H₀:Hp}{E:XK}:
  XOk (cxOf cc (CX1 P w) P w K mg base N qual scope f cd A outer s₀ H₀ E) (λ_=>E):=by
 intro pins σ H s e cls d x q
 show wpAny _ _ (leaving _ _) _ _ s
 unfold leaving
 refine wpAny_bind (x.note rfl rfl λs1 T I1 F1 c1=>?_)
 refine I1.off F1 c1 λs2 I2 F2=>?_
 refine⟨e,some T,cls,d,H,rfl,I2.os,I2.bare,I2.base,I2.hok,F2,λb hb=>?_,q⟩
 have z:=c1 b (by simpa using hb)
 refine⟨z.1,?_⟩
 rcases z.2.1 with y |y
 .exact absurd (show b∈([]:List Addr)from y) (by simp)
 .exact y
theorem passes_fn{cc:Bool}{P:Program}{w:World}{K:PySem.W.Frag}{mg:Str->Option Value}{base:Heap}{N:List Str}{qual:Str}{scope:Scope}{f:Addr}{cd:Value}{A:Around}{outer:List Env}{s₀:Shared}{H₀:Hp}{E:XK}:
  PassesOwn (model P w) (A.deeper (envOfC qual scope s₀.heap.objs.size f cd)) (envOfC qual scope s₀.heap.objs.size f cd) (cxOf cc (CX1 P w) P w K mg base N qual scope f cd A outer s₀ H₀ E).xe:=PassesOwn.leaving
section
variable{X:Cx}{Kx:St->XK}{cc:Bool}{k k':Nat}{f C:Addr}{fd:FuncData}{ps:List Str}{sp:Sp}{x m:Str}{p pos apos:Pos}{e o:Expr}{es:List Expr}{σ:St}{H:Hp}{Q:VK}
theorem run_fnX{pins:List (Addr×Obj)}{s:Shared}{us:List Value}{vs:List V}(F:FnOk X.prog X.w X.K X.mg X.base (CX1 X.prog X.w) cc k f fd ps sp)(hr:Room cc k X.A)(hb:Binds X.K fd ps [])(hx:XOk X Kx)
  (I:Inv X pins σ H s) (r:Vals vs us) (h:sp vs H Q (Kx σ)):wpAny (model X.prog X.w) X.A (call (.ref f) us) (EP X pins σ Q) X.xe s:=by
 have hl:us.length=ps.length:=by rw[<-r.length];exact F.len _ _ _ _ h
 have hb':=hb s us I.kIn (by simpa using hl)
 rw[List.append_nil]at hb'
 refine wpAny_call (codeAny_mono (F.run X.A X.stack s H ⟨us,[]⟩ us vs Q (Kx σ) hr I.env0 hb' r h) λr s' hq=>?_)
 cases r with
 |error e=>
  obtain⟨a,cls,d,H',rfl,xa,q⟩:=I.flown hq
  exact hx pins σ H' s' a cls d xa q
 |ok fl=>
  cases fl with
  |ret u=>exact I.after hq
  |next=>exact False.elim hq
  |brk=>exact False.elim hq
  |cont=>exact False.elim hq
end
end L2
namespace L2
open PySem PySem.Spec PyProof.Rows
def EV(X:Cx)(e:Expr)(σ:St)(H:Hp)(Q:VK):Prop:=
 ∀(pins:List (Addr×Obj)) (s:Shared),Inv X pins σ H s->wpAny (model X.prog X.w) X.A (eval e X.env) (EP X pins σ Q) X.xe s
def ET(X:Cx)(e:Expr)(σ:St)(H:Hp)(Q:Bool->Hp->Prop):Prop:=
 ∀(pins:List (Addr×Obj)) (s:Shared),Inv X pins σ H s->wpAny (model X.prog X.w) X.A (isTrue e X.env (eval e X.env)) (TP X pins σ Q) X.xe s
def EW(X:Cx)(e:Expr)(σ:St)(H:Hp)(Q:Bool->Hp->Prop):Prop:=
 ∀(whole:Sem Value) (pins:List (Addr×Obj)) (s:Shared),Inv X pins σ H s->wpAny (model X.prog X.w) X.A (isTrue e X.env whole) (TP X pins σ Q) X.xe s
def EA(X:Cx)(es:List Expr)(σ:St)(H:Hp)(Q:List V->Hp->Prop):Prop:=
 ∀(pos:Pos) (pins:List (Addr×Obj)) (s:Shared),Inv X pins σ H s->wpAny (model X.prog X.w) X.A (spliced (backTo pos (starEach es X.env))) (AP X pins σ Q) X.xe s
def EO(X:Cx)(e:Option Expr)(σ:St)(H:Hp)(Q:Option Int->Hp->Prop):Prop:=∃t,PO X e t/\t σ H Q
def SX(X:Cx)(st:Stmt)(D:Ends)(σ:St)(H:Hp):Prop:=
 ∀(pins:List (Addr×Obj)) (s:Shared),Inv X pins σ H s->wpAny (model X.prog X.w) X.A (exec st X.env) (SP X pins D) X.xe s
def SXs(X:Cx)(st:List Stmt)(D:Ends)(σ:St)(H:Hp):Prop:=
 ∀(pins:List (Addr×Obj)) (s:Shared),Inv X pins σ H s->wpAny (model X.prog X.w) X.A (execs st X.env) (SP X pins D) X.xe s
def EG(X:Cx)(tg:Expr)(v:V)(σ:St)(H:Hp)(Q:St->Hp->Prop):Prop:=
 ∀(pins:List (Addr×Obj)) (s:Shared) (u:Value),Inv X pins σ H s->RelV v u->wpAny (model X.prog X.w) X.A (assign tg X.env u) (λ_ s'=>∃σ' H',Inv X pins σ' H' s'/\Q σ' H') X.xe s
def EGs(X:Cx)(ts:List Expr)(vs:List V)(σ:St)(H:Hp)(Q:St->Hp->Prop):Prop:=
 ∀(pins:List (Addr×Obj)) (s:Shared) (us:List Value),Inv X pins σ H s->Vals vs us->wpAny (model X.prog X.w) X.A (assignInOrder ((assignEach ts X.env).map (·.2)) us) (λ_ s'=>∃σ' H',Inv X pins σ' H' s'/\Q σ' H') X.xe s
def EI(X:Cx)(tg iter:Expr)(σ:St)(H:Hp)(R:It->Hp->Prop):Prop:=
 ∀(pins:List (Addr×Obj)) (s:Shared),Inv X pins σ H s->
  wpAny (model X.prog X.w) X.A (eval iter X.env) (λv s1=>wpAny (model X.prog X.w) X.A (pyIter v) (PIE X pins σ tg R) X.xe s1) X.xe s
def OP(X:Cx)(f:Value->Value->Sem Value)(x y:V)(H:Hp)(Q:VK):Prop:=∃r,OpR X f r/\r x y H Q
def UN(X:Cx)(f:Value->Sem Value)(x:V)(H:Hp)(Q:VK):Prop:=∃r,UnR X f r/\r x H Q
def CL(X:Cx)(f:Value)(xs:List V)(H:Hp)(Q:VK):Prop:=∃r,CallR X f r/\r xs H Q
def IX(X:Cx)(x y:V)(H:Hp)(Q:VK):Prop:=∃r,IxR X r/\r x y H Q
def SL(X:Cx)(x:V)(lo hi:Option Int)(H:Hp)(Q:VK):Prop:=∃r,SlR X r/\r x lo hi H Q
def MT(X:Cx)(id:String)(x:V)(xs:List V)(H:Hp)(Q:VK):Prop:=∃r,MtR X id r/\r x xs H Q
section
variable{X:Cx}{a b c e:Expr}{es:List Expr}{σ:St}{H:Hp}{Q:VK}{QT:Bool->Hp->Prop}{QA:List V->Hp->Prop}{D:Ends}{pos p apos:Pos}{x:Str}{v:V}
theorem pe_self:PE X e (EV X e):=λpins s _ _ _ I h=>h pins s I
theorem pt_self:PT X e (ET X e):=λpins s _ _ _ I h=>h pins s I
theorem pw_self:PW X e (EW X e):=λwhole pins s _ _ _ I h=>h whole pins s I
theorem pa_self:PA X es (EA X es):=λpos pins s _ _ _ I h=>h pos pins s I
theorem po_self{o:Option Expr}:PO X o (EO X o):=λpins s σ H Q I ⟨_,h,q⟩=>h pins s σ H Q I q
theorem ps_self{st:Stmt}:PS X st (SX X st):=λpins s _ _ _ I h=>h pins s I
theorem pss_self{st:List Stmt}:PSs X st (SXs X st):=λpins s _ _ _ I h=>h pins s I
theorem pg_self{tg:Expr}:PG X tg (EG X tg):=λpins s _ _ _ u _ I r h=>h pins s u I r
theorem pgs_self{ts:List Expr}:PGs X ts (EGs X ts):=λpins s _ _ _ us _ I r h=>h pins s us I r
theorem pi_self{tg iter:Expr}:PI X tg iter (EI X tg iter):=λpins s _ _ _ I h=>h pins s I
theorem op_self{f:Value->Value->Sem Value}:OpR X f (OP X f):=λpins s σ H x y v u Q I rx ry ⟨_,h,q⟩=>h pins s σ H x y v u Q I rx ry q
theorem un_self{f:Value->Sem Value}:UnR X f (UN X f):=λpins s σ H x v Q I rx ⟨_,h,q⟩=>h pins s σ H x v Q I rx q
theorem cl_self{f:Value}:CallR X f (CL X f):=λpins s σ H xs us Q I rx ⟨_,h,q⟩=>h pins s σ H xs us Q I rx q
theorem ix_self:IxR X (IX X):=λva sl pins s σ H x y v u Q I rx ry ⟨_,h,q⟩ hs=>h va sl pins s σ H x y v u Q I rx ry q hs
theorem sl_self:SlR X (SL X):=λpins s σ H x v vl vu lo hi sl Q I rx hs pl pu ⟨_,h,q⟩=>h pins s σ H x v vl vu lo hi sl Q I rx hs pl pu q
theorem mt_self{id:String}:MtR X id (MT X id):=λpins s σ H x xs v us Q I rx rs ⟨_,h,q⟩=>h pins s σ H x xs v us Q I rx rs q
theorem ev_of{t:TE}(h:PE X e t)(q:t σ H Q):EV X e σ H Q:=λpins s I=>h pins s σ H Q I q
theorem et_of{t:TT}(h:PT X e t)(q:t σ H QT):ET X e σ H QT:=λpins s I=>h pins s σ H QT I q
theorem ea_of{t:TA}(h:PA X es t)(q:t σ H QA):EA X es σ H QA:=λpos pins s I=>h pos pins s σ H QA I q
theorem sx_of{st:Stmt}{t:TS}(h:PS X st t)(q:t D σ H):SX X st D σ H:=λpins s I=>h pins s σ H D I q
theorem sxs_of{st:List Stmt}{t:TS}(h:PSs X st t)(q:t D σ H):SXs X st D σ H:=λpins s I=>h pins s σ H D I q
theorem eg_of{tg:Expr}{t:TG}{QG:St->Hp->Prop}(h:PG X tg t)(q:t v σ H QG):EG X tg v σ H QG:=λpins s u I r=>h pins s σ H v u QG I r q
theorem egs_of{ts:List Expr}{t:TGs}{vs:List V}{QG:St->Hp->Prop}(h:PGs X ts t)(q:t vs σ H QG):EGs X ts vs σ H QG:=λpins s us I r=>h pins s σ H vs us QG I r q
theorem ei_of{tg iter:Expr}{t:TI}{R:It->Hp->Prop}(h:PI X tg iter t)(q:t σ H R):EI X tg iter σ H R:=λpins s I=>h pins s σ H R I q
def nameV:List Str->St->Str->Option V
 |n::N,o::σ,x=>if n=x then o else nameV N σ x
 |_,_,_=>none
theorem nameV_get:∀{N:List Str} {σ:St} {x:Str} {v:V},nameV N σ x=some v->∃i:Nat,N[i]? =some x/\σ[i]? =some (some v)
 |n::N,o::σ,x,v,h=>by
  unfold nameV at h
  split at h
  .rename_i e
   exact⟨0,by simp[e],by simp[h]⟩
  .obtain⟨i,h1,h2⟩:=nameV_get h
   exact⟨i+1,by simpa using h1,by simpa using h2⟩
 |[],_,_,_,h=>by simp[nameV]at h
 |_::_,[],_,_,h=>by simp[nameV]at h
def nameAt:List Str->Str->Option Nat
 |n::N,x=>if n=x then some 0 else(nameAt N x).map (· +1)
 |[],_=>none
theorem nameAt_get:∀{N:List Str} {x:Str} {i:Nat},nameAt N x=some i->N[i]? =some x
 |n::N,x,i,h=>by
  unfold nameAt at h
  split at h
  .rename_i e
   cases h
   simp[e]
  .cases q:nameAt N x with
   |none=>rw[q]at h;cases h
   |some j=>
    rw[q]at h
    cases h
    simpa using nameAt_get q
 |[],_,_,h=>by simp[nameAt]at h
theorem ev_name(hn:nameV X.N σ x=some v)(hv:Vis X.env.scope x)(q:Q v H)(hd:(x==("__debug__":Str))=false)(hcd:(x==("__classdict__":Str))=false):EV X (.Name x pos) σ H Q:=by
 obtain⟨i,h1,h2⟩:=nameV_get hn
 exact ev_of (pe_var h1 hv hd hcd) ⟨v,h2,q⟩
def Gc(mg:Str->Option Value)(x:Str)(v:V):Prop:=∃u,mg x=some u/\RelV v u
theorem ev_gc(g:Gc X.mg x v)(hg:Gl X x)(q:Q v H)(hd:(x==("__debug__":Str))=false):EV X (.Name x pos) σ H Q:=by
 obtain⟨u,h1,h2⟩:=g
 exact ev_of (pe_glob hg h1 h2 hd) q
theorem ev_ty{T:String}(hg:Gl X x)(hm:X.mg x=none)(hv:bootBuiltins x=some (.type T))(q:Q (.ty T) H)(hn:x≠"__name__")(hd:(x==("__debug__":Str))=false):EV X (.Name x pos) σ H Q:=
 ev_of (pe_bltn hg hm hv (v:=.ty T) rfl hn hd) q
theorem ev_int{i:Int}{j}(q:Q (.int i) H):EV X (.Constant (.int i) j pos) σ H Q:=ev_of pe_int q
theorem ev_non{j}(q:Q .non H):EV X (.Constant .none j pos) σ H Q:=ev_of pe_non q
theorem ev_str{i:Str}{j}(q:Q (.str i) H):EV X (.Constant (.str i) j pos) σ H Q:=ev_of pe_str q
theorem ev_bin{op:Operator}(h:EV X a σ H λx H1=>EV X b σ H1 λy H2=>OP X (binaryOp op) x y H2 Q):EV X (.BinOp a op b pos) σ H Q:=ev_of (pe_op op_self pe_self pe_self) h
theorem ev_un{op:UnaryOp}(h:EV X a σ H λx H1=>UN X (unaryOp op) x H1 Q):EV X (.UnaryOp op a pos) σ H Q:=ev_of (pe_un un_self pe_self) h
theorem ev_cmp{op:CmpOp}(hm:behindInMarks op b=false)(h:EV X a σ H λx H1=>EV X b σ H1 λy H2=>OP X (compareOp op) x y H2 Q):EV X (.Compare a [op] [b] pos) σ H Q:=ev_of (pe_cmpR op_self pe_self pe_self hm) h
theorem et_cmp{op:CmpOp}(hm:behindInMarks op b=false)(h:EV X a σ H λx H1=>EV X b σ H1 λy H2=>OP X (compareOp op) x y H2 λz H3=>∃k,z= .bl k/\QT k H3):ET X (.Compare a [op] [b] pos) σ H QT:=et_of (pt_cmpR op_self pe_self pe_self hm) h
theorem et_val(he:∀whole,isTrue e X.env whole=(do let v<-whole;standAt e.pos;holding [v] (truthy v)))(h:EV X e σ H λx H'=>∃k,TruV X.K x H' k/\QT k H'):ET X e σ H QT:=et_of (pt_truth pe_self he) h
theorem et_not(h:ET X a σ H λk H1=>QT (!k) H1):ET X (.UnaryOp .Not a pos) σ H QT:=et_of (pt_not pt_self) h
theorem et_w(h:EW X e σ H QT):ET X e σ H QT:=et_of pw_self.pt h
theorem ew_of{t:TT}(h:PW X e t)(q:t σ H QT):EW X e σ H QT:=λwhole pins s I=>h whole pins s σ H QT I q
theorem ew_and{rest:List Expr}(h:ET X a σ H λk H1=>if k=true then EW X (.BoolOp .And (b::rest) pos) σ H1 QT else QT false H1):EW X (.BoolOp .And (a::b::rest) pos) σ H QT:=ew_of (pw_and pt_self pw_self) h
theorem ew_or{rest:List Expr}(h:ET X a σ H λk H1=>if k=true then QT true H1 else EW X (.BoolOp .Or (b::rest) pos) σ H1 QT):EW X (.BoolOp .Or (a::b::rest) pos) σ H QT:=ew_of (pw_or pt_self pw_self) h
theorem ew_and1(h:ET X a σ H QT):EW X (.BoolOp .And [a] pos) σ H QT:=ew_of (pw_and1 pt_self) h
theorem ew_or1(h:ET X a σ H QT):EW X (.BoolOp .Or [a] pos) σ H QT:=ew_of (pw_or1 pt_self) h
theorem ev_one{op}(h:EV X a σ H Q):EV X (.BoolOp op [a] pos) σ H Q:=ev_of (pe_one pe_self) h
theorem ev_and{rest:List Expr}(h:EV X a σ H λx H1=>∃k,x= .bl k/\if k=true then EV X (.BoolOp .And (b::rest) pos) σ H1 Q else Q (.bl false) H1):EV X (.BoolOp .And (a::b::rest) pos) σ H Q:=ev_of (pe_and pe_self pe_self) h
theorem ev_or{rest:List Expr}(h:EV X a σ H λx H1=>∃k,x= .bl k/\if k=true then Q (.bl true) H1 else EV X (.BoolOp .Or (b::rest) pos) σ H1 Q):EV X (.BoolOp .Or (a::b::rest) pos) σ H Q:=ev_of (pe_or pe_self pe_self) h
theorem ev_notV(h:EV X a σ H λx H1=>∃k,x= .bl k/\Q (.bl (!k)) H1):EV X (.UnaryOp .Not a pos) σ H Q:=ev_of (pe_not pe_self) h
theorem ev_ifE(h:ET X c σ H λk H1=>if k=true then EV X a σ H1 Q else EV X b σ H1 Q):EV X (.IfExp c a b pos) σ H Q:=ev_of (pe_ifExp pt_self pe_self pe_self) h
theorem ea_nil(q:QA [] H):EA X [] σ H QA:=ea_of pa_nil q
theorem ea_cons(hs:starEach (e::es) X.env=(false,eval e X.env)::starEach es X.env)(h:EV X e σ H λx H1=>EA X es σ H1 λxs H2=>QA (x::xs) H2):EA X (e::es) σ H QA:=ea_of (pa_cons pe_self pa_self hs) h
theorem ev_tup{x1}(h:EA X es σ H λxs H1=>xs.length≤sizeLine/\∀p,H1 p=none->Q (.ref p) (upd H1 p (.tup xs))):EV X (.Tuple es x1 pos) σ H Q:=ev_of (pe_tup pa_self) h
theorem ev_lst(h:EA X es σ H λxs H1=>xs.length≤sizeLine/\∀p,H1 p=none->Q (.ref p) (upd H1 p (.lst xs))):EV X (.List es pos) σ H Q:=ev_of (pe_lst pa_self) h
theorem ev_callB{id:String}(hg:Gl X x)(hm:X.mg x=none)(hv:bootBuiltins x=some (.builtin id))(hn:x≠"__name__")(hdb:(x==("__debug__":Str))=false)
  (he:starEach (e::es) X.env=(false,eval e X.env)::starEach es X.env) (hpl:(backTo pos (starEach es X.env)).any (·.1)=false) (h:EA X (e::es) σ H λvs H1=>CL X (.builtin id) vs H1 Q):EV X (.Call (.Name x p) (e::es) [] pos) σ H Q:=
 ev_of (pe_callB cl_self hg hm hv pa_self hn hdb he hpl) h
theorem ev_callT{T:String}(hg:Gl X x)(hm:X.mg x=none)(hv:bootBuiltins x=some (.type T))(hn:x≠"__name__")(hdb:(x==("__debug__":Str))=false)
  (he:starEach (e::es) X.env=(false,eval e X.env)::starEach es X.env) (hpl:(backTo pos (starEach es X.env)).any (·.1)=false) (h:EA X (e::es) σ H λvs H1=>CL X (.type T) vs H1 Q):EV X (.Call (.Name x p) (e::es) [] pos) σ H Q:=
 ev_of (pe_callTy cl_self hg hm hv pa_self hn hdb he hpl) h
structure Def(P:Program)(w:World)(K:PySem.W.Frag)(mg:Str->Option Value)(base:Heap)(cc:Bool)(k:Nat)(x:Str)(ps:List Str)(sp:Sp):Prop where
 ex:∃f fd,mg x=some (.ref f)/\PySem.W.keepIn K (.ref f)=true/\Binds K fd ps []/\FnOk P w K mg base (CX1 P w) cc k f fd ps sp
theorem Room.calmer{cc cc':Bool}{k:Nat}{A:Around}(r:Room cc k A)(h:cc'=true->cc=true):Room cc' k A:=⟨λz=>r.hd (h z),r.dp,r.un⟩
theorem ev_call{Kx:St->XK}{cc cc':Bool}{k k':Nat}{ps:List Str}{sp:Sp}(F:Def X.prog X.w X.K X.mg X.base cc' k x ps sp)(hr:Room cc k' X.A)(hk:k≤k')(hcc:cc'=true->cc=true)(hg:Gl X x)(hx:XOk X Kx)
  (hdb:(x==("__debug__":Str))=false) (he:starEach (e::es) X.env=(false,eval e X.env)::starEach es X.env) (hpl:(backTo pos (starEach es X.env)).any (·.1)=false)
  (h:EA X (e::es) σ H λvs H1=>sp vs H1 Q (Kx σ)):EV X (.Call (.Name x p) (e::es) [] pos) σ H Q:=by
 obtain⟨f,fd,h1,h2,h3,h4⟩:=F.ex
 intro pins s I
 refine wpAny_Call_Name_kw (ld_glob I hg h1 ?_ hdb)
 refine PySem.W.callWith_K (h₀:=X.base) I.ok.mod.kin h2 (thn (h pos pins s I) λus s1 ⟨vs,H1,I1,r,q⟩=>⟨I1.kIn,?_⟩) he hpl
 exact run_fnX h4 ((hr.mono hk).calmer hcc) h3 hx I1 r q
theorem ev_ix(hs:PlainIx b)(h:EV X a σ H λx H1=>EV X b σ H1 λy H2=>IX X x y H2 Q):EV X (.Subscript a b pos) σ H Q:=ev_of (pe_ix ix_self pe_self pe_self hs) h
theorem eo_none{QO:Option Int->Hp->Prop}(q:QO none H):EO X none σ H QO:=⟨_,po_none,q⟩
theorem eo_some{QO:Option Int->Hp->Prop}(q:EV X e σ H λx H1=>∃i,x= .int i/\QO (some i) H1):EO X (some e) σ H QO:=⟨_,po_some pe_self,q⟩
theorem ev_sl{lo hi:Option Expr}{p2:Pos}(h:EV X a σ H λx H1=>EO X lo σ H1 λl H2=>EO X hi σ H2 λu H3=>SL X x l u H3 Q):EV X (.Subscript a (.Slice lo hi none p2) pos) σ H Q:=ev_of (pe_slice sl_self pe_self po_self po_self) h
theorem ev_bm{T id:String}{name:Str}(pa:PlainAttrs T)(slot:Slot T name id)(hty:typeOf (.builtin id)=pure (.type "method_descriptor"))
  (hbase:attributeBase a name X.env (eval a X.env)=eval a X.env)
  (hfew:((backTo pos (starEach (e::es) X.env)).all (λx=> !x.1)&&(backToKw pos (keywordEach [] X.env)).all (λx=>x.1.isSome)
   &&decide ((e::es).length+([]:List Keyword).length+(if([]:List Keyword).isEmpty then 0 else 1)<30))=true)
  (hline:(apos.endLine==pos.line)=true) (hs:starEach (e::es) X.env=(false,eval e X.env)::starEach es X.env) (hplain:(backTo pos (starEach es X.env)).any (·.1)=false)
  (h:EV X a σ H λx H1=>tyV X.K T x H1/\EA X (e::es) σ H1 λxs H2=>MT X id x xs H2 Q):EV X (.Call (.Attribute a name apos) (e::es) [] pos) σ H Q:=
 ev_of (pe_bm pa slot hty mt_self pe_self pa_self hbase hfew hline hs hplain) h
theorem ev_bm0{T id:String}{name:Str}(pa:PlainAttrs T)(slot:Slot T name id)(hty:typeOf (.builtin id)=pure (.type "method_descriptor"))
  (hbase:attributeBase a name X.env (eval a X.env)=eval a X.env) (hline:(apos.endLine==pos.line)=true)
  (h:EV X a σ H λx H1=>tyV X.K T x H1/\MT X id x [] H1 Q):EV X (.Call (.Attribute a name apos) [] [] pos) σ H Q:=
 ev_of (pe_bm0 pa slot hty mt_self pe_self hbase hline) h
theorem sxs_nil(q:D.nx σ H):SXs X [] D σ H:=sxs_of pss_nil q
theorem sxs_cons{st:Stmt}{rest:List Stmt}(h:SX X st {D with nx:=λσ' H'=>SXs X rest D σ' H'} σ H):SXs X (st::rest) D σ H:=sxs_of (pss_cons ps_self pss_self) h
theorem sxs_one{st:Stmt}(h:SX X st D σ H):SXs X [st] D σ H:=sxs_of (pss_one ps_self) h
theorem sx_expr(hs:swapsWith e none pos.line X.env=pure false)(h:EV X e σ H λ_ H1=>D.nx σ H1):SX X (.Expr e pos) D σ H:=sx_of (ps_expr pe_self hs) h
theorem sx_ret(h:EV X e σ H D.rt):SX X (.Return (some e) pos) D σ H:=sx_of (ps_ret pe_self) h
theorem sx_if{t u:List Stmt}(h:ET X c σ H λk H1=>if k=true then SXs X t D σ H1 else SXs X u D σ H1):SX X (.If c t u pos) D σ H:=sx_of (ps_if pt_self pss_self pss_self) h
theorem sx_set{i:Nat}{p':Pos}(hN:X.N.Nodup)(hi:nameAt X.N x=some i)(hx:Loc X.env.scope x)(hs:swapsWith e (some (.Name x p')) pos.line X.env=pure false)(hf:X.fn x=true\/X.env.scope.names.lookup x=some .local)
  (h:EV X e σ H λv H1=>D.nx (σ.set i (some v)) H1):SX X (.Assign [.Name x p'] e pos) D σ H:=sx_of (ps_set hN (nameAt_get hi) hx pe_self hs hf) h
theorem eg_name{i:Nat}{QG:St->Hp->Prop}(hN:X.N.Nodup)(hi:nameAt X.N x=some i)(hx:Loc X.env.scope x)(hf:X.fn x=true\/X.env.scope.names.lookup x=some .local)(q:QG (σ.set i (some v)) H):EG X (.Name x pos) v σ H QG:=
 eg_of (pg_name hN (nameAt_get hi) hx hf) q
theorem egs_nil{QG:St->Hp->Prop}(q:QG σ H):EGs X [] [] σ H QG:=egs_of pgs_nil ⟨rfl,q⟩
theorem egs_cons{ts:List Expr}{vs:List V}{QG:St->Hp->Prop}(hs:(assignEach (e::ts) X.env).map (·.2)=assign e X.env::(assignEach ts X.env).map (·.2))(h:EG X e v σ H λσ' H'=>EGs X ts vs σ' H' QG):EGs X (e::ts) (v::vs) σ H QG:=
 egs_of (pgs_cons pg_self pgs_self hs) ⟨v,vs,rfl,h⟩
theorem eg_tup{n:Nat}{k:Nat}{QG:St->Hp->Prop}{q:Addr}{xs:List V}(hc:X.calm=true)(hn:(assignEach es X.env).length=n)(hst:(assignEach es X.env).findIdx? (·.1)=none)
  (ht:SqT X.K H q xs) (hl:xs.length=n) (h:EGs X es xs σ H QG):EG X (.Tuple es k pos) (.ref q) σ H QG:=
 eg_of (pg_tup hc pgs_self hn hst) ⟨q,xs,rfl,ht,hl,h⟩
theorem sx_for{tg iter:Expr}{body:List Stmt}(hp:PassesOwn (model X.prog X.w) X.A X.env X.xe)(hc:X.calm=true)(hs:∀x,foldedSetIterable iter X.env x=pure x)
  (h:EI X tg iter σ H λJ H1=>∃W:Nat->Nat->St->Hp->Prop,(∃m,W 0 m σ H1)/\∀i m σ H,W i m σ H->
   (J.stop i H/\D.nx σ H)\/(J.go i H/\∃N:St->Hp->Prop,(∀σ' H',N σ' H'->∃m',m'<m/\W (i+1) m' σ' H')/\∀x H',J.yld i H x H'->EG X tg x σ H' λσ2 H2=>SXs X body {D with nx:=N,ct:=N,bk:=D.nx} σ2 H2)):
  SX X (.For tg iter body [] pos) D σ H:=sx_of (ps_for hp hc pi_self pg_self pss_self hs) h
theorem ei_list{tg l:Expr}{R:It->Hp->Prop}(h:EV X l σ H λx H1=>∃a,x= .ref a/\(∃xs,SqL X.K H1 a xs)/\R (Itl X.K a) H1):EI X tg l σ H R:=ei_of (pi_list pe_self) h
theorem ei_range1{tg:Expr}{R:It->Hp->Prop}(hg:Gl X "range")(hm:X.mg "range"=none)(hs:starEach [a] X.env=[(false,eval a X.env)])
  (h:EA X [a] σ H λvs H1=>∃j:Int,vs=[.int j]/\ -(2^62)≤j/\j<2^62/\R (Itr 0 j.toNat) H1):EI X tg (.Call (.Name "range" p) [a] [] pos) σ H R:=ei_of (pi_range1 hg hm pa_self hs) h
theorem ei_range2{tg:Expr}{R:It->Hp->Prop}(hg:Gl X "range")(hm:X.mg "range"=none)(hs:starEach [a,b] X.env=[(false,eval a X.env),(false,eval b X.env)])(hs2:starEach [b] X.env=[(false,eval b X.env)])
  (h:EA X [a,b] σ H λvs H1=>∃i j:Int,vs=[.int i,.int j]/\(-(2^62)≤i/\i<2^62/\ -(2^62)≤j/\j<2^62)/\R (Itr i (j-i).toNat) H1):EI X tg (.Call (.Name "range" p) [a,b] [] pos) σ H R:=ei_of (pi_range2 hg hm pa_self hs hs2) h
theorem ev_mono{Q':VK}(h:EV X e σ H Q)(m:∀v H',Q v H'->Q' v H'):EV X e σ H Q':=λpins s I=>thn (h pins s I) λ_ _ ⟨v,H',I',r,q⟩=>⟨v,H',I',r,m v H' q⟩
theorem op_by{f:Value->Value->Sem Value}{r:R2}{y z:V}(h:OpR X f r)(q:r y z H Q):OP X f y z H Q:=⟨r,h,q⟩
variable{i j:Int}{k k':Bool}{z z':Str}
theorem o_add(q:Q (.int (i+j)) H):OP X (binaryOp .Add) (.int i) (.int j) H Q:=op_by op_add ⟨i,j,rfl,rfl,q⟩
theorem o_sub(q:Q (.int (i-j)) H):OP X (binaryOp .Sub) (.int i) (.int j) H Q:=op_by op_sub ⟨i,j,rfl,rfl,q⟩
theorem o_mul(c:CMul i j)(q:Q (.int (i*j)) H):OP X (binaryOp .Mult) (.int i) (.int j) H Q:=op_by op_mul ⟨i,j,rfl,rfl,c,q⟩
theorem o_mod(c:0<j)(q:Q (.int (i % j)) H):OP X (binaryOp .Mod) (.int i) (.int j) H Q:=op_by op_mod ⟨i,j,rfl,rfl,c,q⟩
theorem o_pow(c:CPow i j)(q:Q (.int (i^j.toNat)) H):OP X (binaryOp .Pow) (.int i) (.int j) H Q:=op_by op_pow ⟨i,j,rfl,rfl,c,q⟩
theorem o_lt(q:Q (.bl (decide (i<j))) H):OP X (compareOp .Lt) (.int i) (.int j) H Q:=op_by op_lt ⟨i,j,rfl,rfl,q⟩
theorem o_le(q:Q (.bl (decide (i≤j))) H):OP X (compareOp .LtE) (.int i) (.int j) H Q:=op_by op_le ⟨i,j,rfl,rfl,q⟩
theorem o_gt(q:Q (.bl (decide (j<i))) H):OP X (compareOp .Gt) (.int i) (.int j) H Q:=op_by op_gt ⟨i,j,rfl,rfl,q⟩
theorem o_ge(q:Q (.bl (decide (j≤i))) H):OP X (compareOp .GtE) (.int i) (.int j) H Q:=op_by op_ge ⟨i,j,rfl,rfl,q⟩
theorem o_eq{y z:V}(s:scal y z=true)(q:Q (.bl (decide (y=z))) H):OP X (compareOp .Eq) y z H Q:=op_by op_eq ⟨s,q⟩
theorem o_ne{y z:V}(s:scal y z=true)(q:Q (.bl (!decide (y=z))) H):OP X (compareOp .NotEq) y z H Q:=op_by op_ne ⟨s,q⟩
theorem o_inS(q:Q (.bl (!(Builtin.Str.occurrences z' z 0 z'.length 1).isEmpty)) H):OP X (compareOp .In) (.str z) (.str z') H Q:=op_by op_in_str ⟨z,z',rfl,rfl,q⟩
theorem o_ninS(q:Q (.bl (!(!(Builtin.Str.occurrences z' z 0 z'.length 1).isEmpty))) H):OP X (compareOp .NotIn) (.str z) (.str z') H Q:=op_by op_notin_str ⟨z,z',rfl,rfl,q⟩
theorem o_isN{y:V}(q:Q (.bl (decide (y= .non))) H):OP X (compareOp .Is) y .non H Q:=op_by op_isN ⟨rfl,q⟩
theorem o_notN{y:V}(q:Q (.bl (!decide (y= .non))) H):OP X (compareOp .IsNot) y .non H Q:=op_by op_notN ⟨rfl,q⟩
theorem o_addS(c:z.length+z'.length≤sizeLine)(q:Q (.str (z++z')) H):OP X (binaryOp .Add) (.str z) (.str z') H Q:=op_by op_add_str ⟨z,z',rfl,rfl,c,q⟩
theorem u_neg(q:Q (.int (-i)) H):UN X (unaryOp .USub) (.int i) H Q:=⟨_,un_neg,i,rfl,q⟩
theorem cl_by{f:Value}{r:List V->Hp->VK->Prop}{vs:List V}(h:CallR X f r)(q:r vs H Q):CL X f vs H Q:=⟨r,h,q⟩
theorem c_len{q:Addr}{ys:List V}(h:SqL X.K H q ys\/SqT X.K H q ys)(g:Q (.int ys.length) H):CL X (.builtin "len") [.ref q] H Q:=cl_by call_len_seq ⟨q,ys,rfl,h,g⟩
theorem c_lenS(h:z.length≤sizeLine)(g:Q (.int z.length) H):CL X (.builtin "len") [.str z] H Q:=cl_by call_len_str ⟨z,rfl,h,g⟩
theorem c_strI(h:i.natAbs.log2<1920)(g:Q (.str (toString i)) H):CL X (.type "str") [.int i] H Q:=cl_by call_str_int ⟨i,rfl,h,g⟩
theorem c_list{q:Addr}{ys:List V}(h:SqL X.K H q ys\/SqT X.K H q ys)(g:∀l,H l=none->Q (.ref l) (upd H l (.lst ys))):CL X (.type "list") [.ref q] H Q:=cl_by call_list_of ⟨q,ys,rfl,h,g⟩
theorem ix_by{r:R2}{y z:V}(h:IxR X r)(q:r y z H Q):IX X y z H Q:=⟨r,h,q⟩
theorem i_list{q:Addr}{xs:List V}(h:SqL X.K H q xs)(e:atI xs i=some v)(g:Q v H):IX X (.ref q) (.int i) H Q:=ix_by ix_list ⟨q,xs,i,v,rfl,rfl,h,e,g⟩
theorem i_tup{q:Addr}{xs:List V}(h:SqT X.K H q xs)(e:atI xs i=some v)(g:Q v H):IX X (.ref q) (.int i) H Q:=ix_by ix_tup ⟨q,xs,i,v,rfl,rfl,h,e,g⟩
theorem i_str{n:Nat}(h:z.length≤sizeLine)(e:atI z.cps.toList i=some n)(g:Q (.str ⟨#[n]⟩) H):IX X (.str z) (.int i) H Q:=ix_by ix_str ⟨z,i,n,rfl,rfl,h,e,g⟩
theorem s_list{q:Addr}{xs:List V}{lo hi:Option Int}(h:SqL X.K H q xs)(g:∀p,H p=none->Q (.ref p) (upd H p (.lst (cutV xs lo hi)))):SL X (.ref q) lo hi H Q:=⟨_,sl_list,q,xs,rfl,h,g⟩
theorem c_isinst{y:V}{t:Value}{T:String}(ty:TyOf X.K H y t)(e:PySem.W.kitOne X.K t (.type T)=some k)(g:Q (.bl k) H):CL X (.builtin "isinstance") [y,.ty T] H Q:=by
 refine⟨λxs H Q=>∃y t T k,xs=[y,.ty T]/\TyOf X.K H y t/\PySem.W.kitOne X.K t (.type T)=some k/\Q (.bl k) H,?_,y,t,T,k,rfl,ty,e,g⟩
 intro pins s σ H xs us Q I r h
 obtain⟨y,t,T,k,rfl,ty,e,g⟩:=h
 obtain⟨u1,u2,rfl,r1,r2⟩:=vals2 r
 cases(show u2=Value.type T from r2)
 exact isinst_ok I r1 ty e λtk=>⟨.bl k,H,I.tok tk,rfl,g⟩
end
end L2
namespace L2
open PySem PySem.Spec PyProof.Rows
def Its(x:Str):It:=⟨λi _=>i<x.cps.size,λi H v H'=>H'=H/\∃c,x.cps[i]? =some c/\v= .str ⟨#[c]⟩,λi _=>x.cps.size≤i⟩
theorem turn_str{P:Program}{w:World}{K:PySem.W.Frag}{tg:Expr}{T:String}(hT:T="str_ascii_iterator"\/T="str_iterator")(it:Addr)(x:Str)(t:Tok):Turn P w K tg (Its x) [it] it (λi h=>h.IsStrIter it T x t i)where
 mem:=by simp
 obj:=λi h st b hb=>by
  have e:b=it:=by simpa using hb
  subst e
  obtain⟨o,e,c,d⟩:=st
  exact⟨o,e,λv z=>by rw[d]at z;cases z⟩
 keep:=λi h h' st k=>by
  obtain⟨o,e,c,d⟩:=st
  exact⟨o,k it (by simp) o e,c,d⟩
 item:=by
  intro X hP hw hK hc i pins s σ H E I hf st hg
  subst hP hw hK
  obtain⟨f0,f1,f2,f3,f4,f5⟩:=hf it (by simp)
  have hg':i<x.cps.size:=hg
  have hW:∃W:Nat->Heap->Prop,Walks X.prog X.w X.A it [it] [it] x.cps.size (SignAt x) W/\W=λi h=>h.IsStrIter it T x t i:=by
   rcases hT with rfl |rfl
   .exact⟨_,Walks.strAscii (I.ok.hd hc) it x t,rfl⟩
   .exact⟨_,Walks.strWide (I.ok.hd hc) it x t,rfl⟩
  obtain⟨_,W,rfl⟩:=hW
  refine W.item i s _ _ hg' st λv h' tk hv st' kk=>?_
  obtain⟨c,u,e1,rfl⟩:=hv
  have I1:Inv X pins σ H {s with heap:=h',toks:=tk}:=I.turned (λb o hb e=>kk b o (by simpa using hb) e) f0 f1 f3 f4 f5
  obtain⟨o,e,c',d⟩:=id st'
  refine⟨_,rfl,go_of (s:={s with heap:=h',toks:=tk}) (n:=T) e c' d (by rcases hT with rfl |rfl<;>decide) ⟨.str ⟨#[c]⟩,H,I1,⟨u,rfl⟩,⟨rfl,c,e1,rfl⟩,st',λb hb=>(hf b hb).1⟩⟩
 done:=by
  intro X hP hw hK hc i pins s σ H E I hf st hg
  subst hP hw hK
  obtain⟨f0,f1,f2,f3,f4,f5⟩:=hf it (by simp)
  have hg':x.cps[i]? =none:=Array.getElem?_eq_none hg
  rcases hT with rfl |rfl
  .exact wpAny_pyNext_ascii_end (I.ok.hd hc) st hg' λh' eb=>⟨rfl,I.turned (t':=s.toks) (λb o hb e=>eb b o hb e) f0 f1 f3 f4 f5⟩
  .exact wpAny_pyNext_wide_end (I.ok.hd hc) st hg' λh' eb=>⟨rfl,I.turned (t':=s.toks) (λb o hb e=>eb b o hb e) f0 f1 f3 f4 f5⟩
 self:=λ_ _ _ _ _ st h=>by
  rcases hT with rfl |rfl
  .exact wpAny_pyIter_striter_ascii st h
  .exact wpAny_pyIter_striter_wide st h
section
variable{X:Cx}{tg l:Expr}{σ:St}{H:Hp}{R:It->Hp->Prop}
theorem ei_str(h:EV X l σ H λx H1=>∃z,x= .str z/\R (Its z) H1):EI X tg l σ H R:=by
 intro pins s I
 refine thn (h pins s I) λv s1 ⟨x,H1,I1,r1,z,e,q⟩=>?_
 subst e
 obtain⟨t,rfl⟩:=r1
 have fin:∀T:String,(T="str_ascii_iterator"\/T="str_iterator")->
   PIE X pins σ tg R (.ref s1.heap.objs.size) {s1 with heap:=s1.heap.push {cls:=.type T,data:=.fields #[.str z t,.int 0 0]}}:=λT hT=>by
  refine⟨s1.heap.objs.size,[s1.heap.objs.size],_,_,H1,rfl,I1.kept (t':=s1.toks) λb o e=>Heap.get?_push_of_some _ e,turn_str hT _ z t,⟨_,Heap.get?_push_size _ rfl,rfl,rfl⟩,λb hb=>?_,q⟩
  have e:b=s1.heap.objs.size:=by simpa using hb
  subst e
  exact I1.fpOk (Nat.le_refl _) (I1.hok.fresh (Nat.le_refl _))
 cases ha:z.cps.all (· <128)
 .exact wpAny_pyIter_wide ha (fin _ (.inr rfl))
 .exact wpAny_pyIter_ascii ha (fin _ (.inl rfl))
end
def capSt(N' N:List Str)(σ:St)(scope:Scope):St:=N'.map λx=>if scope.names.lookup x=some .free then nameV N σ x else none
def blk(X:Cx)(N':List Str)(scope:Scope)(cl:List (Str×Addr))(C:Addr)(s:Shared)(H:Hp)(fp:List Addr):Cx:=
 {X with N:=N',s₀:=s,H₀:=H,env:=compEnvC scope cl C X.env,outer:=X.stack,stack:=X.stack,ex:=fp,fn:=λ_=>false,pn:=[],xe:=λ_ _=>False}
def EIfs(X:Cx)(ifs:List Expr)(σ:St)(H:Hp)(Q:Bool->Hp->Prop):Prop:=
 ∀(pins:List (Addr×Obj)) (s:Shared),Inv X pins σ H s->
  wpAny (model X.prog X.w) X.A (forIn ifs true λc r=>if r=true then do let ok<-isTrue c X.env (eval c X.env);pure (ForInStep.yield ok)else pure (ForInStep.yield r)) (TP X pins σ Q) X.xe s
theorem closure_go(env:Env):∀(names:List (Str×NameKind)) (cs:List (Str×Addr)),(∀y∈names,y.2= .free->∃c,env.cells.lookup y.1=some c)->
  (forIn names cs (λ(x:Str×NameKind) (r:List (Str×Addr))=>if(x.2==NameKind.free)=true then do let a<-cellOf env x.1;pure (ForInStep.yield ((x.1,a)::r))else pure (ForInStep.yield r)):Sem (List (Str×Addr)))=
   pure (names.foldl (λcs y=>if y.2== .free then(y.1,(env.cells.lookup y.1).getD 0)::cs else cs) cs)
 |[],cs,_=>by simp
 |(n,k)::r,cs,h=>by
  rw[List.forIn_cons]
  by_cases hk:k= .free
  .subst hk
   obtain⟨c,e⟩:=h (n,.free) List.mem_cons_self rfl
   have e':cellOf env n=pure c:=by
    unfold cellOf
    have e2:env.cells.lookup n=some c:=e
    rw[e2]
   simp only[beq_self_eq_true,if_true,e',pure_bind]
   have e2:env.cells.lookup n=some c:=e
   rw[closure_go env r _ λy hy=>h y (List.mem_cons_of_mem _ hy),List.foldl_cons]
   simp only[beq_self_eq_true,if_true,e2,Option.getD_some]
  .have hb:(k==NameKind.free)=false:=by simpa using hk
   simp only[hb,Bool.false_eq_true,if_false,pure_bind]
   rw[closure_go env r _ λy hy=>h y (List.mem_cons_of_mem _ hy),List.foldl_cons]
   simp only[hb,Bool.false_eq_true,if_false]
def closL(scope:Scope)(env:Env):List (Str×Addr):=scope.names.foldl (λcs y=>if y.2== .free then(y.1,(env.cells.lookup y.1).getD 0)::cs else cs) []
theorem closure_eq{scope:Scope}{env:Env}(h:∀y∈scope.names,y.2= .free->∃c,env.cells.lookup y.1=some c):closureFor scope env=pure (closL scope env):=by
 have :=closure_go env scope.names [] h
 unfold closureFor closL
 rw[<-this]
 simp
theorem closL_mem{env:Env}:∀(names:List (Str×NameKind)) (cs:List (Str×Addr)),(∀y∈names,y.2= .free->∃c,env.cells.lookup y.1=some c)->
  ∀x c,(names.foldl (λcs y=>if y.2== .free then(y.1,(env.cells.lookup y.1).getD 0)::cs else cs) cs).lookup x=some c->(env.cells.lookup x=some c\/cs.lookup x=some c)
 |[],cs,_,x,c,e=>.inr e
 |(n,k)::r,cs,h,x,c,e=>by
  rw[List.foldl_cons]at e
  rcases closL_mem r _ (λy hy=>h y (List.mem_cons_of_mem _ hy)) x c e with q |q
  .exact .inl q
  .by_cases hk:k= .free
   .subst hk
    obtain⟨c',e'⟩:=h (n,.free) List.mem_cons_self rfl
    have e2:env.cells.lookup n=some c':=e'
    simp only[beq_self_eq_true,if_true,e2,Option.getD_some,List.lookup_cons]at q
    cases hx:x==n with
    |true=>
     rw[hx]at q
     have hx':x=n:=by simpa using hx
     subst hx'
     exact .inl (e2.trans q)
    |false=>rw[hx]at q;exact .inr q
   .have hb:(k==NameKind.free)=false:=by simpa using hk
    rw[if_neg (by simp[hb])]at q
    exact .inr q
theorem closL_has{env:Env}:∀(names:List (Str×NameKind)) (cs:List (Str×Addr)) (x:Str),((x,NameKind.free)∈names\/∃c,cs.lookup x=some c)->
  ∃c,(names.foldl (λcs y=>if y.2== .free then(y.1,(env.cells.lookup y.1).getD 0)::cs else cs) cs).lookup x=some c
 |[],cs,x,h=>by
  rcases h with h |h
  .cases h
  .exact h
 |(n,k)::r,cs,x,h=>by
  rw[List.foldl_cons]
  refine closL_has r _ x ?_
  by_cases hk:k= .free
  .subst hk
   simp only[beq_self_eq_true,if_true,List.lookup_cons]
   cases hx:x==n with
   |true=>exact .inr ⟨_,rfl⟩
   |false=>
    rcases h with h |h
    .rcases List.mem_cons.mp h with h |h
     .cases h
      simp at hx
     .exact .inl h
    .exact .inr h
  .have hb:(k==NameKind.free)=false:=by simpa using hk
   rw[if_neg (by simp[hb])]
   rcases h with h |h
   .rcases List.mem_cons.mp h with h |h
    .cases h
     exact absurd rfl hk
    .exact .inl h
   .exact .inr h
theorem relabel_free{env:Env}{x:Str}:∀{names:List (Str×NameKind)},names.lookup x=some .free->
  (names.map λ(n,k)=>if(k==NameKind.free&&env.scope.kind== .function&&env.kindOf n==some .cell)then(n,NameKind.cell)else(n,k)).lookup x=some .cell\/
  (names.map λ(n,k)=>if(k==NameKind.free&&env.scope.kind== .function&&env.kindOf n==some .cell)then(n,NameKind.cell)else(n,k)).lookup x=some .free
 |[],h=>by simp at h
 |(n,k')::r,h=>by
  have ih:= @relabel_free env x r
  show List.lookup x ((if(k'==NameKind.free&&env.scope.kind== .function&&env.kindOf n==some .cell)=true then(n,NameKind.cell)else(n,k'))::_)=_\/List.lookup x ((if(k'==NameKind.free&&env.scope.kind== .function&&env.kindOf n==some .cell)=true then(n,NameKind.cell)else(n,k'))::_)=_
  cases hx:x==n with
  |true=>
   simp only[List.lookup_cons,hx]at h
   cases h
   by_cases hc:(NameKind.free==NameKind.free&&env.scope.kind== .function&&env.kindOf n==some .cell)=true
   .rw[if_pos hc];left;simp only[List.lookup_cons,hx]
   .rw[if_neg hc];right;simp only[List.lookup_cons,hx]
  |false=>
   simp only[List.lookup_cons,hx]at h
   by_cases hc:(k'==NameKind.free&&env.scope.kind== .function&&env.kindOf n==some .cell)=true
   .rw[if_pos hc];simp only[List.lookup_cons,hx];exact ih h
   .rw[if_neg hc];simp only[List.lookup_cons,hx];exact ih h
theorem relabel_cf{env:Env}{x:Str}:∀{names:List (Str×NameKind)},(∀y∈names,y.2≠ .cell)->
  ((names.map λ(n,k)=>if(k==NameKind.free&&env.scope.kind== .function&&env.kindOf n==some .cell)then(n,NameKind.cell)else(n,k)).lookup x=some .cell\/
  (names.map λ(n,k)=>if(k==NameKind.free&&env.scope.kind== .function&&env.kindOf n==some .cell)then(n,NameKind.cell)else(n,k)).lookup x=some .free)->(x,NameKind.free)∈names
 |[],_,h=>by simp at h
 |(n,k')::r,hc0,h=>by
  have ih:= @relabel_cf env x r λy hy=>hc0 y (List.mem_cons_of_mem _ hy)
  have h':List.lookup x ((if(k'==NameKind.free&&env.scope.kind== .function&&env.kindOf n==some .cell)=true then(n,NameKind.cell)else(n,k'))::(r.map λ(n,k)=>if(k==NameKind.free&&env.scope.kind== .function&&env.kindOf n==some .cell)then(n,NameKind.cell)else(n,k)))=some .cell\/
   List.lookup x ((if(k'==NameKind.free&&env.scope.kind== .function&&env.kindOf n==some .cell)=true then(n,NameKind.cell)else(n,k'))::(r.map λ(n,k)=>if(k==NameKind.free&&env.scope.kind== .function&&env.kindOf n==some .cell)then(n,NameKind.cell)else(n,k)))=some .free:=h
  cases hx:x==n with
  |true=>
   have hx':x=n:=by simpa using hx
   subst hx'
   by_cases hc:(k'==NameKind.free&&env.scope.kind== .function&&env.kindOf x==some .cell)=true
   .have :k'= .free:=by simp only[Bool.and_eq_true]at hc;simpa using hc.1.1
    subst this
    exact List.mem_cons_self
   .rw[if_neg hc]at h'
    simp only[List.lookup_cons,hx]at h'
    rcases h' with h' |h'
    .cases h'
     exact absurd rfl (hc0 (x,.cell) List.mem_cons_self)
    .cases h'
     exact List.mem_cons_self
  |false=>
   refine List.mem_cons_of_mem _ (ih ?_)
   by_cases hc:(k'==NameKind.free&&env.scope.kind== .function&&env.kindOf n==some .cell)=true
   .rw[if_pos hc]at h';simpa only[List.lookup_cons,hx]using h'
   .rw[if_neg hc]at h';simpa only[List.lookup_cons,hx]using h'
theorem compLoop_any{prog:Program}{w:World}{A:Around}{R:Result->Shared->Prop}{s:Shared}{elt target iter:Expr}{ifs:List Expr}{scope:Scope}{pos:Pos}{it acc:Value}{env:Env}(I:Nat->Shared->Prop)
  (turn:∀n s,I n s->wpAny (model prog w) A (pyNext it) (λr s₁=>match r with
   |none=>R (.ok .next) s₁
   |some v=>wpAny (model prog w) A (letOwnedTupleGo target it v) (λ_ s₁'=>wpAny (model prog w) A (assign target env v) (λ_ s₂=>
    wpAny (model prog w) A (forIn ifs true λc r=>if r=true then do let ok<-isTrue c env (eval c env);pure (ForInStep.yield ok)else pure (ForInStep.yield r)) (λok s₃=>
     if ok=true then wpAny (model prog w) A (eval elt env) (λx s₄=>
      wpAny (model prog w) A (call (.builtin "list.append") [acc,x]) (λ_ s₅=>∃m,m<n/\I m s₅) (λ_ _=>False) s₄) (λ_ _=>False) s₃
     else ∃m,m<n/\I m s₃) (λ_ _=>False) s₂) (λ_ _=>False) s₁') (λ_ _=>False) s₁) (λ_ _=>False) s)
  (n:Nat) (h:I n s):
  codeAny (model prog w) A (.compLoop (.ListComp elt [⟨target,iter,ifs,0⟩] scope pos) 0 it acc env) R s:=by
 refine codeAny_loop rfl I (λn s hI=>?_) n h
 show wpAny _ A ((compTurn (.ListComp elt [⟨target,iter,ifs,0⟩] scope pos) 0 it acc env).onRaise (λx=>do noteFrame x env;theTreesLotGoes x)) _ _ s
 refine wpAny_noted ?_
 rw[compTurn_list]
 refine wpAny_bind (wpAny_standAt (wpAny_bind (wpAny_mono (turn n s hI) (λr s₁ h₁=>?_) λ_ _ h'=>h'.elim)))
 cases r with
 |none=>exact wpAny_pure h₁
 |some v=>
  refine wpAny_bind (wpAny_mono h₁ (λ_ s₁' h₁'=>?_) λ_ _ h'=>h'.elim)
  refine wpAny_bind (wpAny_mono h₁' (λ_ s₂ h₂=>wpAny_bind (wpAny_mono h₂ (λok s₃ h₃=>?_) λ_ _ h'=>h'.elim)) λ_ _ h'=>h'.elim)
  cases ok with
  |false=>exact wpAny_pure ⟨rfl,h₃⟩
  |true=>
   exact wpAny_bind (wpAny_bind (wpAny_mono h₃ (λx s₄ h₄=>wpAny_bind (wpAny_mono h₄ (λ_ s₅ h₅=>wpAny_pure (wpAny_pure ⟨rfl,h₅⟩)) λ_ _ h'=>h'.elim)) λ_ _ h'=>h'.elim))
end L2
namespace L2
open PySem PySem.Spec PyProof.Rows
section
variable{X:Cx}{pins:List (Addr×Obj)}{σ:St}{H H':Hp}{s s':Shared}{scope:Scope}{fp:List Addr}{N':List Str}
structure CompSc(env:Env)(scope:Scope):Prop where
 kind:scope.kind= .function
 free:∀y∈scope.names,y.2= .free->env.kindOf y.1=some .cell\/env.kindOf y.1=some .free
 cell:∀y∈scope.names,y.2≠ .cell
 loc:∀y∈scope.names,y.2= .local->scope.names.lookup y.1=some .local
theorem CompSc.has(S:CompSc X.env scope)(I:Inv X pins σ H s):∀y∈scope.names,y.2= .free->∃c,X.env.cells.lookup y.1=some c:=λy hy e=>I.ok.has y.1 (S.free y hy e)
theorem CompSc.cl(S:CompSc X.env scope)(I:Inv X pins σ H s){x:Str}{c:Addr}(h:(closL scope X.env).lookup x=some c):X.env.cells.lookup x=some c:=by
 rcases closL_mem scope.names [] (S.has I) x c h with q |q
 .exact q
 .simp at q
theorem blk_ok(S:CompSc X.env scope)(I:Inv X pins σ H s)(hf:∀b∈fp,FpOk X pins H b)(hfs:∀b∈fp,b<s.heap.objs.size):(blk X N' scope (closL scope X.env) s.heap.objs.size s H fp).Ok where
 mod:=I.ok.mod
 kind:=S.kind
 glob:=I.ok.glob
 blt:=I.ok.blt
 above:=Nat.le_refl _
 inj:=λx y c h1 h2=>I.ok.inj x y c (S.cl I h1) (S.cl I h2)
 has:=λx hx=>closL_has (env:=X.env) scope.names [] x (.inl (relabel_cf S.cell hx))
 cab:=λx c h _=>by cases h
 hd:=I.ok.hd
 frames:=I.ok.frames
 stk:=.inl rfl
 exf:=λb hb=>⟨Nat.ne_of_lt (hfs b hb),λx c h=>(hf b hb).2.2.2.2.1 x c (S.cl I h)⟩
 bs:=I.bs
 bsz:=Nat.le_trans I.ok.bsz I.sz
 noex:=λb o e hb=>by
  rcases(hf b hb).2.2.2.1 with z |z
  .exact I.ok.noex b o e z
  .rw[(I.ok.bs b o e).1]at z;cases z
 exfs:=λb hb z=>by
  rcases List.mem_cons.mp (I.stkSub b z)with e |e
  .exact(hf b hb).2.1 e
  .exact(hf b hb).2.2.1 e
 funs:=I.stack
 frf:=I.stkFree
theorem capSt_get{N:List Str}{i:Nat}{x:Str}{v:V}(h1:N'[i]? =some x)(h2:(capSt N' N σ scope)[i]? =some (some v)):scope.names.lookup x=some .free/\nameV N σ x=some v:=by
 unfold capSt at h2
 rw[List.getElem?_map,h1]at h2
 have h3:(if scope.names.lookup x=some .free then nameV N σ x else none)=some v:=by simpa using h2
 split at h3
 .rename_i e
  exact⟨e,h3⟩
 .cases h3
theorem blk_inv(S:CompSc X.env scope)(I:Inv X pins σ H s)(hf:∀b∈fp,FpOk X pins H b)(hfs:∀b∈fp,b<s.heap.objs.size){h₁:Heap}{m:Str->Option Value}{tk:Nat}(hns:h₁.Ns s.heap.objs.size m)
  (old:∀b o,s.heap.get? b=some o->h₁.get? b=some o):Inv (blk X N' scope (closL scope X.env) s.heap.objs.size s H fp) [] (capSt N' X.N σ scope) H {s with heap:=h₁,toks:=tk}where
 ok:=blk_ok S I hf hfs
 os:=rfl
 bare:=I.bare
 base:=Un.kept old
 loc:=by
  refine⟨m,hns,λi x v h1 h2 h3=>?_⟩
  obtain⟨e1,e2⟩:=capSt_get h1 h2
  obtain⟨j,g1,g2⟩:=nameV_get e2
  have hm:(x,NameKind.free)∈scope.names:=PySem.mem_of_lookup e1
  have hk:=S.free _ hm rfl
  obtain⟨m0,_,hl⟩:=I.loc
  have vis:Vis X.env.scope x:=.inr hk
  obtain⟨u,r,lk⟩:=hl j x v g1 g2 vis
  refine⟨u,r,.inr ⟨relabel_free (env:=X.env) e1,?_⟩⟩
  rcases lk with⟨k,_⟩ |⟨_,c,e,z⟩
  .rcases hk with hk |hk
   .have hk':X.env.kindOf x=some .cell:=hk
    rw[hk']at k;cases k
   .have hk':X.env.kindOf x=some .free:=hk
    rw[hk']at k;cases k
  .obtain⟨c',e'⟩:=closL_has (env:=X.env) scope.names [] x (.inl hm)
   have e3:=S.cl I (x:=x) (c:=c') e'
   rw[e]at e3
   cases e3
   obtain⟨o,ho,hd⟩:=z
   exact⟨c,e',o,old _ _ ho,hd⟩
 cell:=λx c h=>by
  obtain⟨v,o,ho,hd⟩:=I.cell x c (S.cl I h)
  exact⟨v,o,old _ _ ho,hd⟩
 free:=I.hok.fresh (Nat.le_refl _)
 freeC:=λx c h=>I.freeC x c (S.cl I h)
 pin:=λp hp=>absurd (show p∈([]:List (Addr×Obj))from hp) (by simp)
 hok:=I.hok.kept old
 len:=by show(capSt N' X.N σ scope).length=N'.length;unfold capSt;rw[List.length_map]
theorem blk_end{τ:St}(I:Inv X pins σ H s)(hf:∀b∈fp,FpOk X pins H b)(J:Inv (blk X N' scope (closL scope X.env) s.heap.objs.size s H fp) [] τ H' s'):Inv X pins σ H' s':=by
 obtain⟨hh,g,d,t,os'⟩:=s'
 have e:os'=s.os:=J.os
 subst e
 exact I.call (h':=hh) (g':=g) (d':=d) (t':=t) (ch:=fp) J.base J.hok J.bare λb hb=>⟨(hf b hb).2.2.2.1,(hf b hb).2.1,(hf b hb).2.2.2.2.1,(hf b hb).2.2.2.2.2⟩
variable{elt iter tg:Expr}{ifs:List Expr}{pos:Pos}
def CompT(X Y:Cx)(tg elt:Expr)(ifs:List Expr)(J:It)(D:Addr)(σ':St)(H:Hp)(Q:Hp->Prop):Prop:=
 ∃W:Nat->Nat->St->Hp->Prop,(∃m,W 0 m σ' (upd H D (.lst [])))/\∀i m τ H,W i m τ H->
  (J.stop i H/\Q H)\/(J.go i H/\∃N:St->Hp->Prop,(∀τ' H',N τ' H'->∃m',m'<m/\W (i+1) m' τ' H')/\∀x H',J.yld i H x H'->
   EG Y tg x τ H' λτ2 H2=>EIfs Y ifs τ2 H2 λk H3=>if k=true then EV Y elt τ2 H3 λy H4=>∃xs,H4 D=some (.lst xs)/\xs.length<sizeLine/\N τ2 (upd H4 D (.lst (xs++[y])))else N τ2 H3)
theorem comp_run{R:Value->Addr->Result->Shared->Prop}{it:Addr}{tn:Nat->Heap->Prop}{J:It}{E:Value->Shared->Prop}{Q:Addr->Hp->Prop}(hc:X.calm=true)(S:CompSc X.env scope)(I:Inv X pins σ H s)
  (T:Turn X.prog X.w X.K tg J fp it tn) (st:tn 0 s.heap) (hf:∀b∈fp,FpOk X pins H b)
  (h:∀(D C:Addr) (s3:Shared),H D=none->CompT X (blk X N' scope (closL scope X.env) C s3 (upd H D (.lst [])) fp) tg elt ifs J D (capSt N' X.N σ scope) H (Q D))
  (hR:∀(D C:Addr) (H':Hp) (s':Shared),H D=none->Q D H'->Inv X pins σ H' s'->FpOk X pins H' C->(∃m,s'.heap.Ns C m)->R (.ref D) C (.ok .next) s'):
  wpAny (model X.prog X.w) X.A (newList []) (λacc s₃=>wpAny (model X.prog X.w) X.A (newFunctionEnv scope X.env.globals (closL scope X.env) [] X.env.qual none .none (some X.env)) (λcenv s₄=>
   codeAny (model X.prog X.w) X.A (.compStart (.ListComp elt [⟨tg,iter,ifs,0⟩] scope pos) 0 (.ref it) acc {cenv with scope:=relabel scope X.env}) (R acc cenv.locals) s₄) E s₃) E s:=by
 refine wpAny_newObj_type ?_
 have hD:H s.heap.objs.size=none:=I.hok.fresh (Nat.le_refl _)
 generalize hs3:({s with heap:=s.heap.push {cls:=.type "list",dict:=none,data:=.seq ([]:List Value).toArray}}:Shared)=s3
 have I3:Inv X pins σ (upd H s.heap.objs.size (.lst [])) s3:=by
  subst hs3
  exact I.laid (t':=s.toks) (λb u e=>Heap.get?_push_of_some _ e) (Nat.le_refl _) ⟨Nat.zero_le _,[],0,.nil,Heap.get?_push_size _ rfl⟩
 have hsz:s3.heap.objs.size=s.heap.objs.size+1:=by subst hs3;exact Heap.size_push ..
 have old3:∀b o,s.heap.get? b=some o->s3.heap.get? b=some o:=λb o e=>by subst hs3;exact Heap.get?_push_of_some _ e
 have fpl:∀b∈fp,b<s.heap.objs.size:=λb hb=>by
  obtain⟨o,e,_⟩:=T.obj _ _ st b hb
  exact Heap.lt_size e
 have hf3:∀b∈fp,FpOk X pins (upd H s.heap.objs.size (.lst [])) b:=λb hb=>⟨by rw[upd_ne (Nat.ne_of_lt (fpl b hb))];exact(hf b hb).1,(hf b hb).2⟩
 have st3:tn 0 s3.heap:=T.keep _ _ _ st λb _ o e=>old3 b o e
 have fpl3:∀b∈fp,b<s3.heap.objs.size:=λb hb=>by rw[hsz];exact Nat.lt_succ_of_lt (fpl b hb)
 refine wpAny_newFunctionEnv S.cell (by intro y hy;simp at hy) (λh₁ hns hsb=>?_) S.kind
 have old4:∀b o,s3.heap.get? b=some o->h₁.get? b=some o:=λb o e=>hsb.extBut b o (Nat.ne_of_lt (Heap.lt_size e)) (Heap.get?_push_of_some _ e)
 generalize hY:blk X N' scope (closL scope X.env) s3.heap.objs.size s3 (upd H s.heap.objs.size (.lst [])) fp=Y
 have hT:=h s.heap.objs.size s3.heap.objs.size s3 hD
 rw[hY]at hT
 obtain⟨W,⟨m0,w0⟩,turn⟩:=hT
 generalize hs4:({s3 with heap:=h₁,toks:=s3.toks+([]:List (Str×Value)).length}:Shared)=s4
 have I4:Inv Y [] (capSt N' X.N σ scope) (upd H s.heap.objs.size (.lst [])) s4:=by
  subst hs4
  rw[<-hY]
  exact blk_inv S I3 hf3 fpl3 hns old4
 have st4:tn 0 s4.heap:=by
  subst hs4
  exact T.keep _ _ _ st3 λb _ o e=>old4 b o e
 have hP:Y.prog=X.prog:=by rw[<-hY];rfl
 have hw:Y.w=X.w:=by rw[<-hY];rfl
 have hK:Y.K=X.K:=by rw[<-hY];rfl
 have hA:Y.A=X.A:=by rw[<-hY];rfl
 have hcY:Y.calm=true:=by rw[<-hY];exact hc
 have hE:Y.xe=λ_ _=>False:=by rw[<-hY];rfl
 have hen:Y.env=compEnvC scope (closL scope X.env) s3.heap.objs.size X.env:=by rw[<-hY];rfl
 have hloc:Y.env.locals=s3.heap.objs.size:=by rw[hen];rfl
 have fpY:∀b∈fp,∀H':Hp,H' b=none->FpOk Y [] H' b:=λb hb H' e=>by
  rw[<-hY]
  refine⟨e,Nat.ne_of_lt (fpl3 b hb),λz=>?_,.inl hb,λx c q=>(hf3 b hb).2.2.2.2.1 x c (S.cl I3 q),λp hp=>absurd (show p∈([]:List (Addr×Obj))from hp) (by simp)⟩
  rcases List.mem_cons.mp (I3.stkSub b z)with e |e
  .exact(hf b hb).2.1 e
  .exact(hf b hb).2.2.1 e
 have loop:codeAny (model X.prog X.w) X.A (.compLoop (.ListComp elt [⟨tg,iter,ifs,0⟩] scope pos) 0 (.ref it) (.ref s.heap.objs.size) Y.env) (R (.ref s.heap.objs.size) s3.heap.objs.size) s4:=by
  refine compLoop_any (λn s'=>∃i τ H',Inv Y [] τ H' s'/\tn i s'.heap/\(∀b∈fp,H' b=none)/\W i n τ H') ?_ m0 ⟨0,_,_,I4,st4,λb hb=>(hf3 b hb).1,w0⟩
  rintro n s5 ⟨i,τ,H5,I5,st5,fr5,w5⟩
  have toF:∀{α:Type} {t:Sem α} {Q:α->Shared->Prop} {s:Shared},wpAny (model Y.prog Y.w) Y.A t Q Y.xe s->wpAny (model X.prog X.w) X.A t Q (λ_ _=>False) s:=λh=>by
   rw[hP,hw,hA,hE]at h;exact h
  rcases turn i n τ H5 w5 with⟨stop,qn⟩ |⟨go,N,hN,step⟩
  .have q:=T.done Y hP hw hK hcY i [] s5 τ H5 (λ_ _=>False) I5 (λb hb=>fpY b hb _ (fr5 b hb)) st5 stop
   rw[hA]at q
   refine thn q λr s6 ⟨hr,I6⟩=>?_
   subst hr
   have IX6:Inv X pins σ H5 s6:=by
    have I6':=I6
    rw[<-hY]at I6'
    exact blk_end I3 hf3 I6'
   refine hR _ _ H5 s6 hD qn IX6 (I3.fpOk (Nat.le_refl _) ?_) ?_
   .have :=I6.free
    rw[hloc]at this
    exact this
   .obtain⟨m,hn,_⟩:=I6.loc
    rw[hloc]at hn
    exact⟨m,hn⟩
  .have q:=T.item Y hP hw hK hcY i [] s5 τ H5 (λ_ _=>False) I5 (λb hb=>fpY b hb _ (fr5 b hb)) st5 go
   rw[hA]at q
   refine thn q λr s6 ⟨u,hr,h6⟩=>?_
   subst hr
   refine thn h6 λ_ s7 ⟨x,H7,I7,r7,y7,st7,fr7⟩=>?_
   have I7':=I7.pinned (λb hb=>fpY b hb _ (fr7 b hb)) (T.obj _ _ st7)
   have pinK:∀{τ':St} {H8:Hp} {s8:Shared},Inv Y ([]++pinsAt fp s7.heap) τ' H8 s8->tn (i+1) s8.heap/\∀b∈fp,H8 b=none:=λ{τ' H8 s8} I8=>by
    refine⟨T.keep _ _ _ st7 λb hb o e=>(I8.pin (b,o) (List.mem_append_right _ (List.mem_append_right _ (mem_pinsAt hb e)))).1,λb hb=>?_⟩
    obtain⟨o,e,d⟩:=T.obj _ _ st7 b hb
    exact(I8.pin (b,o) (List.mem_append_right _ (List.mem_append_right _ (mem_pinsAt hb e)))).2.1
   refine toF (thn (step x H7 y7 _ s7 u I7' r7) λ_ s8 ⟨τ8,H8,I8,q8⟩=>?_)
   refine toF (thn (q8 _ s8 I8) λok s9 ⟨H9,I9,q9⟩=>?_)
   cases ok with
   |false=>
    have q9':N τ8 H9:=by simpa using q9
    obtain⟨m',hm,w9⟩:=hN _ _ q9'
    obtain⟨k1,k2⟩:=pinK I9
    show ∃m,_
    exact⟨m',hm,i+1,τ8,H9,I9.unpinned,k1,k2,w9⟩
   |true=>
    have q9':EV Y elt τ8 H9 λy H4=>∃xs,H4 s.heap.objs.size=some (.lst xs)/\xs.length<sizeLine/\N τ8 (upd H4 s.heap.objs.size (.lst (xs++[y]))):=by simpa using q9
    show wpAny _ _ _ _ _ _
    refine toF (thn (q9' _ s9 I9) λz s10 ⟨y,H10,I10,r10,xs,e10,l10,n10⟩=>?_)
    refine toF (thn (mt_append _ s10 τ8 H10 (.ref s.heap.objs.size) [y] _ [z] (λv H11=>v= .non/\H11=upd H10 s.heap.objs.size (.lst (xs++[y]))) I10 rfl (.cons r10 .nil) ⟨_,xs,y,rfl,rfl,e10,l10,rfl,rfl⟩) λ_ s11 ⟨_,H11,I11,_,_,e11⟩=>?_)
    subst e11
    obtain⟨m',hm,w11⟩:=hN _ _ n10
    obtain⟨k1,k2⟩:=pinK I11
    exact⟨m',hm,i+1,τ8,_,I11.unpinned,k1,k2,w11⟩
 rw[hen]at loop
 exact codeAny_compStart_list loop (T.self X.A 0 s4 _ _ st4 loop)
theorem ev_comp{Q:VK}(hc:X.calm=true)(S:CompSc X.env scope)(hs:∀x,foldedSetIterable iter X.env x=pure x)
  (h:EI X tg iter σ H λJ H1=>∀(fp:List Addr) (D C:Addr) (s3:Shared),H1 D=none->CompT X (blk X N' scope (closL scope X.env) C s3 (upd H1 D (.lst [])) fp) tg elt ifs J D (capSt N' X.N σ scope) H1 (λH'=>Q (.ref D) H')):
  EV X (.ListComp elt [⟨tg,iter,ifs,0⟩] scope pos) σ H Q:=by
 intro pins s I
 rw[eval_ListComp]
 refine wpAny_comprehension_free (use:=none) rfl hs (closure_eq (S.has I)) S.kind S.loc (thn (h pins s I) λv s1 h1=>thn h1 λitv s2 h2=>?_)
 obtain⟨it,fp,tn,J,H2,e,I2,T,st2,f2,q2⟩:=h2
 subst e
 refine comp_run (R:=λacc C=>compPost (model X.prog X.w) X.A X.xe none (EP X pins σ Q) acc C) (Q:=λD H'=>Q (.ref D) H') hc S I2 T st2 f2 (λD C s3 hD=>q2 fp D C s3 hD) λD C H' s' hD qD IX fC hn=>?_
 obtain⟨m,hn⟩:=hn
 obtain⟨f0,f1,f2',f3,f4,f5⟩:=fC
 exact⟨m,hn,λh' hsb=>⟨.ref D,H',IX.turned (t':=s'.toks) (λb o hb e=>hsb.extBut b o hb e) f0 f1 f3 f4 f5,rfl,qD⟩⟩
theorem sx_comp{D:Ends}{y:Str}{py spos:Pos}{j:Nat}(hsw:swapsWith (.ListComp elt [⟨tg,iter,ifs,0⟩] scope pos) (some (.Name y py)) spos.line X.env=pure true)(hc:X.calm=true)(S:CompSc X.env scope)(hs:∀x,foldedSetIterable iter X.env x=pure x)
  (hN:X.N.Nodup) (hi:nameAt X.N y=some j) (hx:X.env.scope.names.lookup y=some .local)
  (h:EI X tg iter σ H λJ H1=>∀(fp:List Addr) (E C:Addr) (s3:Shared),H1 E=none->CompT X (blk X N' scope (closL scope X.env) C s3 (upd H1 E (.lst [])) fp) tg elt ifs J E (capSt N' X.N σ scope) H1 (λH'=>D.nx (σ.set j (some (.ref E))) H')):
  SX X (.Assign [.Name y py] (.ListComp elt [⟨tg,iter,ifs,0⟩] scope pos) spos) D σ H:=by
 intro pins s I
 rw[exec_Assign_Name_used _ _ _ _ hsw]
 refine wpAny_bind (wpAny_standAt (wpAny_bind ?_))
 show wpAny _ X.A (do let _<-comprehension (.ListComp elt [⟨tg,iter,ifs,0⟩] scope pos) scope X.env _ (newList []) false (eval iter X.env) (some (assign (.Name y py) X.env))) _ _ s
 refine wpAny_bind (wpAny_mono (wpAny_comprehension_free (use:=some (assign (.Name y py) X.env)) (Q:=λ_ s'=>SP X pins D .next s') rfl hs (closure_eq (S.has I)) S.kind S.loc
  (thn (h pins s I) λv s1 h1=>thn h1 λitv s2 h2=>?_)) (λ_ s' hq=>wpAny_pure (wpAny_pure hq)) λ_ _ e=>e)
 obtain⟨it,fp,tn,J,H2,e,I2,T,st2,f2,q2⟩:=h2
 subst e
 refine comp_run (R:=λacc C=>compPost (model X.prog X.w) X.A X.xe (some (assign (.Name y py) X.env)) (λ_ s'=>SP X pins D .next s') acc C) (Q:=λE H'=>D.nx (σ.set j (some (.ref E))) H') hc S I2 T st2 f2 (λE C s3 hD=>q2 fp E C s3 hD) λE C H' s' hD qD IX fC hn=>?_
 obtain⟨m,hn⟩:=hn
 obtain⟨f0,f1,f2',f3,f4,f5⟩:=fC
 show wpAny _ _ (assign (.Name y py) X.env (.ref E)) _ _ _
 refine wpAny_assign_Name (store_ok2 IX hN (nameAt_get hi) (.inl hx) (v:=.ref E) rfl (λs'' I'' hb=>?_) (.inr hx))
 obtain⟨a,sb,ha⟩:=hb
 have hCa:C≠a:=by
  rcases ha with ha |ha
  .rw[ha];exact f1
  .intro z
   exact f4 y a ha z.symm
 refine⟨m,hn.sameBut sb hCa,λh' hsb=>⟨σ.set j (some (.ref E)),H',I''.turned (t':=s''.toks) (λb o hb e=>hsb.extBut b o hb e) f0 f1 f3 f4 f5,qD⟩⟩
theorem eifs_nil{Q:Bool->Hp->Prop}(q:Q true H):EIfs X [] σ H Q:=λpins s I=>by
 rw[List.forIn_nil]
 exact wpAny_pure ⟨H,I,q⟩
end
end L2
namespace L2
open PySem PySem.Spec PyProof.Rows
theorem ifD{c A B:Prop} [Decidable c](h1:c->A)(h2:¬c->B):if decide c=true then A else B:=by
 by_cases h:c
 .rw[if_pos (decide_eq_true h)];exact h1 h
 .rw[if_neg (by simpa using h)];exact h2 h
theorem ifN{c A B:Prop} [Decidable c](h1:¬c->A)(h2:c->B):if(!decide c)=true then A else B:=by
 by_cases h:c
 .rw[if_neg (by simp[h])];exact h2 h
 .rw[if_pos (by simp[h])];exact h1 h
theorem ifB{k:Bool}{A B:Prop}(h1:k=true->A)(h2:k=false->B):if k=true then A else B:=by
 cases k with
 |true=>rw[if_pos rfl];exact h1 rfl
 |false=>rw[if_neg Bool.false_ne_true];exact h2 rfl
theorem iteNT{A B:Prop}(h:B):if(!true)=true then A else B:=by rw[if_neg (by decide)];exact h
theorem Same.upd{H:Hp}{p:Addr}{o:HO}(h:H p=none):Same H (L2.upd H p o):=λb u e=>by rw[upd_ne (ne_of_none e h)];exact e
section
variable{X:Cx}{a e:Expr}{σ:St}{H:Hp}{Q:VK}{D:Ends}{pos p p':Pos}
theorem sx_forR{tg:Expr}{body:List Stmt}(hp:PassesOwn (model X.prog X.w) X.A X.env X.xe)(hc:X.calm=true)(hg:Gl X "range")(hm:X.mg "range"=none)(hs:starEach [a] X.env=[(false,eval a X.env)])
  (h:EV X a σ H λv H1=>∃n:Int,v= .int n/\ -(2^62)≤n/\n<2^62/\∃Pv:Nat->St->Hp->Prop,Pv 0 σ H1/\
   (∀i σ' H',i<n.toNat->Pv i σ' H'->EG X tg (.int i) σ' H' λσ2 H2=>SXs X body {D with nx:=Pv (i+1),ct:=Pv (i+1),bk:=D.nx} σ2 H2)/\∀σ' H',Pv n.toNat σ' H'->D.nx σ' H'):
  SX X (.For tg (.Call (.Name "range" p) [a] [] p') body [] pos) D σ H:=by
 refine sx_for hp hc (by intro _;rfl) (ei_range1 hg hm hs (ea_cons hs (ev_mono h λv H1 q=>?_)))
 obtain⟨n,rfl,h1,h2,Pv,h0,hst,hd⟩:=q
 refine ea_nil ⟨n,rfl,h1,h2,?_⟩
 exact for_range (g:=EG X tg) (tb:=SXs X body) Pv h0 (λi σ' H' hi hP=>by rw[Int.zero_add];exact hst i σ' H' hi hP) hd
theorem sx_forS{tg:Expr}{body:List Stmt}(hp:PassesOwn (model X.prog X.w) X.A X.env X.xe)(hc:X.calm=true)(hs:∀x,foldedSetIterable e X.env x=pure x)
  (h:EV X e σ H λv H1=>∃z:Str,v= .str z/\∃Pv:Nat->St->Hp->Prop,Pv 0 σ H1/\
   (∀i c σ' H',z.cps.toList[i]? =some c->Pv i σ' H'->EG X tg (.str ⟨#[c]⟩) σ' H' λσ2 H2=>SXs X body {D with nx:=Pv (i+1),ct:=Pv (i+1),bk:=D.nx} σ2 H2)/\∀σ' H',Pv z.cps.toList.length σ' H'->D.nx σ' H'):
  SX X (.For tg e body [] pos) D σ H:=by
 refine sx_for hp hc hs (ei_str (ev_mono h λv H1 q=>?_))
 obtain⟨z,rfl,Pv,h0,hst,hd⟩:=q
 refine⟨z,rfl,λi m σ H=>m=z.cps.size-i/\i≤z.cps.size/\Pv i σ H,⟨z.cps.size,by simp,Nat.zero_le _,h0⟩,?_⟩
 rintro i m σ' H' ⟨rfl,hi,p⟩
 by_cases hlt:i<z.cps.size
 .refine .inr ⟨hlt,Pv (i+1),λσ2 H2 p2=>⟨z.cps.size-(i+1),by omega,rfl,hlt,p2⟩,λx H2 y=>?_⟩
  obtain⟨e1,c,e2,e3⟩:=y
  subst e1 e3
  exact hst i c σ' _ (by simpa using e2) p
 .have e:i=z.cps.size:=by omega
  subst e
  exact .inl ⟨Nat.le_refl _,hd σ' H' (by simpa using p)⟩
theorem comp_name{Y:Cx}{elt:Expr}{J:It}{E:Addr}{τ0:St}{Q:Hp->Prop}{y:Str}{py:Pos}{j:Nat}(hN:Y.N.Nodup)(hj:nameAt Y.N y=some j)(hx:Y.env.scope.names.lookup y=some .local)
  (n:Nat) (hn:n≤sizeLine) (Pi:Nat->V->Prop) (It:Nat->V->Prop) (hE:H E=none)
  (go:∀i H1,Same (upd H E (.lst [])) (upd H1 E (.lst []))->i<n->J.go i H1) (stop:∀H1,Same (upd H E (.lst [])) (upd H1 E (.lst []))->J.stop n H1)
  (yld:∀i H1 x H2,i<n->Same (upd H E (.lst [])) (upd H1 E (.lst []))->J.yld i H1 x H2->It i x/\H2=H1)
  (step:∀i x H1,i<n->It i x->Same H H1->EV Y elt (τ0.set j (some x)) H1 λv H2=>Pi i v/\Same H1 H2)
  (fin:∀H1 xs,xs.length=n->(∀i v,xs[i]? =some v->Pi i v)->H1 E=some (.lst xs)->Same H H1->Q H1):CompT X Y (.Name y py) elt [] J E τ0 H Q:=by
 have sU:∀{H1:Hp},Same H H1->Same (upd H E (.lst [])) (upd H1 E (.lst [])):=λ{H1} s b o e=>by
  by_cases hb:b=E
  .subst hb;rw[upd_same]at e⊢;exact e
  .rw[upd_ne hb]at e⊢;exact s b o e
 refine⟨λi m τ H1=>m=n-i/\i≤n/\Same H H1/\(τ=τ0\/∃x,τ=τ0.set j (some x))/\∃xs,H1 E=some (.lst xs)/\xs.length=i/\∀k v,xs[k]? =some v->Pi k v,⟨n,by simp,Nat.zero_le _,Same.upd hE,.inl rfl,[],upd_same,rfl,λk v e=>by simp at e⟩,?_⟩
 rintro i m τ H1 ⟨rfl,hi,s1,hτ,xs,eE,lx,px⟩
 by_cases hlt:i<n
 .refine .inr ⟨go i H1 (sU s1) hlt,λτ' H'=>Same H H'/\(τ'=τ0\/∃x,τ'=τ0.set j (some x))/\∃xs,H' E=some (.lst xs)/\xs.length=i+1/\∀k v,xs[k]? =some v->Pi k v,λτ' H' ⟨a,b,c⟩=>⟨n-(i+1),by omega,rfl,hlt,a,b,c⟩,λx H2 y=>?_⟩
  obtain⟨hI,e2⟩:=yld i H1 x H2 hlt (sU s1) y
  subst e2
  refine eg_name hN hj (.inl hx) (.inr hx) (eifs_nil ?_)
  rw[if_pos rfl]
  have eτ:τ.set j (some x)=τ0.set j (some x):=by
   rcases hτ with e |⟨z,e⟩
   .rw[e]
   .rw[e,List.set_set]
  rw[eτ]
  refine ev_mono (step i x H2 hlt hI s1) λv H3 ⟨pv,s2⟩=>⟨xs,s2 _ _ eE,by omega,?_⟩
  refine⟨λb o e=>?_,.inr ⟨x,rfl⟩,xs++[v],upd_same,by simp[lx],λk u e=>?_⟩
  .rw[upd_ne (ne_of_none e hE)]
   exact s2 _ _ (s1 _ _ e)
  .by_cases hk:k<xs.length
   .rw[List.getElem?_append_left hk]at e
    exact px k u e
   .have hk2:k=i:=by
     have :=(List.getElem?_eq_some_iff.mp e).1
     rw[List.length_append,List.length_singleton]at this
     omega
    subst hk2
    rw[<-lx,List.getElem?_concat_length]at e
    cases e
    exact pv
 .have e:i=n:=by omega
  subst e
  exact .inl ⟨stop H1 (sU s1),fin H1 xs lx px eE s1⟩
theorem ev_compR{elt:Expr}{scope:Scope}{y:Str}{py:Pos}{j:Nat}(N':List Str){σ':St}(hσ:capSt N' X.N σ scope=σ')(hc:X.calm=true)(S:CompSc X.env scope)(hN:N'.Nodup)(hj:nameAt N' y=some j)(hx:scope.names.lookup y=some .local)
  (hg:Gl X "range") (hm:X.mg "range"=none) (hs:starEach [a] X.env=[(false,eval a X.env)])
  (h:EV X a σ H λv H1=>∃n:Int,v= .int n/\ -(2^62)≤n/\n.toNat≤sizeLine/\∃Pi:Nat->V->Prop,
   (∀(fp:List Addr) (E C:Addr) (s3:Shared) (H0:Hp) (i:Nat) (H2:Hp),i<n.toNat->Same H1 H2->EV (blk X N' scope (closL scope X.env) C s3 H0 fp) elt (σ'.set j (some (.int i))) H2 λv H3=>Pi i v/\Same H2 H3)/\
   ∀(E:Addr) (H2:Hp) (xs:List V),H1 E=none->xs.length=n.toNat->(∀i v,xs[i]? =some v->Pi i v)->H2 E=some (.lst xs)->Same H1 H2->Q (.ref E) H2):
  EV X (.ListComp elt [⟨.Name y py,.Call (.Name "range" p) [a] [] p',[],0⟩] scope pos) σ H Q:=by
 refine ev_comp (N':=N') hc S (by intro _;rfl) (ei_range1 hg hm hs (ea_cons hs (ev_mono h λv H1 q=>?_)))
 obtain⟨n,rfl,h1,h2,Pi,hst,hfin⟩:=q
 have hsz:(sizeLine:Nat)<2^62:=by rw[sizeLine_eq];decide
 refine ea_nil ⟨n,rfl,h1,by omega,λfp E C s3 hE=>?_⟩
 rw[hσ]
 refine comp_name (Y:=blk X N' scope (closL scope X.env) C s3 (upd H1 E (.lst [])) fp) hN hj (lookup_relabel_local hx) n.toNat h2 Pi (λi x=>x= .int i) hE (λi _ _ hi=>hi) (λ_ _=>Nat.le_refl _) (λi H1 x H2 _ _ yl=>?_) (λi x H2 hi ex s=>?_) (λH2 xs l px eE s=>hfin E H2 xs hE l px eE s)
 .obtain⟨e1,e2⟩:=yl
  exact⟨by rw[e2,Int.zero_add],e1⟩
 .subst ex
  exact hst fp E C s3 _ i H2 hi s
theorem ev_compS{elt:Expr}{scope:Scope}{y:Str}{py:Pos}{j:Nat}(N':List Str){σ':St}(hσ:capSt N' X.N σ scope=σ')(hc:X.calm=true)(S:CompSc X.env scope)(hN:N'.Nodup)(hj:nameAt N' y=some j)(hx:scope.names.lookup y=some .local)
  (hs:∀x,foldedSetIterable e X.env x=pure x)
  (h:EV X e σ H λv H1=>∃z:Str,v= .str z/\z.cps.size≤sizeLine/\∃Pi:Nat->V->Prop,
   (∀(fp:List Addr) (E C:Addr) (s3:Shared) (H0:Hp) (i c:Nat) (H2:Hp),z.cps.toList[i]? =some c->Same H1 H2->EV (blk X N' scope (closL scope X.env) C s3 H0 fp) elt (σ'.set j (some (.str ⟨#[c]⟩))) H2 λv H3=>Pi i v/\Same H2 H3)/\
   ∀(E:Addr) (H2:Hp) (xs:List V),H1 E=none->xs.length=z.cps.size->(∀i v,xs[i]? =some v->Pi i v)->H2 E=some (.lst xs)->Same H1 H2->Q (.ref E) H2):
  EV X (.ListComp elt [⟨.Name y py,e,[],0⟩] scope pos) σ H Q:=by
 refine ev_comp (N':=N') hc S hs (ei_str (ev_mono h λv H1 q=>?_))
 obtain⟨z,rfl,h2,Pi,hst,hfin⟩:=q
 refine⟨z,rfl,λfp E C s3 hE=>?_⟩
 rw[hσ]
 refine comp_name (Y:=blk X N' scope (closL scope X.env) C s3 (upd H1 E (.lst [])) fp) hN hj (lookup_relabel_local hx) z.cps.size h2 Pi (λi x=>∃c,z.cps.toList[i]? =some c/\x= .str ⟨#[c]⟩) hE (λi _ _ hi=>hi) (λ_ _=>Nat.le_refl _) (λi H1 x H2 _ _ yl=>?_) (λi x H2 hi ex s=>?_) (λH2 xs l px eE s=>hfin E H2 xs hE l px eE s)
 .obtain⟨e1,c,e2,e3⟩:=yl
  exact⟨⟨c,by simpa using e2,e3⟩,e1⟩
 .obtain⟨c,e1,e2⟩:=ex
  subst e2
  exact hst fp E C s3 _ i c H2 e1 s
end
section
variable{P:Program}{w:World}{K:PySem.W.Frag}{mg:Str->Option Value}{base:Heap}{cc:Bool}
abbrev CxF(cc:Bool)(P:Program)(w:World)(K:PySem.W.Frag)(mg:Str->Option Value)(base:Heap)(N:List Str)(qual:Str)(scope:Scope)(f:Addr)(cd:Value)(A:Around)(outer:List Env)(s:Shared)(H:Hp)(E:XK):Cx:=
 cxOf cc (CX1 P w) P w K mg base N qual scope f cd A outer s H E
theorem fn_sx{x qual:Str}{st:Stmt}{ps N:List Str}{k:Nat}{sp:Sp}{f:Addr}{fd:FuncData}(F:Fun K x qual st f fd)(S:FnScope N ps (defScope st))
  (len:∀vs H Q E,sp vs H Q E->vs.length=ps.length)
  (body:∀(cdv:Value) (A:Around) (outer:List Env) (s:Shared) (H:Hp) (vs:List V) (Q:VK) (E:XK),Room cc k (A.deeper (envOfC qual (defScope st) s.heap.objs.size f cdv))->sp vs H Q E->
   SXs (CxF cc P w K mg base N qual (defScope st) f cdv A outer s H E) (defBody st) {nx:=λ_ H'=>Q .non H',rt:=Q} (start N vs) H):FnOk P w K mg base (CX1 P w) cc (k+1) f fd ps sp:=by
 obtain⟨oc,od,kV,doc,pm,an,cdv,ct,osl,rfl,lk,hcd⟩:=id F.ex
 exact fn_of lk hcd S len λA outer s H vs Q E hr h=>⟨_,pss_self,body cdv A outer s H vs Q E hr h⟩
theorem def_of{x:Str}{st:Stmt}{ps N:List Str}{k:Nat}{sp:Sp}(F:∃f fd,Fun K x x st f fd/\mg x=some (.ref f))(S:FnScope N ps (defScope st))
  (hb:∀(kV doc pm:Value) (an:Option Addr) (cdv ct:Value) (us:List Value),us.length=ps.length->bindArgs (PySem.W.fnOf x x (defArgs st) (defBody st) (defScope st) .none kV doc pm an cdv ct) ⟨us,[]⟩=pure (ps.zip us))
  (len:∀vs H Q E,sp vs H Q E->vs.length=ps.length)
  (body:∀(f:Addr) (cdv:Value) (A:Around) (outer:List Env) (s:Shared) (H:Hp) (vs:List V) (Q:VK) (E:XK),Room cc k (A.deeper (envOfC x (defScope st) s.heap.objs.size f cdv))->sp vs H Q E->
   SXs (CxF cc P w K mg base N x (defScope st) f cdv A outer s H E) (defBody st) {nx:=λ_ H'=>Q .non H',rt:=Q} (start N vs) H):Def P w K mg base cc (k+1) x ps sp:=by
 obtain⟨f,fd,F,hm⟩:=F
 exact⟨f,fd,hm,F.kp,F.binds hb,fn_sx F S len λcdv A outer s H vs Q E hr h=>body f cdv A outer s H vs Q E hr h⟩
end
def spLaw(K:PySem.W.Frag):Sp:=λvs H Q _=>∃(a:Addr) (ns:List Int),vs=[.ref a]/\SqL K H a (ns.map V.int)/\ns.length≤63/\∀H',Q (.bl true) H'
end L2
namespace L2
open PySem PySem.Spec PyProof.Rows
def cutS(z:Str)(lo hi:Option Int):Str:=⟨((z.cps.toList.drop (HT.sIx z.length 0 lo)).take (HT.sIx z.length z.length hi-HT.sIx z.length 0 lo)).toArray⟩
theorem sIx_clip(n d:Nat)(v:Int):max 0 (min (if v<0 then v+(n:Int)else v) (n:Int))=((HT.sIx n d (some v):Nat):Int):=by
 rw[<-HT.clip_eq]
 split <;>omega
theorem strSl(lo hi:Option Int)(n:Nat):Builtin.Str.strSliceIndices lo hi 1 n=(List.range (HT.sIx n n hi-HT.sIx n 0 lo)).map (λm=>HT.sIx n 0 lo+m):=by
 have e:Builtin.Str.strSliceIndices lo hi 1 n=sliceRange ((HT.sIx n 0 lo:Nat):Int) ((HT.sIx n n hi:Nat):Int) 1:=by
  cases lo with
  |none=>
   cases hi with
   |none=>rfl
   |some v=>rw[<-sIx_clip n n v];rfl
  |some u=>
   cases hi with
   |none=>rw[<-sIx_clip n 0 u];rfl
   |some v=>rw[<-sIx_clip n 0 u, <-sIx_clip n n v];rfl
 rw[e]
 generalize HT.sIx n 0 lo=a
 generalize HT.sIx n n hi=b
 by_cases h:a≤b
 .have :=StrLaws.strSliceIndices_plain (len:=b) h (Nat.le_refl b)
  rw[<-this]
  have e2:Builtin.Str.strSliceIndices (some (a:Int)) (some (b:Int)) 1 b=sliceRange (a:Int) (b:Int) 1:=by
   have h1:¬((a:Int)<0):=by omega
   have h2:¬((b:Int)<0):=by omega
   have e1:max (0:Int) (min (a:Int) (b:Int))=a:=by omega
   have e2:max (0:Int) (min (b:Int) (b:Int))=b:=by omega
   simp only[Builtin.Str.strSliceIndices,h1,h2,if_false,e1,e2,show((1:Int)>0)=True from by simp,if_true]
  rw[e2]
 .have e3:b-a=0:=by omega
  rw[e3]
  have :¬((a:Int)<b):=by omega
  simp[sliceRange,this]
theorem picked_cut(z:Str)(lo hi:Option Int):(⟨((Builtin.Str.strSliceIndices lo hi 1 z.length).filterMap (z.cps[·]?)).toArray⟩:Str)=cutS z lo hi:=by
 rw[strSl]
 unfold cutS
 have h1:=HT.sIx_le z.length z.length (Nat.le_refl _) hi
 have hl:z.cps.toList.length=z.length:=by simp[Str.length]
 by_cases h:HT.sIx z.length 0 lo≤HT.sIx z.length z.length hi
 .have :=StrLaws.picks z.cps.toList (HT.sIx z.length z.length hi-HT.sIx z.length 0 lo) (HT.sIx z.length 0 lo) (by omega)
  rw[<-this]
  simp
 .have e3:HT.sIx z.length z.length hi-HT.sIx z.length 0 lo=0:=by omega
  rw[e3]
  simp
theorem isPart_of{v:Value}{o:Option Int}(h:IsPart v o):∃l:Option (Int×Tok),v=partValue l/\l.map (·.1)=o:=by
 cases h with
 |none=>exact⟨none,rfl,rfl⟩
 |int i t=>exact⟨some (i,t),rfl,rfl⟩
theorem sl_str{X:Cx}:SlR X (λx lo hi H Q=>∃z,x= .str z/\z.length≤sizeLine/\Q (.str (cutS z lo hi)) H):=by
 intro pins s σ H x v vl vu lo hi sl Q I rx hs pl pu h
 obtain⟨z,rfl,hz,q⟩:=h
 obtain⟨t,rfl⟩:=rx
 refine⟨"str",_,F.slot_str_getitem.lookup,typeIs_str s z t,?_⟩
 obtain⟨l,rfl,rfl⟩:=isPart_of pl
 obtain⟨u,rfl,rfl⟩:=isPart_of pu
 have hsl:s.heap.IsSlice sl l u none:=by
  obtain⟨o,ho,hc,hd⟩:=hs
  exact⟨o,ho,hc,hd⟩
 refine wpAny_getItem_str_slice hsl rfl ?_
 have e:(slicePicked z l u none)=Builtin.Str.strSliceIndices (l.map (·.1)) (u.map (·.1)) 1 z.length:=rfl
 unfold sliceMade
 have key:(⟨((slicePicked z l u none).filterMap (z.cps[·]?)).toArray⟩:Str)=cutS z (l.map (·.1)) (u.map (·.1)):=by rw[e];exact picked_cut z _ _
 split
 .rename_i hh
  have hlen:(slicePicked z l u none).length=z.length:=by
   simp only[Bool.and_eq_true,beq_iff_eq]at hh
   exact hh.2
  have whole:cutS z (l.map (·.1)) (u.map (·.1))=z:=by
   rw[e,strSl,List.length_map,List.length_range]at hlen
   have h1:=HT.sIx_le z.length z.length (Nat.le_refl _) (u.map (·.1))
   have hl:z.cps.toList.length=z.length:=by simp[Str.length]
   unfold cutS
   by_cases hz0:z.length=0
   .have :z.cps.toList=[]:=List.eq_nil_of_length_eq_zero (by omega)
    rw[this]
    have e2:z.cps= #[]:=by
     have :=congrArg List.toArray this
     simpa using this
    obtain⟨c⟩:=z
    simp at e2
    subst e2
    simp
   .have ha:HT.sIx z.length 0 (l.map (·.1))=0:=by omega
    have hb:HT.sIx z.length z.length (u.map (·.1))=z.length:=by omega
    rw[ha,hb,List.drop_zero,Nat.sub_zero,List.take_of_length_le (by omega)]
  exact⟨.str (cutS z (l.map (·.1)) (u.map (·.1))),H,I,⟨t,by rw[whole]⟩,q⟩
 .rw[key]
  refine⟨?_,.str (cutS z (l.map (·.1)) (u.map (·.1))),H,I.tok _,⟨_,rfl⟩,q⟩
  have :(cutS z (l.map (·.1)) (u.map (·.1))).length≤z.length:=by
   unfold cutS Str.length
   simp
   omega
  omega
section
variable{X:Cx}{H:Hp}{Q:VK}{z y:Str}
theorem s_str{lo hi:Option Int}(h:z.length≤sizeLine)(g:Q (.str (cutS z lo hi)) H):SL X (.str z) lo hi H Q:=⟨_,sl_str,z,rfl,h,g⟩
theorem mt_by{id:String}{r:V->List V->Hp->VK->Prop}{x:V}{xs:List V}(h:MtR X id r)(q:r x xs H Q):MT X id x xs H Q:=⟨r,h,q⟩
theorem strsAre_of{ys:List Str}:∀{us:List Value},Vals (ys.map V.str) us->StrsAre us ys:=by
 induction ys with
 |nil=>intro us r;cases r;exact .nil
 |cons y ys ih=>
  intro us r
  cases r with
  |cons r rr=>
   obtain⟨t,rfl⟩:=r
   exact .cons y t (ih rr)
theorem m_join{q:Addr}{ys:List Str}(h:SqL X.K H q (ys.map V.str))(hw:(ys.map (·.length)).sum+ys.length*z.length≤16777216)(g:Q (.str (Str.join z ys)) H):MT X "str.join" (.str z) [.ref q] H Q:=by
 refine mt_by (r:=λx xs H Q=>∃z q ys,x= .str z/\xs=[.ref q]/\SqL X.K H q (ys.map V.str)/\(ys.map (·.length)).sum+ys.length*z.length≤16777216/\Q (.str (Str.join z ys)) H) ?_ ⟨z,q,ys,rfl,rfl,h,hw,g⟩
 intro pins s σ H x xs v us Q I rx rs h
 obtain⟨z,q,ys,rfl,rfl,h,hw,g⟩:=h
 obtain⟨t,rfl⟩:=rx
 obtain⟨u,rfl,ru⟩:=vals1 rs
 cases(show u=Value.ref q from ru)
 obtain⟨its,rv,pl,_⟩:=I.list h
 refine join_list pl.isList (by simpa using strsAre_of rv) hw λt' k=>⟨.str (Str.join z ys),H,I.tok k,⟨t',?_⟩,g⟩
 have e:Txt.join z ys=Str.join z ys:=by
  unfold Txt.join
  cases ys with
  |nil=>rfl
  |cons y r=>exact StrLaws.glued_cons z r y
 rw[e]
theorem m_starts(g:Q (.bl (Txt.startswith z y)) H):MT X "str.startswith" (.str z) [.str y] H Q:=by
 refine mt_by (r:=λx xs H Q=>∃z y,x= .str z/\xs=[.str y]/\Q (.bl (Txt.startswith z y)) H) ?_ ⟨z,y,rfl,rfl,g⟩
 intro pins s σ H x xs v us Q I rx rs h
 obtain⟨z,y,rfl,rfl,g⟩:=h
 obtain⟨t,rfl⟩:=rx
 obtain⟨u,rfl,ru⟩:=vals1 rs
 obtain⟨t',rfl⟩:=ru
 exact SC.startswith ⟨.bl _,H,I,rfl,g⟩
theorem c_all{q:Addr}{bs:List Bool}(hc:X.calm=true)(h:SqL X.K H q (bs.map V.bl))(g:Q (.bl (bs.all id)) H):CL X (.builtin "all") [.ref q] H Q:=by
 refine cl_by (r:=λxs H Q=>∃q bs,xs=[.ref q]/\SqL X.K H q (bs.map V.bl)/\Q (.bl (bs.all id)) H) ?_ ⟨q,bs,rfl,h,g⟩
 intro pins s σ H xs us Q I r h
 obtain⟨q,bs,rfl,h,g⟩:=h
 obtain⟨u,rfl,ru⟩:=vals1 r
 cases(show u=Value.ref q from ru)
 obtain⟨its,rv,pl,hz⟩:=I.list h
 refine call_all_walk (wpAny_pyIter_list pl.isList ?_)
 have hq:q<s.heap.objs.size:=by
  obtain⟨o,ho,_⟩:=pl.isList
  exact Heap.lt_size ho
 have hlen:its.length=bs.length:=by have :=rv.length;rw[List.length_map]at this;exact this.symm
 refine⟨s.heap.objs.size,[s.heap.objs.size,q],[s.heap.objs.size],its.toArray.size,(λi v=>its.toArray[i]? =some v),(λi h=>h.IsListIter s.heap.objs.size q i/\h.IsList q its.toArray),λi=>bs.getD i true,rfl,Walks.list (A:=X.A.in1) (show X.A.in1.handled=none from I.ok.hd hc) s.heap.objs.size q (Nat.ne_of_lt hq) its.toArray,⟨⟨_,Heap.get?_push_size _ rfl,rfl,rfl⟩,?_⟩,?_,λh' tk hk=>?_⟩
 .obtain⟨o,ho,r⟩:=pl.isList
  exact⟨o,Heap.get?_push_of_some _ ho,r⟩
 .intro i v s Q E hv hq
  have hv':its[i]? =some v:=by simpa using hv
  have hi:i<bs.length:=by rw[<-hlen];exact(List.getElem?_eq_some_iff.mp hv').1
  obtain⟨u,e1,e2⟩:=rv.get (i:=i) (x:=V.bl bs[i]) (by simp[hi])
  rw[hv']at e1
  cases e1
  cases(show v=Value.bool bs[i]from e2)
  refine wpAny_truthy_bool ?_
  have :bs.getD i true=bs[i]:=by simp[hi]
  have hq':Q (bs.getD i true) s:=hq
  rw[this]at hq'
  exact hq'
 .have e:(List.range its.toArray.size).all (λi=>bs.getD i true)=bs.all id:=by
   rw[List.size_toArray,hlen,Bool.eq_iff_iff,List.all_eq_true,List.all_eq_true]
   constructor
   .intro h b hb
    obtain⟨i,hi,e⟩:=List.getElem_of_mem hb
    have :=h i (by simpa using hi)
    simpa [hi,e]using this
   .intro h i hi
    have hi':i<bs.length:=by simpa using hi
    have :=h bs[i] (List.getElem_mem hi')
    simpa [hi']using this
  rw[e]
  have fp:=I.fpOk (Nat.le_refl _) (I.hok.fresh (Nat.le_refl _))
  have I1:Inv X pins σ H {s with heap:=s.heap.push {cls:=.type "list_iterator",data:=.fields #[.ref q,.int 0 0]}}:=I.kept (t':=s.toks) λb o e=>Heap.get?_push_of_some _ e
  refine⟨.bl _,H,I1.turned (it:=s.heap.objs.size) (λb o hb e=>hk b o (by simpa using hb) e) (I.hok.fresh (Nat.le_refl _)) fp.2.1 fp.2.2.2.1 fp.2.2.2.2.1 fp.2.2.2.2.2,rfl,g⟩
end
theorem compSc_of{env:Env}{scope:Scope}(sc:Scope)(hsc:env.scope=sc)(hk:scope.kind= .function)
  (h:(scope.names.all λy=>(if y.2== .free then(sc.names.lookup y.1==some .cell||sc.names.lookup y.1==some .free)else true)&&y.2 != .cell&&(if y.2== .local then scope.names.lookup y.1==some .local else true))=true):CompSc env scope:=by
 have h':=List.all_eq_true.mp h
 refine⟨hk,λy hy e=>?_,λy hy e=>?_,λy hy e=>?_⟩
 .have q:=h' y hy
  simp only[e,beq_self_eq_true,if_true,Bool.and_eq_true,Bool.or_eq_true,beq_iff_eq]at q
  show env.scope.names.lookup y.1=_\/env.scope.names.lookup y.1=_
  rw[hsc]
  exact q.1.1
 .have q:=h' y hy
  rw[e]at q
  simp at q
 .have q:=h' y hy
  simp only[e,Bool.and_eq_true,beq_iff_eq,beq_self_eq_true,if_true]at q
  exact q.2
theorem list_of_pi{α:Type}{xs:List V}{ys:List α}(f:α->V)(hl:xs.length=ys.length)(h:∀(i:Nat) v,xs[i]? =some v->∃c,ys[i]? =some c/\v=f c):xs=ys.map f:=by
 apply List.ext_getElem?
 intro i
 rw[List.getElem?_map]
 cases e:xs[i]? with
 |none=>
  have :xs.length≤i:=List.getElem?_eq_none_iff.mp e
  rw[List.getElem?_eq_none (by omega)]
  rfl
 |some v=>
  obtain⟨c,e1,e2⟩:=h i v e
  rw[e1,e2]
  rfl
section
variable{X:Cx}{H:Hp}{Q:VK}
theorem o_p9(q:Q (.int 1000000000) H):OP X (binaryOp .Pow) (.int 10) (.int 9) H Q:=o_pow ⟨by decide,by decide,by decide⟩ (show Q (.int (10^(9:Int).toNat)) H from(show(10:Int)^(9:Int).toNat=1000000000 from by decide)▸q)
theorem o_p18(q:Q (.int 1000000000000000000) H):OP X (binaryOp .Pow) (.int 10) (.int 18) H Q:=o_pow ⟨by decide,by decide,by decide⟩ (show Q (.int (10^(18:Int).toNat)) H from(show(10:Int)^(18:Int).toNat=1000000000000000000 from by decide)▸q)
end
end L2
namespace L2
open PySem PySem.Spec PyProof.Rows
def EJ(X:Cx)(vs:List Expr)(out:Str)(σ:St)(H:Hp)(Q:VK):Prop:=
 ∀(pins:List (Addr×Obj)) (s:Shared),Inv X pins σ H s->wpAny (model X.prog X.w) X.A (joinParts out (evalEach vs X.env)) (EP X pins σ Q) X.xe s
section
variable{X:Cx}{σ:St}{H:Hp}{Q:VK}{v v₁ v₂:Expr}{rest:List Expr}{pos:Pos}{out:Str}
theorem ev_fstr(h:EJ X (v₁::v₂::rest) Str.empty σ H Q):EV X (.JoinedStr (v₁::v₂::rest) pos) σ H Q:=λpins s I=>h pins s I
theorem ej_nil(hl:out.length≤sizeLine)(q:Q (.str out) H):EJ X [] out σ H Q:=λpins s I=>joinParts_nil ⟨.str out,H,I.tok _,⟨_,rfl⟩,q⟩ hl
theorem ej_cons(h:EV X v σ H λx H1=>∃y,x= .str y/\(out++y).length≤sizeLine/\EJ X rest (out++y) σ H1 Q):EJ X (v::rest) out σ H Q:=λpins s I=>by
 refine joinParts_cons (thn (h pins s I) λu s1 ⟨x,H1,I1,r,y,e,hl,q⟩=>?_)
 subst e
 obtain⟨t,rfl⟩:=r
 exact⟨hl,q pins s1 I1⟩
theorem ev_fmtS(h:EV X v σ H λx H1=>∃z,x= .str z/\z.length≤sizeLine/\Q (.str z) H1):EV X (.FormattedValue v (-1) none pos) σ H Q:=λpins s I=>by
 refine FormattedValue_plain (thn (h pins s I) λu s1 ⟨x,H1,I1,r,z,e,hl,q⟩=>?_)
 subst e
 obtain⟨t,rfl⟩:=r
 exact formatField_str (λt' tk=>⟨.str z,H1,I1.tok tk,⟨t',rfl⟩,q⟩) hl
theorem ev_fmtI(h:EV X v σ H λx H1=>∃i,x= .int i/\i.natAbs.log2<1920/\Q (.str (toString i)) H1):EV X (.FormattedValue v (-1) none pos) σ H Q:=λpins s I=>by
 refine FormattedValue_plain (thn (h pins s I) λu s1 ⟨x,H1,I1,r,z,e,hl,q⟩=>?_)
 subst e
 obtain⟨t,rfl⟩:=r
 exact formatField_int_small hl ⟨.str (toString z),H1,I1.tok _,⟨_,rfl⟩,q⟩
end
def EJL(X:Cx)(vs:List Expr)(n:Nat)(σ:St)(H:Hp)(R:Hp->Prop):Prop:=∀out:Str,out.length≤n->∀Q:VK,(∀z H',R H'->Q (.str z) H')->EJ X vs out σ H Q
theorem app_len(x y:Str):(x++y).length=x.length+y.length:=by
 show(x.cps++y.cps).size=_
 rw[Array.size_append]
 rfl
section
variable{X:Cx}{σ:St}{H:Hp}{Q:VK}{R:Hp->Prop}{v v₁ v₂:Expr}{rest:List Expr}{pos:Pos}{n:Nat}
theorem ev_fstrL(h:EJL X (v₁::v₂::rest) 0 σ H λH'=>∀z,Q (.str z) H'):EV X (.JoinedStr (v₁::v₂::rest) pos) σ H Q:=ev_fstr (h Str.empty (Nat.le_refl _) Q λz H' r=>r z)
theorem ejl_nil(hn:n≤sizeLine)(r:R H):EJL X [] n σ H R:=λout ho Q k=>ej_nil (Nat.le_trans ho hn) (k out H r)
theorem ejl_cons(h:EV X v σ H λx H1=>∃y m,x= .str y/\y.length≤m/\n+m≤sizeLine/\EJL X rest (n+m) σ H1 R):EJL X (v::rest) n σ H R:=λout ho Q k=>
 ej_cons (ev_mono h λx H1 ⟨y,m,e,hy,hm,q⟩=>⟨y,e,by rw[app_len];omega,q (out++y) (by rw[app_len];omega) Q k⟩)
end
abbrev bmV:List Value:=[.type "ValueError",.type "Exception",.type "BaseException",.type "object"]
def clsA(mg:Str->Option Value)(x:Str):Addr:=match mg x with
 |some (.ref C)=>C
 |_=>0
theorem clsA_eq{mg:Str->Option Value}{x:Str}{C:Addr}(h:mg x=some (.ref C)):clsA mg x=C:=by unfold clsA;rw[h]
structure XCls(K:PySem.W.Frag)(mg:Str->Option Value)(x:Str):Prop where
 at_:mg x=some (.ref (clsA mg x))
 ex:PySem.W.excIn K (clsA mg x) bmV "ValueError.__new__"=true
theorem xcls_mk{K:PySem.W.Frag}{mg:Str->Option Value}{x:Str}{C:Addr}(h:mg x=some (.ref C))(e:PySem.W.excIn K C bmV "ValueError.__new__"=true):XCls K mg x:=by
 have z:clsA mg x=C:=by unfold clsA;rw[h]
 exact⟨by rw[z];exact h,by rw[z];exact e⟩
theorem exc_obj{K:PySem.W.Frag}{C:Addr}{h:Heap}(kin:K.In h)(e:PySem.W.excIn K C bmV "ValueError.__new__"=true):
  ∃bm N nm q bs hdct sn sub ab col dd k0 k1 k2 k3 k5 mN,h.get? C=some (excClassObj nm q C N bs bm hdct sn sub ab col dd k0 k1 k2 k3 k5 "ValueError.__new__")/\h.Ns N mN/\mN "__init__"=none/\OwnTail h bmV bm:=by
 unfold PySem.W.excIn at e
 split at e
 .rename_i dd cd sl ho
  split at e
  .rename_i C' bm k0 k1 k2 k3 n k5 hm hs
   simp only[Bool.and_eq_true,beq_iff_eq,Bool.not_eq_true']at e
   obtain⟨⟨⟨⟨⟨e1,e2⟩,e3⟩,e4⟩,e5⟩,e6⟩:=e
   subst e1 e2
   obtain⟨nm,bs,mro,ns,qn,hd,sn,sub,ab,col,del⟩:=cd
   dsimp only at hm e3 e5 e6
   subst hm e3
   have hl:sl= #[k0,k1,k2,k3,some (.builtin "ValueError.__new__"),k5]:=by
    obtain⟨l⟩:=sl
    simp only at hs
    rw[hs]
   subst hl
   exact⟨bm,ns,nm,qn,bs,hd,sn,sub,ab,col,dd,k0,k1,k2,k3,k5,_,kin _ _ ho,.of_isNs (PySem.W.isNs_of_in kin e5),PySem.W.nsMap_none_of_in kin e5 e6,PySem.W.tail_of_in kin e4⟩
  .cases e
 .cases e
section
variable{X:Cx}{Kx:St->XK}{D:Ends}{σ:St}{H:Hp}{x:Str}{np cpos pos:Pos}{e:Expr}{es:List Expr}
theorem sx_raise(hx:XOk X Kx)(hc:X.calm=true)(O:XCls X.K X.mg x)(hg:Gl X x)(hd:(x==("__debug__":Str))=false)(he:starEach (e::es) X.env=(false,eval e X.env)::starEach es X.env)
  (hpl:(backTo cpos (starEach es X.env)).any (·.1)=false) (h:EA X (e::es) σ H λvs H1=>vs.length≤sizeLine/\Kx σ (.ref (clsA X.mg x)) (none,true) H1):
  SX X (.Raise (some (.Call (.Name x np) (e::es) [] cpos)) none pos) D σ H:=by
 intro pins s I
 obtain⟨bm,N,nm,q,bs,hdct,sn,sub,ab,col,dd,k0,k1,k2,k3,k5,mN,hC,hN,hni,T⟩:=exc_obj I.ok.mod.kin O.ex
 refine wpAny_Raise_call_subT (C:=clsA X.mg x) (nm:=nm) (q:=q) (N:=N) (bs:=bs) (bm:=bm) (hdct:=hdct) (sn:=sn) (sub:=sub) (ab:=ab) (col:=col) (dd:=dd) (k0:=k0) (k1:=k1) (k2:=k2) (k3:=k3) (k5:=k5)
  F.excBase_ValueError (mN:=mN) (T.hasType (by decide+kernel)) (I.ok.hd hc) ?_ hni (ld_glob I hg O.at_ ⟨rfl,?_⟩ hd)
 .rw[he]
  show(false||(backTo cpos (starEach es X.env)).any (·.1))=false
  rw[hpl]
  rfl
 .have h':=h cpos pins s I
  rw[he]at h'⊢
  refine Calls.evalArgs_plain (thn h' λus s2 ⟨vs,H1,I2,r,hl,kq⟩=>⟨rfl,by rw[<-r.length];exact hl,I2.bk _ _ hC,hN.keeps I2.bk,T.keeps I2.bk,λh3 a M=>?_⟩)
  obtain⟨t,m1,m2,m3⟩:=M.there
  refine hx pins σ H1 _ a _ (none,true) ⟨I2.kept (t':=s2.toks) M.keeps,none,.none,⟨_,_,m1,rfl,rfl,rfl,rfl,by simp,Ctx.yes rfl,λT z=>nomatch z⟩,.inl rfl,λb hb=>?_⟩ kq
  have z:b=a:=by simpa using hb
  subst z
  exact⟨I2.hok.free M.new,I2.ch M.new⟩
end
abbrev Cx.tri(X:Cx)(F:Value->Shared->Prop)(pn:List (Addr×Obj)):Cx:={X with xe:=F,pn:=pn}
abbrev Cx.inEx(X:Cx)(e:Value)(F:Value->Shared->Prop)(pn:List (Addr×Obj)):Cx:={X with A:=X.A.mark (some e),calm:=false,xe:=F,pn:=pn}
section
variable{X:Cx}{pins pins':List (Addr×Obj)}{σ:St}{H:Hp}{s:Shared}{F:Value->Shared->Prop}{e:Value}
theorem Cx.Ok.tri(ok:X.Ok)(pn:List (Addr×Obj)):(X.tri F pn).Ok:=
 ⟨ok.mod,ok.kind,ok.glob,ok.blt,ok.above,ok.inj,ok.has,ok.cab,ok.hd,ok.frames,ok.stk,ok.exf,ok.bs,ok.bsz,ok.noex,ok.exfs,ok.funs,ok.frf⟩
theorem Cx.Ok.inEx(ok:X.Ok)(pn:List (Addr×Obj)):(X.inEx e F pn).Ok:=
 ⟨ok.mod,ok.kind,ok.glob,ok.blt,ok.above,ok.inj,ok.has,ok.cab,(λz=>nomatch z),ok.frames,ok.stk,ok.exf,ok.bs,ok.bsz,ok.noex,ok.exfs,ok.funs,ok.frf⟩
theorem Inv.tri(I:Inv X pins σ H s):Inv (X.tri F (X.pn++pins)) [] σ H s:=
 ⟨I.ok.tri _,I.os,I.bare,I.base,I.loc,I.cell,I.free,I.freeC,λp hp=>I.pin p (by simpa using hp),I.hok,I.len⟩
theorem Inv.inEx(I:Inv X pins σ H s):Inv (X.inEx e F (X.pn++pins)) [] σ H s:=
 ⟨I.ok.inEx _,I.os,I.bare,I.base,I.loc,I.cell,I.free,I.freeC,λp hp=>I.pin p (by simpa using hp),I.hok,I.len⟩
theorem Inv.untri(ok:X.Ok)(I:Inv (X.tri F (X.pn++pins)) pins' σ H s):Inv X pins σ H s:=
 ⟨ok,I.os,I.bare,I.base,I.loc,I.cell,I.free,I.freeC,λp hp=>I.pin p (List.mem_append_left _ hp),I.hok,I.len⟩
theorem Inv.uninEx(ok:X.Ok)(I:Inv (X.inEx e F (X.pn++pins)) pins' σ H s):Inv X pins σ H s:=
 ⟨ok,I.os,I.bare,I.base,I.loc,I.cell,I.free,I.freeC,λp hp=>I.pin p (List.mem_append_left _ hp),I.hok,I.len⟩
theorem Ch.untri{b:Addr}(c:Ch (X.tri F (X.pn++pins)) pins' b):Ch X pins b:=⟨c.1,c.2.1,c.2.2.1,λp hp=>c.2.2.2 p (List.mem_append_left _ hp)⟩
end
def EH(X:Cx)(hs:List ExceptHandler)(D:Ends)(σ:St)(cls:Value)(d:Option Addr×Bool)(H:Hp):Prop:=
 ∀(pins:List (Addr×Obj)) (s:Shared) (e T:Addr),Inv X pins σ H s->Flies s.heap e cls d (some T) .none->(∀b∈[e,T],H b=none/\Ch X pins b)->
  wpAny (model X.prog X.w) X.A (handleBy (.ref e) X.env hs) (SP X pins D) X.xe s
section
variable{X:Cx}{D:Ends}{σ:St}{H:Hp}{h₀:ExceptHandler}{hs rest:List ExceptHandler}{body orelse suite:List Stmt}{b₀:Stmt}{pos np:Pos}{x n:Str}{cls c:Value}{d:Option Addr×Bool}
theorem sx_try(Kx:St->XK)(hst:X.stack=X.env::X.outer)(hf:X.env.frame=some X.env.locals)
  (hb:∀F pn,XOk (X.tri F pn) Kx->PassesOwn (model X.prog X.w) X.A X.env F->SXs (X.tri F pn) body {D with nx:=λσ' H'=>SXs X orelse D σ' H'} σ H)
  (hh:∀σ' cls d H',Kx σ' cls d H'->EH X (h₀::hs) D σ' cls d H'):SX X (.Try body (h₀::hs) orelse [] pos) D σ H:=by
 intro pins s I
 refine wpAny_Try_except ?_
 refine wpAny_mono (hb (λe s1=>wpAny (model X.prog X.w) X.A (noteFrame e X.env) (λ_ s2=>wpAny (model X.prog X.w) X.A (setFlight e none) (λ_ s3=>wpAny (model X.prog X.w) X.A (handleBy e X.env (h₀::hs)) (SP X pins D) X.xe s3) X.xe s2) X.xe s1)
  (X.pn++pins) ?_ PassesOwn.looking [] s I.tri) (λf s1 q=>?_) λ_ _ q=>q
 .intro pins' σ' H' s' e cls d xa q
  obtain⟨I',tb,fl,F',hfl,ch⟩:=xa
  have I2:=Inv.untri I.ok I'
  refine XAt.note (X:=X) (pins:=pins) ⟨I2,tb,fl,F',hfl,λb hb=>⟨(ch b hb).1,(ch b hb).2.untri⟩⟩ hst hf λs2 T I3 F3 c3=>?_
  exact I3.off F3 c3 λs4 I4 F4=>hh σ' cls d H' q pins s4 e T I4 F4 c3
 .cases f with
  |next=>
   obtain⟨σ',H',J,q⟩:=q
   exact q pins s1 (Inv.untri I.ok J)
  |brk=>
   obtain⟨σ',H',J,q⟩:=q
   exact⟨σ',H',Inv.untri I.ok J,q⟩
  |cont=>
   obtain⟨σ',H',J,q⟩:=q
   exact⟨σ',H',Inv.untri I.ok J,q⟩
  |ret u=>
   obtain⟨v,σ',H',J,r,q⟩:=q
   exact⟨v,σ',H',Inv.untri I.ok J,r,q⟩
theorem Flies.ty{M:Model}{h:Heap}{e:Addr}{tb:Option Addr}{fl:Value}(F:Flies h e cls d tb fl):PySem.W.Looks M h (typeOf (.ref e)) cls:=by
 obtain⟨oe,vs,he,hc,_⟩:=F
 subst hc
 exact(PySem.W.Looks.ld he).andThen .now
theorem test_ok{X:Cx}{pins:List (Addr×Obj)}{s:Shared}{e:Addr}{tb:Option Addr}{fl:Value}{k:Bool}{R:Result->Shared->Prop}(I:Inv X pins σ H s)(F:Flies s.heap e cls d tb fl)(hg:Gl X x)(hm:X.mg x=some c)(hd:(x==("__debug__":Str))=false)
  (ex:PySem.W.exmOne X.K cls c=some k) (h:R (.ok (if k then .brk else .next)) s):codeAny (model X.prog X.w) (X.A.mark (some (.ref e))) (.handlers (.ref e) [.ExceptHandler (some (.Name x np)) none [] pos] X.env) R s:=by
 refine codeAny_handlers_test ?_
 have J:Inv (X.inEx (.ref e) X.xe (X.pn++pins)) [] σ H s:=I.inEx
 exact ld_glob (X:=X.inEx (.ref e) X.xe (X.pn++pins)) J hg hm ((PySem.W.exm_one I.kIn F.ty ex).here h) hd
end
end L2
namespace L2
open PySem PySem.Spec PyProof.Rows
mutual
inductive RD (K:PySem.W.Frag) (H:Hp):V->PyData->Prop
 |non:RD K H .non .none
 |bl (b:Bool):RD K H (.bl b) (.bool b)
 |int (i:Int):RD K H (.int i) (.int i)
 |str (x:Str):RD K H (.str x) (.str x)
 |lst {a:Addr} {xs:List V} {ds:List PyData} (h:SqL K H a xs) (r:RDs K H xs ds):RD K H (.ref a) (.list ds)
 |tup {a:Addr} {xs:List V} {ds:List PyData} (h:SqT K H a xs) (r:RDs K H xs ds):RD K H (.ref a) (.tuple ds)
inductive RDs (K:PySem.W.Frag) (H:Hp):List V->List PyData->Prop
 |nil:RDs K H [] []
 |cons {x:V} {d:PyData} {xs:List V} {ds:List PyData} (h:RD K H x d) (r:RDs K H xs ds):RDs K H (x::xs) (d::ds)
end
mutual
theorem RD.reads{X:Cx}{pins:List (Addr×Obj)}{σ:St}{H:Hp}{s:Shared}(I:Inv X pins σ H s):∀{v:V} {d:PyData} {u:Value},RD X.K H v d->RelV v u->∃as,Reads s.heap u d as
 |_,_,_,.non,e=>by cases(show _=Value.none from e);exact⟨_,.none⟩
 |_,_,_,.bl b,e=>by cases(show _=Value.bool b from e);exact⟨_,.bool b⟩
 |_,_,_,.int i,e=>by obtain⟨t,rfl⟩:=e;exact⟨_,.int i t⟩
 |_,_,_,.str x,e=>by obtain⟨t,rfl⟩:=e;exact⟨_,.str x t⟩
 |_,_,_,.lst h r,e=>by
  cases(show _=Value.ref _ from e)
  obtain⟨its,rv,pl,_⟩:=I.list h
  obtain⟨as,q⟩:=RDs.reads I r rv
  obtain⟨o,ho,hc,n,hd⟩:=pl.isList
  exact⟨_,.list ho hc hd (by simpa using q)⟩
 |_,_,_,.tup h r,e=>by
  cases(show _=Value.ref _ from e)
  obtain⟨its,rv,tp,_⟩:=I.tuple h
  obtain⟨as,q⟩:=RDs.reads I r rv
  obtain⟨o,ho,hc,n,hd⟩:=tp
  exact⟨_,.tuple ho hc hd (by simpa using q)⟩
theorem RDs.reads{X:Cx}{pins:List (Addr×Obj)}{σ:St}{H:Hp}{s:Shared}(I:Inv X pins σ H s):∀{vs:List V} {ds:List PyData} {us:List Value},RDs X.K H vs ds->Vals vs us->∃as,ReadsAll s.heap us ds as
 |_,_,_,.nil,.nil=>⟨_,.nil⟩
 |_,_,_,.cons h r,.cons e t=>by
  obtain⟨as,q⟩:=RD.reads I h e
  obtain⟨bs,q2⟩:=RDs.reads I r t
  exact⟨_,.cons q q2⟩
end
section
variable{X:Cx}{H:Hp}{Q:VK}{x y:V}{d d':PyData}
theorem o_eqD(hu:X.A.units+64<cLine)(hx:RD X.K H x d)(hy:RD X.K H y d')(h1:d.canLay0=true)(h2:d'.canLay0=true)(hd:d.depth≤60)(q:Q (.bl (PyData.eqv d d')) H):OP X (compareOp .Eq) x y H Q:=by
 refine⟨λx y H Q=>RD X.K H x d/\RD X.K H y d'/\Q (.bl (PyData.eqv d d')) H,?_,hx,hy,q⟩
 intro pins s σ H x y v u Q I rx ry ⟨hx,hy,q⟩
 obtain⟨as,r1⟩:=RD.reads I hx rx
 obtain⟨bs,r2⟩:=RD.reads I hy ry
 exact SeqAt.rcAt_reads r1 r2 h1 h2 (by have :=Nat.min_le_left d.depth d'.depth;omega) X.prog X.w X.xe _ ⟨.bl _,H,I,rfl,q⟩
theorem o_neD(hu:X.A.units+64<cLine)(hx:RD X.K H x d)(hy:RD X.K H y d')(h1:d.canLay0=true)(h2:d'.canLay0=true)(hd:d.depth≤60)(q:Q (.bl (!PyData.eqv d d')) H):OP X (compareOp .NotEq) x y H Q:=by
 refine⟨λx y H Q=>RD X.K H x d/\RD X.K H y d'/\Q (.bl (!PyData.eqv d d')) H,?_,hx,hy,q⟩
 intro pins s σ H x y v u Q I rx ry ⟨hx,hy,q⟩
 obtain⟨as,r1⟩:=RD.reads I hx rx
 obtain⟨bs,r2⟩:=RD.reads I hy ry
 exact SeqAt.rcNeAt_reads r1 r2 h1 h2 (by have :=Nat.min_le_left d.depth d'.depth;omega) X.prog X.w X.xe _ ⟨.bl _,H,I,rfl,q⟩
end
end L2
namespace L2
open PySem PySem.Spec PyProof.Rows
def stAt(l:List Stmt)(i:Nat):Stmt:=l.getD i (.Pass ⟨0,0,0,0⟩)
def inFor(s:Stmt):List Stmt:=match s with
 | .For _ _ b _ _=>b
 |_=>[]
def inIf(s:Stmt):List Stmt:=match s with
 | .If _ b _ _=>b
 |_=>[]
def inElse(s:Stmt):List Stmt:=match s with
 | .If _ _ b _=>b
 |_=>[]
def inTry(s:Stmt):List Stmt:=match s with
 | .Try b _ _ _ _=>b
 |_=>[]
theorem iteZ{A B:Prop}(h:A):if decide (V.non=V.non)=true then A else B:=by rw[if_pos (by decide)];exact h
theorem iteZi{A B:Prop}{i:Int}(h:B):if decide (V.int i=V.non)=true then A else B:=by rw[if_neg (by simp)];exact h
theorem iteZr{A B:Prop}{i:Addr}(h:B):if decide (V.ref i=V.non)=true then A else B:=by rw[if_neg (by simp)];exact h
theorem iteY{A B:Prop}(h:B):if(!decide (V.non=V.non))=true then A else B:=by rw[if_neg (by decide)];exact h
theorem iteYs{A B:Prop}{i:Str}(h:A):if(!decide (V.str i=V.non))=true then A else B:=by rw[if_pos (by simp)];exact h
theorem c_intS{X:Cx}{H:Hp}{Q:VK}{z:Str}{n:Int}(hn:intText? z=some n)(hl:z.length≤640)(q:Q (.int n) H):CL X (.type "int") [.str z] H Q:=by
 refine cl_by (r:=λxs H Q=>∃z n,xs=[.str z]/\intText? z=some n/\z.length≤640/\Q (.int n) H) ?_ ⟨z,n,rfl,hn,hl,q⟩
 intro pins s σ H xs us Q I r h
 obtain⟨z,n,rfl,hn,hl,q⟩:=h
 obtain⟨u,rfl,ru⟩:=vals1 r
 obtain⟨t,rfl⟩:=ru
 exact PySem.W.KIN.call_text hn hl ⟨.int n,H,I.tok _,⟨_,rfl⟩,q⟩
def repS(x:Str)(n:Int):Str:=⟨(List.replicate n.toNat x.cps).foldl (· ++ ·) #[]⟩
theorem o_mulS{X:Cx}{H:Hp}{Q:VK}{z:Str}{n:Int}(h1:2≤n)(h2:n<1000000)(h3:0<z.length)(h4:z.length*n.toNat≤sizeLine)(q:Q (.str (repS z n)) H):OP X (binaryOp .Mult) (.str z) (.int n) H Q:=by
 refine op_by (r:=λx y H Q=>∃z n,x= .str z/\y= .int n/\2≤n/\n<1000000/\0<z.length/\z.length*n.toNat≤sizeLine/\Q (.str (repS z n)) H) ?_ ⟨z,n,rfl,rfl,h1,h2,h3,h4,q⟩
 intro pins s σ H x y v u Q I rx ry h
 obtain⟨z,n,rfl,rfl,h1,h2,h3,h4,q⟩:=h
 obtain⟨t,rfl⟩:=rx
 obtain⟨t',rfl⟩:=ry
 have hsz:sizeLine=16777216:=sizeLine_eq
 have e1:(n==1||z.length==0)=false:=by
  rw[Bool.or_eq_false_iff,beq_eq_false_iff_ne,beq_eq_false_iff_ne]
  omega
 have hle:z.length≤16777216:=by
  have :z.length*1≤z.length*n.toNat:=Nat.mul_le_mul_left _ (by omega)
  omega
 refine PySem.P.mul_str (by rw[decide_eq_false (by omega),decide_eq_false (by omega)];rfl) (λ_ _ h5=>?_) (λ_ _=>?_) ?_
 .have h6:(2^63-1) / 1000000≤(2^63-1:Int) / n:=by
   apply Int.le_ediv_of_mul_le (by omega)
   have :(2^63-1:Int) / 1000000*n≤(2^63-1) / 1000000*1000000:=Int.mul_le_mul_of_nonneg_left (by omega) (by decide)
   omega
  omega
 .unfold Builtin.Str.tooLong
  rw[decide_eq_false]
  omega
 .rw[if_neg (by omega),e1]
  exact⟨by
   have hw:∀(k:Nat) (acc:Array Nat),((List.replicate k z.cps).foldl (· ++ ·) acc).size=acc.size+k*z.cps.size:=by
    intro k
    induction k with
    |zero=>intro acc;simp
    |succ k ih=>
     intro acc
     rw[List.replicate_succ,List.foldl_cons,ih,Array.size_append,Nat.succ_mul]
     omega
   show((List.replicate n.toNat z.cps).foldl (· ++ ·) #[]).size≤sizeLine
   rw[hw]
   have :z.cps.size=z.length:=rfl
   rw[this,Nat.mul_comm]
   simpa using h4,.str (repS z n),H,I.tok _,⟨_,rfl⟩,q⟩
theorem is_int_int{X:Cx}{H:Hp}{Q:VK}{i:Int}(q:Q (.bl true) H):CL X (.builtin "isinstance") [V.int i,.ty "int"] H Q:=c_isinst (TyOf.int _) (k:=true) (by rfl) q
theorem is_int_str{X:Cx}{H:Hp}{Q:VK}{i:Int}(q:Q (.bl false) H):CL X (.builtin "isinstance") [V.int i,.ty "str"] H Q:=c_isinst (TyOf.int _) (k:=false) (by rfl) q
theorem is_str_int{X:Cx}{H:Hp}{Q:VK}{i:Str}(q:Q (.bl false) H):CL X (.builtin "isinstance") [V.str i,.ty "int"] H Q:=c_isinst (TyOf.str _) (k:=false) (by rfl) q
theorem is_str_str{X:Cx}{H:Hp}{Q:VK}{i:Str}(q:Q (.bl true) H):CL X (.builtin "isinstance") [V.str i,.ty "str"] H Q:=c_isinst (TyOf.str _) (k:=true) (by rfl) q
theorem is_NoneType_str{X:Cx}{H:Hp}{Q:VK}(q:Q (.bl false) H):CL X (.builtin "isinstance") [V.non,.ty "str"] H Q:=c_isinst (TyOf.non) (k:=false) (by rfl) q
section
variable{X:Cx}{e:Expr}{es:List Expr}{σ:St}{H:Hp}{Q:VK}{pos p:Pos}
theorem cb_len(hg:Gl X "len")(hm:X.mg "len"=none)(he:starEach (e::es) X.env=(false,eval e X.env)::starEach es X.env)(hpl:(backTo pos (starEach es X.env)).any (·.1)=false)(h:EA X (e::es) σ H λvs H1=>CL X (.builtin "len") vs H1 Q):EV X (.Call (.Name "len" p) (e::es) [] pos) σ H Q:=ev_callB hg hm PySem.boot_len (by decide) (by decide) he hpl h
theorem cb_isinstance(hg:Gl X "isinstance")(hm:X.mg "isinstance"=none)(he:starEach (e::es) X.env=(false,eval e X.env)::starEach es X.env)(hpl:(backTo pos (starEach es X.env)).any (·.1)=false)(h:EA X (e::es) σ H λvs H1=>CL X (.builtin "isinstance") vs H1 Q):EV X (.Call (.Name "isinstance" p) (e::es) [] pos) σ H Q:=ev_callB hg hm PyProof.Rows.boot_isinstance (by decide) (by decide) he hpl h
theorem cb_all(hg:Gl X "all")(hm:X.mg "all"=none)(he:starEach (e::es) X.env=(false,eval e X.env)::starEach es X.env)(hpl:(backTo pos (starEach es X.env)).any (·.1)=false)(h:EA X (e::es) σ H λvs H1=>CL X (.builtin "all") vs H1 Q):EV X (.Call (.Name "all" p) (e::es) [] pos) σ H Q:=ev_callB hg hm PyProof.Rows.boot_all (by decide) (by decide) he hpl h
theorem ct_str(hg:Gl X "str")(hm:X.mg "str"=none)(he:starEach (e::es) X.env=(false,eval e X.env)::starEach es X.env)(hpl:(backTo pos (starEach es X.env)).any (·.1)=false)(h:EA X (e::es) σ H λvs H1=>CL X (.type "str") vs H1 Q):EV X (.Call (.Name "str" p) (e::es) [] pos) σ H Q:=ev_callT hg hm PyProof.Rows.boot_str (by decide) (by decide) he hpl h
theorem ct_list(hg:Gl X "list")(hm:X.mg "list"=none)(he:starEach (e::es) X.env=(false,eval e X.env)::starEach es X.env)(hpl:(backTo pos (starEach es X.env)).any (·.1)=false)(h:EA X (e::es) σ H λvs H1=>CL X (.type "list") vs H1 Q):EV X (.Call (.Name "list" p) (e::es) [] pos) σ H Q:=ev_callT hg hm PyProof.Rows.boot_list (by decide) (by decide) he hpl h
theorem ct_int(hg:Gl X "int")(hm:X.mg "int"=none)(he:starEach (e::es) X.env=(false,eval e X.env)::starEach es X.env)(hpl:(backTo pos (starEach es X.env)).any (·.1)=false)(h:EA X (e::es) σ H λvs H1=>CL X (.type "int") vs H1 Q):EV X (.Call (.Name "int" p) (e::es) [] pos) σ H Q:=ev_callT hg hm PyProof.Rows.boot_int (by decide) (by decide) he hpl h
theorem ty_str(hg:Gl X "str")(hm:X.mg "str"=none)(q:Q (.ty "str") H):EV X (.Name "str" pos) σ H Q:=ev_ty hg hm PyProof.Rows.boot_str q (by decide) (by decide)
theorem ty_int(hg:Gl X "int")(hm:X.mg "int"=none)(q:Q (.ty "int") H):EV X (.Name "int" pos) σ H Q:=ev_ty hg hm PyProof.Rows.boot_int q (by decide) (by decide)
end
end L2
namespace L2
open PySem PySem.Spec PyProof.Rows
section
variable{X:Cx}{pins:List (Addr×Obj)}{σ:St}{H:Hp}{s:Shared}
theorem Inv.turnNew{ch:List Addr}{T:Addr}{xs:List V}{us:List Value}{h':Heap}{tk:Nat}(I:Inv X pins σ H s)(hf:∀b∈ch,FpOk X pins H b)(hT:s.heap.objs.size≤T)
  (k:∀b o,b∉ch->s.heap.get? b=some o->h'.get? b=some o) (hz:xs.length≤sizeLine) (rv:Vals xs us) (tp:IsTup h' T us.toArray):Inv X pins σ (upd H T (.tup xs)) {s with heap:=h',toks:=tk}:=by
 have nT:=I.hok.fresh hT
 have neT:∀b o,s.heap.get? b=some o->b≠T:=λb o e z=>Nat.lt_irrefl _ (Nat.lt_of_lt_of_le (Heap.lt_size e) (z▸hT))
 have nch:∀b u,H b=some u->b∉ch:=λb u e z=>by rw[(hf b z).1]at e;cases e
 refine I.call (g':=s.gens) (d':=s.drawn) (t':=tk) (ch:=ch) (h':=h') ⟨λb o e _ _ hx=>k b o hx e,λb o e _ _ hx=>⟨o.slots,k b o hx e⟩,λb o e n _=>?_,λb o e hx=>⟨o,k b o hx e⟩,λb ys e=>?_,λb o u e=>?_,λb ps e=>⟨#[],?_⟩⟩ ?_ I.bare
  λb hb=>⟨(hf b hb).2.2.2.1,(hf b hb).2.1,(hf b hb).2.2.2.2.1,(hf b hb).2.2.2.2.2⟩
 .rw[upd_ne (neT b o e)];exact n
 .rw[upd_ne (ne_of_none e nT)];exact e
 .rw[upd_ne (ne_of_none e nT)];exact e
 .rw[upd_ne (ne_of_none e nT),e];simp
 .intro b u e
  by_cases hb:b=T
  .subst hb
   rw[upd_same]at e
   cases e
   exact⟨hz,us,rv,tp⟩
  .rw[upd_ne hb]at e
   refine(I.hok b u e).stay (λc v hc q=>k c v ?_ q) (λc q=>by rw[upd_ne (ne_of_none q nT)];exact q) (λc ys q=>by rw[upd_ne (ne_of_none q nT)];exact q) λc ob v q=>by rw[upd_ne (ne_of_none q nT)];exact q
   rcases hc with z |z
   .subst z;exact nch c u e
   .exact nch c _ z
end
def Ite(K:PySem.W.Frag)(l:Addr):It:=
 ⟨λi H=>∃xs x,SqL K H l xs/\xs[i]? =some x,λi H v H'=>∃T x,v= .ref T/\H T=none/\H'=upd H T (.tup [.int i,x])/\∀xs,SqL K H l xs->xs[i]? =some x,λi H=>∃xs,SqL K H l xs/\xs.length≤i⟩
section
variable{X:Cx}{σ:St}{H:Hp}{a b:Expr}{elts:List Expr}{k:Nat}{tp p pos:Pos}{R:It->Hp->Prop}
end
end L2
namespace L2
open PySem PySem.Spec PyProof.Rows
section
variable{X:Cx}{pins:List (Addr×Obj)}{σ:St}{H:Hp}{s:Shared}
theorem Inv.turnAll{ch:List Addr}{h':Heap}{tk:Nat}(I:Inv X pins σ H s)(hf:∀b∈ch,FpOk X pins H b)
  (k:∀b o,b∉ch->s.heap.get? b=some o->h'.get? b=some o):Inv X pins σ H {s with heap:=h',toks:=tk}:=by
 have nch:∀b u,H b=some u->b∉ch:=λb u e z=>by rw[(hf b z).1]at e;cases e
 refine I.call (g':=s.gens) (d':=s.drawn) (t':=tk) (ch:=ch) (h':=h') ⟨λb o e _ _ hx=>k b o hx e,λb o e _ _ hx=>⟨o.slots,k b o hx e⟩,λb o e n _=>n,λb o e hx=>⟨o,k b o hx e⟩,λb ys e=>e,λb o u e=>e,λb ps e=>⟨#[],?_⟩⟩ ?_ I.bare
  λb hb=>⟨(hf b hb).2.2.2.1,(hf b hb).2.1,(hf b hb).2.2.2.2.1,(hf b hb).2.2.2.2.2⟩
 .rw[e];simp
 .intro b u e
  refine(I.hok b u e).stay (λc v hc q=>k c v ?_ q) (λc q=>q) λc ys q=>q
  rcases hc with z |z
  .subst z;exact nch c u e
  .exact nch c _ z
end
def Itz(K:PySem.W.Frag)(l m:Addr):It:=
 ⟨λi H=>∃xs ys x y,SqL K H l xs/\SqL K H m ys/\xs[i]? =some x/\ys[i]? =some y,
  λi H v H'=>∃T x y,v= .ref T/\H T=none/\H'=upd H T (.tup [x,y])/\(∀xs,SqL K H l xs->xs[i]? =some x)/\∀ys,SqL K H m ys->ys[i]? =some y,
  λi H=>∃xs ys,SqL K H l xs/\SqL K H m ys/\min xs.length ys.length≤i⟩
theorem turn_zip{P:Program}{w:World}{K:PySem.W.Frag}{elts:List Expr}{k:Nat}{pos:Pos}(z TI TO i1 i2 l m:Addr)(D:ZipApart z TI TO i1 i2 l m):
  Turn P w K (.Tuple elts k pos) (Itz K l m) [z,TI,TO,i1,i2] z (λi h=>IsZip h z TI TO .none/\IsPair h TI (.ref i1) (.ref i2)/\(∃a b,IsPair h TO a b)/\h.IsListIter i1 l i/\h.IsListIter i2 m i)where
 mem:=by simp
 obj:=λi h st b hb=>by
  obtain⟨hz,hTI,⟨a,a',hTO⟩,⟨o1,h1,_,d1⟩,⟨o2,h2,_,d2⟩⟩:=st
  simp only[List.mem_cons,List.not_mem_nil,or_false]at hb
  rcases hb with e |e |e |e |e<;>subst e
  .exact⟨_,hz,λv z=>by cases z⟩
  .exact⟨_,hTI,λv z=>by cases z⟩
  .exact⟨_,hTO,λv z=>by cases z⟩
  .exact⟨_,h1,λv z=>by rw[d1]at z;cases z⟩
  .exact⟨_,h2,λv z=>by rw[d2]at z;cases z⟩
 keep:=λi h h' st kk=>by
  obtain⟨hz,hTI,⟨a,a',hTO⟩,⟨o1,h1,r1⟩,⟨o2,h2,r2⟩⟩:=st
  exact⟨kk z (by simp) _ hz,kk TI (by simp) _ hTI,⟨a,a',kk TO (by simp) _ hTO⟩,⟨o1,kk i1 (by simp) _ h1,r1⟩,⟨o2,kk i2 (by simp) _ h2,r2⟩⟩
 item:=by
  intro X hP hw hK hc i pins s σ H E I hf st hg
  subst hP hw hK
  obtain⟨hz,hTI,hTO,h1,h2⟩:=st
  obtain⟨xs,ys,x,y,hS,hS',hx,hy⟩:=hg
  obtain⟨its,rv,pl,hsz⟩:=I.list hS
  obtain⟨its',rv',pl',hsz'⟩:=I.list hS'
  have W:=WalksT.zip2 (prog:=X.prog) (w:=X.w) (A:=X.A) (I.ok.hd hc) z TI TO i1 i2 l m D its.toArray its'.toArray
  have hi:i<min its.toArray.size its'.toArray.size:=by
   rw[List.size_toArray, <-rv.length,List.size_toArray, <-rv'.length]
   exact Nat.lt_min.mpr ⟨(List.getElem?_eq_some_iff.mp hx).1,(List.getElem?_eq_some_iff.mp hy).1⟩
  obtain⟨u,hu,ru⟩:=rv.get hx
  obtain⟨u',hu',ru'⟩:=rv'.get hy
  refine W.item i s _ _ hi ⟨hz,hTI,hTO,h1,h2,pl.isList,pl'.isList⟩ λT vals hh tk hp hT tup mid keep=>⟨.ref T,rfl,?_⟩
  obtain⟨v,v',ev,ev',rfl⟩:=hp
  have e1:v=u:=by
   have :its[i]? =some v:=by simpa using ev
   rw[hu]at this
   exact(Option.some.inj this).symm
  have e2:v'=u':=by
   have :its'[i]? =some v':=by simpa using ev'
   rw[hu']at this
   exact(Option.some.inj this).symm
  subst e1 e2
  refine W.go elts k pos i T {s with heap:=hh,toks:=tk} _ _ mid λh3 st2 keep2=>?_
  obtain⟨gz,gTI,gTO,g1,g2,_⟩:=st2
  have nin:∀b,b∉[z,TI,TO,i1,i2]->b∉[z,TO,i1,i2]:=λb hb hb'=>hb (by simp at hb'⊢;rcases hb' with e |e |e |e<;>simp[e])
  have tup2:IsTup h3 T [v,v'].toArray:=by
   obtain⟨o,ho,r⟩:=tup
   exact⟨o,keep2 T o (W.apart i T hh mid) ho,r⟩
  refine⟨.ref T,upd H T (.tup [x,y]),I.turnNew (ch:=[z,TI,TO,i1,i2]) (tk:=tk) hf hT (λb o hb q=>keep2 b o (nin b hb) (keep b o (nin b hb) q)) (by show 2≤sizeLine;rw[sizeLine_eq];decide) (.cons ru (.cons ru' .nil)) tup2,rfl,?_,⟨gz,gTI,gTO,g1,g2⟩,λb hb=>?_⟩
  .refine⟨T,x,y,rfl,I.hok.fresh hT,rfl,λa ha=>?_,λa ha=>?_⟩
   .rw[<-I.list_inj hS ha];exact hx
   .rw[<-I.list_inj hS' ha];exact hy
  .have :b≠T:=λq=>by
    obtain⟨o,ho⟩:∃o,s.heap.get? b=some o:=by
     obtain⟨a,a',hTO⟩:=hTO
     obtain⟨o1,h1,_⟩:=h1
     obtain⟨o2,h2,_⟩:=h2
     simp only[List.mem_cons,List.not_mem_nil,or_false]at hb
     rcases hb with e |e |e |e |e<;>subst e
     .exact⟨_,hz⟩
     .exact⟨_,hTI⟩
     .exact⟨_,hTO⟩
     .exact⟨_,h1⟩
     .exact⟨_,h2⟩
    exact Nat.lt_irrefl _ (Nat.lt_of_lt_of_le (Heap.lt_size ho) (q▸hT))
   rw[upd_ne this]
   exact(hf b hb).1
 done:=by
  intro X hP hw hK hc i pins s σ H E I hf st hg
  subst hP hw hK
  obtain⟨hz,hTI,⟨a,b,hTO⟩,h1,h2⟩:=st
  obtain⟨xs,ys,hS,hS',hx⟩:=hg
  obtain⟨its,rv,pl,hsz⟩:=I.list hS
  obtain⟨its',rv',pl',hsz'⟩:=I.list hS'
  have hend:its.toArray[i]? =none\/its'.toArray[i]? =none:=by
   by_cases q:xs.length≤i
   .exact .inl (Array.getElem?_eq_none (by rw[List.size_toArray, <-rv.length];exact q))
   .exact .inr (Array.getElem?_eq_none (by rw[List.size_toArray, <-rv'.length];omega))
  refine wpAny_pyNext_zip_end (I.ok.hd hc) D hz hTI hTO h1 h2 pl.isList pl'.isList hend λh' hk=>⟨rfl,?_⟩
  exact I.turnAll (tk:=s.toks) hf λb o hb q=>hk b o (λe=>hb (by simp[e])) (λe=>hb (by simp[e])) (λe=>hb (by simp[e])) (λe=>hb (by simp[e])) q
 self:=λA i s Q E st h=>wpAny_pyIter_zip st.1 h
theorem apart_of(n l m:Nat)(h1:l<n)(h2:m<n):ZipApart (n+4) (n+2) (n+3) n (n+1) l m:=by
 constructor<;>(intro e;have e':(_:Nat)=_:=e;omega)
section
variable{X:Cx}{σ:St}{H:Hp}{a b:Expr}{elts:List Expr}{k:Nat}{tp p pos:Pos}{R:It->Hp->Prop}
theorem ei_zip(hg:Gl X "zip")(hm:X.mg "zip"=none)(hs:starEach [a,b] X.env=[(false,eval a X.env),(false,eval b X.env)])(hs2:starEach [b] X.env=[(false,eval b X.env)])
  (h:EV X a σ H λv H1=>EV X b σ H1 λv' H2=>∃l m xs ys,v= .ref l/\v'= .ref m/\H2 l=some (.lst xs)/\H2 m=some (.lst ys)/\R (Itz X.K l m) H2):EI X (.Tuple elts k tp) (.Call (.Name "zip" p) [a,b] [] pos) σ H R:=by
 intro pins s I
 refine Call_ (ld_blt I hg hm boot_zip (PyProof.Rows.callWith_type1 (thn (ea_cons (es:=[b]) (QA:=λvs H1=>∃l m xs ys,vs=[.ref l,.ref m]/\H1 l=some (.lst xs)/\H1 m=some (.lst ys)/\R (Itz X.K l m) H1) (by rw[hs,hs2]) (ev_mono h λv H1 q=>ea_cons (es:=[]) hs2 (ev_mono q λv' H2 ⟨l,m,xs,ys,e,e',q1,q2,q3⟩=>ea_nil ⟨l,m,xs,ys,by rw[e,e'],q1,q2,q3⟩)) pos pins s I) λus s1 ⟨vs,H1,I1,r1,l,m,xs,ys,e,hl,hm',q⟩=>?_) (by rw[hs,hs2]) (by rw[hs2];rfl)))
 subst e
 obtain⟨u,u',rfl,ru,ru'⟩:=vals2 r1
 cases(show u=Value.ref l from ru)
 cases(show u'=Value.ref m from ru')
 obtain⟨hz,its,n,rv,ho⟩:=I1.hok l _ hl
 obtain⟨hz',its',n',rv',ho'⟩:=I1.hok m _ hm'
 refine call_zip_2 (xs:=its.toArray) (ys:=its'.toArray) ⟨_,ho,rfl,_,rfl⟩ ⟨_,ho',rfl,_,rfl⟩ λh' h1 h2 h3 h4 h5 hsz hk=>?_
 refine wpAny_pyIter_zip h1 ?_
 refine⟨s1.heap.objs.size+4,[s1.heap.objs.size+4,s1.heap.objs.size+2,s1.heap.objs.size+3,s1.heap.objs.size,s1.heap.objs.size+1],_,_,H1,rfl,I1.kept (t':=s1.toks) hk,turn_zip _ _ _ _ _ l m (apart_of _ _ _ (Heap.lt_size ho) (Heap.lt_size ho')),⟨h1,h2,⟨_,_,h3⟩,h4,h5⟩,λb hb=>?_,q⟩
 have hb':s1.heap.objs.size≤b:=by
  simp only[List.mem_cons,List.not_mem_nil,or_false]at hb
  rcases hb with e |e |e |e |e<;>subst e
  .exact Nat.le_add_right _ _
  .exact Nat.le_add_right _ _
  .exact Nat.le_add_right _ _
  .exact Nat.le_refl _
  .exact Nat.le_add_right _ _
 exact I1.fpOk hb' (I1.hok.fresh hb')
end
end L2
namespace L2
open PySem PySem.Spec PyProof.Rows
section
variable{X:Cx}{a e:Expr}{σ:St}{H:Hp}{Q:VK}{D:Ends}{pos p p':Pos}
theorem comp_any{Y:Cx}{tg elt:Expr}{J:It}{E:Addr}{τ0:St}{Q:Hp->Prop}
  (n:Nat) (hn:n≤sizeLine) (Tp:St->Prop) (hT:Tp τ0) (Pi:Nat->V->Hp->Prop) (hE:H E=none)
  (mono:∀i v H1 H2 ys,H1 E=some (.lst ys)->(∀b o,b≠E->H1 b=some o->H2 b=some o)->Pi i v H1->Pi i v H2)
  (go:∀i H1,Same H H1->i<n->J.go i H1) (stop:∀H1,Same H H1->J.stop n H1)
  (step:∀i τ x H1 H2,i<n->Tp τ->Same H H1->(∃ys,H1 E=some (.lst ys))->J.yld i H1 x H2->EG Y tg x τ H2 λτ2 H3=>EV Y elt τ2 H3 λv H4=>Tp τ2/\Pi i v H4/\Same H1 H4)
  (fin:∀H1 xs,xs.length=n->(∀i v,xs[i]? =some v->Pi i v H1)->H1 E=some (.lst xs)->Same H H1->Q H1):CompT X Y tg elt [] J E τ0 H Q:=by
 refine⟨λi m τ H1=>m=n-i/\i≤n/\Same H H1/\Tp τ/\∃xs,H1 E=some (.lst xs)/\xs.length=i/\∀k v,xs[k]? =some v->Pi k v H1,⟨n,by simp,Nat.zero_le _,Same.upd hE,hT,[],upd_same,rfl,λk v e=>by simp at e⟩,?_⟩
 rintro i m τ H1 ⟨rfl,hi,s1,hτ,xs,eE,lx,px⟩
 by_cases hlt:i<n
 .refine .inr ⟨go i H1 s1 hlt,λτ' H'=>Same H H'/\Tp τ'/\∃xs,H' E=some (.lst xs)/\xs.length=i+1/\∀k v,xs[k]? =some v->Pi k v H',λτ' H' ⟨a,b,c⟩=>⟨n-(i+1),by omega,rfl,hlt,a,b,c⟩,λx H2 y=>?_⟩
  intro pins s u I r
  refine thn (step i τ x H1 H2 hlt hτ s1 ⟨xs,eE⟩ y pins s u I r) λ_ s' ⟨τ2,H3,I3,q3⟩=>⟨τ2,H3,I3,eifs_nil ?_⟩
  rw[if_pos rfl]
  refine ev_mono q3 λv H4 ⟨t2,pv,s2⟩=>⟨xs,s2 _ _ eE,by omega,?_⟩
  have mm:∀k w',Pi k w' H4->Pi k w' (upd H4 E (.lst (xs++[v]))):=λk w' q=>mono k w' H4 _ xs (s2 _ _ eE) (λb o hb e=>by rw[upd_ne hb];exact e) q
  refine⟨λb o e=>?_,t2,xs++[v],upd_same,by simp[lx],λk u e=>?_⟩
  .rw[upd_ne (ne_of_none e hE)]
   exact s2 _ _ (s1 _ _ e)
  .by_cases hk:k<xs.length
   .rw[List.getElem?_append_left hk]at e
    refine mono k u H1 _ xs eE (λb o hb e=>?_) (px k u e)
    rw[upd_ne hb]
    exact s2 _ _ e
   .have hk2:k=i:=by
     have :=(List.getElem?_eq_some_iff.mp e).1
     rw[List.length_append,List.length_singleton]at this
     omega
    subst hk2
    rw[<-lx,List.getElem?_concat_length]at e
    cases e
    exact mm _ _ pv
 .have e:i=n:=by omega
  subst e
  exact .inl ⟨stop H1 s1,fin H1 xs lx px eE s1⟩
variable{tg elt iter:Expr}{scope:Scope}{σ':St}
def CompW(X:Cx)(N':List Str)(scope:Scope)(tg elt:Expr)(σ':St)(H1:Hp)(Q:VK)(n:Nat)(G:Nat->Hp->V->Hp->Prop):Prop:=
 ∃(Tp:St->Prop) (Pi:Addr->Nat->V->Hp->Prop),Tp σ'/\
  (∀E i v H2 H3 ys,H2 E=some (.lst ys)->(∀b o,b≠E->H2 b=some o->H3 b=some o)->Pi E i v H2->Pi E i v H3)/\
  (∀(fp:List Addr) (E C:Addr) (s3:Shared) (H0:Hp) (i:Nat) (τ:St) (x:V) (H2 H3:Hp),H1 E=none->i<n->Tp τ->Same H1 H2->(∃ys,H2 E=some (.lst ys))->G i H2 x H3->
   EG (blk X N' scope (closL scope X.env) C s3 H0 fp) tg x τ H3 λτ2 H4=>EV (blk X N' scope (closL scope X.env) C s3 H0 fp) elt τ2 H4 λv H5=>Tp τ2/\Pi E i v H5/\Same H2 H5)/\
  ∀(E:Addr) (H2:Hp) (xs:List V),H1 E=none->xs.length=n->(∀i v,xs[i]? =some v->Pi E i v H2)->H2 E=some (.lst xs)->Same H1 H2->Q (.ref E) H2
theorem compW{N':List Str}{J:It}{n:Nat}{G:Nat->Hp->V->Hp->Prop}(hn:n≤sizeLine)(go:∀i H2,Same H H2->i<n->J.go i H2)(stop:∀H2,Same H H2->J.stop n H2)
  (yl:∀i H2 x H3,i<n->Same H H2->J.yld i H2 x H3->G i H2 x H3) (h:CompW X N' scope tg elt σ' H Q n G):
  ∀(fp:List Addr) (D C:Addr) (s3:Shared),H D=none->CompT X (blk X N' scope (closL scope X.env) C s3 (upd H D (.lst [])) fp) tg elt [] J D σ' H (λH'=>Q (.ref D) H'):=by
 intro fp E C s3 hE
 obtain⟨Tp,Pi,t0,mono,step,fin⟩:=h
 exact comp_any n hn Tp t0 (Pi E) hE (λi v H1 H2 ys=>mono E i v H1 H2 ys) go stop (λi τ x H1 H2 hi ht hs hy y=>step fp E C s3 _ i τ x H1 H2 hE hi ht hs hy (yl i H1 x H2 hi hs y)) λH1 xs l px eE s=>fin E H1 xs hE l px eE s
theorem ev_compL(N':List Str)(hσ:capSt N' X.N σ scope=σ')(hc:X.calm=true)(S:CompSc X.env scope)(hs:∀x,foldedSetIterable e X.env x=pure x)
  (h:EV X e σ H λv H1=>∃l xs,v= .ref l/\SqL X.K H1 l xs/\xs.length≤sizeLine/\CompW X N' scope tg elt σ' H1 Q xs.length λi H2 x H3=>xs[i]? =some x/\H2=H3):
  EV X (.ListComp elt [⟨tg,e,[],0⟩] scope pos) σ H Q:=by
 refine ev_comp (N':=N') hc S hs (ei_list (ev_mono h λv H1 q=>?_))
 obtain⟨l,xs,rfl,hl,hz,hw⟩:=q
 refine⟨l,rfl,⟨xs,hl⟩,?_⟩
 rw[hσ]
 refine compW hz (λi H2 s hi=>⟨xs,xs[i],Same.seq s hl,List.getElem?_eq_getElem hi⟩) (λH2 s=>⟨xs,Same.seq s hl,Nat.le_refl _⟩) (λi H2 x H3 hi s y=>⟨y.2 xs (Same.seq s hl),y.1.symm⟩) hw
theorem ev_compRh(N':List Str)(hσ:capSt N' X.N σ scope=σ')(hc:X.calm=true)(S:CompSc X.env scope)
  (hg:Gl X "range") (hm:X.mg "range"=none) (hs:starEach [a] X.env=[(false,eval a X.env)])
  (h:EV X a σ H λv H1=>∃n:Int,v= .int n/\ -(2^62)≤n/\n.toNat≤sizeLine/\CompW X N' scope tg elt σ' H1 Q n.toNat λi H2 x H3=>x= .int i/\H2=H3):
  EV X (.ListComp elt [⟨tg,.Call (.Name "range" p) [a] [] p',[],0⟩] scope pos) σ H Q:=by
 refine ev_comp (N':=N') hc S (by intro _;rfl) (ei_range1 hg hm hs (ea_cons hs (ev_mono h λv H1 q=>?_)))
 obtain⟨n,rfl,h1,h2,hw⟩:=q
 have hsz:(sizeLine:Nat)<2^62:=by rw[sizeLine_eq];decide
 refine ea_nil ⟨n,rfl,h1,by omega,?_⟩
 rw[hσ]
 exact compW h2 (λi H2 s hi=>hi) (λH2 s=>Nat.le_refl _) (λi H2 x H3 hi s y=>⟨by rw[y.2,Int.zero_add],y.1.symm⟩) hw
end
end L2
namespace L2
open PySem PySem.Spec PyProof.Rows
section
variable{Kt:Type} [DecidableEq Kt] [BEq Kt] [LawfulBEq Kt]
def seenL(ks:List Kt):List Kt:=ks.foldl (λa k=>if k∈a then a else a++[k]) []
end
section
variable{prog:Program}{w:World}{A:Around}{E:Value->Shared->Prop}{s:Shared}{zs:List Str}{us:Array Value}
def strAt(us:Array Value)(zs:List Str):Prop:=∀(i:Nat) (v:Value),us[i]? =some v->∃t z,v= .str z t/\zs[i]? =some z
def TxS(prog:Program)(w:World)(h:Heap)(S:Addr)(zs:List Str):Prop:=h.SetOf (strKind prog w) S (λk=>decide (k∈seenL zs)) (seenL zs).length
abbrev newSet(h:Heap)(led:Bool):Heap:=h.push {cls:=.type "set",dict:=none,data:=.set #[] 0 (.fresh 0 0 led)}
end
end L2
namespace L2
open PySem PySem.Spec PyProof.Rows
section
variable{X:Cx}{H:Hp}{Q:VK}{v:V}
def txSet(X:Cx)(S:Addr)(zs:List Str):HO:=.ext λh=>TxS X.prog X.w h S zs
theorem o_inL{x:V}{p:Addr}{xs:List V}(h:SqL X.K H p xs)(f:flatV x=true)(fs:xs.all flatV=true)(q:Q (.bl (inV x xs)) H):OP X (compareOp .In) x (.ref p) H Q:=op_by op_in_seq ⟨p,xs,rfl,.inl h,f,fs,q⟩
theorem o_catL{l b:Addr}{xs zs:List V}(h1:H l=some (.lst xs))(h2:H b=some (.lst zs))(hz:xs.length+zs.length≤sizeLine)(q:∀p,H p=none->Q (.ref p) (upd H p (.lst (xs++zs)))):OP X (binaryOp .Add) (.ref l) (.ref b) H Q:=op_by op_cat ⟨l,b,xs,zs,rfl,rfl,h1,h2,hz,q⟩
end
section
variable{X:Cx}{H:Hp}{D:Ends}{σ σ':St}{e a elt tg:Expr}{scope:Scope}{pos spos py p p':Pos}{y:Str}{j:Nat}
theorem sx_compL(N':List Str)(hσ:capSt N' X.N σ scope=σ')(hsw:swapsWith (.ListComp elt [⟨tg,e,[],0⟩] scope pos) (some (.Name y py)) spos.line X.env=pure true)(hc:X.calm=true)(S:CompSc X.env scope)(hs:∀x,foldedSetIterable e X.env x=pure x)
  (hN:X.N.Nodup) (hi:nameAt X.N y=some j) (hx:X.env.scope.names.lookup y=some .local)
  (h:EV X e σ H λv H1=>∃l xs,v= .ref l/\SqL X.K H1 l xs/\xs.length≤sizeLine/\CompW X N' scope tg elt σ' H1 (λv H'=>D.nx (σ.set j (some v)) H') xs.length λi H2 x H3=>xs[i]? =some x/\H2=H3):
  SX X (.Assign [.Name y py] (.ListComp elt [⟨tg,e,[],0⟩] scope pos) spos) D σ H:=by
 refine sx_comp (N':=N') hsw hc S hs hN hi hx (ei_list (ev_mono h λv H1 q=>?_))
 obtain⟨l,xs,rfl,hl,hz,hw⟩:=q
 refine⟨l,rfl,⟨xs,hl⟩,?_⟩
 rw[hσ]
 refine compW (J:=Itl X.K l) hz (λi H2 s hi=>⟨xs,xs[i],Same.seq s hl,List.getElem?_eq_getElem hi⟩) (λH2 s=>⟨xs,Same.seq s hl,Nat.le_refl _⟩) (λi H2 x H3 hi s y=>⟨y.2 xs (Same.seq s hl),y.1.symm⟩) hw
theorem sx_compRh(N':List Str)(hσ:capSt N' X.N σ scope=σ')(hsw:swapsWith (.ListComp elt [⟨tg,.Call (.Name "range" p) [a] [] p',[],0⟩] scope pos) (some (.Name y py)) spos.line X.env=pure true)(hc:X.calm=true)(S:CompSc X.env scope)
  (hN:X.N.Nodup) (hi:nameAt X.N y=some j) (hx:X.env.scope.names.lookup y=some .local) (hg:Gl X "range") (hm:X.mg "range"=none) (hs:starEach [a] X.env=[(false,eval a X.env)])
  (h:EV X a σ H λv H1=>∃n:Int,v= .int n/\ -(2^62)≤n/\n.toNat≤sizeLine/\CompW X N' scope tg elt σ' H1 (λv H'=>D.nx (σ.set j (some v)) H') n.toNat λi H2 x H3=>x= .int i/\H2=H3):
  SX X (.Assign [.Name y py] (.ListComp elt [⟨tg,.Call (.Name "range" p) [a] [] p',[],0⟩] scope pos) spos) D σ H:=by
 refine sx_comp (N':=N') hsw hc S (by intro _;rfl) hN hi hx (ei_range1 hg hm hs (ea_cons hs (ev_mono h λv H1 q=>?_)))
 obtain⟨n,rfl,h1,h2,hw⟩:=q
 have hsz:(sizeLine:Nat)<2^62:=by rw[sizeLine_eq];decide
 refine ea_nil ⟨n,rfl,h1,by omega,?_⟩
 rw[hσ]
 exact compW h2 (λi H2 s hi=>hi) (λH2 s=>Nat.le_refl _) (λi H2 x H3 hi s y=>⟨by rw[y.2,Int.zero_add],y.1.symm⟩) hw
end
end L2
namespace L2
open PySem PySem.Spec PyProof.Rows
def cutAt(c:Nat):List Nat->List (List Nat)
 |[]=>[[]]
 |x::r=>if x=c then []::cutAt c r else match cutAt c r with
  |[]=>[[x]]
  |h::t=>(x::h)::t
def glueL(c:Nat):List (List Nat)->List Nat
 |[]=>[]
 |[p]=>p
 |p::q::r=>p++c::glueL c (q::r)
theorem cutAt_ne(c:Nat):∀l,cutAt c l≠[]
 |[]=>by simp[cutAt]
 |x::r=>by
  unfold cutAt
  split
  .simp
  .split <;>simp
theorem cutAt_one{c:Nat}:∀{p:List Nat},c∉p->cutAt c p=[p]
 |[],_=>rfl
 |x::r,h=>by
  have ih:=cutAt_one (c:=c) (p:=r) λz=>h (by simp[z])
  unfold cutAt
  rw[if_neg (λz=>h (by simp[z])),ih]
theorem cutAt_app{c:Nat}{l:List Nat}:∀{p:List Nat},c∉p->cutAt c (p++c::l)=p::cutAt c l
 |[],_=>by
  show cutAt c (c::l)=_
  rw[cutAt,if_pos rfl]
 |x::r,h=>by
  have ih:=cutAt_app (c:=c) (l:=l) (p:=r) λz=>h (by simp[z])
  show cutAt c (x::(r++c::l))=_
  rw[cutAt,if_neg (λz=>h (by simp[z])),ih]
theorem cutAt_glue{c:Nat}:∀{ps:List (List Nat)},ps≠[]->(∀p∈ps,c∉p)->cutAt c (glueL c ps)=ps
 |[],h,_=>absurd rfl h
 |[p],_,h=>cutAt_one (h p (by simp))
 |p::q::r,_,h=>by
  show cutAt c (p++c::glueL c (q::r))=_
  rw[cutAt_app (h p (by simp)),cutAt_glue (by simp) λx hx=>h x (List.mem_cons_of_mem _ hx)]
theorem cutAt_len(c:Nat):∀l,(cutAt c l).length≤l.length+1
 |[]=>by simp[cutAt]
 |x::r=>by
  have ih:=cutAt_len c r
  unfold cutAt
  split
  .simp
   exact ih
  .split
   .simp
   .rename_i h t e
    rw[e]at ih
    simp at ih⊢
    omega
theorem glue_cutAt(c:Nat):∀l,glueL c (cutAt c l)=l
 |[]=>rfl
 |x::r=>by
  have ih:=glue_cutAt c r
  unfold cutAt
  split
  .rename_i h
   cases e:cutAt c r with
   |nil=>exact absurd e (cutAt_ne c r)
   |cons p q=>
    rw[e]at ih
    show []++c::glueL c (p::q)=_
    rw[ih,h]
    rfl
  .cases e:cutAt c r with
   |nil=>exact absurd e (cutAt_ne c r)
   |cons p q=>
    rw[e]at ih
    simp only
    cases q with
    |nil=>
     show x::p=_
     rw[show p=r from ih]
    |cons y q=>
     show(x::p)++c::glueL c (y::q)=_
     rw[<-ih]
     rfl
theorem join_glue(c:Nat):∀ps:List Str,(Str.join ⟨#[c]⟩ ps).cps.toList=glueL c (ps.map λp=>p.cps.toList)
 |[]=>rfl
 |[p]=>rfl
 |p::q::r=>by
  have ih:=join_glue c (q::r)
  have e:Str.join ⟨#[c]⟩ (p::q::r)=p++⟨#[c]⟩++Str.join ⟨#[c]⟩ (q::r):=rfl
  rw[e]
  show((p.cps++ #[c])++(Str.join ⟨#[c]⟩ (q::r)).cps).toList=_
  simp only[Array.toList_append]
  rw[ih]
  simp[glueL]
theorem split_ne(x:Str)(c:Nat):Txt.split x ⟨#[c]⟩≠[]:=by
 unfold Txt.split
 split
 .simp
 .split
  .simp
  .unfold Builtin.Str.partsBetween
   simp
theorem split_list(x:Str)(c:Nat):(Txt.split x ⟨#[c]⟩).map (λp=>p.cps.toList)=cutAt c x.cps.toList:=by
 have h1:(Str.join ⟨#[c]⟩ (Txt.split x ⟨#[c]⟩)).cps.toList=x.cps.toList:=by rw[StrLaws.join_split]
 rw[join_glue]at h1
 rw[<-h1]
 refine(cutAt_glue (by simpa using split_ne x c) λp hp=>?_).symm
 obtain⟨q,hq,rfl⟩:=List.mem_map.mp hp
 exact StrLaws.split_free x c q hq
def cutT(c:Nat)(x:Str):List Str:=(cutAt c x.cps.toList).map λl=>⟨l.toArray⟩
theorem split_cut(x:Str)(c:Nat):Txt.split x ⟨#[c]⟩=cutT c x:=by
 unfold cutT
 rw[<-split_list,List.map_map]
 have :((λl:List Nat=>(⟨l.toArray⟩:Str))∘λp:Str=>p.cps.toList)=id:=by
  funext p
  rfl
 rw[this,List.map_id]
section
variable{X:Cx}{H:Hp}{Q:VK}{z y:Str}{v:V}
theorem vals_strs:∀l:List (Str×Tok),Vals ((l.map (·.1)).map V.str) (strValues l)
 |[]=>.nil
 |p::l=>.cons ⟨p.2,rfl⟩ (vals_strs l)
theorem m_split{c:Nat}(hz:z.length≤100000)(g:∀p,H p=none->Q (.ref p) (upd H p (.lst ((cutT c z).map V.str)))):MT X "str.split" (.str z) [.str ⟨#[c]⟩] H Q:=by
 refine mt_by (r:=λx xs H Q=>∃z c,x= .str z/\xs=[.str ⟨#[c]⟩]/\z.length≤100000/\∀p,H p=none->Q (.ref p) (upd H p (.lst ((cutT c z).map V.str)))) ?_ ⟨z,c,rfl,rfl,hz,g⟩
 intro pins s σ H x xs v us Q I rx rs h
 obtain⟨z,c,rfl,rfl,hz,g⟩:=h
 obtain⟨t,rfl⟩:=rx
 obtain⟨u,rfl,ru⟩:=vals1 rs
 obtain⟨t',rfl⟩:=ru
 have hl:(cutT c z).length≤z.length+1:=by
  have h1:=cutAt_len c z.cps.toList
  unfold cutT
  rw[List.length_map]
  have h2:z.cps.toList.length=z.length:=rfl
  omega
 have hsz:sizeLine=16777216:=sizeLine_eq
 have fin:∀(l:List (Str×Tok)) (tk:Nat),l.map (·.1)=cutT c z->EP X pins σ Q (.ref s.heap.objs.size) {s with toks:=tk,heap:=s.heap.push {cls:=.type "list",data:=.seq (strValues l).toArray}}:=λl tk e=>
  ⟨.ref s.heap.objs.size,_,I.laid (t':=tk) (o:=.lst ((cutT c z).map V.str)) (λb o q=>Heap.get?_push_of_some _ q) (Nat.le_refl _) ⟨by rw[List.length_map];omega,strValues l,_,by rw[<-e];exact vals_strs l,Heap.get?_push_size _ rfl⟩,rfl,g _ (I.hok.fresh (Nat.le_refl _))⟩
 cases h1:(decide (z.length<(⟨#[c]⟩:Str).length)||decide (Builtin.Str.strKind z<Builtin.Str.strKind ⟨#[c]⟩))
 .cases hf:(Builtin.Str.occurrences z ⟨#[c]⟩ 0 z.length (z.length+1)).isEmpty
  .have e:Txt.split z ⟨#[c]⟩=Builtin.Str.partsBetween z (Builtin.Str.occurrences z ⟨#[c]⟩ 0 z.length (z.length+1)) (⟨#[c]⟩:Str).length:=by
    unfold Txt.split
    rw[if_neg (by rw[h1];decide),if_neg (by rw[hf];decide)]
   have hlp:=hl
   rw[<-split_cut,e]at hlp
   refine call_meets F.slot_str_split (typeIs_str _ _ _) F.entry_str_split (F.args_str_split_2 _ _) (meets_str_split_sep z ⟨#[c]⟩ t t' h1 rfl hf (by omega) (by omega)) ?_
   have :=fin (numbered s.toks (Txt.split z ⟨#[c]⟩)) (s.toks+(Builtin.Str.partsBetween z (Builtin.Str.occurrences z ⟨#[c]⟩ 0 z.length (z.length+1)) (⟨#[c]⟩:Str).length).length) (by rw[numbered_texts,split_cut])
   rw[<-strsFrom_eq,e]at this
   exact this
  .have e:Txt.split z ⟨#[c]⟩=[z]:=by
    unfold Txt.split
    rw[if_neg (by rw[h1];decide),if_pos hf]
   exact call_meets F.slot_str_split (typeIs_str _ _ _) F.entry_str_split (F.args_str_split_2 _ _) (meets_str_split_not_found z ⟨#[c]⟩ t t' h1 rfl hf) (fin [(z,t)] s.toks (by rw[<-split_cut,e];rfl))
 .have e:Txt.split z ⟨#[c]⟩=[z]:=by
   unfold Txt.split
   rw[if_pos h1]
  exact call_meets F.slot_str_split (typeIs_str _ _ _) F.entry_str_split (F.args_str_split_2 _ _) (meets_str_split_cannot_occur z ⟨#[c]⟩ t t' h1) (fin [(z,t)] s.toks (by rw[<-split_cut,e];rfl))
end
def Itv(K:PySem.W.Frag)(l:Addr)(n:Nat):It:=
 ⟨λi H=>i<n/\∃xs,SqL K H l xs/\xs.length=n,λi H x H'=>H'=H/\∀xs,SqL K H l xs->xs[n-1-i]? =some x,λi _=>i=n⟩
section
variable{X:Cx}{σ:St}{H:Hp}{a:Expr}{tg:Expr}{p pos p':Pos}{R:It->Hp->Prop}{D:Ends}
end
end L2
namespace L2
open PySem PySem.Spec PyProof.Rows
theorem pass_held{M:Model}{A:Around}{E:Value->Shared->Prop}{s:Shared}{α:Type}{e T L:Addr}{cls:Value}{d:Option Addr×Bool}{fl:Value}{what:String}{env:Env}{Q:α->Shared->Prop}(hf:env.frame=some L)
  (F:Flies s.heap e cls d (some T) fl) (k:∀h',Noted s.heap h' [T] []->Flies h' e cls d (some T) (rawInt L)->E (.ref e) {s with heap:=h'}):wpAny M A (passOn what (.ref e) env) Q E s:=by
 obtain⟨oe,vs,he,hc,hdx,hd,h1,hz,h2,hT⟩:=F
 obtain⟨hne,oT,ws,t1,t2,t3⟩:=hT T rfl
 have h3:3<ws.size:=(Array.getElem?_eq_some_iff.mp t3).1
 have h1':vs[1]? =some (Value.ref T):=h1
 unfold PySem.passOn
 refine wpAny_bind (wpAny_field he hd h1' ?_)
 rw[if_neg (show ¬((Value.ref T==Value.none)=true)from by simp)]
 refine wpAny_bind ?_
 unfold setFlight
 refine wpAny_bind (wpAny_field he hd h1' ?_)
 rw[if_pos (show(Value.ref T !=Value.none)=true from by simp),hf]
 refine wpAny_setField t1 t2 h3 (wpAny_throw (k _ ⟨λb o q _ n=>?_,λb o q n=>⟨o.slots,?_⟩,λb o q=>?_⟩ ?_))
 .rw[Heap.get?_update_other _ _ (λz=>n (by simp[z]))];exact q
 .rw[Heap.get?_update_other _ _ (λz=>n (by simp[z]))];exact q
 .by_cases z:b=T
  .subst z;exact⟨_,Heap.get?_update_self _ t1 (Obj.isFreed_of_fields (Obj.data_mapFields t2 _))⟩
  .exact⟨o,by rw[Heap.get?_update_other _ _ (Ne.symm z)];exact q⟩
 .refine⟨oe,vs,?_,hc,hdx,hd,h1,hz,h2.stay λv o ws hv q1 q2=>?_,λT' eT=>?_⟩
  .rw[Heap.get?_update_other _ _ hne];exact he
  .by_cases z:v=T
   .subst z
    rw[t1]at q1
    cases q1
    exact⟨_,_,Heap.get?_update_self _ t1 (Obj.isFreed_of_fields (Obj.data_mapFields t2 _)),Obj.data_mapFields q2 _,by rw[Array.getElem?_setIfInBounds_ne (by decide)]⟩
   .exact⟨o,ws,by rw[Heap.get?_update_other _ _ (Ne.symm z)];exact q1,q2,rfl⟩
  .cases eT
   exact⟨hne,_,_,Heap.get?_update_self _ t1 (Obj.isFreed_of_fields (Obj.data_mapFields t2 _)),Obj.data_mapFields t2 _,by simp[h3]⟩
theorem compLoop_x{prog:Program}{w:World}{A:Around}{R:Result->Shared->Prop}{s:Shared}{elt target iter:Expr}{ifs:List Expr}{scope:Scope}{pos:Pos}{it acc:Value}{env:Env}(I:Nat->Shared->Prop){Er:Value->Shared->Prop}
  (hE:∀x s,Er x s->notedBy (model prog w) A env (λx s'=>R (.error x) s') x s)
  (turn:∀n s,I n s->wpAny (model prog w) A (pyNext it) (λr s₁=>match r with
   |none=>R (.ok .next) s₁
   |some v=>wpAny (model prog w) A (letOwnedTupleGo target it v) (λ_ s₁'=>wpAny (model prog w) A (assign target env v) (λ_ s₂=>
    wpAny (model prog w) A (forIn ifs true λc r=>if r=true then do let ok<-isTrue c env (eval c env);pure (ForInStep.yield ok)else pure (ForInStep.yield r)) (λok s₃=>
     if ok=true then wpAny (model prog w) A (eval elt env) (λx s₄=>
      wpAny (model prog w) A (call (.builtin "list.append") [acc,x]) (λ_ s₅=>∃m,m<n/\I m s₅) Er s₄) Er s₃
     else ∃m,m<n/\I m s₃) Er s₂) Er s₁') Er s₁) Er s)
  (n:Nat) (h:I n s):
  codeAny (model prog w) A (.compLoop (.ListComp elt [⟨target,iter,ifs,0⟩] scope pos) 0 it acc env) R s:=by
 refine codeAny_loop rfl I (λn s hI=>?_) n h
 show wpAny _ A ((compTurn (.ListComp elt [⟨target,iter,ifs,0⟩] scope pos) 0 it acc env).onRaise (λx=>do noteFrame x env;theTreesLotGoes x)) _ _ s
 refine wpAny_noted ?_
 rw[compTurn_list]
 refine wpAny_bind (wpAny_standAt (wpAny_bind (wpAny_mono (turn n s hI) (λr s₁ h₁=>?_) hE)))
 cases r with
 |none=>exact wpAny_pure h₁
 |some v=>
  refine wpAny_bind (wpAny_mono h₁ (λ_ s₁' h₁'=>?_) hE)
  refine wpAny_bind (wpAny_mono h₁' (λ_ s₂ h₂=>wpAny_bind (wpAny_mono h₂ (λok s₃ h₃=>?_) hE)) hE)
  cases ok with
  |false=>exact wpAny_pure ⟨rfl,h₃⟩
  |true=>
   exact wpAny_bind (wpAny_bind (wpAny_mono h₃ (λx s₄ h₄=>wpAny_bind (wpAny_mono h₄ (λ_ s₅ h₅=>wpAny_pure (wpAny_pure ⟨rfl,h₅⟩)) hE)) hE))
def compDue(M:Model)(A:Around)(E:Value->Shared->Prop)(use:Option (Value->Sem Unit))(Q:Value->Shared->Prop)(acc:Value)(C:Env)(r:Result)(s':Shared):Prop:=
 match r,use with
 | .ok _,none=>∃m,s'.heap.Ns C.locals m/\∀h',Heap.SameBut C.locals s'.heap h'->Q acc {s' with heap:=h'}
 | .ok _,some u=>wpAny M A (u acc) (λ_ s''=>∃m,s''.heap.Ns C.locals m/\∀h',Heap.SameBut C.locals s''.heap h'->Q .none {s'' with heap:=h'}) E s'
 | .error x,_=>∃m,s'.heap.Ns C.locals m/\∀h',Heap.SameBut C.locals s'.heap h'->wpAny M A (passOn "comprehension.variables-let-go" x C:Sem Value) (λ_ _=>False) E {s' with heap:=h'}
theorem comp_due{M:Model}{A:Around}{E:Value->Shared->Prop}{s:Shared}{env:Env}{e:Expr}{scope:Scope}{pos:Pos}{newAcc first:Sem Value}{g:Comprehension}{gs:List Comprehension}{cl:List (Str×Addr)}{use:Option (Value->Sem Unit)}{Q:Value->Shared->Prop}
  (hcl:clausesOf e=g::gs) (hs:∀x,foldedSetIterable g.iter env x=pure x) (hclos:closureFor scope env=pure cl) (hkind:scope.kind= .function) (hnames:∀x∈scope.names,x.2= .local->scope.names.lookup x.1=some .local)
  (h:wpAny M A first (λx s₁=>wpAny M A (pyIter x) (λit s₂=>wpAny M A newAcc (λacc s₃=>wpAny M A (newFunctionEnv scope env.globals cl [] env.qual none .none (some env)) (λcenv s₄=>
   codeAny M A (.compStart e 0 it acc {cenv with scope:=relabel scope env}) (compDue M A E use Q acc {cenv with scope:=relabel scope env}) s₄) E s₃) E s₂) E s₁) E s):
  wpAny M A (comprehension e scope env pos newAcc false first use) Q E s:=by
 unfold comprehension
 rw[hclos,hcl]
 refine wpAny_bind (wpAny_mono h (λx s₁ h₁=>wpAny_bind (wpAny_standAt (wpAny_bind (wpAny_of_eq (hs x) (wpAny_bind (wpAny_holding (wpAny_mono h₁ (λit s₂ h₂=>wpAny_standIf (wpAny_bind (wpAny_mono h₂ (λacc s₃ h₃=>
  wpAny_bind (wpAny_pure (wpAny_bind (wpAny_mono h₃ (λcenv s₄ h₄=>?_) λ_ _ z=>z)))) λ_ _ z=>z))) λ_ _ z=>z))))))) λ_ _ z=>z)
 dsimp only
 have hv:∀x∈(scope.names.filter λx=>(x.2== .local||x.2== .cell)&&x.1 !=(".0":Str)).reverse,x.2= .local->Env.kindOf {cenv with scope:=relabel scope env} x.1=some .local:=
  λx hx hl=>lookup_relabel_local (hnames x (List.mem_filter.mp (List.mem_reverse.mp hx)).1 hl)
 have hw:∀x∈(scope.names.filter λx=>(x.2== .local||x.2== .cell)&&x.1 !=(".0":Str)).reverse.drop 1++(scope.names.filter λx=>(x.2== .local||x.2== .cell)&&x.1 !=(".0":Str)).reverse.take 1,x.2= .local->Env.kindOf {cenv with scope:=relabel scope env} x.1=some .local:=λx hx hl=>by
  rcases List.mem_append.mp hx with z |z
  .exact hv x (List.mem_of_mem_drop z) hl
  .exact hv x (List.mem_of_mem_take z) hl
 refine wpAny_holding (wpAny_bind (wpAny_attempt (wpAny_holding (wpAny_run (codeAny_mono h₄ λr s' hr=>?_)))))
 cases r with
 |ok f=>
  cases use with
  |none=>
   obtain⟨m,hn,hr⟩:=hr
   exact wpAny_bind (wpAny_holding (wpAny_comp_letGo (cenv:={cenv with scope:=relabel scope env}) hkind _ s' m hv hn λh' m' _ z=>wpAny_pure (hr h' z)))
  |some u=>
   refine wpAny_bind (wpAny_rule (wpAny_bind (wpAny_holding (wpAny_mono hr (λ_ s'' hr'=>?_) λ_ _ z=>z))))
   obtain⟨m,hn,hr'⟩:=hr'
   exact wpAny_bind (wpAny_comp_letGo (cenv:={cenv with scope:=relabel scope env}) hkind _ s'' m hw hn λh' m' _ z=>wpAny_pure (hr' h' z))
 |error x=>
  have hr':∃m,s'.heap.Ns cenv.locals m/\∀h',Heap.SameBut cenv.locals s'.heap h'->wpAny M A (passOn "comprehension.variables-let-go" x {cenv with scope:=relabel scope env}:Sem Value) (λ_ _=>False) E {s' with heap:=h'}:=by cases use<;>exact hr
  obtain⟨m,hn,hr⟩:=hr'
  exact wpAny_bind (wpAny_holding (wpAny_comp_letGo (cenv:={cenv with scope:=relabel scope env}) hkind _ s' m hv hn λh' m' _ z=>wpAny_mono (hr h' z) (λ_ _ f=>f.elim) λ_ _ y=>y))
abbrev blkF(X:Cx)(N':List Str)(scope:Scope)(cl:List (Str×Addr))(C:Addr)(s:Shared)(H:Hp)(fp:List Addr)(F:Value->Shared->Prop):Cx:=(blk X N' scope cl C s H fp).tri F []
section
variable{X:Cx}{pins:List (Addr×Obj)}{σ:St}{H:Hp}{s:Shared}{scope:Scope}{N':List Str}{fp:List Addr}{elt iter tg:Expr}{ifs:List Expr}{pos:Pos}{Kx:St->XK}
theorem comp_runX{R:Value->Env->Result->Shared->Prop}{it:Addr}{tn:Nat->Heap->Prop}{J:It}{E:Value->Shared->Prop}{Q:Addr->Hp->Prop}(hst:X.stack=X.env::X.outer)(hfr:X.env.frame=some X.env.locals)(hc:X.calm=true)(S:CompSc X.env scope)(I:Inv X pins σ H s)
  (T:Turn X.prog X.w X.K tg J fp it tn) (st:tn 0 s.heap) (hf:∀b∈fp,FpOk X pins H b)
  (h:∀(D C:Addr) (s3:Shared) (F:Value->Shared->Prop),H D=none->XOk (blkF X N' scope (closL scope X.env) C s3 (upd H D (.lst [])) fp F) (λ_=>Kx σ)->CompT X (blkF X N' scope (closL scope X.env) C s3 (upd H D (.lst [])) fp F) tg elt ifs J D (capSt N' X.N σ scope) H (Q D))
  (hR:∀(D:Addr) (C:Env) (H':Hp) (s':Shared),H D=none->Q D H'->Inv X pins σ H' s'->FpOk X pins H' C.locals->(∃m,s'.heap.Ns C.locals m)->R (.ref D) C (.ok .next) s')
  (hRx:∀(D:Addr) (C:Env) (H':Hp) (s':Shared) (e t:Addr) (cls:Value) (d:Option Addr×Bool),C.frame=some X.env.locals->Inv X pins σ H' s'->FpOk X pins H' C.locals->(∃m,s'.heap.Ns C.locals m)->Flies s'.heap e cls d (some t) (rawInt X.env.locals)->
   (∀b∈[e,t],(H' b=none/\Ch X pins b)/\b≠C.locals)->Kx σ cls d H'->R (.ref D) C (.error (.ref e)) s'):
  wpAny (model X.prog X.w) X.A (newList []) (λacc s₃=>wpAny (model X.prog X.w) X.A (newFunctionEnv scope X.env.globals (closL scope X.env) [] X.env.qual none .none (some X.env)) (λcenv s₄=>
   codeAny (model X.prog X.w) X.A (.compStart (.ListComp elt [⟨tg,iter,ifs,0⟩] scope pos) 0 (.ref it) acc {cenv with scope:=relabel scope X.env}) (R acc {cenv with scope:=relabel scope X.env}) s₄) E s₃) E s:=by
 refine wpAny_newObj_type ?_
 have hD:H s.heap.objs.size=none:=I.hok.fresh (Nat.le_refl _)
 generalize hs3:({s with heap:=s.heap.push {cls:=.type "list",dict:=none,data:=.seq ([]:List Value).toArray}}:Shared)=s3
 have I3:Inv X pins σ (upd H s.heap.objs.size (.lst [])) s3:=by
  subst hs3
  exact I.laid (t':=s.toks) (λb u e=>Heap.get?_push_of_some _ e) (Nat.le_refl _) ⟨Nat.zero_le _,[],0,.nil,Heap.get?_push_size _ rfl⟩
 have hsz:s3.heap.objs.size=s.heap.objs.size+1:=by subst hs3;exact Heap.size_push ..
 have old3:∀b o,s.heap.get? b=some o->s3.heap.get? b=some o:=λb o e=>by subst hs3;exact Heap.get?_push_of_some _ e
 have fpl:∀b∈fp,b<s.heap.objs.size:=λb hb=>by
  obtain⟨o,e,_⟩:=T.obj _ _ st b hb
  exact Heap.lt_size e
 have hf3:∀b∈fp,FpOk X pins (upd H s.heap.objs.size (.lst [])) b:=λb hb=>⟨by rw[upd_ne (Nat.ne_of_lt (fpl b hb))];exact(hf b hb).1,(hf b hb).2⟩
 have st3:tn 0 s3.heap:=T.keep _ _ _ st λb _ o e=>old3 b o e
 have fpl3:∀b∈fp,b<s3.heap.objs.size:=λb hb=>by rw[hsz];exact Nat.lt_succ_of_lt (fpl b hb)
 refine wpAny_newFunctionEnv S.cell (by intro y hy;simp at hy) (λh₁ hns hsb=>?_) S.kind
 have old4:∀b o,s3.heap.get? b=some o->h₁.get? b=some o:=λb o e=>hsb.extBut b o (Nat.ne_of_lt (Heap.lt_size e)) (Heap.get?_push_of_some _ e)
 generalize hCe:compEnvC scope (closL scope X.env) s3.heap.objs.size X.env=Ce
 have hCl:Ce.locals=s3.heap.objs.size:=by rw[<-hCe];rfl
 have hCf:Ce.frame=some X.env.locals:=by rw[<-hCe];exact hfr
 generalize hB:blk X N' scope (closL scope X.env) s3.heap.objs.size s3 (upd H s.heap.objs.size (.lst [])) fp=B
 generalize hF:notedBy (model X.prog X.w) X.A Ce (λx s'=>R (.ref s.heap.objs.size) Ce (.error x) s')=F
 generalize hs4:({s3 with heap:=h₁,toks:=s3.toks+([]:List (Str×Value)).length}:Shared)=s4
 have I4b:Inv B [] (capSt N' X.N σ scope) (upd H s.heap.objs.size (.lst [])) s4:=by
  subst hs4
  rw[<-hB]
  exact blk_inv S I3 hf3 fpl3 hns old4
 have hpn:B.pn=[]:=by rw[<-hB];rfl
 have toX:∀{pins':List (Addr×Obj)} {τ:St} {H':Hp} {s':Shared},Inv (B.tri F []) pins' τ H' s'->Inv X pins σ H' s':=λ{pins' τ H' s'} J=>by
  have J2:Inv B [] τ H' s':=Inv.untri (X:=B) (pins:=[]) (F:=F) (pins':=pins') I4b.ok (by rw[hpn];exact J)
  rw[<-hB]at J2
  exact blk_end I3 hf3 J2
 have hP:(B.tri F []).prog=X.prog:=by rw[<-hB];rfl
 have hw:(B.tri F []).w=X.w:=by rw[<-hB];rfl
 have hK:(B.tri F []).K=X.K:=by rw[<-hB];rfl
 have hA:(B.tri F []).A=X.A:=by rw[<-hB];rfl
 have hcY:(B.tri F []).calm=true:=by rw[<-hB];exact hc
 have hen:(B.tri F []).env=Ce:=by rw[<-hB, <-hCe];rfl
 have hloc:(B.tri F []).env.locals=s3.heap.objs.size:=by rw[hen,hCl]
 have hex:(B.tri F []).ex=fp:=by rw[<-hB];rfl
 have hs0:(B.tri F []).s₀=s3:=by rw[<-hB];rfl
 have hnst:s3.heap.objs.size∉frs X.stack:=λz=>by
  rcases List.mem_cons.mp (I3.stkSub _ z)with e |e
  .exact Nat.lt_irrefl _ (e▸I3.lt)
  .exact I3.nofs (Nat.le_refl _) e
 have hxY:XOk (B.tri F []) (λ_=>Kx σ):=by
  intro pins' τ H' s' e cls d xa q
  obtain⟨J,tb,fl,Fl,hfl,ch⟩:=xa
  have IX:=toX J
  have chX:∀b∈e::tb.toList,(H' b=none/\Ch X pins b)/\b≠s3.heap.objs.size:=λb hb=>by
   obtain⟨c0,c1,c2,c3⟩:=ch b hb
   rw[hloc]at c2
   rw[hex,hs0]at c1
   refine⟨⟨c0,?_⟩,c2⟩
   rcases c1 with z |z
   .obtain⟨_,g1,_,g3,g4,g5⟩:=hf3 b z
    exact⟨g3,g1,g4,g5⟩
   .exact I3.ch z
  have hfl':(fl==rawInt X.env.locals)=false:=by
   rcases hfl with z |⟨z,_⟩
   .rw[z];simp[rawInt]
   .rw[z,hloc,beq_eq_false_iff_ne]
    intro z2
    simp only[rawInt]at z2
    have z3:((s3.heap.objs.size:Nat):Int)=((X.env.locals:Nat):Int):=by injection z2
    have z4:s3.heap.objs.size=X.env.locals:=Int.ofNat.inj z3
    have z5:=I3.lt
    rw[z4]at z5
    exact Nat.lt_irrefl _ z5
  show F (.ref e) s'
  rw[<-hF]
  have hl:=IX.stack
  rw[hst]at hl
  have en:noteFrame (.ref e) Ce=noteFrame (.ref e) X.env:=by rw[<-hCe];rfl
  show wpAny _ _ (noteFrame (.ref e) Ce) _ _ _
  rw[en]
  refine note_any (base:=X.base) (IX.ok.frames.trans (by rw[hst])) hl hfr Fl hfl' λh' t N hT F'=>?_
  have IN:Inv X pins σ H' {s' with heap:=h'}:=IX.noted (by rw[hst];exact N) λb hb=>(chX b hb).1
  obtain⟨m,hn,_⟩:=J.loc
  rw[hloc]at hn
  have hlt:s3.heap.objs.size<s'.heap.objs.size:=hn.lt
  have hfree:H' s3.heap.objs.size=none:=by
   have :=J.free
   rw[hloc]at this
   exact this
  refine hRx _ Ce H' _ e t cls d hCf IN (by rw[hCl];exact I3.fpOk (Nat.le_refl _) hfree) ⟨m,?_⟩ F' (λb hb=>?_) q
  .rw[hCl]
   obtain⟨o,a1,a2,ho,hr⟩:=hn
   exact⟨o,a1,a2,N.keep _ _ ho (by rw[<-hst];exact hnst) (λz=>(chX _ z).2 rfl),hr⟩
  .rw[hCl]
   rcases List.mem_cons.mp hb with z |z
   .subst z;exact chX _ List.mem_cons_self
   .have z':b=t:=by simpa using z
    subst z'
    exact⟨⟨IX.hok.fresh hT,IX.ch (Heap.get?_none_of_le hT)⟩,λz=>Nat.lt_irrefl _ (Nat.lt_of_lt_of_le hlt (z▸hT))⟩
 have hT:=h s.heap.objs.size s3.heap.objs.size s3 F hD (by rw[<-hB]at hxY;exact hxY)
 rw[show blkF X N' scope (closL scope X.env) s3.heap.objs.size s3 (upd H s.heap.objs.size (.lst [])) fp F=B.tri F []from by rw[<-hB]]at hT
 obtain⟨W,⟨m0,w0⟩,turn⟩:=hT
 have I4:Inv (B.tri F []) [] (capSt N' X.N σ scope) (upd H s.heap.objs.size (.lst [])) s4:=by
  have :=I4b.tri (F:=F)
  rw[hpn]at this
  exact this
 have st4:tn 0 s4.heap:=by
  subst hs4
  exact T.keep _ _ _ st3 λb _ o e=>old4 b o e
 have fpY:∀b∈fp,∀H':Hp,H' b=none->FpOk (B.tri F []) [] H' b:=λb hb H' e=>by
  rw[<-hB]
  refine⟨e,Nat.ne_of_lt (fpl3 b hb),λz=>?_,.inl hb,λx c q=>(hf3 b hb).2.2.2.2.1 x c (S.cl I3 q),λp hp=>absurd (show p∈([]:List (Addr×Obj))from hp) (by simp)⟩
  rcases List.mem_cons.mp (I3.stkSub b z)with e |e
  .exact(hf b hb).2.1 e
  .exact(hf b hb).2.2.1 e
 have loop:codeAny (model X.prog X.w) X.A (.compLoop (.ListComp elt [⟨tg,iter,ifs,0⟩] scope pos) 0 (.ref it) (.ref s.heap.objs.size) Ce) (R (.ref s.heap.objs.size) Ce) s4:=by
  refine compLoop_x (Er:=F) (λn s'=>∃i τ H',Inv (B.tri F []) [] τ H' s'/\tn i s'.heap/\(∀b∈fp,H' b=none)/\W i n τ H') (λx s z=>by rw[<-hF]at z;exact z) ?_ m0 ⟨0,_,_,I4,st4,λb hb=>(hf3 b hb).1,w0⟩
  rintro n s5 ⟨i,τ,H5,I5,st5,fr5,w5⟩
  have toF:∀{α:Type} {t:Sem α} {Q:α->Shared->Prop} {s:Shared},wpAny (model (B.tri F []).prog (B.tri F []).w) (B.tri F []).A t Q (B.tri F []).xe s->wpAny (model X.prog X.w) X.A t Q F s:=λh=>by
   rw[hP,hw,hA]at h;exact h
  rw[<-hen]
  rcases turn i n τ H5 w5 with⟨stop,qn⟩ |⟨go,N,hN,step⟩
  .have q:=T.done (B.tri F []) hP hw hK hcY i [] s5 τ H5 F I5 (λb hb=>fpY b hb _ (fr5 b hb)) st5 stop
   rw[hA]at q
   refine thn q λr s6 ⟨hr,I6⟩=>?_
   subst hr
   refine hR _ _ H5 s6 hD qn (toX I6) ?_ ?_
   .rw[hloc]
    refine I3.fpOk (Nat.le_refl _) ?_
    have :=I6.free
    rw[hloc]at this
    exact this
   .obtain⟨m,hn,_⟩:=I6.loc
    exact⟨m,hn⟩
  .have q:=T.item (B.tri F []) hP hw hK hcY i [] s5 τ H5 F I5 (λb hb=>fpY b hb _ (fr5 b hb)) st5 go
   rw[hA]at q
   refine thn q λr s6 ⟨u,hr,h6⟩=>?_
   subst hr
   refine thn h6 λ_ s7 ⟨x,H7,I7,r7,y7,st7,fr7⟩=>?_
   have I7':=I7.pinned (λb hb=>fpY b hb _ (fr7 b hb)) (T.obj _ _ st7)
   have pinK:∀{τ':St} {H8:Hp} {s8:Shared},Inv (B.tri F []) ([]++pinsAt fp s7.heap) τ' H8 s8->tn (i+1) s8.heap/\∀b∈fp,H8 b=none:=λ{τ' H8 s8} I8=>by
    refine⟨T.keep _ _ _ st7 λb hb o e=>(I8.pin (b,o) (List.mem_append_right _ (List.mem_append_right _ (mem_pinsAt hb e)))).1,λb hb=>?_⟩
    obtain⟨o,e,d⟩:=T.obj _ _ st7 b hb
    exact(I8.pin (b,o) (List.mem_append_right _ (List.mem_append_right _ (mem_pinsAt hb e)))).2.1
   refine toF (thn (step x H7 y7 _ s7 u I7' r7) λ_ s8 ⟨τ8,H8,I8,q8⟩=>?_)
   refine toF (thn (q8 _ s8 I8) λok s9 ⟨H9,I9,q9⟩=>?_)
   cases ok with
   |false=>
    have q9':N τ8 H9:=by simpa using q9
    obtain⟨m',hm,w9⟩:=hN _ _ q9'
    obtain⟨k1,k2⟩:=pinK I9
    show ∃m,_
    exact⟨m',hm,i+1,τ8,H9,I9.unpinned,k1,k2,w9⟩
   |true=>
    have q9':EV (B.tri F []) elt τ8 H9 λy H4=>∃xs,H4 s.heap.objs.size=some (.lst xs)/\xs.length<sizeLine/\N τ8 (upd H4 s.heap.objs.size (.lst (xs++[y]))):=by simpa using q9
    show wpAny _ _ _ _ _ _
    refine toF (thn (q9' _ s9 I9) λz s10 ⟨y,H10,I10,r10,xs,e10,l10,n10⟩=>?_)
    refine toF (thn (mt_append _ s10 τ8 H10 (.ref s.heap.objs.size) [y] _ [z] (λv H11=>v= .non/\H11=upd H10 s.heap.objs.size (.lst (xs++[y]))) I10 rfl (.cons r10 .nil) ⟨_,xs,y,rfl,rfl,e10,l10,rfl,rfl⟩) λ_ s11 ⟨_,H11,I11,_,_,e11⟩=>?_)
    subst e11
    obtain⟨m',hm,w11⟩:=hN _ _ n10
    obtain⟨k1,k2⟩:=pinK I11
    exact⟨m',hm,i+1,τ8,_,I11.unpinned,k1,k2,w11⟩
 rw[<-hCe]at loop
 exact codeAny_compStart_list loop (T.self X.A 0 s4 _ _ st4 loop)
theorem due_error{Q:Value->Shared->Prop}{use:Option (Value->Sem Unit)}(hx:XOk X Kx){acc:Value}{C:Env}{H':Hp}{s':Shared}{e t:Addr}{cls:Value}{d:Option Addr×Bool}(hCf:C.frame=some X.env.locals)(I:Inv X pins σ H' s')(fC:FpOk X pins H' C.locals)(hn:∃m,s'.heap.Ns C.locals m)
  (F:Flies s'.heap e cls d (some t) (rawInt X.env.locals)) (ch:∀b∈[e,t],(H' b=none/\Ch X pins b)/\b≠C.locals) (q:Kx σ cls d H'):compDue (model X.prog X.w) X.A X.xe use Q acc C (.error (.ref e)) s':=by
 obtain⟨m,hn⟩:=hn
 obtain⟨f0,f1,f2,f3,f4,f5⟩:=fC
 have main:∃m,s'.heap.Ns C.locals m/\∀h',Heap.SameBut C.locals s'.heap h'->wpAny (model X.prog X.w) X.A (passOn "comprehension.variables-let-go" (.ref e) C:Sem Value) (λ_ _=>False) X.xe {s' with heap:=h'}:=by
  refine⟨m,hn,λh' hsb=>?_⟩
  have I2:Inv X pins σ H' {s' with heap:=h'}:=I.turned (t':=s'.toks) (λb o hb e=>hsb.extBut b o hb e) f0 f1 f3 f4 f5
  have F2:Flies h' e cls d (some t) (rawInt X.env.locals):=by
   obtain⟨oe,vs,he,hc,hdx,hd,h1,hz,h2,hT⟩:=F
   refine⟨oe,vs,hsb.extBut _ _ (ch e (by simp)).2 he,hc,hdx,hd,h1,hz,h2.stay (λv o ws hv q1 q2=>⟨o,ws,hsb.extBut _ _ (λz=>by
    obtain⟨_,_,_,ho,hdd,_⟩:=hn
    rw[<-z,q1]at ho
    cases ho
    rw[q2]at hdd
    cases hdd) q1,q2,rfl⟩),λT eT=>?_⟩
   cases eT
   obtain⟨hne,oT,ws,t1,t2,t3⟩:=hT t rfl
   exact⟨hne,oT,ws,hsb.extBut _ _ (ch t (by simp)).2 t1,t2,t3⟩
  refine pass_held (s:={s' with heap:=h'}) hCf F2 λh2 N F3=>?_
  refine hx pins σ H' _ e cls d ⟨I2.noted (ch:=[t]) ⟨λb o q _ n=>N.keep b o q (by simp) n,N.slot,N.there⟩ λb hb=>?_,some t,_,F3,.inr ⟨rfl,rfl⟩,λb hb=>(ch b (by simpa using hb)).1⟩ q
  have z:b=t:=by simpa using hb
  subst z
  exact(ch b (by simp)).1
 cases use<;>exact main
theorem ev_compX{Q:VK}(hx:XOk X Kx)(hst:X.stack=X.env::X.outer)(hfr:X.env.frame=some X.env.locals)(hc:X.calm=true)(S:CompSc X.env scope)(hs:∀x,foldedSetIterable iter X.env x=pure x)
  (h:EI X tg iter σ H λJ H1=>∀(fp:List Addr) (D C:Addr) (s3:Shared) (F:Value->Shared->Prop),H1 D=none->XOk (blkF X N' scope (closL scope X.env) C s3 (upd H1 D (.lst [])) fp F) (λ_=>Kx σ)->CompT X (blkF X N' scope (closL scope X.env) C s3 (upd H1 D (.lst [])) fp F) tg elt ifs J D (capSt N' X.N σ scope) H1 (λH'=>Q (.ref D) H')):
  EV X (.ListComp elt [⟨tg,iter,ifs,0⟩] scope pos) σ H Q:=by
 intro pins s I
 rw[eval_ListComp]
 refine comp_due (use:=none) rfl hs (closure_eq (S.has I)) S.kind S.loc (thn (h pins s I) λv s1 h1=>thn h1 λitv s2 h2=>?_)
 obtain⟨it,fp,tn,J,H2,e,I2,T,st2,f2,q2⟩:=h2
 subst e
 refine comp_runX (Kx:=Kx) (R:=λacc C=>compDue (model X.prog X.w) X.A X.xe none (EP X pins σ Q) acc C) (Q:=λD H'=>Q (.ref D) H') hst hfr hc S I2 T st2 f2 (λD C s3 F hD xo=>q2 fp D C s3 F hD xo) (λD C H' s' hD qD IX fC hn=>?_) λD C H' s' e t cls d hCf IX fC hn F ch q=>due_error hx hCf IX fC hn F ch q
 obtain⟨m,hn⟩:=hn
 obtain⟨f0,f1,f2',f3,f4,f5⟩:=fC
 exact⟨m,hn,λh' hsb=>⟨.ref D,H',IX.turned (t':=s'.toks) (λb o hb e=>hsb.extBut b o hb e) f0 f1 f3 f4 f5,rfl,qD⟩⟩
theorem sx_compX{D:Ends}{y:Str}{py spos:Pos}{j:Nat}(hx0:XOk X Kx)(hst:X.stack=X.env::X.outer)(hfr:X.env.frame=some X.env.locals)(hsw:swapsWith (.ListComp elt [⟨tg,iter,ifs,0⟩] scope pos) (some (.Name y py)) spos.line X.env=pure true)(hc:X.calm=true)(S:CompSc X.env scope)(hs:∀x,foldedSetIterable iter X.env x=pure x)
  (hN:X.N.Nodup) (hi:nameAt X.N y=some j) (hx:X.env.scope.names.lookup y=some .local)
  (h:EI X tg iter σ H λJ H1=>∀(fp:List Addr) (E C:Addr) (s3:Shared) (F:Value->Shared->Prop),H1 E=none->XOk (blkF X N' scope (closL scope X.env) C s3 (upd H1 E (.lst [])) fp F) (λ_=>Kx σ)->CompT X (blkF X N' scope (closL scope X.env) C s3 (upd H1 E (.lst [])) fp F) tg elt ifs J E (capSt N' X.N σ scope) H1 (λH'=>D.nx (σ.set j (some (.ref E))) H')):
  SX X (.Assign [.Name y py] (.ListComp elt [⟨tg,iter,ifs,0⟩] scope pos) spos) D σ H:=by
 intro pins s I
 rw[exec_Assign_Name_used _ _ _ _ hsw]
 refine wpAny_bind (wpAny_standAt (wpAny_bind ?_))
 show wpAny _ X.A (do let _<-comprehension (.ListComp elt [⟨tg,iter,ifs,0⟩] scope pos) scope X.env _ (newList []) false (eval iter X.env) (some (assign (.Name y py) X.env))) _ _ s
 refine wpAny_bind (wpAny_mono (comp_due (use:=some (assign (.Name y py) X.env)) (Q:=λ_ s'=>SP X pins D .next s') rfl hs (closure_eq (S.has I)) S.kind S.loc
  (thn (h pins s I) λv s1 h1=>thn h1 λitv s2 h2=>?_)) (λ_ s' hq=>wpAny_pure (wpAny_pure hq)) λ_ _ e=>e)
 obtain⟨it,fp,tn,J,H2,e,I2,T,st2,f2,q2⟩:=h2
 subst e
 refine comp_runX (Kx:=Kx) (R:=λacc C=>compDue (model X.prog X.w) X.A X.xe (some (assign (.Name y py) X.env)) (λ_ s'=>SP X pins D .next s') acc C) (Q:=λE H'=>D.nx (σ.set j (some (.ref E))) H') hst hfr hc S I2 T st2 f2 (λE C s3 F hD xo=>q2 fp E C s3 F hD xo) (λE C H' s' hD qD IX fC hn=>?_)
  λD C H' s' e t cls d hCf IX fC hn F ch q=>due_error hx0 hCf IX fC hn F ch q
 obtain⟨m,hn⟩:=hn
 obtain⟨f0,f1,f2',f3,f4,f5⟩:=fC
 show wpAny _ _ (assign (.Name y py) X.env (.ref E)) _ _ _
 refine wpAny_assign_Name (store_ok2 IX hN (nameAt_get hi) (.inl hx) (v:=.ref E) rfl (λs'' I'' hb=>?_) (.inr hx))
 obtain⟨a,sb,ha⟩:=hb
 have hCa:C.locals≠a:=by
  rcases ha with ha |ha
  .rw[ha];exact f1
  .intro z
   exact f4 y a ha z.symm
 refine⟨m,hn.sameBut sb hCa,λh' hsb=>⟨σ.set j (some (.ref E)),H',I''.turned (t':=s''.toks) (λb o hb e=>hsb.extBut b o hb e) f0 f1 f3 f4 f5,qD⟩⟩
end
section
variable{X:Cx}{a e:Expr}{σ σ':St}{H:Hp}{Q:VK}{D:Ends}{pos spos py p p':Pos}{tg elt iter:Expr}{scope:Scope}{Kx:St->XK}{y:Str}{j:Nat}
def CompX(X:Cx)(N':List Str)(scope:Scope)(tg elt:Expr)(σ σ':St)(Kx:St->XK)(H1:Hp)(Q:VK)(n:Nat)(G:Nat->Hp->V->Hp->Prop):Prop:=
 ∃(Tp:St->Prop) (Pi:Addr->Nat->V->Hp->Prop),Tp σ'/\
  (∀E i v H2 H3 ys,H2 E=some (.lst ys)->(∀b o,b≠E->H2 b=some o->H3 b=some o)->Pi E i v H2->Pi E i v H3)/\
  (∀(fp:List Addr) (E C:Addr) (s3:Shared) (H0:Hp) (F:Value->Shared->Prop) (i:Nat) (τ:St) (x:V) (H2 H3:Hp),XOk (blkF X N' scope (closL scope X.env) C s3 H0 fp F) (λ_=>Kx σ)->H1 E=none->i<n->Tp τ->Same H1 H2->(∃ys,H2 E=some (.lst ys)/\ys.length=i/\∀k v,ys[k]? =some v->Pi E k v H2)->G i H2 x H3->
   EG (blkF X N' scope (closL scope X.env) C s3 H0 fp F) tg x τ H3 λτ2 H4=>EV (blkF X N' scope (closL scope X.env) C s3 H0 fp F) elt τ2 H4 λv H5=>Tp τ2/\Pi E i v H5/\Same H2 H5)/\
  ∀(E:Addr) (H2:Hp) (xs:List V),H1 E=none->xs.length=n->(∀i v,xs[i]? =some v->Pi E i v H2)->H2 E=some (.lst xs)->Same H1 H2->Q (.ref E) H2
theorem comp_anyX{Y:Cx}{tg elt:Expr}{J:It}{E:Addr}{τ0:St}{Q:Hp->Prop}
  (n:Nat) (hn:n≤sizeLine) (Tp:St->Prop) (hT:Tp τ0) (Pi:Nat->V->Hp->Prop) (hE:H E=none)
  (mono:∀i v H1 H2 ys,H1 E=some (.lst ys)->(∀b o,b≠E->H1 b=some o->H2 b=some o)->Pi i v H1->Pi i v H2)
  (go:∀i H1,Same H H1->i<n->J.go i H1) (stop:∀H1,Same H H1->J.stop n H1)
  (step:∀i τ x H1 H2,i<n->Tp τ->Same H H1->(∃ys,H1 E=some (.lst ys)/\ys.length=i/\∀k v,ys[k]? =some v->Pi k v H1)->J.yld i H1 x H2->EG Y tg x τ H2 λτ2 H3=>EV Y elt τ2 H3 λv H4=>Tp τ2/\Pi i v H4/\Same H1 H4)
  (fin:∀H1 xs,xs.length=n->(∀i v,xs[i]? =some v->Pi i v H1)->H1 E=some (.lst xs)->Same H H1->Q H1):CompT X Y tg elt [] J E τ0 H Q:=by
 refine⟨λi m τ H1=>m=n-i/\i≤n/\Same H H1/\Tp τ/\∃xs,H1 E=some (.lst xs)/\xs.length=i/\∀k v,xs[k]? =some v->Pi k v H1,⟨n,by simp,Nat.zero_le _,Same.upd hE,hT,[],upd_same,rfl,λk v e=>by simp at e⟩,?_⟩
 rintro i m τ H1 ⟨rfl,hi,s1,hτ,xs,eE,lx,px⟩
 by_cases hlt:i<n
 .refine .inr ⟨go i H1 s1 hlt,λτ' H'=>Same H H'/\Tp τ'/\∃xs,H' E=some (.lst xs)/\xs.length=i+1/\∀k v,xs[k]? =some v->Pi k v H',λτ' H' ⟨a,b,c⟩=>⟨n-(i+1),by omega,rfl,hlt,a,b,c⟩,λx H2 y=>?_⟩
  intro pins s u I r
  refine thn (step i τ x H1 H2 hlt hτ s1 ⟨xs,eE,lx,px⟩ y pins s u I r) λ_ s' ⟨τ2,H3,I3,q3⟩=>⟨τ2,H3,I3,eifs_nil ?_⟩
  rw[if_pos rfl]
  refine ev_mono q3 λv H4 ⟨t2,pv,s2⟩=>⟨xs,s2 _ _ eE,by omega,?_⟩
  have mm:∀k w',Pi k w' H4->Pi k w' (upd H4 E (.lst (xs++[v]))):=λk w' q=>mono k w' H4 _ xs (s2 _ _ eE) (λb o hb e=>by rw[upd_ne hb];exact e) q
  refine⟨λb o e=>?_,t2,xs++[v],upd_same,by simp[lx],λk u e=>?_⟩
  .rw[upd_ne (ne_of_none e hE)]
   exact s2 _ _ (s1 _ _ e)
  .by_cases hk:k<xs.length
   .rw[List.getElem?_append_left hk]at e
    refine mono k u H1 _ xs eE (λb o hb e=>?_) (px k u e)
    rw[upd_ne hb]
    exact s2 _ _ e
   .have hk2:k=i:=by
     have :=(List.getElem?_eq_some_iff.mp e).1
     rw[List.length_append,List.length_singleton]at this
     omega
    subst hk2
    rw[<-lx,List.getElem?_concat_length]at e
    cases e
    exact mm _ _ pv
 .have e:i=n:=by omega
  subst e
  exact .inl ⟨stop H1 s1,fin H1 xs lx px eE s1⟩
theorem compX{N':List Str}{J:It}{n:Nat}{G:Nat->Hp->V->Hp->Prop}(hn:n≤sizeLine)(go:∀i H2,Same H H2->i<n->J.go i H2)(stop:∀H2,Same H H2->J.stop n H2)
  (yl:∀i H2 x H3,i<n->Same H H2->J.yld i H2 x H3->G i H2 x H3) (h:CompX X N' scope tg elt σ σ' Kx H Q n G):
  ∀(fp:List Addr) (D C:Addr) (s3:Shared) (F:Value->Shared->Prop),H D=none->XOk (blkF X N' scope (closL scope X.env) C s3 (upd H D (.lst [])) fp F) (λ_=>Kx σ)->CompT X (blkF X N' scope (closL scope X.env) C s3 (upd H D (.lst [])) fp F) tg elt [] J D σ' H (λH'=>Q (.ref D) H'):=by
 intro fp E C s3 F hE xo
 obtain⟨Tp,Pi,t0,mono,step,fin⟩:=h
 exact comp_anyX n hn Tp t0 (Pi E) hE (λi v H1 H2 ys=>mono E i v H1 H2 ys) go stop (λi τ x H1 H2 hi ht hs hy y=>step fp E C s3 _ F i τ x H1 H2 xo hE hi ht hs hy (yl i H1 x H2 hi hs y)) λH1 xs l px eE s=>fin E H1 xs hE l px eE s
end
end L2
namespace L2
open PySem PySem.Spec PyProof.Rows
def xcIn(K:PySem.W.Frag)(C L:Addr):Bool:=(PySem.W.clsIn K C).any λcd=>cd.hasDict&&cd.mro== .ref C:: .ref L::bmV
theorem xc_of{K:PySem.W.Frag}{C L:Addr}(h:xcIn K C L=true):∃cd,PySem.W.clsIn K C=some cd/\cd.hasDict=true/\cd.mro= .ref C:: .ref L::bmV:=by
 obtain⟨cd,h1,h2⟩:=PySem.W.any_some h
 rw[Bool.and_eq_true,beq_iff_eq]at h2
 exact⟨cd,h1,h2.1,h2.2⟩
section
variable{prog:Program}{w:World}{A:Around}{E:Value->Shared->Prop}{s:Shared}{K:PySem.W.Frag}{x C L:Addr}{ox:Obj}{vs:Array Value}{name:Str}{v:Value}
theorem x_store{Q:Unit->Shared->Prop}(X:K.In s.heap)(hx:s.heap.get? x=some ox)(hc:ox.cls= .ref C)(hf:ox.data= .fields vs)(hd:ox.dict=none)
  (hs:PySem.W.findIn K (.ref C) "__setattr__"=some (some (.builtin "object.__setattr__"))) (hm:xcIn K C L=true) (ht:PySem.W.takerIn K C name=some none)
  (h:∀h' tk,h'.get? x=some {ox with dict:=some s.heap.objs.size}->h'.Ns1 s.heap.objs.size (λy=>if y=name then some v else none)->(∀b o,b≠x->s.heap.get? b=some o->h'.get? b=some o)->Q () {s with heap:=h',toks:=tk}):
  wpAny (model prog w) A (setAttr (.ref x) name v) Q E s:=by
 obtain⟨cd,hcd,hdc,hmro⟩:=xc_of hm
 have I:PySem.W.InstAt s.heap x ox C none:=⟨hx,hc,by unfold PySem.W.notCls;rw[hf],by rw[hd];trivial⟩
 refine PySem.W.set_plain X I hs ?_
 have SF:=PySem.F.store_object
 have sub:PySem.W.Looks (model prog w) s.heap (isInstance (.ref x) (.type "object")) true:=I.type.andThen (PySem.W.looks_mroIn X (by unfold PySem.W.mroIn;rw[hcd,Option.bind_some,hmro];rfl))
 refine codeAny_call_builtin SF.slot.plain SF.entry (@PySem.W.check_slot (model prog w) _ _ {s with toks:=s.toks+1} "object.__setattr__" "object" "__setattr__" (.ref x) [.str name s.toks,v] [] _ SF.kind SF.split sub (SF.args (.ref x) (.str name s.toks) v) ?_)
 obtain⟨attr,ha,hr⟩:=Option.bind_eq_some_iff.mp ht
 have hmo:PySem.W.Looks (model prog w) s.heap (mroOf (.ref C)) cd.mro:=(PySem.W.looks_clsIn X hcd).andThen .now
 have L3:PySem.W.Looks (model prog w) s.heap (Builtin.ObjectAttr.storeTaker? attr) none:=by
  cases attr with
  |none=>exact .now
  |some a=>
   obtain⟨b,hb,e⟩:=Option.map_eq_some_iff.mp hr
   refine(PySem.W.looks_takesIn X hb).andThen ?_
   cases b
   .exact .now
   .cases e
 rw[PySem.W.osa_eq,refuse_eq]
 refine wpAny_bind (wpAny_bind (PySem.W.Looks.here (s:={s with toks:=s.toks+1}) I.type (wpAny_bind (PySem.W.Looks.here (s:={s with toks:=s.toks+1}) hmo ?_))))
 rw[hmro,refuseLoop_ref,refuseLoop_ref,PySem.F.store_ValueError.passes]
 refine wpAny_pure (wpAny_bind (PySem.W.Looks.here (s:={s with toks:=s.toks+1}) I.type (wpAny_bind (PySem.W.Looks.here (s:={s with toks:=s.toks+1}) (PySem.W.looks_findIn X ha) (wpAny_bind (PySem.W.Looks.here (s:={s with toks:=s.toks+1}) L3 ?_))))))
 obtain⟨oc,od,oda,osl⟩:=ox
 dsimp only at hc hf hd
 subst hc hf hd
 refine wpAny_bind (wpAny_pure (wpAny_bind (wpAny_bind (wpAny_loadPart (s:={s with toks:=s.toks+1}) hx (wpAny_bind (PySem.W.Looks.here (s:={s with toks:=s.toks+1}) (PySem.W.looks_clsIn X hcd) ?_))))))
 rw[hdc]
 rw[if_neg (by decide)]
 show wpAny _ _ (if(!true|| !typeHasDict (Value.ref C))=true then pure none else(alloc {cls:=.type "dict",data:=.dict #[]}>>=λd=>update x (λo=>{o with dict:=some d})>>=λ_=>dictMade (Value.ref C) x d)) _ _ _
 rw[if_neg (by simp[typeHasDict])]
 have hx₁:(s.heap.push {cls:=.type "dict",data:=.dict #[]}).get? x=some {cls:=.ref C,data:=.fields vs,slots:=osl}:=Heap.get?_push_of_some _ hx
 have hxs:x≠s.heap.objs.size:=Nat.ne_of_lt (Heap.lt_size hx)
 refine wpAny_bind (wpAny_alloc (s:={s with toks:=s.toks+1}) ?_)
 refine wpAny_bind (wpAny_update (s:={s with heap:=s.heap.push {cls:=.type "dict",data:=.dict #[]},toks:=s.toks+1}) hx₁ ?_)
 refine wpAny_pure ?_
 have hgd:((s.heap.push {cls:=.type "dict",data:=.dict #[]}).update x λo=>{o with dict:=some s.heap.objs.size}).get? s.heap.objs.size=some {cls:=.type "dict",data:=.dict #[]}:=
  (Heap.get?_update_ne _ _ _ _ hxs.symm).trans (Heap.get?_push_at rfl rfl)
 have hnd:((s.heap.push {cls:=.type "dict",data:=.dict #[]}).update x λo=>{o with dict:=some s.heap.objs.size}).Ns s.heap.objs.size (λ_=>none):=
  ⟨_, #[],_,hgd,rfl,λe he=>absurd he (by simp),λ_=>rfl⟩
 show wpAny _ _ (Builtin.ObjectAttr.storeInDict s.heap.objs.size (.str name s.toks) name v) _ _ _
 unfold Builtin.ObjectAttr.storeInDict Builtin.ObjectAttr.newKeyGuard
 refine wpAny_bind (wpAny_pure (wpAny_bind (wpAny_nsSet1 (s:={s with heap:=(s.heap.push {cls:=.type "dict",data:=.dict #[]}).update x λo=>{o with dict:=some s.heap.objs.size},toks:=s.toks+1}) (Heap.Ns1.of_empty hnd) λh' hn' hs'=>?_)))
 obtain⟨oD,esD,epD,hoD,hdD,hcD⟩:=hn'.count (Within.cons name v Within.nil)
 refine wpAny_bind (wpAny_lookBehind hoD (by rw[hdD];exact pastItsLine_dict (Nat.le_trans hcD (by rw[List.length_cons,List.length_nil,sizeLine_eq];omega))) ?_)
 refine wpAny_pure (h h' _ ?_ hn' λb ob hbx hb=>?_)
 .refine(hs'.2 x hxs).trans (Heap.get?_update_self _ hx₁ rfl)
 .exact(hs'.2 b (Nat.ne_of_lt (Heap.lt_size hb))).trans ((Heap.get?_update_ne _ _ _ _ hbx).trans (Heap.get?_push_of_some _ hb))
end
theorem ns_some_of{K:PySem.W.Frag}{h:Heap}{N:Addr}{mg:Str->Option Value}{n:Str}{v:Value}(X:K.In h)(G:h.Ns N mg)(e:PySem.W.nsIn K N n=some (some v)):mg n=some v:=by
 obtain⟨o,es,ep,ho,hd,_,hf⟩:=G
 unfold PySem.W.nsIn at e
 split at e
 .rename_i c d es' n' sl q
  have :=X _ _ q
  rw[ho]at this
  cases this
  cases hd
  split at e
  .rename_i en he
   cases e
   rw[<-hf]
   unfold nsFind findBy
   rw[<-Array.find?_toList,he]
   rfl
  .split at e<;>cases e
 .cases e
def iniIn(K:PySem.W.Frag)(C f:Addr):Bool:=match K.lookup C with
 |some ⟨.type "type",_,.cls cd,sl⟩=>(match cd.mro,sl.toList with
  | .ref C'::bm,[_,_,_,_,some (.builtin n),_]=>C'==C&&n=="ValueError.__new__"&& !cd.hasDel&&PySem.W.tailIn K bmV bm&&PySem.W.nsOkIn K cd.ns&&PySem.W.nsIn K cd.ns "__init__"==some (some (.ref f))
  |_,_=>false)
 |_=>false
theorem ini_obj{K:PySem.W.Frag}{C f:Addr}{h:Heap}(kin:K.In h)(e:iniIn K C f=true):
  ∃bm N nm q bs hdct sn sub ab col dd k0 k1 k2 k3 k5 mN,h.get? C=some (excClassObj nm q C N bs bm hdct sn sub ab col dd k0 k1 k2 k3 k5 "ValueError.__new__")/\h.Ns N mN/\mN "__init__"=some (.ref f)/\OwnTail h bmV bm:=by
 unfold iniIn at e
 split at e
 .rename_i dd cd sl ho
  split at e
  .rename_i C' bm k0 k1 k2 k3 n k5 hm hs
   simp only[Bool.and_eq_true,beq_iff_eq,Bool.not_eq_true']at e
   obtain⟨⟨⟨⟨⟨e1,e2⟩,e3⟩,e4⟩,e5⟩,e6⟩:=e
   subst e1 e2
   obtain⟨nm,bs,mro,ns,qn,hd,sn,sub,ab,col,del⟩:=cd
   dsimp only at hm e3 e5 e6
   subst hm e3
   have hl:sl= #[k0,k1,k2,k3,some (.builtin "ValueError.__new__"),k5]:=by
    obtain⟨l⟩:=sl
    simp only at hs
    rw[hs]
   subst hl
   have hN:h.Ns ns (h.nsMap ns):=.of_isNs (PySem.W.isNs_of_in kin e5)
   exact⟨bm,ns,nm,qn,bs,hd,sn,sub,ab,col,dd,k0,k1,k2,k3,k5,_,kin _ _ ho,hN,ns_some_of kin hN e6,PySem.W.tail_of_in kin e4⟩
  .cases e
 .cases e
section
variable{prog:Program}{w:World}{A:Around}{E:Value->Shared->Prop}{h:Heap}{g:Array GenState}{d:Drawn}{t:Nat}{os:OsState}
variable{nm q:Str}{C N x:Addr}{bs bm:List Value}{hdct:Bool}{sn:List Str}{sub:List Value}{ab:Bool}{col:Option Bool}{dd:Option Addr}{k0 k1 k2 k3 k5:Option Value}{ox:Obj}{vs:Array Value}{v:Value}
theorem x_init{t0:Addr}{Q:Value->Shared->Prop}(T:OwnTail h bmV bm)(hC:h.get? C=some (excClassObj nm q C N bs bm hdct sn sub ab col dd k0 k1 k2 k3 k5 "ValueError.__new__"))(hx:h.get? x=some {cls:=.ref C,data:=.fields #[.ref t0,.none,.none,.none,.bool false,.none]})
  (hq:∀h' t1,h'.get? x=some {cls:=.ref C,data:=.fields #[.ref t1,.none,.none,.none,.bool false,.none]}->(∀b o,b≠x->h.get? b=some o->h'.get? b=some o)->Q .none ⟨h',g,d,t,os⟩):
  wpAny (model prog w) A (call (.builtin "ValueError.__init__") [.ref x,v]) Q E ⟨h,g,d,t,os⟩:=by
 have F0:=F.excBase_ValueError
 refine wpAny_call (codeAny_call_builtin F0.init.plain F0.initEntry (wpAny_check_init_subT F0 T hC hx rfl ?_))
 wp_walk
 refine hq _ h.objs.size ?_ λb o hb q=>?_
 .rw[Heap.get?_update_self _ (Heap.get?_push_of_some _ hx) rfl]
  rfl
 .rw[Heap.get?_update_other _ _ (Ne.symm hb)]
  exact Heap.get?_push_of_some _ q
theorem type_call_ini{mN:Str->Option Value}{rest:List Value}{fI:Addr}{oI:Obj}{Q:Fin->Shared->Prop}(T:OwnTail h bmV bm)(hC:h.get? C=some (excClassObj nm q C N bs bm hdct sn sub ab col dd k0 k1 k2 k3 k5 "ValueError.__new__"))(hn:h.Ns N mN)(hi:mN "__init__"=some (.ref fI))
  (hfI:h.get? fI=some oI) (hfc:oI.cls= .type "function")
  (hq:∀h' e,Heap.MadeExcOf h h' e (.ref C) rest->wpAny (model prog w) A (call (.ref fI) (.ref e::rest)) (λr s'=>r= .none/\Q (.done (.ret (.ref e))) s') E ⟨h',g,d,t,os⟩) (hrest:rest.length≤sizeLine):
  wpAny (model prog w) A (Builtin.«type.__call__» ⟨.ref C::rest,[]⟩) Q E ⟨h,g,d,t,os⟩:=by
 have F0:=F.excBase_ValueError
 repeat (first |with_reducible refine wpAny_loadPart_at hC ?_ |with_reducible refine wpAny_madeBy_exc hC ?_ |wp_step)
 refine codeAny_call_builtin_code (Code.quiet_builtin _ F0.quiet) (wpAny_check_new_subT F0 T hC ?_)
 refine codeAny_exc_new_subT F0 T hC ?_ hrest
 show wpAny _ _ _ _ _ _
 generalize hh1:(h.push {cls:=.type "tuple",data:=.seq rest.toArray}).push {cls:=.ref C,data:=.fields #[.ref h.objs.size,.none,.none,.none,.bool false,.none]}=h1
 have k1':∀b o,h.get? b=some o->h1.get? b=some o:=λb o e=>by rw[<-hh1];exact Heap.get?_push_of_some _ (Heap.get?_push_of_some _ e)
 have hC₁:=k1' _ _ hC
 have hn₁:h1.Ns N mN:=let⟨o,es,ep,e,r⟩:=hn;⟨o,es,ep,k1' _ _ e,r⟩
 have hget:h1.get? (h.objs.size+1)=some {cls:=.ref C,data:=.fields #[.ref h.objs.size,.none,.none,.none,.bool false,.none]}:=by rw[<-hh1];heap_get
 have hcC:(Value.ref C::bm).contains (.ref C)=true:=by simp
 have T₁:=T.keeps k1'
 unfold isInstance
 repeat (first |with_reducible refine wpAny_loadPart_at hget ?_ |(with_reducible refine wpAny_isSubtype_exc hC₁ ?_;rw[hcC]) |wp_step)
 show wpAny _ _ (typeLookup (.ref C) _) _ _ _
 refine wpAny_typeLookup_tail hC₁ hn₁ T₁ F0.mroIs F0.init.lookup ?_
 rw[hi]
 refine wpAny_holding (wpAny_bind ?_)
 unfold bindSpecial
 refine wpAny_bind (wpAny_typeOf (T:="function") ⟨_,k1' _ _ hfI,hfc⟩ ?_)
 rw[if_pos (by decide)]
 refine wpAny_pure (wpAny_bind (wpAny_mono (hq h1 (h.objs.size+1) ⟨k1',Heap.get?_none_of_le (Nat.le_succ _),h.objs.size,hget,Heap.get?_none_of_le (Nat.le_refl _),?_⟩) (λr s' hr=>?_) λ_ _ x=>x))
 .rw[<-hh1]
  exact Heap.get?_push_of_some _ (Heap.get?_push_at rfl rfl)
 .obtain⟨rfl,hQ⟩:=hr
  wp_walk
  exact hQ
theorem call_ini{mN:Str->Option Value}{rest:List Value}{fI:Addr}{oI:Obj}{Q:Value->Shared->Prop}(T:OwnTail h bmV bm)(hC:h.get? C=some (excClassObj nm q C N bs bm hdct sn sub ab col dd k0 k1 k2 k3 k5 "ValueError.__new__"))(hn:h.Ns N mN)(hi:mN "__init__"=some (.ref fI))
  (hfI:h.get? fI=some oI) (hfc:oI.cls= .type "function")
  (hq:∀h' e,Heap.MadeExcOf h h' e (.ref C) rest->wpAny (model prog w) (A.under (.builtin "type.__call__" ⟨.ref C::rest,[]⟩)) (call (.ref fI) (.ref e::rest)) (λr s'=>r= .none/\Q (.ref e) s') E ⟨h',g,d,t,os⟩) (hrest:rest.length≤sizeLine):
  wpAny (model prog w) A (call (.ref C) rest) Q E ⟨h,g,d,t,os⟩:=by
 have f1:=tc_lookup
 have f2:=tc_bind (.ref C)
 have hT:(⟨h,g,d,t,os⟩:Shared).TypeIs (.ref C) "type":=⟨_,hC,rfl⟩
 refine wpAny_call (codeAny_of_tree ?_)
 show wpAny _ _ (callAny (.ref C) _) _ _ _
 repeat (any_goals (first |assumption |with_reducible refine wpAny_loadPart_at hC ?_ |wp_step))
 refine⟨rfl,?_⟩
 exact codeAny_call_builtin_at (Code.quiet_builtin _ (by decide+kernel)) entry_typeCall (wpAny_check_type_call_sub hC (type_call_ini T hC hn hi hfI hfc hq hrest))
end
section
variable{prog:Program}{w:World}{A:Around}{E:Value->Shared->Prop}{s:Shared}{env:Env}
variable{nm q:Str}{C N:Addr}{bs bm:List Value}{hdct:Bool}{sn:List Str}{sub:List Value}{ab:Bool}{col:Option Bool}{dd:Option Addr}{k0 k1 k2 k3 k5:Option Value}
theorem raise_obj{M:Model}{x:Sem Value}{Q:Flow->Shared->Prop}(hbase:bm.contains (.type "BaseException")=true)(hh:A.handled=none)
  (h:wpAny M A x (λv s₁=>∃e t D,v= .ref e/\s₁.heap.get? C=some (excClassObj nm q C N bs bm hdct sn sub ab col dd k0 k1 k2 k3 k5 "ValueError.__new__")/\
   s₁.heap.get? e=some {cls:=.ref C,dict:=D,data:=.fields #[.ref t,.none,.none,.none,.bool false,.none]}/\E (.ref e) s₁) E s):
  wpAny M A (raiseStmt env (some x) none) Q E s:=by
 have hcB:(Value.ref C::bm).contains (.type "BaseException")=true:=by rw[List.contains_cons,hbase,Bool.or_true]
 unfold raiseStmt
 refine wpAny_bind (wpAny_mono h (λv s₁ h₁=>?_) λ_ _ x=>x)
 obtain⟨e,t,D,rfl,hC,he,hE⟩:=h₁
 obtain⟨hp,g,d,tk,os⟩:=s₁
 repeat (first |with_reducible refine wpAny_loadPart_at he ?_ |with_reducible refine wpAny_loadPart_at hC ?_ |(with_reducible refine wpAny_isSubtype_exc hC ?_;rw[hcB]) |wp_step)
 exact wpAny_raiseNew_none hh hE
end
end L2
namespace L2
open PySem PySem.Spec PyProof.Rows
def xo(e C:Addr)(D:Option Addr):HO:=.ext λh=>∃t,h.get? e=some {cls:=.ref C,dict:=D,data:=.fields #[.ref t,.none,.none,.none,.bool false,.none]}
def dropH(H:Hp)(e:Addr):Hp:=λb=>if b=e then none else H b
theorem dropH_ne{H:Hp}{e b:Addr}(h:b≠e):dropH H e b=H b:=by unfold dropH;rw[if_neg h]
theorem dropH_self{H:Hp}{e:Addr}:dropH H e e=none:=by unfold dropH;rw[if_pos rfl]
theorem xo_ok{P:Program}{w:World}{H:Hp}{h:Heap}{e C t:Addr}{D:Option Addr}(q:h.get? e=some {cls:=.ref C,dict:=D,data:=.fields #[.ref t,.none,.none,.none,.bool false,.none]}):ObjOk P w H h e (xo e C D):=
 ⟨⟨t,q⟩,⟨_,q⟩,λh1 h2 ⟨t,q⟩ k=>⟨t,k _ q⟩⟩
section
variable{X:Cx}{pins:List (Addr×Obj)}{σ:St}{H:Hp}{s:Shared}{e:Addr}{φ:Heap->Prop}
theorem Inv.adopt(I:Inv X pins σ H s)(hn:H e=none)(c:Ch X pins e)(ok:ObjOk X.prog X.w (upd H e (.ext φ)) s.heap e (.ext φ)):Inv X pins σ (upd H e (.ext φ)) s:=by
 have ne:∀b u,H b=some u->b≠e:=λb u q=>ne_of_none q hn
 have :=I.step (h':=s.heap) (H':=upd H e (.ext φ)) (g':=s.gens) (d':=s.drawn) (t':=s.toks) (ch:=[e]) (λb hb=>?_) (λb o _ _ _ q _=>q) (λb o _ _ _ q _=>⟨o.slots,q⟩) (λb o hc _ n=>?_) (λb o _ q=>⟨o,q⟩) (λb xs q=>?_) (λb o u q=>?_) (λb ps q=>?_) (λm q=>q) (λb u q=>?_) I.bare
 .exact this
 .have z:b=e:=by simpa using hb
  subst z
  exact c
 .rw[upd_ne (λz=>hc (by simp[z]))];exact n
 .rw[upd_ne (ne _ _ q)];exact q
 .rw[upd_ne (ne _ _ q)];exact q
 .exact⟨#[],by rw[upd_ne (ne _ _ q),q];simp⟩
 .by_cases z:b=e
  .subst z
   rw[upd_same]at q
   cases q
   exact ok
  .rw[upd_ne z]at q
   exact(I.hok b u q).stay (λ_ _ _ r=>r) (λc r=>by rw[upd_ne (ne _ _ r)];exact r) (λc xs r=>by rw[upd_ne (ne _ _ r)];exact r) λc ob v r=>by rw[upd_ne (ne _ _ r)];exact r
theorem Inv.forget(I:Inv X pins σ H s)(hn:H e=some (.ext φ))(c:Ch X pins e):Inv X pins σ (dropH H e) s:=by
 have :=I.step (h':=s.heap) (H':=dropH H e) (g':=s.gens) (d':=s.drawn) (t':=s.toks) (ch:=[e]) (λb hb=>?_) (λb o _ _ _ q _=>q) (λb o _ _ _ q _=>⟨o.slots,q⟩) (λb o hc _ n=>?_) (λb o _ q=>⟨o,q⟩) (λb xs q=>?_) (λb o u q=>?_) (λb ps q=>?_) (λm q=>q) (λb u q=>?_) I.bare
 .exact this
 .have z:b=e:=by simpa using hb
  subst z
  exact c
 .rw[dropH_ne (λz=>hc (by simp[z]))];exact n
 .rw[dropH_ne (λz=>by rw[z,hn]at q;cases q)];exact q
 .rw[dropH_ne (λz=>by rw[z,hn]at q;cases q)];exact q
 .exact⟨#[],by rw[dropH_ne (λz=>by rw[z,hn]at q;cases q),q];simp⟩
 .by_cases z:b=e
  .subst z
   rw[dropH_self]at q
   cases q
  .rw[dropH_ne z]at q
   exact(I.hok b u q).stay (λ_ _ _ r=>r) (λc r=>by rw[dropH_ne (λz=>by rw[z,hn]at r;cases r)];exact r) (λc xs r=>by rw[dropH_ne (λz=>by rw[z,hn]at r;cases r)];exact r) λc ob v r=>by rw[dropH_ne (λz=>by rw[z,hn]at r;cases r)];exact r
end
structure XBase(K:PySem.W.Frag)(mg:Str->Option Value)(x:Str):Prop where
 at_:mg x=some (.ref (clsA mg x))
 reads:PySem.W.readsIn K (clsA mg x) (.type "type")=true
 ini:PySem.W.findCls K (.ref (clsA mg x)) (.type "type") "__init__"=some (.val (.builtin "ValueError.__init__"))
 ga:PySem.W.specialIn K (.ref (clsA mg x)) "__getattribute__"=some (some (.builtin "type.__getattribute__"))
structure XIni(K:PySem.W.Frag)(mg:Str->Option Value)(Lx x qual fld:Str)(st:Stmt):Prop where
 at_:mg x=some (.ref (clsA mg x))
 ex:∃f fd,Fun K "__init__" qual st f fd/\iniIn K (clsA mg x) f=true/\PySem.W.isFn K (.ref f)=true
 sa:PySem.W.findIn K (.ref (clsA mg x)) "__setattr__"=some (some (.builtin "object.__setattr__"))
 tk:PySem.W.takerIn K (clsA mg x) fld=some none
 xc:xcIn K (clsA mg x) (clsA mg Lx)=true
def spIni(C:Addr)(fld:Str):Sp:=λvs H Q _=>∃e n,vs=[.ref e,.int n]/\n.natAbs<10^60/\H e=some (xo e C none)/\
 ∀D H',D≠e->H D=none->(∀b o,b≠e->H b=some o->H' b=some o)->H' e=some (xo e C (some D))->H' D=some (.xd [(fld,.int n)])->Q .non H'
section
variable{X:Cx}{σ:St}{H:Hp}{Q:VK}{D:Ends}{Lx x f fld:Str}{np apos pos pos' cpos:Pos}{a o value:Expr}{es:List Expr}{Kx:St->XK}
theorem ev_base{pl:Sem Bool}(B:XBase X.K X.mg Lx)(hg:Gl X Lx)(hd:(Lx==("__debug__":Str))=false)(hst:starEach (a::es) X.env=(false,eval a X.env)::starEach es X.env)(hpl:(backTo pos (starEach es X.env)).any (·.1)=false)
  (ht:eval (.Call (.Attribute (.Name Lx np) "__init__" apos) (a::es) [] pos) X.env=(do
   let ov<-eval (.Name Lx np) X.env
   standAt apos.atName
   let(f,first)<-holding [ov] (getMethod ov "__init__" pl)
   callWith pos f first (backTo pos (starEach (a::es) X.env)) (backToKw pos (keywordEach [] X.env))))
  (h:EA X (a::es) σ H λvs H1=>CL X (.builtin "ValueError.__init__") vs H1 Q):EV X (.Call (.Attribute (.Name Lx np) "__init__" apos) (a::es) [] pos) σ H Q:=by
 intro pins s I
 refine PySem.W.methodCall_KW (pl:=pl) (ld_glob I hg B.at_ ?_ hd) ht
 refine PySem.W.method_cls I.kIn B.ga (PySem.W.cls_value I.kIn B.reads B.ini (by decide+kernel) ?_)
 have I1:=I.tok (s.toks+1)
 have h':=h pos pins _ I1
 rw[hst]at h'⊢
 refine Calls.callWith_builtin (by show(false||(backTo pos (starEach es X.env)).any (·.1))=false;rw[hpl];rfl) (Calls.evalArgs_plain ?_)
 refine thn h' λus s2 ⟨vs,H2,I2,r2,c,h1,q2⟩=>?_
 exact h1 pins s2 σ H2 vs us Q I2 r2 q2
theorem c_base{C ff:Addr}{e:Addr}{v:V}(hi:iniIn X.K C ff=true)(he:H e=some (xo e C none))(q:Q .non H):CL X (.builtin "ValueError.__init__") [.ref e,v] H Q:=by
 refine cl_by (r:=λxs H Q=>∃e v,xs=[.ref e,v]/\H e=some (xo e C none)/\Q .non H) ?_ ⟨e,v,rfl,he,q⟩
 intro pins s σ H xs us Q I r h
 obtain⟨e,v,rfl,he,q⟩:=h
 obtain⟨u1,u2,rfl,r1,r2⟩:=vals2 r
 cases(show u1=Value.ref e from r1)
 obtain⟨bm,N,nm,qn,bs,hdct,sn,sub,ab,col,dd,k0,k1,k2,k3,k5,mN,hC,hN,hni,T⟩:=ini_obj I.kIn hi
 obtain⟨⟨t,ht⟩,_,_⟩:=I.hok e _ he
 obtain⟨hp,g,d,tk,os⟩:=s
 refine x_init T hC ht λh' t1 h1 k=>?_
 have hw:=I.write (x:=e) (e:=e) (o:=xo e C none) (h':=h') (t':=tk) (by rw[he];trivial) (.inl rfl) (λb u n q=>k b u n q) ⟨_,h1⟩ (xo_ok h1)
 have hid:upd H e (xo e C none)=H:=by
  funext b
  unfold upd
  split
  .rename_i z;rw[z,he]
  .rfl
 rw[hid]at hw
 exact⟨.non,H,hw,rfl,q⟩
theorem sx_xfld{C L:Addr}(hs:PySem.W.findIn X.K (.ref C) "__setattr__"=some (some (.builtin "object.__setattr__")))(hm:xcIn X.K C L=true)(ht:PySem.W.takerIn X.K C f=some none)
  (hsw:swapsWith value (some (.Attribute o f pos')) pos.line X.env=pure false)
  (h:EV X value σ H λy H1=>EV X o σ H1 λx H2=>∃e,x= .ref e/\H2 e=some (xo e C none)/\∀E',H2 E'=none->E'≠e->D.nx σ (upd (upd H2 E' (.xd [(f,y)])) e (xo e C (some E')))):
  SX X (.Assign [.Attribute o f pos'] value pos) D σ H:=by
 intro pins s I
 refine plainObj_wpAny_Assign_Attribute (thn (h pins s I) λu s1 ⟨y,H1,I1,ry,q⟩=>thn (q pins s1 I1) λov s2 ⟨x,H2,I2,rx,e,ex,he,q2⟩=>?_) hsw
 subst ex
 obtain rfl:ov=Value.ref e:=rx
 obtain⟨⟨t,hte⟩,_,_⟩:=I2.hok e _ he
 refine x_store I2.kIn hte rfl rfl rfl hs hm ht λh' tk g1 g2 g3=>?_
 have hDn:H2 s2.heap.objs.size=none:=I2.hok.fresh (Nat.le_refl _)
 have hDe:s2.heap.objs.size≠e:=λz=>by rw[z]at hDn;rw[hDn]at he;cases he
 have ne:∀b u,H2 b=some u->u≠xo e C none->b≠e:=λb u q n z=>by rw[z,he]at q;cases q;exact n rfl
 have nD:∀b u,H2 b=some u->b≠s2.heap.objs.size:=λb u q=>ne_of_none q hDn
 refine⟨σ,_,?_,q2 s2.heap.objs.size hDn hDe⟩
 refine I2.step (h':=h') (g':=s2.gens) (d':=s2.drawn) (t':=tk) (ch:=[]) (λb hb=>absurd hb (by simp)) (λb o _ _ _ q n=>g3 b o (λz=>by rw[z,he]at n;cases n) q) (λb o _ _ _ q n=>⟨o.slots,g3 b o (λz=>by rw[z,he]at n;cases n) q⟩) (λb o _ q n=>?_) (λb o _ q=>?_) (λb xs q=>?_) (λb o u q=>?_) (λb ps q=>?_) (λm hm'=>?_) (λb u q=>?_) I2.bare
 .rw[upd_ne (λz=>by rw[z,he]at n;cases n),upd_ne (Nat.ne_of_lt (Heap.lt_size q))]
  exact n
 .by_cases z:b=e
  .subst z;exact⟨_,g1⟩
  .exact⟨o,g3 b o z q⟩
 .rw[upd_ne (ne _ _ q (λz=>nomatch z)),upd_ne (nD _ _ q)];exact q
 .rw[upd_ne (ne _ _ q (λz=>nomatch z)),upd_ne (nD _ _ q)];exact q
 .exact⟨#[],by rw[upd_ne (ne _ _ q (λz=>nomatch z)),upd_ne (nD _ _ q),q];simp⟩
 .obtain⟨o,es,ep,ho,r⟩:=hm'
  exact⟨o,es,ep,g3 _ _ (λz=>by have :=I2.free;rw[z,he]at this;cases this) ho,r⟩
 .by_cases z:b=e
  .subst z
   rw[upd_same]at q
   cases q
   exact xo_ok g1
  .rw[upd_ne z]at q
   by_cases z2:b=s2.heap.objs.size
   .subst z2
    rw[upd_same]at q
    cases q
    refine⟨_,g2,λn=>?_⟩
    by_cases hf:n=f
    .subst hf
     simp only[if_true,List.lookup_cons,beq_self_eq_true]
     exact ry
    .rw[if_neg hf,List.lookup_cons,beq_eq_false_iff_ne.mpr hf]
     trivial
   .rw[upd_ne z2]at q
    refine(I2.hok b u q).stay (λc v hc r=>g3 c v ?_ r) (λc r=>?_) (λc xs r=>?_) λc ob v r=>?_
    .rcases hc with y |y
     .rw[y];exact z
     .exact ne _ _ y (λz=>nomatch z)
    .rw[upd_ne (ne _ _ r (λz=>nomatch z)),upd_ne (nD _ _ r)];exact r
    .rw[upd_ne (ne _ _ r (λz=>nomatch z)),upd_ne (nD _ _ r)];exact r
    .rw[upd_ne (ne _ _ r (λz=>nomatch z)),upd_ne (nD _ _ r)];exact r
end
end L2
namespace L2
open PySem PySem.Spec PyProof.Rows
structure XDef(P:Program)(w:World)(K:PySem.W.Frag)(mg:Str->Option Value)(base:Heap)(cc:Bool)(k:Nat)(x fld:Str):Prop where
 at_:mg x=some (.ref (clsA mg x))
 ex:∃f fd ps oc od osl,FnOk P w K mg base (CX1 P w) cc k f fd ps (spIni (clsA mg x) fld)/\Binds K fd ps []/\iniIn K (clsA mg x) f=true/\K.lookup f=some ⟨oc,od,.func fd,osl⟩/\oc= .type "function"
section
variable{prog:Program}{w:World}{A:Around}{E:Value->Shared->Prop}{s:Shared}{env:Env}
variable{nm q:Str}{C N:Addr}{bs bm:List Value}{hdct:Bool}{sn:List Str}{sub:List Value}{ab:Bool}{col:Option Bool}{dd:Option Addr}{k0 k1 k2 k3 k5:Option Value}
theorem raise_ini{mN:Str->Option Value}{fI:Addr}{oI:Obj}{x:Str}{np cpos pos:Pos}{args:List Expr}{Q:Flow->Shared->Prop}
  (hbase:bm.contains (.type "BaseException")=true) (hh:A.handled=none) (hplain:(backTo cpos (starEach args env)).any (·.1)=false) (hi:mN "__init__"=some (.ref fI)) (hfc:oI.cls= .type "function")
  (h:wpAny (model prog w) A (eval (.Name x np) env) (λf s₁=>f= .ref C/\wpAny (model prog w) A (evalArgs (.ref C) true (backTo cpos (starEach args env)) [])
   (λa s₂=>a.kw=[]/\a.pos.length≤sizeLine/\s₂.heap.get? C=some (excClassObj nm q C N bs bm hdct sn sub ab col dd k0 k1 k2 k3 k5 "ValueError.__new__")/\s₂.heap.Ns N mN/\OwnTail s₂.heap bmV bm/\s₂.heap.get? fI=some oI/\
    ∀h' e,Heap.MadeExcOf s₂.heap h' e (.ref C) a.pos->wpAny (model prog w) (A.under (.builtin "type.__call__" ⟨.ref C::a.pos,[]⟩)) (call (.ref fI) (.ref e::a.pos))
     (λr s'=>r= .none/\∃t D,s'.heap.get? C=some (excClassObj nm q C N bs bm hdct sn sub ab col dd k0 k1 k2 k3 k5 "ValueError.__new__")/\
      s'.heap.get? e=some {cls:=.ref C,dict:=D,data:=.fields #[.ref t,.none,.none,.none,.bool false,.none]}/\E (.ref e) s') E {s₂ with heap:=h'}) E s₁) E s):
  wpAny (model prog w) A (exec (.Raise (some (.Call (.Name x np) args [] cpos)) none pos) env) Q E s:=by
 rw[arm_exec_Raise]
 refine wpAny_bind (wpAny_standAt (raise_obj (C:=C) (nm:=nm) (q:=q) (N:=N) (bs:=bs) (bm:=bm) (hdct:=hdct) (sn:=sn) (sub:=sub) (ab:=ab) (col:=col) (dd:=dd) (k0:=k0) (k1:=k1) (k2:=k2) (k3:=k3) (k5:=k5) hbase hh ?_))
 refine wpAny_bind (wpAny_mono (wpAny_Call_ofName (wpAny_mono h (λf s₁ h₁=>?_) λ_ _ x=>x)) (λv s₃ h₃=>wpAny_bind (wpAny_standAt (wpAny_pure h₃))) λ_ _ x=>x)
 obtain⟨rfl,h₁⟩:=h₁
 unfold callWith
 refine wpAny_bind (wpAny_holding (wpAny_mono h₁ (λa s₂ h₂=>wpAny_bind (wpAny_standAt ?_)) λ_ _ x=>x))
 obtain⟨apos,akw⟩:=a
 obtain⟨hkw,hlen,hC,hn,T,hfI,h₂⟩:=h₂
 obtain rfl:akw=[]:=hkw
 obtain⟨hp,g,d,tk,os⟩:=s₂
 simp only[hplain]
 refine wpAny_bind (wpAny_keeperOf_exc hC ?_)
 refine wpAny_bind (call_ini T hC hn hi hfI hfc (λh' e hm=>?_) hlen)
 refine wpAny_mono (h₂ h' e hm) (λr s' hr=>⟨hr.1,?_⟩) λ_ _ z=>z
 obtain⟨t,D,g1,g2,g3⟩:=hr.2
 exact wpAny_bind (wpAny_holding (wpAny_point (wpAny_pure ⟨e,t,D,rfl,g1,g2,g3⟩)))
end
section
variable{X:Cx}{Kx:St->XK}{D:Ends}{σ:St}{H:Hp}{x fld:Str}{np cpos pos:Pos}{e:Expr}{es:List Expr}{cc cc':Bool}{k k':Nat}
theorem sx_raiseI(O:XDef X.prog X.w X.K X.mg X.base cc' k x fld)(hr:Room cc k' X.A)(hk:k+1≤k')(hcc:cc'=true->cc=true)(hx:XOk X Kx)(hc:X.calm=true)(hg:Gl X x)(hd:(x==("__debug__":Str))=false)(he:starEach (e::es) X.env=(false,eval e X.env)::starEach es X.env)
  (hpl:(backTo cpos (starEach es X.env)).any (·.1)=false)
  (h:EA X (e::es) σ H λvs H1=>∃n,vs=[.int n]/\n.natAbs<10^60/\∀E' H',Same H1 H'->H' E'=some (.xd [(fld,.int n)])->Kx σ (.ref (clsA X.mg x)) (some E',true) H'):
  SX X (.Raise (some (.Call (.Name x np) (e::es) [] cpos)) none pos) D σ H:=by
 intro pins s I
 obtain⟨f,fd,ps,oc,od,osl,Fn,hb,hi,hlk,hoc⟩:=O.ex
 obtain⟨bm,N,nm,q,bs,hdct,sn,sub,ab,col,dd,k0,k1,k2,k3,k5,mN,hC,hN,hni,T⟩:=ini_obj I.ok.mod.kin hi
 have hr':Room cc' (k+1) X.A:=(hr.mono hk).calmer hcc
 refine raise_ini (C:=clsA X.mg x) (nm:=nm) (q:=q) (N:=N) (bs:=bs) (bm:=bm) (hdct:=hdct) (sn:=sn) (sub:=sub) (ab:=ab) (col:=col) (dd:=dd) (k0:=k0) (k1:=k1) (k2:=k2) (k3:=k3) (k5:=k5) (mN:=mN) (fI:=f) (oI:=⟨oc,od,.func fd,osl⟩)
  (T.hasType (by decide+kernel)) (I.ok.hd hc) ?_ hni hoc (ld_glob I hg O.at_ ⟨rfl,?_⟩ hd)
 .rw[he]
  show(false||(backTo cpos (starEach es X.env)).any (·.1))=false
  rw[hpl]
  rfl
 .have h':=h cpos pins s I
  rw[he]at h'⊢
  refine Calls.evalArgs_plain (thn h' λus s2 ⟨vs,H1,I2,r,n,ev,hn,kq⟩=>?_)
  subst ev
  obtain⟨u,rfl,ru⟩:=vals1 r
  refine⟨rfl,by show 1≤sizeLine;rw[sizeLine_eq];decide,I2.bk _ _ hC,hN.keeps I2.bk,T.keeps I2.bk,I2.kIn _ _ hlk,λh3 a M=>?_⟩
  obtain⟨t,m1,m2,m3⟩:=M.there
  have hfree:H1 a=none:=I2.hok.free M.new
  have hch:Ch X pins a:=I2.ch M.new
  have I3:Inv X pins σ H1 {s2 with heap:=h3}:=I2.kept (t':=s2.toks) M.keeps
  have I4:Inv X pins σ (upd H1 a (xo a (clsA X.mg x) none)) {s2 with heap:=h3}:=I3.adopt hfree hch (xo_ok m1)
  have rv:Vals [V.ref a,.int n] [Value.ref a,u]:=.cons rfl (.cons ru .nil)
  have hsp:spIni (clsA X.mg x) fld [V.ref a,.int n] (upd H1 a (xo a (clsA X.mg x) none)) (λv H'=>v= .non/\∃E',H' a=some (xo a (clsA X.mg x) (some E'))/\H' E'=some (.xd [(fld,.int n)])/\E'≠a/\∀b o,b≠a->H1 b=some o->H' b=some o) (λ_ _ _=>False):=
   ⟨a,n,rfl,hn,upd_same,λE' H' h1 h2 h3' h4 h5=>⟨rfl,E',h4,h5,h1,λb o hb q=>h3' b o hb (by rw[upd_ne hb];exact q)⟩⟩
  have hl:([Value.ref a,u]:List Value).length=ps.length:=by rw[<-rv.length];exact Fn.len _ _ _ _ hsp
  have hb':=hb {s2 with heap:=h3} [Value.ref a,u] I4.kIn (by simpa using hl)
  rw[List.append_nil]at hb'
  refine wpAny_call (codeAny_mono (Fn.run (X.A.under (.builtin "type.__call__" ⟨.ref (clsA X.mg x)::[u],[]⟩)) X.stack {s2 with heap:=h3} _ ⟨[Value.ref a,u],[]⟩ [Value.ref a,u] [V.ref a,.int n] _ (λ_ _ _=>False) (hr'.make (clsA X.mg x) [u] [])
   (I4.env0.make (clsA X.mg x) [u] []) hb' rv hsp) λr s' hq=>?_)
  cases r with
  |error e=>exact(CX1.never hq).elim
  |ok fl=>
   cases fl with
   |ret v=>
    obtain⟨v',H',I5,rr,ev,E',g1,g2,g3,g4⟩:=I4.after hq
    subst ev
    obtain⟨⟨t',ht'⟩,_,_⟩:=I5.hok a _ g1
    have I6:=I5.forget g1 hch
    refine⟨rr,t',some E',I5.bk _ _ hC,ht',?_⟩
    refine hx pins σ _ s' a _ (some E',true) ⟨I6,none,.none,⟨_,_,ht',rfl,rfl,rfl,rfl,by simp,Ctx.yes rfl,λT z=>nomatch z⟩,.inl rfl,λb hb=>?_⟩ (kq E' _ (λb o q=>?_) ?_)
    .have z:b=a:=by simpa using hb
     subst z
     exact⟨dropH_self,hch⟩
    .have hba:b≠a:=ne_of_none q hfree
     rw[dropH_ne hba]
     exact g4 b o hba q
    .rw[dropH_ne g3]
     exact g2
   |next=>exact False.elim hq
   |brk=>exact False.elim hq
   |cont=>exact False.elim hq
end
end L2
namespace L2
open PySem PySem.Spec PyProof.Rows
structure XAttr(K:PySem.W.Frag)(C:Addr):Prop where
 hd:PySem.W.hasDictIn K C=true
 ga:PySem.W.findIn K (.ref C) "__getattribute__"=some (some (.builtin "BaseException.__getattribute__"))
 gt:PySem.W.findIn K (.ref C) "__getattr__"=some none
 cl:PySem.W.findIn K (.ref C) "__class__"=some (some (.builtin "object.__class__"))
 cg:PySem.W.specialIn K (.builtin "object.__class__") "__get__"=some (some (.builtin "getset_descriptor.__get__"))
 ct:PySem.W.takesIn K (.builtin "object.__class__")=some true
 mo:PySem.W.mroIn K C (.type "object")=some true
 mb:PySem.W.mroIn K C (.type "BaseException")=some true
section
variable{prog:Program}{w:World}{A:Around}{E:Value->Shared->Prop}{s:Shared}{K:PySem.W.Frag}{x C:Addr}{ox:Obj}{od:Option Obj}{name:Str}{v:Value}
theorem x_ga{tk:Tok}{fill expr:Bool}{Q:Value->Shared->Prop}(X:K.In s.heap)(I:PySem.W.InstAt s.heap x ox C od)(c:XAttr K C)
  (h:wpAny (model prog w) A.in1 (Builtin.«object.__getattribute__» ⟨[.ref x,.str name tk],[]⟩) (λfin s'=>match fin with
   | .done (.ret v)=>wpAny (model prog w) A (handedOut v) Q E s'
   |_=>False) (λ_ _=>False) s):wpAny (model prog w) A (getAttrBy (.ref x) (.str name tk) fill expr) Q E s:=by
 have FB:=F.attrBase_ValueError
 have sub:PySem.W.Looks (model prog w) s.heap (isInstance (.ref x) (.type "BaseException")) true:=I.type.andThen (PySem.W.looks_mroIn X c.mb)
 unfold getAttrBy
 refine wpAny_holding (wpAny_bind (I.type.here (wpAny_bind ((PySem.W.looks_findIn X c.ga).here ?_))))
 dsimp only
 have hx2:(Value.builtin "BaseException.__getattribute__"==Value.builtin "object.__getattribute__")=false:=by decide+kernel
 rw[if_neg (by rw[hx2,Bool.and_false];exact Bool.false_ne_true)]
 unfold getAttrByItsOwn hookBefore
 rw[if_pos (show onTheHeap (Value.ref C)=true from rfl)]
 refine wpAny_bind ((PySem.W.looks_findIn X c.gt).here ?_)
 refine wpAny_bind (wpAny_attempt (wpAny_holding ?_))
 unfold callGetattribute
 rw[if_neg (by cases expr<;>exact Bool.false_ne_true)]
 unfold boundAndCalled
 rw[FB.ga.bind]
 refine wpAny_bind (wpAny_pure (wpAny_call (codeAny_call_builtin FB.ga.plain F.entry_bexc_ga (@PySem.W.check_slot (model prog w) _ _ s "BaseException.__getattribute__" "BaseException" "__getattribute__" (.ref x) [.str name tk] [] _ (by decide+kernel) (by decide+kernel) sub (F.args_bexc_ga _ _) ?_))))
 refine wpAny_mono h (λfin s' z=>?_) λ_ _ z=>z.elim
 rcases fin with(_ |_ |_ |_) |_<;>first |exact z |exact z.elim
theorem x_val{tk:Tok}{Q:Fin->Shared->Prop}(X:K.In s.heap)(I:PySem.W.InstAt s.heap x ox C od)(hf:PySem.W.findObj K C od name=some (.value v))(h:Q (.done (.ret v)) s):
  wpAny (model prog w) A (Builtin.«object.__getattribute__» ⟨[.ref x,.str name tk],[]⟩) Q E s:=by
 have L1:=PySem.W.looks_find (M:=model prog w) X I hf
 unfold Builtin.«object.__getattribute__»
 refine wpAny_bind (wpAny_pure ?_)
 dsimp only
 refine wpAny_bind (wpAny_pure (wpAny_bind (I.type.here (wpAny_bind (L1.here ?_)))))
 exact wpAny_pure h
theorem findObj_bind{a g:Value}(hc:(PySem.W.clsIn K C).isSome=true)(ha:PySem.W.findIn K (.ref C) name=some (some a))(hg:PySem.W.specialIn K a "__get__"=some (some g))(ht:PySem.W.takesIn K a=some true):PySem.W.findObj K C od name=some (.bind g a):=by
 obtain⟨cd,hc⟩:=Option.isSome_iff_exists.mp hc
 unfold PySem.W.findObj
 rw[hc,Option.bind_some,ha,Option.bind_some]
 simp[hg,ht]
theorem x_class{Q:Option Value->Shared->Prop}(X:K.In s.heap)(I:PySem.W.InstAt s.heap x ox C od)(c:XAttr K C)(h:Q (some (.ref C)) {s with toks:=s.toks+1}):wpAny (model prog w) A (getAttr? (.ref x) "__class__") Q E s:=by
 have hf:PySem.W.findObj K C od "__class__"=some (.bind (.builtin "getset_descriptor.__get__") (.builtin "object.__class__")):=findObj_bind (by obtain⟨cd,hc,_⟩:=PySem.W.any_some c.hd;rw[hc];rfl) c.cl c.cg c.ct
 have L1:=PySem.W.looks_find (M:=model prog w) X I hf
 unfold getAttr? getAttrBy?
 refine wpAny_bind (wpAny_mkText (wpAny_bind (wpAny_attempt (x_ga (s:={s with toks:=s.toks+1}) X I c ?_))))
 unfold Builtin.«object.__getattribute__»
 refine wpAny_bind (wpAny_pure ?_)
 dsimp only
 refine wpAny_bind (wpAny_pure (wpAny_bind (PySem.W.Looks.here (s:={s with toks:=s.toks+1}) I.type (wpAny_bind (PySem.W.Looks.here (s:={s with toks:=s.toks+1}) L1 ?_)))))
 show wpAny _ _ (holding [.builtin "object.__class__"] (call (.builtin "getset_descriptor.__get__") [.builtin "object.__class__",.ref x,.ref C])>>=ret) _ _ _
 refine wpAny_bind (wpAny_holding (wpAny_call (PySem.W.class_get (s:={s with toks:=s.toks+1}) X I c.mo (wpAny_pure ?_))))
 exact PySem.W.handed_on rfl (wpAny_pure h)
theorem kitx_x(c:XAttr K C):PySem.W.KitX K (.ref x) (.ref C) (λh=>∃ox od,PySem.W.InstAt h x ox C od)where
 ty:=λ_ _ _ ⟨_,_,I⟩=>I.type
 it:=λ_ _ X _=>by
  obtain⟨cdD,hcD,_⟩:=PySem.W.any_some c.hd
  unfold PySem.W.clsIn at hcD
  split at hcD
  .rename_i c' d' cd' sl' ho
   intro A' Q' E' s' k q
   unfold isType loadHead
   exact wpAny_bind (wpAny_loadPart (k _ _ (X _ _ ho)) (wpAny_pure q))
  .cases hcD
 ne:=λh tp dd its n sl X htp=>by
  obtain⟨cdD,hcD,_⟩:=PySem.W.any_some c.hd
  refine Bool.eq_false_iff.mpr λq=>?_
  have e:C=tp:=Value.ref.inj (beq_iff_eq.mp q)
  subst e
  unfold PySem.W.clsIn at hcD
  split at hcD
  .rename_i c' d' cd' sl' ho
   have z:=(X _ _ ho).symm.trans htp
   cases z
  .cases hcD
 ca:=λX ⟨_,_,I⟩ k=>x_class X I c k
end
def xw(e C:Addr)(D:Option Addr):HO:=.ext λh=>∃oe vs,h.get? e=some oe/\oe.cls= .ref C/\oe.dict=D/\oe.data= .fields vs
theorem xw_ok{P:Program}{w:World}{H:Hp}{h:Heap}{e C:Addr}{D:Option Addr}{oe:Obj}{vs:Array Value}(q:h.get? e=some oe)(hc:oe.cls= .ref C)(hd:oe.dict=D)(hf:oe.data= .fields vs):ObjOk P w H h e (xw e C D):=
 ⟨⟨oe,vs,q,hc,hd,hf⟩,⟨_,q⟩,λh1 h2 ⟨oe,vs,q,r⟩ k=>⟨oe,vs,k _ q,r⟩⟩
section
variable{X:Cx}{σ:St}{H:Hp}{Q:VK}{e C:Addr}{D:Option Addr}{k:Bool}
theorem Inv.inst{pins:List (Addr×Obj)}{s:Shared}(I:Inv X pins σ H s)(he:H e=some (xw e C D))(hd:∀E',D=some E'->∃fs,H E'=some (.xd fs)):∃ox od,PySem.W.InstAt s.heap e ox C od/\∀E' fs,D=some E'->H E'=some (.xd fs)->∃o,od=some o/\∃mA:Str->Option Value,(∀f,RelO (fs.lookup f) (mA f))/\∀n,PySem.W.lookIn n o=some (mA n):=by
 obtain⟨⟨oe,vs,q,hc,hdd,hf⟩,_,_⟩:=I.hok e _ he
 cases D with
 |none=>exact⟨oe,none,⟨q,hc,by unfold PySem.W.notCls;rw[hf],by rw[hdd];trivial⟩,λE' fs z=>nomatch z⟩
 |some E'=>
  obtain⟨fs,h1⟩:=hd E' rfl
  obtain⟨mA,hns,hr⟩:=I.hok E' _ h1
  obtain⟨o,ho,hl⟩:=lookIn_ns hns
  refine⟨oe,some o,⟨q,hc,by unfold PySem.W.notCls;rw[hf],by rw[hdd];exact ho⟩,λE2 fs2 z z2=>?_⟩
  cases z
  rw[h1]at z2
  cases z2
  exact⟨o,rfl,mA,hr,hl⟩
theorem c_isX{c:V}{u:Value}(ca:XAttr X.K C)(he:H e=some (xw e C D))(hd:∀E',D=some E'->∃fs,H E'=some (.xd fs))(hu:∀u',RelV c u'->u'=u)(ek:PySem.W.kitOne X.K (.ref C) u=some k)(q:Q (.bl k) H):CL X (.builtin "isinstance") [.ref e,c] H Q:=by
 refine cl_by (r:=λxs H Q=>xs=[.ref e,c]/\H e=some (xw e C D)/\(∀E',D=some E'->∃fs,H E'=some (.xd fs))/\Q (.bl k) H) ?_ ⟨rfl,he,hd,q⟩
 intro pins s σ H xs us Q I r h
 obtain⟨rfl,he,hd,q⟩:=h
 obtain⟨u1,u2,rfl,r1,r2⟩:=vals2 r
 cases(show u1=Value.ref e from r1)
 rw[hu u2 r2]
 obtain⟨ox,od,J,_⟩:=I.inst he hd
 exact PySem.W.kia_one (kitx_x ca) I.kIn ⟨ox,od,J⟩ ek (λz=>nomatch z) λtk=>⟨.bl k,H,I.tok tk,rfl,q⟩
theorem ev_xfld{o:Expr}{f:Str}{pos:Pos}{E':Addr}{v:V}{fs:List (Str×V)}(hb:attributeBase o f X.env (eval o X.env)=eval o X.env)(ca:XAttr X.K C)(hn:PySem.W.findIn X.K (.ref C) f=some none)
  (hv:∀u,RelV v u->PySem.W.handedIn u=true)
  (h:EV X o σ H λy H1=>y= .ref e/\H1 e=some (xw e C (some E'))/\H1 E'=some (.xd fs)/\fs.lookup f=some v/\Q v H1):EV X (.Attribute o f pos) σ H Q:=by
 intro pins s I
 refine attr_of hb (thn (h pins s I) λu s1 ⟨y,H1,I1,ry,ey,he,hE,hl,q⟩=>?_)
 subst ey
 obtain rfl:u=Value.ref e:=ry
 obtain⟨ox,od,J,g⟩:=I1.inst he λE2 z=>⟨fs,by cases z;exact hE⟩
 obtain⟨o',rfl,mA,hr,hlk⟩:=g E' fs rfl hE
 have hr':=hr f
 rw[hl]at hr'
 cases hm:mA f with
 |none=>rw[hm]at hr';cases hr'
 |some v'=>
  rw[hm]at hr'
  have hr2:RelV v v':=hr'
  unfold getAttr
  refine wpAny_bind (wpAny_mkText (x_ga (s:={s1 with toks:=s1.toks+1}) I1.kIn J ca (x_val (s:={s1 with toks:=s1.toks+1}) I1.kIn J (PySem.W.findObj_own ca.hd hn rfl (by rw[hlk,hm])) ?_)))
  exact PySem.W.handed_on (hv v' hr2) ⟨v,H1,I1.tok _,hr2,q⟩
end
end L2
namespace L2
open PySem PySem.Spec PyProof.Rows
section
variable{X:Cx}{pins:List (Addr×Obj)}{σ:St}{H:Hp}{s:Shared}{h':Heap}
theorem Inv.relocal{n:Str}{i:Nat}{m m':Str->Option Value}{t':Nat}(I:Inv X pins σ H s)(hN:X.N.Nodup)(hi:X.N[i]? =some n)(hσ:σ[i]? =some none)
  (hl:∀(i:Nat) (x:Str) (v:V),X.N[i]? =some x->σ[i]? =some (some v)->Vis X.env.scope x->∃u,RelV v u/\Look X.env s.heap m x u)
  (hn:h'.Ns X.env.locals m') (ag:∀x,x≠n->m' x=m x) (sb:∀b o,b≠X.env.locals->s.heap.get? b=some o->h'.get? b=some o) (hL:∃o,h'.get? X.env.locals=some o):Inv X pins σ H {s with heap:=h',toks:=t'}:=by
 have neL:∀b o,X.s₀.heap.get? b=some o->b≠X.env.locals:=λb o e=>Nat.ne_of_lt (Nat.lt_of_lt_of_le (Heap.lt_size e) I.ok.above)
 have cellK:∀x c,X.env.cells.lookup x=some c->∀v,s.heap.IsCell c v->h'.IsCell c v:=λx c e v ⟨o,ho,hd⟩=>⟨o,sb c o (I.cne x c e) ho,hd⟩
 refine⟨I.ok,I.os,I.bare,⟨λb o e n hb hx=>sb b o (neL b o e) (I.base.keep b o e n hb hx),λb o e n hb hx=>?_,I.base.free,λb o e hx=>?_,I.base.tups,I.base.frzs,I.base.tbls⟩,⟨m',hn,λj x v e1 e2 e3=>?_⟩,λx c e=>?_,I.free,I.freeC,λp hp=>?_,λb u e=>?_,I.len⟩
 .obtain⟨sl,e1⟩:=I.base.slot b o e n hb hx
  exact⟨sl,sb b _ (neL b o e) e1⟩
 .obtain⟨o',e1⟩:=I.base.there b o e hx
  exact⟨o',sb b o' (neL b o e) e1⟩
 .obtain⟨u,r,l⟩:=hl j x v e1 e2 e3
  refine⟨u,r,?_⟩
  have hne:x≠n:=λz=>by
   subst z
   have :=nodup_ix hN e1 hi
   subst this
   rw[hσ]at e2
   cases e2
  rcases l with l |⟨k,c,e,z⟩
  .exact .inl ⟨l.1,by rw[ag x hne];exact l.2⟩
  .exact .inr ⟨k,c,e,cellK x c e _ z⟩
 .obtain⟨v,z⟩:=I.cell x c e
  exact⟨v,cellK x c e v z⟩
 .obtain⟨e,n,ne,nf,d⟩:=I.pin p hp
  exact⟨sb _ _ ne e,n,ne,nf,d⟩
 .refine(I.hok b u e).stay (λc v hc q=>sb c v ?_ q) (λ_ q=>q) λ_ _ q=>q
  rcases hc with z |z
  .rw[z];exact ne_of_none e I.free
  .exact ne_of_none z I.free
end
section
variable{X:Cx}{D:Ends}{σ:St}{H:Hp}{rest:List ExceptHandler}{suite:List Stmt}{b₀:Stmt}{pos np:Pos}{x n:Str}{c:Value}{C:Addr}{d:Option Addr×Bool}{i:Nat}
abbrev asEnds(D:Ends)(i:Nat)(e C:Addr)(dd:Option Addr):Ends:=
 {nx:=λσ' H'=>H' e=some (xw e C dd)/\D.nx (σ'.set i none) (dropH H' e),rt:=λv H'=>H' e=some (xw e C dd)/\D.rt v (dropH H' e),
  bk:=λσ' H'=>H' e=some (xw e C dd)/\D.bk (σ'.set i none) (dropH H' e),ct:=λσ' H'=>H' e=some (xw e C dd)/\D.ct (σ'.set i none) (dropH H' e)}
end
end L2
namespace L2
open PySem PySem.Spec PyProof.Rows
structure XTop(K:PySem.W.Frag)(mg:Str->Option Value)(x:Str):Prop extends XBase K mg x where
 ty:PySem.W.typeIn K (.ref (clsA mg x))=some (.type "type")
 mb:PySem.W.mroIn K (clsA mg x) (.type "BaseException")=some true
structure XC(K:PySem.W.Frag)(mg:Str->Option Value)(Lx x:Str):Prop where
 at_:mg x=some (.ref (clsA mg x))
 xc:xcIn K (clsA mg x) (clsA mg Lx)=true
 ty:PySem.W.typeIn K (.ref (clsA mg x))=some (.type "type")
 attr:XAttr K (clsA mg x)
section
variable{K:PySem.W.Frag}{mg:Str->Option Value}{Lx x y:Str}
theorem xc_mro(h:XC K mg Lx x)(v:Value):PySem.W.mroIn K (clsA mg x) v=some ((Value.ref (clsA mg x):: .ref (clsA mg Lx)::bmV).contains v):=by
 obtain⟨cd,h1,_,h2⟩:=xc_of h.xc
 unfold PySem.W.mroIn
 rw[h1,Option.bind_some,h2]
 rfl
theorem XC.cls(h:XC K mg Lx x):(PySem.W.clsIn K (clsA mg x)).isSome=true:=by
 obtain⟨cd,h1,_,h2⟩:=xc_of h.xc
 rw[h1]
 rfl
theorem XTop.cls(h:XTop K mg x):(PySem.W.clsIn K (clsA mg x)).isSome=true:=by
 have :=h.mb
 unfold PySem.W.mroIn at this
 cases e:PySem.W.clsIn K (clsA mg x)with
 |none=>rw[e]at this;cases this
 |some cd=>rfl
theorem kit_cls_of{C:Addr}(t:Value)(h1:(PySem.W.clsIn K C).isSome=true)(h2:PySem.W.typeIn K (.ref C)=some (.type "type")):PySem.W.kitCls K t (.ref C)=PySem.W.subIn K t (.ref C):=by
 show(if((PySem.W.clsIn K C).isSome&&PySem.W.typeIn K (.ref C)==some (.type "type"))=true then PySem.W.subIn K t (.ref C)else none)=_
 rw[if_pos]
 rw[h1,h2]
 rfl
theorem xc_other(h:XC K mg Lx x)(g:XC K mg Lx y)(ne:clsA mg x≠clsA mg y)(nl:clsA mg Lx≠clsA mg y):PySem.W.subIn K (.ref (clsA mg x)) (.ref (clsA mg y))=some false:=by
 show PySem.W.mroIn K (clsA mg x) (.ref (clsA mg y))=some false
 rw[xc_mro h]
 have e1:(Value.ref (clsA mg y)==Value.ref (clsA mg x))=false:=beq_eq_false_iff_ne.mpr λz=>ne (Value.ref.inj z).symm
 have e2:(Value.ref (clsA mg y)==Value.ref (clsA mg Lx))=false:=beq_eq_false_iff_ne.mpr λz=>nl (Value.ref.inj z).symm
 rw[List.contains_cons,e1,List.contains_cons,e2]
 rfl
theorem xc_self(h:XC K mg Lx x):PySem.W.subIn K (.ref (clsA mg x)) (.ref (clsA mg x))=some true:=by
 show PySem.W.mroIn K (clsA mg x) (.ref (clsA mg x))=some true
 rw[xc_mro h,List.contains_cons,beq_self_eq_true]
 rfl
theorem xc_top(h:XC K mg Lx x):PySem.W.subIn K (.ref (clsA mg x)) (.ref (clsA mg Lx))=some true:=by
 show PySem.W.mroIn K (clsA mg x) (.ref (clsA mg Lx))=some true
 rw[xc_mro h,List.contains_cons,List.contains_cons,beq_self_eq_true]
 cases(Value.ref (clsA mg Lx)==Value.ref (clsA mg x))<;>rfl
theorem kit_other(h:XC K mg Lx x)(g:XC K mg Lx y)(ne:clsA mg x≠clsA mg y)(nl:clsA mg Lx≠clsA mg y):PySem.W.kitOne K (.ref (clsA mg x)) (.ref (clsA mg y))=some false:=by
 unfold PySem.W.kitOne
 rw[if_neg (by rw[beq_eq_false_iff_ne.mpr λz=>ne (Value.ref.inj z)];exact Bool.false_ne_true),kit_cls_of _ g.cls g.ty]
 exact xc_other h g ne nl
theorem kit_self(h:XC K mg Lx x):PySem.W.kitOne K (.ref (clsA mg x)) (.ref (clsA mg x))=some true:=by
 unfold PySem.W.kitOne
 rw[if_pos (beq_self_eq_true _)]
theorem kit_ve(h:XC K mg Lx x):PySem.W.kitOne K (.ref (clsA mg x)) (.type "ValueError")=some true:=by
 unfold PySem.W.kitOne
 rw[if_neg (by rw[beq_eq_false_iff_ne.mpr λz=>by cases z];exact Bool.false_ne_true)]
 show(if PySem.W.kitMeta "ValueError"=true then PySem.W.subIn K (.ref (clsA mg x)) (.type "ValueError")else none)=some true
 rw[if_pos (by decide+kernel)]
 show PySem.W.mroIn K (clsA mg x) (.type "ValueError")=some true
 rw[xc_mro h]
 rfl
theorem exm_is(g:XC K mg Lx y)(v:Value):PySem.W.exmOne K v (.ref (clsA mg y))=PySem.W.subIn K v (.ref (clsA mg y)):=by
 unfold PySem.W.exmOne
 have e:PySem.W.subIn K (.ref (clsA mg y)) (.type "BaseException")=some true:=by
  show PySem.W.mroIn K (clsA mg y) (.type "BaseException")=some true
  rw[xc_mro g]
  rfl
 rw[e,if_pos (by decide),kit_cls_of _ g.cls g.ty]
theorem exm_self(h:XC K mg Lx x):PySem.W.exmOne K (.ref (clsA mg x)) (.ref (clsA mg x))=some true:=by rw[exm_is h];exact xc_self h
theorem exm_top(h:XC K mg Lx x)(b:XTop K mg Lx):PySem.W.exmOne K (.ref (clsA mg x)) (.ref (clsA mg Lx))=some true:=by
 unfold PySem.W.exmOne
 have e:PySem.W.subIn K (.ref (clsA mg Lx)) (.type "BaseException")=some true:=b.mb
 rw[e,if_pos (by decide),kit_cls_of _ b.cls b.ty]
 exact xc_top h
end
theorem xdef_of{P:Program}{w:World}{K:PySem.W.Frag}{mg:Str->Option Value}{base:Heap}{cc:Bool}{k:Nat}{Lx x qual fld:Str}{st:Stmt}{ps N:List Str}(O:XIni K mg Lx x qual fld st)(S:FnScope N ps (defScope st))
  (hb:∀(kV doc pm:Value) (an:Option Addr) (cdv ct:Value) (us:List Value),us.length=ps.length->bindArgs (PySem.W.fnOf "__init__" qual (defArgs st) (defBody st) (defScope st) .none kV doc pm an cdv ct) ⟨us,[]⟩=pure (ps.zip us))
  (len:ps.length=2)
  (body:∀(f:Addr) (cdv:Value) (A:Around) (outer:List Env) (s:Shared) (H:Hp) (vs:List V) (Q:VK) (E:XK),iniIn K (clsA mg x) f=true->Room cc k (A.deeper (envOfC qual (defScope st) s.heap.objs.size f cdv))->spIni (clsA mg x) fld vs H Q E->
   SXs (CxF cc P w K mg base N qual (defScope st) f cdv A outer s H E) (defBody st) {nx:=λ_ H'=>Q .non H',rt:=Q} (start N vs) H):XDef P w K mg base cc (k+1) x fld:=by
 obtain⟨f,fd,F,h1,h2⟩:=O.ex
 obtain⟨oc,od,kV,doc,pm,an,cdv,ct,osl,e,lk,hcd⟩:=id F.ex
 refine⟨O.at_,f,fd,ps,oc,od,osl,fn_sx F S (λvs H Q E h=>by obtain⟨a,n,rfl,_⟩:=h;exact len.symm) λcdv A outer s H vs Q E hr h=>body f cdv A outer s H vs Q E h1 hr h,F.binds hb,h1,lk,?_⟩
 have h3:PySem.W.typeIn K (.ref f)=some (.type "function"):=beq_iff_eq.mp h2
 have h4:Option.map (λx:Obj=>x.cls) (List.lookup f K)=some (.type "function"):=h3
 rw[lk]at h4
 exact Option.some.inj h4
end L2
namespace L2
open PySem PySem.Spec PyProof.Rows
section
variable{K:PySem.W.Frag}{mg:Str->Option Value}{Lx x qual fld:Str}{C L f:Addr}{st:Stmt}{fd:FuncData}
theorem xtop_mk(h:mg x=some (.ref C))(a1:PySem.W.readsIn K C (.type "type")=true)(a2:PySem.W.findCls K (.ref C) (.type "type") "__init__"=some (.val (.builtin "ValueError.__init__")))(a3:PySem.W.specialIn K (.ref C) "__getattribute__"=some (some (.builtin "type.__getattribute__")))
  (a4:PySem.W.typeIn K (.ref C)=some (.type "type")) (a5:PySem.W.mroIn K C (.type "BaseException")=some true):XTop K mg x:=by
 have e:=clsA_eq h
 exact {at_:=by rw[e];exact h,reads:=by rw[e];exact a1,ini:=by rw[e];exact a2,ga:=by rw[e];exact a3,ty:=by rw[e];exact a4,mb:=by rw[e];exact a5}
theorem xc_mk(h:mg x=some (.ref C))(hL:mg Lx=some (.ref L))(a1:xcIn K C L=true)(a2:PySem.W.typeIn K (.ref C)=some (.type "type"))(a3:PySem.W.hasDictIn K C=true)(a4:PySem.W.findIn K (.ref C) "__getattribute__"=some (some (.builtin "BaseException.__getattribute__")))
  (a5:PySem.W.findIn K (.ref C) "__getattr__"=some none) (a6:PySem.W.findIn K (.ref C) "__class__"=some (some (.builtin "object.__class__"))) (a7:PySem.W.specialIn K (.builtin "object.__class__") "__get__"=some (some (.builtin "getset_descriptor.__get__"))) (a8:PySem.W.takesIn K (.builtin "object.__class__")=some true)
  (a9:PySem.W.mroIn K C (.type "object")=some true) (a10:PySem.W.mroIn K C (.type "BaseException")=some true):XC K mg Lx x:=by
 have e:=clsA_eq h
 have eL:=clsA_eq hL
 exact⟨by rw[e];exact h,by rw[e,eL];exact a1,by rw[e];exact a2,by rw[e];exact⟨a3,a4,a5,a6,a7,a8,a9,a10⟩⟩
theorem xini_mk(h:mg x=some (.ref C))(hL:mg Lx=some (.ref L))(F:Fun K "__init__" qual st f fd)(a1:iniIn K C f=true)(a2:PySem.W.isFn K (.ref f)=true)(a3:PySem.W.findIn K (.ref C) "__setattr__"=some (some (.builtin "object.__setattr__")))
  (a4:PySem.W.takerIn K C fld=some none) (a5:xcIn K C L=true):XIni K mg Lx x qual fld st:=by
 have e:=clsA_eq h
 have eL:=clsA_eq hL
 exact⟨by rw[e];exact h,⟨f,fd,F,by rw[e];exact a1,a2⟩,by rw[e];exact a3,by rw[e];exact a4,by rw[e,eL];exact a5⟩
end
end L2
namespace L2
open PySem PySem.Spec PyProof.Rows
theorem ty_ve{X:Cx}{σ:St}{H:Hp}{Q:VK}{pos:Pos}(hg:Gl X "ValueError")(hm:X.mg "ValueError"=none)(q:Q (.ty "ValueError") H):EV X (.Name "ValueError" pos) σ H Q:=ev_ty hg hm (by decide+kernel) q (by decide) (by decide)
end L2
namespace L2
open PySem PySem.Spec PyProof.Rows
abbrev IsTri(h:Heap)(T:Addr)(a b c:Value):Prop:=h.get? T=some {cls:=.type "tuple",data:=.seq #[a,b,c]}
section
variable{prog:Program}{w:World}{A:Around}{E:Value->Shared->Prop}{s:Shared}
end
abbrev z3a(h:Heap)(l1:Addr):Heap:=h.push {cls:=.type "list_iterator",data:=.fields #[.ref l1,.int 0 0]}
abbrev z3b(h:Heap)(l1 l2:Addr):Heap:=(z3a h l1).push {cls:=.type "list_iterator",data:=.fields #[.ref l2,.int 0 0]}
abbrev z3c(h:Heap)(l1 l2 l3:Addr):Heap:=(z3b h l1 l2).push {cls:=.type "list_iterator",data:=.fields #[.ref l3,.int 0 0]}
abbrev z3d(h:Heap)(l1 l2 l3:Addr):Heap:=(z3c h l1 l2 l3).push {cls:=.type "tuple",data:=.seq #[.ref h.objs.size,.ref (z3a h l1).objs.size,.ref (z3b h l1 l2).objs.size]}
abbrev z3e(h:Heap)(l1 l2 l3:Addr):Heap:=(z3d h l1 l2 l3).push {cls:=.type "tuple",data:=.seq #[.none,.none,.none]}
abbrev z3f(h:Heap)(l1 l2 l3:Addr):Heap:=(z3e h l1 l2 l3).push {cls:=.type "zip",data:=.fields #[.none,.bool false,.bool false,.ref (z3c h l1 l2 l3).objs.size,.ref (z3d h l1 l2 l3).objs.size]}
section
variable{prog:Program}{w:World}{A:Around}{E:Value->Shared->Prop}{s:Shared}
end
def Itz3(K:PySem.W.Frag)(l m q:Addr):It:=
 ⟨λi H=>∃xs ys zs x y z,(SqL K H l xs/\SqL K H m ys/\SqL K H q zs)/\xs[i]? =some x/\ys[i]? =some y/\zs[i]? =some z,
  λi H v H'=>∃T x y z,v= .ref T/\H T=none/\H'=upd H T (.tup [x,y,z])/\(∀xs,SqL K H l xs->xs[i]? =some x)/\(∀ys,SqL K H m ys->ys[i]? =some y)/\∀zs,SqL K H q zs->zs[i]? =some z,
  λi H=>∃xs ys zs,(SqL K H l xs/\SqL K H m ys/\SqL K H q zs)/\(xs.length≤i\/ys.length≤i\/zs.length≤i)⟩
end L2
namespace L2
open PySem PySem.Spec PyProof.Rows
section
variable{X:Cx}{σ:St}{H:Hp}{a b c:Expr}{elts:List Expr}{k:Nat}{tp p pos p':Pos}{R:It->Hp->Prop}{D:Ends}
end
end L2
namespace L2
open PySem PySem.Spec PyProof.Rows
section
variable{X:Cx}{H:Hp}{Q:VK}
def LexAt(A:Around)(s:Shared):List Value->List Value->Bool->Prop
 |[],[],r=>r=false
 |x::xs,y::ys,r=>∃e,SeqAt.EqAt A s x y e/\(e=true->LexAt A s xs ys r)/\(e=false->∀(prog:Program) (w:World) (E:Value->Shared->Prop) (Q:Value->Shared->Prop),Q (.bool r) s->wpAny (model prog w) A (richCompare .Lt x y) Q E s)
 |_,_,_=>False
def ltV:V->V->Bool
 | .int i,.int j=>decide (i<j)
 | .str x,.str y=>decide (x.cps.toList<y.cps.toList)
 |_,_=>false
def ltP(i j:Int)(x y:V):Bool:=if i=j then ltV x y else decide (i<j)
end
end L2
namespace L2
open PySem PySem.Spec PyProof.Rows
structure MDef(P:Program)(w:World)(K:PySem.W.Frag)(mg:Str->Option Value)(base:Heap)(cc:Bool)(k:Nat)(C:Addr)(m:Str)(ps:List Str)(sp:Sp):Prop where
 cls:Cls K C
 ex:∃f fd,Meth K C m f/\Binds K fd ps []/\FnOk P w K mg base (CX1 P w) cc k f fd ps sp
structure CDef(P:Program)(w:World)(K:PySem.W.Frag)(mg:Str->Option Value)(base:Heap)(cc:Bool)(k:Nat)(x:Str)(C:Addr)(ps:List Str)(sp:Sp):Prop where
 at_:mg x=some (.ref C)
 ex:∃f fd,Mk K C f/\Binds K fd ps []/\FnOk P w K mg base (CX1 P w) cc k f fd ps sp
structure BDef(P:Program)(w:World)(K:PySem.W.Frag)(mg:Str->Option Value)(base:Heap)(cc:Bool)(k:Nat)(x m:Str)(ps:List Str)(sp:Sp):Prop where
 ex:∃C f fd,mg x=some (.ref C)/\PySem.W.readsIn K C (.type "type")=true/\PySem.W.findCls K (.ref C) (.type "type") m=some (.val (.ref f))/\
  PySem.W.specialIn K (.ref C) "__getattribute__"=some (some (.builtin "type.__getattribute__"))/\PySem.W.keepIn K (.ref f)=true/\Binds K fd ps []/\FnOk P w K mg base (CX1 P w) cc k f fd ps sp
section
variable{X:Cx}{σ:St}{H:Hp}{Q:VK}{D:Ends}{x f m:Str}{p np apos pos pos' tpos:Pos}{a e o value:Expr}{es:List Expr}{Kx:St->XK}{cc:Bool}{k':Nat}
end
end L2
namespace L2
open PySem PySem.Spec PyProof.Rows
structure OM(K:PySem.W.Frag)(C:Addr)(m qual:Str)(st:Stmt):Prop where
 ex:∃f fd,Fun K m qual st f fd/\Meth K C m f
structure OI(K:PySem.W.Frag)(C:Addr)(qual:Str)(st:Stmt):Prop where
 ex:∃f fd,Fun K "__init__" qual st f fd/\Mk K C f
structure OB(K:PySem.W.Frag)(C:Addr)(m qual:Str)(st:Stmt):Prop where
 rd:PySem.W.readsIn K C (.type "type")=true
 ga:PySem.W.specialIn K (.ref C) "__getattribute__"=some (some (.builtin "type.__getattribute__"))
 ex:∃f fd,Fun K m qual st f fd/\PySem.W.findCls K (.ref C) (.type "type") m=some (.val (.ref f))
def FD(P:Program)(w:World)(K:PySem.W.Frag)(mg:Str->Option Value)(base:Heap)(cc:Bool)(k:Nat)(m qual:Str)(st:Stmt)(ps:List Str)(sp:Sp):Prop:=
 ∀f fd,Fun K m qual st f fd->Binds K fd ps []/\FnOk P w K mg base (CX1 P w) cc k f fd ps sp
section
variable{P:Program}{w:World}{K:PySem.W.Frag}{mg:Str->Option Value}{base:Heap}{cc:Bool}{k:Nat}{x m qual:Str}{C:Addr}{st:Stmt}{ps N:List Str}{sp:Sp}
end
theorem sx_setT{X:Cx}{σ:St}{H:Hp}{D:Ends}{elts:List Expr}{k:Nat}{tp pos:Pos}{value:Expr}(hs:swapsWithSole [.Tuple elts k tp] value pos.line X.env=pure false)(hw:swappedStores [.Tuple elts k tp] value X.env=pure none)
  (h:EV X value σ H λv H1=>EG X (.Tuple elts k tp) v σ H1 λσ' H'=>D.nx σ' H'):SX X (.Assign [.Tuple elts k tp] value pos) D σ H:=by
 intro pins s I
 refine Assign_Tuple (thn (h pins s I) λu s1 ⟨v,H1,I1,r1,q1⟩=>?_) hs hw
 exact thn (q1 pins s1 u I1 r1) λ_ s2 ⟨σ',H',I2,q2⟩=>⟨σ',H',I2,q2⟩
structure OT(K:PySem.W.Frag)(C:Addr):Prop where
 ty:∀(H:Hp) (a dx:Addr) (fs:List (Str×V)),H a=some (.ins C dx fs)->TyOf K H (.ref a) (.ref C)
end L2
namespace L2
open PySem PySem.Spec PyProof.Rows
section
variable{X:Cx}{σ:St}{H:Hp}{Q:VK}{D:Ends}{pos tpos:Pos}{o i value:Expr}
theorem sx_setI(hs:swapsWithSole [.Subscript o i tpos] value pos.line X.env=pure false)(hw:swappedStores [.Subscript o i tpos] value X.env=pure none)(h1:(assignEach [.Subscript o i tpos] X.env).map (·.2)=[assign (.Subscript o i tpos) X.env])
  (ha:∀v,assign (.Subscript o i tpos) X.env v=(do
   let ov<-holding [v] (eval o X.env)
   let iv<-holding [v,ov] (eval i X.env)
   standAt tpos
   holding [v,ov,iv] (setItem ov iv v)
   release [v,ov,iv] []))
  (h:EV X value σ H λv H1=>EV X o σ H1 λov H2=>EV X i σ H2 λiv H3=>∃p xs k j,ov= .ref p/\iv= .int k/\H3 p=some (.lst xs)/\ixN xs.length k=some j/\D.nx σ (upd H3 p (.lst (xs.set j v)))):SX X (.Assign [.Subscript o i tpos] value pos) D σ H:=
 λpins s I=>ps_asg (X:=X) pe_self (pg_sub pe_self pe_self set_list ha) hs hw h1 pins s σ H D I h
end
theorem ixN_nat{n j:Nat}(h:j<n):ixN n (j:Int)=some j:=by
 unfold ixN
 rw[if_pos (Int.natCast_nonneg j),if_pos (by omega),Int.toNat_natCast]
section
variable{prog:Program}{w:World}{A:Around}{E:Value->Shared->Prop}{s:Shared}
theorem draw_list{it l:Addr}{items:Array Value}(hne:l≠it):∀(n i:Nat) (s:Shared) (Q:List Value->Shared->Prop),s.heap.IsListIter it l i->s.heap.IsList l items->i+n≤items.size->
  (∀h',h'.IsListIter it l (i+n)->Heap.SameBut it s.heap h'->Q ((items.toList.drop i).take n) {s with heap:=h'})->wpAny (model prog w) A (draw (.ref it) n) Q E s
 |0,i,s,Q,hit,_,_,hQ=>by
  show wpAny _ _ (pure []) Q E s
  exact wpAny_pure (by simpa using hQ s.heap hit (Heap.SameBut.refl ..))
 |n+1,i,s,Q,hit,hl,hle,hQ=>by
  have hlt:i<items.size:=by omega
  show wpAny _ _ (pyNext (.ref it)>>=_) Q E s
  refine wpAny_bind (wpAny_pyNext_list_item hit hl (x:=items[i]) (by simp[hlt]) λh₁ hit₁ hs₁=>?_)
  refine wpAny_bind (wpAny_holding (draw_list hne n (i+1) _ _ hit₁ (hl.extBut hs₁.extBut hne) (by omega) λh₂ hit₂ hs₂=>wpAny_pure ?_))
  have hd:items.toList.drop i=items[i]::items.toList.drop (i+1):=by simp[List.drop_eq_getElem_cons,hlt]
  have :=hQ h₂ (by rw[show i+(n+1)=i+1+n by omega];exact hit₂) (hs₁.trans hs₂)
  rw[hd,List.take_succ_cons]at this
  exact this
theorem unpackItems_list{l:Addr}{items:Array Value}{Q:List Value->Shared->Prop}(hh:A.handled=none)(hl:s.heap.IsList l items)
  (hQ:∀h',Heap.ExtBut s.heap.objs.size s.heap h'->Q items.toList {s with heap:=h'}):wpAny (model prog w) A (unpackItems (.ref l) items.size none) Q E s:=by
 have hlt:l≠s.heap.objs.size:=by obtain⟨o,ho,_⟩:=hl;exact Nat.ne_of_lt (Heap.lt_size ho)
 unfold unpackItems
 refine wpAny_bind ?_
 .unfold notIterableAtAll
  refine wpAny_bind (wpAny_specialOf hl.typeIs slot_list_iter.lookup ?_)
  refine wpAny_pure ?_
  simp only[Bool.false_eq_true,if_false]
  refine wpAny_bind (wpAny_holding (wpAny_pyIter_list hl ?_))
  refine wpAny_bind (wpAny_holding (draw_list hlt items.size 0 _ _ ⟨_,Heap.get?_push_size _ rfl,rfl,rfl⟩ (hl.push _) (by omega) λh₁ hit₁ hs₁=>?_))
  have hall:List.take items.size (List.drop 0 items.toList)=items.toList:=by
   rw[List.drop_zero];exact List.take_of_length_le (by simp)
  rw[hall]
  rw[if_neg (by simp)]
  have hl₁:h₁.IsList l items:=(hl.push _).extBut hs₁.extBut hlt
  refine wpAny_bind (wpAny_holding (wpAny_pyNext_list_end hh hit₁ hl₁ (by simp) λh₂ he₂=>?_))
  simp only[Option.isSome_none,Bool.false_eq_true,if_false]
  refine wpAny_pure (hQ h₂ λb o hb e=>he₂ b o hb (hs₁.extBut b o hb (Heap.get?_push_of_some _ e)))
theorem assign_Tuple_list{env:Env}{elts:List Expr}{x1}{pos:Pos}{l:Addr}{items:Array Value}{Q:Unit->Shared->Prop}(hh:A.handled=none)(hl:s.heap.IsList l items)
  (hn:(assignEach elts env).length=items.size) (hstar:(assignEach elts env).findIdx? (·.1)=none)
  (h:∀h',Heap.ExtBut s.heap.objs.size s.heap h'->wpAny (model prog w) A (assignInOrder ((assignEach elts env).map (·.2)) items.toList) Q E {s with heap:=h'}):
  wpAny (model prog w) A (assign (.Tuple elts x1 pos) env (.ref l)) Q E s:=by
 rw[assign_Tuple]
 refine wpAny_bind (wpAny_standAt ?_)
 unfold unpack
 rw[hn,hstar]
 exact wpAny_bind (wpAny_holding (unpackItems_list hh hl h))
end
theorem eg_lst{X:Cx}{σ:St}{H:Hp}{es:List Expr}{pos:Pos}{n:Nat}{k:Nat}{QG:St->Hp->Prop}{q:Addr}{xs:List V}(hc:X.calm=true)(hn:(assignEach es X.env).length=n)(hst:(assignEach es X.env).findIdx? (·.1)=none)
  (ht:H q=some (.lst xs)) (hl:xs.length=n) (h:EGs X es xs σ H QG):EG X (.Tuple es k pos) (.ref q) σ H QG:=by
 intro pins s u I r
 cases(show u=Value.ref q from r)
 obtain⟨_,its,m,rv,hlen,e⟩:=I.lstM ht
 refine assign_Tuple_list (items:=its.toArray) (I.ok.hd hc) ⟨_,e,rfl,_,rfl⟩ (by simp[hn, <-hl,hlen]) hst λh' hx=>?_
 have I1:Inv X pins σ H {s with heap:=h'}:=I.kept (t':=s.toks) λb o e=>hx b o (Nat.ne_of_lt (Heap.lt_size e)) e
 exact h pins _ _ I1 (by simpa using rv)
section
variable{X:Cx}{H:Hp}{Q:VK}{D:Ends}{σ σ':St}{e a b c elt tg:Expr}{scope:Scope}{pos spos py p p':Pos}{x y:Str}{j:Nat}
theorem sx_inc{i:Nat}(hN:X.N.Nodup)(hi:nameAt X.N x=some i)(hx:Loc X.env.scope x)(hf:X.fn x=true\/X.env.scope.names.lookup x=some .local)
  (h:∃m:Int,σ[i]? =some (some (.int m))/\EV X e σ H λv H1=>∃n:Int,v= .int n/\D.nx (σ.set i (some (.int (m+n)))) H1):SX X (.AugAssign (.Name x py) .Add e pos) D σ H:=by
 obtain⟨m,e1,h⟩:=h
 exact λpins s I=>ps_aug (X:=X) hN (nameAt_get hi) hx pe_self ip_add hf pins s σ H D I ⟨_,e1,ev_mono h λv H1 ⟨n,e2,q⟩=>⟨m,n,rfl,e2,q⟩⟩
theorem sx_while{body:List Stmt}(hp:PassesOwn (model X.prog X.w) X.A X.env X.xe)(W:Nat->St->Hp->Prop)(m0:Nat)(h0:W m0 σ H)
  (turn:∀m σ H,W m σ H->ET X c σ H λk H1=>if k=true then ∃N:St->Hp->Prop,(∀σ' H',N σ' H'->∃m',m'<m/\W m' σ' H')/\SXs X body {D with nx:=N,ct:=N,bk:=D.nx} σ H1 else D.nx σ H1):SX X (.While c body [] pos) D σ H:=
 λpins s I=>ps_while (X:=X) hp pt_self pss_self pins s σ H D I ⟨W,⟨m0,h0⟩,turn⟩
end
end L2
namespace L2
open PySem PySem.Spec PyProof.Rows
section
variable{X:Cx}{σ:St}{H:Hp}{Q:VK}{D:Ends}{pos pos' tpos apos cpos:Pos}{o i e f value:Expr}{y v:V}{a:Addr}{r:Option V}
end
end L2
namespace My
open PySem
abbrev SGs:Str:=Str.ofString "-0123456789abcdefghijklmnopqrstuvwxyz"
abbrev TSs:Str:=Str.ofString "abcdefghijklmnopqrstuvwxyz0123456789-"
def SG:List Nat:=SGs.cps.toList
def TS:List Nat:=TSs.cps.toList
theorem sg_ts:∀c∈SG,c∈TS:=by decide+kernel
theorem ts_sg:∀c∈TS,c∈SG:=by decide+kernel
def tb:List Nat->List Nat->Bool
 |[],[]=>false
 |[],_::_=>true
 |_::_,[]=>false
 |x::xs,y::ys=>if x=y then tb xs ys else decide (SG.idxOf x<SG.idxOf y)
end My
namespace L2
open PySem PySem.Spec PyProof.Rows
theorem atI_map{α:Type}{xs:List α}{f:α->V}{i:Int}(d:α)(h0:0≤i)(h1:i<xs.length):atI (xs.map f) i=some (f (xs.getD i.toNat d)):=by
 have e:i=((i.toNat:Nat):Int):=by omega
 have hl:i.toNat<xs.length:=by omega
 have h2:(xs.map f)[i.toNat]? =some (f (xs.getD i.toNat d)):=by
  rw[List.getElem?_map,List.getElem?_eq_getElem hl]
  simp[hl]
 have :=atI_nat h2
 rw[<-e]at this
 exact this
theorem atI_mem{α:Type}{xs:List α}{i:Int}(h0:0≤i)(h1:i<xs.length):∃v,atI xs i=some v/\v∈xs:=by
 have hl:i.toNat<xs.length:=by omega
 have e:i=((i.toNat:Nat):Int):=by omega
 have :=atI_nat (List.getElem?_eq_getElem hl)
 rw[<-e]at this
 exact⟨_,this,List.getElem_mem hl⟩
theorem ones_sum:∀l:List Nat,((l.map λc=>(⟨#[c]⟩:Str)).map (·.length)).sum=l.length
 |[]=>rfl
 |c::r=>by
  rw[List.map_cons,List.map_cons,List.sum_cons,ones_sum r,List.length_cons]
  show 1+r.length=_
  omega
theorem join_signs:∀l:List Nat,Str.join (Str.ofString "") (l.map λc=>⟨#[c]⟩)=⟨l.toArray⟩
 |[]=>rfl
 |[c]=>rfl
 |c::d::r=>by
  have ih:=join_signs (d::r)
  show(⟨#[c]⟩:Str)++Str.ofString ""++Str.join (Str.ofString "") ((d::r).map λc=>⟨#[c]⟩)=_
  rw[ih]
  have e0:(Str.ofString "")=⟨#[]⟩:=by decide+kernel
  rw[e0]
  show(⟨(#[c]++ #[])++(d::r).toArray⟩:Str)=⟨(c::d::r).toArray⟩
  simp
theorem str_ext{x y:Str}(h:x.cps.toList=y.cps.toList):x=y:=by
 obtain⟨⟨a⟩⟩:=x
 obtain⟨⟨b⟩⟩:=y
 simp only at h
 rw[h]
theorem cps_app(x y:Str):(x++y).cps.toList=x.cps.toList++y.cps.toList:=by
 show(x.cps++y.cps).toList=_
 simp
theorem cps_one(c:Nat):(⟨#[c]⟩:Str).cps.toList=[c]:=rfl
theorem len_list(z:Str):z.length=z.cps.toList.length:=by simp[Str.length]
theorem len_app(x y:Str):(x++y).length=x.length+y.length:=by rw[len_list,cps_app,List.length_append,len_list,len_list]
theorem cutS_le(z:Str)(lo hi:Option Int):(cutS z lo hi).length≤z.length:=by
 unfold cutS Str.length
 simp
 omega
theorem cutS_list(z:Str)(lo hi:Option Int):(cutS z lo hi).cps.toList=(z.cps.toList.drop (HT.sIx z.length 0 lo)).take (HT.sIx z.length z.length hi-HT.sIx z.length 0 lo):=by
 unfold cutS
 simp
theorem cutS_mem{z:Str}{lo hi:Option Int}{c:Nat}(h:c∈(cutS z lo hi).cps.toList):c∈z.cps.toList:=by
 rw[cutS_list]at h
 exact List.mem_of_mem_drop (List.mem_of_mem_take h)
theorem cutS_from(z:Str)(k:Nat):(cutS z (some (k:Int)) none).cps.toList=z.cps.toList.drop k:=by
 rw[cutS_list,HT.sIx_nat,HT.sIx_none]
 have hl:=len_list z
 by_cases h:k≤z.length
 .rw[Nat.min_eq_left h,List.take_of_length_le (by rw[List.length_drop];omega)]
 .have h':z.length≤k:=by omega
  rw[Nat.min_eq_right h',List.drop_of_length_le (by omega),List.drop_of_length_le (by omega)]
  simp
theorem cutS_to(z:Str)(k:Nat):(cutS z none (some (k:Int))).cps.toList=z.cps.toList.take k:=by
 rw[cutS_list,HT.sIx_nat,HT.sIx_none,List.drop_zero,Nat.sub_zero]
 have hl:=len_list z
 by_cases h:k≤z.length
 .rw[Nat.min_eq_left h]
 .have h':z.length≤k:=by omega
  rw[Nat.min_eq_right h',List.take_of_length_le (by omega),List.take_of_length_le (by omega)]
theorem starts_one(z:Str)(c:Nat):Txt.startswith z ⟨#[c]⟩=decide (z.cps.toList[0]? =some c):=by
 rw[Bool.eq_iff_iff,decide_eq_true_eq, <-StrLaws.subAt_one]
 unfold Txt.startswith
 rw[Bool.and_eq_true,decide_eq_true_eq]
theorem dec_strV(x y:Str):decide (V.str x=V.str y)=decide (x.cps.toList=y.cps.toList):=by
 rw[decide_eq_decide]
 constructor
 .intro h;cases h;rfl
 .intro h;rw[str_ext h]
end L2
namespace Vl
open PySem L2 PyProof.Rows My NumText
def scalar:V->Bool
 | .non | .int _ | .str _=>true
 |_=>false
def isIntV:V->Bool
 | .int _=>true
 |_=>false
def isNum:V->Bool
 | .int i=>decide (-1000000000000000000≤i/\i≤1000000000000000000)
 |_=>false
def madeOf(z g:Str):Bool:=z.cps.toList.all λc=>decide (c∈g.cps.toList)
def isTxt:V->Bool
 | .str z=>decide (z.length≤20)&&madeOf z TSs
 |_=>false
def isVal(kind:Str):V->Bool
 | .non=>true
 |v=>if kind="number" then isNum v else isTxt v
def before:V->V->Bool
 |_,.non=>false
 | .non,_=>true
 | .int i,.int j=>decide (i<j)
 | .str x,.str y=>decide (x.cps.toList<y.cps.toList)
 |_,_=>false
def short:V->Prop
 | .str z=>z.length≤4000
 |_=>True
def spWhole:Sp:=λvs H Q _=>∃v,vs=[v]/\scalar v=true/\Q (.bl (isIntV v)) H
def spMade:Sp:=λvs H Q _=>∃z g:Str,vs=[.str z,.str g]/\z.length≤4000/\∀H',Same H H'->Q (.bl (madeOf z g)) H'
def spNum:Sp:=λvs H Q _=>∃v,vs=[v]/\scalar v=true/\Q (.bl (isNum v)) H
def spTxt:Sp:=λvs H Q _=>∃v,vs=[v]/\scalar v=true/\short v/\∀H',Same H H'->Q (.bl (isTxt v)) H'
def spVal:Sp:=λvs H Q _=>∃(k:Str) (v:V),vs=[.str k,v]/\scalar v=true/\short v/\∀H',Same H H'->Q (.bl (isVal k v)) H'
def spBefore:Sp:=λvs H Q _=>∃x y:V,vs=[x,y]/\(x= .non\/y= .non\/(∃i j,x= .int i/\y= .int j)\/∃i j,x= .str i/\y= .str j)/\Q (.bl (before x y)) H
def isDig(c:Nat):Bool:=decide (48≤c/\c≤57)
abbrev FGs:Str:=Str.ofString "0123456789"
theorem mem_fg:∀c:Nat,c∈FGs.cps.toList↔(48≤c/\c≤57):=by
 intro c
 have e:FGs.cps.toList=[48,49,50,51,52,53,54,55,56,57]:=by decide+kernel
 rw[e]
 simp only[List.mem_cons,List.not_mem_nil,or_false]
 omega
theorem madeOf_fg(z:Str):madeOf z FGs=z.cps.toList.all isDig:=by
 unfold madeOf isDig
 congr 1
 funext c
 rw[decide_eq_decide]
 exact mem_fg c
def areFig(l:List Nat):Bool:=decide (l=[48])||(decide (l≠[])&&(decide (l[0]? ≠some 48)&&l.all isDig))
def isNW(l:List Nat):Bool:=if l[0]? =some 45 then decide (l.drop 1≠[48])&&areFig (l.drop 1)else areFig l
def wordInt(l:List Nat):Int:=if l[0]? =some 45 then -((digitsVal (l.drop 1):Nat):Int)else((digitsVal l:Nat):Int)
theorem areFig_digits{l:List Nat}(h:areFig l=true):AllDigits l/\l≠[]:=by
 unfold areFig at h
 rw[Bool.or_eq_true,Bool.and_eq_true,Bool.and_eq_true,decide_eq_true_eq,decide_eq_true_eq]at h
 rcases h with h |⟨h1,_,h2⟩
 .subst h
  exact⟨λc hc=>by simp at hc;omega,by simp⟩
 .exact⟨λc hc=>of_decide_eq_true (List.all_eq_true.mp h2 c hc),h1⟩
theorem intText_word{z:Str}(h:isNW z.cps.toList=true)(hl:z.length≤4300):intText? z=some (wordInt z.cps.toList):=by
 unfold isNW at h
 unfold wordInt
 by_cases h0:z.cps.toList[0]? =some 45
 .rw[if_pos h0]at h⊢
  rw[Bool.and_eq_true]at h
  obtain⟨h1,h2⟩:=areFig_digits h.2
  cases e:z.cps.toList with
  |nil=>rw[e]at h0;simp at h0
  |cons c r=>
   rw[e]at h0 h1 h2
   have hc:c=45:=by simpa using h0
   subst hc
   exact intText_neg e h1 h2 hl
 .rw[if_neg h0]at h⊢
  obtain⟨h1,h2⟩:=areFig_digits h
  exact intText_digits h1 h2 hl
def readNum(l:List Nat):Option Int:=if isNW l=true/\l.length≤20/\ -1000000000000000000≤wordInt l/\wordInt l≤1000000000000000000 then some (wordInt l)else none
def readTxt(z:Str):Option Str:=if z.cps.toList[0]? =some 39/\isTxt (.str (cutS z (some 1) none))=true then some (cutS z (some 1) none)else none
def numV:Option Int->Option V
 |some i=>some (.int i)
 |none=>none
def txtV:Option Str->Option V
 |some i=>some (.str i)
 |none=>none
def readV(kind word:Str):Option V:=if word="?" then some .non else if kind="number" then numV (readNum word.cps.toList)else txtV (readTxt word)
def wordOf:V->Str
 | .non=>"?"
 | .str z=>Str.ofString "'"++z
 | .int i=>Str.ofString (toString i)
 |_=>""
def spWord:Sp:=λvs H Q _=>∃v,vs=[v]/\scalar v=true/\short v/\(∀i,v= .int i->i.natAbs.log2<1920)/\Q (.str (wordOf v)) H
def spFig:Sp:=λvs H Q _=>∃z,vs=[.str z]/\z.length≤4000/\∀H',Same H H'->Q (.bl (areFig z.cps.toList)) H'
def spNW:Sp:=λvs H Q _=>∃z,vs=[.str z]/\z.length≤4000/\∀H',Same H H'->Q (.bl (isNW z.cps.toList)) H'
def orRefused(c:Value)(r:Option V)(H:Hp)(Q:VK)(E:XK):Prop:=∀H',Same H H'->match r with
 |some v=>Q v H'
 |none=>E c (none,true) H'
def spReadN(c:Value):Sp:=λvs H Q E=>∃z,vs=[.str z]/\z.length≤4000/\orRefused c (numV (readNum z.cps.toList)) H Q E
def spReadT(c:Value):Sp:=λvs H Q E=>∃z,vs=[.str z]/\z.length≤4000/\orRefused c (txtV (readTxt z)) H Q E
def spReadV(c:Value):Sp:=λvs H Q E=>∃k z,vs=[.str k,.str z]/\z.length≤4000/\orRefused c (readV k z) H Q E
def okS(n:Nat)(z:Str):Prop:=z.length≤n/\∀c∈z.cps.toList,c<1114112
theorem okS.mono{n m:Nat}{z:Str}(h:okS n z)(hm:n≤m):okS m z:=⟨Nat.le_trans h.1 hm,h.2⟩
theorem okS.app{n m:Nat}{x y:Str}(h:okS n x)(g:okS m y):okS (n+m) (x++y):=⟨by rw[len_app];have :=h.1;have :=g.1;omega,λc hc=>by
 rw[cps_app]at hc
 rcases List.mem_append.mp hc with z |z
 .exact h.2 c z
 .exact g.2 c z⟩
theorem okS.cut{n:Nat}{x:Str}(h:okS n x)(lo hi:Option Int):okS n (cutS x lo hi):=⟨Nat.le_trans (cutS_le x lo hi) h.1,λc hc=>h.2 c (cutS_mem hc)⟩
theorem okS.lay{n:Nat}{z:Str}(h:okS n z):(PyData.str z).canLay0=true:=by
 show PyData.strOk z=true
 unfold PyData.strOk
 rw[Array.all_eq_true_iff_forall_mem]
 intro c hc
 exact decide_eq_true (h.2 c (by simpa using hc))
theorem okS.sg{n:Nat}{z:Str}(hl:z.length≤n)(h:∀c∈z.cps.toList,c∈SG):okS n z:=⟨hl,λc hc=>by
 have :∀c∈SG,c<1114112:=by decide+kernel
 exact this c (h c hc)⟩
def dV:V->PyData
 | .bl b=>.bool b
 | .int i=>.int i
 | .str x=>.str x
 |_=>.none
def sca:V->Bool
 | .non | .int _ | .str _ | .bl _=>true
 |_=>false
theorem rd_sca{K:PySem.W.Frag}{H:Hp}{v:V}(h:sca v=true):RD K H v (dV v):=by
 cases v with
 |non=>exact .non
 |bl b=>exact .bl b
 |int i=>exact .int i
 |str x=>exact .str x
 |_=>cases h
theorem rds_sca{K:PySem.W.Frag}{H:Hp}:∀{xs:List V},xs.all sca=true->RDs K H xs (xs.map dV)
 |[],_=>.nil
 |x::xs,h=>by
  rw[List.all_cons,Bool.and_eq_true]at h
  exact .cons (rd_sca h.1) (rds_sca h.2)
theorem log_ok{i:Int}(h:i.natAbs<10^60):i.natAbs.log2<1920:=by
 by_cases h0:i.natAbs=0
 .rw[h0];decide
 .rw[Nat.log2_lt h0]
  refine Nat.lt_of_lt_of_le h ?_
  decide+kernel
theorem num_list(m:Nat):(Str.ofString (toString ((m:Nat):Int))).cps.toList=(Nat.toDigits 10 m).map Char.toNat:=PySem.W.KIN.signs_num m
theorem num_digits(m:Nat):∀c∈(Str.ofString (toString ((m:Nat):Int))).cps.toList,48≤c/\c≤57:=by
 rw[num_list]
 intro c hc
 obtain⟨d,hd,rfl⟩:=List.mem_map.mp hc
 have :=Nat.isDigit_of_mem_toDigits (b:=10) (n:=m) (by decide) (by decide) hd
 simp only[Char.isDigit,Bool.and_eq_true,decide_eq_true_eq]at this
 have h1:(48:UInt32).toNat≤d.val.toNat:=this.1
 have h2:d.val.toNat≤(57:UInt32).toNat:=this.2
 exact⟨h1,h2⟩
theorem num_len{m k:Nat}(hk:1≤k)(h:m<10^k):(Str.ofString (toString ((m:Nat):Int))).length≤k:=by
 rw[L2.len_list,num_list,List.length_map]
 exact PyProof.Rows.digits10_le hk h
theorem num_neg(m:Nat)(h:0<m):Str.ofString (toString (-((m:Nat):Int)))=Str.ofString "-"++Str.ofString (toString ((m:Nat):Int)):=by
 obtain⟨k,rfl⟩:∃k,m=k+1:=⟨m-1,by omega⟩
 have e:(-((k+1:Nat):Int))=Int.negSucc k:=rfl
 rw[e]
 apply str_ext
 rw[cps_app]
 rw[PyProof.Rows.signs_ofString,PyProof.Rows.signs_ofString,PyProof.Rows.signs_ofString]
 show(("-"++Nat.repr (k+1)).toList.map Char.toNat)="-".toList.map Char.toNat++(Nat.repr (k+1)).toList.map Char.toNat
 rw[String.toList_append,List.map_append]
end Vl
namespace Lw
open PySem L2 PyProof.Rows My NumText
def cellF(ns:List Int)(k:Int):Int:=if 0<ns.length then ns.getD (k % (ns.length:Int)).toNat 0 else 0
def drawF(ns:List Int)(k m:Int):Int:=(cellF ns k % 1000003+31*k*k+1)*48271 % 999983*7919 % 524287 % m
theorem drawF_nn(ns:List Int)(k:Int){m:Int}(h:0<m):0≤drawF ns k m:=Int.emod_nonneg _ (by omega)
theorem drawF_lt(ns:List Int)(k:Int){m:Int}(h:0<m):drawF ns k m<m:=Int.emod_lt_of_pos _ h
def spDraw(K:PySem.W.Frag):Sp:=λvs H Q _=>∃(a:Addr) (ns:List Int) (k m:Int),vs=[.ref a,.int k,.int m]/\SqL K H a (ns.map V.int)/\ns.length≤63/\0≤k/\k≤100000/\0<m/\Q (.int (drawF ns k m)) H
def codesF(ns:List Int)(b:Int)(n:Nat):List Nat:=(List.range n).map λk:Nat=>SG.getD (drawF ns (b+(k:Int)) 37).toNat 0
def textF(ns:List Int)(b:Int)(n:Nat):Str:=⟨(codesF ns b n).toArray⟩
def spText(K:PySem.W.Frag):Sp:=λvs H Q _=>∃(a:Addr) (ns:List Int) (b n:Int),vs=[.ref a,.int b,.int n]/\SqL K H a (ns.map V.int)/\ns.length≤63/\0≤b/\b≤50000/\0≤n/\n≤1000/\∀H',Same H H'->Q (.str (textF ns b n.toNat)) H'
end Lw
namespace Vl
open PySem L2 PyProof.Rows My NumText
inductive All2 {α β:Type} (R:α->β->Prop):List α->List β->Prop
 |nil:All2 R [] []
 |cons {a:α} {b:β} {l:List α} {m:List β}:R a b->All2 R l m->All2 R (a::l) (b::m)
theorem All2.len{α β:Type}{R:α->β->Prop}:∀{l:List α} {m:List β},All2 R l m->l.length=m.length
 |_,_,.nil=>rfl
 |_,_,.cons _ t=>by rw[List.length_cons,List.length_cons,t.len]
theorem All2.imp{α β:Type}{R S:α->β->Prop}(h:∀a b,R a b->S a b):∀{l:List α} {m:List β},All2 R l m->All2 S l m
 |_,_,.nil=>.nil
 |_,_,.cons r t=>.cons (h _ _ r) (t.imp h)
theorem All2.get{α β:Type}{R:α->β->Prop}:∀{l:List α} {m:List β},All2 R l m->∀{i:Nat} {a:α},l[i]? =some a->∃b,m[i]? =some b/\R a b
 |_,_,.nil,i,a,e=>by simp at e
 |_,_,.cons r t,0,a,e=>by simp at e;subst e;exact⟨_,rfl,r⟩
 |_,_,.cons r t,i+1,a,e=>by simp at e;exact t.get e
theorem All2.get'{α β:Type}{R:α->β->Prop}:∀{l:List α} {m:List β},All2 R l m->∀{i:Nat} {b:β},m[i]? =some b->∃a,l[i]? =some a/\R a b
 |_,_,.nil,i,a,e=>by simp at e
 |_,_,.cons r t,0,a,e=>by simp at e;subst e;exact⟨_,rfl,r⟩
 |_,_,.cons r t,i+1,a,e=>by simp at e;exact t.get' e
theorem All2.app{α β:Type}{R:α->β->Prop}:∀{l l':List α} {m m':List β},All2 R l m->All2 R l' m'->All2 R (l++l') (m++m')
 |_,_,_,_,.nil,h=>h
 |_,_,_,_,.cons r t,h=>.cons r (t.app h)
abbrev Col:=Str×Str
def ColAt(H:Hp)(v:V)(c:Col):Prop:=∃t,v= .ref t/\H t=some (.tup [.str c.1,.str c.2])
theorem ColAt.same{H H':Hp}{v:V}{c:Col}(h:ColAt H v c)(s:Same H H'):ColAt H' v c:=by
 obtain⟨t,e,q⟩:=h
 exact⟨t,e,s _ _ q⟩
def Cols(H:Hp)(a:Addr)(cs:List Col):Prop:=∃vs:List V,H a=some (.lst vs)/\All2 (ColAt H) vs cs
theorem Cols.same{H H':Hp}{a:Addr}{cs:List Col}(h:Cols H a cs)(s:Same H H'):Cols H' a cs:=by
 obtain⟨vs,e,q⟩:=h
 exact⟨vs,s _ _ e,q.imp λa b r=>r.same s⟩
abbrev LTs:Str:=Str.ofString "abcdefghijklmnopqrstuvwxyz"
def isName(z:Str):Bool:=decide (1≤z.length/\z.length≤8)&&madeOf z LTs
def isKind(k:Str):Bool:=decide (k="number"\/k="text")
def okCols(cs:List Col):Bool:=decide (1≤cs.length/\cs.length≤6)&&(cs.all λc=>isName c.1&&isKind c.2)&&decide ((cs.map Prod.fst).Nodup)
def spName:Sp:=λvs H Q _=>∃z,vs=[.str z]/\z.length≤4000/\∀H',Same H H'->Q (.bl (isName z)) H'
def shortC(cs:List Col):Prop:=∀c∈cs,c.1.length≤4000/\c.2.length≤4000
def spAsk(c:Value):Sp:=λvs H Q E=>∃a cs,vs=[.ref a]/\Cols H a cs/\cs.length≤4000/\shortC cs/\∀H',Same H H'->if okCols cs=true then Q .non H' else E c (none,true) H'
def placeF:List Col->Str->Nat->V
 |[],_,_=>.non
 |c::r,z,i=>if c.1=z then .int i else placeF r z (i+1)
def spPlace:Sp:=λvs H Q _=>∃a cs z,vs=[.ref a,.str z]/\Cols H a cs/\∀H',Same H H'->Q (placeF cs z 0) H'
def isRowN:V->Bool
 | .int i=>decide (0≤i/\i≤1000000000)
 |_=>false
def spRowN:Sp:=λvs H Q _=>∃v,vs=[v]/\scalar v=true/\Q (.bl (isRowN v)) H
def allVal:List Col->List V->Bool
 |c::cs,v::vs=>isVal c.2 v&&allVal cs vs
 |_,_=>true
def isRow(cs:List Col)(v:V)(xs:List V):Bool:=isRowN v&&decide (xs.length=cs.length)&&allVal cs xs
def spRow:Sp:=λvs H Q _=>∃a cs v b xs,vs=[.ref a,v,.ref b]/\Cols H a cs/\cs.length≤4000/\scalar v=true/\H b=some (.lst xs)/\(∀x∈xs,scalar x=true/\short x)/\∀H',Same H H'->Q (.bl (isRow cs v xs)) H'
def dCol(c:Col):PyData:=.tuple [.str c.1,.str c.2]
def layC(cs:List Col):Prop:=∀c∈cs,okS 4000 c.1/\okS 4000 c.2
theorem vals_lay:∀{xs:List V},(∀x∈xs,sca x=true/\∀z,x= .str z->okS 4000 z)->(PyData.list (xs.map dV)).canLay0=true
 |[],_=>rfl
 |x::xs,h=>by
  have ih:=vals_lay (xs:=xs) λd hd=>h d (by simp[hd])
  have h1:(dV x).canLay0=true:=by
   obtain⟨hs,hz⟩:=h x (by simp)
   cases x with
   |str z=>exact(hz z rfl).lay
   |_=>rfl
  show((dV x).canLay0&&PyData.canLayAll0 (xs.map dV))=true
  rw[h1]
  exact ih
theorem vals_depA:∀xs:List V,PyData.depthAll (xs.map dV)≤1
 |[]=>by show(0:Nat)≤1;omega
 |x::xs=>by
  have ih:=vals_depA xs
  have h1:(dV x).depth≤1:=by cases x<;>(show(_:Nat)≤1;exact Nat.le_of_ble_eq_true rfl)
  show max (dV x).depth (PyData.depthAll (xs.map dV))≤1
  omega
theorem vals_dep(xs:List V):(PyData.list (xs.map dV)).depth≤60:=by
 have :=vals_depA xs
 simp only[PyData.depth]
 omega
theorem cutV_from(xs:List V)(k:Nat):cutV xs (some (k:Int)) none=xs.drop k:=by
 unfold cutV
 rw[HT.sIx_none,HT.sIx_nat]
 by_cases h:k≤xs.length
 .rw[show min k xs.length=k from Nat.min_eq_left h]
  exact List.take_of_length_le (by rw[List.length_drop];exact Nat.le_refl _)
 .rw[show min k xs.length=xs.length from Nat.min_eq_right (by omega),List.drop_eq_nil_of_le (Nat.le_refl _),List.drop_eq_nil_of_le (by omega)]
  simp
end Vl
namespace Vl
open PySem L2 PyProof.Rows My NumText
def checkR:List Nat->Int
 |[]=>0
 |c::r=>((c:Int)+137*checkR r) % 9973
def fourF(n:Int):Str:=Txt.zfill (Str.ofString (toString n)) 4
def figV(l:List Nat):Nat:=l.foldl (λa c=>a*10+(c-48)) 0
def fourOk(n:Nat):Bool:=decide ((fourF n).length=4)&&((fourF n).cps.toList.all isDig&&decide (figV (fourF n).cps.toList=n))
def spCheck:Sp:=λvs H Q _=>∃z,vs=[.str z]/\z.length≤100000/\(∀c∈z.cps.toList,c<1114112)/\Q (.int (checkR z.cps.toList)) H
def spCheckW:Sp:=λvs H Q _=>∃z,vs=[.str z]/\z.length≤100000/\(∀c∈z.cps.toList,c<1114112)/\Q (.str (fourF (checkR z.cps.toList))) H
theorem dv_ge:∀(r:List Nat) (a:Nat),a*10^r.length≤r.foldl (λacc c=>acc*10+(c-48)) a
 |[],a=>by simp
 |c::r,a=>by
  have ih:=dv_ge r (a*10+(c-48))
  rw[List.foldl_cons,List.length_cons,Nat.pow_succ]
  refine Nat.le_trans ?_ ih
  have h1:a*(10^r.length*10)=a*10*10^r.length:=by rw[Nat.mul_comm (10^r.length) 10,Nat.mul_assoc]
  rw[h1]
  exact Nat.mul_le_mul_right _ (Nat.le_add_right _ _)
theorem fig_ge{l:List Nat}(h:areFig l=true)(h1:l≠[48]):10^(l.length-1)≤digitsVal l:=by
 obtain⟨hd,hne⟩:=areFig_digits h
 cases l with
 |nil=>exact absurd rfl hne
 |cons c r=>
  have hc:=hd c List.mem_cons_self
  have hc2:c≠48:=by
   intro e
   subst e
   unfold areFig at h
   rw[decide_eq_false h1,Bool.false_or]at h
   simp at h
  have :=dv_ge r (0*10+(c-48))
  have h3:1*10^r.length≤(0*10+(c-48))*10^r.length:=Nat.mul_le_mul_right _ (by omega)
  unfold digitsVal
  rw[List.foldl_cons]
  show 10^r.length≤_
  omega
theorem fig_len{l:List Nat}{m:Int}{k:Nat}(h:areFig l=true)(hm:((digitsVal l:Nat):Int)≤m)(hk:m<((10^k:Nat):Int))(h1:1≤k):l.length≤k:=by
 by_cases e:l=[48]
 .subst e
  exact h1
 .have h2:=fig_ge h e
  have h3:10^(l.length-1)<10^k:=by omega
  have h4:=(Nat.pow_lt_pow_iff_right (a:=10) (by decide)).mp h3
  omega
theorem fig_zero{l:List Nat}(h:areFig l=true):digitsVal l=0↔l=[48]:=by
 constructor
 .intro e
  refine Classical.byContradiction λn=>?_
  have h2:=fig_ge h n
  have h3:0<10^(l.length-1):=Nat.pow_pos (by decide)
  omega
 .intro e
  subst e
  rfl
def figN(l:List Nat)(m:Int):Option Int:=if areFig l=true/\((digitsVal l:Nat):Int)≤m then some ((digitsVal l:Nat):Int)else none
def intO:Option Int->V
 |none=>.non
 |some i=>.int i
def spReadF:Sp:=λvs H Q _=>∃(z:Str) (m:Int) (k:Nat),vs=[.str z,.int m]/\z.length≤4000/\0≤m/\m.natAbs<10^60/\(Str.ofString (toString m)).length=k/\m<((10^k:Nat):Int)/\1≤k/\k≤600/\∀H',Same H H'->Q (intO (figN z.cps.toList m)) H'
theorem readNum_above{l:List Nat}(h0:¬l[0]? =some 45):readNum l=figN l 1000000000000000000:=by
 unfold readNum figN isNW wordInt
 rw[if_neg h0,if_neg h0]
 by_cases h:areFig l=true/\((digitsVal l:Nat):Int)≤1000000000000000000
 .have :=fig_len (k:=19) h.1 h.2 (by decide) (by decide)
  rw[if_pos h,if_pos ⟨h.1,by omega,by omega,h.2⟩]
 .rw[if_neg h,if_neg λx=>h ⟨x.1,x.2.2.2⟩]
theorem readNum_below{l:List Nat}(h0:l[0]? =some 45):readNum l=match figN (l.drop 1) 1000000000000000000 with
  |some i=>if i=0 then none else some (-i)
  |none=>none:=by
 unfold readNum figN isNW wordInt
 rw[if_pos h0,if_pos h0]
 have hl:l.length=(l.drop 1).length+1:=by
  cases l with
  |nil=>simp at h0
  |cons c r=>simp
 rw[hl]
 generalize l.drop 1=r
 by_cases h:areFig r=true/\((digitsVal r:Nat):Int)≤1000000000000000000
 .have h2:=fig_len (k:=19) h.1 h.2 (by decide) (by decide)
  have h3:=fig_zero h.1
  rw[if_pos h]
  show _=if((digitsVal r:Nat):Int)=0 then none else some (-((digitsVal r:Nat):Int))
  by_cases e:r=[48]
  .have hz:((digitsVal r:Nat):Int)=0:=by have :=h3.mpr e;omega
   rw[if_pos hz]
   refine if_neg λx=>?_
   rw[Bool.and_eq_true,decide_eq_true_eq]at x
   exact x.1.1 e
  .have hz:¬((digitsVal r:Nat):Int)=0:=λz=>e (h3.mp (by omega))
   rw[if_neg hz]
   exact if_pos ⟨by rw[decide_eq_true e,h.1];rfl,by omega,by omega,by omega⟩
 .rw[if_neg h]
  refine if_neg λx=>?_
  rw[Bool.and_eq_true]at x
  exact h ⟨x.1.2,by omega⟩
end Vl
namespace Vl
open PySem L2 PyProof.Rows My NumText
theorem int_len{n:Int}(h:n.natAbs<10^60):(Str.ofString (toString n)).length≤70:=by
 by_cases h0:0≤n
 .obtain⟨m,rfl⟩:=Int.eq_ofNat_of_zero_le h0
  have :=num_len (m:=m) (k:=60) (by decide) (by simpa using h)
  omega
 .have e:n= -((n.natAbs:Nat):Int):=by omega
  rw[e,num_neg n.natAbs (by omega),len_app]
  have :=num_len (m:=n.natAbs) (k:=60) (by decide) h
  have l1:(Str.ofString "-").length=1:=by decide+kernel
  omega
end Vl
namespace Vl
open PySem L2 PyProof.Rows My NumText
abbrev Ord:=Str×Bool
def OrdAt(H:Hp)(v:V)(o:Ord):Prop:=∃t,v= .ref t/\H t=some (.tup [.str o.1,.bl o.2])
def Ords(H:Hp)(a:Addr)(os:List Ord):Prop:=∃vs:List V,H a=some (.lst vs)/\All2 (OrdAt H) vs os
def mapO{α β:Type}(f:α->Option β):List α->Option (List β)
 |[]=>some []
 |x::r=>match f x,mapO f r with
  |some y,some ys=>some (y::ys)
  |_,_=>none
theorem mapO_none{α β:Type}{f:α->Option β}:∀{l:List α} {x:α},x∈l->f x=none->mapO f l=none
 |y::r,x,h,e=>by
  unfold mapO
  rcases List.mem_cons.mp h with z |z
  .subst z;rw[e]
  .rw[mapO_none z e]
   cases f y<;>rfl
 |[],x,h,_=>by simp at h
theorem mapO_some{α β:Type}{f:α->Option β}:∀{l:List α} {m:List β},l.length=m.length->(∀(i:Nat) x y,l[i]? =some x->m[i]? =some y->f x=some y)->mapO f l=some m
 |[],[],_,_=>rfl
 |x::l,y::m,hl,h=>by
  have h1:=h 0 x y rfl rfl
  have h2:=mapO_some (l:=l) (m:=m) (by simpa using hl) λi x y e1 e2=>h (i+1) x y (by simpa using e1) (by simpa using e2)
  unfold mapO
  rw[h1,h2]
 |[],_::_,hl,_=>by simp at hl
 |_::_,[],hl,_=>by simp at hl
theorem mapO_get{α β:Type}{f:α->Option β}:∀{l:List α} {m:List β},mapO f l=some m->l.length=m.length/\∀(i:Nat) x,l[i]? =some x->∃y,m[i]? =some y/\f x=some y
 |[],m,h=>by
  cases h
  exact⟨rfl,λi x e=>by simp at e⟩
 |x::l,m,h=>by
  unfold mapO at h
  cases h1:f x with
  |none=>rw[h1]at h;cases h
  |some y=>
   cases h2:mapO f l with
   |none=>rw[h1,h2]at h;cases h
   |some ys=>
    rw[h1,h2]at h
    cases h
    obtain⟨a1,a2⟩:=mapO_get h2
    refine⟨by simp[a1],λi z e=>?_⟩
    cases i with
    |zero=>simp at e;subst e;exact⟨y,rfl,h1⟩
    |succ i=>exact a2 i z (by simpa using e)
def ordOf(cs:List Col)(z:Str):Option Ord:=
 if(z.cps.toList[0]? =some 43\/z.cps.toList[0]? =some 45)/\placeF cs (cutS z (some 1) none) 0≠ .non then some (cutS z (some 1) none,decide (z.cps.toList[0]? =some 43))else none
def readOrd(cs:List Col)(z:Str):Option (List Ord):=
 if z="" then some []else if 4<(cutT 32 z).length then none else match mapO (ordOf cs) (cutT 32 z)with
  |none=>none
  |some os=>if(os.map Prod.fst).Nodup then some os else none
def spReadOW(c:Value):Sp:=λvs H Q E=>∃a cs z,vs=[.ref a,.str z]/\Cols H a cs/\z.length≤4000/\
 (∀H',Same H H'->ordOf cs z=none->E c (none,true) H')/\∀p o H',Same H H'->ordOf cs z=some o->H' p=some (.tup [.str o.1,.bl o.2])->Q (.ref p) H'
def spReadO(c:Value):Sp:=λvs H Q E=>∃a cs z,vs=[.ref a,.str z]/\Cols H a cs/\z.length≤4000/\
 (∀H',Same H H'->readOrd cs z=none->E c (none,true) H')/\∀p os H',Same H H'->readOrd cs z=some os->H p=none->Ords H' p os->Q (.ref p) H'
def ordW(o:Ord):Str:=(if o.2=true then Str.ofString "+" else Str.ofString "-")++o.1
def ordT(os:List Ord):Str:=Str.join " " (os.map ordW)
def spOrdT:Sp:=λvs H Q _=>∃a os,vs=[.ref a]/\Ords H a os/\os.length≤4000/\(∀o∈os,o.1.length≤1000)/\∀H',Same H H'->Q (.str (ordT os)) H'
theorem cutT_len(c:Nat)(z:Str):(cutT c z).length≤z.length+1:=by
 have h1:=cutAt_len c z.cps.toList
 unfold cutT
 rw[List.length_map]
 have h2:z.cps.toList.length=z.length:=rfl
 omega
theorem cutT_short{c:Nat}{z y:Str}(h:y∈cutT c z):y.length≤z.length:=by
 have key:∀(l:List Nat) p,p∈cutAt c l->p.length≤l.length:=by
  intro l
  induction l with
  |nil=>intro p hp;have :p=[]:=by simpa [cutAt]using hp
        subst this;simp
  |cons x r ih=>
   intro p hp
   unfold cutAt at hp
   split at hp
   .rcases List.mem_cons.mp hp with z |z
    .subst z;simp
    .have :=ih p z;simp;omega
   .split at hp
    .have :p=[x]:=by simpa using hp
     subst this;simp
    .rename_i a t e
     rw[e]at ih
     rcases List.mem_cons.mp hp with z |z
     .subst z
      have :=ih a (by simp)
      simp;omega
     .have :=ih p (by simp[z]);simp;omega
 unfold cutT at h
 obtain⟨l,hl,rfl⟩:=List.mem_map.mp h
 have :=key _ l hl
 have h2:z.cps.toList.length=z.length:=rfl
 show l.toArray.size≤_
 simp
 omega
end Vl
namespace Vl
open PySem L2 PyProof.Rows My NumText
def placeN:List Col->Str->Nat
 |[],_=>0
 |c::r,z=>if c.1=z then 0 else placeN r z+1
def atN(cs:List Col)(xs:List V)(z:Str):V:=(xs[placeN cs z]?).getD .non
def keyL(cs:List Col)(os:List Ord)(xs:List V):List V:=os.map λo=>atN cs xs o.1
def inC(cs:List Col)(os:List Ord):Prop:=∀o∈os,∃c∈cs,c.1=o.1
def spKey:Sp:=λvs H Q _=>∃a b n c cs os xs,vs=[.ref a,.ref b,.int n,.ref c]/\Cols H a cs/\Ords H b os/\H c=some (.lst xs)/\xs.length=cs.length/\cs.length≤4000/\os.length≤4000/\inC cs os/\
 ∀p l H',Same H H'->H p=none->H l=none->H' l=some (.lst (keyL cs os xs))->H' p=some (.tup [.ref l,.int n])->Q (.ref p) H'
def like(x y:V):Prop:=x= .non\/y= .non\/(∃i j,x= .int i/\y= .int j)\/∃i j,x= .str i/\y= .str j
def aheadF:List Ord->List V->List V->Int->Int->Bool
 |o::os,x::xs,y::ys,n,k=>if x=y then aheadF os xs ys n k else decide (before x y=o.2)
 |_,_,_,n,k=>decide (n<k)
def KeyAt(H:Hp)(p:Addr)(xs:List V)(n:Int):Prop:=∃l,H p=some (.tup [.ref l,.int n])/\H l=some (.lst xs)
def spAhead:Sp:=λvs H Q _=>∃b p q os xs ys n k,vs=[.ref b,.ref p,.ref q]/\Ords H b os/\KeyAt H p xs n/\KeyAt H q ys k/\xs.length=os.length/\ys.length=os.length/\(∀(i:Nat) x y,xs[i]? =some x->ys[i]? =some y->scalar x=true/\scalar y=true/\like x y)/\
 ∀H',Same H H'->Q (.bl (aheadF os xs ys n k)) H'
end Vl
namespace Vl
open PySem L2 PyProof.Rows My NumText
theorem num_fig(m:Nat):areFig (Str.ofString (toString ((m:Nat):Int))).cps.toList=true/\digitsVal (Str.ofString (toString ((m:Nat):Int))).cps.toList=m:=by
 have hd:AllDigits (Str.ofString (toString ((m:Nat):Int))).cps.toList:=num_digits m
 have hv:digitsVal (Str.ofString (toString ((m:Nat):Int))).cps.toList=m:=by rw[num_list];exact PySem.W.KIN.val_back m
 refine⟨?_,hv⟩
 have hne:(Str.ofString (toString ((m:Nat):Int))).cps.toList≠[]:=by rw[num_list];simp[Nat.toDigits_ne_nil]
 have hall:=toDigits_all _ hd
 rw[hv]at hall
 have e:=num_list m
 generalize(Str.ofString (toString ((m:Nat):Int))).cps.toList=l at *
 have hl:l.length=(Nat.toDigits 10 m).length:=by rw[e,List.length_map]
 unfold areFig
 rw[Bool.or_eq_true,Bool.and_eq_true,Bool.and_eq_true,decide_eq_true_eq,decide_eq_true_eq,decide_eq_true_eq]
 cases l with
 |nil=>exact absurd rfl hne
 |cons c r=>
  by_cases h0:c=48
  .subst h0
   left
   rw[List.dropWhile_cons,if_pos (by decide)]at hall
   cases q:r.dropWhile (· ==48)with
   |nil=>
    rw[q]at hall
    rw[hall]at hl
    have :r=[]:=by cases r with
     |nil=>rfl
     |cons _ _=>simp at hl
    rw[this]
   |cons d t=>
    rw[q]at hall
    rw[hall,List.length_map, <-q]at hl
    have :=(List.dropWhile_sublist (p:=λx:Nat=>x==48) (l:=r)).length_le
    rw[List.length_cons]at hl
    omega
  .right
   refine⟨by simp,by simpa using h0,?_⟩
   rw[List.all_eq_true]
   exact λx hx=>decide_eq_true (hd x hx)
theorem readNum_num{i:Int}(h1: -1000000000000000000≤i)(h2:i≤1000000000000000000):readNum (Str.ofString (toString i)).cps.toList=some i:=by
 by_cases h0:0≤i
 .obtain⟨m,rfl⟩:=Int.eq_ofNat_of_zero_le h0
  obtain⟨a,b⟩:=num_fig m
  have hd:=num_digits m
  have hn:¬(Str.ofString (toString ((m:Nat):Int))).cps.toList[0]? =some 45:=λe=>by
   have :=hd 45 (List.mem_of_getElem? e)
   omega
  have e:=readNum_above hn
  unfold figN at e
  rw[a,b,if_pos ⟨rfl,by omega⟩]at e
  exact e
 .obtain⟨m,hm,rfl⟩:∃m:Nat,0<m/\i= -((m:Nat):Int):=⟨i.natAbs,by omega,by omega⟩
  obtain⟨a,b⟩:=num_fig m
  have hl:=num_len (m:=m) (k:=19) (by decide) (by omega)
  have e:(Str.ofString (toString (-((m:Nat):Int)))).cps.toList=45::(Str.ofString (toString ((m:Nat):Int))).cps.toList:=by
   rw[num_neg m hm,cps_app]
   have :(Str.ofString "-").cps.toList=[45]:=by decide+kernel
   rw[this]
   rfl
  have hz:=fig_zero a
  rw[b]at hz
  rw[L2.len_list]at hl
  rw[e]
  generalize(Str.ofString (toString ((m:Nat):Int))).cps.toList=l at a b hz hl⊢
  have hne:l≠[48]:=λq=>by have :=hz.mpr q;omega
  have w1:isNW (45::l)=true:=by
   unfold isNW
   rw[if_pos (show(45::l)[0]? =some 45 from rfl)]
   show(decide (l≠[48])&&areFig l)=true
   rw[a,decide_eq_true hne]
   rfl
  have w2:wordInt (45::l)= -((m:Nat):Int):=by
   unfold wordInt
   rw[if_pos (show(45::l)[0]? =some 45 from rfl)]
   show -((digitsVal l:Nat):Int)=_
   rw[b]
  unfold readNum
  rw[w1,w2,if_pos ⟨rfl,by rw[List.length_cons];omega,h1,h2⟩]
theorem word_int_free(i:Int):∀c∈(Str.ofString (toString i)).cps.toList,c=45\/(48≤c/\c≤57):=by
 intro c hc
 by_cases h0:0≤i
 .obtain⟨m,rfl⟩:=Int.eq_ofNat_of_zero_le h0
  exact .inr (num_digits m c hc)
 .obtain⟨m,hm,rfl⟩:∃m:Nat,0<m/\i= -((m:Nat):Int):=⟨i.natAbs,by omega,by omega⟩
  rw[num_neg m hm,cps_app]at hc
  rcases List.mem_append.mp hc with h |h
  .left
   have :(Str.ofString "-").cps.toList=[45]:=by decide+kernel
   rw[this]at h
   simpa using h
  .exact .inr (num_digits m c h)
theorem word_int_len{i:Int}{k:Nat}(hk:1≤k)(h:i.natAbs<10^k):(Str.ofString (toString i)).length≤k+1:=by
 by_cases h0:0≤i
 .obtain⟨m,rfl⟩:=Int.eq_ofNat_of_zero_le h0
  have :=num_len (m:=m) (k:=k) hk (by simpa using h)
  omega
 .obtain⟨m,hm,rfl⟩:∃m:Nat,0<m/\i= -((m:Nat):Int):=⟨i.natAbs,by omega,by omega⟩
  have :=num_len (m:=m) (k:=k) hk (by simpa using h)
  have e:(Str.ofString "-").length=1:=by decide+kernel
  rw[num_neg m hm,len_app,e]
  omega
theorem q_code:(Str.ofString "?").cps.toList=[63]:=by decide+kernel
theorem ap_code:(Str.ofString "'").cps.toList=[39]:=by decide+kernel
theorem readV_int{i:Int}(h1: -1000000000000000000≤i)(h2:i≤1000000000000000000):readV "number" (wordOf (.int i))=some (.int i):=by
 have hn:¬wordOf (.int i)="?":=λe=>by
  have h:63∈(Str.ofString (toString i)).cps.toList:=by
   have e':Str.ofString (toString i)=Str.ofString "?":=e
   rw[e',q_code]
   simp
  have :=word_int_free i 63 h
  omega
 unfold readV
 rw[if_neg hn,if_pos rfl]
 show numV (readNum (Str.ofString (toString i)).cps.toList)=_
 rw[readNum_num h1 h2]
 rfl
theorem isTxt_of{z:Str}(hl:z.length≤20)(h:∀c∈z.cps.toList,c∈SG):isTxt (.str z)=true:=by
 show(decide (z.length≤20)&&madeOf z TSs)=true
 rw[decide_eq_true hl,Bool.true_and]
 unfold madeOf
 rw[List.all_eq_true]
 exact λc hc=>decide_eq_true (sg_ts c (h c hc))
theorem cut_ap(z:Str):cutS (Str.ofString "'"++z) (some 1) none=z:=by
 apply str_ext
 have :=cutS_from (Str.ofString "'"++z) 1
 rw[show((1:Nat):Int)=1 from rfl]at this
 rw[this,cps_app,ap_code]
 rfl
theorem txt_ne_num:¬(("text":Str)="number"):=by decide+kernel
theorem readV_str{z:Str}(hl:z.length≤20)(h:∀c∈z.cps.toList,c∈SG):readV "text" (wordOf (.str z))=some (.str z):=by
 have e:wordOf (.str z)=Str.ofString "'"++z:=rfl
 have h0:(Str.ofString "'"++z).cps.toList[0]? =some 39:=by rw[cps_app,ap_code];rfl
 have hn:¬Str.ofString "'"++z="?":=λe=>by
  have e':Str.ofString "'"++z=Str.ofString "?":=e
  rw[e',q_code]at h0
  simp at h0
 rw[e]
 unfold readV
 rw[if_neg hn,if_neg txt_ne_num]
 unfold readTxt
 rw[cut_ap,if_pos ⟨h0,isTxt_of hl h⟩]
 rfl
theorem blank_code:(Str.ofString " ").cps.toList=[32]:=by decide+kernel
theorem cut_join{ps:List Str}(h:ps≠[])(hf:∀p∈ps,32∉p.cps.toList):cutT 32 (Str.join " " ps)=ps:=by
 unfold cutT
 have e:(Str.join " " ps).cps.toList=glueL 32 (ps.map λp=>p.cps.toList):=join_glue 32 ps
 rw[e,cutAt_glue (by simpa using h) λp hp=>?_,List.map_map]
 .have :((λl:List Nat=>(⟨l.toArray⟩:Str))∘λp:Str=>p.cps.toList)=id:=by
   funext p
   rfl
  rw[this,List.map_id]
 .obtain⟨q,hq,rfl⟩:=List.mem_map.mp hp
  exact hf q hq
theorem repS_go(x:Nat):∀(k:Nat) (acc:Array Nat),((List.replicate k #[x]).foldl (· ++ ·) acc).toList=acc.toList++List.replicate k x
 |0,acc=>by simp
 |k+1,acc=>by
  rw[List.replicate_succ,List.foldl_cons,repS_go x k,List.replicate_succ]
  simp
theorem repS_one(x:Nat)(n:Int)(h:0≤n):(repS (⟨#[x]⟩:Str) n).cps.toList=List.replicate n.toNat x:=by
 show((List.replicate n.toNat #[x]).foldl (· ++ ·) #[]).toList=_
 rw[repS_go]
 simp
end Vl
namespace L2
open PySem PySem.Spec PyProof.Rows PySem.W
section
variable{X:Cx}{σ:St}{H:Hp}{Q:VK}{a:Addr}
def insAt{α:Type}(xs:List α)(k:Nat)(y:α):List α:=xs.take k++y::xs.drop k
def rInsert:V->List V->Hp->VK->Prop:=λx vs H Q=>∃l xs k y,x= .ref l/\vs=[.int (k:Nat),y]/\H l=some (.lst xs)/\k≤xs.length/\xs.length<sizeLine/\Q .non (upd H l (.lst (insAt xs k y)))
theorem mt_insert:MtM X "list.insert" rInsert:=by
 intro pins s σ H x vs v us Q I rx rv h
 obtain⟨l,xs,k,y,rfl,rfl,hH,hk,hz,q⟩:=h
 cases rx
 obtain⟨u0,u,rfl,ru0,ru⟩:=rv.two
 obtain⟨t,rfl⟩:=ru0
 have hsz:sizeLine=16777216:=sizeLine_eq
 obtain⟨z,its,n,r,hl,e⟩:=I.lstM hH
 obtain⟨i,hi⟩:∃i:Int,i=(k:Int):=⟨_,rfl⟩
 rw[<-hi]
 have hf:Builtin.List.listFitsIndex i=true:=fitsIndex_both (by omega) (by omega)
 have hm:=PySem.AutoSeq1.list_insert_list_int_val_1 l its.toArray n i t u (by rw[hf];decide) (by rw[List.size_toArray];omega)
 refine call_meets F.slot_list_insert ⟨_,e,rfl⟩ F.entry_list_insert (F.args_list_insert_3 (.ref l) (.int i t) u) hm ⟨e,?_⟩
 refine⟨.non,_,I.lset (its':=insAt its k u) hH e ?_ ((r.take k).append (.cons ru (r.drop k))) ?_,rfl,q⟩
 .show(its.toArray.extract 0 (if i<0 then(i+(its.toArray.size:Int)).toNat else min i.toNat its.toArray.size)).push u++its.toArray.extract (if i<0 then(i+(its.toArray.size:Int)).toNat else min i.toNat its.toArray.size)=(insAt its k u).toArray
  rw[if_neg (by omega),hi,Int.toNat_natCast,List.size_toArray,Nat.min_eq_left (by omega)]
  unfold insAt
  apply Array.toList_inj.mp
  simp
  rw[List.take_of_length_le (by rw[List.length_drop];omega)]
 .rw[List.length_append,List.length_cons,List.length_take,List.length_drop]
  omega
end
end L2
namespace Vl
open PySem L2 PyProof.Rows My
section
variable{α β:Type}
def aGet(m:List (Int×α))(i:Int):Option α:=(m.find? λp=>decide (p.1=i)).map (·.2)
def aPut(m:List (Int×α))(i:Int)(x:α):List (Int×α):=if(m.any λp=>decide (p.1=i))=true then m.map (λp=>if p.1=i then(p.1,x)else p)else m++[(i,x)]
def aDrop(m:List (Int×α))(i:Int):List (Int×α):=m.filter λp=>decide (p.1≠i)
abbrev PR(R:V->α->Prop)(kv:Key×V)(p:Int×α):Prop:=kv.1=Sum.inl p.1/\R kv.2 p.2
def DictAt(R:V->α->Prop)(H:Hp)(a:Addr)(m:List (Int×α)):Prop:=∃kvs,H a=some (.dK kvs)/\All2 (PR R) kvs m
def Out(S:List Addr)(H H':Hp):Prop:=∀b o,b∉S->H b=some o->H' b=some o
theorem Out.refl(S:List Addr)(H:Hp):Out S H H:=λ_ _ _ h=>h
theorem Out.trans{S:List Addr}{H H1 H2:Hp}(a:Out S H H1)(b:Out S H1 H2):Out S H H2:=λc o hc h=>b c o hc (a c o hc h)
theorem Out.of{S:List Addr}{H H':Hp}(h:Same H H'):Out S H H':=λb o _ e=>h b o e
theorem Out.upd{S:List Addr}{H:Hp}{a:Addr}{o:HO}(h:a∈S):Out S H (upd H a o):=λb u hb e=>by
 rw[upd_ne (λz=>hb (by rw[z];exact h))]
 exact e
def TupAt(H:Hp)(v:V)(xs:List V):Prop:=∃t,v= .ref t/\H t=some (.tup xs)
def OptAt(H:Hp)(v:V):Option (List V)->Prop
 |none=>v= .non
 |some xs=>TupAt H v xs
structure Deed where
 at_:Int
 row:Int
 was:Option (List V)
 is:Option (List V)
def DeedAt(H:Hp)(v:V)(d:Deed):Prop:=∃t w u,v= .ref t/\H t=some (.tup [.int d.at_,.int d.row,w,u])/\OptAt H w d.was/\OptAt H u d.is
structure Bk where
 heads:List Col
 rows:List (Int×List V)
 touched:List (Int×Int)
 done:List Deed
 known:Int
 now:Int
structure BA where
 b:Addr
 dx:Addr
 h:Addr
 r:Addr
 t:Addr
 d:Addr
def IntAt(v:V)(i:Int):Prop:=v= .int i
structure BookAt(C:Addr)(H:Hp)(A:BA)(B:Bk):Prop where
 ins:H A.b=some (.ins C A.dx [("heads",.ref A.h),("rows",.ref A.r),("touched",.ref A.t),("done",.ref A.d),("known",.int B.known),("now",.int B.now)])
 own:H A.dx=some (.own A.b)
 heads:Cols H A.h B.heads
 rows:DictAt (TupAt H) H A.r B.rows
 touched:DictAt IntAt H A.t B.touched
 done:∃xs,H A.d=some (.lst xs)/\All2 (DeedAt H) xs B.done
 rt:A.r≠A.t
 hd:A.h≠A.d
def BA.fp(A:BA):List Addr:=[A.b,A.r,A.t,A.d]
section
variable{C:Addr}{H H':Hp}{A:BA}{B:Bk}
end
end
end Vl
namespace L2
open PySem PySem.Spec PyProof.Rows PySem.W
section
variable{prog:Program}{w:World}{A:Around}{E:Value->Shared->Prop}{s:Shared}
variable{I:Addr}{fp wr:List Addr}{G:Array GenState->Array GenState->Prop}{n:Nat}{P:Nat->Value->Prop}{St:Nat->Shared->Prop}
end
section
variable{X:Cx}{σ:St}{H:Hp}{Q:VK}{a:Expr}{p pos p' pos':Pos}
end
end L2
namespace L2
open PySem PySem.Spec PyProof.Rows PySem.W
section
variable{X:Cx}{σ:St}{H:Hp}{Q:VK}{D:Ends}{o e f:Expr}{apos cpos pos:Pos}
end
end L2
namespace L2
open PySem PySem.Spec PyProof.Rows PySem.W
section
variable{X:Cx}{pins:List (Addr×Obj)}{σ:St}{H:Hp}{s:Shared}{d:Addr}
end
def Itd(ks:List Int):It:=⟨λi _=>i<ks.length,λi H x H'=>H'=H/\∃k,ks[i]? =some k/\x= .int k,λi _=>i=ks.length⟩
section
variable{X:Cx}{σ:St}{H:Hp}{a e:Expr}{tg:Expr}{pos:Pos}{R:It->Hp->Prop}{D:Ends}
end
end L2
namespace L2
open PySem PySem.Spec PyProof.Rows PySem.W
section
variable{X:Cx}{H:Hp}{Q:VK}{e C:Addr}{D:Option Addr}{k:Bool}
theorem c_isXn{p:Addr}{as:List V}{us:List Value}(ca:XAttr X.K C)(he:H e=some (xw e C D))(hd:∀E',D=some E'->∃fs,H E'=some (.xd fs))(hp:H p=some (.tup as))(hu:∀vs,Vals as vs->vs=us)(ek:PySem.W.kitAny X.K (.ref C) us=some k)(q:Q (.bl k) H):CL X (.builtin "isinstance") [.ref e,.ref p] H Q:=by
 refine cl_by (r:=λxs H Q=>xs=[.ref e,.ref p]/\H e=some (xw e C D)/\(∀E',D=some E'->∃fs,H E'=some (.xd fs))/\H p=some (.tup as)/\Q (.bl k) H) ?_ ⟨rfl,he,hd,hp,q⟩
 intro pins s σ H xs us' Q I r h
 obtain⟨rfl,he,hd,hp,q⟩:=h
 obtain⟨u1,u2,rfl,r1,r2⟩:=vals2 r
 cases(show u1=Value.ref e from r1)
 cases(show u2=Value.ref p from r2)
 obtain⟨ox,od,J,_⟩:=I.inst he hd
 obtain⟨_,its,rv,ob,hob,hcl,hdt⟩:=I.hok p _ hp
 rw[hu its rv]at hdt
 obtain⟨n,hdt⟩:=hdt
 obtain⟨oc,odd,oda,osl⟩:=ob
 dsimp only at hcl hdt
 subst hcl hdt
 exact PySem.W.kia_tup (kitx_x ca) I.kIn ⟨ox,od,J⟩ hob ek (λz=>nomatch z) λtk=>⟨.bl k,H,I.tok tk,rfl,q⟩
theorem vals_refs:∀(as:List Addr) (vs:List Value),Vals (as.map V.ref) vs->vs=as.map Value.ref
 |[],_,.nil=>rfl
 |a::as,_,.cons r t=>by
  cases(show _=Value.ref a from r)
  rw[vals_refs as _ t]
  rfl
end
section
variable{X:Cx}{σ σ':St}{H:Hp}{Q:VK}{a b tg elt:Expr}{scope:Scope}{p p' pos:Pos}
end
end L2
namespace L2
open PySem PySem.Spec PyProof.Rows PySem.W
section
variable{X:Cx}{H:Hp}{Q:VK}
end
end L2
namespace L2
open PySem PySem.Spec PyProof.Rows PySem.W
section
variable{X:Cx}{H:Hp}{Q:VK}
variable{σ:St}{a b tg:Expr}{p p' pos:Pos}{D:Ends}
end
end L2
namespace L2
open PySem PySem.Spec PyProof.Rows PySem.W
section
variable{X:Cx}{σ:St}{H:Hp}{Q:VK}{pos:Pos}
end
end L2
namespace L2
open PySem PySem.Spec PyProof.Rows
def refAt:Option Addr->Value
 |none=>.none
 |some b=>.ref b
theorem Linked.nodes{h:Heap}:∀{L:List Addr} {c:Option Value},Linked h c L->∀{i:Nat} {a:Addr},L[i]? =some a->∃o vs,h.get? a=some o/\o.data= .fields vs/\vs[2]? =some (refAt L[i+1]?)
 |[],_,_,i,a,e=>by simp at e
 |b::r,c,⟨_,o,vs,q2,q3,q4⟩,0,a,e=>by
  have z:b=a:=by simpa using e
  subst z
  refine⟨o,vs,q2,q3,?_⟩
  cases r with
  |nil=>exact q4
  |cons x r=>exact q4.1
 |b::r,c,⟨_,o,vs,q2,q3,q4⟩,i+1,a,e=>by
  have e':r[i]? =some a:=by simpa using e
  obtain⟨o',vs',k1,k2,k3⟩:=q4.nodes e'
  exact⟨o',vs',k1,k2,by simpa using k3⟩
section
variable{prog:Program}{w:World}{A:Around}{E:Value->Shared->Prop}{s:Shared}{env:Env}
theorem entry_unchain:entryFor table "proto.unchain"=some Builtin.«proto.unchain» :=entryFor_of_tree (by kernel_rfl)
theorem unchain_from{e:Addr}{R:Result->Shared->Prop}{L:List Addr}{c:Option Value}(hL:Linked s.heap c L)(hn:L.Nodup)(he:e∉L)(k:R (.ok (.ret .none)) s):
  ∀(n i j:Nat) (o sl:Addr) (tg:Bool),L.length-i=n->L[i]? =some o->L[j]? =some sl->j≤i->codeAny (model prog w) A (.builtin "proto.unchain" ⟨[.ref e,.ref o,.ref sl,.bool tg],[]⟩) R s
 |0,i,j,o,sl,tg,hni,hi,hj,hji=>by
  have :=(List.getElem?_eq_some_iff.mp hi).1
  omega
 |n+1,i,j,o,sl,tg,hni,hi,hj,hji=>by
  obtain⟨oo,vs,q1,q2,q3⟩:=hL.nodes hi
  cases hb:L[i+1]? with
  |none=>
   rw[hb]at q3
   refine codeAny_builtin entry_unchain ?_
   unfold Builtin.«proto.unchain»
   refine wpAny_bind (wpAny_field (x:=Value.none) q1 q2 q3 ?_)
   rw[if_pos (by rfl)]
   exact wpAny_pure k
  |some b=>
   rw[hb]at q3
   refine codeAny_builtin entry_unchain ?_
   unfold Builtin.«proto.unchain»
   refine wpAny_bind (wpAny_field (x:=Value.ref b) q1 q2 q3 ?_)
   have hbm:b∈L:=List.mem_of_getElem? hb
   have hbe:b≠e:=λz=>he (z▸hbm)
   have hbs:b≠sl:=λz=>by
    obtain⟨p1,r1⟩:=List.getElem?_eq_some_iff.mp hb
    obtain⟨p2,r2⟩:=List.getElem?_eq_some_iff.mp hj
    have :=(List.getElem_inj hn (h₀:=p1) (h₁:=p2)).mp (r1.trans (z.trans r2.symm))
    omega
   rw[if_neg (show ¬((Value.ref b==Value.none)=true)from by simp)]
   rw[if_neg (show ¬((Value.ref b==Value.ref e)=true)from by simpa using hbe)]
   rw[if_neg (show ¬((Value.ref b==Value.ref sl)=true)from by simpa using hbs)]
   have hlt:=(List.getElem?_eq_some_iff.mp hb).1
   cases tg with
   |false=>
    refine wpAny_bind (wpAny_pure ?_)
    refine wpAny_pure ⟨Code.quiet_builtin _ (by decide+kernel),?_⟩
    exact unchain_from hL hn he k n (i+1) j b sl true (by omega) hb hj (by omega)
   |true=>
    obtain⟨os,ws,t1,t2,t3⟩:=hL.nodes hj
    have hj1:j+1<L.length:=by omega
    rw[List.getElem?_eq_getElem hj1]at t3
    refine wpAny_bind (wpAny_field (x:=Value.ref L[j+1]) t1 t2 t3 ?_)
    refine wpAny_pure ⟨Code.quiet_builtin _ (by decide+kernel),?_⟩
    exact unchain_from hL hn he k n (i+1) (j+1) b _ false (by omega) hb (List.getElem?_eq_getElem hj1) (by omega)
theorem unchain_ok{e h:Addr}{b:Bool}{oh:Obj}{vs:Array Value}{Q:Value->Shared->Prop}(hh:s.heap.get? h=some oh)(hd:oh.data= .fields vs)(hc:Ctx s.heap h b vs[2]?)(hev:∀l,Linked s.heap vs[2]? l->e∉l)(hne:h≠e)(k:Q .none s):
  wpAny (model prog w) A (runValue (.builtin "proto.unchain" ⟨[.ref e,.ref h,.ref h,.bool false],[]⟩)) Q E s:=by
 refine wpAny_runValue ?_
 obtain⟨_,l,q1,q2,q3⟩:=hc
 have hL:Linked s.heap (some (.ref h)) (h::l):=⟨rfl,oh,vs,hh,hd,q1⟩
 refine unchain_from hL (List.nodup_cons.mpr ⟨q2,q3⟩) (λz=>?_) k (l.length+1) 0 0 h h false rfl rfl rfl (Nat.le_refl _)
 rcases List.mem_cons.mp z with z |z
 .exact hne z.symm
 .exact hev l q1 z
end
section
variable{prog:Program}{w:World}{A:Around}{E:Value->Shared->Prop}{s:Shared}{env:Env}
variable{nm q:Str}{C N:Addr}{bs bm:List Value}{hdct:Bool}{sn:List Str}{sub:List Value}{ab:Bool}{col:Option Bool}{dd:Option Addr}{k0 k1 k2 k3 k5:Option Value}
theorem fields_turned{h:Heap}{e:Addr}{o:Obj}{vs:Array Value}{i:Nat}{x:Value}(he:h.get? e=some o)(hd:o.data= .fields vs):(h.update e (Obj.mapFields (·.setIfInBounds i x))).get? e=some {o with data:=.fields (vs.setIfInBounds i x)}:=by
 rw[Heap.get?_update_self _ he (Obj.isFreed_of_fields (Obj.data_mapFields hd _))]
 obtain⟨c,d,dt,sl⟩:=o
 cases hd
 rfl
theorem updateField_ok{M:Model}{a:Addr}{o:Obj}{vs:Array Value}{i:Nat}{x:Value}{Q:Unit->Shared->Prop}(ho:s.heap.get? a=some o)
  (hd:o.data= .fields vs) (hi:i<vs.size) (h:Q () {s with heap:=s.heap.update a (Obj.mapFields (·.setIfInBounds i x))}):
  wpAny M A (updateField a i x) Q E s:=by
 have :=wpAny_setField (M:=M) (A:=A) (E:=E) (i:=i) (x:=x) ho hd hi h
 exact this
theorem raise_obj_from{h:Addr}{x c:Sem Value}{Q:Flow->Shared->Prop}(hbase:bm.contains (.type "BaseException")=true)(hh:A.handled=some (.ref h))
  (hc:∀(P:Value->Shared->Prop) s',P .none s'->wpAny (model prog w) A c P E s')
  (hx:wpAny (model prog w) A x (λv s₁=>∃e t D oh vs b,v= .ref e/\s₁.heap.get? C=some (excClassObj nm q C N bs bm hdct sn sub ab col dd k0 k1 k2 k3 k5 "ValueError.__new__")/\
   s₁.heap.get? e=some {cls:=.ref C,dict:=D,data:=.fields #[.ref t,.none,.none,.none,.bool false,.none]}/\h≠e/\s₁.heap.get? h=some oh/\oh.data= .fields vs/\Ctx s₁.heap h b vs[2]? /\(∀l,Linked s₁.heap vs[2]? l->e∉l)/\
   ∀h',(∀b,b≠e->h'.get? b=s₁.heap.get? b)->h'.get? e=some {cls:=.ref C,dict:=D,data:=.fields #[.ref t,.none,.ref h,.none,.bool true,.none]}->E (.ref e) {s₁ with heap:=h'}) E s):
  wpAny (model prog w) A (raiseStmt env (some x) (some c)) Q E s:=by
 have hcB:(Value.ref C::bm).contains (.type "BaseException")=true:=by rw[List.contains_cons,hbase,Bool.or_true]
 unfold raiseStmt
 refine wpAny_bind (wpAny_mono hx (λv s₁ h₁=>?_) λ_ _ x=>x)
 obtain⟨e,t,D,oh,vs,b,rfl,hC,he,hne,hoh,hod,hcx,hev,hE⟩:=h₁
 obtain⟨hp,g,d,tk,os⟩:=s₁
 have hCe:C≠e:=λz=>by rw[z,he]at hC;cases hC
 have ex:∀(P:Value->Shared->Prop),P (.ref e) ⟨hp,g,d,tk,os⟩->wpAny (model prog w) A (excFromValue (.ref e) "exceptions must derive from BaseException") P E ⟨hp,g,d,tk,os⟩:=by
  intro P hP
  unfold excFromValue
  repeat (first |with_reducible refine wpAny_loadPart_at he ?_ |with_reducible refine wpAny_loadPart_at hC ?_ |(with_reducible refine wpAny_isSubtype_exc hC ?_;rw[hcB]) |wp_step)
  exact hP
 refine wpAny_bind (wpAny_holding (hc _ _ ?_))
 refine wpAny_bind (wpAny_pure ?_)
 refine wpAny_bind (wpAny_holding (ex _ ?_))
 dsimp only
 rw[if_pos (by rfl)]
 refine wpAny_bind (wpAny_pure ?_)
 refine wpAny_bind (wpAny_setField he rfl (by simp) ?_)
 have e1:=fields_turned (i:=3) (x:=Value.none) he rfl
 have o1:∀b,b≠e->(hp.update e (Obj.mapFields (·.setIfInBounds 3 Value.none))).get? b=hp.get? b:=λb hb=>Heap.get?_update_other _ _ (Ne.symm hb)
 generalize hp.update e (Obj.mapFields (·.setIfInBounds 3 Value.none))=hp1 at e1 o1⊢
 refine wpAny_bind (wpAny_setField e1 rfl (by simp) ?_)
 have e2:=fields_turned (i:=4) (x:=Value.bool true) e1 rfl
 have o2:∀b,b≠e->(hp1.update e (Obj.mapFields (·.setIfInBounds 4 (Value.bool true)))).get? b=hp.get? b:=λb hb=>(Heap.get?_update_other _ _ (Ne.symm hb)).trans (o1 b hb)
 dsimp only
 generalize hp1.update e (Obj.mapFields (·.setIfInBounds 4 (Value.bool true)))=hp2 at e2 o2⊢
 have e2':hp2.get? e=some {cls:=.ref C,dict:=D,data:=.fields #[.ref t,.none,.none,.none,.bool true,.none]}:=e2
 have hC2:=(o2 C hCe).trans hC
 have step:∀(P:Flow->Shared->Prop),wpAny (model prog w) A (raiseNew (.ref e)) P E ⟨hp2,g,d,tk,os⟩->wpAny (model prog w) A (do
   let e<-if <-isType (.ref e)then holding [.ref e] (raisedFor (.ref e) (.ref e))else raisedInstance (.ref e)
   setFlight e none
   raiseNew e) P E ⟨hp2,g,d,tk,os⟩:=by
  intro P hP
  repeat (first |with_reducible refine wpAny_loadPart_at e2' ?_ |with_reducible refine wpAny_loadPart_at hC2 ?_ |(with_reducible refine wpAny_isSubtype_exc hC2 ?_;rw[hcB]) |wp_step)
  exact hP
 refine step _ ?_
 unfold raiseNew
 refine wpAny_bind (wpAny_handled ?_)
 rw[hh]
 dsimp only
 rw[if_pos (show(Value.ref h !=Value.ref e)=true from by simpa using hne)]
 have kk:∀v o ws,v≠e->hp.get? v=some o->o.data= .fields ws->∃o' ws',hp2.get? v=some o'/\o'.data= .fields ws'/\ws'[2]? =ws[2]? :=λv o ws hv q1 q2=>⟨o,ws,(o2 v hv).trans q1,q2,rfl⟩
 have kb:∀v o ws,v≠e->hp2.get? v=some o->o.data= .fields ws->∃o' ws',hp.get? v=some o'/\o'.data= .fields ws'/\ws'[2]? =ws[2]? :=λv o ws hv q1 q2=>⟨o,ws,(o2 v hv).symm.trans q1,q2,rfl⟩
 have hcx2:Ctx hp2 h b vs[2]? :=by
  obtain⟨c1,l,c2,c3,c4⟩:=hcx
  exact⟨c1,l,c2.stay kk (hev l c2),c3,c4⟩
 have hev2:∀l,Linked hp2 vs[2]? l->e∉l:=by
  intro l hl
  obtain⟨_,l',c2,_,_⟩:=hcx
  have n1:=hev l' c2
  have c2':=c2.stay kk n1
  have uniq:∀(l l':List Addr) (c:Option Value),Linked hp2 c l->Linked hp2 c l'->l=l':=by
   intro l
   induction l with
   |nil=>
    intro l' c a1 a2
    cases l' with
    |nil=>rfl
    |cons y l'=>rw[a2.1]at a1;cases a1
   |cons y l ih=>
    intro l' c a1 a2
    cases l' with
    |nil=>have z:=a1.1;rw[show c=_ from a2]at z;cases z
    |cons y' l'=>
     obtain⟨b1,o,ws,b2,b3,b4⟩:=a1
     obtain⟨b1',o',ws',b2',b3',b4'⟩:=a2
     rw[b1]at b1'
     cases b1'
     rw[b2]at b2'
     cases b2'
     rw[b3]at b3'
     cases b3'
     rw[ih l' _ b4 b4']
  rw[uniq l l' _ hl c2']
  exact n1
 refine wpAny_bind (wpAny_holding (unchain_ok (s:=⟨hp2,g,d,tk,os⟩) ((o2 h hne).trans hoh) hod hcx2 hev2 hne ?_))
 refine wpAny_bind (updateField_ok (i:=2) (x:=Value.ref h) e2' rfl (by simp) ?_)
 refine wpAny_throw (hE _ (λb hb=>?_) ?_)
 .exact(Heap.get?_update_other _ _ (Ne.symm hb)).trans (o2 b hb)
 .exact fields_turned e2' rfl
end
end L2
namespace L2
open PySem PySem.Spec PyProof.Rows
section
variable{X:Cx}{Kx:St->XK}{D:Ends}{σ:St}{H:Hp}{rest:List ExceptHandler}{pos np ynp cpos rpos p0:Pos}{x y fld:Str}{cls c:Value}{d:Option Addr×Bool}{a:Expr}{as:List Expr}{cc:Bool}{k k' j0:Nat}
theorem Ch.uninEx{e:Value}{F:Value->Shared->Prop}{pins pins':List (Addr×Obj)}{b:Addr}(c:Ch (X.inEx e F (X.pn++pins)) pins' b):Ch X pins b:=⟨c.1,c.2.1,c.2.2.1,λp hp=>c.2.2.2 p (List.mem_append_left _ hp)⟩
theorem back_ok{F:Value->Shared->Prop}{pins pins':List (Addr×Obj)}{s:Shared}{h:Value}{e:Addr}(hx:XOk X Kx)(hst:X.stack=X.env::X.outer)(hf:X.env.frame=some X.env.locals)(ok:X.Ok)(xa:XAt (X.inEx h F (X.pn++pins)) pins' σ H s e cls d)(q:Kx σ cls d H):
  notedBy (model X.prog X.w) (X.A.mark (some h)) X.env (cameBackBy (model X.prog X.w) X.A X.env X.xe) (.ref e) s:=by
 unfold notedBy
 refine XAt.note (X:=X.inEx h F (X.pn++pins)) xa hst hf λs1 T I1 F1 c1=>?_
 obtain⟨oe,vs,he,hc,hdx,hd,h1,hz,h2,hT⟩:=id F1
 obtain⟨hne,oT,ws,t1,t2,t3⟩:=hT T rfl
 have h3:3<ws.size:=(Array.getElem?_eq_some_iff.mp t3).1
 have h1':vs[1]? =some (Value.ref T):=h1
 unfold cameBackBy
 refine wpAny_bind (wpAny_field he hd h1' ?_)
 rw[if_neg (show ¬((Value.ref T==Value.none)=true)from by simp)]
 unfold setFlight
 refine wpAny_bind (wpAny_field he hd h1' ?_)
 rw[if_pos (show(Value.ref T !=Value.none)=true from by simp),hf]
 refine wpAny_setField t1 t2 h3 ?_
 have I2:=Inv.uninEx ok I1
 have oth:∀b,b≠T->(s1.heap.update T (Obj.mapFields (·.setIfInBounds 3 (rawInt X.env.locals)))).get? b=s1.heap.get? b:=λb hb=>Heap.get?_update_other _ _ (Ne.symm hb)
 have slf:=Heap.get?_update_self (Obj.mapFields (·.setIfInBounds 3 (rawInt X.env.locals))) t1 (Obj.isFreed_of_fields (Obj.data_mapFields t2 _))
 have N:Noted s1.heap (s1.heap.update T (Obj.mapFields (·.setIfInBounds 3 (rawInt X.env.locals)))) [T] (frs X.stack):=by
  refine⟨λb o q _ n=>(oth b (λz=>n (by simp[z]))).trans q,λb o q n=>⟨o.slots,(oth b (λz=>n (by simp[z]))).trans q⟩,λb o q=>?_⟩
  by_cases z:b=T
  .subst z;exact⟨_,slf⟩
  .exact⟨o,(oth b z).trans q⟩
 have ch:∀b∈[e,T],H b=none/\Ch X pins b:=λb hb=>⟨(c1 b hb).1,(c1 b hb).2.uninEx⟩
 refine hx pins σ H _ e cls d ⟨I2.noted N λb hb=>?_,some T,rawInt X.env.locals,⟨oe,vs,(oth e (Ne.symm hne)).trans he,hc,hdx,hd,h1,hz,h2.stay λv o ws' hv q1 q2=>?_,λT' eT=>?_⟩,.inr ⟨rfl,rfl⟩,λb hb=>ch b (by simpa using hb)⟩ q
 .have z:b=T:=by simpa using hb
  subst z
  exact ch b (by simp)
 .by_cases z:v=T
  .subst z
   rw[t1]at q1
   cases q1
   exact⟨_,_,slf,Obj.data_mapFields q2 _,by rw[Array.getElem?_setIfInBounds_ne (by decide)]⟩
  .exact⟨o,ws',(oth v z).trans q1,q2,rfl⟩
 .cases eT
  exact⟨hne,_,_,slf,Obj.data_mapFields t2 _,by simp[h3]⟩
theorem not_frame{pins:List (Addr×Obj)}{s:Shared}(I:Inv X pins σ H s){e:Addr}{oe:Obj}{vs:Array Value}(he:s.heap.get? e=some oe)(hd:oe.data= .fields vs):e∉X.fs:=λm=>by
 obtain⟨_,o,ho,nf⟩:=I.funs.mem m
 rw[he]at ho
 cases ho
 exact nf vs hd
theorem none_ok{M:Model}{A:Around}{E:Value->Shared->Prop}{env:Env}{p p':Pos}{j:Nat}(P:Value->Shared->Prop)(s:Shared)(h:P .none s):wpAny M A (do let v<-eval (.Constant .none j p) env;standAt p';pure v) P E s:=
 wpAny_bind (Constant_none (wpAny_bind (wpAny_standAt (wpAny_pure h))))
theorem eh_fromI(hx:XOk X Kx)(hst:X.stack=X.env::X.outer)(hf:X.env.frame=some X.env.locals)(hg:Gl X x)(hm:X.mg x=some c)(hd:(x==("__debug__":Str))=false)(ex:PySem.W.exmOne X.K cls c=some true)(hd2:d.2=true)
  (O:XDef X.prog X.w X.K X.mg X.base false k y fld) (hr:Room cc k' X.A) (hk:k+1≤k') (hgy:Gl X y) (hdy:(y==("__debug__":Str))=false) (he:starEach (a::as) X.env=(false,eval a X.env)::starEach as X.env)
  (hpl:(backTo cpos (starEach as X.env)).any (·.1)=false)
  (h:∀e pn,EA (X.inEx (.ref e) (λ_ _=>False) pn) (a::as) σ H λvs H1=>∃n,vs=[.int n]/\n.natAbs<10^60/\∀E' H',Same H1 H'->H' E'=some (.xd [(fld,.int n)])->Kx σ (.ref (clsA X.mg y)) (some E',false) H'):
  EH X (.ExceptHandler (some (.Name x np)) none [.Raise (some (.Call (.Name y ynp) (a::as) [] cpos)) (some (.Constant .none j0 p0)) rpos] pos::rest) D σ cls d H:=by
 intro pins s e T I F ch
 refine wpAny_handleBy_cons (test_ok I F hg hm hd ex ?_) (by intro q;cases q)
 refine codeAny_handlers_suite (I.off F ch λs2 I2 F2=>?_)
 obtain⟨oe,ves,hoe,hcl,hdx,hdt,_,hsz2,hctx,_⟩:=F2
 obtain⟨f,fd,ps,oc,od,osl,Fn,hb,hi,hlk,hoc⟩:=O.ex
 obtain⟨bm,N,nm,q,bs,hdct,sn,sub,ab,col,dd,k0,k1,k2,k3,k5,mN,hC,hN,hni,T'⟩:=ini_obj I.ok.mod.kin hi
 obtain⟨c0,c1⟩:=ch e (by simp)
 let Y:Cx:=X.inEx (.ref e) (λ_ _=>False) (X.pn++pins)
 have J0:Inv Y [] σ H s2:=I2.inEx
 have J:Inv Y [(e,oe)] σ H s2:=J0.pins_of λp hp=>by
  have z:p=(e,oe):=by simpa using hp
  subst z
  exact⟨hoe,c0,c1.2.1,not_frame I2 hoe hdt,λv z=>by rw[hdt]at z;cases z⟩
 have hr':Room false (k+1) Y.A:=⟨(λz=>nomatch z),(hr.mono hk).dp,(hr.mono hk).un⟩
 refine wpAny_execs_cons (wpAny_mono (Q:=λ_ _=>False) (E:=notedBy (model X.prog X.w) (X.A.mark (some (.ref e))) X.env (cameBackBy (model X.prog X.w) X.A X.env X.xe)) ?_ (λ_ _ z=>z.elim) λ_ _ z=>z)
 rw[arm_exec_Raise]
 refine wpAny_bind (wpAny_standAt (raise_obj_from (h:=e) (C:=clsA X.mg y) (nm:=nm) (q:=q) (N:=N) (bs:=bs) (bm:=bm) (hdct:=hdct) (sn:=sn) (sub:=sub) (ab:=ab) (col:=col) (dd:=dd) (k0:=k0) (k1:=k1) (k2:=k2) (k3:=k3) (k5:=k5) (T'.hasType (by decide+kernel)) rfl (λP s' hP=>none_ok P s' hP) ?_))
 refine wpAny_bind (wpAny_mono (wpAny_Call_ofName (ld_glob (X:=Y) J hgy O.at_ ?_ hdy)) (λv s₃ h₃=>wpAny_bind (wpAny_standAt (wpAny_pure h₃))) λ_ _ x=>x)
 unfold callWith
 have h':=h e (X.pn++pins) cpos [(e,oe)] s2 J
 have he':starEach (a::as) Y.env=(false,eval a Y.env)::starEach as Y.env:=he
 show wpAny _ _ (holding _ (evalArgs _ _ (backTo cpos (starEach (a::as) Y.env)) _)>>=_) _ _ _
 rw[he']at h'⊢
 refine wpAny_bind (wpAny_holding (Calls.evalArgs_plain (wpAny_mono h' (λus s3 hu=>wpAny_bind (wpAny_standAt ?_)) λ_ _ z=>z.elim)))
 obtain⟨vs,H1,J2,r,n,ev,hn,kq⟩:=hu
 subst ev
 obtain⟨u,rfl,ru⟩:=vals1 r
 obtain⟨hp,g,d3,tk,os⟩:=s3
 have hpl':(backTo cpos ((false,eval a Y.env)::starEach as Y.env)).any (·.1)=false:=by
  show(false||(backTo cpos (starEach as X.env)).any (·.1))=false
  rw[hpl]
  rfl
 simp only[hpl']
 have hC3:=J2.bk _ _ hC
 refine wpAny_bind (wpAny_keeperOf_exc hC3 ?_)
 refine wpAny_bind (call_ini (T'.keeps J2.bk) hC3 (hN.keeps J2.bk) hni (J2.kIn _ _ hlk) hoc (λh3 b M=>?_) (by show 1≤sizeLine;rw[sizeLine_eq];decide))
 obtain⟨t,m1,m2,m3⟩:=M.there
 have hfree:H1 b=none:=J2.hok.free M.new
 have hch:Ch Y [(e,oe)] b:=J2.ch M.new
 have J3:Inv Y [(e,oe)] σ H1 ⟨h3,g,d3,tk,os⟩:=J2.kept (t':=tk) M.keeps
 have J4:Inv Y [(e,oe)] σ (upd H1 b (xo b (clsA X.mg y) none)) ⟨h3,g,d3,tk,os⟩:=J3.adopt hfree hch (xo_ok m1)
 have rv:Vals [V.ref b,.int n] [Value.ref b,u]:=.cons rfl (.cons ru .nil)
 have hsp:spIni (clsA X.mg y) fld [V.ref b,.int n] (upd H1 b (xo b (clsA X.mg y) none)) (λv H'=>v= .non/\∃E',H' b=some (xo b (clsA X.mg y) (some E'))/\H' E'=some (.xd [(fld,.int n)])/\E'≠b/\∀c o,c≠b->H1 c=some o->H' c=some o) (λ_ _ _=>False):=
  ⟨b,n,rfl,hn,upd_same,λE' H' h1 h2 h3' h4 h5=>⟨rfl,E',h4,h5,h1,λc o hb q=>h3' c o hb (by rw[upd_ne hb];exact q)⟩⟩
 have hl:([Value.ref b,u]:List Value).length=ps.length:=by rw[<-rv.length];exact Fn.len _ _ _ _ hsp
 have hb':=hb ⟨h3,g,d3,tk,os⟩ [Value.ref b,u] J4.kIn (by simpa using hl)
 rw[List.append_nil]at hb'
 refine wpAny_call (codeAny_mono (Fn.run (Y.A.under (.builtin "type.__call__" ⟨.ref (clsA X.mg y)::[u],[]⟩)) Y.stack ⟨h3,g,d3,tk,os⟩ _ ⟨[Value.ref b,u],[]⟩ [Value.ref b,u] [V.ref b,.int n] _ (λ_ _ _=>False) (hr'.make (clsA X.mg y) [u] [])
  (J4.env0.make (clsA X.mg y) [u] []) hb' rv hsp) λr s' hq=>?_)
 cases r with
 |error e=>exact(CX1.never hq).elim
 |ok fl=>
  cases fl with
  |ret v=>
   obtain⟨v',H',J5,rr,ev,E',g1,g2,g3,g4⟩:=J4.after hq
   subst ev
   refine⟨rr,?_⟩
   obtain⟨⟨t',ht'⟩,_,_⟩:=J5.hok b _ g1
   have J6:=J5.forget g1 hch
   have pe:=J6.pin (e,oe) (List.mem_append_right _ (List.mem_singleton.mpr rfl))
   have hbe:e≠b:=λz=>by
    have h0:=(J2.pin (e,oe) (List.mem_append_right _ (List.mem_singleton.mpr rfl))).1
    rw[z]at h0
    rw[show hp.get? b=none from M.new]at h0
    cases h0
   have hnone:ves[2]? =some Value.none:=hctx.1 hd2
   refine wpAny_bind (wpAny_holding (wpAny_point (wpAny_pure ⟨b,t',some E',oe,ves,true,rfl,J5.bk _ _ hC,ht',hbe,pe.1,hdt,Ctx.yes hnone,λl hl z=>?_,λh7 o7 e7=>?_⟩)))
   .rw[hnone]at hl
    cases l with
    |nil=>simp at z
    |cons y l=>exact absurd hl.1 (by simp)
   .have N7:Noted s'.heap h7 [b] (frs Y.stack):=by
     refine⟨λc o q _ n=>(o7 c λz=>n (by simp[z])).trans q,λc o q n=>⟨o.slots,(o7 c λz=>n (by simp[z])).trans q⟩,λc o q=>?_⟩
     by_cases z:c=b
     .subst z;exact⟨_,e7⟩
     .exact⟨o,(o7 c z).trans q⟩
    have J7:Inv Y [(e,oe)] σ (dropH H' b) {s' with heap:=h7}:=J6.noted N7 λc hc=>by
     have z:c=b:=by simpa using hc
     subst z
     exact⟨dropH_self,hch⟩
    refine back_ok (F:=λ_ _=>False) (pins:=pins) (pins':=[(e,oe)]) (σ:=σ) (H:=dropH H' b) (cls:=.ref (clsA X.mg y)) (d:=(some E',false)) hx hst hf I.ok ⟨J7,none,.none,⟨_,_,e7,rfl,rfl,rfl,rfl,by simp,⟨(λz=>nomatch z),[e],⟨rfl,oe,ves,(o7 e hbe).trans pe.1,hdt,hnone⟩,by simpa using Ne.symm hbe,by simp⟩,(λT z=>nomatch z)⟩,.inl rfl,λc hc=>?_⟩ (kq E' _ (λc o q=>?_) ?_)
    .have z:c=b:=by simpa using hc
     subst z
     exact⟨dropH_self,hch⟩
    .have hcb:c≠b:=ne_of_none q hfree
     rw[dropH_ne hcb]
     exact g4 c o hcb q
    .rw[dropH_ne g3]
     exact g2
  |next=>exact False.elim hq
  |brk=>exact False.elim hq
  |cont=>exact False.elim hq
end
end L2
namespace L2
open PySem PySem.Spec PyProof.Rows PySem.Builtin PySem.Builtin.Str
def lastP(p:Nat->Bool):Nat->Option Nat
 |0=>none
 |n+1=>if p n=true then some n else lastP p n
section
variable{X:Cx}{H:Hp}{Q:VK}{z:Str}
end
end L2
namespace L2
open PySem PySem.Spec PyProof.Rows
def keptF(keep:Nat->Bool)(val:Nat->V)(n:Nat):List V:=((List.range n).filter keep).map val
section
variable{X:Cx}{e c:Expr}{σ σ':St}{H:Hp}{Q:VK}{D:Ends}{pos spos py:Pos}{tg elt:Expr}{scope:Scope}{y:Str}{j:Nat}
def CompF(X:Cx)(N':List Str)(scope:Scope)(tg elt c:Expr)(σ':St)(H1:Hp)(Q:VK)(xs:List V):Prop:=
 ∃(Tp:St->Prop) (keep:Nat->Bool) (val:Nat->V),Tp σ'/\
  (∀(fp:List Addr) (E C:Addr) (s3:Shared) (H0:Hp) (i:Nat) (τ:St) (x:V) (H2:Hp),H1 E=none->xs[i]? =some x->Tp τ->Same H1 H2->
   EG (blk X N' scope (closL scope X.env) C s3 H0 fp) tg x τ H2 λτ2 H3=>ET (blk X N' scope (closL scope X.env) C s3 H0 fp) c τ2 H3 λk H4=>k=keep i/\Tp τ2/\Same H2 H4/\(k=true->EV (blk X N' scope (closL scope X.env) C s3 H0 fp) elt τ2 H4 λv H5=>v=val i/\Same H4 H5))/\
  ∀(E:Addr) (H2:Hp),H1 E=none->H2 E=some (.lst (keptF keep val xs.length))->Same H1 H2->Q (.ref E) H2
end
end L2
namespace L2
open PySem PySem.Spec PyProof.Rows
section
variable{X:Cx}{e c:Expr}{es:List Expr}{σ σ':St}{H:Hp}{Q:VK}{D:Ends}{p pos spos py:Pos}{tg elt:Expr}{scope:Scope}{y:Str}{j:Nat}
def rngL(a:Int)(n:Nat):List V:=(List.range n).map λi=>V.int (a+(i:Nat))
def signsV(z:Str):List V:=z.cps.toList.map λc=>V.str ⟨#[c]⟩
end
end L2
namespace L2
open PySem PySem.Spec PyProof.Rows
section
variable{X:Cx}{Kx:St->XK}{D:Ends}{σ:St}{H:Hp}{rest:List ExceptHandler}{pos ynp cpos rpos p0 p1 p2 p3 tpos zp:Pos}{x1 x2 x3 y z:Str}{cls c1 c2 c3:Value}{d:Option Addr×Bool}{kk j0 j1:Nat}{name:Option Str}{body:List Stmt}
end
end L2
namespace L2
open PySem PySem.Spec PyProof.Rows
section
variable{X:Cx}{a e:Expr}{σ σ':St}{H:Hp}{Q:VK}{D:Ends}{pos spos py p p':Pos}{tg elt iter:Expr}{scope:Scope}{Kx:St->XK}{y:Str}{j:Nat}
theorem ev_compZX{b:Expr}{elts:List Expr}{k:Nat}{tp:Pos}(N':List Str)(hσ:capSt N' X.N σ scope=σ')(hx:XOk X Kx)(hst:X.stack=X.env::X.outer)(hfr:X.env.frame=some X.env.locals)(hc:X.calm=true)(S:CompSc X.env scope)
  (hg:Gl X "zip") (hm:X.mg "zip"=none) (hs:starEach [a,b] X.env=[(false,eval a X.env),(false,eval b X.env)]) (hs2:starEach [b] X.env=[(false,eval b X.env)])
  (h:EV X a σ H λv H1=>EV X b σ H1 λv' H2=>∃l m xs ys,v= .ref l/\v'= .ref m/\H2 l=some (.lst xs)/\H2 m=some (.lst ys)/\min xs.length ys.length≤sizeLine/\
   CompX X N' scope (.Tuple elts k tp) elt σ σ' Kx H2 Q (min xs.length ys.length) λi H3 x H4=>∃T y z,x= .ref T/\H3 T=none/\H4=upd H3 T (.tup [y,z])/\xs[i]? =some y/\ys[i]? =some z):
  EV X (.ListComp elt [⟨.Tuple elts k tp,.Call (.Name "zip" p) [a,b] [] p',[],0⟩] scope pos) σ H Q:=by
 refine ev_compX (N':=N') hx hst hfr hc S (by intro _;rfl) (ei_zip hg hm hs hs2 (ev_mono h λv H1 q=>ev_mono q λv' H2 q=>?_))
 obtain⟨l,m,xs,ys,e1,e2,hl,hm',h2,hw⟩:=q
 refine⟨l,m,xs,ys,e1,e2,hl,hm',?_⟩
 rw[hσ]
 have S1:SqL X.K H2 l xs:=.inl (.inl hl)
 have S2:SqL X.K H2 m ys:=.inl (.inl hm')
 refine compX h2 (λi H3 s hi=>⟨xs,ys,xs[i]'(by omega),ys[i]'(by omega),Same.seq s S1,Same.seq s S2,List.getElem?_eq_getElem _,List.getElem?_eq_getElem _⟩) (λH3 s=>⟨xs,ys,Same.seq s S1,Same.seq s S2,Nat.le_refl _⟩) (λi H3 x H4 hi s y=>?_) hw
 obtain⟨T,u,u',a1,a2,a3,a4,a5⟩:=y
 exact⟨T,u,u',a1,a2,a3,a4 xs (Same.seq s S1),a5 ys (Same.seq s S2)⟩
end
end L2
namespace L2
open PySem PySem.Spec PyProof.Rows
section
variable{X:Cx}{Kx:St->XK}{D:Ends}{σ:St}{H:Hp}{cls:Value}{d:Option Addr×Bool}
end
end L2
namespace L2
open PySem PySem.Spec PyProof.Rows
def upC(c:Nat):Nat:=if 97≤c/\c≤122 then c-32 else c
section
variable{X:Cx}{H:Hp}{Q:VK}{z:Str}
end
end L2
namespace L2
open PySem PySem.Spec PyProof.Rows PySem.W
section
variable{X:Cx}{pins:List (Addr×Obj)}{σ:St}{H:Hp}{s:Shared}{d:Addr}
end
def Itf(d:Addr)(o:Obj)(kvs:List (Key×V))(ks:List Int):It:=⟨λi H=>i<ks.length/\H d=some (.frz o (.dK kvs)),λi H x H'=>H'=H/\∃k,ks[i]? =some k/\x= .int k,λi H=>i=ks.length/\H d=some (.frz o (.dK kvs))⟩
section
variable{X:Cx}{σ:St}{H:Hp}{a e:Expr}{tg:Expr}{pos:Pos}{R:It->Hp->Prop}{D:Ends}
end
end L2
namespace L2
open PySem PySem.Spec PyProof.Rows PySem.W
def pw{α:Type}(lt:Nat->Nat->Bool)(n:Nat):KasT α->(α->Prop)->Prop
 | .ret a,Q=>Q a
 | .ask i j k,Q=>i<n/\j<n/\pw lt n (k (lt i j)) Q
structure Swo(lt:Nat->Nat->Bool):Prop where
 ir:∀i,lt i i=false
 tr:∀i j k,lt i j=true->lt j k=true->lt i k=true
 nt:∀i j k,lt i k=true->lt i j=true\/lt j k=true
section
variable{lt:Nat->Nat->Bool}{n:Nat}(W:Swo lt)
def Rk(lt:Nat->Nat->Bool)(i j:Nat):Prop:=lt i j=true\/(lt j i=false/\i<j)
abbrev gt(p:Array Nat)(k:Nat):Nat:=p.getD k 0
structure Pl(n:Nat)(p:Array Nat)(m:Nat):Prop where
 size:p.size=n
 low:∀i,i<m->gt p i<m
 tail:∀k,m≤k->k<n->gt p k=k
 inj:∀i j,i<n->j<n->gt p i=gt p j->i=j
 pm:p.toList.Perm (List.range n)
def Asc(lt:Nat->Nat->Bool)(p:Array Nat)(m:Nat):Prop:=∀i j,i<j->j<m->Rk lt (gt p i) (gt p j)
def Dsc(lt:Nat->Nat->Bool)(p:Array Nat)(m:Nat):Prop:=∀i j,i<j->j<m->Rk lt (gt p j) (gt p i)
structure Dn(lt:Nat->Nat->Bool)(p:Array Nat)(m q:Nat):Prop where
 few:q+1≤m
 ahead:∀i j,i<j->j<m-(q+1)->Rk lt (gt p j) (gt p i)
 drop:∀i j,i<m-(q+1)->m-(q+1)≤j->j<m->lt (gt p j) (gt p i)=true
 like:∀i j,m-(q+1)≤i->i<j->j<m->lt (gt p i) (gt p j)=false/\lt (gt p j) (gt p i)=false/\gt p i<gt p j
end
end L2
namespace L2
open PySem PySem.Spec PyProof.Rows PySem.W
abbrev Cx.in2(X:Cx):Cx:={X with A:=X.A.in1.in1}
section
variable{X:Cx}{pins:List (Addr×Obj)}{σ:St}{H:Hp}{s:Shared}
def Ours(X:Cx)(pins:List (Addr×Obj))(H:Hp)(s:Shared)(b:Addr)(vs:List Value)(e:Nat):Prop:=s.heap.get? b=some (seqObj "list" vs.toArray e)/\FpOk X pins H b
structure KeyFn(X:Cx)(σ:St)(f:Value)(vs:List Value)(H₁:Hp)(Kp:Nat->Value->Hp->Prop):Prop where
 mono:∀i k H H',Same H H'->Kp i k H->Kp i k H'
 call:∀i v pins s H,vs[i]? =some v->Same H₁ H->Inv X.in2 pins σ H s->wpAny (model X.prog X.w) X.A.in1.in1 (call f [v]) (λk s'=>∃H',Inv X.in2 pins σ H' s'/\Same H H'/\Kp i k H') (λ_ _=>False) s
def CmpOk(X:Cx)(σ:St)(H:Hp)(ks:List Value)(lt:Nat->Nat->Bool)(κ:SortKind):Prop:=
 ∀i j ki kj pins s,ks[i]? =some ki->ks[j]? =some kj->Inv X.in2 pins σ H s->wpAny (model X.prog X.w) X.A.in1.in1 (keyLt' κ ki kj) (λr s'=>r=lt i j/\Inv X.in2 pins σ H s') (λ_ _=>False) s
structure KeyCmp(X:Cx)(σ:St)(n:Nat)(Kp:Nat->Value->Hp->Prop)(lt:Nat->Nat->Bool):Prop where
 kind:∀pins s H ks,Inv X.in2 pins σ H s->ks.length=n->2≤n->(∀(i:Nat) k,ks[i]? =some k->Kp i k H)->
  wpAny (model X.prog X.w) X.A.in1.in1 (keyKind' (List.toArray ks)) (λκ s'=>Inv X.in2 pins σ H s'/\CmpOk X σ H ks lt κ) (λ_ _=>False) s
def ltD(b:Bool)(lt:Nat->Nat->Bool)(i j:Nat):Bool:=if b=true then lt j i else lt i j
def Sorted(n:Nat)(lt:Nat->Nat->Bool)(q:List Nat):Prop:=q.Perm (List.range n)/\q.Pairwise (Rk lt)
end
end L2
namespace L2
open PySem PySem.Spec PyProof.Rows PySem.W
section
variable{X:Cx}{pins:List (Addr×Obj)}{σ:St}{H H₁:Hp}{s:Shared}{vs:List Value}{f:Value}{b:Bool}{Kp:Nat->Value->Hp->Prop}{lt:Nat->Nat->Bool}{kS D:Addr}{e1:Nat}
def KeysAt(X:Cx)(pins:List (Addr×Obj))(σ:St)(H₁:Hp)(Kp:Nat->Value->Hp->Prop)(kS D:Addr)(e1:Nat)(ks:List Value)(s:Shared):Prop:=
 ∃H' e,Inv X.in2 pins σ H' s/\Same H₁ H'/\Ours X.in2 pins H' s kS ks e/\Ours X.in2 pins H' s D [] e1/\∀(i:Nat) k,ks[i]? =some k->Kp i k H'
def outBy(vs:List Value)(q:List Nat):List Value:=q.map λi=>vs.getD i Value.none
end
end L2
namespace L2
open PySem PySem.Spec PyProof.Rows PySem.W
section
variable{X:Cx}{pins:List (Addr×Obj)}{σ:St}{H:Hp}{s:Shared}{vs:List Value}{f:Value}{b:Bool}{Kp:Nat->Value->Hp->Prop}{lt:Nat->Nat->Bool}{l:Addr}
def outV(xs:List V)(q:List Nat):List V:=q.map λi=>xs.getD i .non
end
end L2
namespace L2
open PySem PySem.Spec PyProof.Rows PySem.W
def LexAt2(A:Around)(s:Shared)(fin:Bool):List Value->List Value->Bool->Prop
 |x::xs,y::ys,r=>∃e,SeqAt.EqAt A s x y e/\(e=true->LexAt2 A s fin xs ys r)/\(e=false->∀(prog:Program) (w:World) (E:Value->Shared->Prop) (Q:Value->Shared->Prop),Q (.bool r) s->wpAny (model prog w) A (richCompare .Lt x y) Q E s)
 |_,_,r=>r=fin
def ltR:List V->List V->Bool
 |[],[]=>false
 |[],_::_=>true
 |_::_,[]=>false
 |x::_,y::_=>ltV x y
def Lk2(x y:V):Prop:=(∃m n,x= .int m/\y= .int n)\/∃m n,x= .str m/\y= .str n
def KeyL(r:List V):Prop:=r=[]\/∃x,r=[x]
section
variable{prog:Program}{w:World}{A:Around}{E:Value->Shared->Prop}{s:Shared}{x y:V}{u v:Value}
end
section
variable{X:Cx}{pins:List (Addr×Obj)}{σ:St}{H:Hp}{s:Shared}{a b:Addr}{rx ry:List V}
end
section
variable{M:Model}{A:Around}{E:Value->Shared->Prop}{s:Shared}
def TupsAt(h:Heap):List Value->List (Option Value)->Prop
 |[],[]=>True
 |v::vs,f::fs=>(∃a o xs n,v= .ref a/\h.get? a=some o/\o.cls= .type "tuple"/\o.data= .seq xs n/\xs[0]? =f)/\TupsAt h vs fs
 |_,_=>False
end
end L2
namespace L2
open PySem PySem.Spec PyProof.Rows PySem.W
structure KeyV(X:Cx)(σ:St)(f:Value)(xs:List V)(H₁:Hp)(KV:Nat->V->Hp->Prop):Prop where
 mono:∀i v H H',Same H H'->KV i v H->KV i v H'
 call:∀i x u pins s H,xs[i]? =some x->RelV x u->Same H₁ H->Inv X.in2 pins σ H s->wpAny (model X.prog X.w) X.A.in1.in1 (call f [u]) (EP X.in2 pins σ λk H'=>Same H H'/\KV i k H') (λ_ _=>False) s
def KpV(KV:Nat->V->Hp->Prop)(i:Nat)(k:Value)(H:Hp):Prop:=∃v,RelV v k/\KV i v H
def KInt(f:Nat->Int)(i:Nat)(v:V)(_:Hp):Prop:=v= .int (f i)
section
variable{X:Cx}{σ:St}{n:Nat}
def KTup(rk:Nat->List V)(i:Nat)(v:V)(H:Hp):Prop:=∃a,v= .ref a/\H a=some (.tup (rk i))
def OneK(rk:Nat->List V):Prop:=(∀i,KeyL (rk i))/\((∀i x,rk i=[x]->∃m,x= .int m)\/∀i x,rk i=[x]->∃m,x= .str m)
end
section
variable{X:Cx}{σ:St}{H:Hp}{Q:VK}{e ke re:Expr}{p pos kp rp:Pos}
def SortV(X:Cx)(σ:St)(b:Bool)(v fv:V)(H:Hp)(Q:VK):Prop:=∃(l f:Addr) (xs:List V) (KV:Nat->V->Hp->Prop) (lt:Nat->Nat->Bool),v= .ref l/\fv= .ref f/\SqL X.K H l xs/\xs.length<64/\Swo lt/\KeyV X σ (.ref f) xs H KV/\KeyCmp X σ xs.length (KpV KV) lt/\
 ∀p H' q,Same H H'->H' p=none->Sorted xs.length (ltD b lt) q->Q (.ref p) (upd H' p (.lst (outV xs q)))
abbrev Cx.noX(X:Cx):Cx:={X.in2 with xe:=λ_ _=>False}
end
end L2
namespace L2
open PySem PySem.Spec PyProof.Rows PySem.W
def BM(mg:Str->Option Value)(base:Heap):Prop:=∃bm ob,mg "__builtins__"=some (.ref bm)/\bm≠builtinsNs/\base.get? bm=some ob/\ob.cls= .type "module"/\ob.dict=some builtinsNs/\ob.data= .plain
abbrev uT:HO:=.ext λ_=>True
section
variable{X:Cx}{σ:St}{H:Hp}{D:Ends}
abbrev CxN(X:Cx)(qual:Str)(scope:Scope)(f:Addr)(cd:Value)(cl:List (Str×Addr))(N:List Str)(s:Shared)(H:Hp):Cx where
 prog:=X.prog
 w:=X.w
 K:=X.K
 mg:=X.mg
 base:=X.base
 A:=X.A.deeper (envX qual scope s.heap.objs.size f cd cl)
 N:=N
 s₀:=s
 H₀:=H
 env:=envX qual scope s.heap.objs.size f cd cl
 outer:=X.stack
 stack:=envX qual scope s.heap.objs.size f cd cl::X.stack
 ex:=[]
 fn:=λ_=>false
 calm:=X.calm
 pn:=[]
 xe:=λ_ _=>False
end
end L2
namespace L2
open PySem PySem.Spec PyProof.Rows PySem.W
def tabC(K:PySem.W.Frag)(x:Str):Addr:=((tabIn K x).getD (0,0)).1
def tabP(K:PySem.W.Frag)(x:Str):Addr:=((tabIn K x).getD (0,0)).2
def tabKey(p:Pos)(q:Str):Array Value:= #[rawInt p.line,rawInt p.col,.str q 0]
def tabOk(K:PySem.W.Frag)(x:Str):Bool:=match tabIn K x with
 |some cp=>(K.lookup cp.2).isNone
 |none=>false
structure Nst(K:PySem.W.Frag)(mg:Str->Option Value)(base:Heap)(x:Str):Prop where
 tab:tabIn K x=some (tabC K x,tabP K x)
 code:CodeHd base (tabC K x) (tabP K x)
 bm:BM mg base
 kin:K.In base
 glob:base.Ns mainGlobals mg
def spLawT(K:PySem.W.Frag)(x:Str)(ps:Array Value):Sp:=λvs H Q _=>∃(a:Addr) (ns:List Int),vs=[.ref a]/\SqL K H a (ns.map V.int)/\ns.length≤63/\H (tabP K x)=some (.tbl ps)/\∀H',Q (.bl true) H'
end L2
namespace L2
open PySem PySem.Spec PyProof.Rows PySem.W
end L2
namespace L2
open PySem PySem.Spec PyProof.Rows PySem.W
section
variable{X:Cx}{pins:List (Addr×Obj)}{σ:St}{H:Hp}{s:Shared}{d:Addr}
end
end L2
namespace L2
open PySem PySem.Spec PyProof.Rows PySem.W
def idxF(keep:Nat->Bool)(n:Nat):List Nat:=(List.range n).filter keep
section
variable{X:Cx}{e c:Expr}{σ σ':St}{H:Hp}{Q:VK}{D:Ends}{pos:Pos}{tg elt:Expr}{scope:Scope}
def CompFH(X:Cx)(N':List Str)(scope:Scope)(tg elt c:Expr)(σ':St)(H1:Hp)(Q:VK)(xs:List V):Prop:=
 ∃(Tp:St->Prop) (keep:Nat->Bool) (Pi:Addr->Nat->V->Hp->Prop),Tp σ'/\
  (∀E i v H2 H3 ys,H2 E=some (.lst ys)->(∀b o,b≠E->H2 b=some o->H3 b=some o)->Pi E i v H2->Pi E i v H3)/\
  (∀(fp:List Addr) (E C:Addr) (s3:Shared) (H0:Hp) (i:Nat) (τ:St) (x:V) (H2:Hp),H1 E=none->xs[i]? =some x->Tp τ->Same H1 H2->(∃ys,H2 E=some (.lst ys))->
   EG (blk X N' scope (closL scope X.env) C s3 H0 fp) tg x τ H2 λτ2 H3=>ET (blk X N' scope (closL scope X.env) C s3 H0 fp) c τ2 H3 λk H4=>k=keep i/\Tp τ2/\Same H2 H4/\(k=true->EV (blk X N' scope (closL scope X.env) C s3 H0 fp) elt τ2 H4 λv H5=>Pi E i v H5/\Same H4 H5))/\
  ∀(E:Addr) (H2:Hp) (us:List V),H1 E=none->H2 E=some (.lst us)->Vl.All2 (λu i=>Pi E i u H2) us (idxF keep xs.length)->Same H1 H2->Q (.ref E) H2
end
end L2
namespace L2
open PySem PySem.Spec PyProof.Rows PySem.W
section
variable{X:Cx}{D:Ends}{σ:St}{H:Hp}{rest:List ExceptHandler}{suite:List Stmt}{b₀:Stmt}{pos np:Pos}{x n:Str}{c:Value}{C:Addr}{d:Option Addr×Bool}{i:Nat}
abbrev asEndsK(D:Ends)(i:Nat):Ends:=
 {nx:=λσ' H'=>D.nx (σ'.set i none) H',rt:=D.rt,bk:=λσ' H'=>D.bk (σ'.set i none) H',ct:=λσ' H'=>D.ct (σ'.set i none) H'}
theorem eh_asK(hN:X.N.Nodup)(hi:nameAt X.N n=some i)(hloc:X.env.scope.names.lookup n=some .local)(hg:Gl X x)(hm:X.mg x=some c)(hd:(x==("__debug__":Str))=false)(ex:PySem.W.exmOne X.K (.ref C) c=some true)
  (h:∀e pn,H e=none->SXs (X.inEx (.ref e) (λ_ _=>False) pn) (b₀::suite) (asEndsK D i) (σ.set i (some (.ref e))) (upd H e (xw e C d.1))):
  EH X (.ExceptHandler (some (.Name x np)) (some n) (b₀::suite) pos::rest) D σ (.ref C) d H:=by
 intro pins s e T I F ch
 have hkind:(X.env.scope.kind== .class||(X.env.scope.kind== .module&&X.env.locals !=X.env.globals))=false:=by rw[I.ok.kind];rfl
 have hil:i<X.N.length:=(List.getElem?_eq_some_iff.mp (nameAt_get hi)).1
 obtain⟨ce0,ce⟩:=ch e (by simp)
 refine wpAny_handleBy_cons (test_ok I F hg hm hd ex ?_) (by intro q;cases q)
 refine codeAny_handlers_suite_as (I.off F ch λs2 I2 F2=>?_)
 refine store_ok2 I2 hN (nameAt_get hi) (.inl hloc) (v:=.ref e) rfl (λs3 I3 hb=>?_) (.inr hloc)
 obtain⟨a,sb,ha⟩:=hb
 have hea:e≠a:=by
  rcases ha with z |z
  .rw[z];exact ce.2.1
  .exact λy=>ce.2.2.1 n a z y.symm
 obtain⟨oe,vs,he,hcl,hdx,hdt,_⟩:=F2
 have he3:s3.heap.get? e=some oe:=(sb.2 e hea).trans he
 have I4:=I3.adopt ce0 ce (φ:=λh=>∃oe vs,h.get? e=some oe/\oe.cls= .ref C/\oe.dict=d.1/\oe.data= .fields vs) (xw_ok he3 hcl hdx hdt)
 refine wpAny_mono (h e (X.pn++pins) ce0 [] s3 I4.inEx) (λf s4 q=>?_) λ_ _ q=>q.elim
 have gone:∀{σ':St} {H':Hp} {Q:Unit->Shared->Prop},Inv X pins σ' H' s4->(∀s5,Inv X pins (σ'.set i none) H' s5->Q () s5)->wpAny (model X.prog X.w) X.A (do bindName X.env n .none;unbindBehindTheSuite X.env n pos) Q X.xe s4:=λ{σ' H' Q} J k=>by
  have J3:Inv X pins (σ'.set i none) H' s4:=J.weak (by simp) λj v e2=>by
   by_cases z:j=i
   .subst z
    rw[List.getElem?_set_self (by rw[J.len];exact hil)]at e2
    cases e2
   .rw[List.getElem?_set_ne (Ne.symm z)]at e2
    exact e2
  obtain⟨m,hn,hl⟩:=id J3.loc
  refine wpAny_nameGoes_keeps (show X.env.kindOf n=some .local from hloc) hn hkind λh' v hn' hsb=>k _ ?_
  refine J3.relocal (m:=m) (m':=λx=>if x=n then v else m x) hN (nameAt_get hi) (List.getElem?_set_self (by rw[J.len];exact hil)) hl hn' (λx hx=>by rw[if_neg hx]) (λb o hb q=>(hsb.2 b hb).trans q) ?_
  obtain⟨o,_,_,ho,_⟩:=hn'
  exact⟨o,ho⟩
 cases f with
 |next=>
  obtain⟨σ',H',J,q2⟩:=q
  exact gone (Inv.uninEx I.ok J) λs5 I5=>⟨_,_,I5,q2⟩
 |brk=>
  obtain⟨σ',H',J,q2⟩:=q
  exact gone (Inv.uninEx I.ok J) λs5 I5=>⟨_,_,I5,q2⟩
 |cont=>
  obtain⟨σ',H',J,q2⟩:=q
  exact gone (Inv.uninEx I.ok J) λs5 I5=>⟨_,_,I5,q2⟩
 |ret u=>
  obtain⟨v,σ',H',J,r,q2⟩:=q
  exact gone (Inv.uninEx I.ok J) λs5 I5=>⟨v,_,_,I5,r,q2⟩
end
end L2
namespace L2
open PySem PySem.Spec PyProof.Rows
section
variable{X:Cx}{a b e:Expr}{σ σ':St}{H:Hp}{Q:VK}{D:Ends}{pos spos py p p':Pos}{tg elt iter:Expr}{scope:Scope}{Kx:St->XK}{y:Str}{j:Nat}
def CompX2(X:Cx)(N':List Str)(scope:Scope)(tg elt:Expr)(σ σ':St)(Kx:St->XK)(H1:Hp)(Q:VK)(n m:Nat)(G:Nat->Hp->V->Hp->Prop):Prop:=
 ∃(Tp:St->Prop) (Pi:Addr->Nat->V->Hp->Prop),Tp σ'/\
  (∀E i v H2 H3 ys,H2 E=some (.lst ys)->(∀b o,b≠E->H2 b=some o->H3 b=some o)->Pi E i v H2->Pi E i v H3)/\
  (∀(fp:List Addr) (E C:Addr) (s3:Shared) (H0:Hp) (F:Value->Shared->Prop) (i:Nat) (τ:St) (x:V) (H2 H3:Hp),XOk (blkF X N' scope (closL scope X.env) C s3 H0 fp F) (λ_=>Kx σ)->H1 E=none->i<n->i≤m->Tp τ->Same H1 H2->(∃ys,H2 E=some (.lst ys)/\ys.length=i/\∀k v,ys[k]? =some v->Pi E k v H2)->G i H2 x H3->
   EG (blkF X N' scope (closL scope X.env) C s3 H0 fp F) tg x τ H3 λτ2 H4=>EV (blkF X N' scope (closL scope X.env) C s3 H0 fp F) elt τ2 H4 λv H5=>Tp τ2/\Pi E i v H5/\Same H2 H5/\i<m)/\
  ∀(E:Addr) (H2:Hp) (xs:List V),H1 E=none->xs.length=n->(∀i v,xs[i]? =some v->Pi E i v H2)->H2 E=some (.lst xs)->Same H1 H2->Q (.ref E) H2
theorem comp_anyX2{Y:Cx}{tg elt:Expr}{J:It}{E:Addr}{τ0:St}{Q:Hp->Prop}
  (n m:Nat) (hn:m<sizeLine) (Tp:St->Prop) (hT:Tp τ0) (Pi:Nat->V->Hp->Prop) (hE:H E=none)
  (mono:∀i v H1 H2 ys,H1 E=some (.lst ys)->(∀b o,b≠E->H1 b=some o->H2 b=some o)->Pi i v H1->Pi i v H2)
  (go:∀i H1,Same H H1->i<n->J.go i H1) (stop:∀H1,Same H H1->J.stop n H1)
  (step:∀i τ x H1 H2,i<n->i≤m->Tp τ->Same H H1->(∃ys,H1 E=some (.lst ys)/\ys.length=i/\∀k v,ys[k]? =some v->Pi k v H1)->J.yld i H1 x H2->EG Y tg x τ H2 λτ2 H3=>EV Y elt τ2 H3 λv H4=>Tp τ2/\Pi i v H4/\Same H1 H4/\i<m)
  (fin:∀H1 xs,xs.length=n->(∀i v,xs[i]? =some v->Pi i v H1)->H1 E=some (.lst xs)->Same H H1->Q H1):CompT X Y tg elt [] J E τ0 H Q:=by
 refine⟨λi k τ H1=>k=n-i/\i≤n/\i≤m/\Same H H1/\Tp τ/\∃xs,H1 E=some (.lst xs)/\xs.length=i/\∀k v,xs[k]? =some v->Pi k v H1,⟨n,by simp,Nat.zero_le _,Nat.zero_le _,Same.upd hE,hT,[],upd_same,rfl,λk v e=>by simp at e⟩,?_⟩
 rintro i k τ H1 ⟨rfl,hi,him,s1,hτ,xs,eE,lx,px⟩
 by_cases hlt:i<n
 .refine .inr ⟨go i H1 s1 hlt,λτ' H'=>i+1≤m/\Same H H'/\Tp τ'/\∃xs,H' E=some (.lst xs)/\xs.length=i+1/\∀k v,xs[k]? =some v->Pi k v H',λτ' H' ⟨z,a,b,c⟩=>⟨n-(i+1),by omega,rfl,hlt,z,a,b,c⟩,λx H2 y=>?_⟩
  intro pins s u I r
  refine thn (step i τ x H1 H2 hlt him hτ s1 ⟨xs,eE,lx,px⟩ y pins s u I r) λ_ s' ⟨τ2,H3,I3,q3⟩=>⟨τ2,H3,I3,eifs_nil ?_⟩
  rw[if_pos rfl]
  refine ev_mono q3 λv H4 ⟨t2,pv,s2,hm⟩=>⟨xs,s2 _ _ eE,by omega,?_⟩
  have mm:∀k w',Pi k w' H4->Pi k w' (upd H4 E (.lst (xs++[v]))):=λk w' q=>mono k w' H4 _ xs (s2 _ _ eE) (λb o hb e=>by rw[upd_ne hb];exact e) q
  refine⟨hm,λb o e=>?_,t2,xs++[v],upd_same,by simp[lx],λk u e=>?_⟩
  .rw[upd_ne (ne_of_none e hE)]
   exact s2 _ _ (s1 _ _ e)
  .by_cases hk:k<xs.length
   .rw[List.getElem?_append_left hk]at e
    refine mono k u H1 _ xs eE (λb o hb e=>?_) (px k u e)
    rw[upd_ne hb]
    exact s2 _ _ e
   .have hk2:k=i:=by
     have :=(List.getElem?_eq_some_iff.mp e).1
     rw[List.length_append,List.length_singleton]at this
     omega
    subst hk2
    rw[<-lx,List.getElem?_concat_length]at e
    cases e
    exact mm _ _ pv
 .have e:i=n:=by omega
  subst e
  exact .inl ⟨stop H1 s1,fin H1 xs lx px eE s1⟩
theorem sx_compR2X(N':List Str)(hσ:capSt N' X.N σ scope=σ')(hx0:XOk X Kx)(hst:X.stack=X.env::X.outer)(hfr:X.env.frame=some X.env.locals)(hsw:swapsWith (.ListComp elt [⟨tg,.Call (.Name "range" p) [a,b] [] p',[],0⟩] scope pos) (some (.Name y py)) spos.line X.env=pure true)(hc:X.calm=true)(S:CompSc X.env scope)
  (hN:X.N.Nodup) (hi:nameAt X.N y=some j) (hx:X.env.scope.names.lookup y=some .local) (hg:Gl X "range") (hm:X.mg "range"=none) (hs:starEach [a,b] X.env=[(false,eval a X.env),(false,eval b X.env)]) (hs2:starEach [b] X.env=[(false,eval b X.env)])
  (h:EV X a σ H λv H1=>EV X b σ H1 λv' H2=>∃(l n:Int) (m:Nat),v= .int l/\v'= .int n/\ -(2^62)≤l/\l<2^62/\ -(2^62)≤n/\n<2^62/\m<sizeLine/\CompX2 X N' scope tg elt σ σ' Kx H2 (λv H'=>D.nx (σ.set j (some v)) H') (n-l).toNat m λi H2 x H3=>x= .int (l+i)/\H2=H3):
  SX X (.Assign [.Name y py] (.ListComp elt [⟨tg,.Call (.Name "range" p) [a,b] [] p',[],0⟩] scope pos) spos) D σ H:=by
 refine sx_compX (N':=N') hx0 hst hfr hsw hc S (by intro _;rfl) hN hi hx (ei_range2 hg hm hs hs2 (ea_cons (by rw[hs,hs2]) (ev_mono h λv H1 q=>ea_cons (by rw[hs2];rfl) (ev_mono q λv' H2 q=>?_))))
 obtain⟨l,n,m,rfl,rfl,h1,h2,h3,h4,h5,hw⟩:=q
 refine ea_nil ⟨l,n,rfl,⟨h1,h2,h3,h4⟩,?_⟩
 rw[hσ]
 intro fp E C s3 F hE xo
 obtain⟨Tp,Pi,t0,mono,step,fin⟩:=hw
 exact comp_anyX2 (n-l).toNat m h5 Tp t0 (Pi E) hE (λi v H1 H2 ys=>mono E i v H1 H2 ys) (λi H2 s hi=>hi) (λH2 s=>Nat.le_refl _) (λi τ x H1 H2 hi him ht hs hy y=>step fp E C s3 _ F i τ x H1 H2 xo hE hi him ht hs hy ⟨y.2,y.1.symm⟩) λH1 xs l px eE s=>fin E H1 xs hE l px eE s
end
end L2
namespace L2
open PySem PySem.Spec PyProof.Rows
abbrev DX(K:PySem.W.Frag)(mg:Str->Option Value)(x:Str)(st:Stmt):Prop:=∃f fd,Fun K x x st f fd/\mg x=some (.ref f)
abbrev LN(sp:Sp)(n:Nat):Prop:=∀vs H Q E,sp vs H Q E->vs.length=n
abbrev BD(cc:Bool)(P:Program)(w:World)(K:PySem.W.Frag)(mg:Str->Option Value)(base:Heap)(k:Nat)(N:List Str)(x:Str)(st:Stmt)(sp:Sp):Prop:=
 ∀(f:Addr) (cdv:Value) (A:Around) (outer:List Env) (s:Shared) (H:Hp) (vs:List V) (Q:VK) (E:XK),Room cc k (A.deeper (envOfC x (defScope st) s.heap.objs.size f cdv))->sp vs H Q E->SXs (CxF cc P w K mg base N x (defScope st) f cdv A outer s H E) (defBody st) {nx:=λ_ H'=>Q .non H',rt:=Q} (start N vs) H
section
variable{K:PySem.W.Frag}{h:Heap}{mg:Str->Option Value}(X:K.In h)(G:h.Ns mainGlobals mg){x y m qual fld:Str}{st:Stmt}{f C D:Addr}{od an:Option Addr}{sl:Array (Option Value)}{oc kV dc pm cd ct:Value}{t:Tok}
abbrev NsA(K:PySem.W.Frag)(x:Str)(C:Addr):Prop:=PySem.W.nsIn K mainGlobals x=some (some (.ref C))
abbrev LkF(K:PySem.W.Frag)(m qual:Str)(st:Stmt)(f:Addr)(od an:Option Addr)(sl:Array (Option Value))(oc kV dc pm cd ct:Value):Prop:=K.lookup f=some ⟨oc,od,.func (PySem.W.fnOf m qual (defArgs st) (defBody st) (defScope st) .none kV dc pm an cd ct),sl⟩
include X G
theorem t_def(a:NsA K x f)(l:LkF K x x st f od an sl oc kV dc pm cd ct)(c:PySem.W.codeIn K cd x=true)(k:PySem.W.keepIn K (.ref f)=true):DX K mg x st:=⟨_,_,fun_mk (st:=st) l c k,PySem.W.mg_of X G a⟩
theorem t_str{z:Str}(g:PySem.W.nsIn K mainGlobals x=some (some (.str z t))):Gc mg x (.str z):=⟨_,PySem.W.mg_of X G g,_,rfl⟩
theorem t_int{z:Int}(g:PySem.W.nsIn K mainGlobals x=some (some (.int z t))):Gc mg x (.int z):=⟨_,PySem.W.mg_of X G g,_,rfl⟩
theorem t_non(z:PySem.W.nsIn K mainGlobals x=some none):mg x=none:=PySem.W.mg_none_of X G z
theorem t_cls(q:NsA K x C):mg x=some (.ref (clsA mg x)):=by have e:=PySem.W.mg_of X G q;rw[clsA_eq e];exact e
theorem t_exc(q:NsA K x C)(y:PySem.W.excIn K C bmV "ValueError.__new__"=true):XCls K mg x:=xcls_mk (PySem.W.mg_of X G q) y
theorem t_top(q:NsA K x C)(a1:PySem.W.readsIn K C (.type "type")=true)(a2:PySem.W.findCls K (.ref C) (.type "type") "__init__"=some (.val (.builtin "ValueError.__init__")))(a3:PySem.W.specialIn K (.ref C) "__getattribute__"=some (some (.builtin "type.__getattribute__")))
  (a4:PySem.W.typeIn K (.ref C)=some (.type "type")) (a5:PySem.W.mroIn K C (.type "BaseException")=some true):XTop K mg x:=xtop_mk (PySem.W.mg_of X G q) a1 a2 a3 a4 a5
theorem t_xc(q:NsA K x C)(r:NsA K y D)(a1:xcIn K C D=true)(a2:PySem.W.typeIn K (.ref C)=some (.type "type"))(a3:PySem.W.hasDictIn K C=true)(a4:PySem.W.findIn K (.ref C) "__getattribute__"=some (some (.builtin "BaseException.__getattribute__")))
  (a5:PySem.W.findIn K (.ref C) "__getattr__"=some none) (a6:PySem.W.findIn K (.ref C) "__class__"=some (some (.builtin "object.__class__"))) (a7:PySem.W.specialIn K (.builtin "object.__class__") "__get__"=some (some (.builtin "getset_descriptor.__get__"))) (a8:PySem.W.takesIn K (.builtin "object.__class__")=some true)
  (a9:PySem.W.mroIn K C (.type "object")=some true) (a10:PySem.W.mroIn K C (.type "BaseException")=some true):XC K mg y x:=xc_mk (PySem.W.mg_of X G q) (PySem.W.mg_of X G r) a1 a2 a3 a4 a5 a6 a7 a8 a9 a10
theorem t_ini(q:NsA K x C)(r:NsA K y D)(a:PySem.W.findIn K (.ref C) "__init__"=some (some (.ref f)))(l:LkF K "__init__" qual st f od an sl oc kV dc pm cd ct)(c:PySem.W.codeIn K cd qual=true)(k:PySem.W.keepIn K (.ref f)=true)(a1:iniIn K C f=true)(a2:PySem.W.isFn K (.ref f)=true)
  (a3:PySem.W.findIn K (.ref C) "__setattr__"=some (some (.builtin "object.__setattr__"))) (a4:PySem.W.takerIn K C fld=some none) (a5:xcIn K C D=true):XIni K mg y x qual fld st:=xini_mk (PySem.W.mg_of X G q) (PySem.W.mg_of X G r) (fun_mk (st:=st) l c k) a1 a2 a3 a4 a5
theorem t_na(q:NsA K x C)(a:PySem.W.findIn K (.ref C) fld=some none):NoAttr K (clsA mg x) fld:=by rw[clsA_eq (PySem.W.mg_of X G q)];exact a
omit X G
inductive ClsL (mg:Str->Option Value):List Addr->List Addr->Prop
 |nil:ClsL mg [] []
 |cons {x:Str} {C:Addr} {l m:List Addr} (h:mg x=some (.ref C)) (t:ClsL mg l m):ClsL mg (clsA mg x::l) (C::m)
theorem ClsL.eq{l m:List Addr}(h:ClsL mg l m):l=m:=by
 induction h with
 |nil=>rfl
 |cons h _ ih=>rw[clsA_eq h,ih]
include X G
theorem t_cl{l m:List Addr}(q:NsA K x C)(t:ClsL mg l m):ClsL mg (clsA mg x::l) (C::m):=.cons (PySem.W.mg_of X G q) t
omit X G
theorem t_nd{l m:List Addr}(t:ClsL mg l m)(d:m.Nodup):l.Nodup:=by rw[t.eq];exact d
end
end L2
namespace L2
open PySem PySem.Spec PyProof.Rows
theorem kind_pos(z:Str):1≤Builtin.Str.strKind z:=by
 unfold Builtin.Str.strKind
 split
 .exact Nat.le_refl _
 .split <;>decide
theorem occ_empty:∀n,Builtin.Str.occurrences ⟨#[]⟩ ⟨#[43]⟩ 0 0 n=[]:=λn=>by
 simp[Builtin.Str.occurrences,Builtin.Str.subAt,Str.length,Id.run]
 rfl
theorem count_cut(z:Str):((cutT 43 z).length:Int)=Txt.count z ⟨#[43]⟩+1:=by
 rw[<-split_cut]
 unfold Txt.split Txt.count
 have k1:Builtin.Str.strKind ⟨#[43]⟩=1:=by decide+kernel
 have l1:(⟨#[43]⟩:Str).length=1:=rfl
 have kz:=kind_pos z
 rw[k1,l1]
 by_cases h:z.length<1
 .rw[if_pos (by simp[h])]
  have hz:z=⟨#[]⟩:=by
   apply str_ext
   have :z.cps.toList.length=0:=by have e:z.cps.toList.length=z.length:=rfl;omega
   rw[List.eq_nil_of_length_eq_zero this]
  subst hz
  rw[show(⟨#[]⟩:Str).length=0 from rfl,occ_empty]
  rfl
 .rw[if_neg (by simp only[Bool.or_eq_true,decide_eq_true_eq,not_or];exact⟨h,by omega⟩)]
  generalize Builtin.Str.occurrences z ⟨#[43]⟩ 0 z.length (z.length+1)=oc
  cases oc with
  |nil=>rfl
  |cons a r=>
   rw[if_neg (by simp)]
   unfold Builtin.Str.partsBetween
   simp
section
variable{X:Cx}{H:Hp}{Q:VK}{z y:Str}
theorem m_count(g:Q (.int (Txt.count z y)) H):MT X "str.count" (.str z) [.str y] H Q:=by
 refine mt_by (r:=λx xs H Q=>∃z y,x= .str z/\xs=[.str y]/\Q (.int (Txt.count z y)) H) ?_ ⟨z,y,rfl,rfl,g⟩
 intro pins s σ H x xs v us Q I rx rs h
 obtain⟨z,y,rfl,rfl,g⟩:=h
 obtain⟨t,rfl⟩:=rx
 obtain⟨u,rfl,ru⟩:=vals1 rs
 obtain⟨t',rfl⟩:=ru
 exact SC.count ⟨.int _,H,I.tok _,⟨_,rfl⟩,g⟩
end
end L2
namespace L2
open PySem PySem.Spec PyProof.Rows PySem.W
def isIntV(k:Int):Value->Bool
 | .int i _=>i==k
 |_=>false
section
variable{X:Cx}{H:Hp}{Q:VK}
end
end L2
local macro_rules | `(tactic| walk_at "nm") => `(tactic| refine L2.ev_name (by rfl) (by first | exact Or.inl rfl | exact Or.inr (Or.inl rfl) | exact Or.inr (Or.inr rfl)) ?_ (by decide) (by decide))
local macro_rules | `(tactic| walk_at "gc") => `(tactic| refine L2.ev_gc (by assumption) (by rfl) ?_ (by decide))
local macro_rules | `(tactic| walk_at "ty") => `(tactic| first
 |((with_reducible show L2.EV _ (PySem.Expr.Name "str" _) _ _ _);refine L2.ty_str (by rfl) (by assumption) ?_)
 |((with_reducible show L2.EV _ (PySem.Expr.Name "list" _) _ _ _);refine L2.ty_list (by rfl) (by assumption) ?_)
 |((with_reducible show L2.EV _ (PySem.Expr.Name "int" _) _ _ _);refine L2.ty_int (by rfl) (by assumption) ?_))
local macro_rules | `(tactic| walk_at "cb") => `(tactic| first
 |((with_reducible show L2.EV _ (PySem.Expr.Call (PySem.Expr.Name "len" _) _ _ _) _ _ _);refine L2.cb_len (by rfl) (by assumption) (by rfl) (by rfl) ?_)
 |((with_reducible show L2.EV _ (PySem.Expr.Call (PySem.Expr.Name "isinstance" _) _ _ _) _ _ _);refine L2.cb_isinstance (by rfl) (by assumption) (by rfl) (by rfl) ?_)
 |((with_reducible show L2.EV _ (PySem.Expr.Call (PySem.Expr.Name "all" _) _ _ _) _ _ _);refine L2.cb_all (by rfl) (by assumption) (by rfl) (by rfl) ?_))
local macro_rules | `(tactic| walk_at "ct") => `(tactic| first
 |((with_reducible show L2.EV _ (PySem.Expr.Call (PySem.Expr.Name "str" _) _ _ _) _ _ _);refine L2.ct_str (by rfl) (by assumption) (by rfl) (by rfl) ?_)
 |((with_reducible show L2.EV _ (PySem.Expr.Call (PySem.Expr.Name "list" _) _ _ _) _ _ _);refine L2.ct_list (by rfl) (by assumption) (by rfl) (by rfl) ?_)
 |((with_reducible show L2.EV _ (PySem.Expr.Call (PySem.Expr.Name "int" _) _ _ _) _ _ _);refine L2.ct_int (by rfl) (by assumption) (by rfl) (by rfl) ?_))
local macro_rules | `(tactic| walk_at "xo") => `(tactic| first | exact L2.xok_fn | assumption | exact L2.xok_false rfl)
local macro_rules | `(tactic| walk_at "po") => `(tactic| first | exact L2.passes_fn | assumption | exact PySem.PassesOwn.never)
local macro_rules | `(tactic| walk_at "cl") => `(tactic| first
 |refine L2.ev_call (by assumption) (by assumption) (by first |decide |omega) (by decide) (by rfl) (by walk_at "xo") (by decide) (by rfl) (by rfl) ?_
 |refine L2.ev_call0 (by assumption) (by assumption) (by first |decide |omega) (by decide) (by rfl) (by walk_at "xo") (by decide) ?_)
local macro_rules | `(tactic| walk_at "bm") => `(tactic| first
 |refine L2.ev_bm PySem.F.plainAttrs_str PySem.F.slot_str_join PySem.F.type_str_join (by rfl) (by rfl) (by rfl) (by rfl) (by rfl) ?_
 |refine L2.ev_bm PySem.F.plainAttrs_str PySem.F.slot_str_index PySem.F.type_str_index (by rfl) (by rfl) (by rfl) (by rfl) (by rfl) ?_
 |refine L2.ev_bm PySem.F.plainAttrs_str PySem.F.slot_str_startswith PySem.F.type_str_startswith (by rfl) (by rfl) (by rfl) (by rfl) (by rfl) ?_)
local macro_rules | `(tactic| walk_at "e") => `(tactic| first
 |((with_reducible show L2.EV _ (PySem.Expr.Name _ _) _ _ _);first |(walk_at "ty") |(walk_at "nm") |(walk_at "gc"))
 |(with_reducible refine L2.ev_int ?_)
 |(with_reducible refine L2.ev_str ?_)
 |(with_reducible refine L2.ev_bl ?_)
 |(with_reducible refine L2.ev_non ?_)
 |(with_reducible refine L2.ev_bin ?_)
 |((with_reducible show L2.EV _ (PySem.Expr.Compare _ [_] [_] _) _ _ _);refine L2.ev_cmp (by first |exact L2.nomark _ (by decide) (by decide) |rfl) ?_)
 |((with_reducible show L2.EV _ (PySem.Expr.Compare _ [_,_] [_,_] _) _ _ _);refine L2.ev_chain (by with_unfolding_all rfl) ?_)
 |(with_reducible refine L2.ev_one ?_)
 |(with_reducible refine L2.ev_and ?_)
 |(with_reducible refine L2.ev_or ?_)
 |(with_reducible refine L2.ev_notV ?_)
 |(with_reducible refine L2.ev_un ?_)
 |(with_reducible refine L2.ev_ifE ?_)
 |(with_reducible refine L2.ev_tup ?_)
 |(with_reducible refine L2.ev_lst ?_)
 |(with_reducible refine L2.ev_sl ?_)
 |((with_reducible show L2.EV _ (PySem.Expr.Subscript _ _ _) _ _ _);refine L2.ev_ix (λ_ _=>by rfl) ?_)
 |((with_reducible show L2.EV _ (PySem.Expr.Call (PySem.Expr.Name _ _) _ _ _) _ _ _);first |(walk_at "cb") |(walk_at "ct") |(walk_at "cl"))
 |((with_reducible show L2.EV _ (PySem.Expr.Call (PySem.Expr.Attribute _ _ _) _ _ _) _ _ _);(walk_at "bm"))
 |(with_reducible refine L2.ev_fstrL ?_)
 |((with_reducible show L2.EJL _ (PySem.Expr.Constant _ _ _::_) _ _ _ _);refine L2.ejl_cons (L2.ev_str ⟨_,200,rfl,by decide+kernel,by omega,?_⟩))
 |((with_reducible show L2.EJL _ (PySem.Expr.FormattedValue _ _ _ _::_) _ _ _ _);refine L2.ejl_cons ?_)
 |((with_reducible show L2.EJL _ [] _ _ _ _);refine L2.ejl_nil (by omega) ?_)
 |(with_reducible refine L2.ea_nil ?_)
 |((with_reducible show L2.EA _ (_::_) _ _ _);refine L2.ea_cons (by rfl) ?_)
 |(with_reducible refine L2.eo_none ?_)
 |(with_reducible refine L2.eo_some ?_)
 |((with_reducible show L2.ET _ (PySem.Expr.Compare _ [_] [_] _) _ _ _);refine L2.et_cmp (by first |exact L2.nomark _ (by decide) (by decide) |rfl) ?_)
 |((with_reducible show L2.ET _ (PySem.Expr.Compare _ [_,_] [_,_] _) _ _ _);refine L2.et_chain (by with_unfolding_all rfl) ?_)
 |(with_reducible refine L2.et_not ?_)
 |((with_reducible show L2.ET _ (PySem.Expr.BoolOp _ _ _) _ _ _);refine L2.et_w ?_)
 |(with_reducible refine L2.ew_and1 ?_)
 |(with_reducible refine L2.ew_or1 ?_)
 |(with_reducible refine L2.ew_and ?_)
 |(with_reducible refine L2.ew_or ?_)
 |((with_reducible show L2.ET _ (PySem.Expr.Name _ _) _ _ _);refine L2.et_val (λ_=>by rfl) ?_)
 |((with_reducible show L2.ET _ (PySem.Expr.Call _ _ _ _) _ _ _);refine L2.et_val (λ_=>by rfl) ?_)
 |((with_reducible show L2.ET _ (PySem.Expr.Subscript _ _ _) _ _ _);refine L2.et_val (λ_=>by rfl) ?_)
 |((with_reducible show L2.ET _ (PySem.Expr.Constant _ _ _) _ _ _);refine L2.et_val (λ_=>by rfl) ?_))
local macro_rules | `(tactic| walk_at "o") => `(tactic| with_reducible first
 |refine L2.o_add ?_ |refine L2.o_sub ?_ |refine L2.o_lt ?_ |refine L2.o_le ?_ |refine L2.o_gt ?_ |refine L2.o_ge ?_
 |refine L2.o_isN ?_ |refine L2.o_notN ?_ |refine L2.o_ltS ?_ |refine L2.o_inS ?_ |refine L2.o_ninS ?_ |refine L2.u_neg ?_
 |refine L2.o_p18 ?_ |refine L2.o_p9 ?_ |refine L2.o_p17 ?_ |refine L2.o_p19 ?_)
local macro_rules | `(tactic| walk_at "o2") => `(tactic| first
 |((with_reducible show L2.OP _ (PySem.compareOp PySem.CmpOp.Eq) _ _ _ _);refine L2.o_eq (by rfl) ?_)
 |((with_reducible show L2.OP _ (PySem.compareOp PySem.CmpOp.NotEq) _ _ _ _);refine L2.o_ne (by rfl) ?_)
 |((with_reducible show L2.OP _ (PySem.binaryOp PySem.Operator.Mod) (L2.V.int _) (L2.V.int _) _ _);refine L2.o_mod (by first |decide |omega) ?_)
 |((with_reducible show L2.OP _ (PySem.binaryOp PySem.Operator.Mult) (L2.V.int _) (L2.V.int _) _ _);refine L2.o_mul (by first |exact Or.inr ⟨by decide,by decide⟩ |exact Or.inl ⟨by decide,by decide⟩ |exact Or.inl ⟨by omega,by omega⟩ |exact Or.inr ⟨by omega,by omega⟩) ?_)
 |((with_reducible show L2.OP _ (PySem.binaryOp PySem.Operator.Pow) (L2.V.int _) (L2.V.int _) _ _);refine L2.o_pow ⟨by decide,by decide,by decide⟩ ?_)
 |((with_reducible show L2.CL _ (PySem.Value.builtin "len") [L2.V.ref _] _ _);refine L2.c_len (Or.inl (by assumption)) ?_)
 |((with_reducible show L2.CL _ (PySem.Value.builtin "len") [L2.V.str _] _ _);refine L2.c_lenS (by omega) ?_)
 |((with_reducible show L2.CL _ (PySem.Value.builtin "ord") [L2.V.str _] _ _);refine L2.c_ord ?_)
 |((with_reducible show L2.CL _ (PySem.Value.builtin "isinstance") _ _ _);with_reducible first |refine L2.is_int_int ?_ |refine L2.is_int_bool ?_ |refine L2.is_int_str ?_ |refine L2.is_int_list ?_ |refine L2.is_int_tuple ?_ |refine L2.is_int_dict ?_ |refine L2.is_bool_int ?_ |refine L2.is_bool_bool ?_ |refine L2.is_bool_str ?_ |refine L2.is_bool_list ?_ |refine L2.is_bool_tuple ?_ |refine L2.is_bool_dict ?_ |refine L2.is_str_int ?_ |refine L2.is_str_bool ?_ |refine L2.is_str_str ?_ |refine L2.is_str_list ?_ |refine L2.is_str_tuple ?_ |refine L2.is_str_dict ?_ |refine L2.is_NoneType_int ?_ |refine L2.is_NoneType_bool ?_ |refine L2.is_NoneType_str ?_ |refine L2.is_NoneType_list ?_ |refine L2.is_NoneType_tuple ?_ |refine L2.is_NoneType_dict ?_))
local macro_rules | `(tactic| walk_at "t") => `(tactic| first
 |(with_reducible refine L2.iteT ?_)
 |(with_reducible refine L2.iteF ?_)
 |(with_reducible refine L2.iteNT ?_)
 |(with_reducible refine L2.iteNF ?_)
 |(with_reducible first |refine L2.iteZ ?_ |refine L2.iteZi ?_ |refine L2.iteZs ?_ |refine L2.iteZr ?_ |refine L2.iteZb ?_ |refine L2.iteY ?_ |refine L2.iteYi ?_ |refine L2.iteYs ?_ |refine L2.iteYr ?_ |refine L2.iteYb ?_)
 |((with_reducible show ∃k,L2.V.bl _=L2.V.bl k/\_);refine⟨_,rfl,?_⟩)
 |((with_reducible show ∃k,L2.TruV _ (L2.V.bl _) _ k/\_);refine⟨_,rfl,?_⟩)
 |((with_reducible show ∃i,L2.V.int _=L2.V.int i/\_);refine⟨_,rfl,?_⟩)
 |((with_reducible show L2.tyV _ _ (L2.V.str _) _/\_);refine⟨by rfl,?_⟩))
local macro_rules | `(tactic| walk_at "s") => `(tactic| first
 |(with_reducible refine L2.sxs_nil ?_)
 |(with_reducible refine L2.sxs_one ?_)
 |(with_reducible refine L2.sxs_cons ?_)
 |(with_reducible refine L2.sx_ret ?_)
 |(with_reducible refine L2.sx_retN ?_)
 |(with_reducible refine L2.sx_pass ?_)
 |(with_reducible refine L2.sx_if ?_)
 |((with_reducible show L2.SX _ (PySem.Stmt.Assign [PySem.Expr.Name _ _] _ _) _ _ _);refine L2.sx_set (by assumption) (by rfl) (by first |exact Or.inl rfl |exact Or.inr rfl) (by rfl) (by first |exact Or.inl rfl |exact Or.inr rfl) ?_)
 |((with_reducible show L2.SX _ (PySem.Stmt.Expr _ _) _ _ _);refine L2.sx_expr (by rfl) ?_))
local macro_rules | `(tactic| walk_at "go") => `(tactic| repeat' (first | (walk_at "e") | (walk_at "o") | (walk_at "o2") | (walk_at "t") | (walk_at "s")))
local macro_rules | `(tactic| walk_at "ex") => `(tactic| repeat' (first | (walk_at "e") | (walk_at "o") | (walk_at "o2") | (walk_at "t")))
namespace L2
theorem shp1{α:Type}{us:List α}(h:us.length=1):∃a,us=[a]:=match us,h with |[a],_=>⟨a,rfl⟩
theorem shp2{α:Type}{us:List α}(h:us.length=2):∃a b,us=[a,b]:=match us,h with |[a,b],_=>⟨a,b,rfl⟩
theorem shp3{α:Type}{us:List α}(h:us.length=3):∃a b c,us=[a,b,c]:=match us,h with |[a,b,c],_=>⟨a,b,c,rfl⟩
end L2
namespace K71
open PySem L2 PyProof.Rows
local macro_rules | `(tactic| walk_at "b1") => `(tactic| (intro _ _ _ _ _ _ us hl; obtain ⟨_, e⟩ := L2.shp1 hl; subst e; rfl))
local macro_rules | `(tactic| walk_at "b2") => `(tactic| (intro _ _ _ _ _ _ us hl; obtain ⟨_, _, e⟩ := L2.shp2 hl; subst e; rfl))
local macro_rules | `(tactic| walk_at "b3") => `(tactic| (intro _ _ _ _ _ _ us hl; obtain ⟨_, _, _, e⟩ := L2.shp3 hl; subst e; rfl))
def top(i:Nat):Stmt:=PySem.Challenge.pw_turnleaf_k71_pages_refused.main.body.getD i (.Pass ⟨0,0,0,0⟩)
abbrev s_made_of:Stmt:=top 26
abbrev s_is_text_value:Stmt:=top 27
abbrev s_are_figures:Stmt:=top 28
abbrev s_read_figures:Stmt:=top 29
abbrev s_read_number_word:Stmt:=top 30
abbrev s_read_text_word:Stmt:=top 31
abbrev s_read_value:Stmt:=top 32
abbrev s_read_values:Stmt:=top 33
abbrev s_kinds_of:Stmt:=top 36
abbrev s_text_at:Stmt:=top 42
abbrev s_read_head:Stmt:=top 43
abbrev s_read_row:Stmt:=top 44
abbrev s_mark_behind:Stmt:=top 45
abbrev s_read_page:Stmt:=top 46
abbrev s__law_draw:Stmt:=top 48
abbrev s__law_names:Stmt:=top 49
abbrev s__law_columns:Stmt:=top 50
abbrev s__law_value:Stmt:=top 51
abbrev s__law_values:Stmt:=top 52
abbrev s__law_word:Stmt:=top 53
abbrev s__law_made:Stmt:=top 54
abbrev s__law_spoiled:Stmt:=top 55
abbrev s__law_figured:Stmt:=top 56
abbrev s__law_value_of:Stmt:=top 57
abbrev s__law_row_of:Stmt:=top 58
abbrev s__law_head_of:Stmt:=top 59
abbrev s__law_due:Stmt:=top 60
abbrev s__law_asked:Stmt:=top 61
abbrev s_law:Stmt:=top 62
abbrev s_NoPage:Stmt:=inClass (top 11) 0
structure Txt(K:PySem.W.Frag)(mg:Str->Option Value):Prop where
 d_made_of:DX K mg "made_of" s_made_of
 d_is_text_value:DX K mg "is_text_value" s_is_text_value
 d_are_figures:DX K mg "are_figures" s_are_figures
 d_read_figures:DX K mg "read_figures" s_read_figures
 d_read_number_word:DX K mg "read_number_word" s_read_number_word
 d_read_text_word:DX K mg "read_text_word" s_read_text_word
 d_read_value:DX K mg "read_value" s_read_value
 d_read_values:DX K mg "read_values" s_read_values
 d_kinds_of:DX K mg "kinds_of" s_kinds_of
 d_text_at:DX K mg "text_at" s_text_at
 d_read_head:DX K mg "read_head" s_read_head
 d_read_row:DX K mg "read_row" s_read_row
 d_mark_behind:DX K mg "mark_behind" s_mark_behind
 d_read_page:DX K mg "read_page" s_read_page
 d__law_draw:DX K mg "_law_draw" s__law_draw
 d__law_names:DX K mg "_law_names" s__law_names
 d__law_columns:DX K mg "_law_columns" s__law_columns
 d__law_value:DX K mg "_law_value" s__law_value
 d__law_values:DX K mg "_law_values" s__law_values
 d__law_word:DX K mg "_law_word" s__law_word
 d__law_made:DX K mg "_law_made" s__law_made
 d__law_spoiled:DX K mg "_law_spoiled" s__law_spoiled
 d__law_figured:DX K mg "_law_figured" s__law_figured
 d__law_value_of:DX K mg "_law_value_of" s__law_value_of
 d__law_row_of:DX K mg "_law_row_of" s__law_row_of
 d__law_head_of:DX K mg "_law_head_of" s__law_head_of
 d__law_due:DX K mg "_law_due" s__law_due
 d__law_asked:DX K mg "_law_asked" s__law_asked
 d_law:DX K mg "law" s_law
 g_NUMBER:Gc mg "NUMBER" (.str "number")
 g_FIGURES:Gc mg "FIGURES" (.str "0123456789")
 g_TEXT_SIGNS:Gc mg "TEXT_SIGNS" (.str "abcdefghijklmnopqrstuvwxyz0123456789-")
 g_LARGEST:Gc mg "LARGEST" (.int 1000000000000000000)
 g_LONGEST:Gc mg "LONGEST" (.int 20)
 g_TEN_FIGURES:Gc mg "TEN_FIGURES" (.int 9999999999)
 g_NONE_WORD:Gc mg "NONE_WORD" (.str "?")
 g_TEXT_AHEAD:Gc mg "TEXT_AHEAD" (.str "'")
 g_BELOW_AHEAD:Gc mg "BELOW_AHEAD" (.str "-")
 g_LARGEST_ROW:Gc mg "LARGEST_ROW" (.int 1000000000)
 g_WORDS_OF_HEAD:Gc mg "WORDS_OF_HEAD" (.int 5)
 g_TOUCHED:Gc mg "TOUCHED" (.str "*")
 g_BACK_AHEAD:Gc mg "BACK_AHEAD" (.str "back ")
 g_FORTH_AHEAD:Gc mg "FORTH_AHEAD" (.str "forth ")
 n_ValueError:mg "ValueError"=none
 n_all:mg "all"=none
 n_int:mg "int"=none
 n_isinstance:mg "isinstance"=none
 n_len:mg "len"=none
 n_list:mg "list"=none
 n_range:mg "range"=none
 n_str:mg "str"=none
 n_zip:mg "zip"=none
 m_LeafError:mg "LeafError"=some (.ref (clsA mg "LeafError"))
 m_NoColumns:mg "NoColumns"=some (.ref (clsA mg "NoColumns"))
 m_NoValue:mg "NoValue"=some (.ref (clsA mg "NoValue"))
 m_NoOrder:mg "NoOrder"=some (.ref (clsA mg "NoOrder"))
 m_NoRow:mg "NoRow"=some (.ref (clsA mg "NoRow"))
 m_NoMark:mg "NoMark"=some (.ref (clsA mg "NoMark"))
 m_NoSize:mg "NoSize"=some (.ref (clsA mg "NoSize"))
 m_NoLine:mg "NoLine"=some (.ref (clsA mg "NoLine"))
 m_NoBook:mg "NoBook"=some (.ref (clsA mg "NoBook"))
 m_NoSieve:mg "NoSieve"=some (.ref (clsA mg "NoSieve"))
 m_NoPage:mg "NoPage"=some (.ref (clsA mg "NoPage"))
 m_Twice:mg "Twice"=some (.ref (clsA mg "Twice"))
 m_Absent:mg "Absent"=some (.ref (clsA mg "Absent"))
 m_Gone:mg "Gone"=some (.ref (clsA mg "Gone"))
 m_Later:mg "Later"=some (.ref (clsA mg "Later"))
 x_NoValue:XCls K mg "NoValue"
 b_LeafError:XTop K mg "LeafError"
 c_NoColumns:XC K mg "LeafError" "NoColumns"
 c_NoValue:XC K mg "LeafError" "NoValue"
 c_NoOrder:XC K mg "LeafError" "NoOrder"
 c_NoRow:XC K mg "LeafError" "NoRow"
 c_NoMark:XC K mg "LeafError" "NoMark"
 c_NoSize:XC K mg "LeafError" "NoSize"
 c_NoLine:XC K mg "LeafError" "NoLine"
 c_NoBook:XC K mg "LeafError" "NoBook"
 c_NoSieve:XC K mg "LeafError" "NoSieve"
 c_NoPage:XC K mg "LeafError" "NoPage"
 c_Twice:XC K mg "LeafError" "Twice"
 c_Absent:XC K mg "LeafError" "Absent"
 c_Gone:XC K mg "LeafError" "Gone"
 c_Later:XC K mg "LeafError" "Later"
 i_NoPage:XIni K mg "LeafError" "NoPage" "NoPage.__init__" "at" s_NoPage
 f_NoPage:PySem.W.findIn K (.ref (clsA mg "NoPage")) "at"=some none
 nd_cls:[clsA mg "LeafError",clsA mg "NoColumns",clsA mg "NoValue",clsA mg "NoOrder",clsA mg "NoRow",clsA mg "NoMark",clsA mg "NoSize",clsA mg "NoLine",clsA mg "NoBook",clsA mg "NoSieve",clsA mg "NoPage",clsA mg "Twice",clsA mg "Absent",clsA mg "Gone",clsA mg "Later"].Nodup
abbrev N_NoPage:List Str:=["self","at"]
theorem sc_NoPage:FnScope N_NoPage ["self","at"] (defScope s_NoPage):=⟨rfl,rfl,rfl,by decide+kernel,rfl,by decide+kernel,by decide+kernel⟩
abbrev N_made_of:List Str:=["text","signs"]
theorem sc_made_of:FnScope N_made_of ["text","signs"] (defScope s_made_of):=⟨rfl,rfl,rfl,by decide+kernel,rfl,by decide+kernel,by decide+kernel⟩
abbrev N_is_text_value:List Str:=["value"]
theorem sc_is_text_value:FnScope N_is_text_value ["value"] (defScope s_is_text_value):=⟨rfl,rfl,rfl,by decide+kernel,rfl,by decide+kernel,by decide+kernel⟩
abbrev N_are_figures:List Str:=["word"]
theorem sc_are_figures:FnScope N_are_figures ["word"] (defScope s_are_figures):=⟨rfl,rfl,rfl,by decide+kernel,rfl,by decide+kernel,by decide+kernel⟩
abbrev N_read_figures:List Str:=["word","most","number"]
theorem sc_read_figures:FnScope N_read_figures ["word","most"] (defScope s_read_figures):=⟨rfl,rfl,rfl,by decide+kernel,rfl,by decide+kernel,by decide+kernel⟩
abbrev N_read_number_word:List Str:=["word","below","number"]
theorem sc_read_number_word:FnScope N_read_number_word ["word"] (defScope s_read_number_word):=⟨rfl,rfl,rfl,by decide+kernel,rfl,by decide+kernel,by decide+kernel⟩
abbrev N_read_text_word:List Str:=["word"]
theorem sc_read_text_word:FnScope N_read_text_word ["word"] (defScope s_read_text_word):=⟨rfl,rfl,rfl,by decide+kernel,rfl,by decide+kernel,by decide+kernel⟩
abbrev N_read_value:List Str:=["kind","word"]
theorem sc_read_value:FnScope N_read_value ["kind","word"] (defScope s_read_value):=⟨rfl,rfl,rfl,by decide+kernel,rfl,by decide+kernel,by decide+kernel⟩
abbrev N_read_values:List Str:=["kinds","words"]
theorem sc_read_values:FnScope N_read_values ["kinds","words"] (defScope s_read_values):=⟨rfl,rfl,rfl,by decide+kernel,rfl,by decide+kernel,by decide+kernel⟩
abbrev N_kinds_of:List Str:=["columns"]
theorem sc_kinds_of:FnScope N_kinds_of ["columns"] (defScope s_kinds_of):=⟨rfl,rfl,rfl,by decide+kernel,rfl,by decide+kernel,by decide+kernel⟩
abbrev N_text_at:List Str:=["texts","at"]
theorem sc_text_at:FnScope N_text_at ["texts","at"] (defScope s_text_at):=⟨rfl,rfl,rfl,by decide+kernel,rfl,by decide+kernel,by decide+kernel⟩
abbrev N_read_head:List Str:=["texts","words","counts","numbers"]
theorem sc_read_head:FnScope N_read_head ["texts"] (defScope s_read_head):=⟨rfl,rfl,rfl,by decide+kernel,rfl,by decide+kernel,by decide+kernel⟩
abbrev N_read_row:List Str:=["columns","texts","at","words","row","touched","values"]
theorem sc_read_row:FnScope N_read_row ["columns","texts","at"] (defScope s_read_row):=⟨rfl,rfl,rfl,by decide+kernel,rfl,by decide+kernel,by decide+kernel⟩
abbrev N_mark_behind:List Str:=["word","texts","at"]
theorem sc_mark_behind:FnScope N_mark_behind ["word","texts","at"] (defScope s_mark_behind):=⟨rfl,rfl,rfl,by decide+kernel,rfl,by decide+kernel,by decide+kernel⟩
abbrev N_read_page:List Str:=["columns","texts","ahead","here","many","moment","rows","at","back","forth"]
theorem sc_read_page:FnScope N_read_page ["columns","texts"] (defScope s_read_page):=⟨rfl,rfl,rfl,by decide+kernel,rfl,by decide+kernel,by decide+kernel⟩
abbrev N__law_draw:List Str:=["_law_script","_law_k","_law_many","_law_cell","_law_seed"]
theorem sc__law_draw:FnScope N__law_draw ["_law_script","_law_k","_law_many"] (defScope s__law_draw):=⟨rfl,rfl,rfl,by decide+kernel,rfl,by decide+kernel,by decide+kernel⟩
abbrev N__law_names:List Str:=["_law_script","_law_many","_law_letters","_law_word_here","_law_size","_law_at","_law_first","_law_some","_law_k","_law_name","_law_sign"]
theorem sc__law_names:FnScope N__law_names ["_law_script","_law_many"] (defScope s__law_names):=⟨rfl,rfl,rfl,by decide+kernel,rfl,by decide+kernel,by decide+kernel⟩
abbrev N__law_columns:List Str:=["_law_script","_law_many","_law_names_here","_law_some"]
theorem sc__law_columns:FnScope N__law_columns ["_law_script"] (defScope s__law_columns):=⟨rfl,rfl,rfl,by decide+kernel,rfl,by decide+kernel,by decide+kernel⟩
abbrev N__law_value:List Str:=["_law_script","_law_k","_law_kind","_law_way","_law_cell","_law_sign"]
theorem sc__law_value:FnScope N__law_value ["_law_script","_law_k","_law_kind"] (defScope s__law_value):=⟨rfl,rfl,rfl,by decide+kernel,rfl,by decide+kernel,by decide+kernel⟩
abbrev N__law_values:List Str:=["_law_script","_law_k","_law_columns_here"]
theorem sc__law_values:FnScope N__law_values ["_law_script","_law_k","_law_columns_here"] (defScope s__law_values):=⟨rfl,rfl,rfl,by decide+kernel,rfl,by decide+kernel,by decide+kernel⟩
abbrev N__law_word:List Str:=["_law_value_here"]
theorem sc__law_word:FnScope N__law_word ["_law_value_here"] (defScope s__law_word):=⟨rfl,rfl,rfl,by decide+kernel,rfl,by decide+kernel,by decide+kernel⟩
abbrev N__law_made:List Str:=["_law_script","_law_columns_here","_law_many","_law_numbers","_law_texts","_law_k","_law_words"]
theorem sc__law_made:FnScope N__law_made ["_law_script","_law_columns_here"] (defScope s__law_made):=⟨rfl,rfl,rfl,by decide+kernel,rfl,by decide+kernel,by decide+kernel⟩
abbrev N__law_spoiled:List Str:=["_law_script","_law_k","_law_texts","_law_some","_law_at","_law_way","_law_text","_law_place","_law_sign","_law_odd","_law_other","_law_words"]
theorem sc__law_spoiled:FnScope N__law_spoiled ["_law_script","_law_k","_law_texts"] (defScope s__law_spoiled):=⟨rfl,rfl,rfl,by decide+kernel,rfl,by decide+kernel,by decide+kernel⟩
abbrev N__law_figured:List Str:=["_law_word_here","_law_sign"]
theorem sc__law_figured:FnScope N__law_figured ["_law_word_here"] (defScope s__law_figured):=⟨rfl,rfl,rfl,by decide+kernel,rfl,by decide+kernel,by decide+kernel⟩
abbrev N__law_value_of:List Str:=["_law_kind","_law_word_here","_law_sign","_law_figures"]
theorem sc__law_value_of:FnScope N__law_value_of ["_law_kind","_law_word_here"] (defScope s__law_value_of):=⟨rfl,rfl,rfl,by decide+kernel,rfl,by decide+kernel,by decide+kernel⟩
abbrev N__law_row_of:List Str:=["_law_columns_here","_law_text","_law_words","_law_untouched","_law_values_here","_law_k","_law_value_here"]
theorem sc__law_row_of:FnScope N__law_row_of ["_law_columns_here","_law_text"] (defScope s__law_row_of):=⟨rfl,rfl,rfl,by decide+kernel,rfl,by decide+kernel,by decide+kernel⟩
abbrev N__law_head_of:List Str:=["_law_texts","_law_words","_law_numbers"]
theorem sc__law_head_of:FnScope N__law_head_of ["_law_texts"] (defScope s__law_head_of):=⟨rfl,rfl,rfl,by decide+kernel,rfl,by decide+kernel,by decide+kernel⟩
abbrev N__law_due:List Str:=["_law_columns_here","_law_texts","_law_numbers","_law_rows","_law_at","_law_row","_law_marks","_law_k","_law_head"]
theorem sc__law_due:FnScope N__law_due ["_law_columns_here","_law_texts"] (defScope s__law_due):=⟨rfl,rfl,rfl,by decide+kernel,rfl,by decide+kernel,by decide+kernel⟩
abbrev N__law_asked:List Str:=["_law_columns_here","_law_texts","_law_found","_law_caught","e"]
theorem sc__law_asked:FnScope N__law_asked ["_law_columns_here","_law_texts"] (defScope s__law_asked):=⟨rfl,rfl,rfl,by decide+kernel,rfl,by decide+kernel,by decide+kernel⟩
abbrev N_law:List Str:=["_law_script","_law_columns_here","_law_good","_law_due_here","_law_texts","_law_k","_law_handed"]
theorem sc_law:FnScope N_law ["_law_script"] (defScope s_law):=⟨rfl,rfl,rfl,by decide+kernel,rfl,by decide+kernel,by decide+kernel⟩
section
variable{P:Program}{w:World}{K:PySem.W.Frag}{mg:Str->Option Value}{base:Heap}{cc:Bool}{k:Nat}{sp:Sp}
theorem df_made_of(T:Txt K mg)(l:LN sp 2)(b:BD cc P w K mg base k N_made_of "made_of" s_made_of sp):Def P w K mg base cc (k+1) "made_of" ["text","signs"] sp:=def_of T.d_made_of sc_made_of (by walk_at "b2") l b
theorem df_is_text_value(T:Txt K mg)(l:LN sp 1)(b:BD cc P w K mg base k N_is_text_value "is_text_value" s_is_text_value sp):Def P w K mg base cc (k+1) "is_text_value" ["value"] sp:=def_of T.d_is_text_value sc_is_text_value (by walk_at "b1") l b
theorem df_are_figures(T:Txt K mg)(l:LN sp 1)(b:BD cc P w K mg base k N_are_figures "are_figures" s_are_figures sp):Def P w K mg base cc (k+1) "are_figures" ["word"] sp:=def_of T.d_are_figures sc_are_figures (by walk_at "b1") l b
theorem df_read_figures(T:Txt K mg)(l:LN sp 2)(b:BD cc P w K mg base k N_read_figures "read_figures" s_read_figures sp):Def P w K mg base cc (k+1) "read_figures" ["word","most"] sp:=def_of T.d_read_figures sc_read_figures (by walk_at "b2") l b
theorem df_read_number_word(T:Txt K mg)(l:LN sp 1)(b:BD cc P w K mg base k N_read_number_word "read_number_word" s_read_number_word sp):Def P w K mg base cc (k+1) "read_number_word" ["word"] sp:=def_of T.d_read_number_word sc_read_number_word (by walk_at "b1") l b
theorem df_read_text_word(T:Txt K mg)(l:LN sp 1)(b:BD cc P w K mg base k N_read_text_word "read_text_word" s_read_text_word sp):Def P w K mg base cc (k+1) "read_text_word" ["word"] sp:=def_of T.d_read_text_word sc_read_text_word (by walk_at "b1") l b
theorem df_read_value(T:Txt K mg)(l:LN sp 2)(b:BD cc P w K mg base k N_read_value "read_value" s_read_value sp):Def P w K mg base cc (k+1) "read_value" ["kind","word"] sp:=def_of T.d_read_value sc_read_value (by walk_at "b2") l b
theorem df_read_values(T:Txt K mg)(l:LN sp 2)(b:BD cc P w K mg base k N_read_values "read_values" s_read_values sp):Def P w K mg base cc (k+1) "read_values" ["kinds","words"] sp:=def_of T.d_read_values sc_read_values (by walk_at "b2") l b
theorem df_kinds_of(T:Txt K mg)(l:LN sp 1)(b:BD cc P w K mg base k N_kinds_of "kinds_of" s_kinds_of sp):Def P w K mg base cc (k+1) "kinds_of" ["columns"] sp:=def_of T.d_kinds_of sc_kinds_of (by walk_at "b1") l b
theorem df_text_at(T:Txt K mg)(l:LN sp 2)(b:BD cc P w K mg base k N_text_at "text_at" s_text_at sp):Def P w K mg base cc (k+1) "text_at" ["texts","at"] sp:=def_of T.d_text_at sc_text_at (by walk_at "b2") l b
theorem df_read_head(T:Txt K mg)(l:LN sp 1)(b:BD cc P w K mg base k N_read_head "read_head" s_read_head sp):Def P w K mg base cc (k+1) "read_head" ["texts"] sp:=def_of T.d_read_head sc_read_head (by walk_at "b1") l b
theorem df_read_row(T:Txt K mg)(l:LN sp 3)(b:BD cc P w K mg base k N_read_row "read_row" s_read_row sp):Def P w K mg base cc (k+1) "read_row" ["columns","texts","at"] sp:=def_of T.d_read_row sc_read_row (by walk_at "b3") l b
theorem df_mark_behind(T:Txt K mg)(l:LN sp 3)(b:BD cc P w K mg base k N_mark_behind "mark_behind" s_mark_behind sp):Def P w K mg base cc (k+1) "mark_behind" ["word","texts","at"] sp:=def_of T.d_mark_behind sc_mark_behind (by walk_at "b3") l b
theorem df_read_page(T:Txt K mg)(l:LN sp 2)(b:BD cc P w K mg base k N_read_page "read_page" s_read_page sp):Def P w K mg base cc (k+1) "read_page" ["columns","texts"] sp:=def_of T.d_read_page sc_read_page (by walk_at "b2") l b
theorem df__law_draw(T:Txt K mg)(l:LN sp 3)(b:BD cc P w K mg base k N__law_draw "_law_draw" s__law_draw sp):Def P w K mg base cc (k+1) "_law_draw" ["_law_script","_law_k","_law_many"] sp:=def_of T.d__law_draw sc__law_draw (by walk_at "b3") l b
theorem df__law_names(T:Txt K mg)(l:LN sp 2)(b:BD cc P w K mg base k N__law_names "_law_names" s__law_names sp):Def P w K mg base cc (k+1) "_law_names" ["_law_script","_law_many"] sp:=def_of T.d__law_names sc__law_names (by walk_at "b2") l b
theorem df__law_columns(T:Txt K mg)(l:LN sp 1)(b:BD cc P w K mg base k N__law_columns "_law_columns" s__law_columns sp):Def P w K mg base cc (k+1) "_law_columns" ["_law_script"] sp:=def_of T.d__law_columns sc__law_columns (by walk_at "b1") l b
theorem df__law_value(T:Txt K mg)(l:LN sp 3)(b:BD cc P w K mg base k N__law_value "_law_value" s__law_value sp):Def P w K mg base cc (k+1) "_law_value" ["_law_script","_law_k","_law_kind"] sp:=def_of T.d__law_value sc__law_value (by walk_at "b3") l b
theorem df__law_values(T:Txt K mg)(l:LN sp 3)(b:BD cc P w K mg base k N__law_values "_law_values" s__law_values sp):Def P w K mg base cc (k+1) "_law_values" ["_law_script","_law_k","_law_columns_here"] sp:=def_of T.d__law_values sc__law_values (by walk_at "b3") l b
theorem df__law_word(T:Txt K mg)(l:LN sp 1)(b:BD cc P w K mg base k N__law_word "_law_word" s__law_word sp):Def P w K mg base cc (k+1) "_law_word" ["_law_value_here"] sp:=def_of T.d__law_word sc__law_word (by walk_at "b1") l b
theorem df__law_made(T:Txt K mg)(l:LN sp 2)(b:BD cc P w K mg base k N__law_made "_law_made" s__law_made sp):Def P w K mg base cc (k+1) "_law_made" ["_law_script","_law_columns_here"] sp:=def_of T.d__law_made sc__law_made (by walk_at "b2") l b
theorem df__law_spoiled(T:Txt K mg)(l:LN sp 3)(b:BD cc P w K mg base k N__law_spoiled "_law_spoiled" s__law_spoiled sp):Def P w K mg base cc (k+1) "_law_spoiled" ["_law_script","_law_k","_law_texts"] sp:=def_of T.d__law_spoiled sc__law_spoiled (by walk_at "b3") l b
theorem df__law_figured(T:Txt K mg)(l:LN sp 1)(b:BD cc P w K mg base k N__law_figured "_law_figured" s__law_figured sp):Def P w K mg base cc (k+1) "_law_figured" ["_law_word_here"] sp:=def_of T.d__law_figured sc__law_figured (by walk_at "b1") l b
theorem df__law_value_of(T:Txt K mg)(l:LN sp 2)(b:BD cc P w K mg base k N__law_value_of "_law_value_of" s__law_value_of sp):Def P w K mg base cc (k+1) "_law_value_of" ["_law_kind","_law_word_here"] sp:=def_of T.d__law_value_of sc__law_value_of (by walk_at "b2") l b
theorem df__law_row_of(T:Txt K mg)(l:LN sp 2)(b:BD cc P w K mg base k N__law_row_of "_law_row_of" s__law_row_of sp):Def P w K mg base cc (k+1) "_law_row_of" ["_law_columns_here","_law_text"] sp:=def_of T.d__law_row_of sc__law_row_of (by walk_at "b2") l b
theorem df__law_head_of(T:Txt K mg)(l:LN sp 1)(b:BD cc P w K mg base k N__law_head_of "_law_head_of" s__law_head_of sp):Def P w K mg base cc (k+1) "_law_head_of" ["_law_texts"] sp:=def_of T.d__law_head_of sc__law_head_of (by walk_at "b1") l b
theorem df__law_due(T:Txt K mg)(l:LN sp 2)(b:BD cc P w K mg base k N__law_due "_law_due" s__law_due sp):Def P w K mg base cc (k+1) "_law_due" ["_law_columns_here","_law_texts"] sp:=def_of T.d__law_due sc__law_due (by walk_at "b2") l b
theorem df__law_asked(T:Txt K mg)(l:LN sp 2)(b:BD cc P w K mg base k N__law_asked "_law_asked" s__law_asked sp):Def P w K mg base cc (k+1) "_law_asked" ["_law_columns_here","_law_texts"] sp:=def_of T.d__law_asked sc__law_asked (by walk_at "b2") l b
theorem d_NoPage(T:Txt K mg){cc:Bool}:XDef P w K mg base cc 1 "NoPage" "at":=by
 refine xdef_of T.i_NoPage sc_NoPage (by walk_at "b2") rfl (λf cdv A outer s H vs Q E hi hr h=>?_)
 obtain⟨e,n,rfl,hn,he,q⟩:=h
 have hsz:sizeLine=16777216:=sizeLine_eq
 refine sxs_cons (sx_expr (by rfl) ?_)
 refine ev_base (pl:=_) T.b_LeafError.toXBase (by rfl) (by decide) (by rfl) (by rfl) (by rfl) ?_
 walk_at "go"
 refine ev_fmtI ?_
 walk_at "e"
 refine⟨n,rfl,Vl.log_ok hn,_,70,rfl,Vl.int_len hn,by omega,?_⟩
 walk_at "go"
 intro zz
 refine ea_nil (c_base hi he ?_)
 refine sxs_one (sx_xfld T.i_NoPage.sa T.i_NoPage.xc T.i_NoPage.tk (by rfl) ?_)
 walk_at "e"
 walk_at "e"
 refine⟨e,rfl,he,λD hD hDe=>q D _ hDe hD (λb o hb r=>?_) upd_same ?_⟩
 .rw[upd_ne hb,upd_ne (ne_of_none r hD)]
  exact r
 .rw[upd_ne hDe,upd_same]
end
end K71
namespace K71
open PySem L2 PyProof.Rows My Vl Lw
section
variable{P:Program}{w:World}{K:PySem.W.Frag}{mg:Str->Option Value}{base:Heap}
theorem d__law_draw(T:Txt K mg):Def P w K mg base true 1 "_law_draw" ["_law_script","_law_k","_law_many"] (spDraw K):=by
 refine df__law_draw T (λvs H Q E h=>by obtain⟨a,ns,k,m,rfl,_⟩:=h;rfl) (λf cdv A outer s H vs Q E hr h=>?_)
 obtain⟨a,ns,k,m,rfl,hS,hl,hk0,hk1,hm,q⟩:=h
 have n1:=T.n_len
 have nd:=sc__law_draw.nd
 have hlm:(ns.map V.int).length=ns.length:=List.length_map ..
 refine sxs_cons ?_
 walk_at "go"
 rw[hlm]
 have fin:∀c:Int,c=cellF ns k->Q (.int ((c % 1000003+31*k*k+1)*48271 % 999983*7919 % 524287 % m)) H:=λc e=>by rw[e];exact q
 refine ifD (λh=>?_) (λh=>?_)
 .walk_at "go"
  rw[hlm]
  walk_at "go"
  refine i_list hS (atI_map 0 (Int.emod_nonneg _ (by omega)) (Int.emod_lt_of_pos _ (by omega))) ?_
  walk_at "go"
  exact fin _ (by unfold cellF;rw[if_pos (by omega)])
 .walk_at "go"
  exact fin _ (by unfold cellF;rw[if_neg (by omega)])
end
end K71
namespace K71
open PySem L2 PyProof.Rows My Vl Lw
section
variable{P:Program}{w:World}{K:PySem.W.Frag}{mg:Str->Option Value}{base:Heap}
theorem lt_list:LTs.cps.toList=List.range' 97 26:=by decide+kernel
theorem mem_lt(c:Nat):c∈LTs.cps.toList↔97≤c/\c≤122:=by
 rw[lt_list,List.mem_range'_1]
 omega
theorem lt_get{k:Nat}(h:k<26):LTs.cps.toList[k]? =some (97+k):=by
 rw[lt_list,List.getElem?_range' h]
 simp
theorem isName_of{z:Str}(h1:1≤z.length)(h8:z.length≤8)(h:∀c∈z.cps.toList,97≤c/\c≤122):isName z=true:=by
 unfold isName madeOf
 rw[Bool.and_eq_true,decide_eq_true_eq,List.all_eq_true]
 exact⟨⟨h1,h8⟩,λc hc=>decide_eq_true ((mem_lt c).mpr (h c hc))⟩
def nmF(W:Str)(at_ size first:Nat)(b:Bool)(j:Nat):Str:=
 if b=true then cutS W none (some (at_:Int))++⟨#[97+(first+7*j) % 26]⟩++cutS W (some ((at_+1:Nat):Int)) (some (size:Int))else cutS W none (some ((j+1:Nat):Int))
theorem nm_b{W:Str}{at_ size first j:Nat}(hW:W.length=8)(ha:at_<size)(hs:size≤8):
  (nmF W at_ size first true j).cps.toList=W.cps.toList.take at_++(97+(first+7*j) % 26)::(W.cps.toList.drop (at_+1)).take (size-(at_+1)):=by
 unfold nmF
 rw[if_pos rfl,cps_app,cps_app,cutS_to,cutS_list,HT.sIx_nat,HT.sIx_nat,hW,Nat.min_eq_left (by omega),Nat.min_eq_left (by omega),List.append_assoc]
 rfl
theorem nm_f{W:Str}{at_ size first j:Nat}:(nmF W at_ size first false j).cps.toList=W.cps.toList.take (j+1):=by
 unfold nmF
 rw[if_neg (by decide),cutS_to]
theorem nm_len{W:Str}{at_ size first j:Nat}{b:Bool}(hW:W.length=8)(ha:at_<size)(hs:size≤8)(hj:j<6):1≤(nmF W at_ size first b j).length/\(nmF W at_ size first b j).length≤8:=by
 have hl:=len_list W
 rw[L2.len_list (nmF W at_ size first b j)]
 cases b with
 |true=>
  rw[nm_b hW ha hs,List.length_append,List.length_cons,List.length_take,List.length_take,List.length_drop]
  omega
 |false=>
  rw[nm_f,List.length_take]
  omega
theorem nm_in{W:Str}{at_ size first j:Nat}{b:Bool}(hW:W.length=8)(ha:at_<size)(hs:size≤8)(hw:∀c∈W.cps.toList,97≤c/\c≤122):∀c∈(nmF W at_ size first b j).cps.toList,97≤c/\c≤122:=by
 intro c hc
 cases b with
 |true=>
  rw[nm_b hW ha hs]at hc
  rcases List.mem_append.mp hc with h |h
  .exact hw c (List.mem_of_mem_take h)
  .rcases List.mem_cons.mp h with h |h
   .have :=Nat.mod_lt (first+7*j) (show 0<26 by decide)
    omega
   .exact hw c (List.mem_of_mem_drop (List.mem_of_mem_take h))
 |false=>
  rw[nm_f]at hc
  exact hw c (List.mem_of_mem_take hc)
theorem nm_inj{W:Str}{at_ size first i j:Nat}{b:Bool}(hW:W.length=8)(ha:at_<size)(hs:size≤8)(hi:i<6)(hj:j<6)(e:nmF W at_ size first b i=nmF W at_ size first b j):i=j:=by
 have hl:=len_list W
 have e':=congrArg (λz:Str=>z.cps.toList) e
 cases b with
 |true=>
  rw[nm_b hW ha hs,nm_b hW ha hs]at e'
  have h1:=(List.append_inj e' rfl).2
  injection h1 with h2 _
  omega
 |false=>
  rw[nm_f,nm_f]at e'
  have :=congrArg List.length e'
  rw[List.length_take,List.length_take]at this
  omega
def spNames(K:PySem.W.Frag):Sp:=λvs H Q _=>∃(a:Addr) (ns:List Int) (m:Nat),vs=[.ref a,.int m]/\SqL K H a (ns.map V.int)/\ns.length≤63/\m≤6/\∀(p:Addr) (zs:List Str) H',Same H H'->H p=none->H' p=some (.lst (zs.map V.str))->zs.length=m->zs.Nodup->(∀z∈zs,isName z=true)->Q (.ref p) H'
theorem d__law_names(T:Txt K mg):Def P w K mg base true 2 "_law_names" ["_law_script","_law_many"] (spNames K):=by
 refine df__law_names T (λvs H Q E h=>by obtain⟨a,ns,m,rfl,_⟩:=h;rfl) (λf cdv A outer s H vs Q E hr h=>?_)
 obtain⟨a,ns,m,rfl,hS,hl,hm,q⟩:=h
 have nd:=sc__law_names.nd
 have n1:=T.n_range
 have hsz:sizeLine=16777216:=sizeLine_eq
 have D1:Def P w K mg base true 1 "_law_draw" ["_law_script","_law_k","_law_many"] (spDraw K):=d__law_draw T
 have hL26:LTs.length=26:=by decide+kernel
 refine sxs_cons ?_
 walk_at "go"
 refine ev_compR ["_law_k","_law_letters","_law_script"] (σ':=[none,some (.str LTs),some (.ref a)]) (by rfl) (by rfl) (compSc_of (defScope s__law_names) (by rfl) (by rfl) (by decide+kernel)) (by decide+kernel) (by rfl) (by rfl) (by rfl) n1 (by rfl) ?_
 walk_at "e"
 refine⟨8,rfl,by omega,by omega,λi v=>v= .str ⟨#[97+(drawF ns (100+(i:Int)) 26).toNat]⟩,λfp E' C s3 H0 i H2 hi sm=>?_,λE' H1 xs hE hl2 hx e2 sm1=>?_⟩
 .walk_at "go"
  refine⟨a,ns,100+i,26,rfl,sm.seq hS,hl,by omega,by omega,by decide,?_⟩
  have h1:=drawF_nn ns (100+i) (m:=26) (by decide)
  have h2:=drawF_lt ns (100+i) (m:=26) (by decide)
  refine i_str (by omega) (n:=97+(drawF ns (100+(i:Int)) 26).toNat) ?_ ⟨rfl,Same.refl _⟩
  have e:drawF ns (100+(i:Int)) 26=(((drawF ns (100+(i:Int)) 26).toNat:Nat):Int):=by omega
  have h3:=atI_nat (lt_get (k:=(drawF ns (100+(i:Int)) 26).toNat) (by omega))
  rw[<-e]at h3
  exact h3
 .have ex:=list_of_pi (ys:=List.range 8) (λi:Nat=>V.str ⟨#[97+(drawF ns (100+(i:Int)) 26).toNat]⟩) (by rw[hl2,List.length_range];rfl) (λi v e=>⟨i,?_,hx i v e⟩)
  .have ex2:xs=(((List.range 8).map λi:Nat=>97+(drawF ns (100+(i:Int)) 26).toNat).map λc=>(⟨#[c]⟩:Str)).map V.str:=by
    rw[ex,List.map_map,List.map_map]
    rfl
   subst ex2
   walk_at "go"
   refine m_join (SqL.of e2) ?_ ?_
   .have e0:(Str.ofString "").length=0:=by decide+kernel
    rw[ones_sum,List.length_map,List.length_map,List.length_range,e0]
    omega
   rw[join_signs]
   have hwl:(⟨((List.range 8).map λi:Nat=>97+(drawF ns (100+(i:Int)) 26).toNat).toArray⟩:Str).length=8:=by rw[L2.len_list];simp
   have hwc:∀c∈(⟨((List.range 8).map λi:Nat=>97+(drawF ns (100+(i:Int)) 26).toNat).toArray⟩:Str).cps.toList,97≤c/\c≤122:=λc hc=>by
    have hc':c∈(List.range 8).map λi:Nat=>97+(drawF ns (100+(i:Int)) 26).toNat:=by simpa using hc
    obtain⟨i,_,rfl⟩:=List.mem_map.mp hc'
    have h1:=drawF_nn ns (100+i) (m:=26) (by decide)
    have h2:=drawF_lt ns (100+i) (m:=26) (by decide)
    omega
   generalize(⟨((List.range 8).map λi:Nat=>97+(drawF ns (100+(i:Int)) 26).toNat).toArray⟩:Str)=W at hwl hwc⊢
   refine sxs_cons ?_
   walk_at "go"
   refine⟨a,ns,112,8,rfl,sm1.seq hS,hl,by decide,by decide,by decide,?_⟩
   have s0:=drawF_nn ns 112 (m:=8) (by decide)
   have s1:=drawF_lt ns 112 (m:=8) (by decide)
   obtain⟨sz,es⟩:∃sz:Nat,1+drawF ns 112 8=(sz:Int):=⟨(1+drawF ns 112 8).toNat,by omega⟩
   walk_at "go"
   rw[es]
   refine⟨a,ns,113,_,rfl,sm1.seq hS,hl,by decide,by decide,by omega,?_⟩
   have a0:=drawF_nn ns 113 (m:=(sz:Int)) (by omega)
   have a1:=drawF_lt ns 113 (m:=(sz:Int)) (by omega)
   obtain⟨at_,ea⟩:=Int.eq_ofNat_of_zero_le a0
   rw[ea]at a1⊢
   walk_at "go"
   refine⟨a,ns,114,26,rfl,sm1.seq hS,hl,by decide,by decide,by decide,?_⟩
   have f0:=drawF_nn ns 114 (m:=26) (by decide)
   have f1:=drawF_lt ns 114 (m:=26) (by decide)
   obtain⟨fi,ef⟩:=Int.eq_ofNat_of_zero_le f0
   rw[ef]at f1⊢
   walk_at "go"
   refine⟨by show 0≤sizeLine;omega,λp hp=>?_⟩
   have pn:H p=none:=sm1.free hp
   have sm0:Same H (upd H1 p (.lst [])):=sm1.trans (Same.upd hp)
   have ep:(upd H1 p (.lst [])) p=some (.lst []):=upd_same
   generalize upd H1 p (.lst [])=H2 at sm0 ep⊢
   have hats:at_<sz:=by omega
   have hs8:sz≤8:=by omega
   refine sxs_cons ?_
   refine sx_forR (by walk_at "po") (by rfl) (by rfl) n1 (by rfl) ?_
   walk_at "go"
   refine⟨by omega,by omega,λi σ H'=>(∃o8 o9 o10,σ=[some (.ref a),some (.int m),some (.str LTs),some (.str W),some (.int sz),some (.int at_),some (.int fi),some (.ref p),o8,o9,o10])/\Same H H'/\H' p=some (.lst (((List.range i).map (nmF W at_ sz fi (decide (drawF ns 110 2=1)))).map V.str)),
    ⟨⟨none,none,none,rfl⟩,sm0,ep⟩,λi σ H' hi hP=>?_,λσ H' hP=>?_⟩
   .obtain⟨⟨o8,o9,o10,rfl⟩,sm,ep'⟩:=hP
    have hi6:i<6:=by have :i<m:=by simpa using hi
                     omega
    refine eg_name nd (by rfl) (.inl rfl) (.inl rfl) ?_
    have tail:∀(z:Str) (o10:Option V),z=nmF W at_ sz fi (decide (drawF ns 110 2=1)) i->∀(bk:L2.St->Hp->Prop),SXs (CxF true P w K mg base N__law_names "_law_names" (defScope s__law_names) f cdv A outer s H E) ((inFor (stAt (defBody s__law_names) 6)).drop 2)
      {nx:=λσ H'=>(∃o8 o9 o10,σ=[some (.ref a),some (.int m),some (.str LTs),some (.str W),some (.int sz),some (.int at_),some (.int fi),some (.ref p),o8,o9,o10])/\Same H H'/\H' p=some (.lst (((List.range (i+1)).map (nmF W at_ sz fi (decide (drawF ns 110 2=1)))).map V.str)),rt:=Q,bk:=bk,
       ct:=λσ H'=>(∃o8 o9 o10,σ=[some (.ref a),some (.int m),some (.str LTs),some (.str W),some (.int sz),some (.int at_),some (.int fi),some (.ref p),o8,o9,o10])/\Same H H'/\H' p=some (.lst (((List.range (i+1)).map (nmF W at_ sz fi (decide (drawF ns 110 2=1)))).map V.str))}
      [some (.ref a),some (.int m),some (.str LTs),some (.str W),some (.int sz),some (.int at_),some (.int fi),some (.ref p),some (.int i),some (.str z),o10] H':=by
     intro z o10 hz bk
     refine sxs_one (sx_expr (by rfl) (ev_bm PySem.F.plainAttrs_list PySem.F.slot_list_append PySem.F.type_list_append (by rfl) (by rfl) (by rfl) (by rfl) (by rfl) ?_))
     walk_at "go"
     refine⟨.inl ⟨rfl,_,SqL.of ep'⟩,?_⟩
     walk_at "go"
     refine mt_by mt_append ⟨p,_,_,rfl,rfl,ep',by rw[List.length_map,List.length_map,List.length_range];omega,?_⟩
     refine⟨⟨_,_,_,rfl⟩,λb o e=>?_,?_⟩
     .rw[upd_ne (ne_of_none e pn)]
      exact sm _ _ e
     .rw[upd_same,List.range_succ,List.map_append,List.map_append,hz]
      rfl
    refine sxs_cons ?_
    walk_at "go"
    refine s_str (by omega) ?_
    walk_at "go"
    refine⟨a,ns,110,2,rfl,sm.seq hS,hl,by decide,by decide,by decide,?_⟩
    walk_at "go"
    refine ifD (λh=>?_) (λh=>?_)
    .have h':drawF ns 110 2=1:=by injection h
     have l1:=cutS_le W none (some (at_:Int))
     have l2:=cutS_le W (some ((at_:Int)+1)) (some (sz:Int))
     have ls:(⟨#[97+(fi+7*i) % 26]⟩:Str).length=1:=rfl
     have l3:=len_app (cutS W none (some (at_:Int))) ⟨#[97+(fi+7*i) % 26]⟩
     refine sxs_cons ?_
     walk_at "go"
     rw[show((fi:Int)+7*(i:Int)) % 26=(((fi+7*i) % 26:Nat):Int)by omega]
     refine i_str (by omega) (atI_nat (lt_get (Nat.mod_lt _ (by decide)))) ?_
     refine sxs_one ?_
     walk_at "s"
     walk_at "go"
     refine s_str (by omega) ?_
     walk_at "go"
     refine o_addS (by omega) ?_
     walk_at "go"
     refine s_str (by omega) ?_
     refine o_addS (by omega) ?_
     refine tail _ _ ?_ _
     unfold nmF
     rw[decide_eq_true h',if_pos rfl]
     rfl
    .have h':¬drawF ns 110 2=1:=λe=>h (by rw[e])
     refine sxs_nil (tail _ _ ?_ _)
     unfold nmF
     rw[decide_eq_false h',if_neg (by decide)]
     rfl
   .obtain⟨⟨o8,o9,o10,rfl⟩,sm,ep'⟩:=hP
    rw[Int.toNat_natCast]at ep'
    generalize decide (drawF ns 110 2=1)=b at ep'
    have hnd:((List.range m).map (nmF W at_ sz fi b)).Nodup:=by
     unfold List.Nodup
     rw[List.pairwise_map]
     refine List.Pairwise.imp_of_mem (λ{x y} hx hy hxy e=>?_) (List.nodup_range (n:=m))
     have hx':=List.mem_range.mp hx
     have hy':=List.mem_range.mp hy
     exact hxy (nm_inj hwl hats hs8 (by omega) (by omega) e)
    have hnm:∀z∈(List.range m).map (nmF W at_ sz fi b),isName z=true:=λz hz=>by
     obtain⟨j,hj,rfl⟩:=List.mem_map.mp hz
     have hj':=List.mem_range.mp hj
     have :=nm_len (first:=fi) (b:=b) hwl hats hs8 (show j<6 by omega)
     exact isName_of this.1 this.2 (nm_in hwl hats hs8 hwc)
    have hln:((List.range m).map (nmF W at_ sz fi b)).length=m:=by rw[List.length_map,List.length_range]
    generalize(List.range m).map (nmF W at_ sz fi b)=zs at ep' hnd hnm hln
    refine sxs_cons ?_
    walk_at "go"
    refine⟨a,ns,111,2,rfl,sm.seq hS,hl,by decide,by decide,by decide,?_⟩
    walk_at "go"
    refine ifD (λh=>?_) (λh=>?_)
    .refine sxs_one (sx_expr (by rfl) (ev_bm0 PySem.F.plainAttrs_list PySem.F.slot_list_reverse PySem.F.type_list_reverse (by rfl) (by rfl) ?_))
     walk_at "go"
     refine⟨.inl ⟨rfl,_,SqL.of ep'⟩,?_⟩
     refine mt_by mt_reverse ⟨p,_,rfl,rfl,ep',?_⟩
     walk_at "go"
     rw[<-List.map_reverse]
     exact q p zs.reverse _ (λb o e=>by rw[upd_ne (ne_of_none e pn)];exact sm _ _ e) pn upd_same (by rw[List.length_reverse];exact hln) (List.pairwise_reverse.mpr (hnd.imp λh=>Ne.symm h)) (λz hz=>hnm z (List.mem_reverse.mp hz))
    .walk_at "go"
     exact q p zs H' sm pn ep' hln hnd hnm
  .have :i<xs.length:=(List.getElem?_eq_some_iff.mp e).1
   rw[List.getElem?_range (by simp at hl2;omega)]
end
end K71
namespace K71
open PySem L2 PyProof.Rows My Vl Lw
section
variable{P:Program}{w:World}{K:PySem.W.Frag}{mg:Str->Option Value}{base:Heap}
def nine:List Str:=[Str.ofString "all",Str.ofString "none",Str.ofString "is",Str.ofString "not",Str.ofString "over",Str.ofString "under",Str.ofString "holds",Str.ofString "both",Str.ofString "either"]
theorem nine_name:∀z∈nine,isName z=true:=by decide+kernel
theorem nine_nd:nine.Nodup:=by decide+kernel
theorem nine_get{i:Nat}(h:i<9):nine[i]? =some (nine.getD i ""):=by
 have h9:i<nine.length:=h
 rw[List.getD_eq_getElem?_getD,List.getElem?_eq_getElem h9]
 rfl
theorem nine_inj{i j:Nat}(hi:i<9)(hj:j<9)(e:nine.getD i ""=nine.getD j ""):i=j:=by
 have e1:=nine_get hi
 have e2:=nine_get hj
 rw[e]at e1
 have h9:i<nine.length:=hi
 have g9:j<nine.length:=hj
 have a1:nine[i]=nine.getD j "":=by
  have :=List.getElem?_eq_getElem h9
  rw[this]at e1
  exact Option.some.inj e1
 have a2:nine[j]=nine.getD j "":=by
  have :=List.getElem?_eq_getElem g9
  rw[this]at e2
  exact Option.some.inj e2
 exact(List.getElem_inj nine_nd).mp (a1.trans a2.symm)
theorem okCols_of{cs:List Col}(h1:1≤cs.length)(h6:cs.length≤6)(hn:(cs.map Prod.fst).Nodup)(h:∀c∈cs,isName c.1=true/\(c.2="number"\/c.2="text")):okCols cs=true:=by
 unfold okCols isKind
 rw[Bool.and_eq_true,Bool.and_eq_true,decide_eq_true_eq,decide_eq_true_eq,List.all_eq_true]
 exact⟨⟨⟨h1,h6⟩,λc hc=>by rw[(h c hc).1,decide_eq_true (h c hc).2];rfl⟩,hn⟩
def spCols2(K:PySem.W.Frag):Sp:=λvs H Q _=>∃(a:Addr) (ns:List Int),vs=[.ref a]/\SqL K H a (ns.map V.int)/\ns.length≤63/\∀p cs H',Same H H'->H p=none->Cols H' p cs->okCols cs=true->Q (.ref p) H'
theorem d__law_columns(T:Txt K mg):Def P w K mg base true 3 "_law_columns" ["_law_script"] (spCols2 K):=by
 refine df__law_columns T (λvs H Q E h=>by obtain⟨a,ns,rfl,_⟩:=h;rfl) (λf cdv A outer s H vs Q E hr h=>?_)
 obtain⟨a,ns,rfl,hS,hl,q⟩:=h
 have nd:=sc__law_columns.nd
 have n1:=T.n_range
 have n2:=T.n_len
 have hsz:sizeLine=16777216:=sizeLine_eq
 have D1:Def P w K mg base true 1 "_law_draw" ["_law_script","_law_k","_law_many"] (spDraw K):=d__law_draw T
 have D2:Def P w K mg base true 2 "_law_names" ["_law_script","_law_many"] (spNames K):=d__law_names T
 have ndc:(["_law_k","_law_names_here","_law_script"]:List Str).Nodup:=by decide+kernel
 have fin:∀(m:Nat) (L:Addr) (zs:List Str) (H1:Hp) (o3:Option V),1≤m->m≤6->Same H H1->H1 L=some (.lst (zs.map V.str))->zs.length=m->zs.Nodup->(∀z∈zs,isName z=true)->
   SXs (CxF true P w K mg base N__law_columns "_law_columns" (defScope s__law_columns) f cdv A outer s H E) ((defBody s__law_columns).drop 4) {nx:=λ_ H'=>Q .non H',rt:=Q} [some (.ref a),some (.int m),some (.ref L),o3] H1:=by
  intro m L zs H1 o3 hm1 hm6 sm1 hL hzl hznd hzn
  have hzm:(zs.map V.str).length=zs.length:=List.length_map ..
  have SL:SqL K H1 L (zs.map V.str):=SqL.of hL
  refine sxs_one (sx_ret ?_)
  refine ev_compRh ["_law_k","_law_names_here","_law_script"] (σ':=[none,some (.ref L),some (.ref a)]) (by rfl) (by rfl) (compSc_of (defScope s__law_columns) (by rfl) (by rfl) (by decide+kernel)) (by rfl) n1 (by rfl) ?_
  walk_at "go"
  rw[hzm]
  refine⟨by omega,by omega,λτ=>∃o1,τ=[o1,some (.ref L),some (.ref a)],λE2 i u H'=>∃kk:Str,(kk="number"\/kk="text")/\∃t,u= .ref t/\t≠E2/\H' t=some (.tup [.str (zs.getD i ""),.str kk]),⟨none,rfl⟩,λE2 i u H2 H3 ys _ y2 y3=>?_,λfp E2 C s3 H0 i τ x H4 H3 hE2 hi hτ sm4 hys hG=>?_,λL2 H2 ys hL2 hl2 hx2 e2 sm2=>?_⟩
  .obtain⟨kk,hk,t,rfl,ht,hq⟩:=y3
   exact⟨kk,hk,t,rfl,ht,y2 _ _ ht hq⟩
  .obtain⟨o1,rfl⟩:=hτ
   obtain⟨rfl,rfl⟩:=hG
   have hi':i<zs.length:=by simpa using hi
   have hz:(zs.map V.str)[i]? =some (V.str (zs.getD i "")):=by
    rw[List.getElem?_map,List.getD_eq_getElem?_getD,List.getElem?_eq_getElem hi']
    rfl
   refine eg_name ndc (by rfl) (.inl rfl) (.inr rfl) ?_
   walk_at "go"
   refine i_list (sm4.seq SL) (atI_nat hz) ?_
   walk_at "go"
   refine⟨by show 2≤sizeLine;omega,λk hk=>?_⟩
   have smk:Same H4 (upd H4 k (.lst [.str "number",.str "text"])):=Same.upd hk
   have ek:(upd H4 k (.lst [.str "number",.str "text"])) k=some (.lst [.str "number",.str "text"]):=upd_same
   generalize upd H4 k (.lst [.str "number",.str "text"])=H5 at smk ek⊢
   walk_at "go"
   refine⟨a,ns,10+i,2,rfl,((sm1.trans sm4).trans smk).seq hS,hl,by omega,by omega,by decide,?_⟩
   have k0:=drawF_nn ns (10+i) (m:=2) (by decide)
   have k1:=drawF_lt ns (10+i) (m:=2) (by decide)
   obtain⟨kd,e1,e2⟩:=atI_mem (xs:=[V.str "number",V.str "text"]) k0 (by show _<(2:Int);omega)
   refine i_list (SqL.of ek) e1 ?_
   walk_at "go"
   obtain⟨kk,rfl,hkk⟩:∃kk:Str,kd= .str kk/\(kk="number"\/kk="text"):=by
    rcases List.mem_cons.mp e2 with e |e
    .exact⟨_,e,.inl rfl⟩
    .exact⟨"text",by simpa using e,.inr rfl⟩
   refine⟨by show 2≤sizeLine;omega,λtp htp=>?_⟩
   refine⟨⟨_,rfl⟩,⟨kk,hkk,tp,rfl,λe=>?_,upd_same⟩,smk.trans (Same.upd htp)⟩
   obtain⟨zs',hz'⟩:=hys
   rw[e,smk _ _ hz']at htp
   cases htp
  .have hyl:ys.length=zs.length:=by rw[hl2];simp
   have hex:∀(k:Nat) (ys:List V) (zs:List Str),ys.length=zs.length->(∀(i:Nat) u,ys[i]? =some u->∃kk:Str,(kk="number"\/kk="text")/\∃t,u= .ref t/\H2 t=some (.tup [.str (zs.getD i ""),.str kk]))->∃cs:List Col,All2 (ColAt H2) ys cs/\cs.map Prod.fst=zs/\∀c∈cs,c.2="number"\/c.2="text":=by
    intro _ ys
    induction ys with
    |nil=>
     intro zs hl _
     cases zs with
     |nil=>exact⟨[],.nil,rfl,λc hc=>by simp at hc⟩
     |cons _ _=>simp at hl
    |cons u ys ih=>
     intro zs hl h
     cases zs with
     |nil=>simp at hl
     |cons z zs=>
      obtain⟨kk,hk,t,rfl,ht⟩:=h 0 u rfl
      obtain⟨cs,h1,h2,h3⟩:=ih zs (by simpa using hl) λi u e=>by
       have :=h (i+1) u (by simpa using e)
       simpa using this
      refine⟨(z,kk)::cs,.cons ⟨t,rfl,by simpa using ht⟩ h1,by simp[h2],λc hc=>?_⟩
      rcases List.mem_cons.mp hc with e |e
      .subst e;exact hk
      .exact h3 c e
   obtain⟨cs,h1,h2,h3⟩:=hex 0 ys zs hyl λi u e=>by
    obtain⟨kk,hk,t,e1,_,e3⟩:=hx2 i u e
    exact⟨kk,hk,t,e1,e3⟩
   have hcl:cs.length=zs.length:=by rw[<-h2,List.length_map]
   refine q L2 cs H2 (sm1.trans sm2) (sm1.free hL2) ⟨ys,e2,h1⟩ (okCols_of (by omega) (by omega) (by rw[h2];exact hznd) λc hc=>⟨hzn _ ?_,h3 c hc⟩)
   rw[<-h2]
   exact List.mem_map_of_mem hc
 have mid:∀(m:Nat),1≤m->m≤6->SXs (CxF true P w K mg base N__law_columns "_law_columns" (defScope s__law_columns) f cdv A outer s H E) ((defBody s__law_columns).drop 2) {nx:=λ_ H'=>Q .non H',rt:=Q} [some (.ref a),some (.int m),none,none] H:=by
  intro m hm1 hm6
  refine sxs_cons ?_
  walk_at "go"
  refine⟨a,ns,m,rfl,hS,hl,hm6,λL zs H1 sm1 hLn hL hzl hznd hzn=>?_⟩
  have hzm:(zs.map V.str).length=zs.length:=List.length_map ..
  refine sxs_cons ?_
  walk_at "go"
  refine⟨a,ns,9,4,rfl,sm1.seq hS,hl,by decide,by decide,by decide,?_⟩
  walk_at "go"
  refine ifD (λh=>?_) (λh=>?_)
  .refine sxs_cons ?_
   walk_at "go"
   refine⟨by show 9≤sizeLine;omega,λy hy=>?_⟩
   have smy:Same H1 (upd H1 y (.lst (nine.map V.str))):=Same.upd hy
   have ey:(upd H1 y (.lst (nine.map V.str))) y=some (.lst (nine.map V.str)):=upd_same
   change SXs _ _ _ _ (upd H1 y (.lst (nine.map V.str)))
   generalize upd H1 y (.lst (nine.map V.str))=H2 at smy ey⊢
   have SL:SqL K H2 L (zs.map V.str):=SqL.of (smy _ _ hL)
   refine sxs_one ?_
   walk_at "s"
   refine ev_compR ["_law_k","_law_script","_law_some"] (σ':=[none,some (.ref a),some (.ref y)]) (by rfl) (by rfl) (compSc_of (defScope s__law_columns) (by rfl) (by rfl) (by decide+kernel)) (by decide+kernel) (by rfl) (by rfl) (by rfl) n1 (by rfl) ?_
   walk_at "go"
   rw[hzm]
   have d0:=drawF_nn ns 8 (m:=9) (by decide)
   have d1:=drawF_lt ns 8 (m:=9) (by decide)
   obtain⟨d,ed⟩:=Int.eq_ofNat_of_zero_le d0
   have hd:d<9:=by omega
   refine⟨by omega,by omega,λi v=>v= .str (nine.getD ((d+2*i) % 9) ""),λfp E' C s3 H0 i H3 hi sm=>?_,λE' H3 xs hE hl2 hx e2 sm=>?_⟩
   .walk_at "go"
    refine⟨a,ns,8,9,rfl,((sm1.trans smy).trans sm).seq hS,hl,by decide,by decide,by decide,?_⟩
    rw[ed]
    walk_at "go"
    rw[show((d:Int)+2*(i:Int)) % 9=(((d+2*i) % 9:Nat):Int)by omega]
    have hg:(nine.map V.str)[(d+2*i) % 9]? =some (V.str (nine.getD ((d+2*i) % 9) "")):=by
     rw[List.getElem?_map,nine_get (Nat.mod_lt _ (by decide))]
     rfl
    exact i_list (SqL.of (sm _ _ ey)) (atI_nat hg) ⟨rfl,Same.refl _⟩
   .have ex:=list_of_pi (ys:=List.range zs.length) (λi:Nat=>V.str (nine.getD ((d+2*i) % 9) "")) (by rw[hl2,List.length_range];simp) (λi v e=>⟨i,?_,hx i v e⟩)
    .have ex2:xs=((List.range zs.length).map λi:Nat=>nine.getD ((d+2*i) % 9) "").map V.str:=by
      rw[ex,List.map_map]
      rfl
     subst ex2
     refine fin m E' _ H3 _ hm1 hm6 ((sm1.trans smy).trans sm) e2 (by rw[List.length_map,List.length_range];exact hzl) ?_ λz hz=>?_
     .unfold List.Nodup
      rw[List.pairwise_map]
      refine List.Pairwise.imp_of_mem (λ{x y} hx hy hxy e=>?_) (List.nodup_range (n:=zs.length))
      have hx':=List.mem_range.mp hx
      have hy':=List.mem_range.mp hy
      have :=nine_inj (Nat.mod_lt _ (by decide)) (Nat.mod_lt _ (by decide)) e
      omega
     .obtain⟨i,_,rfl⟩:=List.mem_map.mp hz
      have h9:(d+2*i) % 9<9:=Nat.mod_lt _ (by decide)
      exact nine_name _ (List.mem_of_getElem? (nine_get h9))
    .have :i<xs.length:=(List.getElem?_eq_some_iff.mp e).1
     rw[List.getElem?_range (by simp at hl2;omega)]
  .refine sxs_nil ?_
   exact fin m L zs H1 _ hm1 hm6 sm1 hL hzl hznd hzn
 refine sxs_cons ?_
 walk_at "go"
 refine⟨a,ns,0,4,rfl,hS,hl,by decide,by decide,by decide,?_⟩
 have c0:=drawF_nn ns 0 (m:=4) (by decide)
 have c1:=drawF_lt ns 0 (m:=4) (by decide)
 obtain⟨m,em⟩:∃m:Nat,1+drawF ns 0 4=(m:Int):=⟨(1+drawF ns 0 4).toNat,by omega⟩
 walk_at "go"
 rw[em]
 refine⟨a,ns,7,8,rfl,hS,hl,by decide,by decide,by decide,?_⟩
 walk_at "go"
 refine ifD (λh=>?_) (λh=>?_)
 .refine sxs_one ?_
  walk_at "s"
  walk_at "go"
  refine⟨a,ns,6,2,rfl,hS,hl,by decide,by decide,by decide,?_⟩
  have c2:=drawF_nn ns 6 (m:=2) (by decide)
  have c3:=drawF_lt ns 6 (m:=2) (by decide)
  obtain⟨m',em'⟩:∃m:Nat,5+drawF ns 6 2=(m:Int):=⟨(5+drawF ns 6 2).toNat,by omega⟩
  walk_at "ex"
  rw[em']
  exact mid m' (by omega) (by omega)
 .exact sxs_nil (mid m (by omega) (by omega))
end
end K71
namespace K71
open PySem L2 PyProof.Rows My Vl Lw
section
variable{P:Program}{w:World}{K:PySem.W.Frag}{mg:Str->Option Value}{base:Heap}
def valK(kd:Str)(v:V):Prop:=v= .non\/(kd="number"/\∃i,v= .int i/\ -1000000000000000000≤i/\i≤1000000000000000000)\/(¬kd="number"/\∃z,v= .str z/\z.length≤20/\∀c∈z.cps.toList,c∈SG)
def eight:List Str:=[Str.ofString "",Str.ofString "a",Str.ofString "b",Str.ofString "ab",Str.ofString "a-",Str.ofString "0",Str.ofString "z9",Str.ofString "aa"]
theorem eight_ok:∀z∈eight,z.length≤20/\∀c∈z.cps.toList,c∈SG:=by decide+kernel
def spValue2(K:PySem.W.Frag):Sp:=λvs H Q _=>∃(a:Addr) (ns:List Int) (k:Int) (kd:Str),vs=[.ref a,.int k,.str kd]/\SqL K H a (ns.map V.int)/\ns.length≤63/\0≤k/\k≤50000/\∀v H',Same H H'->valK kd v->Q v H'
theorem d__law_value(T:Txt K mg):Def P w K mg base true 2 "_law_value" ["_law_script","_law_k","_law_kind"] (spValue2 K):=by
 refine df__law_value T (λvs H Q E h=>by obtain⟨a,ns,k,kd,rfl,_⟩:=h;rfl) (λf cdv A outer s H vs Q E hr h=>?_)
 obtain⟨a,ns,k,kd,rfl,hS,hl,hk0,hk1,q⟩:=h
 have nd:=sc__law_value.nd
 have n1:=T.n_len
 have hsz:sizeLine=16777216:=sizeLine_eq
 have hlm:(ns.map V.int).length=ns.length:=List.length_map ..
 have D1:Def P w K mg base true 1 "_law_draw" ["_law_script","_law_k","_law_many"] (spDraw K):=d__law_draw T
 have tail:∀(way cell:Int),SXs (CxF true P w K mg base N__law_value "_law_value" (defScope s__law_value) f cdv A outer s H E) ((defBody s__law_value).drop 3) {nx:=λ_ H'=>Q .non H',rt:=Q} [some (.ref a),some (.int k),some (.str kd),some (.int way),some (.int cell),none] H:=by
  intro way cell
  refine sxs_cons ?_
  walk_at "go"
  refine ifD (λh=>?_) (λh=>?_)
  .have hn:kd="number":=by injection h
   walk_at "go"
   refine ifD (λh1=>?_) (λh1=>?_)
   .walk_at "go"
    refine⟨a,ns,k+1,3,rfl,hS,hl,by omega,by omega,by decide,?_⟩
    have c0:=drawF_nn ns (k+1) (m:=3) (by decide)
    have c1:=drawF_lt ns (k+1) (m:=3) (by decide)
    generalize drawF ns (k+1) 3=d at c0 c1⊢
    walk_at "go"
    exact q _ _ (Same.refl _) (.inr (.inl ⟨hn,_,rfl,by omega,by omega⟩))
   .walk_at "go"
    refine ifD (λh2=>?_) (λh2=>?_)
    .walk_at "go"
     have c0:=Int.emod_nonneg cell (b:=2*1000000000000000000+1) (by decide)
     have c1:=Int.emod_lt_of_pos cell (b:=2*1000000000000000000+1) (by decide)
     exact q _ _ (Same.refl _) (.inr (.inl ⟨hn,_,rfl,by omega,by omega⟩))
    .walk_at "go"
     refine⟨a,ns,k+1,4,rfl,hS,hl,by omega,by omega,by decide,?_⟩
     have c0:=drawF_nn ns (k+1) (m:=4) (by decide)
     have c1:=drawF_lt ns (k+1) (m:=4) (by decide)
     generalize drawF ns (k+1) 4=d at c0 c1⊢
     walk_at "go"
     exact q _ _ (Same.refl _) (.inr (.inl ⟨hn,_,rfl,by omega,by omega⟩))
  .have hn:¬kd="number":=λe=>h (by rw[e])
   walk_at "go"
   refine ifD (λh1=>?_) (λh1=>?_)
   .have z3:∀j,j<3->(Str.ofString "z9-").cps.toList[j]? =some ((Str.ofString "z9-").cps.toList.getD j 0):=by decide+kernel
    have z4:∀j,j<4->(Str.ofString "a0-z").cps.toList[j]? =some ((Str.ofString "a0-z").cps.toList.getD j 0):=by decide+kernel
    have g3:∀j,j<3->(Str.ofString "z9-").cps.toList.getD j 0∈SG:=by decide+kernel
    have g4:∀j,j<4->(Str.ofString "a0-z").cps.toList.getD j 0∈SG:=by decide+kernel
    refine sxs_cons ?_
    walk_at "go"
    refine⟨a,ns,k+1,3,rfl,hS,hl,by omega,by omega,by decide,?_⟩
    have c0:=drawF_nn ns (k+1) (m:=3) (by decide)
    have c1:=drawF_lt ns (k+1) (m:=3) (by decide)
    obtain⟨d,ed⟩:=Int.eq_ofNat_of_zero_le c0
    rw[ed]
    have hd:d<3:=by omega
    refine i_str (by decide+kernel) (atI_nat (z3 d hd)) ?_
    have gd:=g3 d hd
    generalize(Str.ofString "z9-").cps.toList.getD d 0=x at gd⊢
    refine sxs_one ?_
    walk_at "go"
    refine o_mulS (by decide) (by decide) (by show 0<1;decide) (by show 1*19≤sizeLine;omega) ?_
    have r1:=repS_one x 19 (by decide)
    have r2:(repS (⟨#[x]⟩:Str) 19).length=19:=by rw[L2.len_list,r1,List.length_replicate];rfl
    walk_at "go"
    refine⟨a,ns,k+2,4,rfl,hS,hl,by omega,by omega,by decide,?_⟩
    have e0:=drawF_nn ns (k+2) (m:=4) (by decide)
    have e1:=drawF_lt ns (k+2) (m:=4) (by decide)
    obtain⟨d2,ed2⟩:=Int.eq_ofNat_of_zero_le e0
    rw[ed2]
    have hd2:d2<4:=by omega
    refine i_str (by decide+kernel) (atI_nat (z4 d2 hd2)) ?_
    have gd2:=g4 d2 hd2
    generalize(Str.ofString "a0-z").cps.toList.getD d2 0=y at gd2⊢
    have r3:(⟨#[y]⟩:Str).length=1:=rfl
    have r4:=len_app (repS (⟨#[x]⟩:Str) 19) ⟨#[y]⟩
    refine o_addS (by omega) ?_
    refine q _ _ (Same.refl _) (.inr (.inr ⟨hn,_,rfl,by omega,λc hc=>?_⟩))
    rw[cps_app,r1]at hc
    rcases List.mem_append.mp hc with e |e
    .rw[List.eq_of_mem_replicate e];exact gd
    .have :c=y:=by simpa using e
     rw[this];exact gd2
   .walk_at "go"
    refine⟨by show 8≤sizeLine;omega,λp hp=>?_⟩
    have smp:Same H (upd H p (.lst (eight.map V.str))):=Same.upd hp
    have ep:(upd H p (.lst (eight.map V.str))) p=some (.lst (eight.map V.str)):=upd_same
    change EV _ _ _ (upd H p (.lst (eight.map V.str))) _
    generalize upd H p (.lst (eight.map V.str))=H2 at smp ep⊢
    walk_at "go"
    refine⟨a,ns,k+1,8,rfl,smp.seq hS,hl,by omega,by omega,by decide,?_⟩
    have c0:=drawF_nn ns (k+1) (m:=8) (by decide)
    have c1:=drawF_lt ns (k+1) (m:=8) (by decide)
    obtain⟨v,e1,e2⟩:=atI_mem (xs:=eight.map V.str) c0 (by show _<(8:Int);omega)
    refine i_list (SqL.of ep) e1 ?_
    obtain⟨z,hz,rfl⟩:=List.mem_map.mp e2
    exact q _ _ smp (.inr (.inr ⟨hn,z,rfl,eight_ok z hz⟩))
 refine sxs_cons ?_
 walk_at "go"
 refine⟨a,ns,k,8,rfl,hS,hl,by omega,by omega,by decide,?_⟩
 walk_at "go"
 refine ifD (λh0=>?_) (λh0=>?_)
 .walk_at "go"
  exact q _ _ (Same.refl _) (.inl rfl)
 .walk_at "go"
  rw[hlm]
  refine ifD (λh3=>?_) (λh3=>?_)
  .walk_at "go"
   rw[hlm]
   walk_at "go"
   refine i_list hS (atI_map 0 (Int.emod_nonneg _ (by omega)) (Int.emod_lt_of_pos _ (by omega))) ?_
   exact tail _ _
  .walk_at "ex"
   exact tail _ _
end
end K71
namespace K71
open PySem L2 PyProof.Rows My Vl Lw
section
variable{P:Program}{w:World}{K:PySem.W.Frag}{mg:Str->Option Value}{base:Heap}
theorem d_made_of(T:Txt K mg):Def P w K mg base true 1 "made_of" ["text","signs"] spMade:=by
 refine df_made_of T (λvs H Q E h=>by obtain⟨z,g,rfl,_⟩:=h;rfl) (λf cdv A outer s H vs Q E hr h=>?_)
 obtain⟨z,g,rfl,hz,q⟩:=h
 have n1:=T.n_all
 refine sxs_one (sx_ret ?_)
 walk_at "e"
 walk_at "e"
 refine ev_compS ["sign","signs"] (σ':=[none,some (.str g)]) (by rfl) (by rfl) (compSc_of (defScope s_made_of) (by rfl) (by rfl) (by decide+kernel)) (by decide+kernel) (by rfl) (by rfl) (by intro _;rfl) ?_
 walk_at "e"
 refine⟨z,rfl,?_,λi v=>∃c,z.cps.toList[i]? =some c/\v= .bl (decide (c∈g.cps.toList)),λfp E' C s3 H0 i c H2 hc sm=>?_,λE' H2 xs hE hl hx e2 sm=>?_⟩
 .have :z.cps.size=z.length:=rfl
  have h2:sizeLine=16777216:=sizeLine_eq
  omega
 .walk_at "go"
  exact⟨⟨c,hc,by rw[StrLaws.found_one]⟩,Same.refl _⟩
 .have ex:=list_of_pi (ys:=z.cps.toList) (λc=>V.bl (decide (c∈g.cps.toList))) (by rw[hl];simp) hx
  have ex2:xs=(z.cps.toList.map λc=>decide (c∈g.cps.toList)).map V.bl:=by rw[ex,List.map_map];rfl
  subst ex2
  walk_at "go"
  refine c_all (by rfl) (SqL.of e2) ?_
  have e3:(z.cps.toList.map λc=>decide (c∈g.cps.toList)).all id=madeOf z g:=by rw[List.all_map];rfl
  rw[e3]
  exact q _ sm
end
end K71
namespace K71
open PySem L2 PyProof.Rows My Vl Lw
section
variable{P:Program}{w:World}{K:PySem.W.Frag}{mg:Str->Option Value}{base:Heap}
theorem d_is_text_value(T:Txt K mg):Def P w K mg base true 2 "is_text_value" ["value"] spTxt:=by
 refine df_is_text_value T (λvs H Q E h=>by obtain⟨z,rfl,_⟩:=h;rfl) (λf cdv A outer s H vs Q E hr h=>?_)
 obtain⟨v,rfl,hs,hz,q⟩:=h
 have g1:=T.g_LONGEST
 have g2:=T.g_TEXT_SIGNS
 have n1:=T.n_isinstance
 have n2:=T.n_str
 have n3:=T.n_len
 have D1:Def P w K mg base true 1 "made_of" ["text","signs"] spMade:=d_made_of T
 have hsz:sizeLine=16777216:=sizeLine_eq
 refine sxs_one (sx_ret ?_)
 cases v with
 |int i=>
  walk_at "go"
  exact q H (Same.refl _)
 |non=>
  walk_at "go"
  exact q H (Same.refl _)
 |str z=>
  have hz':z.length≤4000:=hz
  walk_at "go"
  refine ifD (λh=>?_) (λh=>?_)
  .walk_at "go"
   refine⟨z,_,rfl,hz',λH' sm=>?_⟩
   have e:isTxt (.str z)=madeOf z TSs:=by
    have h':z.length≤20:=by omega
    unfold isTxt
    simp[h']
   rw[e]at q
   exact q H' sm
  .have e:isTxt (.str z)=false:=by
    have h':¬z.length≤20:=by omega
    unfold isTxt
    simp[h']
   rw[e]at q
   exact q H (Same.refl _)
 |_=>cases hs
end
end K71
namespace K71
open PySem L2 PyProof.Rows My Vl Lw
section
variable{P:Program}{w:World}{K:PySem.W.Frag}{mg:Str->Option Value}{base:Heap}
theorem d_are_figures(T:Txt K mg):Def P w K mg base true 2 "are_figures" ["word"] spFig:=by
 refine df_are_figures T (λvs H Q E h=>by obtain⟨v,rfl,_⟩:=h;rfl) (λf cdv A outer s H vs Q E hr h=>?_)
 obtain⟨z,rfl,hz,q⟩:=h
 have g1:=T.g_FIGURES
 have D1:Def P w K mg base true 1 "made_of" ["text","signs"] spMade:=d_made_of T
 have hsz:sizeLine=16777216:=sizeLine_eq
 have e0:(Str.ofString "0").cps.toList=[48]:=by decide+kernel
 have e1:(Str.ofString "").cps.toList=[]:=by decide+kernel
 unfold areFig at q
 refine sxs_one (sx_ret ?_)
 walk_at "go"
 refine ifD (λh=>?_) (λh=>?_)
 .have h':z.cps.toList=[48]:=by cases h;exact e0
  rw[h']at q
  exact q H (Same.refl _)
 .have h':¬z.cps.toList=[48]:=λh2=>h (by rw[str_ext (h2.trans e0.symm)])
  rw[decide_eq_false h',Bool.false_or]at q
  walk_at "go"
  refine ifN (λh2=>?_) (λh2=>?_)
  .have h2':z.cps.toList≠[]:=λh3=>h2 (by rw[str_ext (h3.trans e1.symm)])
   rw[decide_eq_true h2',Bool.true_and]at q
   obtain⟨c,r,hc⟩:=List.exists_cons_of_ne_nil h2'
   have hc0:z.cps.toList[0]? =some c:=by rw[hc];rfl
   walk_at "go"
   refine i_str (by omega) (atI_nat (j:=0) hc0) ?_
   walk_at "go"
   rw[hc0]at q
   refine ifN (λh3=>?_) (λh3=>?_)
   .have h3':some c≠some 48:=λh4=>h3 (by cases h4;exact congrArg V.str (str_ext e0.symm))
    rw[decide_eq_true h3',Bool.true_and]at q
    walk_at "go"
    refine⟨z,_,rfl,hz,λH' sm=>?_⟩
    rw[madeOf_fg]
    exact q H' sm
   .have h3':¬(some c≠some 48):=λh4=>h4 (by
     have :=congrArg (λv:V=>match v with | .str x=>x.cps.toList |_=>[]) h3
     have h5:[c]=(Str.ofString "0").cps.toList:=this
     rw[e0]at h5
     cases h5
     rfl)
    rw[decide_eq_false h3',Bool.false_and]at q
    exact q H (Same.refl _)
  .have h2':¬z.cps.toList≠[]:=λh3=>h3 (by cases h2;exact e1)
   rw[decide_eq_false h2',Bool.false_and]at q
   exact q H (Same.refl _)
end
end K71
namespace K71
open PySem L2 PyProof.Rows My Vl Lw
section
variable{P:Program}{w:World}{K:PySem.W.Frag}{mg:Str->Option Value}{base:Heap}
theorem d_read_figures(T:Txt K mg):Def P w K mg base true 3 "read_figures" ["word","most"] spReadF:=by
 refine df_read_figures T (λvs H Q E h=>by obtain⟨z,m,k,rfl,_⟩:=h;rfl) (λf cdv A outer s H vs Q E hr h=>?_)
 obtain⟨z,m,k,rfl,hz,m0,m1,hk,hmk,k1,k2,q⟩:=h
 have n1:=T.n_len
 have n2:=T.n_str
 have n3:=T.n_int
 have nd:=sc_read_figures.nd
 have D1:Def P w K mg base true 2 "are_figures" ["word"] spFig:=d_are_figures T
 have hsz:sizeLine=16777216:=sizeLine_eq
 have hl:=L2.len_list z
 have out:∀(H1:Hp) (o:Option V),Same H H1->figN z.cps.toList m=none->SXs (CxF true P w K mg base N_read_figures "read_figures" (defScope s_read_figures) f cdv A outer s H E) ((defBody s_read_figures).drop 1) {nx:=λ_ H'=>Q .non H',rt:=Q} [some (.str z),some (.int m),o] H1:=by
  intro H1 o sm e
  have q1:=q H1 sm
  rw[e]at q1
  refine sxs_one ?_
  walk_at "go"
  exact q1
 refine sxs_cons ?_
 walk_at "go"
 refine⟨z,rfl,hz,λH1 sm1=>?_⟩
 walk_at "go"
 refine ifB (λh1=>?_) (λh1=>?_)
 .walk_at "go"
  refine c_strI (log_ok m1) ?_
  walk_at "go"
  rw[hk]
  refine ifD (λh2=>?_) (λh2=>?_)
  .walk_at "go"
   obtain⟨hd,hne⟩:=areFig_digits h1
   refine c_intS (intText_digits hd hne (by omega)) (by omega) ?_
   walk_at "go"
   refine ifD (λh3=>?_) (λh3=>?_)
   .have q1:=q H1 sm1
    have e:figN z.cps.toList m=some _:=if_pos ⟨h1,h3⟩
    rw[e]at q1
    walk_at "go"
    exact q1
   .exact sxs_nil (out H1 _ sm1 (if_neg λx=>h3 x.2))
  .refine sxs_nil (out H1 _ sm1 (if_neg λx=>h2 ?_))
   have :=fig_len x.1 x.2 hmk k1
   omega
 .exact sxs_nil (out H1 _ sm1 (if_neg λx=>by rw[h1]at x;exact Bool.false_ne_true x.1))
end
end K71
namespace K71
open PySem L2 PyProof.Rows My Vl Lw
section
variable{P:Program}{w:World}{K:PySem.W.Frag}{mg:Str->Option Value}{base:Heap}
theorem d_read_number_word(T:Txt K mg):Def P w K mg base true 4 "read_number_word" ["word"] (spReadN (.ref (clsA mg "NoValue"))):=by
 refine df_read_number_word T (λvs H Q E h=>by obtain⟨v,rfl,_⟩:=h;rfl) (λf cdv A outer s H vs Q E hr h=>?_)
 obtain⟨z,rfl,hz,q⟩:=h
 have g1:=T.g_BELOW_AHEAD
 have g2:=T.g_LARGEST
 have nd:=sc_read_number_word.nd
 have D1:Def P w K mg base true 3 "read_figures" ["word","most"] spReadF:=d_read_figures T
 have hsz:sizeLine=16777216:=sizeLine_eq
 have lm:(Str.ofString (toString (1000000000000000000:Int))).length=19:=by decide+kernel
 have rz:readNum z.cps.toList=none->∀H1,Same H H1->∀o1 o2 D,SX (CxF true P w K mg base N_read_number_word "read_number_word" (defScope s_read_number_word) f cdv A outer s H E) (stAt (inIf (stAt (defBody s_read_number_word) 2)) 0) D [some (.str z),o1,o2] H1:=by
  intro hn H1 sm o1 o2 D
  refine sx_raise xok_fn (by rfl) T.x_NoValue (by rfl) (by decide) (by rfl) (by rfl) ?_
  walk_at "go"
  refine ev_fmtS ?_
  walk_at "e"
  refine⟨z,rfl,by omega,_,4000,rfl,hz,by omega,?_⟩
  walk_at "go"
  intro zz
  walk_at "go"
  have q1:=q H1 sm
  rw[hn]at q1
  exact⟨by rw[hsz];simp,q1⟩
 refine sxs_cons ?_
 walk_at "go"
 refine m_starts ?_
 rw[show Txt.startswith z "-"=decide (z.cps.toList[0]? =some 45)from starts_one z 45]
 walk_at "go"
 refine ifD (λh0=>?_) (λh0=>?_)
 .rw[decide_eq_true h0]
  walk_at "go"
  refine s_str (by omega) ?_
  walk_at "go"
  have hcl:=cutS_le z (some 1) none
  refine⟨_,_,19,rfl,by omega,by decide,by decide,lm,by decide,by decide,by decide,λH1 sm1=>?_⟩
  rw[show(cutS z (some 1) none).cps.toList=z.cps.toList.drop 1 from cutS_from z 1]
  have er:=readNum_below h0
  cases e:figN (z.cps.toList.drop 1) 1000000000000000000 with
  |none=>
   rw[e]at er
   simp only[intO]
   walk_at "go"
   exact rz er H1 sm1 _ _ _
  |some i=>
   rw[e]at er
   dsimp only at er
   simp only[intO]
   walk_at "go"
   refine ifD (λh1=>?_) (λh1=>?_)
   .have h2:i=0:=by injection h1
    rw[if_pos h2]at er
    exact sxs_one (rz er H1 sm1 _ _ _)
   .have h2:¬i=0:=λe=>h1 (by rw[e])
    rw[if_neg h2]at er
    have q1:=q H1 sm1
    rw[er]at q1
    refine sxs_nil ?_
    walk_at "go"
    exact q1
 .rw[decide_eq_false h0]
  walk_at "go"
  refine⟨_,_,19,rfl,by omega,by decide,by decide,lm,by decide,by decide,by decide,λH1 sm1=>?_⟩
  have er:=readNum_above h0
  cases e:figN z.cps.toList 1000000000000000000 with
  |none=>
   rw[e]at er
   simp only[intO]
   walk_at "go"
   exact rz er H1 sm1 _ _ _
  |some i=>
   rw[e]at er
   simp only[intO]
   have q1:=q H1 sm1
   rw[er]at q1
   walk_at "go"
   exact q1
end
end K71
namespace K71
open PySem L2 PyProof.Rows My Vl Lw
section
variable{P:Program}{w:World}{K:PySem.W.Frag}{mg:Str->Option Value}{base:Heap}
theorem d_read_text_word(T:Txt K mg):Def P w K mg base true 3 "read_text_word" ["word"] (spReadT (.ref (clsA mg "NoValue"))):=by
 refine df_read_text_word T (λvs H Q E h=>by obtain⟨v,rfl,_⟩:=h;rfl) (λf cdv A outer s H vs Q E hr h=>?_)
 obtain⟨z,rfl,hz,q⟩:=h
 have g1:=T.g_TEXT_AHEAD
 have nd:=sc_read_text_word.nd
 have D1:Def P w K mg base true 2 "is_text_value" ["value"] spTxt:=d_is_text_value T
 have hsz:sizeLine=16777216:=sizeLine_eq
 have e1:Str.ofString "'"=⟨#[39]⟩:=by decide+kernel
 have lc:=cutS_le z (some 1) none
 have rz:readTxt z=none->∀H1,Same H H1->SXs (CxF true P w K mg base N_read_text_word "read_text_word" (defScope s_read_text_word) f cdv A outer s H E) ((defBody s_read_text_word).drop 1) {nx:=λ_ H'=>Q .non H',rt:=Q} [some (.str z)] H1:=by
  intro hn H1 sm
  refine sxs_one (sx_raise xok_fn (by rfl) T.x_NoValue (by rfl) (by decide) (by rfl) (by rfl) ?_)
  walk_at "go"
  refine ev_fmtS ?_
  walk_at "e"
  refine⟨z,rfl,by omega,_,4000,rfl,hz,by omega,?_⟩
  walk_at "go"
  intro zz
  walk_at "go"
  have q1:=q H1 sm
  rw[hn]at q1
  exact⟨by rw[hsz];simp,q1⟩
 refine sxs_cons ?_
 walk_at "go"
 refine m_starts ?_
 walk_at "go"
 rw[e1,starts_one]
 refine ifD (λh1=>?_) (λh1=>?_)
 .walk_at "go"
  refine s_str (by omega) ?_
  walk_at "go"
  refine⟨_,rfl,rfl,(show(cutS z (some 1) none).length≤4000 by omega),λH1 sm1=>?_⟩
  walk_at "go"
  refine ifB (λh2=>?_) (λh2=>?_)
  .walk_at "go"
   refine s_str (by omega) ?_
   have q1:=q H1 sm1
   have er:readTxt z=some (cutS z (some 1) none):=by
    unfold readTxt
    rw[if_pos ⟨h1,h2⟩]
   rw[er]at q1
   exact q1
  .refine sxs_nil (rz ?_ H1 sm1)
   unfold readTxt
   rw[if_neg λh4=>by rw[h2]at h4;exact Bool.false_ne_true h4.2]
 .refine sxs_nil (rz ?_ H (Same.refl _))
  unfold readTxt
  rw[if_neg λh4=>h1 h4.1]
end
end K71
namespace K71
open PySem L2 PyProof.Rows My Vl Lw
section
variable{P:Program}{w:World}{K:PySem.W.Frag}{mg:Str->Option Value}{base:Heap}
theorem d_read_value(T:Txt K mg):Def P w K mg base true 5 "read_value" ["kind","word"] (spReadV (.ref (clsA mg "NoValue"))):=by
 refine df_read_value T (λvs H Q E h=>by obtain⟨k,z,rfl,_⟩:=h;rfl) (λf cdv A outer s H vs Q E hr h=>?_)
 obtain⟨k,z,rfl,hz,q⟩:=h
 have g1:=T.g_NONE_WORD
 have g2:=T.g_NUMBER
 have D1:Def P w K mg base true 4 "read_number_word" ["word"] (spReadN (.ref (clsA mg "NoValue"))):=d_read_number_word T
 have D2:Def P w K mg base true 3 "read_text_word" ["word"] (spReadT (.ref (clsA mg "NoValue"))):=d_read_text_word T
 refine sxs_cons ?_
 walk_at "go"
 refine ifD (λh1=>?_) (λh1=>?_)
 .have h2:z="?":=by cases h1;rfl
  have q1:=q H (Same.refl _)
  have er:readV k z=some .non:=by unfold readV;rw[if_pos h2]
  rw[er]at q1
  walk_at "go"
  exact q1
 .have h2:¬z="?":=λe=>h1 (by rw[e])
  have er:readV k z=if k="number" then numV (readNum z.cps.toList)else txtV (readTxt z):=by unfold readV;rw[if_neg h2]
  rw[er]at q
  walk_at "go"
  refine ifD (λh3=>?_) (λh3=>?_)
  .have h4:k="number":=by cases h3;rfl
   rw[if_pos h4]at q
   walk_at "go"
   exact⟨z,rfl,hz,q⟩
  .have h4:¬k="number":=λe=>h3 (by rw[e])
   rw[if_neg h4]at q
   walk_at "go"
   exact⟨z,rfl,hz,q⟩
end
end K71
namespace K71
open PySem L2 PyProof.Rows My Vl Lw
section
variable{P:Program}{w:World}{K:PySem.W.Frag}{mg:Str->Option Value}{base:Heap}
abbrev LRow:=Int×List V×Bool
def LRowAt(H:Hp)(v:V)(r:LRow):Prop:=∃t l,v= .ref t/\H t=some (.tup [.int r.1,.ref l,.bl r.2.2])/\H l=some (.lst r.2.1)
theorem LRowAt.same{H H':Hp}{v:V}{r:LRow}(h:LRowAt H v r)(s:Same H H'):LRowAt H' v r:=by
 obtain⟨t,l,e,q1,q2⟩:=h
 exact⟨t,l,e,s _ _ q1,s _ _ q2⟩
structure Leaf where
 rows:List LRow
 back:V
 forth:V
 many:Int
 ahead:Int
 moment:Int
def LRowsAt(H:Hp)(q:Addr)(rs:List LRow):Prop:=∃vs,H q=some (.lst vs)/\All2 (LRowAt H) vs rs
theorem LRowsAt.same{H H':Hp}{q:Addr}{rs:List LRow}(h:LRowsAt H q rs)(s:Same H H'):LRowsAt H' q rs:=by
 obtain⟨vs,e,a⟩:=h
 exact⟨vs,s _ _ e,a.imp λu c r=>r.same s⟩
def LeafAt(H:Hp)(p:Addr)(L:Leaf):Prop:=∃q,H p=some (.tup [.ref q,L.back,L.forth,.int L.many,.int L.ahead,.int L.moment])/\LRowsAt H q L.rows
theorem LeafAt.same{H H':Hp}{p:Addr}{L:Leaf}(h:LeafAt H p L)(s:Same H H'):LeafAt H' p L:=by
 obtain⟨q,e,a⟩:=h
 exact⟨q,s _ _ e,a.same s⟩
def dLRow(r:LRow):PyData:=.tuple [.int r.1,.list (r.2.1.map dV),.bool r.2.2]
def dLeaf(L:Leaf):PyData:=.tuple [.list (L.rows.map dLRow),dV L.back,dV L.forth,.int L.many,.int L.ahead,.int L.moment]
def layV(x:V):Prop:=sca x=true/\∀z,x= .str z->okS 4000 z
theorem layV.data{x:V}(h:layV x):(dV x).canLay0=true:=by
 obtain⟨hs,hz⟩:=h
 cases x with
 |str z=>exact(hz z rfl).lay
 |_=>rfl
def layR(rs:List LRow):Prop:=∀r∈rs,∀x∈r.2.1,layV x
theorem lrows_lay:∀{rs:List LRow},layR rs->PyData.canLayAll0 (rs.map dLRow)=true
 |[],_=>rfl
 |r::rs,h=>by
  have ih:=lrows_lay (rs:=rs) λd hd=>h d (by simp[hd])
  have h1:(PyData.list (r.2.1.map dV)).canLay0=true:=vals_lay λx hx=>h r (by simp) x hx
  show((dLRow r).canLay0&&PyData.canLayAll0 (rs.map dLRow))=true
  rw[ih,Bool.and_true]
  show(true&&((PyData.list (r.2.1.map dV)).canLay0&&(true&&true)))=true
  rw[h1]
  rfl
theorem leaf_lay{L:Leaf}(h:layR L.rows)(hb:layV L.back)(hf:layV L.forth):(dLeaf L).canLay0=true:=by
 show((PyData.list (L.rows.map dLRow)).canLay0&&((dV L.back).canLay0&&((dV L.forth).canLay0&&(true&&(true&&(true&&true))))))=true
 rw[hb.data,hf.data]
 show(PyData.canLayAll0 (L.rows.map dLRow)&&_)=true
 rw[lrows_lay h]
 rfl
theorem lrow_dep(r:LRow):(dLRow r).depth≤4:=by
 have :=vals_depA r.2.1
 simp only[dLRow,PyData.depth,PyData.depthAll]
 omega
theorem lrows_depA:∀rs:List LRow,PyData.depthAll (rs.map dLRow)≤4
 |[]=>by show(0:Nat)≤4;omega
 |r::rs=>by
  have ih:=lrows_depA rs
  have h1:=lrow_dep r
  show max (dLRow r).depth (PyData.depthAll (rs.map dLRow))≤4
  omega
theorem dV_dep(x:V):(dV x).depth≤1:=by cases x<;>(show(_:Nat)≤1;exact Nat.le_of_ble_eq_true rfl)
theorem leaf_dep(L:Leaf):(dLeaf L).depth≤60:=by
 have h1:=lrows_depA L.rows
 have h2:=dV_dep L.back
 have h3:=dV_dep L.forth
 simp only[dLeaf,PyData.depth,PyData.depthAll]
 omega
theorem lrows_rd{H:Hp}{vs:List V}{rs:List LRow}(h:All2 (LRowAt H) vs rs)(g:layR rs):RDs K H vs (rs.map dLRow):=by
 induction h with
 |nil=>exact .nil
 |cons r t ih=>
  obtain⟨p,l,rfl,h1,h2⟩:=r
  refine .cons (.tup (SqT.of h1) (.cons (.int _) (.cons (.lst (SqL.of h2) (rds_sca ?_)) (.cons (.bl _) .nil)))) (ih λr hr=>g r (by simp[hr]))
  exact List.all_eq_true.mpr λx hx=>(g _ (by simp) x hx).1
theorem leaf_rd{H:Hp}{p:Addr}{L:Leaf}(h:LeafAt H p L)(g:layR L.rows)(hb:layV L.back)(hf:layV L.forth):RD K H (.ref p) (dLeaf L):=by
 obtain⟨q,e,vs,e2,a⟩:=h
 exact .tup (SqT.of e) (.cons (.lst (SqL.of e2) (lrows_rd a g)) (.cons (rd_sca hb.1) (.cons (rd_sca hf.1) (.cons (.int _) (.cons (.int _) (.cons (.int _) .nil))))))
abbrev numT(i:Int):Str:=Str.ofString (toString i)
def rowW(r:LRow):List Str:=numT r.1::(r.2.1.map wordOf++(if r.2.2=true then []else [Str.ofString "*"]))
def rowT(r:LRow):Str:=Str.join " " (rowW r)
def headT(L:Leaf):Str:=numT L.ahead++Str.ofString "+"++numT ((L.rows.length:Nat):Int)++Str.ofString " of "++numT L.many++Str.ofString " at "++numT L.moment
def markL(w:Str):V->List Str
 | .str z=>[w++z]
 |_=>[]
def pageT(L:Leaf):List Str:=headT L::(L.rows.map rowT++(markL (Str.ofString "back ") L.back++markL (Str.ofString "forth ") L.forth))
def markV(v:V):Prop:=v= .non\/∃z,v= .str z/\1≤z.length/\okS 1000 z
def goodR(cs:List Col)(r:LRow):Prop:=0≤r.1/\r.1≤1000000000/\All2 (λc x=>valK c.2 x) cs r.2.1
def ten(i:Int):Prop:=0≤i/\i≤9999999999
structure goodF(cs:List Col)(L:Leaf):Prop where
 rows:∀r∈L.rows,goodR cs r
 few:L.rows.length≤100
 back:markV L.back
 forth:markV L.forth
 many:ten L.many
 ahead:ten L.ahead
 moment:ten L.moment
theorem _root_.Vl.All2.mem'{α β:Type}{R:α->β->Prop}:∀{l:List α} {m:List β},All2 R l m->∀b∈m,∃a,a∈l/\R a b
 |_,_,.nil,b,hb=>by simp at hb
 |_,_,.cons (a:=a) r t,b,hb=>by
  rcases List.mem_cons.mp hb with e |e
  .subst e;exact⟨a,by simp,r⟩
  .obtain⟨a',h1,h2⟩:=t.mem' b e
   exact⟨a',by simp[h1],h2⟩
theorem valK.word{kd:Str}{v:V}(h:valK kd v)(hk:kd="number"\/kd="text"):readV kd (wordOf v)=some v/\(wordOf v).length≤21/\32∉(wordOf v).cps.toList/\¬wordOf v=Str.ofString "*"/\(∀c∈(wordOf v).cps.toList,c<1114112):=by
 rcases h with rfl |⟨hn,i,rfl,h1,h2⟩ |⟨hn,z,rfl,hl,hz⟩
 .refine⟨?_,by decide+kernel,by decide+kernel,by decide+kernel,by decide+kernel⟩
  unfold readV
  rw[if_pos (show wordOf .non=Str.ofString "?" from rfl)]
 .subst hn
  have hf:=word_int_free i
  refine⟨readV_int h1 h2,?_,λh=>?_,λh=>?_,λc hc=>?_⟩
  .have :=word_int_len (i:=i) (k:=19) (by decide) (by omega)
   show(Str.ofString (toString i)).length≤21
   omega
  .have :=hf 32 h
   omega
  .have h':Str.ofString (toString i)=Str.ofString "*":=h
   have e:(Str.ofString "*").cps.toList=[42]:=by decide+kernel
   have :=hf 42 (by rw[h',e];simp)
   omega
  .have :=hf c hc
   omega
 .have hk':kd="text":=hk.resolve_left hn
  subst hk'
  have e1:(Str.ofString "'").length=1:=by decide+kernel
  have e3:=len_app (Str.ofString "'") z
  have hsg:∀c∈SG,¬c=32/\c<1114112:=by decide+kernel
  have hmem:∀c∈(Str.ofString "'"++z).cps.toList,c=39\/c∈SG:=λc hc=>by
   rw[cps_app,ap_code]at hc
   rcases List.mem_append.mp hc with h |h
   .exact .inl (by simpa using h)
   .exact .inr (hz c h)
  refine⟨readV_str hl hz,by show(Str.ofString "'"++z).length≤21;omega,λh=>?_,λh=>?_,λc hc=>?_⟩
  .rcases hmem 32 h with e |e
   .omega
   .exact(hsg 32 e).1 rfl
  .have h':Str.ofString "'"++z=Str.ofString "*":=h
   have e:(Str.ofString "*").cps.toList=[42]:=by decide+kernel
   have h0:(Str.ofString "'"++z).cps.toList[0]? =some 39:=by rw[cps_app,ap_code];rfl
   rw[h',e]at h0
   simp at h0
  .rcases hmem c hc with e |e
   .omega
   .exact(hsg c e).2
end
end K71
namespace K71
open PySem L2 PyProof.Rows My Vl Lw
section
variable{P:Program}{w:World}{K:PySem.W.Frag}{mg:Str->Option Value}{base:Heap}
def spKinds:Sp:=λvs H Q _=>∃(b:Addr) (cs:List Col),vs=[.ref b]/\Cols H b cs/\cs.length≤4000/\∀p H',Same H H'->H p=none->H' p=some (.lst ((cs.map Prod.snd).map V.str))->Q (.ref p) H'
theorem d_kinds_of(T:Txt K mg):Def P w K mg base true 1 "kinds_of" ["columns"] spKinds:=by
 refine df_kinds_of T (λvs H Q E h=>by obtain⟨a,os,rfl,_⟩:=h;rfl) (λf cdv A outer s H vs Q E hr h=>?_)
 obtain⟨b,cs,rfl,⟨vs,ha,hvs⟩,hl,q⟩:=h
 have nd2:(["name","kind"]:List Str).Nodup:=by decide+kernel
 have hsz:sizeLine=16777216:=sizeLine_eq
 have hlv:=hvs.len
 refine sxs_one (sx_ret ?_)
 refine ev_compL ["name","kind"] (σ':=[none,none]) (by rfl) (by rfl) (compSc_of (defScope s_kinds_of) (by rfl) (by rfl) (by decide+kernel)) (by intro _;rfl) ?_
 walk_at "e"
 refine⟨b,vs,rfl,SqL.of ha,by omega,λτ=>∃o1 o2,τ=[o1,o2],λE2 i u H'=>∃c,cs[i]? =some c/\u= .str c.2,⟨none,none,rfl⟩,λE2 i u H2 H3 ys _ _ p=>p,λfp E2 C s3 H0 i τ x H4 H3 hE2 hi hτ sm4 hys hG=>?_,λE2 H4 ys hE2 hl2 hx2 e4 sm4=>?_⟩
 .obtain⟨o1,o2,rfl⟩:=hτ
  obtain⟨hx3,rfl⟩:=hG
  obtain⟨c,hc,t,rfl,ht⟩:=hvs.get hx3
  refine eg_tup (by rfl) (by rfl) (by rfl) (SqT.of (sm4 _ _ ht)) (by rfl) (egs_cons (by rfl) (eg_name nd2 (by rfl) (.inl rfl) (.inr rfl) (egs_cons (by rfl) (eg_name nd2 (by rfl) (.inl rfl) (.inr rfl) (egs_nil ?_)))))
  walk_at "go"
  exact⟨⟨_,_,rfl⟩,⟨c,hc,rfl⟩,Same.refl _⟩
 .have ey:=list_of_pi (ys:=cs) (λc=>V.str c.2) (by rw[hl2,hlv]) hx2
  have ey2:ys=(cs.map Prod.snd).map V.str:=by rw[ey,List.map_map];rfl
  subst ey2
  exact q E2 H4 sm4 hE2 e4
end
end K71
namespace K71
open PySem L2 PyProof.Rows My Vl Lw
section
variable{P:Program}{w:World}{K:PySem.W.Frag}{mg:Str->Option Value}{base:Heap}
def spValues2(K:PySem.W.Frag):Sp:=λvs H Q _=>∃(a:Addr) (ns:List Int) (k:Int) (b:Addr) (cs:List Col),vs=[.ref a,.int k,.ref b]/\SqL K H a (ns.map V.int)/\ns.length≤63/\0≤k/\k≤40000/\Cols H b cs/\cs.length≤6/\∀p xs H',Same H H'->H p=none->H' p=some (.lst xs)->All2 (λc x=>valK c.2 x) cs xs->Q (.ref p) H'
theorem all2_of_get{α β:Type}{R:α->β->Prop}:∀{l:List α} {m:List β},m.length=l.length->(∀(i:Nat) b,m[i]? =some b->∃a,l[i]? =some a/\R a b)->All2 R l m
 |[],[],_,_=>.nil
 |[],_::_,h,_=>by simp at h
 |_::_,[],h,_=>by simp at h
 |a::l,b::m,h,g=>by
  obtain⟨a',e,r⟩:=g 0 b rfl
  have :a=a':=by simpa using e
  subst this
  exact .cons r (all2_of_get (by simpa using h) λi x e=>by simpa using g (i+1) x (by simpa using e))
theorem d__law_values(T:Txt K mg):Def P w K mg base true 3 "_law_values" ["_law_script","_law_k","_law_columns_here"] (spValues2 K):=by
 refine df__law_values T (λvs H Q E h=>by obtain⟨a,ns,k,b,cs,rfl,_⟩:=h;rfl) (λf cdv A outer s H vs Q E hr h=>?_)
 obtain⟨a,ns,k,b,cs,rfl,hS,hl,hk0,hk1,hC,hc6,q⟩:=h
 have n1:=T.n_range
 have n2:=T.n_len
 have hsz:sizeLine=16777216:=sizeLine_eq
 have D1:Def P w K mg base true 2 "_law_value" ["_law_script","_law_k","_law_kind"] (spValue2 K):=d__law_value T
 have ndc:(["_law_n","_law_columns_here","_law_k","_law_script"]:List Str).Nodup:=by decide+kernel
 obtain⟨vs,hb,hvs⟩:=id hC
 have hvl:=hvs.len
 have SB:SqL K H b vs:=SqL.of hb
 refine sxs_one (sx_ret ?_)
 refine ev_compRh ["_law_n","_law_columns_here","_law_k","_law_script"] (σ':=[none,some (.ref b),some (.int k),some (.ref a)]) (by rfl) (by rfl) (compSc_of (defScope s__law_values) (by rfl) (by rfl) (by decide+kernel)) (by rfl) n1 (by rfl) ?_
 walk_at "go"
 refine⟨by omega,by omega,λτ=>∃o1,τ=[o1,some (.ref b),some (.int k),some (.ref a)],λE2 i u H'=>∃c,cs[i]? =some c/\valK c.2 u,⟨none,rfl⟩,λE2 i u H2 H3 ys _ _ p=>p,λfp E2 C s3 H0 i τ x H4 H3 hE2 hi hτ sm4 hys hG=>?_,λL H1 ys hL hl2 hx2 e1 sm1=>?_⟩
 .obtain⟨o1,rfl⟩:=hτ
  obtain⟨rfl,rfl⟩:=hG
  have hil:i<vs.length:=by simpa using hi
  have hg:vs[i]? =some vs[i]:=List.getElem?_eq_getElem hil
  obtain⟨c,hc,t,ev,ht⟩:=hvs.get hg
  refine eg_name ndc (by rfl) (.inl rfl) (.inr rfl) ?_
  walk_at "go"
  refine i_list (sm4.seq SB) (atI_nat hg) ?_
  rw[ev]
  walk_at "go"
  refine i_tup (SqT.of (sm4 _ _ ht)) (show atI [V.str c.1,V.str c.2] 1=some (V.str c.2)from rfl) ?_
  walk_at "go"
  refine⟨a,ns,_,c.2,rfl,sm4.seq hS,hl,by omega,by omega,λv H5 sm5 hv=>?_⟩
  exact⟨⟨_,rfl⟩,⟨c,hc,hv⟩,sm5⟩
 .exact q L ys H1 sm1 hL e1 (all2_of_get (by rw[hl2, <-hvl];simp) hx2)
end
end K71
namespace K71
open PySem L2 PyProof.Rows My Vl Lw
section
variable{P:Program}{w:World}{K:PySem.W.Frag}{mg:Str->Option Value}{base:Heap}
def thenB:List Stmt->List Stmt
 |(.If _ t _ _)::_=>t
 |_=>[]
end
end K71
namespace K71
open PySem L2 PyProof.Rows My Vl Lw
section
variable{P:Program}{w:World}{K:PySem.W.Frag}{mg:Str->Option Value}{base:Heap}
def forB:List Stmt->List Stmt
 |(.For _ _ b _ _)::_=>b
 |_=>[]
def whileB:List Stmt->List Stmt
 |(.While _ b _ _)::_=>b
 |_=>[]
end
end K71
namespace K71
open PySem L2 PyProof.Rows My Vl Lw
section
variable{P:Program}{w:World}{K:PySem.W.Frag}{mg:Str->Option Value}{base:Heap}
theorem cutT_ne(c:Nat)(z:Str):0<(cutT c z).length:=by
 unfold cutT
 rw[List.length_map]
 cases z.cps.toList with
 |nil=>simp[cutAt]
 |cons x r=>
  unfold cutAt
  split
  .simp
  .split <;>simp
def txts(ts:List Str):Prop:=ts.length≤1000/\∀z∈ts,z.length≤2000
def XPage(mg:Str->Option Value)(H:Hp)(E:XK)(n:Nat):Prop:=∀e b H',Same H H'->H' e=some (.xd [("at",.int n)])->E (.ref (clsA mg "NoPage")) (some e,b) H'
def spTextAt(K:PySem.W.Frag)(mg:Str->Option Value):Sp:=λvs H Q E=>∃(a:Addr) (ts:List Str) (i:Nat),vs=[.ref a,.int i]/\SqL K H a (ts.map V.str)/\i≤100000000000/\
 (¬i<ts.length->XPage mg H E i)/\∀z,ts[i]? =some z->Q (.str z) H
theorem d_text_at(T:Txt K mg):Def P w K mg base true 3 "text_at" ["texts","at"] (spTextAt K mg):=by
 refine df_text_at T (λvs H Q E h=>by obtain⟨a,ws,p,rfl,_⟩:=h;rfl) (λf cdv A outer s H vs Q E hr h=>?_)
 obtain⟨a,ts,i,rfl,hS,hi,bad,q⟩:=h
 have n1:=T.n_len
 have hlm:(ts.map V.str).length=ts.length:=List.length_map ..
 refine sxs_cons ?_
 walk_at "go"
 rw[hlm]
 refine ifD (λh=>?_) (λh=>?_)
 .refine sxs_one (sx_raiseI (d_NoPage T (cc:=true)) hr (by decide) (λ_=>rfl) xok_fn (by rfl) (by rfl) (by decide) (by rfl) (by rfl) ?_)
  walk_at "go"
  exact⟨i,rfl,by omega,λe H' sm he=>bad (by omega) e true H' sm he⟩
 .walk_at "go"
  have hlt:i<ts.length:=by omega
  have hg:ts[i]? =some ts[i]:=List.getElem?_eq_getElem hlt
  refine i_list hS (atI_nat (by rw[List.getElem?_map,hg];rfl)) ?_
  exact q _ hg
def headW(ws:List Str):Option (List Int):=
 if ws.length=5/\(cutT 43 (ws.getD 0 (Str.ofString ""))).length=2/\ws.getD 1 (Str.ofString "")=Str.ofString "of"/\ws.getD 3 (Str.ofString "")=Str.ofString "at" then mapO (λw:Str=>figN w.cps.toList 9999999999) (cutT 43 (ws.getD 0 (Str.ofString ""))++[ws.getD 2 (Str.ofString ""),ws.getD 4 (Str.ofString "")])else none
def headF(ts:List Str):Option (List Int):=match ts[0]? with
 |none=>none
 |some z=>headW (cutT 32 z)
theorem mapO_or{α β:Type}(f:α->Option β):∀l:List α,(∃m,mapO f l=some m/\m.length=l.length/\∀(i:Nat) x,l[i]? =some x->∃y,m[i]? =some y/\f x=some y)\/(mapO f l=none/\∃(i:Nat) (x:α),l[i]? =some x/\f x=none)
 |[]=>.inl ⟨[],rfl,rfl,λi x h=>by simp at h⟩
 |x::l=>by
  cases e:f x with
  |none=>exact .inr ⟨mapO_none (x:=x) (by simp) e,0,x,rfl,e⟩
  |some y=>
   rcases mapO_or f l with⟨m,h1,h2,h3⟩ |⟨h1,i,z,h2,h3⟩
   .refine .inl ⟨y::m,?_,by simp[h2],λi z hz=>?_⟩
    .unfold mapO
     rw[e,h1]
    .cases i with
     |zero=>
      have :x=z:=by simpa using hz
      subst this
      exact⟨y,rfl,e⟩
     |succ i=>exact h3 i z (by simpa using hz)
   .exact .inr ⟨mapO_none (x:=z) (by simp[List.mem_of_getElem? h2]) h3,i+1,z,by simpa using h2,h3⟩
theorem inV_non(os:List (Option Int)):inV .non (os.map intO)=os.any Option.isNone:=by
 induction os with
 |nil=>rfl
 |cons o r ih=>
  show(_||inV .non (r.map intO))=_
  rw[ih]
  cases o<;>rfl
def spReadHead(K:PySem.W.Frag)(mg:Str->Option Value):Sp:=λvs H Q E=>∃(a:Addr) (ts:List Str),vs=[.ref a]/\SqL K H a (ts.map V.str)/\txts ts/\(headF ts=none->XPage mg H E 0)/\
 ∀ns p H',headF ts=some ns->Same H H'->H p=none->H' p=some (.lst (ns.map V.int))->Q (.ref p) H'
theorem d_read_head(T:Txt K mg):Def P w K mg base true 4 "read_head" ["texts"] (spReadHead K mg):=by
 refine df_read_head T (λvs H Q E h=>by obtain⟨a,ts,rfl,_⟩:=h;rfl) (λf cdv A outer s H vs Q E hr h=>?_)
 obtain⟨a,ts,rfl,hS,ht,bad,q⟩:=h
 have nd:=sc_read_head.nd
 have n1:=T.n_len
 have g1:=T.g_WORDS_OF_HEAD
 have g2:=T.g_TEN_FIGURES
 have hsz:sizeLine=16777216:=sizeLine_eq
 have nd1:(["word"]:List Str).Nodup:=by decide+kernel
 have D1:Def P w K mg base true 3 "text_at" ["texts","at"] (spTextAt K mg):=d_text_at T
 have D2:Def P w K mg base true 3 "read_figures" ["word","most"] spReadF:=d_read_figures T
 have e10:(Str.ofString (toString (9999999999:Int))).length=10:=by decide+kernel
 refine sxs_cons ?_
 walk_at "s"
 refine ev_bm PySem.F.plainAttrs_str PySem.F.slot_str_split PySem.F.type_str_split (by rfl) (by rfl) (by rfl) (by rfl) (by rfl) ?_
 walk_at "go"
 refine⟨a,ts,0,rfl,hS,by decide,λhb=>bad ?_,λz hz=>?_⟩
 .unfold headF
  rw[List.getElem?_eq_none (by omega)]
 have hzl:z.length≤2000:=ht.2 _ (List.mem_of_getElem? hz)
 have eF:headF ts=headW (cutT 32 z):=by unfold headF;rw[hz]
 rw[eF]at bad q
 clear eF
 walk_at "go"
 refine m_split (c:=32) (by omega) λp hp=>?_
 have hwl:=cutT_len 32 z
 have hw0:=cutT_ne 32 z
 have hws:∀y∈cutT 32 z,y.length≤2000:=λy hy=>by have :=cutT_short hy;omega
 generalize cutT 32 z=ws at bad q hwl hw0 hws⊢
 have sm1:Same H (upd H p (.lst (ws.map V.str))):=Same.upd hp
 have ep:(upd H p (.lst (ws.map V.str))) p=some (.lst (ws.map V.str)):=upd_same
 generalize upd H p (.lst (ws.map V.str))=H1 at sm1 ep⊢
 have SP:SqL K H1 p (ws.map V.str):=SqL.of ep
 obtain⟨w0,wr,rfl⟩:∃w0 wr,ws=w0::wr:=by
  cases ws with
  |nil=>simp at hw0
  |cons a r=>exact⟨a,r,rfl⟩
 have hl0:=hws w0 (by simp)
 refine sxs_cons ?_
 walk_at "s"
 refine ev_bm PySem.F.plainAttrs_str PySem.F.slot_str_split PySem.F.type_str_split (by rfl) (by rfl) (by rfl) (by rfl) (by rfl) ?_
 walk_at "go"
 refine i_list SP (show atI ((w0::wr).map V.str) ((0:Nat):Int)=some (.str w0)from atI_nat rfl) ?_
 walk_at "go"
 refine m_split (c:=43) (by omega) λp2 hp2=>?_
 have hcl:=cutT_len 43 w0
 have hcs:∀y∈cutT 43 w0,y.length≤2000:=λy hy=>by have :=cutT_short hy;omega
 unfold headW at bad q
 rw[show(w0::wr).getD 0 (Str.ofString "")=w0 from rfl]at bad q
 generalize cutT 43 w0=cts at bad q hcl hcs⊢
 have sm2:Same H1 (upd H1 p2 (.lst (cts.map V.str))):=Same.upd hp2
 have ep2:(upd H1 p2 (.lst (cts.map V.str))) p2=some (.lst (cts.map V.str)):=upd_same
 generalize upd H1 p2 (.lst (cts.map V.str))=H2 at sm2 ep2⊢
 have SP2:=sm2.seq SP
 have SQ:SqL K H2 p2 (cts.map V.str):=SqL.of ep2
 have sm12:=sm1.trans sm2
 have no:(¬((w0::wr).length=5/\cts.length=2/\(w0::wr).getD 1 (Str.ofString "")=Str.ofString "of"/\(w0::wr).getD 3 (Str.ofString "")=Str.ofString "at"))->SXs (CxF true P w K mg base N_read_head "read_head" (defScope s_read_head) f cdv A outer s H E) (thenB ((defBody s_read_head).drop 2)) {nx:=λσ' H'=>SXs (CxF true P w K mg base N_read_head "read_head" (defScope s_read_head) f cdv A outer s H E) ((defBody s_read_head).drop 3) {nx:=λ_ H'=>Q .non H',rt:=Q} σ' H',rt:=Q} [some (.ref a),some (.ref p),some (.ref p2),none] H2:=λh=>by
  rw[if_neg h]at bad
  refine sxs_one (sx_raiseI (d_NoPage T (cc:=true)) hr (by decide) (λ_=>rfl) xok_fn (by rfl) (by rfl) (by decide) (by rfl) (by rfl) ?_)
  walk_at "go"
  exact⟨0,rfl,by decide,λe H' sm he=>bad rfl e true H' (sm12.trans sm) he⟩
 refine sxs_cons (sx_if ?_)
 walk_at "ex"
 refine ifN (λh=>no λhh=>h ?_) (λh1=>?_)
 .rw[List.length_map,hh.1];rfl
 have l5:(w0::wr).length=5:=by
  have :=V.int.inj h1
  rw[List.length_map]at this
  omega
 obtain⟨w1,w2,w3,w4,rfl⟩:∃w1 w2 w3 w4,wr=[w1,w2,w3,w4]:=by
  match wr,l5 with
  |[a,b,c,d],_=>exact⟨a,b,c,d,rfl⟩
 walk_at "ex"
 refine ifN (λh=>no λhh=>h ?_) (λh2=>?_)
 .rw[List.length_map,hh.2.1];rfl
 have l2:cts.length=2:=by
  have :=V.int.inj h2
  rw[List.length_map]at this
  omega
 obtain⟨c0,c1,rfl⟩:∃c0 c1,cts=[c0,c1]:=by
  match cts,l2 with
  |[a,b],_=>exact⟨a,b,rfl⟩
 walk_at "ex"
 refine i_list SP2 (show atI _ 1=some (.str w1)from rfl) ?_
 walk_at "ex"
 refine ifN (λh=>no λhh=>h ?_) (λh3=>?_)
 .exact congrArg V.str hh.2.2.1
 walk_at "ex"
 refine i_list SP2 (show atI _ 3=some (.str w3)from rfl) ?_
 walk_at "ex"
 refine ifN (λh=>no λhh=>h ?_) (λh4=>?_)
 .exact congrArg V.str hh.2.2.2
 refine sxs_nil ?_
 rw[if_pos ⟨rfl,rfl,V.str.inj h3,V.str.inj h4⟩]at bad q
 rw[show [c0,c1]++[(w0::[w1,w2,w3,w4]).getD 2 (Str.ofString ""),(w0::[w1,w2,w3,w4]).getD 4 (Str.ofString "")]=[c0,c1,w2,w4]from rfl]at bad q
 have hl4:∀y∈[c0,c1,w2,w4],y.length≤2000:=λy hy=>by
  simp only[List.mem_cons,List.not_mem_nil,or_false]at hy
  rcases hy with rfl |rfl |rfl |rfl
  .exact hcs _ (by simp)
  .exact hcs _ (by simp)
  .exact hws _ (by simp)
  .exact hws _ (by simp)
 refine sxs_cons ?_
 refine sx_compL ["word"] (σ':=[none]) (by rfl) (by rfl) (by rfl) (compSc_of (defScope s_read_head) (by rfl) (by rfl) (by decide+kernel)) (by intro _;rfl) nd (by rfl) (by rfl) ?_
 walk_at "go"
 refine i_list SP2 (show atI _ 2=some (.str w2)from rfl) ?_
 walk_at "go"
 refine i_list SP2 (show atI _ 4=some (.str w4)from rfl) ?_
 walk_at "go"
 refine⟨by show 2≤sizeLine;omega,λy hy=>?_⟩
 have sm3:=Same.upd (o:=.lst [V.str w2,.str w4]) hy
 have ey:(upd H2 y (.lst [V.str w2,.str w4])) y=some (.lst [V.str w2,.str w4]):=upd_same
 generalize upd H2 y (.lst [V.str w2,.str w4])=H3 at sm3 ey⊢
 refine o_catL (sm3 _ _ ep2) ey (by show 4≤sizeLine;omega) λy2 hy2=>?_
 have sm4:=Same.upd (o:=.lst ([c0,c1].map V.str++[V.str w2,.str w4])) hy2
 have ey2:(upd H3 y2 (.lst ([c0,c1].map V.str++[V.str w2,.str w4]))) y2=some (.lst ([c0,c1,w2,w4].map V.str)):=upd_same
 generalize upd H3 y2 (.lst ([c0,c1].map V.str++[V.str w2,.str w4]))=H4 at sm4 ey2⊢
 have s04:=(sm12.trans sm3).trans sm4
 refine⟨y2,_,rfl,SqL.of ey2,by show 4≤sizeLine;omega,λτ=>∃o1,τ=[o1],λE2 i u H'=>∃n:Option Int,([c0,c1,w2,w4].map λw:Str=>figN w.cps.toList 9999999999)[i]? =some n/\u=intO n,⟨none,rfl⟩,λE2 i u H2 H3 ys _ _ p=>p,λfp E2 C s3 H0 i τ x H5 H6 hE2 hi hτ sm5 hys hG=>?_,λE2 H5 ys hE2 hl2 hx2 e5 sm5=>?_⟩
 .obtain⟨o1,rfl⟩:=hτ
  obtain⟨hx3,rfl⟩:=hG
  rw[List.getElem?_map]at hx3
  obtain⟨y,hy,rfl⟩:=Option.map_eq_some_iff.mp hx3
  refine eg_name nd1 (by rfl) (.inl rfl) (.inr rfl) ?_
  walk_at "go"
  refine⟨y,9999999999,10,rfl,by have :=hl4 y (List.mem_of_getElem? hy);omega,by decide,by decide,e10,by decide,by decide,by decide,λH7 sm7=>?_⟩
  exact⟨⟨_,rfl⟩,⟨_,by rw[List.getElem?_map,hy];rfl,rfl⟩,sm7⟩
 .have ey3:=list_of_pi (ys:=[c0,c1,w2,w4].map λw:Str=>figN w.cps.toList 9999999999) intO (by rw[hl2];rfl) hx2
  subst ey3
  have smF:=s04.trans sm5
  refine sxs_cons (sx_if ?_)
  walk_at "ex"
  refine o_inL (SqL.of e5) (by rfl) (by
   generalize([c0,c1,w2,w4].map λw:Str=>figN w.cps.toList 9999999999)=os
   rw[List.all_eq_true]
   intro x hx
   obtain⟨o,_,rfl⟩:=List.mem_map.mp hx
   cases o<;>rfl) ?_
  rw[inV_non]
  rcases mapO_or (λw:Str=>figN w.cps.toList 9999999999) [c0,c1,w2,w4]with⟨m,h1,h2,h5⟩ |⟨h1,i,x,h2,h5⟩
  .have em:([c0,c1,w2,w4].map λw:Str=>figN w.cps.toList 9999999999)=m.map some:=by
    apply List.ext_getElem?
    intro i
    rw[List.getElem?_map,List.getElem?_map]
    cases e:([c0,c1,w2,w4]:List Str)[i]? with
    |none=>
     have :m[i]? =none:=List.getElem?_eq_none (by rw[h2];exact List.getElem?_eq_none_iff.mp e)
     rw[this]
     rfl
    |some x=>
     obtain⟨y,g1,g2⟩:=h5 i x e
     rw[g1]
     exact congrArg some g2
   rw[em]at e5⊢
   rw[show(m.map some).any Option.isNone=false by rw[List.any_eq_false];intro x hx;obtain⟨y,_,rfl⟩:=List.mem_map.mp hx;simp]
   walk_at "ex"
   refine sxs_nil (sxs_one (sx_ret ?_))
   walk_at "ex"
   refine q m E2 H5 h1 smF (s04.free hE2) ?_
   rw[e5,List.map_map]
   rfl
  .rw[show(([c0,c1,w2,w4].map λw:Str=>figN w.cps.toList 9999999999)).any Option.isNone=true by
    rw[List.any_eq_true]
    exact⟨none,List.mem_map.mpr ⟨x,List.mem_of_getElem? h2,h5⟩,rfl⟩]
   walk_at "ex"
   refine sxs_one (sx_raiseI (d_NoPage T (cc:=true)) hr (by decide) (λ_=>rfl) xok_fn (by rfl) (by rfl) (by decide) (by rfl) (by rfl) ?_)
   walk_at "go"
   exact⟨0,rfl,by decide,λe H' sm he=>bad h1 e true H' (smF.trans sm) he⟩
end
end K71
namespace K71
open PySem L2 PyProof.Rows My Vl Lw
section
variable{P:Program}{w:World}{K:PySem.W.Frag}{mg:Str->Option Value}{base:Heap}
def valsF(cs:List Col)(ws:List Str):Option (List V):=if ws.length=cs.length then mapO (λp:Col×Str=>readV p.1.2 p.2) (cs.zip ws)else none
def spReadValsT(mg:Str->Option Value):Sp:=λvs H Q E=>∃(p q:Addr) (cs:List Col) (zs:List Str),vs=[.ref p,.ref q]/\H p=some (.lst ((cs.map Prod.snd).map V.str))/\H q=some (.lst (zs.map V.str))/\cs.length≤1000/\(∀z∈zs,z.length≤4000)/\
 (valsF cs zs=none->∀H',Same H H'->E (.ref (clsA mg "NoValue")) (none,true) H')/\∀xs l H',valsF cs zs=some xs->Same H H'->H l=none->H' l=some (.lst xs)->Q (.ref l) H'
theorem d_read_valuesT(T:Txt K mg):Def P w K mg base true 6 "read_values" ["kinds","words"] (spReadValsT mg):=by
 refine df_read_values T (λvs H Q E h=>by obtain⟨p,q,cs,zs,rfl,_⟩:=h;rfl) (λf cdv A outer s H vs Q E hr h=>?_)
 obtain⟨p,q',cs,zs,rfl,hp,hq,hkl,hzl,bad,q⟩:=h
 have n1:=T.n_len
 have n2:=T.n_zip
 have nd2:(["kind","word"]:List Str).Nodup:=by decide+kernel
 have hsz:sizeLine=16777216:=sizeLine_eq
 have D1:Def P w K mg base true 5 "read_value" ["kind","word"] (spReadV (.ref (clsA mg "NoValue"))):=d_read_value T
 have l1:((cs.map Prod.snd).map V.str).length=cs.length:=by rw[List.length_map,List.length_map]
 have l2:(zs.map V.str).length=zs.length:=by rw[List.length_map]
 have SP:SqL K H p ((cs.map Prod.snd).map V.str):=SqL.of hp
 have SQ:SqL K H q' (zs.map V.str):=SqL.of hq
 refine sxs_cons (sx_if ?_)
 walk_at "go"
 rw[l1,l2]
 refine ifN (λhne=>?_) (λhe=>?_)
 .refine sxs_one (sx_raise xok_fn (by rfl) T.x_NoValue (by rfl) (by decide) (by rfl) (by rfl) ?_)
  walk_at "go"
  exact⟨by rw[hsz];simp,bad (if_neg λe=>hne (by rw[e])) H (Same.refl _)⟩
 have hel:zs.length=cs.length:=by
  have :=V.int.inj he
  omega
 have eF:valsF cs zs=mapO (λp:Col×Str=>readV p.1.2 p.2) (cs.zip zs):=if_pos hel
 rw[eF]at bad q
 have hzip:∀(i:Nat) (k:Str) (z:Str),(cs.map Prod.snd)[i]? =some k->zs[i]? =some z->∃c,(cs.zip zs)[i]? =some (c,z)/\c.2=k:=λi k z h1 h2=>by
  rw[List.getElem?_map]at h1
  obtain⟨c,hc,rfl⟩:=Option.map_eq_some_iff.mp h1
  exact⟨c,by rw[List.getElem?_zip_eq_some];exact⟨hc,h2⟩,rfl⟩
 refine sxs_nil ?_
 refine sxs_one (sx_ret ?_)
 refine ev_compZX ["kind","word"] (σ':=[none,none]) (by rfl) xok_fn rfl rfl (by rfl) (compSc_of (defScope s_read_values) (by rfl) (by rfl) (by decide+kernel)) (by rfl) n2 (by rfl) (by rfl) ?_
 walk_at "e"
 walk_at "e"
 refine⟨p,q',_,_,rfl,rfl,hp,hq,by rw[l1];omega,λτ=>∃o1 o2,τ=[o1,o2],λE2 i u H'=>∃c z,(cs.zip zs)[i]? =some (c,z)/\readV c.2 z=some u,⟨none,none,rfl⟩,λE2 i u H2 H3 ys _ _ p=>p,λfp E2 C s3 H0 F i τ x H5 H6 xo hE2 hi hτ sm5 hys hG=>?_,λE2 H5 ys hE2 hl2 hx2 e5 sm5=>?_⟩
 .obtain⟨o1,o2,rfl⟩:=hτ
  obtain⟨t,y,z,rfl,htn,rfl,hy,hz⟩:=hG
  rw[List.getElem?_map]at hy hz
  obtain⟨k,hk,rfl⟩:=Option.map_eq_some_iff.mp hy
  obtain⟨z,hzz,rfl⟩:=Option.map_eq_some_iff.mp hz
  obtain⟨c,hcz,rfl⟩:=hzip i k z hk hzz
  have smt:Same H5 (upd H5 t (.tup [.str c.2,.str z])):=Same.upd htn
  refine eg_tup (by rfl) (by rfl) (by rfl) (SqT.of upd_same) (by rfl) (egs_cons (by rfl) (eg_name nd2 (by rfl) (.inl rfl) (.inr rfl) (egs_cons (by rfl) (eg_name nd2 (by rfl) (.inl rfl) (.inr rfl) (egs_nil ?_)))))
  generalize upd H5 t (.tup [.str c.2,.str z])=H7 at smt⊢
  walk_at "go"
  refine⟨c.2,z,rfl,hzl z (List.mem_of_getElem? hzz),λH8 sm8=>?_⟩
  cases e:readV c.2 z with
  |some v=>exact⟨⟨_,_,rfl⟩,⟨c,z,hcz,e⟩,smt.trans sm8⟩
  |none=>exact bad (mapO_none (x:=(c,z)) (List.mem_of_getElem? hcz) e) _ ((sm5.trans smt).trans sm8)
 .refine q ys E2 H5 (mapO_some ?_ λi x y h1 h2=>?_) sm5 hE2 e5
  .rw[hl2,List.length_zip,l1,l2]
  .obtain⟨c,z,g1,g2⟩:=hx2 i y h2
   rw[h1]at g1
   cases g1
   exact g2
def starS:Str:=Str.ofString "*"
def restW(ws:List Str):List Str:=if ws.getLast? =some starS then(ws.drop 1).dropLast else ws.drop 1
def rowW1(cs:List Col)(ws:List Str):Option LRow:=match figN (ws.getD 0 (Str.ofString "")).cps.toList 1000000000 with
 |none=>none
 |some n=>match valsF cs (restW ws)with
  |none=>none
  |some xs=>some (n,xs, !decide (ws.getLast? =some starS))
def rowF(cs:List Col)(z:Str):Option LRow:=rowW1 cs (cutT 32 z)
theorem cutV_mid1{x:V}{ws:List V}:cutV (x::ws) (some 1) (some (-1))=ws.dropLast:=by
 unfold cutV
 have e1:HT.sIx (x::ws).length 0 (some 1)=1:=by
  have :=HT.sIx_nat (x::ws).length 0 1
  rw[show(some ((1:Nat):Int))=some (1:Int)from rfl]at this
  rw[this]
  rw[List.length_cons]
  omega
 have e2:HT.sIx (x::ws).length (x::ws).length (some (-1))=ws.length:=by
  unfold HT.sIx
  simp
  omega
 rw[e1,e2,List.drop_one,List.tail_cons,List.dropLast_eq_take]
theorem cutV_rest1{x:V}{ws:List V}:cutV (x::ws) (some 1) none=ws:=cutV_from (x::ws) 1
theorem atI_m1{xs:List V}{x:V}(h:xs.getLast? =some x):atI xs (-1)=some x:=by
 have hne:xs≠[]:=λe=>by subst e;simp at h
 have e:xs=xs.dropLast++[x]:=by
  rw[List.getLast?_eq_some_getLast hne]at h
  have h2:=Option.some.inj h
  rw[<-h2]
  exact(List.dropLast_concat_getLast hne).symm
 rw[e]
 exact atI_last _ _
def spReadRow(K:PySem.W.Frag)(mg:Str->Option Value):Sp:=λvs H Q E=>∃(b:Addr) (cs:List Col) (a:Addr) (ts:List Str) (i:Nat),vs=[.ref b,.ref a,.int i]/\Cols H b cs/\cs.length≤6/\SqL K H a (ts.map V.str)/\txts ts/\i≤100000/\
 ((∀z,ts[i]? =some z->rowF cs z=none)->XPage mg H E i)/\
 ∀z r t l H',ts[i]? =some z->rowF cs z=some r->Same H H'->H t=none->H l=none->H' t=some (.tup [.int r.1,.ref l,.bl r.2.2])->H' l=some (.lst r.2.1)->Q (.ref t) H'
theorem d_read_row(T:Txt K mg):Def P w K mg base true 7 "read_row" ["columns","texts","at"] (spReadRow K mg):=by
 refine df_read_row T (λvs H Q E h=>by obtain⟨b,cs,a,ts,i,rfl,_⟩:=h;rfl) (λf cdv A outer s H vs Q E hr h=>?_)
 obtain⟨b,cs,a,ts,i,rfl,hC,hk,hS,ht,hi,bad,q⟩:=h
 have nd:=sc_read_row.nd
 have n1:=T.n_len
 have g1:=T.g_LARGEST_ROW
 have g2:=T.g_TOUCHED
 have hsz:sizeLine=16777216:=sizeLine_eq
 have D1:Def P w K mg base true 3 "text_at" ["texts","at"] (spTextAt K mg):=d_text_at T
 have D2:Def P w K mg base true 3 "read_figures" ["word","most"] spReadF:=d_read_figures T
 have D3:Def P w K mg base true 1 "kinds_of" ["columns"] spKinds:=d_kinds_of T
 have D4:Def P w K mg base true 6 "read_values" ["kinds","words"] (spReadValsT mg):=d_read_valuesT T
 have e10:(Str.ofString (toString (1000000000:Int))).length=10:=by decide+kernel
 refine sxs_cons ?_
 walk_at "s"
 refine ev_bm PySem.F.plainAttrs_str PySem.F.slot_str_split PySem.F.type_str_split (by rfl) (by rfl) (by rfl) (by rfl) (by rfl) ?_
 walk_at "go"
 refine⟨a,ts,i,rfl,hS,by omega,λhb=>bad ?_,λz hz=>?_⟩
 .intro z hz
  exact absurd (List.getElem?_eq_some_iff.mp hz).1 hb
 have hzl:z.length≤2000:=ht.2 _ (List.mem_of_getElem? hz)
 have bad:rowF cs z=none->XPage mg H E i:=λh=>bad λz' hz'=>by rw[hz]at hz';cases hz';exact h
 have q:∀r t l H',rowF cs z=some r->Same H H'->H t=none->H l=none->H' t=some (.tup [.int r.1,.ref l,.bl r.2.2])->H' l=some (.lst r.2.1)->Q (.ref t) H':=λr t l H' h=>q z r t l H' hz h
 unfold rowF at bad q
 walk_at "go"
 refine m_split (c:=32) (by omega) λp hp=>?_
 have hwl:=cutT_len 32 z
 have hw0:=cutT_ne 32 z
 have hws:∀y∈cutT 32 z,y.length≤2000:=λy hy=>by have :=cutT_short hy;omega
 generalize cutT 32 z=ws at bad q hwl hw0 hws⊢
 have sm1:Same H (upd H p (.lst (ws.map V.str))):=Same.upd hp
 have ep:(upd H p (.lst (ws.map V.str))) p=some (.lst (ws.map V.str)):=upd_same
 generalize upd H p (.lst (ws.map V.str))=H1 at sm1 ep⊢
 have SP:SqL K H1 p (ws.map V.str):=SqL.of ep
 obtain⟨w0,wr,rfl⟩:∃w0 wr,ws=w0::wr:=by
  cases ws with
  |nil=>simp at hw0
  |cons a r=>exact⟨a,r,rfl⟩
 have hl0:=hws w0 (by simp)
 refine sxs_cons ?_
 walk_at "go"
 refine i_list SP (show atI ((w0::wr).map V.str) ((0:Nat):Int)=some (.str w0)from atI_nat rfl) ?_
 walk_at "go"
 refine⟨w0,1000000000,10,rfl,by omega,by decide,by decide,e10,by decide,by decide,by decide,λH2 sm2=>?_⟩
 have sm02:=sm1.trans sm2
 unfold rowW1 at bad q
 rw[show(w0::wr).getD 0 (Str.ofString "")=w0 from rfl]at bad q
 refine sxs_cons (sx_if ?_)
 cases hfg:figN w0.cps.toList 1000000000 with
 |none=>
  rw[hfg]at bad
  rw[show intO (none:Option Int)=V.non from rfl]
  walk_at "ex"
  refine sxs_one (sx_raiseI (d_NoPage T (cc:=true)) hr (by decide) (λ_=>rfl) xok_fn (by rfl) (by rfl) (by decide) (by rfl) (by rfl) ?_)
  walk_at "go"
  exact⟨i,rfl,by omega,λe H' sm he=>bad rfl e true H' (sm02.trans sm) he⟩
 |some n=>
 rw[hfg]at bad q
 rw[show intO (some n)=V.int n from rfl]
 walk_at "ex"
 refine sxs_nil ?_
 have SP2:=sm2.seq SP
 obtain⟨lw,hlw⟩:∃lw,(w0::wr).getLast? =some lw:=⟨_,List.getLast?_eq_some_getLast (by simp)⟩
 refine sxs_cons ?_
 walk_at "s"
 walk_at "ex"
 refine i_list SP2 (atI_m1 (x:=.str lw) (by rw[List.getLast?_map,hlw];rfl)) ?_
 walk_at "ex"
 have elw:decide ((w0::wr).getLast? =some starS)=decide (V.str lw=V.str (Str.ofString "*")):=by
  rw[hlw]
  by_cases z:lw=Str.ofString "*"
  .rw[decide_eq_true (show some lw=some starS by rw[z];rfl),decide_eq_true (congrArg V.str z)]
  .rw[decide_eq_false (show ¬some lw=some starS from λe=>z (Option.some.inj e)),decide_eq_false (λe=>z (V.str.inj e))]
 have bad:valsF cs (restW (w0::wr))=none->XPage mg H E i:=λh=>bad (by rw[h])
 have q:∀xs t l H',valsF cs (restW (w0::wr))=some xs->Same H H'->H t=none->H l=none->H' t=some (.tup [.int n,.ref l,.bl (!decide (V.str lw=V.str (Str.ofString "*")))])->H' l=some (.lst xs)->Q (.ref t) H':=λxs t l H' h=>q (n,xs, !decide (V.str lw=V.str (Str.ofString "*"))) t l H' (by rw[h,elw])
 unfold restW at bad q
 have ews:((w0::wr).drop 1)=wr:=rfl
 rw[ews]at bad q
 have etc:((w0::wr).getLast? =some starS)↔decide (V.str lw=V.str (Str.ofString "*"))=true:=by rw[<-elw,decide_eq_true_eq]
 have hwr:∀y∈wr,y.length≤2000:=λy hy=>hws y (by simp[hy])
 generalize decide (V.str lw=V.str (Str.ofString "*"))=tc at q etc⊢
 have tail:∀(l:Addr) (xs:List V) (H3:Hp),Same H2 H3->H2 l=none->H3 l=some (.lst xs)->(if(w0::wr).getLast? =some starS then wr.dropLast else wr)=(if tc=true then wr.dropLast else wr)->valsF cs (if tc=true then wr.dropLast else wr)=some xs->SXs (CxF true P w K mg base N_read_row "read_row" (defScope s_read_row) f cdv A outer s H E) ((defBody s_read_row).drop 5) {nx:=λ_ H'=>Q .non H',rt:=Q} [some (.ref b),some (.ref a),some (.int i),some (.ref p),some (.int n),some (.bl tc),some (.ref l)] H3:=by
  intro l xs H3 sm3 hln hl e1 e2
  refine sxs_one ?_
  walk_at "go"
  refine⟨by show 3≤sizeLine;omega,λt htn=>?_⟩
  have htl:l≠t:=λe=>by rw[<-e,hl]at htn;cases htn
  exact q xs t l _ (by rw[e1,e2]) ((sm02.trans sm3).trans (Same.upd htn)) ((sm02.trans sm3).free htn) (sm02.free hln) upd_same (by rw[upd_ne htl];exact hl)
 have eif:(if(w0::wr).getLast? =some starS then wr.dropLast else wr)=(if tc=true then wr.dropLast else wr):=by
  by_cases z:tc=true
  .rw[if_pos z,if_pos (etc.mpr z)]
  .rw[if_neg z,if_neg (λh=>z (etc.mp h))]
 have bad:valsF cs (if tc=true then wr.dropLast else wr)=none->XPage mg H E i:=λh=>bad (by rw[eif];exact h)
 clear q
 refine sxs_cons ?_
 refine sx_try (λσ c d H'=>c= .ref (clsA mg "NoValue")/\d=(none,true)/\σ=[some (.ref b),some (.ref a),some (.int i),some (.ref p),some (.int n),some (.bl tc),none]/\Same H H'/\valsF cs (if tc=true then wr.dropLast else wr)=none) rfl rfl (λF pn xo po=>?_) (λσ c d H' hK=>?_)
 .refine sxs_one ?_
  walk_at "go"
  refine⟨b,cs,rfl,hC.same sm02,by omega,λpk H3 sm3 hpkn hpk=>?_⟩
  have SP3:=sm3.seq SP2
  walk_at "go"
  refine ifB (λh=>?_) (λh=>?_)
  .walk_at "go"
   refine s_list SP3 λpw hpw=>?_
   have ec:cutV ((w0::wr).map V.str) (some 1) (some (-1))=(wr.dropLast).map V.str:=by
    rw[List.map_cons,cutV_mid1,List.map_dropLast]
   have hpw2:(upd H3 pw (.lst (cutV ((w0::wr).map V.str) (some 1) (some (-1))))) pw=some (.lst ((wr.dropLast).map V.str)):=by rw[upd_same,ec]
   have sm4:Same H3 (upd H3 pw (.lst (cutV ((w0::wr).map V.str) (some 1) (some (-1))))):=Same.upd hpw
   generalize upd H3 pw (.lst (cutV ((w0::wr).map V.str) (some 1) (some (-1))))=H4 at hpw2 sm4⊢
   walk_at "go"
   have sm24:=sm3.trans sm4
   have ez:wr.dropLast=(if tc=true then wr.dropLast else wr):=(if_pos h).symm
   refine⟨pk,pw,cs,wr.dropLast,rfl,sm4 _ _ hpk,hpw2,by omega,(λz hz=>by have :=hwr z (List.dropLast_subset _ hz);omega),λhn H' sm=>⟨rfl,rfl,rfl,(sm02.trans sm24).trans sm,by rw[<-ez];exact hn⟩,λxs l H5 h5 sm5 hln hl=>?_⟩
   exact sxs_nil (tail l xs H5 (sm24.trans sm5) (sm24.free hln) hl eif (by rw[<-ez];exact h5))
  .walk_at "go"
   refine s_list SP3 λpw hpw=>?_
   have ec:cutV ((w0::wr).map V.str) (some 1) none=wr.map V.str:=by
    rw[List.map_cons,cutV_rest1]
   have hpw2:(upd H3 pw (.lst (cutV ((w0::wr).map V.str) (some 1) none))) pw=some (.lst (wr.map V.str)):=by rw[upd_same,ec]
   have sm4:Same H3 (upd H3 pw (.lst (cutV ((w0::wr).map V.str) (some 1) none))):=Same.upd hpw
   generalize upd H3 pw (.lst (cutV ((w0::wr).map V.str) (some 1) none))=H4 at hpw2 sm4⊢
   walk_at "go"
   have sm24:=sm3.trans sm4
   have ez:wr=(if tc=true then wr.dropLast else wr):=(if_neg (by rw[h];exact Bool.false_ne_true)).symm
   refine⟨pk,pw,cs,wr,rfl,sm4 _ _ hpk,hpw2,by omega,(λz hz=>by have :=hwr z hz;omega),λhn H' sm=>⟨rfl,rfl,rfl,(sm02.trans sm24).trans sm,by rw[<-ez];exact hn⟩,λxs l H5 h5 sm5 hln hl=>?_⟩
   exact sxs_nil (tail l xs H5 (sm24.trans sm5) (sm24.free hln) hl eif (by rw[<-ez];exact h5))
 .obtain⟨rfl,rfl,rfl,sm,hno⟩:=hK
  refine eh_fromI (k:=1) xok_fn rfl rfl (by rfl) T.m_NoValue (by decide) (exm_self T.c_NoValue) rfl (d_NoPage T (cc:=false)) hr (by decide) (by rfl) (by decide) (by rfl) (by rfl) (λe pn=>?_)
  walk_at "ex"
  exact⟨i,rfl,by omega,λe H2 sm2 he=>bad hno e false H2 (sm.trans sm2) he⟩
end
end K71
namespace K71
open PySem L2 PyProof.Rows My Vl Lw
section
variable{P:Program}{w:World}{K:PySem.W.Frag}{mg:Str->Option Value}{base:Heap}
def markB(w:Str)(ts:List Str)(i:Nat):V:=match ts[i]? with
 |some z=>if Txt.startswith z w=true/\¬z=w then .str (cutS z (some (w.length:Nat)) none)else .non
 |none=>.non
def spMarkB(K:PySem.W.Frag):Sp:=λvs H Q _=>∃(w:Str) (a:Addr) (ts:List Str) (i:Nat),vs=[.str w,.ref a,.int i]/\w.length≤4000/\SqL K H a (ts.map V.str)/\txts ts/\Q (markB w ts i) H
theorem d_mark_behind(T:Txt K mg):Def P w K mg base true 1 "mark_behind" ["word","texts","at"] (spMarkB K):=by
 refine df_mark_behind T (λvs H Q E h=>by obtain⟨z,a,ts,i,rfl,_⟩:=h;rfl) (λf cdv A outer s H vs Q E hr h=>?_)
 obtain⟨z,a,ts,i,rfl,hz,hS,ht,q⟩:=h
 have n1:=T.n_len
 have hsz:sizeLine=16777216:=sizeLine_eq
 have hlm:(ts.map V.str).length=ts.length:=List.length_map ..
 have out:markB z ts i= .non->SXs (CxF true P w K mg base N_mark_behind "mark_behind" (defScope s_mark_behind) f cdv A outer s H E) ((defBody s_mark_behind).drop 1) {nx:=λ_ H'=>Q .non H',rt:=Q} [some (.str z),some (.ref a),some (.int i)] H:=λe=>by
  rw[e]at q
  refine sxs_one ?_
  walk_at "go"
  exact q
 refine sxs_cons ?_
 walk_at "go"
 rw[hlm]
 refine ifD (λh=>?_) (λh=>?_)
 .have hlt:i<ts.length:=by omega
  have hg:ts[i]? =some ts[i]:=List.getElem?_eq_getElem hlt
  generalize ts[i]=y at hg
  have hy:=ht.2 y (List.mem_of_getElem? hg)
  have e1:atI (ts.map V.str) (i:Int)=some (.str y):=atI_nat (by rw[List.getElem?_map,hg];rfl)
  walk_at "go"
  refine i_list hS e1 ?_
  walk_at "go"
  refine m_starts ?_
  walk_at "go"
  refine ifB (λh1=>?_) (λh1=>?_)
  .walk_at "go"
   refine i_list hS e1 ?_
   walk_at "go"
   refine ifN (λh2=>?_) (λh2=>?_)
   .have e:markB z ts i= .str (cutS y (some (z.length:Nat)) none):=by
     unfold markB
     rw[hg]
     exact if_pos ⟨h1,λe=>h2 (by rw[e])⟩
    rw[e]at q
    walk_at "go"
    refine i_list hS e1 ?_
    walk_at "go"
    refine s_str (by omega) ?_
    exact q
   .refine sxs_nil (out ?_)
    have h2':y=z:=by injection h2
    unfold markB
    rw[hg]
    exact if_neg λh=>h.2 h2'
  .refine sxs_nil (out ?_)
   unfold markB
   rw[hg]
   exact if_neg λh=>by rw[h1]at h;cases h.1
 .refine sxs_nil (out ?_)
  unfold markB
  rw[List.getElem?_eq_none (by omega)]
def backS:Str:=Str.ofString "back "
def forthS:Str:=Str.ofString "forth "
def goodRows(cs:List Col)(ts:List Str)(i:Nat)(rows:List LRow):Prop:=rows.length=i/\∀(j:Nat) r,rows[j]? =some r->∃z,ts[j+1]? =some z/\rowF cs z=some r
def badRow(cs:List Col)(ts:List Str)(i:Nat):Prop:=∀z,ts[i+1]? =some z->rowF cs z=none
def backAt(ts:List Str)(k:Nat):Nat:=if markB backS ts k= .non then k else k+1
def endAt(ts:List Str)(k:Nat):Nat:=if markB forthS ts (backAt ts k)= .non then backAt ts k else backAt ts k+1
def PageBad(cs:List Col)(ts:List Str)(n:Nat):Prop:=(headF ts=none/\n=0)\/∃(ah ma mo:Int) (he:Nat),headF ts=some [ah,(he:Int),ma,mo]/\((∃i rows,i<he/\goodRows cs ts i rows/\badRow cs ts i/\n=i+1)\/∃rows,goodRows cs ts he rows/\endAt ts (he+1)<ts.length/\n=endAt ts (he+1))
def PageOk(cs:List Col)(ts:List Str)(L:Leaf):Prop:=headF ts=some [L.ahead,((L.rows.length:Nat):Int),L.many,L.moment]/\goodRows cs ts L.rows.length L.rows/\¬endAt ts (L.rows.length+1)<ts.length/\L.back=markB backS ts (L.rows.length+1)/\L.forth=markB forthS ts (backAt ts (L.rows.length+1))
theorem goodRows.eq{cs:List Col}{ts:List Str}{i:Nat}{r1 r2:List LRow}(h1:goodRows cs ts i r1)(h2:goodRows cs ts i r2):r1=r2:=by
 apply List.ext_getElem?
 intro j
 have e:=h1.1.trans h2.1.symm
 by_cases hj:j<r1.length
 .have a1:=List.getElem?_eq_getElem hj
  have a2:=List.getElem?_eq_getElem (show j<r2.length by omega)
  obtain⟨z,g1,g2⟩:=h1.2 j _ a1
  obtain⟨y,g3,g4⟩:=h2.2 j _ a2
  rw[g1]at g3
  cases g3
  rw[g2]at g4
  rw[a1,a2]
  exact g4
 .rw[List.getElem?_eq_none (by omega),List.getElem?_eq_none (by omega)]
theorem goodRows.not{cs:List Col}{ts:List Str}{i k:Nat}{rows:List LRow}(h:goodRows cs ts i rows)(hk:k<i)(hb:badRow cs ts k):False:=by
 have hl:=h.1
 obtain⟨z,g1,g2⟩:=h.2 k _ (List.getElem?_eq_getElem (show k<rows.length by omega))
 rw[hb z g1]at g2
 cases g2
theorem goodRows.lt{cs:List Col}{ts:List Str}{i:Nat}{rows:List LRow}(h:goodRows cs ts i rows)(h0:0<ts.length):i<ts.length:=by
 cases i with
 |zero=>exact h0
 |succ i=>
  have hl:=h.1
  obtain⟨z,g1,_⟩:=h.2 i _ (List.getElem?_eq_getElem (show i<rows.length by omega))
  exact(List.getElem?_eq_some_iff.mp g1).1
theorem head_ne{ts:List Str}{ns:List Int}(h:headF ts=some ns):0<ts.length:=by
 unfold headF at h
 cases e:ts[0]? with
 |none=>rw[e]at h;cases h
 |some z=>exact(List.getElem?_eq_some_iff.mp e).1
theorem some4{a b c d a' b' c' d':Int}(h:some [a,b,c,d]=some [a',b',c',d']):a=a'/\b=b'/\c=c'/\d=d':=by
 injection h with h
 injection h with h1 h
 injection h with h2 h
 injection h with h3 h
 injection h with h4 h
 exact⟨h1,h2,h3,h4⟩
theorem page_bad_uniq{cs:List Col}{ts:List Str}{n m:Nat}(h:PageBad cs ts n)(g:PageBad cs ts m):n=m:=by
 rcases h with⟨h1,h2⟩ |⟨ah,ma,mo,he,h1,h2⟩<;>rcases g with⟨g1,g2⟩ |⟨ah',ma',mo',he',g1,g2⟩
 .omega
 .rw[h1]at g1;cases g1
 .rw[g1]at h1;cases h1
 .rw[h1]at g1
  obtain⟨_,e,_,_⟩:=some4 g1
  have e:he=he':=by omega
  subst e
  rcases h2 with⟨i,r,a1,a2,a3,a4⟩ |⟨r,a1,a2,a3⟩<;>rcases g2 with⟨i',r',b1,b2,b3,b4⟩ |⟨r',b1,b2,b3⟩
  .rcases Nat.lt_trichotomy i i' with z |z |z
   .exact(b2.not z a3).elim
   .omega
   .exact(a2.not z b3).elim
  .exact(b1.not a1 a3).elim
  .exact(a1.not b1 b3).elim
  .omega
theorem page_ok_bad{cs:List Col}{ts:List Str}{n:Nat}{L:Leaf}(h:PageOk cs ts L)(g:PageBad cs ts n):False:=by
 obtain⟨h1,h2,h3,_⟩:=h
 rcases g with⟨g1,g2⟩ |⟨ah',ma',mo',he',g1,g2⟩
 .rw[h1]at g1;cases g1
 .rw[h1]at g1
  obtain⟨_,e,_,_⟩:=some4 g1
  have e:L.rows.length=he':=by omega
  subst e
  rcases g2 with⟨i',r',b1,b2,b3,b4⟩ |⟨r',b1,b2,b3⟩
  .exact h2.not b1 b3
  .exact h3 b2
theorem page_ok_uniq{cs:List Col}{ts:List Str}{L M:Leaf}(h:PageOk cs ts L)(g:PageOk cs ts M):L=M:=by
 obtain⟨h1,h2,h3,h4,h5⟩:=h
 obtain⟨g1,g2,g3,g4,g5⟩:=g
 rw[h1]at g1
 obtain⟨e1,e,e2,e3⟩:=some4 g1
 have e:L.rows.length=M.rows.length:=by omega
 rw[<-e]at g2 g4 g5
 have e4:=h2.eq g2
 cases L
 cases M
 simp only at *
 subst e1 e2 e3 e4 h4 h5 g4 g5
 rfl
theorem head_four{ts:List Str}{ns:List Int}(h:headF ts=some ns):∃(ah ma mo:Int) (he:Nat),ns=[ah,(he:Int),ma,mo]/\ten ah/\ten ma/\ten mo/\(he:Int)≤9999999999:=by
 unfold headF at h
 cases e:ts[0]? with
 |none=>rw[e]at h;cases h
 |some z=>
  rw[e]at h
  have h:headW (cutT 32 z)=some ns:=h
  unfold headW at h
  split at h
  .next hc=>
   obtain⟨_,h2,_⟩:=hc
   rcases mapO_or (λw:Str=>figN w.cps.toList 9999999999) (cutT 43 ((cutT 32 z).getD 0 (Str.ofString ""))++[(cutT 32 z).getD 2 (Str.ofString ""),(cutT 32 z).getD 4 (Str.ofString "")])with⟨m,a1,a2,a3⟩ |⟨a1,_⟩
   .rw[a1]at h
    have h:m=ns:=Option.some.inj h
    subst h
    rw[List.length_append,h2]at a2
    have b4:∀x∈m,ten x:=λx hx=>by
     obtain⟨i,hi,ex⟩:=List.getElem_of_mem hx
     have hil:i<(cutT 43 ((cutT 32 z).getD 0 (Str.ofString ""))++[(cutT 32 z).getD 2 (Str.ofString ""),(cutT 32 z).getD 4 (Str.ofString "")]).length:=by rw[List.length_append,h2];omega
     obtain⟨y,g1,g2⟩:=a3 i _ (List.getElem?_eq_getElem hil)
     have ey:y=x:=by
      have :=List.getElem?_eq_getElem hi
      rw[g1]at this
      rw[<-ex]
      exact Option.some.inj this
     subst ey
     unfold figN at g2
     split at g2
     .next hf=>
      have e5:=Option.some.inj g2
      rw[<-e5]
      exact⟨by omega,hf.2⟩
     .cases g2
    match m,a2 with
    |[x0,x1,x2,x3],_=>
     obtain⟨k,ek⟩:=Int.eq_ofNat_of_zero_le (b4 x1 (by simp)).1
     have hk:=(b4 x1 (by simp)).2
     exact⟨x0,x2,x3,k,by rw[ek],b4 x0 (by simp),b4 x2 (by simp),b4 x3 (by simp),by omega⟩
   .rw[a1]at h;cases h
  .cases h
def LNew(q:Addr)(H H':Hp)(v:V)(r:LRow):Prop:=∃t l,v= .ref t/\H t=none/\H l=none/\l≠q/\H' t=some (.tup [.int r.1,.ref l,.bl r.2.2])/\H' l=some (.lst r.2.1)
def spReadPage(K:PySem.W.Frag)(mg:Str->Option Value):Sp:=λvs H Q E=>∃(b:Addr) (cs:List Col) (a:Addr) (ts:List Str),vs=[.ref b,.ref a]/\Cols H b cs/\cs.length≤6/\SqL K H a (ts.map V.str)/\txts ts/\(∀n,PageBad cs ts n->n≤2000->XPage mg H E n)/\
 ∀L p q us H',PageOk cs ts L->Same H H'->H p=none->H q=none->H' p=some (.tup [.ref q,L.back,L.forth,.int L.many,.int L.ahead,.int L.moment])->H' q=some (.lst us)->All2 (LNew q H H') us L.rows->Q (.ref p) H'
theorem d_read_page(T:Txt K mg):Def P w K mg base true 8 "read_page" ["columns","texts"] (spReadPage K mg):=by
 refine df_read_page T (λvs H Q E h=>by obtain⟨b,cs,a,ts,rfl,_⟩:=h;rfl) (λf cdv A outer s H vs Q E hr h=>?_)
 obtain⟨b,cs,a,ts,rfl,hC,hk,hS,ht,bad,q⟩:=h
 have nd:=sc_read_page.nd
 have n1:=T.n_len
 have n2:=T.n_range
 have g1:=T.g_BACK_AHEAD
 have g2:=T.g_FORTH_AHEAD
 have hsz:sizeLine=16777216:=sizeLine_eq
 have lb:(Str.ofString "back ").length≤4000:=by decide+kernel
 have lf:(Str.ofString "forth ").length≤4000:=by decide+kernel
 have hlm:(ts.map V.str).length=ts.length:=List.length_map ..
 have ht0:=ht.1
 have D1:Def P w K mg base true 4 "read_head" ["texts"] (spReadHead K mg):=d_read_head T
 have D2:Def P w K mg base true 7 "read_row" ["columns","texts","at"] (spReadRow K mg):=d_read_row T
 have D3:Def P w K mg base true 1 "mark_behind" ["word","texts","at"] (spMarkB K):=d_mark_behind T
 have nd3:(["at","columns","texts"]:List Str).Nodup:=by decide+kernel
 refine sxs_cons (sx_setT (by rfl) (by rfl) ?_)
 walk_at "go"
 refine⟨a,ts,rfl,hS,ht,λhh=>bad 0 (.inl ⟨hh,rfl⟩) (by omega),λns p0 H1 hhd sm1 hp0n hp0=>?_⟩
 obtain⟨ah,ma,mo,he,rfl,ha,hm,ho,hhe⟩:=head_four hhd
 have hts:=head_ne hhd
 refine eg_lst (by rfl) (by rfl) (by rfl) hp0 (by rfl) (egs_cons (by rfl) (eg_name nd (by rfl) (.inl rfl) (.inl rfl) (egs_cons (by rfl) (eg_name nd (by rfl) (.inl rfl) (.inl rfl) (egs_cons (by rfl) (eg_name nd (by rfl) (.inl rfl) (.inl rfl) (egs_cons (by rfl) (eg_name nd (by rfl) (.inl rfl) (.inl rfl) (egs_nil ?_)))))))))
 refine sxs_cons ?_
 refine sx_compR2X ["at","columns","texts"] (σ':=[none,some (.ref b),some (.ref a)]) (by rfl) xok_fn rfl rfl (by rfl) (by rfl) (compSc_of (defScope s_read_page) (by rfl) (by rfl) (by decide+kernel)) nd (by rfl) (by rfl) (by rfl) n2 (by rfl) (by rfl) ?_
 walk_at "go"
 refine⟨1,_,ts.length,rfl,rfl,by decide,by decide,by omega,by omega,by omega,λτ=>∃o1,τ=[o1,some (.ref b),some (.ref a)],λE2 i u H'=>∃z r,ts[i+1]? =some z/\rowF cs z=some r/\∃t l,u= .ref t/\H1 t=none/\H1 l=none/\t≠E2/\l≠E2/\H' t=some (.tup [.int r.1,.ref l,.bl r.2.2])/\H' l=some (.lst r.2.1),⟨none,rfl⟩,λE2 i u H2 H3 ys _ y2 y3=>?_,λfp E2 C s3 H0 F i τ x H4 H3 xo hE2 hi him hτ sm4 hys hG=>?_,λE2 H2 us hE2 hl2 hx2 e2 sm2=>?_⟩
 .obtain⟨z,r,e1,e0,t,l,e2,e3,e4,e5,e6,e7,e8⟩:=y3
  exact⟨z,r,e1,e0,t,l,e2,e3,e4,e5,e6,y2 _ _ e5 e7,y2 _ _ e6 e8⟩
 .obtain⟨o1,rfl⟩:=hτ
  obtain⟨rfl,rfl⟩:=hG
  have hi':i<he:=by omega
  obtain⟨ys,hy,hyl,hyp⟩:=hys
  have hgr:∃rows,goodRows cs ts i rows:=by
   have key:∀k,k≤i->∃rows,goodRows cs ts k rows:=by
    intro k
    induction k with
    |zero=>exact λ_=>⟨[],rfl,λj r h=>by simp at h⟩
    |succ k ih=>
     intro hk
     obtain⟨rows,h1,h2⟩:=ih (by omega)
     obtain⟨z,r,e1,e0,_⟩:=hyp k _ (List.getElem?_eq_getElem (show k<ys.length by omega))
     refine⟨rows++[r],by simp[h1],λj r' hj=>?_⟩
     by_cases hlt:j<rows.length
     .rw[List.getElem?_append_left hlt]at hj
      exact h2 j r' hj
     .have hjk:j=k:=by
       have :=(List.getElem?_eq_some_iff.mp hj).1
       rw[List.length_append,List.length_singleton]at this
       omega
      subst hjk
      rw[<-h1,List.getElem?_concat_length]at hj
      cases hj
      exact⟨z,e1,e0⟩
   exact key i (Nat.le_refl _)
  obtain⟨rows,hgr⟩:=hgr
  refine eg_name nd3 (by rfl) (.inl rfl) (.inr rfl) ?_
  walk_at "go"
  refine⟨b,cs,a,ts,i+1,by simp;omega,(hC.same sm1).same sm4,hk,(sm1.trans sm4).seq hS,ht,by omega,λhb e bb H' sm he'=>?_,λz r t l H5 hz hrf sm5 htn hln ht5 hl5=>?_⟩
  .exact bad (i+1) (.inr ⟨ah,ma,mo,he,hhd,.inl ⟨i,rows,hi',hgr,hb,rfl⟩⟩) (by omega) e bb H' ((sm1.trans sm4).trans sm) he'
  .refine⟨⟨_,rfl⟩,⟨z,r,hz,hrf,t,l,rfl,sm4.free htn,sm4.free hln,λe=>?_,λe=>?_,ht5,hl5⟩,sm5,by have :=(List.getElem?_eq_some_iff.mp hz).1;omega⟩
   .rw[e,hy]at htn
    cases htn
   .rw[e,hy]at hln
    cases hln
 .have hul:us.length=he:=by rw[hl2];omega
  have smH2:=sm1.trans sm2
  have hrw:∀(m:Nat),m≤he->∃rows,goodRows cs ts m rows/\All2 (λu r=>∃t l,u= .ref t/\H1 t=none/\H1 l=none/\t≠E2/\l≠E2/\H2 t=some (.tup [.int r.1,.ref l,.bl r.2.2])/\H2 l=some (.lst r.2.1)) (us.take m) rows:=by
   intro m
   induction m with
   |zero=>exact λ_=>⟨[],⟨rfl,λj r h=>by simp at h⟩,.nil⟩
   |succ m ih=>
    intro hm'
    obtain⟨rows,⟨h1,h2⟩,h3⟩:=ih (by omega)
    have hmu:m<us.length:=by omega
    obtain⟨z,r,e1,e0,h4⟩:=hx2 m _ (List.getElem?_eq_getElem hmu)
    refine⟨rows++[r],⟨by simp[h1],λj r' hj=>?_⟩,?_⟩
    .by_cases hlt:j<rows.length
     .rw[List.getElem?_append_left hlt]at hj
      exact h2 j r' hj
     .have hjk:j=m:=by
       have :=(List.getElem?_eq_some_iff.mp hj).1
       rw[List.length_append,List.length_singleton]at this
       omega
      subst hjk
      rw[<-h1,List.getElem?_concat_length]at hj
      cases hj
      exact⟨z,e1,e0⟩
    .rw[List.take_add_one,List.getElem?_eq_getElem hmu]
     exact h3.app (.cons h4 .nil)
  obtain⟨rows,hgr,hA⟩:=hrw he (Nat.le_refl _)
  rw[show us.take he=us from List.take_of_length_le (by omega)]at hA
  have hrl:=hgr.1
  have hlt:=hgr.lt hts
  have fin:∀(at_:Nat),at_=endAt ts (he+1)->SXs (CxF true P w K mg base N_read_page "read_page" (defScope s_read_page) f cdv A outer s H E) ((defBody s_read_page).drop 7) {nx:=λ_ H'=>Q .non H',rt:=Q}
    [some (.ref b),some (.ref a),some (.int ah),some (.int (he:Nat)),some (.int ma),some (.int mo),some (.ref E2),some (.int at_),some (markB backS ts (he+1)),some (markB forthS ts (backAt ts (he+1)))] H2:=by
   intro at_ hat
   have S2:=smH2.seq hS
   refine sxs_cons (sx_if ?_)
   walk_at "ex"
   rw[hlm]
   refine ifD (λh=>?_) (λh=>?_)
   .have h':at_<ts.length:=by omega
    refine sxs_one (sx_raiseI (d_NoPage T (cc:=true)) hr (by decide) (λ_=>rfl) xok_fn (by rfl) (by rfl) (by decide) (by rfl) (by rfl) ?_)
    walk_at "go"
    exact⟨at_,rfl,by omega,λe H' sm he'=>bad at_ (.inr ⟨ah,ma,mo,he,hhd,.inr ⟨rows,hgr,by rw[<-hat];exact h',hat⟩⟩) (by omega) e true H' (smH2.trans sm) he'⟩
   .refine sxs_nil (sxs_one (sx_ret ?_))
    walk_at "ex"
    refine⟨by show 6≤sizeLine;omega,λp hp=>?_⟩
    have hpE:E2≠p:=λe=>by rw[<-e,e2]at hp;cases hp
    have sm3:=Same.upd (o:=.tup [V.ref E2,markB backS ts (he+1),markB forthS ts (backAt ts (he+1)),.int ma,.int ah,.int mo]) hp
    refine q ⟨rows,markB backS ts (he+1),markB forthS ts (backAt ts (he+1)),ma,ah,mo⟩ p E2 us _ ⟨by rw[<-hrl]at hhd;exact hhd,by rw[hrl];exact hgr,by rw[hrl, <-hat];omega,by rw[hrl],by rw[hrl]⟩ (smH2.trans sm3) (smH2.free hp) (sm1.free hE2) upd_same (by rw[upd_ne hpE];exact e2) ?_
    exact hA.imp λu r z=>by
     obtain⟨t,l,e,e3,e4,e5,e6,e7,e8⟩:=z
     exact⟨t,l,e,sm1.free e3,sm1.free e4,e6,sm3 _ _ e7,sm3 _ _ e8⟩
  have forth:∀(at_:Nat),at_=backAt ts (he+1)->SXs (CxF true P w K mg base N_read_page "read_page" (defScope s_read_page) f cdv A outer s H E) ((defBody s_read_page).drop 5) {nx:=λ_ H'=>Q .non H',rt:=Q}
    [some (.ref b),some (.ref a),some (.int ah),some (.int (he:Nat)),some (.int ma),some (.int mo),some (.ref E2),some (.int at_),some (markB backS ts (he+1)),none] H2:=by
   intro at_ hat
   refine sxs_cons ?_
   walk_at "s"
   walk_at "ex"
   refine⟨_,a,ts,at_,rfl,lf,smH2.seq hS,ht,?_⟩
   have em:markB (Str.ofString "forth ") ts at_=markB forthS ts (backAt ts (he+1)):=by rw[hat];rfl
   rw[em]
   refine sxs_cons (sx_if ?_)
   have hmv:markB forthS ts (backAt ts (he+1))= .non\/∃z,markB forthS ts (backAt ts (he+1))= .str z:=by
    unfold markB
    split
    .split
     .exact .inr ⟨_,rfl⟩
     .exact .inl rfl
    .exact .inl rfl
   rcases hmv with e |⟨z,e⟩
   .have h9:=fin at_ (by unfold endAt;rw[if_pos e];exact hat)
    rw[e]at h9⊢
    walk_at "ex"
    exact sxs_nil h9
   .have h9:=fin (at_+1) (by unfold endAt;rw[if_neg (by rw[e];exact λz=>by cases z),hat])
    rw[e]at h9⊢
    walk_at "ex"
    refine sxs_one (sx_inc nd (by rfl) (.inl rfl) (.inl rfl) ⟨_,rfl,?_⟩)
    walk_at "ex"
    exact h9
  refine sxs_cons ?_
  walk_at "s"
  walk_at "ex"
  refine sxs_cons ?_
  walk_at "s"
  walk_at "ex"
  refine⟨_,a,ts,he+1,by simp,lb,smH2.seq hS,ht,?_⟩
  rw[show markB (Str.ofString "back ") ts (he+1)=markB backS ts (he+1)from rfl]
  refine sxs_cons (sx_if ?_)
  have hmv:markB backS ts (he+1)= .non\/∃z,markB backS ts (he+1)= .str z:=by
   unfold markB
   split
   .split
    .exact .inr ⟨_,rfl⟩
    .exact .inl rfl
   .exact .inl rfl
  rcases hmv with e |⟨z,e⟩
  .have h9:=forth (he+1) (by unfold backAt;rw[if_pos e])
   rw[e]at h9⊢
   walk_at "ex"
   exact sxs_nil h9
  .have h9:=forth (he+1+1) (by unfold backAt;rw[if_neg (by rw[e];exact λz=>by cases z)])
   rw[e]at h9⊢
   walk_at "ex"
   refine sxs_one (sx_inc nd (by rfl) (.inl rfl) (.inl rfl) ⟨_,rfl,?_⟩)
   walk_at "ex"
   exact h9
end
end K71
namespace K71
open PySem L2 PyProof.Rows My Vl Lw
section
variable{P:Program}{w:World}{K:PySem.W.Frag}{mg:Str->Option Value}{base:Heap}
open NumText
def negW(l:List Nat):Bool:=decide (l[0]? =some 45)
def figL(l:List Nat):List Nat:=if l[0]? =some 45 then l.drop 1 else l
theorem isNW_fig{l:List Nat}(h:isNW l=true):areFig (figL l)=true/\(l[0]? =some 45->figL l≠[48]):=by
 unfold isNW at h
 unfold figL
 by_cases h0:l[0]? =some 45
 .rw[if_pos h0]at h⊢
  rw[Bool.and_eq_true,decide_eq_true_eq]at h
  exact⟨h.2,λ_=>h.1⟩
 .rw[if_neg h0]at h⊢
  exact⟨h,λz=>absurd z h0⟩
theorem wordInt_fig(l:List Nat):wordInt l=if l[0]? =some 45 then -((digitsVal (figL l):Nat):Int)else((digitsVal (figL l):Nat):Int):=by
 unfold wordInt figL
 by_cases h0:l[0]? =some 45
 .rw[if_pos h0,if_pos h0,if_pos h0]
 .rw[if_neg h0,if_neg h0,if_neg h0]
theorem figL_len(l:List Nat):l.length=(figL l).length+(if l[0]? =some 45 then 1 else 0):=by
 unfold figL
 by_cases h0:l[0]? =some 45
 .rw[if_pos h0,if_pos h0,List.length_drop]
  have :0<l.length:=by
   cases l with
   |nil=>simp at h0
   |cons c r=>simp
  omega
 .rw[if_neg h0,if_neg h0]
  rfl
theorem digitsVal_ge:∀(r:List Nat) (a:Nat),a*10^r.length≤r.foldl (λacc c=>acc*10+(c-48)) a
 |[],a=>by simp
 |c::r,a=>by
  have ih:=digitsVal_ge r (a*10+(c-48))
  rw[List.foldl_cons,List.length_cons,Nat.pow_succ]
  refine Nat.le_trans ?_ ih
  have h1:a*(10^r.length*10)=a*10*10^r.length:=by rw[Nat.mul_comm (10^r.length) 10,Nat.mul_assoc]
  rw[h1]
  exact Nat.mul_le_mul_right _ (Nat.le_add_right _ _)
theorem big20{l:List Nat}(h:areFig l=true)(h1:l≠[48])(hl:20≤l.length):10^19≤digitsVal l:=by
 obtain⟨hd,hne⟩:=areFig_digits h
 cases l with
 |nil=>exact absurd rfl hne
 |cons c r=>
  have hc:=hd c List.mem_cons_self
  have hc2:c≠48:=by
   intro e
   subst e
   unfold areFig at h
   rw[decide_eq_false h1,Bool.false_or]at h
   simp at h
  have :=digitsVal_ge r (0*10+(c-48))
  have h2:10^19≤10^r.length:=Nat.pow_le_pow_right (by decide) (by rw[List.length_cons]at hl;omega)
  have h3:1*10^r.length≤(0*10+(c-48))*10^r.length:=Nat.mul_le_mul_right _ (by omega)
  unfold digitsVal
  rw[List.foldl_cons]
  omega
theorem due_out{l:List Nat}(h:figL l=[]\/19<(figL l).length\/((figL l)[0]? =some 48/\l≠[48])):readNum l=none:=by
 unfold readNum
 rw[if_neg]
 rintro⟨h1,h2,h3,h4⟩
 obtain⟨hf,hn⟩:=isNW_fig h1
 obtain⟨hd,hne⟩:=areFig_digits hf
 have hl:=figL_len l
 rcases h with h |h |⟨h,h5⟩
 .exact hne h
 .by_cases h0:l[0]? =some 45
  .rw[if_pos h0]at hl;omega
  .rw[if_neg h0]at hl
   have e:figL l=l:=by unfold figL;rw[if_neg h0]
   have hb:=big20 hf (by intro e2;rw[e2]at h;simp at h) (by omega)
   rw[wordInt_fig,if_neg h0]at h4
   omega
 .unfold areFig at hf
  have h6:figL l≠[48]:=by
   intro e
   by_cases h0:l[0]? =some 45
   .exact hn h0 e
   .unfold figL at e
    rw[if_neg h0]at e
    exact h5 e
  rw[decide_eq_false h6,h]at hf
  simp at hf
theorem due_bad{l:List Nat}{c:Nat}(hc:c∈figL l)(hn:¬(48≤c/\c≤57)):readNum l=none:=by
 unfold readNum
 rw[if_neg]
 rintro⟨h1,_⟩
 obtain⟨hf,_⟩:=isNW_fig h1
 exact hn ((areFig_digits hf).1 c hc)
theorem due_good{l:List Nat}(h1:figL l≠[])(h2:(figL l).length≤19)(h3:¬((figL l)[0]? =some 48/\l≠[48]))(hd:∀c∈figL l,48≤c/\c≤57):isNW l=true/\l.length≤20:=by
 have hl:=figL_len l
 have ha:(figL l).all isDig=true:=List.all_eq_true.mpr λc hc=>decide_eq_true (hd c hc)
 refine⟨?_,by split at hl<;>omega⟩
 unfold isNW
 by_cases h0:l[0]? =some 45
 .rw[if_pos h0]
  have e:figL l=l.drop 1:=by unfold figL;rw[if_pos h0]
  have hl48:l≠[48]:=by intro z;rw[z]at h0;simp at h0
  rw[e]at h1 h3 ha
  have h4:(l.drop 1)[0]? ≠some 48:=λz=>h3 ⟨z,hl48⟩
  have h5:l.drop 1≠[48]:=by intro z;rw[z]at h4;simp at h4
  unfold areFig
  rw[decide_eq_true h5,decide_eq_true h1,decide_eq_true h4,ha]
  simp
 .rw[if_neg h0]
  have e:figL l=l:=by unfold figL;rw[if_neg h0]
  rw[e]at h1 h3 ha
  unfold areFig
  by_cases h5:l=[48]
  .rw[decide_eq_true h5];rfl
  .have h4:l[0]? ≠some 48:=λz=>h3 ⟨z,h5⟩
   rw[decide_eq_true h1,decide_eq_true h4,ha]
   simp
def resT:Option V->List V
 |some v=>[.str "yes",v]
 |none=>[.str "no",.int 0]
def spDue(r:Str->Option V):Sp:=λvs H Q _=>∃z,vs=[.str z]/\z.length≤100/\∀p H',Same H H'->H' p=some (.tup (resT (r z)))->Q (.ref p) H'
end
end K71
namespace K71
open PySem L2 PyProof.Rows My Vl Lw
section
variable{P:Program}{w:World}{K:PySem.W.Frag}{mg:Str->Option Value}{base:Heap}
theorem isTxt_iff(z:Str):isTxt (.str z)=true↔z.length≤20/\∀c∈z.cps.toList,c∈SG:=by
 unfold isTxt madeOf
 rw[Bool.and_eq_true,decide_eq_true_eq,List.all_eq_true]
 constructor
 .rintro⟨h1,h2⟩
  exact⟨h1,λc hc=>ts_sg c (of_decide_eq_true (h2 c hc))⟩
 .rintro⟨h1,h2⟩
  exact⟨h1,λc hc=>decide_eq_true (sg_ts c (h2 c hc))⟩
end
end K71
namespace K71
open PySem L2 PyProof.Rows My Vl Lw
section
variable{P:Program}{w:World}{K:PySem.W.Frag}{mg:Str->Option Value}{base:Heap}
open NumText in
theorem figN_no{l:List Nat}(h:l=[]\/10<l.length\/(l[0]? =some 48/\l≠[48])\/∃c∈l,¬(48≤c/\c≤57)):figN l 9999999999=none:=by
 unfold figN
 refine if_neg λhh=>?_
 obtain⟨h1,h2⟩:=hh
 obtain⟨hd,hne⟩:=areFig_digits h1
 rcases h with h |h |⟨h,h5⟩ |⟨c,hc,hn⟩
 .exact hne h
 .have :=fig_len (k:=10) h1 h2 (by decide) (by decide)
  omega
 .unfold areFig at h1
  rw[decide_eq_false h5,h]at h1
  simp at h1
 .exact hn (hd c hc)
theorem dv_lt:∀(r:List Nat) (a:Nat),(∀c∈r,48≤c/\c≤57)->r.foldl (λacc c=>acc*10+(c-48)) a<(a+1)*10^r.length
 |[],a,_=>by simp
 |c::r,a,h=>by
  have ih:=dv_lt r (a*10+(c-48)) λx hx=>h x (by simp[hx])
  have hc:=h c (by simp)
  rw[List.foldl_cons,List.length_cons,Nat.pow_succ]
  refine Nat.lt_of_lt_of_le ih ?_
  have h1:(a+1)*(10^r.length*10)=(a+1)*10*10^r.length:=by rw[Nat.mul_comm (10^r.length) 10,Nat.mul_assoc]
  rw[h1]
  exact Nat.mul_le_mul_right _ (by omega)
theorem figN_yes{l:List Nat}(h1:l≠[])(h2:l.length≤10)(h3:¬(l[0]? =some 48/\l≠[48]))(hd:∀c∈l,48≤c/\c≤57):figN l 9999999999=some ((NumText.digitsVal l:Nat):Int):=by
 unfold figN
 refine if_pos ⟨?_,?_⟩
 .have ha:l.all isDig=true:=List.all_eq_true.mpr λc hc=>decide_eq_true (hd c hc)
  unfold areFig
  by_cases h5:l=[48]
  .rw[decide_eq_true h5];rfl
  .have h4:l[0]? ≠some 48:=λz=>h3 ⟨z,h5⟩
   rw[decide_eq_true h1,decide_eq_true h4,ha]
   simp
 .have h:=dv_lt l 0 hd
  have e:NumText.digitsVal l=l.foldl (λacc c=>acc*10+(c-48)) 0:=rfl
  have h6:10^l.length≤10^10:=Nat.pow_le_pow_right (by decide) h2
  rw[<-e]at h
  have :(10:Nat)^10=10000000000:=by decide
  omega
def spFig7:Sp:=λvs H Q _=>∃z:Str,vs=[.str z]/\z.length≤4000/\Q (intO (figN z.cps.toList 9999999999)) H
theorem d__law_figured(T:Txt K mg):Def P w K mg base true 1 "_law_figured" ["_law_word_here"] spFig7:=by
 refine df__law_figured T (λvs H Q E h=>by obtain⟨z,rfl,_⟩:=h;rfl) (λf cdv A outer s H vs Q E hr h=>?_)
 obtain⟨z,rfl,hz,q⟩:=h
 have n1:=T.n_len
 have n2:=T.n_int
 have nd:=sc__law_figured.nd
 have hsz:sizeLine=16777216:=sizeLine_eq
 have hl:=len_list z
 have e0:(Str.ofString "0").cps.toList=[48]:=by decide+kernel
 have e1:(Str.ofString "").cps.toList=[]:=by decide+kernel
 have no:figN z.cps.toList 9999999999=none->Q .non H:=λh=>by rw[h]at q;exact q
 refine sxs_cons (sx_forS (by walk_at "po") (by rfl) (by intro _;rfl) ?_)
 walk_at "ex"
 refine⟨z,rfl,λi σ H'=>(∃o,σ=[some (.str z),o])/\H=H'/\∀c∈z.cps.toList.take i,48≤c/\c≤57,⟨⟨none,rfl⟩,rfl,by simp⟩,λi c σ H' hi hP=>?_,λσ H' hP=>?_⟩
 .obtain⟨⟨o,rfl⟩,rfl,hd⟩:=hP
  refine eg_name nd (by rfl) (.inl rfl) (.inl rfl) ?_
  refine sxs_one (sx_if ?_)
  walk_at "ex"
  rw[StrLaws.found_one]
  refine ifN (λh4=>?_) (λh4=>?_)
  .refine sxs_one (sx_ret ?_)
   walk_at "ex"
   exact no (figN_no (.inr (.inr (.inr ⟨c,List.mem_of_getElem? hi,λh5=>h4 ((mem_fg c).mpr h5)⟩))))
  .refine sxs_nil ⟨⟨_,rfl⟩,rfl,?_⟩
   rw[List.take_add_one,hi]
   intro d hd2
   rcases List.mem_append.mp hd2 with z1 |z1
   .exact hd d z1
   .have :d=c:=by simpa using z1
    rw[this]
    exact(mem_fg c).mp h4
 .obtain⟨⟨o,rfl⟩,rfl,hd⟩:=hP
  rw[List.take_length]at hd
  have out:figN z.cps.toList 9999999999=none->SXs (CxF true P w K mg base N__law_figured "_law_figured" (defScope s__law_figured) f cdv A outer s H E) (thenB ((defBody s__law_figured).drop 1)) {nx:=λσ' H'=>SXs (CxF true P w K mg base N__law_figured "_law_figured" (defScope s__law_figured) f cdv A outer s H E) ((defBody s__law_figured).drop 2) {nx:=λ_ H'=>Q .non H',rt:=Q} σ' H',rt:=Q} [some (.str z),o] H:=λh=>by
   refine sxs_one (sx_ret ?_)
   walk_at "ex"
   exact no h
  refine sxs_cons (sx_if ?_)
  walk_at "ex"
  rw[dec_strV,e1]
  refine ifD (λh1=>out (figN_no (.inl h1))) (λh1=>?_)
  walk_at "ex"
  refine ifD (λh2=>out (figN_no (.inr (.inl (by omega))))) (λh2=>?_)
  obtain⟨c,r,hc⟩:=List.exists_cons_of_ne_nil h1
  have hc0:z.cps.toList[0]? =some c:=by rw[hc];rfl
  walk_at "ex"
  refine i_str (by omega) (atI_nat (j:=0) hc0) ?_
  walk_at "ex"
  rw[dec_strV,cps_one,e0]
  have good:¬(z.cps.toList[0]? =some 48/\z.cps.toList≠[48])->SXs (CxF true P w K mg base N__law_figured "_law_figured" (defScope s__law_figured) f cdv A outer s H E) ((defBody s__law_figured).drop 2) {nx:=λ_ H'=>Q .non H',rt:=Q} [some (.str z),o] H:=λh3=>by
   rw[figN_yes h1 (by omega) h3 hd]at q
   refine sxs_one (sx_ret ?_)
   walk_at "ex"
   refine c_intS (intText_digits hd h1 (by omega)) (by omega) ?_
   exact q
  refine ifD (λh3=>?_) (λh3=>?_)
  .walk_at "ex"
   rw[dec_strV,e0]
   refine ifN (λh4=>out (figN_no (.inr (.inr (.inl ⟨by rw[hc0];cases h3;rfl,h4⟩))))) (λh4=>?_)
   exact sxs_nil (good λh5=>h5.2 h4)
  .exact sxs_nil (good λh5=>h3 (by rw[hc0]at h5;have :=h5.1;cases this;rfl))
def optT:Option V->List V
 |some v=>[v]
 |none=>[]
theorem cut_first(z:Str)(c:Nat)(x:Str)(hx:x.cps.toList=[c]):decide (V.str (cutS z none (some 1))=V.str x)=decide (z.cps.toList[0]? =some c):=by
 rw[dec_strV,show(cutS z none (some 1)).cps.toList=z.cps.toList.take 1 from cutS_to z 1,hx]
 cases z.cps.toList with
 |nil=>rfl
 |cons a r=>simp
def spValOf7:Sp:=λvs H Q _=>∃(kd z:Str),vs=[.str kd,.str z]/\(kd="number"\/kd="text")/\z.length≤4000/\∀p H',Same H H'->H' p=some (.tup (optT (readV kd z)))->Q (.ref p) H'
theorem d__law_value_of(T:Txt K mg):Def P w K mg base true 1 "_law_value_of" ["_law_kind","_law_word_here"] spValOf7:=by
 refine df__law_value_of T (λvs H Q E h=>by obtain⟨kd,z,rfl,_⟩:=h;rfl) (λf cdv A outer s H vs Q E hr h=>?_)
 obtain⟨kd,z,rfl,hkd,hz,q⟩:=h
 have n1:=T.n_len
 have n2:=T.n_int
 have nd:=sc__law_value_of.nd
 have hsz:sizeLine=16777216:=sizeLine_eq
 have hl:=len_list z
 have e0:(Str.ofString "0").cps.toList=[48]:=by decide+kernel
 have e1:(Str.ofString "").cps.toList=[]:=by decide+kernel
 have em:(Str.ofString "-").cps.toList=[45]:=by decide+kernel
 have eq':(Str.ofString "'").cps.toList=[39]:=by decide+kernel
 have ec:(cutS z (some 1) none).cps.toList=z.cps.toList.drop 1:=cutS_from z 1
 have lc:=len_list (cutS z (some 1) none)
 rw[ec,List.length_drop]at lc
 have no:readV kd z=none->0≤sizeLine/\∀p,H p=none->Q (.ref p) (upd H p (.tup [])):=λh=>by
  rw[h]at q
  exact⟨by omega,λp hp=>q p _ (Same.upd hp) upd_same⟩
 have yes:∀v,readV kd z=some v->1≤sizeLine/\∀p,H p=none->Q (.ref p) (upd H p (.tup [v])):=λv h=>by
  rw[h]at q
  exact⟨by omega,λp hp=>q p _ (Same.upd hp) upd_same⟩
 refine sxs_cons (sx_if ?_)
 walk_at "ex"
 refine ifD (λh=>?_) (λhq=>?_)
 .have h':z="?":=V.str.inj h
  refine sxs_one (sx_ret ?_)
  walk_at "ex"
  exact yes .non (by unfold readV;rw[if_pos h'])
 have hq':¬z="?":=λe=>hq (by rw[e])
 refine sxs_nil (sxs_cons (sx_if ?_))
 walk_at "ex"
 refine ifD (λhk=>?_) (λhk=>?_)
 .have hk':kd="text":=V.str.inj hk
  have hnn:¬kd="number":=by rw[hk'];decide+kernel
  have er:readV kd z=txtV (readTxt z):=by unfold readV;rw[if_neg hq',if_neg hnn]
  rw[er]at no yes
  have nope:(z.cps.toList[0]? =some 39->¬isTxt (.str (cutS z (some 1) none))=true)->txtV (readTxt z)=none:=λh=>by
   unfold readTxt
   rw[if_neg λh2=>h h2.1 h2.2]
   rfl
  refine sxs_cons (sx_forS (by walk_at "po") (by rfl) (by intro _;rfl) ?_)
  walk_at "ex"
  refine s_str (by omega) ?_
  refine⟨_,rfl,λi σ H'=>(∃o,σ=[some (.str kd),some (.str z),o,none])/\H=H'/\∀c∈(cutS z (some 1) none).cps.toList.take i,c∈SG,⟨⟨none,rfl⟩,rfl,by simp⟩,λi c σ H' hi hP=>?_,λσ H' hP=>?_⟩
  .obtain⟨⟨o,rfl⟩,rfl,hd⟩:=hP
   refine eg_name nd (by rfl) (.inl rfl) (.inl rfl) ?_
   refine sxs_one (sx_if ?_)
   walk_at "ex"
   rw[StrLaws.found_one]
   have esg:∀c,c∈(Str.ofString "abcdefghijklmnopqrstuvwxyz0123456789-").cps.toList↔c∈SG:=by
    have h1:∀c∈(Str.ofString "abcdefghijklmnopqrstuvwxyz0123456789-").cps.toList,c∈SG:=by decide+kernel
    have h2:∀c∈SG,c∈(Str.ofString "abcdefghijklmnopqrstuvwxyz0123456789-").cps.toList:=by decide+kernel
    exact λc=>⟨h1 c,h2 c⟩
   refine ifN (λh4=>?_) (λh4=>?_)
   .refine sxs_one (sx_ret ?_)
    walk_at "ex"
    exact no (nope λ_ h=>h4 ((esg c).mpr ((isTxt_iff _).mp h |>.2 c (List.mem_of_getElem? hi))))
   .refine sxs_nil ⟨⟨_,rfl⟩,rfl,?_⟩
    rw[List.take_add_one,hi]
    intro d hd2
    rcases List.mem_append.mp hd2 with z1 |z1
    .exact hd d z1
    .have :d=c:=by simpa using z1
     rw[this]
     exact(esg c).mp h4
  .obtain⟨⟨o,rfl⟩,rfl,hd⟩:=hP
   rw[List.take_length]at hd
   refine sxs_one (sx_ret ?_)
   walk_at "ex"
   refine s_str (by omega) ?_
   walk_at "ex"
   rw[cut_first z 39 _ eq']
   refine ifD (λh1=>?_) (λh1=>?_)
   .walk_at "ex"
    refine ifD (λh2=>?_) (λh2=>?_)
    .walk_at "ex"
     refine s_str (by omega) ?_
     walk_at "ex"
     refine yes (.str (cutS z (some 1) none)) ?_
     unfold readTxt
     rw[if_pos ⟨h1,(isTxt_iff _).mpr ⟨by omega,hd⟩⟩]
     rfl
    .walk_at "ex"
     refine no (nope λ_ h=>?_)
     have :=((isTxt_iff _).mp h).1
     omega
   .walk_at "ex"
    exact no (nope λh=>absurd h h1)
 .have hk':kd="number":=by
   rcases hkd with h |h
   .exact h
   .exact absurd (congrArg V.str h) hk
  have er:readV kd z=numV (readNum z.cps.toList):=by unfold readV;rw[if_neg hq',if_pos hk']
  rw[er]at no yes
  have no:readNum z.cps.toList=none->0≤sizeLine/\∀p,H p=none->Q (.ref p) (upd H p (.tup [])):=λh=>no (by rw[h];rfl)
  have yes:∀n,readNum z.cps.toList=some n->1≤sizeLine/\∀p,H p=none->Q (.ref p) (upd H p (.tup [.int n])):=λn h=>yes _ (by rw[h];rfl)
  have rest:∀fz:Str,fz.cps.toList=figL z.cps.toList->SXs (CxF true P w K mg base N__law_value_of "_law_value_of" (defScope s__law_value_of) f cdv A outer s H E) ((defBody s__law_value_of).drop 3) {nx:=λ_ H'=>Q .non H',rt:=Q} [some (.str kd),some (.str z),none,some (.str fz)] H:=by
   intro fz hf
   have hfl:=len_list fz
   have hll:=figL_len z.cps.toList
   have hfz:fz.length≤4000:=by rw[hfl,hf];split at hll<;>omega
   refine sxs_cons (sx_forS (by walk_at "po") (by rfl) (by intro _;rfl) ?_)
   walk_at "ex"
   refine⟨fz,rfl,λi σ H'=>(∃o,σ=[some (.str kd),some (.str z),o,some (.str fz)])/\H=H'/\∀c∈fz.cps.toList.take i,48≤c/\c≤57,⟨⟨none,rfl⟩,rfl,by simp⟩,λi c σ H' hi hP=>?_,λσ H' hP=>?_⟩
   .obtain⟨⟨o,rfl⟩,rfl,hd⟩:=hP
    refine eg_name nd (by rfl) (.inl rfl) (.inl rfl) ?_
    refine sxs_one (sx_if ?_)
    walk_at "ex"
    rw[StrLaws.found_one]
    refine ifN (λh4=>?_) (λh4=>?_)
    .refine sxs_one (sx_ret ?_)
     walk_at "ex"
     refine no (due_bad (c:=c) ?_ λh5=>h4 ((mem_fg c).mpr h5))
     rw[<-hf]
     exact List.mem_of_getElem? hi
    .refine sxs_nil ⟨⟨_,rfl⟩,rfl,?_⟩
     rw[List.take_add_one,hi]
     intro d hd2
     rcases List.mem_append.mp hd2 with z1 |z1
     .exact hd d z1
     .have :d=c:=by simpa using z1
      rw[this]
      exact(mem_fg c).mp h4
   .obtain⟨⟨o,rfl⟩,rfl,hd⟩:=hP
    rw[List.take_length]at hd
    have hd':∀c∈figL z.cps.toList,48≤c/\c≤57:=by rw[<-hf];exact hd
    have out:readNum z.cps.toList=none->SXs (CxF true P w K mg base N__law_value_of "_law_value_of" (defScope s__law_value_of) f cdv A outer s H E) (thenB ((defBody s__law_value_of).drop 4)) {nx:=λσ' H'=>SXs (CxF true P w K mg base N__law_value_of "_law_value_of" (defScope s__law_value_of) f cdv A outer s H E) ((defBody s__law_value_of).drop 5) {nx:=λ_ H'=>Q .non H',rt:=Q} σ' H',rt:=Q} [some (.str kd),some (.str z),o,some (.str fz)] H:=λh=>by
     refine sxs_one (sx_ret ?_)
     walk_at "ex"
     exact no h
    refine sxs_cons (sx_if ?_)
    walk_at "ex"
    rw[dec_strV,e1]
    refine ifD (λh1=>out (due_out (.inl (by rw[<-hf];exact h1)))) (λh1=>?_)
    walk_at "ex"
    refine ifD (λh2=>out (due_out (.inr (.inl (by rw[<-hf];omega))))) (λh2=>?_)
    obtain⟨c,r,hc⟩:=List.exists_cons_of_ne_nil h1
    have hc0:fz.cps.toList[0]? =some c:=by rw[hc];rfl
    walk_at "ex"
    refine i_str (by omega) (atI_nat (j:=0) hc0) ?_
    walk_at "ex"
    rw[dec_strV,cps_one,e0]
    have good:¬((figL z.cps.toList)[0]? =some 48/\z.cps.toList≠[48])->SXs (CxF true P w K mg base N__law_value_of "_law_value_of" (defScope s__law_value_of) f cdv A outer s H E) ((defBody s__law_value_of).drop 5) {nx:=λ_ H'=>Q .non H',rt:=Q} [some (.str kd),some (.str z),o,some (.str fz)] H:=λh3=>by
     obtain⟨g1,g2⟩:=due_good (l:=z.cps.toList) (by rw[<-hf];exact h1) (by rw[<-hf];omega) h3 hd'
     have hw:=wordInt_fig z.cps.toList
     refine sxs_one (sx_ret ?_)
     walk_at "ex"
     refine c_intS (intText_digits hd h1 (by omega)) (by omega) ?_
     walk_at "ex"
     rw[hf]
     refine ifD (λh4=>?_) (λh4=>?_)
     .walk_at "ex"
      refine c_intS (intText_word g1 (by omega)) (by omega) ?_
      walk_at "ex"
      refine yes _ ?_
      unfold readNum
      rw[if_pos ⟨g1,g2,by rw[hw];split <;>omega,by rw[hw];split <;>omega⟩]
     .walk_at "ex"
      refine no ?_
      unfold readNum
      rw[if_neg]
      rintro⟨_,_,h5,h6⟩
      rw[hw]at h5 h6
      split at h5<;>split at h6<;>first |omega |contradiction
    refine ifD (λh3=>?_) (λh3=>?_)
    .walk_at "ex"
     rw[dec_strV,e0]
     refine ifN (λh4=>out (due_out (.inr (.inr ⟨by rw[<-hf,hc0];cases h3;rfl,h4⟩)))) (λh4=>?_)
     exact sxs_nil (good λh5=>h5.2 h4)
    .exact sxs_nil (good λh5=>h3 (by rw[<-hf,hc0]at h5;have :=h5.1;cases this;rfl))
  refine sxs_nil (sxs_cons ?_)
  walk_at "s"
  walk_at "ex"
  refine s_str (by omega) ?_
  walk_at "ex"
  rw[cut_first z 45 _ em]
  refine ifD (λh1=>?_) (λh1=>?_)
  .walk_at "ex"
   refine s_str (by omega) ?_
   refine rest _ ?_
   rw[ec]
   unfold figL
   rw[if_pos h1]
  .walk_at "ex"
   refine rest z ?_
   unfold figL
   rw[if_neg h1]
end
end K71
namespace K71
open PySem L2 PyProof.Rows My Vl Lw
section
variable{P:Program}{w:World}{K:PySem.W.Frag}{mg:Str->Option Value}{base:Heap}
def RowO(H0 H:Hp)(v:V):Option LRow->Prop
 |none=>v= .non
 |some r=>∃t l,v= .ref t/\H t=some (.tup [.int r.1,.ref l,.bl r.2.2])/\H l=some (.lst r.2.1)/\H0 l=none
theorem figN_big{l:List Nat}:figN l 1000000000=match figN l 9999999999 with
  |none=>none
  |some n=>if n≤1000000000 then some n else none:=by
 unfold figN
 by_cases h:areFig l=true/\((NumText.digitsVal l:Nat):Int)≤9999999999
 .rw[if_pos h]
  by_cases g:((NumText.digitsVal l:Nat):Int)≤1000000000
  .rw[if_pos ⟨h.1,g⟩]
   exact(if_pos g).symm
  .rw[if_neg (λz=>g z.2)]
   exact(if_neg g).symm
 .rw[if_neg h,if_neg (λz=>h ⟨z.1,by have :=z.2;omega⟩)]
theorem cutV_but{xs:List V}:cutV xs none (some (-1))=xs.dropLast:=by
 unfold cutV
 rw[HT.sIx_none]
 have e2:HT.sIx xs.length xs.length (some (-1))=xs.length-1:=by
  unfold HT.sIx
  simp
  omega
 rw[e2,List.drop_zero,Nat.sub_zero,List.dropLast_eq_take]
theorem row_words{cs:List Col}{ws:List Str}(h0:0<ws.length):rowW1 cs ws=(let us:=if ws.getLast? =some starS then ws.dropLast else ws
  if us.length=cs.length+1 then match figN (us.getD 0 (Str.ofString "")).cps.toList 1000000000 with
   |none=>none
   |some n=>match mapO (λp:Col×Str=>readV p.1.2 p.2) (cs.zip (us.drop 1))with
    |none=>none
    |some xs=>some (n,xs, !decide (ws.getLast? =some starS))else none):=by
 obtain⟨w0,wr,rfl⟩:∃w0 wr,ws=w0::wr:=by
  cases ws with
  |nil=>simp at h0
  |cons a r=>exact⟨a,r,rfl⟩
 unfold rowW1 valsF restW
 show _=if _ then _ else _
 have star_no:∀m,figN starS.cps.toList m=none:=λm=>by
  unfold figN
  refine if_neg λh=>?_
  have :areFig starS.cps.toList=false:=by decide+kernel
  rw[this]at h
  exact absurd h.1 (by decide)
 by_cases hs:(w0::wr).getLast? =some starS
 .rw[if_pos hs,if_pos hs]
  cases wr with
  |nil=>
   have e:w0=starS:=by simpa using hs
   have hl:¬(([w0]:List Str).dropLast).length=cs.length+1:=by show ¬0=cs.length+1;omega
   rw[if_neg hl,show([w0]:List Str).getD 0 (Str.ofString "")=w0 from rfl,e,star_no]
  |cons a r=>
   have e1:(w0::a::r).dropLast=w0::(a::r).dropLast:=rfl
   rw[e1]
   show _=if((a::r).dropLast).length+1=cs.length+1 then _ else _
   rw[show(w0::a::r).getD 0 (Str.ofString "")=w0 from rfl,show(w0::(a::r).dropLast).getD 0 (Str.ofString "")=w0 from rfl,show(w0::a::r).drop 1=a::r from rfl,show(w0::(a::r).dropLast).drop 1=(a::r).dropLast from rfl]
   by_cases hl:((a::r).dropLast).length=cs.length
   .rw[if_pos hl,if_pos (by omega)]<;>rfl
   .rw[if_neg hl,if_neg (by omega)]
    cases figN w0.cps.toList 1000000000<;>rfl
 .rw[if_neg hs,if_neg hs]
  show _=if wr.length+1=cs.length+1 then _ else _
  rw[show(w0::wr).drop 1=wr from rfl]
  by_cases hl:wr.length=cs.length
  .rw[if_pos hl,if_pos (by omega)]<;>rfl
  .rw[if_neg hl,if_neg (by omega)]
   cases figN ((w0::wr).getD 0 (Str.ofString "")).cps.toList 1000000000<;>rfl
def spRowOf7:Sp:=λvs H Q _=>∃(b:Addr) (cs:List Col) (z:Str),vs=[.ref b,.str z]/\Cols H b cs/\cs.length≤6/\(∀c∈cs,c.2="number"\/c.2="text")/\z.length≤2000/\∀v H',Same H H'->RowO H H' v (rowF cs z)->Q v H'
theorem d__law_row_of(T:Txt K mg):Def P w K mg base true 2 "_law_row_of" ["_law_columns_here","_law_text"] spRowOf7:=by
 refine df__law_row_of T (λvs H Q E h=>by obtain⟨b,cs,z,rfl,_⟩:=h;rfl) (λf cdv A outer s H vs Q E hr h=>?_)
 obtain⟨b,cs,z,rfl,hC,hk,hkd,hzl,q⟩:=h
 obtain⟨cv,hb,hcv⟩:=id hC
 have hcl:=hcv.len
 have n1:=T.n_len
 have n2:=T.n_int
 have n3:=T.n_range
 have nd:=sc__law_row_of.nd
 have hu:=hr.units
 have hsz:sizeLine=16777216:=sizeLine_eq
 have D1:Def P w K mg base true 1 "_law_figured" ["_law_word_here"] spFig7:=d__law_figured T
 have D2:Def P w K mg base true 1 "_law_value_of" ["_law_kind","_law_word_here"] spValOf7:=d__law_value_of T
 unfold rowF at q
 rw[row_words (cutT_ne 32 z)]at q
 refine sxs_cons ?_
 walk_at "s"
 refine ev_bm PySem.F.plainAttrs_str PySem.F.slot_str_split PySem.F.type_str_split (by rfl) (by rfl) (by rfl) (by rfl) (by rfl) ?_
 walk_at "ex"
 refine m_split (c:=32) (by omega) λp hp=>?_
 have hwl:=cutT_len 32 z
 have hw0:=cutT_ne 32 z
 have hws:∀y∈cutT 32 z,y.length≤2000:=λy hy=>by have :=cutT_short hy;omega
 generalize cutT 32 z=ws at q hwl hw0 hws⊢
 have sm1:Same H (upd H p (.lst (ws.map V.str))):=Same.upd hp
 have ep:(upd H p (.lst (ws.map V.str))) p=some (.lst (ws.map V.str)):=upd_same
 generalize upd H p (.lst (ws.map V.str))=H1 at sm1 ep⊢
 have SP:SqL K H1 p (ws.map V.str):=SqL.of ep
 obtain⟨lw,hlw⟩:∃lw,ws.getLast? =some lw:=by
  have hne:ws≠[]:=λe=>by subst e;simp at hw0
  exact⟨_,List.getLast?_eq_some_getLast hne⟩
 have elw:decide (ws.getLast? =some starS)=decide (V.str lw=V.str (Str.ofString "*")):=by
  rw[hlw]
  by_cases z:lw=Str.ofString "*"
  .rw[decide_eq_true (show some lw=some starS by rw[z];rfl),decide_eq_true (congrArg V.str z)]
  .rw[decide_eq_false (show ¬some lw=some starS from λe=>z (Option.some.inj e)),decide_eq_false (λe=>z (V.str.inj e))]
 refine sxs_cons ?_
 walk_at "s"
 walk_at "ex"
 refine i_list SP (atI_m1 (x:=.str lw) (by rw[List.getLast?_map,hlw];rfl)) ?_
 walk_at "ex"
 rw[elw]at q
 have etc:(ws.getLast? =some starS)↔decide (V.str lw=V.str (Str.ofString "*"))=true:=by rw[<-elw,decide_eq_true_eq]
 generalize decide (V.str lw=V.str (Str.ofString "*"))=tc at q etc⊢
 have eif:(if ws.getLast? =some starS then ws.dropLast else ws)=(if tc=true then ws.dropLast else ws):=by
  by_cases z:tc=true
  .rw[if_pos z,if_pos (etc.mpr z)]
  .rw[if_neg z,if_neg (λh=>z (etc.mp h))]
 rw[eif]at q
 have rest:∀(p2:Addr) (us:List Str) (H2:Hp),Same H H2->H2 p2=some (.lst (us.map V.str))->us=(if tc=true then ws.dropLast else ws)->(∀y∈us,y.length≤2000)->us.length≤3000->SXs (CxF true P w K mg base N__law_row_of "_law_row_of" (defScope s__law_row_of) f cdv A outer s H E) ((defBody s__law_row_of).drop 3) {nx:=λ_ H'=>Q .non H',rt:=Q} [some (.ref b),some (.str z),some (.ref p2),some (.bl (!tc)),none,none,none] H2:=by
  intro p2 us H2 sm2 ep2 eus hus husl
  rw[<-eus]at q
  have SP2:SqL K H2 p2 (us.map V.str):=SqL.of ep2
  have SC2:SqL K H2 b cv:=sm2.seq (SqL.of hb)
  have hul:(us.map V.str).length=us.length:=List.length_map ..
  have out:(if us.length=cs.length+1 then(match figN (us.getD 0 (Str.ofString "")).cps.toList 1000000000 with
   |none=>none
   |some n=>match mapO (λp:Col×Str=>readV p.1.2 p.2) (cs.zip (us.drop 1))with
    |none=>none
    |some xs=>some (n,xs, !tc))else none:Option LRow)=none->∀H3,Same H H3->Q .non H3:=λh H3 sm3=>by
   refine q .non H3 sm3 ?_
   show RowO H H3 .non (if us.length=cs.length+1 then _ else none)
   rw[h]
   rfl
  have thn:(if us.length=cs.length+1 then(match figN (us.getD 0 (Str.ofString "")).cps.toList 1000000000 with
   |none=>none
   |some n=>match mapO (λp:Col×Str=>readV p.1.2 p.2) (cs.zip (us.drop 1))with
    |none=>none
    |some xs=>some (n,xs, !tc))else none:Option LRow)=none->SXs (CxF true P w K mg base N__law_row_of "_law_row_of" (defScope s__law_row_of) f cdv A outer s H E) (thenB ((defBody s__law_row_of).drop 3)) {nx:=λσ' H'=>SXs (CxF true P w K mg base N__law_row_of "_law_row_of" (defScope s__law_row_of) f cdv A outer s H E) ((defBody s__law_row_of).drop 4) {nx:=λ_ H'=>Q .non H',rt:=Q} σ' H',rt:=Q} [some (.ref b),some (.str z),some (.ref p2),some (.bl (!tc)),none,none,none] H2:=λh=>by
   refine sxs_one (sx_ret ?_)
   walk_at "ex"
   exact out h H2 sm2
  refine sxs_cons (sx_if ?_)
  walk_at "ex"
  refine ifN (λh=>thn (if_neg λe=>h (by rw[hul,hcl,e];rfl))) (λh1=>?_)
  have l1:us.length=cs.length+1:=by
   have :=V.int.inj h1
   rw[hul]at this
   omega
  obtain⟨w0,wr,rfl⟩:∃w0 wr,us=w0::wr:=by
   cases us with
   |nil=>simp at l1
   |cons a r=>exact⟨a,r,rfl⟩
  have hl0:=hus w0 (by simp)
  have hwr:∀y∈wr,y.length≤2000:=λy hy=>hus y (by simp[hy])
  have lwr:wr.length=cs.length:=by rw[List.length_cons]at l1;omega
  rw[if_pos l1,show(w0::wr).getD 0 (Str.ofString "")=w0 from rfl,figN_big,show(w0::wr).drop 1=wr from rfl]at thn out
  have q:∀v H',Same H H'->RowO H H' v (match(match figN w0.cps.toList 9999999999 with
  |none=>none
  |some n=>if n≤1000000000 then some n else none)with
   |none=>none
   |some n=>match mapO (λp:Col×Str=>readV p.1.2 p.2) (cs.zip wr)with
    |none=>none
    |some xs=>some (n,xs, !tc))->Q v H':=λv H' sm h=>q v H' sm (by
   show RowO H H' v (if(w0::wr).length=cs.length+1 then(match figN ((w0::wr).getD 0 (Str.ofString "")).cps.toList 1000000000 with
   |none=>none
   |some n=>match mapO (λp:Col×Str=>readV p.1.2 p.2) (cs.zip ((w0::wr).drop 1))with
    |none=>none
    |some xs=>some (n,xs, !tc))else none)
   rw[if_pos l1,show(w0::wr).getD 0 (Str.ofString "")=w0 from rfl,figN_big,show(w0::wr).drop 1=wr from rfl]
   exact h)
  walk_at "ex"
  refine i_list SP2 (show atI ((w0::wr).map V.str) ((0:Nat):Int)=some (.str w0)from atI_nat rfl) ?_
  walk_at "ex"
  refine⟨w0,rfl,by omega,?_⟩
  cases hfg:figN w0.cps.toList 9999999999 with
  |none=>
   rw[show intO (none:Option Int)=V.non from rfl]
   walk_at "ex"
   exact thn (by rw[hfg])
  |some n=>
  rw[hfg]at thn out q
  rw[show intO (some n)=V.int n from rfl]
  have hfy:areFig w0.cps.toList=true/\((NumText.digitsVal w0.cps.toList:Nat):Int)=n:=by
   unfold figN at hfg
   split at hfg
   .next hh=>exact⟨hh.1,Option.some.inj hfg⟩
   .cases hfg
  obtain⟨hd,hne⟩:=areFig_digits hfy.1
  have hw10:w0.length≤10:=by
   have h3:((NumText.digitsVal w0.cps.toList:Nat):Int)≤9999999999:=by
    unfold figN at hfg
    split at hfg
    .next hh=>exact hh.2
    .cases hfg
   have :=fig_len (k:=10) hfy.1 h3 (by decide) (by decide)
   rw[len_list w0]
   exact this
  have hint:intText? w0=some n:=by rw[<-hfy.2];exact intText_digits hd hne (by omega)
  walk_at "ex"
  refine i_list SP2 (show atI ((w0::wr).map V.str) ((0:Nat):Int)=some (.str w0)from atI_nat rfl) ?_
  walk_at "ex"
  refine c_intS hint (by omega) ?_
  walk_at "ex"
  refine ifD (λh2=>?_) (λh2=>?_)
  .refine thn ?_
   have h2':¬n≤1000000000:=λz=>by
    have :(1000000000:Int)<n:=h2
    omega
   show(match(if n≤1000000000 then some n else none)with |none=>none |some n=>_)=none
   rw[if_neg h2']
  have h2':n≤1000000000:=by
   have :¬(1000000000:Int)<n:=h2
   omega
  have q:∀v H',Same H H'->RowO H H' v (match mapO (λp:Col×Str=>readV p.1.2 p.2) (cs.zip wr)with
    |none=>none
    |some xs=>some (n,xs, !tc))->Q v H':=λv H' sm h=>q v H' sm (by
   show RowO H H' v (match(if n≤1000000000 then some n else none)with |none=>none |some n=>_)
   rw[if_pos h2']
   exact h)
  clear thn out
  refine sxs_nil (sxs_cons ?_)
  walk_at "s"
  walk_at "ex"
  refine⟨by show 0≤sizeLine;omega,λl hl=>?_⟩
  have sm3:Same H2 (upd H2 l (.lst [])):=Same.upd hl
  have el:(upd H2 l (.lst [])) l=some (.lst []):=upd_same
  generalize upd H2 l (.lst [])=H3 at sm3 el⊢
  have sm03:=sm2.trans sm3
  have hl0':H l=none:=sm2.free hl
  have SP3:=sm3.seq SP2
  have SC3:=sm3.seq SC2
  refine sxs_cons (sx_forR (by walk_at "po") (by rfl) (by rfl) n3 (by rfl) ?_)
  walk_at "ex"
  refine⟨by omega,by omega,λi σ H'=>(∃o5 o6,σ=[some (.ref b),some (.str z),some (.ref p2),some (.bl (!tc)),some (.ref l),o5,o6])/\Same H H'/\H' p2=some (.lst ((w0::wr).map V.str))/\∃xs:List V,H' l=some (.lst xs)/\xs.length=i/\∀(j:Nat) x,xs[j]? =some x->∃c y,cs[j]? =some c/\wr[j]? =some y/\readV c.2 y=some x,⟨⟨none,none,rfl⟩,sm03,sm3 _ _ ep2,[],el,rfl,λj x h=>by simp at h⟩,λi σ H' hi hP=>?_,λσ H' hP=>?_⟩
  .obtain⟨⟨o5,o6,rfl⟩,sm,ep',xs,hxs,hxl,hxr⟩:=hP
   have hic:i<cs.length:=by omega
   have hci:cs[i]? =some cs[i]:=List.getElem?_eq_getElem hic
   have hcm:cs[i]∈cs:=List.getElem_mem hic
   generalize cs[i]=c at hci hcm
   obtain⟨cu,hcu,t,rfl,ht⟩:=hcv.get' hci
   have hwi:wr[i]? =some wr[i]:=List.getElem?_eq_getElem (by omega)
   generalize wr[i]'(by omega)=y at hwi
   have SPi:SqL K H' p2 ((w0::wr).map V.str):=SqL.of ep'
   have SCi:SqL K H' b cv:=sm.seq (SqL.of hb)
   refine eg_name nd (by rfl) (.inl rfl) (.inl rfl) ?_
   refine sxs_cons ?_
   walk_at "s"
   walk_at "ex"
   refine i_list SCi (atI_nat hcu) ?_
   walk_at "ex"
   refine i_tup (SqT.of (sm _ _ ht)) (i:=1) rfl ?_
   walk_at "ex"
   rw[show(i:Int)+1=((i+1:Nat):Int)by omega]
   refine i_list SPi (atI_nat (v:=V.str y) (by rw[List.getElem?_map,List.getElem?_cons_succ,hwi];rfl)) ?_
   walk_at "ex"
   refine⟨c.2,y,rfl,hkd c hcm,by have :=hwr y (List.mem_of_getElem? hwi);omega,λt2 H5 sm5 ht2=>?_⟩
   have et:SqT K H5 t2 (optT (readV c.2 y)):=SqT.of ht2
   have sm05:=sm.trans sm5
   refine sxs_cons (sx_if ?_)
   walk_at "ex"
   refine⟨by show 0≤sizeLine;omega,λt3 ht3=>?_⟩
   have sm6:Same H5 (upd H5 t3 (.tup [])):=Same.upd ht3
   have e6:(upd H5 t3 (.tup [])) t3=some (.tup []):=upd_same
   generalize upd H5 t3 (.tup [])=H6 at sm6 e6⊢
   cases hrv:readV c.2 y with
   |none=>
    rw[hrv]at ht2
    refine o_eqD hu (d:=.tuple []) (d':=.tuple []) (.tup (SqT.of (sm6 _ _ ht2)) .nil) (.tup (SqT.of e6) .nil) (by rfl) (by rfl) (by decide) ?_
    rw[show PyData.eqv (.tuple []) (.tuple [])=true from SeqAt.eqv_refl _ (by rfl)]
    walk_at "ex"
    refine sxs_one (sx_ret ?_)
    walk_at "ex"
    refine q .non H6 (sm05.trans sm6) ?_
    have hz:(cs.zip wr)[i]? =some (c,y):=by rw[List.getElem?_zip_eq_some];exact⟨hci,hwi⟩
    rw[mapO_none (x:=(c,y)) (List.mem_of_getElem? hz) hrv]
    rfl
   |some x=>
    rw[hrv]at ht2
    have hsx:sca x=true/\∀z,x= .str z->okS 4000 z:=by
     have hyl:=hwr y (List.mem_of_getElem? hwi)
     unfold readV at hrv
     split at hrv
     .cases hrv;exact⟨rfl,λz e=>by cases e⟩
     .split at hrv
      .cases e:readNum y.cps.toList with
       |none=>rw[e]at hrv;cases hrv
       |some i=>rw[e]at hrv;cases hrv;exact⟨rfl,λz e=>by cases e⟩
      .unfold readTxt at hrv
       split at hrv
       .next hh=>
        cases hrv
        have h9:=(isTxt_iff _).mp hh.2
        exact⟨rfl,λz e=>by cases e;exact okS.sg (by omega) h9.2⟩
       .cases hrv
    have hlay:(PyData.tuple [dV x]).canLay0=true:=by
     show((dV x).canLay0&&true)=true
     rw[layV.data ⟨hsx.1,hsx.2⟩]
     rfl
    refine o_eqD hu (d:=.tuple [dV x]) (d':=.tuple []) (.tup (SqT.of (sm6 _ _ ht2)) (.cons (rd_sca hsx.1) .nil)) (.tup (SqT.of e6) .nil) hlay (by rfl) (by have :=dV_dep x;simp only[PyData.depth,PyData.depthAll];omega) ?_
    rw[show PyData.eqv (.tuple [dV x]) (.tuple [])=false by simp[PyData.eqv,PyData.eqvAll]]
    walk_at "ex"
    refine sxs_nil (sxs_one (sx_expr (by rfl) (ev_bm PySem.F.plainAttrs_list PySem.F.slot_list_append PySem.F.type_list_append (by rfl) (by rfl) (by rfl) (by rfl) (by rfl) ?_)))
    walk_at "e"
    have hl6:=(sm5.trans sm6) _ _ hxs
    refine⟨.inl ⟨rfl,_,SqL.of hl6⟩,?_⟩
    walk_at "ex"
    refine i_tup (SqT.of (sm6 _ _ ht2)) (i:=0) (show atI [x] 0=some x from rfl) ?_
    walk_at "ex"
    refine mt_by mt_append ⟨l,xs,_,rfl,rfl,hl6,by omega,?_⟩
    have hlp:p2≠l:=λe=>by rw[<-e,ep2]at hl;cases hl
    refine⟨⟨_,_,rfl⟩,λd o e=>?_,by rw[upd_ne hlp];exact(sm5.trans sm6) _ _ ep',xs++[x],upd_same,by simp[hxl],λj u hj=>?_⟩
    .rw[upd_ne (ne_of_none e hl0')]
     exact(sm05.trans sm6) _ _ e
    .by_cases hlt:j<xs.length
     .rw[List.getElem?_append_left hlt]at hj
      exact hxr j u hj
     .have hjk:j=i:=by
       have :=(List.getElem?_eq_some_iff.mp hj).1
       rw[List.length_append,List.length_singleton]at this
       omega
      subst hjk
      rw[<-hxl,List.getElem?_concat_length]at hj
      cases hj
      exact⟨c,y,hci,hwi,hrv⟩
  .obtain⟨⟨o5,o6,rfl⟩,sm,ep',xs,hxs,hxl,hxr⟩:=hP
   have hxl':xs.length=cs.length:=by rw[hxl];omega
   have SPi:SqL K H' p2 ((w0::wr).map V.str):=SqL.of ep'
   refine sxs_one (sx_ret ?_)
   walk_at "ex"
   refine i_list SPi (show atI ((w0::wr).map V.str) ((0:Nat):Int)=some (.str w0)from atI_nat rfl) ?_
   walk_at "ex"
   refine c_intS hint (by omega) ?_
   walk_at "ex"
   refine⟨by show 3≤sizeLine;omega,λt ht=>?_⟩
   have em:mapO (λp:Col×Str=>readV p.1.2 p.2) (cs.zip wr)=some xs:=mapO_some (by rw[List.length_zip];omega) λi x y h3 h4=>by
    obtain⟨c,y',g1,g2,g3⟩:=hxr i y h4
    obtain⟨c2,y2⟩:=x
    rw[List.getElem?_zip_eq_some]at h3
    rw[g1,g2]at h3
    obtain⟨a1,a2⟩:=h3
    cases a1
    cases a2
    exact g3
   refine q (.ref t) _ (sm.trans (Same.upd ht)) ?_
   rw[em]
   exact⟨t,l,rfl,upd_same,by rw[upd_ne (λe=>by rw[<-e,hxs]at ht;cases ht)];exact hxs,hl0'⟩
 refine sxs_cons (sx_if ?_)
 walk_at "ex"
 cases tc with
 |true=>
  walk_at "ex"
  refine sxs_one ?_
  walk_at "s"
  walk_at "ex"
  refine s_list SP λp2 hp2=>?_
  rw[cutV_but]
  refine rest p2 ws.dropLast _ (sm1.trans (Same.upd hp2)) (by rw[upd_same,List.map_dropLast]) (if_pos rfl).symm (λy hy=>hws y (List.dropLast_subset _ hy)) (by rw[List.length_dropLast];omega)
 |false=>
  walk_at "ex"
  exact sxs_nil (rest p ws H1 sm1 ep (if_neg Bool.false_ne_true).symm hws (by omega))
end
end K71
namespace K71
open PySem L2 PyProof.Rows My Vl Lw
section
variable{P:Program}{w:World}{K:PySem.W.Frag}{mg:Str->Option Value}{base:Heap}
def spHeadOf7(K:PySem.W.Frag):Sp:=λvs H Q _=>∃(a:Addr) (ts:List Str),vs=[.ref a]/\SqL K H a (ts.map V.str)/\txts ts/\(headF ts=none->∀H',Same H H'->Q .non H')/\∀ns p H',headF ts=some ns->Same H H'->H p=none->H' p=some (.lst (ns.map V.int))->Q (.ref p) H'
theorem d__law_head_of(T:Txt K mg):Def P w K mg base true 2 "_law_head_of" ["_law_texts"] (spHeadOf7 K):=by
 refine df__law_head_of T (λvs H Q E h=>by obtain⟨a,ts,rfl,_⟩:=h;rfl) (λf cdv A outer s H vs Q E hr h=>?_)
 obtain⟨a,ts,rfl,hS,ht,bad,q⟩:=h
 have nd:=sc__law_head_of.nd
 have n1:=T.n_len
 have hsz:sizeLine=16777216:=sizeLine_eq
 have nd1:(["_law_word_here"]:List Str).Nodup:=by decide+kernel
 have hlm:(ts.map V.str).length=ts.length:=List.length_map ..
 have D2:Def P w K mg base true 1 "_law_figured" ["_law_word_here"] spFig7:=d__law_figured T
 have rest:∀(p:Addr) (ws:List Str) (H1:Hp),Same H H1->H1 p=some (.lst (ws.map V.str))->headF ts=headW ws->(∀y∈ws,y.length≤2000)->ws.length≤3000->SXs (CxF true P w K mg base N__law_head_of "_law_head_of" (defScope s__law_head_of) f cdv A outer s H E) ((defBody s__law_head_of).drop 1) {nx:=λ_ H'=>Q .non H',rt:=Q} [some (.ref a),some (.ref p),none] H1:=by
  intro p ws H1 sm1 ep eF hws hwl
  rw[eF]at bad q
  have SP:SqL K H1 p (ws.map V.str):=SqL.of ep
  have hwm:(ws.map V.str).length=ws.length:=List.length_map ..
  have no:headW ws=none->SXs (CxF true P w K mg base N__law_head_of "_law_head_of" (defScope s__law_head_of) f cdv A outer s H E) (thenB ((defBody s__law_head_of).drop 1)) {nx:=λσ' H'=>SXs (CxF true P w K mg base N__law_head_of "_law_head_of" (defScope s__law_head_of) f cdv A outer s H E) ((defBody s__law_head_of).drop 2) {nx:=λ_ H'=>Q .non H',rt:=Q} σ' H',rt:=Q} [some (.ref a),some (.ref p),none] H1:=λh=>by
   refine sxs_one (sx_ret ?_)
   walk_at "ex"
   exact bad h H1 sm1
  refine sxs_cons (sx_if ?_)
  walk_at "ex"
  refine ifN (λh=>no (if_neg λhh=>h (by rw[hwm,hh.1];rfl))) (λh1=>?_)
  have l5:ws.length=5:=by
   have :=V.int.inj h1
   rw[hwm]at this
   omega
  obtain⟨w0,w1,w2,w3,w4,rfl⟩:∃w0 w1 w2 w3 w4,ws=[w0,w1,w2,w3,w4]:=by
   match ws,l5 with
   |[a,b,c,d,e],_=>exact⟨a,b,c,d,e,rfl⟩
  walk_at "ex"
  refine i_list SP (show atI _ 1=some (.str w1)from rfl) ?_
  walk_at "ex"
  refine ifN (λh=>no (if_neg λhh=>h (congrArg V.str hh.2.2.1))) (λh3=>?_)
  walk_at "ex"
  refine i_list SP (show atI _ 3=some (.str w3)from rfl) ?_
  walk_at "ex"
  refine ifN (λh=>no (if_neg λhh=>h (congrArg V.str hh.2.2.2))) (λh4=>?_)
  have hl0:=hws w0 (by simp)
  walk_at "ex"
  refine ev_bm PySem.F.plainAttrs_str PySem.F.slot_str_count PySem.F.type_str_count (by rfl) (by rfl) (by rfl) (by rfl) (by rfl) ?_
  walk_at "ex"
  refine i_list SP (show atI _ 0=some (.str w0)from rfl) ?_
  walk_at "ex"
  refine m_count ?_
  walk_at "ex"
  have hcc:=count_cut w0
  refine ifN (λh=>no (if_neg λhh=>h ?_)) (λh5=>?_)
  .have h6:(cutT 43 w0).length=2:=hh.2.1
   have :Txt.count w0 ⟨#[43]⟩=1:=by omega
   exact congrArg V.int this
  have l2:(cutT 43 w0).length=2:=by
   have :Txt.count w0 ⟨#[43]⟩=1:=V.int.inj h5
   omega
  refine sxs_nil ?_
  unfold headW at bad q
  rw[if_pos ⟨rfl,l2,V.str.inj h3,V.str.inj h4⟩]at bad q
  rw[show([w0,w1,w2,w3,w4]:List Str).getD 0 (Str.ofString "")=w0 from rfl,show([w0,w1,w2,w3,w4]:List Str).getD 2 (Str.ofString "")=w2 from rfl,show([w0,w1,w2,w3,w4]:List Str).getD 4 (Str.ofString "")=w4 from rfl]at bad q
  have hcs:∀y∈cutT 43 w0,y.length≤2000:=λy hy=>by have :=cutT_short hy;omega
  refine sxs_cons ?_
  refine sx_compL ["_law_word_here"] (σ':=[none]) (by rfl) (by rfl) (by rfl) (compSc_of (defScope s__law_head_of) (by rfl) (by rfl) (by decide+kernel)) (by intro _;rfl) nd (by rfl) (by rfl) ?_
  walk_at "e"
  refine ev_bm PySem.F.plainAttrs_str PySem.F.slot_str_split PySem.F.type_str_split (by rfl) (by rfl) (by rfl) (by rfl) (by rfl) ?_
  walk_at "ex"
  refine i_list SP (show atI _ 0=some (.str w0)from rfl) ?_
  walk_at "ex"
  refine m_split (c:=43) (by omega) λp2 hp2=>?_
  generalize cutT 43 w0=cts at bad q hcs l2⊢
  obtain⟨c0,c1,rfl⟩:∃c0 c1,cts=[c0,c1]:=by
   match cts,l2 with
   |[a,b],_=>exact⟨a,b,rfl⟩
  have sm2:Same H1 (upd H1 p2 (.lst ([c0,c1].map V.str))):=Same.upd hp2
  have ep2:(upd H1 p2 (.lst ([c0,c1].map V.str))) p2=some (.lst ([c0,c1].map V.str)):=upd_same
  generalize upd H1 p2 (.lst ([c0,c1].map V.str))=H2 at sm2 ep2⊢
  have SP2:=sm2.seq SP
  have sm12:=sm1.trans sm2
  have hl4:∀y∈[c0,c1,w2,w4],y.length≤2000:=λy hy=>by
   simp only[List.mem_cons,List.not_mem_nil,or_false]at hy
   rcases hy with rfl |rfl |rfl |rfl
   .exact hcs _ (by simp)
   .exact hcs _ (by simp)
   .exact hws _ (by simp)
   .exact hws _ (by simp)
  walk_at "ex"
  refine i_list SP2 (show atI _ 2=some (.str w2)from rfl) ?_
  walk_at "ex"
  refine i_list SP2 (show atI _ 4=some (.str w4)from rfl) ?_
  walk_at "ex"
  refine⟨by show 2≤sizeLine;omega,λy hy=>?_⟩
  have sm3:=Same.upd (o:=.lst [V.str w2,.str w4]) hy
  have ey:(upd H2 y (.lst [V.str w2,.str w4])) y=some (.lst [V.str w2,.str w4]):=upd_same
  generalize upd H2 y (.lst [V.str w2,.str w4])=H3 at sm3 ey⊢
  refine o_catL (sm3 _ _ ep2) ey (by show 4≤sizeLine;omega) λy2 hy2=>?_
  have sm4:=Same.upd (o:=.lst ([c0,c1].map V.str++[V.str w2,.str w4])) hy2
  have ey2:(upd H3 y2 (.lst ([c0,c1].map V.str++[V.str w2,.str w4]))) y2=some (.lst ([c0,c1,w2,w4].map V.str)):=upd_same
  generalize upd H3 y2 (.lst ([c0,c1].map V.str++[V.str w2,.str w4]))=H4 at sm4 ey2⊢
  have s04:=(sm12.trans sm3).trans sm4
  have bad:mapO (λw:Str=>figN w.cps.toList 9999999999) [c0,c1,w2,w4]=none->∀H',Same H H'->Q .non H':=bad
  have q:∀ns p H',mapO (λw:Str=>figN w.cps.toList 9999999999) [c0,c1,w2,w4]=some ns->Same H H'->H p=none->H' p=some (.lst (ns.map V.int))->Q (.ref p) H':=q
  refine⟨y2,_,rfl,SqL.of ey2,by show 4≤sizeLine;omega,λτ=>∃o1,τ=[o1],λE2 i u H'=>∃n:Option Int,([c0,c1,w2,w4].map λw:Str=>figN w.cps.toList 9999999999)[i]? =some n/\u=intO n,⟨none,rfl⟩,λE2 i u H2 H3 ys _ _ p=>p,λfp E2 C s3 H0 i τ x H5 H6 hE2 hi hτ sm5 hys hG=>?_,λE2 H5 ys hE2 hl2 hx2 e5 sm5=>?_⟩
  .obtain⟨o1,rfl⟩:=hτ
   obtain⟨hx3,rfl⟩:=hG
   rw[List.getElem?_map]at hx3
   obtain⟨y,hy,rfl⟩:=Option.map_eq_some_iff.mp hx3
   refine eg_name nd1 (by rfl) (.inl rfl) (.inr rfl) ?_
   walk_at "ex"
   refine⟨y,rfl,by have :=hl4 y (List.mem_of_getElem? hy);omega,?_⟩
   exact⟨⟨_,rfl⟩,⟨_,by rw[List.getElem?_map,hy];rfl,rfl⟩,Same.refl _⟩
  .have ey3:=list_of_pi (ys:=[c0,c1,w2,w4].map λw:Str=>figN w.cps.toList 9999999999) intO (by rw[hl2];rfl) hx2
   subst ey3
   have smF:=s04.trans sm5
   refine sxs_one (sx_ret ?_)
   walk_at "ex"
   refine o_inL (SqL.of e5) (by rfl) (by
    generalize([c0,c1,w2,w4].map λw:Str=>figN w.cps.toList 9999999999)=os
    rw[List.all_eq_true]
    intro x hx
    obtain⟨o,_,rfl⟩:=List.mem_map.mp hx
    cases o<;>rfl) ?_
   rw[inV_non]
   rcases mapO_or (λw:Str=>figN w.cps.toList 9999999999) [c0,c1,w2,w4]with⟨m,h1,h2,h5⟩ |⟨h1,i,x,h2,h5⟩
   .have em:([c0,c1,w2,w4].map λw:Str=>figN w.cps.toList 9999999999)=m.map some:=by
     apply List.ext_getElem?
     intro i
     rw[List.getElem?_map,List.getElem?_map]
     cases e:([c0,c1,w2,w4]:List Str)[i]? with
     |none=>
      have :m[i]? =none:=List.getElem?_eq_none (by rw[h2];exact List.getElem?_eq_none_iff.mp e)
      rw[this]
      rfl
     |some x=>
      obtain⟨y,g1,g2⟩:=h5 i x e
      rw[g1]
      exact congrArg some g2
    rw[em]at e5⊢
    rw[show(m.map some).any Option.isNone=false by rw[List.any_eq_false];intro x hx;obtain⟨y,_,rfl⟩:=List.mem_map.mp hx;simp]
    walk_at "ex"
    refine q m E2 H5 h1 smF (s04.free hE2) ?_
    rw[e5,List.map_map]
    rfl
   .rw[show(([c0,c1,w2,w4].map λw:Str=>figN w.cps.toList 9999999999)).any Option.isNone=true by
     rw[List.any_eq_true]
     exact⟨none,List.mem_map.mpr ⟨x,List.mem_of_getElem? h2,h5⟩,rfl⟩]
    walk_at "ex"
    exact bad h1 H5 smF
 refine sxs_cons ?_
 walk_at "s"
 walk_at "ex"
 rw[hlm]
 refine ifD (λh=>?_) (λh=>?_)
 .have h0:0<ts.length:=by
   have :(0:Int)<(ts.length:Int):=h
   omega
  have hg:ts[0]? =some ts[0]:=List.getElem?_eq_getElem h0
  generalize ts[0]=z at hg
  have hzl:=ht.2 z (List.mem_of_getElem? hg)
  refine ev_bm PySem.F.plainAttrs_str PySem.F.slot_str_split PySem.F.type_str_split (by rfl) (by rfl) (by rfl) (by rfl) (by rfl) ?_
  walk_at "ex"
  refine i_list hS (show atI (ts.map V.str) ((0:Nat):Int)=some (.str z)from atI_nat (by rw[List.getElem?_map,hg];rfl)) ?_
  walk_at "ex"
  refine m_split (c:=32) (by omega) λp hp=>?_
  exact rest p (cutT 32 z) _ (Same.upd hp) upd_same (by unfold headF;rw[hg]) (λy hy=>by have :=cutT_short hy;omega) (by have :=cutT_len 32 z;omega)
 .have h0:ts=[]:=List.eq_nil_of_length_eq_zero (by
   have :¬(0:Int)<(ts.length:Int):=h
   omega)
  walk_at "ex"
  refine⟨by show 0≤sizeLine;omega,λp hp=>?_⟩
  exact rest p [] _ (Same.upd hp) upd_same (by rw[h0];rfl) (by simp) (by simp)
end
end K71
namespace K71
open PySem L2 PyProof.Rows My Vl Lw
section
variable{P:Program}{w:World}{K:PySem.W.Frag}{mg:Str->Option Value}{base:Heap}
theorem starts_cut(z w:Str):decide (V.str (cutS z none (some (w.length:Nat)))=V.str w)=Txt.startswith z w:=by
 rw[dec_strV,cutS_to]
 unfold Txt.startswith
 rw[Bool.eq_iff_iff,decide_eq_true_eq,Bool.and_eq_true,decide_eq_true_eq,StrLaws.subAt_eq]
 rw[List.drop_zero]
 constructor
 .intro h
  refine⟨?_,?_⟩
  .have h1:=congrArg List.length h
   rw[List.length_take, <-len_list w, <-len_list z]at h1
   omega
  .simpa using h
 .intro h
  simpa using h.2
theorem All2.snoc{α β:Type}{R:α->β->Prop}{l:List α}{m:List β}{a:α}{b:β}(h:All2 R l m)(r:R a b):All2 R (l++[a]) (m++[b]):=h.app (.cons r .nil)
theorem mark7(T:Txt K mg){f:Addr}{cdv:Value}{A:Around}{outer:List Env}{s:Shared}{H:Hp}{E:XK}{D:Ends}{H':Hp}{b a p0 l mp:Addr}{ts:List Str}{x0 x1:V}{o5 o8:Option V}{at_ k:Nat}{wd:Str}(hS:SqL K H' a (ts.map V.str))(ht:txts ts)(hw:atI [V.str (Str.ofString "back "),V.str (Str.ofString "forth ")] (k:Int)=some (.str wd))(hwl:wd.length≤10)(hk:k<2)(hmp:H' mp=some (.lst [x0,x1]))(hat:at_≤3000)
  (hno:markB wd ts at_= .non->∀o8 H2,Same H' H2->D.nx [some (.ref b),some (.ref a),some (.ref p0),some (.ref l),some (.int (at_:Nat)),o5,some (.ref mp),some (.int (k:Nat)),o8] H2)
  (hyes:∀z,markB wd ts at_= .str z->∀o8 H1 H2,Same H' H1->Out [mp] H1 H2->H2 mp=some (.lst ([x0,x1].set k (.str z)))->D.nx [some (.ref b),some (.ref a),some (.ref p0),some (.ref l),some (.int (at_+1:Nat)),o5,some (.ref mp),some (.int (k:Nat)),o8] H2):
  SXs (CxF true P w K mg base N__law_due "_law_due" (defScope s__law_due) f cdv A outer s H E) (forB ((defBody s__law_due).drop 6)) D [some (.ref b),some (.ref a),some (.ref p0),some (.ref l),some (.int (at_:Nat)),o5,some (.ref mp),some (.int (k:Nat)),o8] H':=by
 have nd:=sc__law_due.nd
 have n1:=T.n_len
 have hsz:sizeLine=16777216:=sizeLine_eq
 have hlm:(ts.map V.str).length=ts.length:=List.length_map ..
 refine sxs_cons ?_
 walk_at "s"
 walk_at "ex"
 refine⟨by show 2≤sizeLine;omega,λhp hhp=>?_⟩
 have sm1:Same H' (upd H' hp (.lst [.str (Str.ofString "back "),.str (Str.ofString "forth ")])):=Same.upd hhp
 have ehp:(upd H' hp (.lst [.str (Str.ofString "back "),.str (Str.ofString "forth ")])) hp=some (.lst [.str (Str.ofString "back "),.str (Str.ofString "forth ")]):=upd_same
 generalize upd H' hp (.lst [.str (Str.ofString "back "),.str (Str.ofString "forth ")])=H1 at sm1 ehp⊢
 walk_at "ex"
 refine i_list (SqL.of ehp) hw ?_
 have S1:=sm1.seq hS
 refine sxs_one (sx_if ?_)
 walk_at "ex"
 rw[hlm]
 refine ifD (λh=>?_) (λh=>?_)
 .have hlt:at_<ts.length:=by
   have :(at_:Int)<(ts.length:Int):=h
   omega
  have hg:ts[at_]? =some ts[at_]:=List.getElem?_eq_getElem hlt
  generalize ts[at_]=y at hg
  have hy:=ht.2 y (List.mem_of_getElem? hg)
  have e1:atI (ts.map V.str) (at_:Int)=some (.str y):=atI_nat (by rw[List.getElem?_map,hg];rfl)
  walk_at "ex"
  refine i_list S1 e1 ?_
  walk_at "ex"
  refine s_str (by omega) ?_
  walk_at "ex"
  rw[starts_cut]
  have emk:markB wd ts at_=if Txt.startswith y wd=true/\¬y=wd then .str (cutS y (some (wd.length:Nat)) none)else .non:=by unfold markB;rw[hg]
  refine ifB (λh1=>?_) (λh1=>?_)
  .walk_at "ex"
   refine i_list S1 e1 ?_
   walk_at "ex"
   refine ifN (λh2=>?_) (λh2=>?_)
   .rw[if_pos ⟨h1,λe=>h2 (by rw[e])⟩]at emk
    refine sxs_cons (sx_setI (by rfl) (by rfl) (by rfl) (by intro _;rfl) ?_)
    walk_at "ex"
    refine i_list S1 e1 ?_
    walk_at "ex"
    refine s_str (by omega) ?_
    walk_at "ex"
    refine⟨mp,[x0,x1],(k:Int),k,rfl,rfl,sm1 _ _ hmp,ixN_nat (by show k<2;exact hk),?_⟩
    refine sxs_one ?_
    walk_at "s"
    walk_at "ex"
    exact hyes _ emk _ H1 _ sm1 (Out.upd (by simp)) upd_same
   .have h2':y=wd:=V.str.inj h2
    refine sxs_nil (hno ?_ _ _ sm1)
    rw[emk,if_neg λh=>h.2 h2']
  .refine sxs_nil (hno ?_ _ _ sm1)
   rw[emk,if_neg λh=>by rw[h1]at h;cases h.1]
 .refine sxs_nil (hno ?_ _ _ sm1)
  unfold markB
  rw[List.getElem?_eq_none (by have :¬(at_:Int)<(ts.length:Int):=h;omega)]
def LRowNe(q:Addr)(H:Hp)(v:V)(r:LRow):Prop:=∃t l,v= .ref t/\H t=some (.tup [.int r.1,.ref l,.bl r.2.2])/\H l=some (.lst r.2.1)/\l≠q
def spDue7(K:PySem.W.Frag):Sp:=λvs H Q _=>∃(b:Addr) (cs:List Col) (a:Addr) (ts:List Str),vs=[.ref b,.ref a]/\Cols H b cs/\cs.length≤6/\(∀c∈cs,c.2="number"\/c.2="text")/\SqL K H a (ts.map V.str)/\txts ts/\(∀n p H',PageBad cs ts n->n≤2000->Same H H'->H' p=some (.tup [.str (Str.ofString "page"),.int n])->Q (.ref p) H')/\
 ∀L p H',PageOk cs ts L->Same H H'->LeafAt H' p L->Q (.ref p) H'
theorem d__law_due(T:Txt K mg):Def P w K mg base true 3 "_law_due" ["_law_columns_here","_law_texts"] (spDue7 K):=by
 refine df__law_due T (λvs H Q E h=>by obtain⟨b,cs,a,ts,rfl,_⟩:=h;rfl) (λf cdv A outer s H vs Q E hr h=>?_)
 obtain⟨b,cs,a,ts,rfl,hC,hk,hkd,hS,ht,bad,q⟩:=h
 have nd:=sc__law_due.nd
 have n1:=T.n_len
 have n2:=T.n_range
 have hsz:sizeLine=16777216:=sizeLine_eq
 have hlm:(ts.map V.str).length=ts.length:=List.length_map ..
 have ht0:=ht.1
 have D1:Def P w K mg base true 2 "_law_head_of" ["_law_texts"] (spHeadOf7 K):=d__law_head_of T
 have D2:Def P w K mg base true 2 "_law_row_of" ["_law_columns_here","_law_text"] spRowOf7:=d__law_row_of T
 refine sxs_cons ?_
 walk_at "s"
 walk_at "ex"
 refine⟨a,ts,rfl,hS,ht,λhh H1 sm1=>?_,λns p0 H1 hhd sm1 hp0n hp0=>?_⟩
 .refine sxs_cons (sx_if ?_)
  walk_at "ex"
  refine sxs_one (sx_ret ?_)
  walk_at "ex"
  refine⟨by show 2≤sizeLine;omega,λp hp=>?_⟩
  exact bad 0 p _ (.inl ⟨hh,rfl⟩) (by omega) (sm1.trans (Same.upd hp)) upd_same
 obtain⟨ah,ma,mo,he,rfl,ha,hm,ho,hhe⟩:=head_four hhd
 have hts:=head_ne hhd
 refine sxs_cons (sx_if ?_)
 walk_at "ex"
 refine sxs_nil (sxs_cons ?_)
 walk_at "s"
 walk_at "ex"
 refine⟨by show 0≤sizeLine;omega,λl hl=>?_⟩
 have sm2:Same H1 (upd H1 l (.lst [])):=Same.upd hl
 have el:(upd H1 l (.lst [])) l=some (.lst []):=upd_same
 generalize upd H1 l (.lst [])=H2 at sm2 el⊢
 have sm02:=sm1.trans sm2
 have hl0:H l=none:=sm1.free hl
 have hp02:=sm2 _ _ hp0
 have hpl:p0≠l:=λe=>by rw[<-e,hp0]at hl;cases hl
 have tail:∀(us:List V) (rows:List LRow) (o4 o5:Option V) (H3:Hp),Same H H3->H3 p0=some (.lst ([ah,(he:Int),ma,mo].map V.int))->H3 l=some (.lst us)->All2 (LRowNe l H3) us rows->goodRows cs ts he rows->SXs (CxF true P w K mg base N__law_due "_law_due" (defScope s__law_due) f cdv A outer s H E) ((defBody s__law_due).drop 4) {nx:=λ_ H'=>Q .non H',rt:=Q} [some (.ref b),some (.ref a),some (.ref p0),some (.ref l),o4,o5,none,none,none] H3:=by
  intro us rows o4 o5 H3 sm3 hp3 hl3 hA3 hgr
  have hul:=hA3.len
  have hrl:=hgr.1
  have hlt:=hgr.lt hts
  have SL3:SqL K H3 l us:=SqL.of hl3
  refine sxs_cons ?_
  walk_at "s"
  walk_at "ex"
  rw[show(1:Int)+(us.length:Int)=((he+1:Nat):Int)by omega]
  refine sxs_cons ?_
  walk_at "s"
  walk_at "ex"
  refine⟨by show 2≤sizeLine;omega,λmp hmp=>?_⟩
  have sm4:Same H3 (upd H3 mp (.lst [.non,.non])):=Same.upd hmp
  have emp:(upd H3 mp (.lst [.non,.non])) mp=some (.lst [.non,.non]):=upd_same
  generalize upd H3 mp (.lst [.non,.non])=H4 at sm4 emp⊢
  have hmp0:H mp=none:=sm3.free hmp
  have hml:l≠mp:=λe=>by rw[<-e,hl3]at hmp;cases hmp
  have hmp0':p0≠mp:=λe=>by rw[<-e,hp3]at hmp;cases hmp
  refine sxs_cons (sx_forR (by walk_at "po") (by rfl) (by rfl) n2 (by rfl) ?_)
  walk_at "ex"
  have hb2:backAt ts (he+1)≤he+2:=by unfold backAt;split <;>omega
  refine⟨by decide,by decide,λi σ H'=>(∃o7 o8,σ=[some (.ref b),some (.ref a),some (.ref p0),some (.ref l),some (.int (if i=0 then he+1 else if i=1 then backAt ts (he+1)else endAt ts (he+1):Nat)),o5,some (.ref mp),o7,o8])/\Out [mp] H4 H'/\H' mp=some (.lst [if i=0 then .non else markB backS ts (he+1),if i<2 then .non else markB forthS ts (backAt ts (he+1))]),⟨⟨none,none,rfl⟩,Out.refl _ _,emp⟩,λi σ H' hi hP=>?_,λσ H' hP=>?_⟩
  .obtain⟨⟨o7,o8,rfl⟩,oM,hmp'⟩:=hP
   have smN:Same H H':=λx u e=>oM _ _ (λz=>by rw[List.mem_singleton.mp z,hmp0]at e;cases e) ((sm3.trans sm4) _ _ e)
   have S':SqL K H' a (ts.map V.str):=smN.seq hS
   refine eg_name nd (by rfl) (.inl rfl) (.inl rfl) ?_
   have hi2:i=0\/i=1:=by omega
   rcases hi2 with rfl |rfl
   .refine mark7 T (wd:=backS) (at_:=he+1) (k:=0) S' ht rfl (by decide+kernel) (by decide) hmp' (by omega) (λe o8 H5 s5=>?_) (λz e o8 H5 H6 s5 o6 h6=>?_)
    .have hb:backAt ts (he+1)=he+1:=by unfold backAt;rw[if_pos e]
     refine⟨⟨_,_,by show _=[_,_,_,_,some (V.int ((backAt ts (he+1):Nat):Int)),_,_,_,_];rw[hb]⟩,oM.trans (Out.of s5),?_⟩
     show H5 mp=some (.lst [markB backS ts (he+1),.non])
     rw[e]
     exact s5 _ _ hmp'
    .have hb:backAt ts (he+1)=he+1+1:=by unfold backAt;rw[if_neg (by rw[e];exact λz=>by cases z)]
     refine⟨⟨_,_,by show _=[_,_,_,_,some (V.int ((backAt ts (he+1):Nat):Int)),_,_,_,_];rw[hb]⟩,(oM.trans (Out.of s5)).trans o6,?_⟩
     show H6 mp=some (.lst [markB backS ts (he+1),.non])
     rw[e]
     exact h6
   .refine mark7 T (wd:=forthS) (at_:=backAt ts (he+1)) (k:=1) S' ht rfl (by decide+kernel) (by decide) hmp' (by omega) (λe o8 H5 s5=>?_) (λz e o8 H5 H6 s5 o6 h6=>?_)
    .have hb:endAt ts (he+1)=backAt ts (he+1):=by unfold endAt;rw[if_pos e]
     refine⟨⟨_,_,by show _=[_,_,_,_,some (V.int ((endAt ts (he+1):Nat):Int)),_,_,_,_];rw[hb]⟩,oM.trans (Out.of s5),?_⟩
     show H5 mp=some (.lst [markB backS ts (he+1),markB forthS ts (backAt ts (he+1))])
     rw[e]
     exact s5 _ _ hmp'
    .have hb:endAt ts (he+1)=backAt ts (he+1)+1:=by unfold endAt;rw[if_neg (by rw[e];exact λz=>by cases z)]
     refine⟨⟨_,_,by show _=[_,_,_,_,some (V.int ((endAt ts (he+1):Nat):Int)),_,_,_,_];rw[hb]⟩,(oM.trans (Out.of s5)).trans o6,?_⟩
     show H6 mp=some (.lst [markB backS ts (he+1),markB forthS ts (backAt ts (he+1))])
     rw[e]
     exact h6
  .obtain⟨⟨o7,o8,rfl⟩,oM,hmp'⟩:=hP
   have hmp5:H' mp=some (.lst [markB backS ts (he+1),markB forthS ts (backAt ts (he+1))]):=hmp'
   have smN:Same H H':=λx u e=>oM _ _ (λz=>by rw[List.mem_singleton.mp z,hmp0]at e;cases e) ((sm3.trans sm4) _ _ e)
   have S':SqL K H' a (ts.map V.str):=smN.seq hS
   have e2:endAt ts (he+1)≤he+3:=by unfold endAt;split <;>omega
   have hp5:H' p0=some (.lst ([ah,(he:Int),ma,mo].map V.int)):=oM _ _ (λz=>hmp0' (List.mem_singleton.mp z)) (sm4 _ _ hp3)
   have SN:SqL K H' p0 [.int ah,.int (he:Int),.int ma,.int mo]:=SqL.of hp5
   have SM:SqL K H' mp [markB backS ts (he+1),markB forthS ts (backAt ts (he+1))]:=SqL.of hmp5
   show SXs _ _ _ [some (.ref b),some (.ref a),some (.ref p0),some (.ref l),some (.int ((endAt ts (he+1):Nat):Int)),o5,some (.ref mp),o7,o8] H'
   refine sxs_cons (sx_if ?_)
   walk_at "ex"
   rw[hlm]
   refine ifD (λh=>?_) (λh=>?_)
   .have h':endAt ts (he+1)<ts.length:=by
     have :((endAt ts (he+1):Nat):Int)<(ts.length:Int):=h
     omega
    refine sxs_one (sx_ret ?_)
    walk_at "ex"
    refine⟨by show 2≤sizeLine;omega,λp hp=>?_⟩
    exact bad _ p _ (.inr ⟨ah,ma,mo,he,hhd,.inr ⟨rows,hgr,h',rfl⟩⟩) (by omega) (smN.trans (Same.upd hp)) upd_same
   .have h':¬endAt ts (he+1)<ts.length:=λz=>h (by omega)
    refine sxs_nil (sxs_one (sx_ret ?_))
    walk_at "ex"
    refine i_list SM (show atI [markB backS ts (he+1),markB forthS ts (backAt ts (he+1))] 0=some (markB backS ts (he+1))from rfl) ?_
    walk_at "ex"
    refine i_list SM (show atI [markB backS ts (he+1),markB forthS ts (backAt ts (he+1))] 1=some (markB forthS ts (backAt ts (he+1)))from rfl) ?_
    walk_at "ex"
    refine i_list SN (show atI _ 2=some (.int ma)from rfl) ?_
    walk_at "ex"
    refine i_list SN (show atI _ 0=some (.int ah)from rfl) ?_
    walk_at "ex"
    refine i_list SN (show atI _ 3=some (.int mo)from rfl) ?_
    walk_at "ex"
    refine⟨by show 6≤sizeLine;omega,λp hp=>?_⟩
    have s9:=Same.upd (o:=.tup [V.ref l,markB backS ts (he+1),markB forthS ts (backAt ts (he+1)),.int ma,.int ah,.int mo]) hp
    refine q ⟨rows,markB backS ts (he+1),markB forthS ts (backAt ts (he+1)),ma,ah,mo⟩ p _ ⟨by rw[<-hrl]at hhd;exact hhd,by rw[hrl];exact hgr,by rw[hrl];exact h',by rw[hrl],by rw[hrl]⟩ (smN.trans s9) ⟨l,upd_same,us,?_,?_⟩
    .exact s9 _ _ (oM _ _ (λz=>hml (List.mem_singleton.mp z)) (sm4 _ _ hl3))
    .refine hA3.imp λu r z=>?_
     obtain⟨t,l2,e,e3,e4,_⟩:=z
     have g1:=sm4 _ _ e3
     have g2:=sm4 _ _ e4
     refine⟨t,l2,e,s9 _ _ (oM _ _ (λz=>by rw[List.mem_singleton.mp z,emp]at g1;cases g1) g1),s9 _ _ (oM _ _ (λz=>?_) g2)⟩
     rw[List.mem_singleton.mp z,hmp]at e4
     cases e4
 refine sxs_cons ?_
 refine sx_while (by walk_at "po") (λm σ H'=>∃(i:Nat) (us:List V) (rows:List LRow) (o4 o5:Option V),σ=[some (.ref b),some (.ref a),some (.ref p0),some (.ref l),o4,o5,none,none,none]/\Same H H'/\H' p0=some (.lst ([ah,(he:Int),ma,mo].map V.int))/\H' l=some (.lst us)/\All2 (LRowNe l H') us rows/\goodRows cs ts i rows/\i≤he/\m=he-i) he ⟨0,[],[],none,none,rfl,sm02,hp02,el,.nil,⟨rfl,λj r h=>by simp at h⟩,by omega,by omega⟩ (λm σ H' hW=>?_)
 obtain⟨i,us,rows,o4,o5,rfl,sm,hp',hl',hA,hgr,hie,rfl⟩:=hW
 have hul:=hA.len
 have hrl:=hgr.1
 have hlt:=hgr.lt hts
 have SN:SqL K H' p0 [.int ah,.int (he:Int),.int ma,.int mo]:=SqL.of hp'
 have SL:SqL K H' l us:=SqL.of hl'
 have S':=sm.seq hS
 walk_at "ex"
 refine i_list SN (show atI _ 1=some (.int (he:Int))from rfl) ?_
 walk_at "ex"
 refine ifD (λh=>?_) (λh=>?_)
 rotate_left
 .have e:i=he:=by
   have :¬(us.length:Int)<(he:Int):=h
   omega
  subst e
  exact tail us rows o4 o5 H' sm hp' hl' hA hgr
 have hlt':i<he:=by
  have :(us.length:Int)<(he:Int):=h
  omega
 refine⟨λσ H'=>∃m',m'<he-i/\∃(i:Nat) (us:List V) (rows:List LRow) (o4 o5:Option V),σ=[some (.ref b),some (.ref a),some (.ref p0),some (.ref l),o4,o5,none,none,none]/\Same H H'/\H' p0=some (.lst ([ah,(he:Int),ma,mo].map V.int))/\H' l=some (.lst us)/\All2 (LRowNe l H') us rows/\goodRows cs ts i rows/\i≤he/\m'=he-i,λσ' H' h=>h,?_⟩
 refine sxs_cons ?_
 walk_at "s"
 walk_at "ex"
 rw[show(1:Int)+(us.length:Int)=((i+1:Nat):Int)by omega]
 have none_:∀(H5:Hp),Same H H5->badRow cs ts i->2≤sizeLine/\∀p,H5 p=none->Q (.ref p) (upd H5 p (.tup [.str (Str.ofString "page"),.int ((i+1:Nat):Int)])):=λH5 s5 hb=>
  ⟨by omega,λp hp=>bad (i+1) p _ (.inr ⟨ah,ma,mo,he,hhd,.inl ⟨i,rows,hlt',hgr,hb,rfl⟩⟩) (by omega) (s5.trans (Same.upd hp)) upd_same⟩
 refine sxs_cons ?_
 walk_at "s"
 walk_at "ex"
 rw[hlm]
 refine ifD (λh1=>?_) (λh1=>?_)
 .have h1':i+1<ts.length:=by
   have :((i+1:Nat):Int)<(ts.length:Int):=h1
   omega
  have hg:ts[i+1]? =some ts[i+1]:=List.getElem?_eq_getElem h1'
  generalize ts[i+1]=z at hg
  walk_at "ex"
  refine i_list S' (atI_nat (v:=V.str z) (by rw[List.getElem?_map,hg];rfl)) ?_
  walk_at "ex"
  refine⟨b,cs,z,rfl,hC.same sm,hk,hkd,ht.2 z (List.mem_of_getElem? hg),λv H5 s5 hv=>?_⟩
  have s05:=sm.trans s5
  refine sxs_cons (sx_if ?_)
  cases hrf:rowF cs z with
  |none=>
   rw[hrf]at hv
   have hv:v= .non:=hv
   subst hv
   walk_at "ex"
   refine sxs_one (sx_ret ?_)
   walk_at "ex"
   exact none_ H5 s05 λz' hz'=>by rw[hg]at hz';cases hz';exact hrf
  |some r=>
   rw[hrf]at hv
   obtain⟨t,l2,rfl,e3,e4,e5⟩:=hv
   walk_at "ex"
   refine sxs_nil (sxs_one (sx_expr (by rfl) (ev_bm PySem.F.plainAttrs_list PySem.F.slot_list_append PySem.F.type_list_append (by rfl) (by rfl) (by rfl) (by rfl) (by rfl) ?_)))
   walk_at "e"
   have hl5:=s5 _ _ hl'
   refine⟨.inl ⟨rfl,_,SqL.of hl5⟩,?_⟩
   walk_at "ex"
   refine mt_by mt_append ⟨l,us,_,rfl,rfl,hl5,by omega,?_⟩
   have hl2l:l2≠l:=λe=>by rw[e,hl']at e5;cases e5
   have htl:t≠l:=λe=>by rw[e,hl5]at e3;cases e3
   refine⟨he-(i+1),by omega,i+1,us++[.ref t],rows++[r],_,_,rfl,λd o e=>?_,?_,upd_same,All2.snoc (hA.imp λu x z9=>?_) ?_,⟨by simp[hrl],λj r' hj=>?_⟩,by omega,rfl⟩
   .rw[upd_ne (ne_of_none e hl0)]
    exact s05 _ _ e
   .rw[upd_ne hpl]
    exact s5 _ _ hp'
   .obtain⟨t3,l3,e6,e7,e8,e9⟩:=z9
    have ht3:t3≠l:=λe=>by rw[e,hl']at e7;cases e7
    exact⟨t3,l3,e6,by rw[upd_ne ht3];exact s5 _ _ e7,by rw[upd_ne e9];exact s5 _ _ e8,e9⟩
   .exact⟨t,l2,rfl,by rw[upd_ne htl];exact e3,by rw[upd_ne hl2l];exact e4,hl2l⟩
   .by_cases hlt2:j<rows.length
    .rw[List.getElem?_append_left hlt2]at hj
     exact hgr.2 j r' hj
    .have hjk:j=i:=by
      have :=(List.getElem?_eq_some_iff.mp hj).1
      rw[List.length_append,List.length_singleton]at this
      omega
     subst hjk
     rw[<-hrl,List.getElem?_concat_length]at hj
     cases hj
     exact⟨z,hg,hrf⟩
 .walk_at "ex"
  refine sxs_cons (sx_if ?_)
  walk_at "ex"
  refine sxs_one (sx_ret ?_)
  walk_at "ex"
  exact none_ H' sm λz' hz'=>absurd (List.getElem?_eq_some_iff.mp hz').1 (by have :¬((i+1:Nat):Int)<(ts.length:Int):=h1;omega)
end
end K71
namespace K71
open PySem L2 PyProof.Rows My Vl Lw
section
variable{P:Program}{w:World}{K:PySem.W.Frag}{mg:Str->Option Value}{base:Heap}
theorem nd_apart{L:List Addr}(h:L.Nodup)(is js:List Nat)(hd:∀i∈is,i∉js):∀x∈is.filterMap (λi=>L[i]?),x∉js.filterMap (λi=>L[i]?):=by
 intro x hx hy
 obtain⟨i,hi,ei⟩:=List.mem_filterMap.mp hx
 obtain⟨j,hj,ej⟩:=List.mem_filterMap.mp hy
 have hil:=(List.getElem?_eq_some_iff.mp ei).1
 have hjl:=(List.getElem?_eq_some_iff.mp ej).1
 have e1:=(List.getElem?_eq_some_iff.mp ei).2
 have e2:=(List.getElem?_eq_some_iff.mp ej).2
 have hij:i=j:=by
  have hp:=List.pairwise_iff_getElem.mp h
  rcases Nat.lt_trichotomy i j with z |z |z
  .exact absurd (e1.trans e2.symm) (hp i j hil hjl z)
  .exact z
  .exact absurd (e2.trans e1.symm) (hp j i hjl hil z)
 subst hij
 exact hd i hi hj
end
end K71
namespace K71
open PySem L2 PyProof.Rows My Vl Lw
section
variable{P:Program}{w:World}{K:PySem.W.Frag}{mg:Str->Option Value}{base:Heap}
theorem kit_no{Lx x:Str}(h:XC K mg Lx x):∀(ys:List Str),(∀y∈ys,XC K mg Lx y/\clsA mg x≠clsA mg y/\clsA mg Lx≠clsA mg y)->PySem.W.kitAny K (.ref (clsA mg x)) ((ys.map (clsA mg)).map Value.ref)=some false
 |[],_=>rfl
 |y::ys,hy=>by
  obtain⟨h1,h2,h3⟩:=hy y (List.mem_cons_self ..)
  show PySem.W.kitAny K _ (Value.ref (clsA mg y)::(ys.map (clsA mg)).map Value.ref)=_
  unfold PySem.W.kitAny
  rw[kit_other h h1 h2 h3]
  exact kit_no h ys λz hz=>hy z (List.mem_cons_of_mem _ hz)
end
end K71
namespace K71
open PySem L2 PyProof.Rows My Vl Lw
section
variable{P:Program}{w:World}{K:PySem.W.Frag}{mg:Str->Option Value}{base:Heap}
theorem no_seven(T:Txt K mg):PySem.W.kitAny K (.ref (clsA mg "NoPage")) (((["NoColumns","NoValue","NoOrder","NoRow","NoMark","NoSize","NoLine"]:List Str).map (clsA mg)).map Value.ref)=some false:=by
 have h1:∀x∈[clsA mg "NoPage"],x∉[clsA mg "NoColumns",clsA mg "NoValue",clsA mg "NoOrder",clsA mg "NoRow",clsA mg "NoMark",clsA mg "NoSize",clsA mg "NoLine"]:=nd_apart T.nd_cls [10] [1,2,3,4,5,6,7] (by decide)
 have h0:∀x∈[clsA mg "LeafError"],x∉[clsA mg "NoColumns",clsA mg "NoValue",clsA mg "NoOrder",clsA mg "NoRow",clsA mg "NoMark",clsA mg "NoSize",clsA mg "NoLine"]:=nd_apart T.nd_cls [0] [1,2,3,4,5,6,7] (by decide)
 have h1:=h1 _ (List.mem_singleton.mpr rfl)
 have h0:=h0 _ (List.mem_singleton.mpr rfl)
 simp only[List.mem_cons,List.not_mem_nil,or_false,not_or]at h1 h0
 obtain⟨aNoColumns,aNoValue,aNoOrder,aNoRow,aNoMark,aNoSize,aNoLine⟩:=h1
 obtain⟨bNoColumns,bNoValue,bNoOrder,bNoRow,bNoMark,bNoSize,bNoLine⟩:=h0
 refine kit_no T.c_NoPage _ λy hy=>?_
 simp only[List.mem_cons,List.not_mem_nil,or_false]at hy
 rcases hy with rfl |rfl |rfl |rfl |rfl |rfl |rfl
 .exact⟨T.c_NoColumns,aNoColumns,bNoColumns⟩
 .exact⟨T.c_NoValue,aNoValue,bNoValue⟩
 .exact⟨T.c_NoOrder,aNoOrder,bNoOrder⟩
 .exact⟨T.c_NoRow,aNoRow,bNoRow⟩
 .exact⟨T.c_NoMark,aNoMark,bNoMark⟩
 .exact⟨T.c_NoSize,aNoSize,bNoSize⟩
 .exact⟨T.c_NoLine,aNoLine,bNoLine⟩
theorem no_six(T:Txt K mg):PySem.W.kitAny K (.ref (clsA mg "NoPage")) (((["NoBook","NoSieve","Twice","Absent","Gone","Later"]:List Str).map (clsA mg)).map Value.ref)=some false:=by
 have h1:∀x∈[clsA mg "NoPage"],x∉[clsA mg "NoBook",clsA mg "NoSieve",clsA mg "Twice",clsA mg "Absent",clsA mg "Gone",clsA mg "Later"]:=nd_apart T.nd_cls [10] [8,9,11,12,13,14] (by decide)
 have h0:∀x∈[clsA mg "LeafError"],x∉[clsA mg "NoBook",clsA mg "NoSieve",clsA mg "Twice",clsA mg "Absent",clsA mg "Gone",clsA mg "Later"]:=nd_apart T.nd_cls [0] [8,9,11,12,13,14] (by decide)
 have h1:=h1 _ (List.mem_singleton.mpr rfl)
 have h0:=h0 _ (List.mem_singleton.mpr rfl)
 simp only[List.mem_cons,List.not_mem_nil,or_false,not_or]at h1 h0
 obtain⟨aNoBook,aNoSieve,aTwice,aAbsent,aGone,aLater⟩:=h1
 obtain⟨bNoBook,bNoSieve,bTwice,bAbsent,bGone,bLater⟩:=h0
 refine kit_no T.c_NoPage _ λy hy=>?_
 simp only[List.mem_cons,List.not_mem_nil,or_false]at hy
 rcases hy with rfl |rfl |rfl |rfl |rfl |rfl
 .exact⟨T.c_NoBook,aNoBook,bNoBook⟩
 .exact⟨T.c_NoSieve,aNoSieve,bNoSieve⟩
 .exact⟨T.c_Twice,aTwice,bTwice⟩
 .exact⟨T.c_Absent,aAbsent,bAbsent⟩
 .exact⟨T.c_Gone,aGone,bGone⟩
 .exact⟨T.c_Later,aLater,bLater⟩
def spAsked7(K:PySem.W.Frag):Sp:=λvs H Q _=>∃(b:Addr) (cs:List Col) (a:Addr) (ts:List Str),vs=[.ref b,.ref a]/\Cols H b cs/\cs.length≤6/\SqL K H a (ts.map V.str)/\txts ts/\(∀n p H',PageBad cs ts n->Same H H'->H' p=some (.tup [.str (Str.ofString "page"),.int n])->Q (.ref p) H')/\
 ∀L p H',PageOk cs ts L->Same H H'->LeafAt H' p L->Q (.ref p) H'
theorem d__law_asked(T:Txt K mg):Def P w K mg base true 9 "_law_asked" ["_law_columns_here","_law_texts"] (spAsked7 K):=by
 refine df__law_asked T (λvs H Q E h=>by obtain⟨b,cs,a,ts,rfl,_⟩:=h;rfl) (λf cdv A outer s H vs Q E hr h=>?_)
 obtain⟨b,cs,a,ts,rfl,hC,hk,hS,ht,bad,q⟩:=h
 have nd:=sc__law_asked.nd
 have n1:=T.n_isinstance
 have n2:=T.n_ValueError
 have hsz:sizeLine=16777216:=sizeLine_eq
 have D1:Def P w K mg base true 8 "read_page" ["columns","texts"] (spReadPage K mg):=d_read_page T
 have gNoColumns:Gc mg "NoColumns" (.ref (clsA mg "NoColumns")):=⟨_,T.m_NoColumns,rfl⟩
 have gNoValue:Gc mg "NoValue" (.ref (clsA mg "NoValue")):=⟨_,T.m_NoValue,rfl⟩
 have gNoOrder:Gc mg "NoOrder" (.ref (clsA mg "NoOrder")):=⟨_,T.m_NoOrder,rfl⟩
 have gNoRow:Gc mg "NoRow" (.ref (clsA mg "NoRow")):=⟨_,T.m_NoRow,rfl⟩
 have gNoMark:Gc mg "NoMark" (.ref (clsA mg "NoMark")):=⟨_,T.m_NoMark,rfl⟩
 have gNoSize:Gc mg "NoSize" (.ref (clsA mg "NoSize")):=⟨_,T.m_NoSize,rfl⟩
 have gNoLine:Gc mg "NoLine" (.ref (clsA mg "NoLine")):=⟨_,T.m_NoLine,rfl⟩
 have gNoBook:Gc mg "NoBook" (.ref (clsA mg "NoBook")):=⟨_,T.m_NoBook,rfl⟩
 have gNoSieve:Gc mg "NoSieve" (.ref (clsA mg "NoSieve")):=⟨_,T.m_NoSieve,rfl⟩
 have gTwice:Gc mg "Twice" (.ref (clsA mg "Twice")):=⟨_,T.m_Twice,rfl⟩
 have gAbsent:Gc mg "Absent" (.ref (clsA mg "Absent")):=⟨_,T.m_Absent,rfl⟩
 have gGone:Gc mg "Gone" (.ref (clsA mg "Gone")):=⟨_,T.m_Gone,rfl⟩
 have gLater:Gc mg "Later" (.ref (clsA mg "Later")):=⟨_,T.m_Later,rfl⟩
 have gNoPage:Gc mg "NoPage" (.ref (clsA mg "NoPage")):=⟨_,T.m_NoPage,rfl⟩
 have gLeafError:Gc mg "LeafError" (.ref (clsA mg "LeafError")):=⟨_,T.m_LeafError,rfl⟩
 refine sxs_cons ?_
 walk_at "s"
 walk_at "ex"
 refine sxs_cons ?_
 walk_at "s"
 walk_at "ex"
 refine sxs_cons ?_
 refine sx_try (λσ c d H'=>∃(n:Nat) (e:Addr),PageBad cs ts n/\n≤2000/\c= .ref (clsA mg "NoPage")/\d.1=some e/\σ=[some (.ref b),some (.ref a),some .non,some .non,none]/\Same H H'/\H' e=some (.xd [("at",.int n)])) rfl rfl (λF pn xo po=>?_) (λσ c d H' hK=>?_)
 .refine sxs_one ?_
  walk_at "s"
  walk_at "ex"
  refine⟨b,cs,a,ts,rfl,hC,hk,hS,ht,λn hb hn e bb H' sm he=>⟨n,e,hb,hn,rfl,rfl,rfl,sm,he⟩,λL p q' us H' hL sm hp hq' hp' hq2 hA=>?_⟩
  refine sxs_nil (sxs_cons (sx_if ?_))
  walk_at "ex"
  refine sxs_one (sx_ret ?_)
  walk_at "ex"
  exact q L p H' hL sm ⟨q',hp',us,hq2,hA.imp λu r z=>by obtain⟨t,l,e,_,_,_,e3,e4⟩:=z;exact⟨t,l,e,e3,e4⟩⟩
 .obtain⟨n,E',hb,hn,rfl,hd,rfl,sm,hE'⟩:=hK
  refine eh_asK nd (by rfl) (by rfl) (by rfl) T.b_LeafError.at_ (by decide) (exm_top T.c_NoPage T.b_LeafError) (λe pn he=>?_)
  rw[hd]
  have hue:(upd H' e (xw e (clsA mg "NoPage") (some E'))) e=some (xw e (clsA mg "NoPage") (some E')):=upd_same
  have hE:(upd H' e (xw e (clsA mg "NoPage") (some E'))) E'=some (.xd [("at",.int n)]):=by rw[upd_ne (ne_of_none hE' he)];exact hE'
  have smu:Same H (upd H' e (xw e (clsA mg "NoPage") (some E'))):=sm.trans (Same.upd he)
  generalize upd H' e (xw e (clsA mg "NoPage") (some E'))=Hu at hue hE smu⊢
  have hE2:∀{Hx:Hp},Same Hu Hx->∀E2,some E'=some E2->∃fs,Hx E2=some (.xd fs):=λsx E2 z=>by cases z;exact⟨_,sx _ _ hE⟩
  refine sxs_one ?_
  walk_at "s"
  walk_at "ex"
  show SXs _ _ _ [some (.ref b),some (.ref a),some .non,some (.ref e),none] Hu
  refine sxs_cons (sx_if ?_)
  walk_at "ex"
  refine sxs_nil (sxs_cons (sx_if ?_))
  walk_at "ex"
  refine c_isX T.c_NoPage.attr hue (hE2 (Same.refl _)) (λu z=>z) (kit_self T.c_NoPage) ?_
  walk_at "ex"
  refine ty_ve (by rfl) n2 ?_
  walk_at "ex"
  refine c_isX T.c_NoPage.attr hue (hE2 (Same.refl _)) (u:=.type "ValueError") (λu z=>z) (kit_ve T.c_NoPage) ?_
  walk_at "ex"
  refine sxs_nil (sxs_cons (sx_if ?_))
  walk_at "ex"
  refine⟨by show 7≤sizeLine;omega,λp2 hp2=>?_⟩
  have s2:Same Hu (upd Hu p2 (.tup [V.ref (clsA mg "NoColumns"),V.ref (clsA mg "NoValue"),V.ref (clsA mg "NoOrder"),V.ref (clsA mg "NoRow"),V.ref (clsA mg "NoMark"),V.ref (clsA mg "NoSize"),V.ref (clsA mg "NoLine")])):=Same.upd hp2
  have e2:(upd Hu p2 (.tup [V.ref (clsA mg "NoColumns"),V.ref (clsA mg "NoValue"),V.ref (clsA mg "NoOrder"),V.ref (clsA mg "NoRow"),V.ref (clsA mg "NoMark"),V.ref (clsA mg "NoSize"),V.ref (clsA mg "NoLine")])) p2=some (.tup [V.ref (clsA mg "NoColumns"),V.ref (clsA mg "NoValue"),V.ref (clsA mg "NoOrder"),V.ref (clsA mg "NoRow"),V.ref (clsA mg "NoMark"),V.ref (clsA mg "NoSize"),V.ref (clsA mg "NoLine")]):=upd_same
  generalize upd Hu p2 (.tup [V.ref (clsA mg "NoColumns"),V.ref (clsA mg "NoValue"),V.ref (clsA mg "NoOrder"),V.ref (clsA mg "NoRow"),V.ref (clsA mg "NoMark"),V.ref (clsA mg "NoSize"),V.ref (clsA mg "NoLine")])=H2 at s2 e2⊢
  walk_at "ex"
  refine c_isXn T.c_NoPage.attr (s2 _ _ hue) (hE2 s2) e2 (vals_refs ((["NoColumns","NoValue","NoOrder","NoRow","NoMark","NoSize","NoLine"]:List Str).map (clsA mg))) (no_seven T) ?_
  walk_at "ex"
  refine sxs_nil (sxs_cons (sx_if ?_))
  walk_at "ex"
  refine⟨by show 6≤sizeLine;omega,λp3 hp3=>?_⟩
  have s3:Same H2 (upd H2 p3 (.tup [V.ref (clsA mg "NoBook"),V.ref (clsA mg "NoSieve"),V.ref (clsA mg "Twice"),V.ref (clsA mg "Absent"),V.ref (clsA mg "Gone"),V.ref (clsA mg "Later")])):=Same.upd hp3
  have e3:(upd H2 p3 (.tup [V.ref (clsA mg "NoBook"),V.ref (clsA mg "NoSieve"),V.ref (clsA mg "Twice"),V.ref (clsA mg "Absent"),V.ref (clsA mg "Gone"),V.ref (clsA mg "Later")])) p3=some (.tup [V.ref (clsA mg "NoBook"),V.ref (clsA mg "NoSieve"),V.ref (clsA mg "Twice"),V.ref (clsA mg "Absent"),V.ref (clsA mg "Gone"),V.ref (clsA mg "Later")]):=upd_same
  generalize upd H2 p3 (.tup [V.ref (clsA mg "NoBook"),V.ref (clsA mg "NoSieve"),V.ref (clsA mg "Twice"),V.ref (clsA mg "Absent"),V.ref (clsA mg "Gone"),V.ref (clsA mg "Later")])=H3 at s3 e3⊢
  have s23:=s2.trans s3
  walk_at "ex"
  refine c_isXn T.c_NoPage.attr (s23 _ _ hue) (hE2 s23) e3 (vals_refs ((["NoBook","NoSieve","Twice","Absent","Gone","Later"]:List Str).map (clsA mg))) (no_six T) ?_
  walk_at "ex"
  refine sxs_nil (sxs_one (sx_ret ?_))
  walk_at "ex"
  refine ev_xfld (e:=e) (C:=clsA mg "NoPage") (E':=E') (v:=.int n) (fs:=[("at",.int n)]) (by rfl) T.c_NoPage.attr T.f_NoPage (λu z=>by obtain⟨t,rfl⟩:=z;rfl) ?_
  walk_at "e"
  refine⟨rfl,s23 _ _ hue,s23 _ _ hE,rfl,?_⟩
  walk_at "ex"
  refine⟨by show 2≤sizeLine;omega,λp4 hp4=>?_⟩
  exact bad n p4 _ hb ((smu.trans s23).trans (Same.upd hp4)) upd_same
end
end K71
namespace K71
open PySem L2 PyProof.Rows My Vl Lw
section
variable{P:Program}{w:World}{K:PySem.W.Frag}{mg:Str->Option Value}{base:Heap}
theorem numT_len{i:Int}(h:i.natAbs<10^18):(numT i).length≤19:=word_int_len (k:=18) (by decide) h
theorem figN_num{i m:Int}(h0:0≤i)(h:i≤m):figN (numT i).cps.toList m=some i:=by
 obtain⟨n,rfl⟩:=Int.eq_ofNat_of_zero_le h0
 obtain⟨a,b⟩:=num_fig n
 unfold figN
 rw[a,b,if_pos ⟨rfl,h⟩]
theorem of_codes:(Str.ofString " of ").cps.toList=32::(Str.ofString "of").cps.toList++[32]/\(Str.ofString " at ").cps.toList=32::(Str.ofString "at").cps.toList++[32]:=by decide+kernel
theorem head_join(L:Leaf):headT L=Str.join " " [numT L.ahead++Str.ofString "+"++numT ((L.rows.length:Nat):Int),Str.ofString "of",numT L.many,Str.ofString "at",numT L.moment]:=by
 show headT L=(numT L.ahead++Str.ofString "+"++numT ((L.rows.length:Nat):Int))++Str.ofString " "++(Str.ofString "of"++Str.ofString " "++(numT L.many++Str.ofString " "++(Str.ofString "at"++Str.ofString " "++numT L.moment)))
 unfold headT
 apply str_ext
 simp only[cps_app,of_codes.1,of_codes.2,blank_code,List.append_assoc,List.cons_append,List.nil_append]
theorem numT_free{i:Int}(h:0≤i):∀c∈(numT i).cps.toList,48≤c/\c≤57:=by
 obtain⟨n,rfl⟩:=Int.eq_ofNat_of_zero_le h
 exact num_digits n
theorem plus_code:(Str.ofString "+").cps.toList=[43]:=by decide+kernel
theorem head_cut{L:Leaf}(h1:0≤L.ahead)(h2:0≤L.many)(h3:0≤L.moment):cutT 32 (headT L)=[numT L.ahead++Str.ofString "+"++numT ((L.rows.length:Nat):Int),Str.ofString "of",numT L.many,Str.ofString "at",numT L.moment]:=by
 rw[head_join]
 refine cut_join (by simp) λp hp=>?_
 simp only[List.mem_cons,List.not_mem_nil,or_false]at hp
 have hn:∀i:Int,0≤i->32∉(numT i).cps.toList:=λi hi h=>by
  have :=numT_free hi 32 h
  omega
 rcases hp with e |e |e |e |e
 .rw[e,cps_app,cps_app,plus_code]
  intro h
  simp only[List.mem_append,List.mem_singleton]at h
  rcases h with(h |h) |h
  .exact hn _ h1 h
  .omega
  .exact hn _ (by omega) h
 .rw[e];decide+kernel
 .rw[e];exact hn _ h2
 .rw[e];decide+kernel
 .rw[e];exact hn _ h3
theorem plus_cut{i j:Int}(hi:0≤i)(hj:0≤j):cutT 43 (numT i++Str.ofString "+"++numT j)=[numT i,numT j]:=by
 have hn:∀i:Int,0≤i->43∉(numT i).cps.toList:=λi hi h=>by
  have :=numT_free hi 43 h
  omega
 unfold cutT
 rw[cps_app,cps_app,plus_code,List.append_assoc,List.singleton_append,cutAt_app (hn i hi),cutAt_one (hn j hj)]
 rfl
def kinds2(cs:List Col):Prop:=1≤cs.length/\cs.length≤6/\∀c∈cs,c.2="number"\/c.2="text"
theorem kinds2_of{cs:List Col}(h:okCols cs=true):kinds2 cs:=by
 unfold okCols isKind at h
 rw[Bool.and_eq_true,Bool.and_eq_true,decide_eq_true_eq,decide_eq_true_eq,List.all_eq_true]at h
 refine⟨h.1.1.1,h.1.1.2,λc hc=>?_⟩
 have :=h.1.2 c hc
 rw[Bool.and_eq_true,decide_eq_true_eq]at this
 exact this.2
theorem rowW_free{cs:List Col}{r:LRow}(hk:kinds2 cs)(h:goodR cs r):∀p∈rowW r,32∉p.cps.toList/\p.length≤21:=by
 intro p hp
 rcases List.mem_cons.mp hp with e |e
 .rw[e]
  refine⟨λh'=>?_,?_⟩
  .have :=numT_free h.1 32 h'
   omega
  .have :=numT_len (i:=r.1) (by have :=h.1;have :=h.2.1;omega)
   omega
 .rcases List.mem_append.mp e with e |e
  .obtain⟨x,hx,rfl⟩:=List.mem_map.mp e
   obtain⟨c,hc,hv⟩:=h.2.2.mem' x hx
   have :=hv.word (hk.2.2 c hc)
   exact⟨this.2.2.1,this.2.1⟩
  .split at e
   .simp at e
   .have :p=Str.ofString "*":=by simpa using e
    rw[this]
    decide+kernel
theorem back_code:(Str.ofString "back ").cps.toList=[98,97,99,107,32]:=by decide+kernel
theorem forth_code:(Str.ofString "forth ").cps.toList=[102,111,114,116,104,32]:=by decide+kernel
theorem starts_self(w z:Str):Txt.startswith (w++z) w=true:=by
 unfold Txt.startswith
 rw[Bool.and_eq_true,decide_eq_true_eq,StrLaws.subAt_eq,len_app]
 refine⟨by omega,?_⟩
 rw[List.drop_zero,cps_app,L2.len_list w,List.take_left']
 .simp
 .rfl
theorem cut_behind(w z:Str):cutS (w++z) (some (w.length:Nat)) none=z:=by
 apply str_ext
 rw[cutS_from,cps_app,L2.len_list w,List.drop_left']
 rfl
theorem app_ne{w z:Str}(h:1≤z.length):¬w++z=w:=λe=>by
 have :=congrArg Str.length e
 rw[len_app]at this
 omega
theorem not_back(z:Str):Txt.startswith (Str.ofString "forth "++z) (Str.ofString "back ")=false:=by
 rw[Bool.eq_false_iff]
 intro h
 unfold Txt.startswith at h
 have l5:(Str.ofString "back ").length=5:=by decide+kernel
 rw[Bool.and_eq_true,StrLaws.subAt_eq,cps_app,forth_code,back_code,l5]at h
 simp at h
theorem markB_hit{w z:Str}{ts:List Str}{i:Nat}(h:ts[i]? =some (w++z))(hz:1≤z.length):markB w ts i= .str z:=by
 unfold markB
 rw[h]
 show(if _ then _ else _)=_
 rw[if_pos ⟨starts_self w z,app_ne hz⟩,cut_behind]
theorem page_get{L:Leaf}{i:Nat}{r:LRow}(h:L.rows[i]? =some r):(pageT L)[i+1]? =some (rowT r):=by
 unfold pageT
 rw[List.getElem?_cons_succ,List.getElem?_append_left (by rw[List.length_map];exact(List.getElem?_eq_some_iff.mp h).1),List.getElem?_map,h]
 rfl
theorem page_tail(L:Leaf)(j:Nat):(pageT L)[L.rows.length+1+j]? =(markL (Str.ofString "back ") L.back++markL (Str.ofString "forth ") L.forth)[j]? :=by
 unfold pageT
 rw[show L.rows.length+1+j=(L.rows.length+j)+1 by omega,List.getElem?_cons_succ,List.getElem?_append_right (by rw[List.length_map];omega),List.length_map]
 congr 1
 omega
theorem page_len(L:Leaf):(pageT L).length=L.rows.length+1+(markL (Str.ofString "back ") L.back).length+(markL (Str.ofString "forth ") L.forth).length:=by
 unfold pageT
 rw[List.length_cons,List.length_append,List.length_map,List.length_append]
 omega
end
end K71
namespace K71
open PySem L2 PyProof.Rows My Vl Lw
section
variable{P:Program}{w:World}{K:PySem.W.Frag}{mg:Str->Option Value}{base:Heap}
theorem getLast_snoc{α:Type}(l:List α)(x:α):(l++[x]).getLast? =some x:=by simp
theorem row_good{cs:List Col}(hk:kinds2 cs){r:LRow}(h:goodR cs r):rowF cs (rowT r)=some r:=by
 obtain⟨ri,xs,un⟩:=r
 have hfree:=rowW_free hk h
 obtain⟨hr0,hr1,hall⟩:=h
 simp only at hr0 hr1 hall
 have hxl:=hall.len
 unfold rowF
 have hcut:cutT 32 (rowT (ri,xs,un))=rowW (ri,xs,un):=cut_join (by unfold rowW;simp) λp hp=>(hfree p hp).1
 rw[hcut]
 have hvals:valsF cs (xs.map wordOf)=some xs:=by
  unfold valsF
  rw[if_pos (by rw[List.length_map];exact hxl.symm)]
  refine mapO_some (by rw[List.length_zip,List.length_map];omega) λi x y e1 e2=>?_
  obtain⟨c,z⟩:=x
  rw[List.getElem?_zip_eq_some]at e1
  obtain⟨a1,a2⟩:=e1
  have a2:(xs.map wordOf)[i]? =some z:=a2
  rw[List.getElem?_map,e2]at a2
  cases a2
  obtain⟨y2,b1,b2⟩:=hall.get a1
  rw[e2]at b1
  cases b1
  exact(b2.word (hk.2.2 c (List.mem_of_getElem? a1))).1
 unfold rowW1
 rw[show(rowW (ri,xs,un)).getD 0 (Str.ofString "")=numT ri from rfl,figN_num hr0 hr1]
 cases un with
 |false=>
  have e:rowW (ri,xs,false)=(numT ri::xs.map wordOf)++[starS]:=rfl
  have hlast:(rowW (ri,xs,false)).getLast? =some starS:=by rw[e];exact getLast_snoc _ _
  have hrest:restW (rowW (ri,xs,false))=xs.map wordOf:=by
   unfold restW
   rw[if_pos hlast,e]
   show((xs.map wordOf)++[starS]).dropLast=_
   rw[List.dropLast_concat]
  show(match valsF cs (restW (rowW (ri,xs,false)))with |none=>none |some ys=>some (ri,ys, !decide ((rowW (ri,xs,false)).getLast? =some starS)))=_
  rw[hrest,hvals,hlast,decide_eq_true rfl]
  rfl
 |true=>
  have e:rowW (ri,xs,true)=numT ri::xs.map wordOf:=by
   show numT ri::(xs.map wordOf++[])=_
   rw[List.append_nil]
  have hx0:xs≠[]:=λe=>by
   have h1:=hk.1
   rw[hxl,e]at h1
   exact absurd h1 (by decide)
  obtain⟨ys,x,rfl⟩:∃ys x,xs=ys++[x]:=⟨xs.dropLast,xs.getLast hx0,(List.dropLast_concat_getLast hx0).symm⟩
  obtain⟨c,hc,hv⟩:=hall.mem' x (by simp)
  have hw:=hv.word (hk.2.2 c hc)
  have hlast:¬(rowW (ri,ys++[x],true)).getLast? =some starS:=by
   rw[e,List.map_append,show numT ri::(ys.map wordOf++[x].map wordOf)=(numT ri::ys.map wordOf)++[wordOf x]from rfl,getLast_snoc]
   exact λz=>hw.2.2.2.1 (Option.some.inj z)
  have hrest:restW (rowW (ri,ys++[x],true))=(ys++[x]).map wordOf:=by
   unfold restW
   rw[if_neg hlast,e]
   rfl
  show(match valsF cs (restW (rowW (ri,ys++[x],true)))with |none=>none |some zs=>some (ri,zs, !decide ((rowW (ri,ys++[x],true)).getLast? =some starS)))=_
  rw[hrest,hvals,decide_eq_false hlast]
  rfl
theorem head_good{cs:List Col}{L:Leaf}(h:goodF cs L):headF (pageT L)=some [L.ahead,((L.rows.length:Nat):Int),L.many,L.moment]:=by
 have hf:=h.few
 unfold headF
 rw[show(pageT L)[0]? =some (headT L)from rfl]
 show headW (cutT 32 (headT L))=_
 rw[head_cut h.ahead.1 h.many.1 h.moment.1]
 unfold headW
 have pc:cutT 43 (numT L.ahead++Str.ofString "+"++numT ((L.rows.length:Nat):Int))=[numT L.ahead,numT ((L.rows.length:Nat):Int)]:=plus_cut h.ahead.1 (by omega)
 rw[if_pos ⟨rfl,by show(cutT 43 (numT L.ahead++Str.ofString "+"++numT ((L.rows.length:Nat):Int))).length=2;rw[pc];rfl,rfl,rfl⟩]
 show mapO _ (cutT 43 (numT L.ahead++Str.ofString "+"++numT ((L.rows.length:Nat):Int))++[numT L.many,numT L.moment])=_
 rw[pc]
 refine mapO_some rfl λi x y e1 e2=>?_
 match i,e1,e2 with
 |0,e1,e2=>cases e1;cases e2;exact figN_num h.ahead.1 h.ahead.2
 |1,e1,e2=>cases e1;cases e2;exact figN_num (by omega) (by omega)
 |2,e1,e2=>cases e1;cases e2;exact figN_num h.many.1 h.many.2
 |3,e1,e2=>cases e1;cases e2;exact figN_num h.moment.1 h.moment.2
 |_+4,e1,_=>cases e1
theorem page_good{cs:List Col}(hk:kinds2 cs){L:Leaf}(h:goodF cs L):PageOk cs (pageT L) L:=by
 have hpl:=page_len L
 have hpt:=page_tail L
 have h0:=hpt 0
 rw[Nat.add_zero]at h0
 have hb:markB backS (pageT L) (L.rows.length+1)=L.back:=by
  rcases h.back with e |⟨z,e,hz1,hz2⟩
  .rw[e]
   unfold markB
   rw[h0,e]
   rcases h.forth with h2 |⟨y,h2,hy1,hy2⟩
   .rw[h2];rfl
   .rw[h2]
    have e5:Txt.startswith (Str.ofString "forth "++y) backS=false:=not_back y
    exact if_neg λhh=>by rw[e5]at hh;cases hh.1
  .rw[e]
   exact markB_hit (by rw[h0,e];rfl) hz1
 have hba:backAt (pageT L) (L.rows.length+1)=L.rows.length+1+(markL (Str.ofString "back ") L.back).length:=by
  unfold backAt
  rw[hb]
  rcases h.back with e |⟨z,e,hz1,hz2⟩
  .rw[e];rfl
  .rw[e,if_neg (λz=>by cases z)];rfl
 have h1:=hpt (markL (Str.ofString "back ") L.back).length
 rw[<-hba,List.getElem?_append_right (Nat.le_refl _),Nat.sub_self]at h1
 have hf:markB forthS (pageT L) (backAt (pageT L) (L.rows.length+1))=L.forth:=by
  rcases h.forth with e |⟨z,e,hz1,hz2⟩
  .rw[e]
   unfold markB
   rw[h1,e]
   rfl
  .rw[e]
   exact markB_hit (by rw[h1,e];rfl) hz1
 refine⟨head_good h,⟨rfl,λj r hj=>⟨rowT r,page_get hj,row_good hk (h.rows r (List.mem_of_getElem? hj))⟩⟩,?_,hb.symm,hf.symm⟩
 unfold endAt
 rw[hf]
 rcases h.forth with e |⟨z,e,hz1,hz2⟩
 .rw[if_pos e,hpl,hba,e]
  show ¬_<_+0
  omega
 .rw[e,if_neg (λz=>by cases z),hpl,hba,e]
  show ¬_+1<_+1
  omega
def okTs(n B:Nat)(ts:List Str):Prop:=ts.length≤n/\∀z∈ts,okS B z
theorem okTs.txts{n B:Nat}{ts:List Str}(h:okTs n B ts)(hn:n≤1000)(hB:B≤2000):txts ts:=⟨by have :=h.1;omega,λz hz=>by have :=(h.2 z hz).1;omega⟩
theorem okS.num{i:Int}(h0:0≤i)(h1:i≤9999999999):okS 18 (numT i):=⟨by
 have :=word_int_len (i:=i) (k:=17) (by decide) (by omega)
 show(Str.ofString (toString i)).length≤18
 omega,λc hc=>by have :=numT_free h0 c hc;omega⟩
theorem okS.join{B:Nat}:∀{ps:List Str},(∀p∈ps,okS B p)->okS (ps.length*(B+1)) (Str.join " " ps)
 |[],_=>okS.mono (n:=0) ⟨by decide+kernel,by decide+kernel⟩ (Nat.zero_le _)
 |[p],h=>(h p (by simp)).mono (by simp)
 |p::q::r,h=>by
  have ih:=okS.join (ps:=q::r) λx hx=>h x (by simp[hx])
  have hp:=h p (by simp)
  have eb:okS 1 (Str.ofString " "):=⟨by decide+kernel,by decide+kernel⟩
  have e:Str.join " " (p::q::r)=p++Str.ofString " "++Str.join " " (q::r):=rfl
  rw[e]
  refine((hp.app eb).app ih).mono ?_
  simp only[List.length_cons,Nat.add_mul]
  omega
theorem page_ok{cs:List Col}(hk:kinds2 cs){L:Leaf}(h:goodF cs L)(h4:L.rows.length≤4)(hb:∀z,L.back= .str z->okS 100 z)(hf:∀z,L.forth= .str z->okS 100 z):okTs 7 250 (pageT L):=by
 have hpl:=page_len L
 have m1:∀(w:Str) (v:V),(markL w v).length≤1:=λw v=>by
  cases v<;>simp[markL]
 have l1:=m1 (Str.ofString "back ") L.back
 have l2:=m1 (Str.ofString "forth ") L.forth
 refine⟨by omega,λz hz=>?_⟩
 have hz':z=headT L\/z∈L.rows.map rowT\/z∈markL (Str.ofString "back ") L.back\/z∈markL (Str.ofString "forth ") L.forth:=by
  unfold pageT at hz
  simpa using hz
 rcases hz' with e |hz |hz |hz
 .rw[e,head_join]
  have a1:=okS.num h.ahead.1 h.ahead.2
  have a2:=okS.num (i:=((L.rows.length:Nat):Int)) (by omega) (by omega)
  have a3:=okS.num h.many.1 h.many.2
  have a4:=okS.num h.moment.1 h.moment.2
  have ep:okS 1 (Str.ofString "+"):=⟨by decide+kernel,by decide+kernel⟩
  have eo:okS 40 (Str.ofString "of"):=⟨by decide+kernel,by decide+kernel⟩
  have et:okS 40 (Str.ofString "at"):=⟨by decide+kernel,by decide+kernel⟩
  refine(okS.join (B:=40) (λp hp=>?_)).mono (by show 5*41≤250;decide)
  simp only[List.mem_cons,List.not_mem_nil,or_false]at hp
  rcases hp with e |e |e |e |e
  .rw[e];exact((a1.app ep).app a2).mono (by decide)
  .rw[e];exact eo
  .rw[e];exact a3.mono (by decide)
  .rw[e];exact et
  .rw[e];exact a4.mono (by decide)
 .obtain⟨r,hr,rfl⟩:=List.mem_map.mp hz
  have hg:=h.rows r hr
  have hlen:(rowW r).length≤8:=by
   have :=hg.2.2.len
   have h6:=hk.2.1
   unfold rowW
   rw[List.length_cons,List.length_append,List.length_map]
   split <;>simp <;>omega
  refine(okS.join (B:=21) (ps:=rowW r) (λp hp=>?_)).mono (by
   have :(rowW r).length*(21+1)≤8*22:=Nat.mul_le_mul_right _ hlen
   omega)
  have hp':p=numT r.1\/p∈r.2.1.map wordOf\/p=Str.ofString "*":=by
   unfold rowW at hp
   rcases List.mem_cons.mp hp with e |hp
   .exact .inl e
   .rcases List.mem_append.mp hp with hp |hp
    .exact .inr (.inl hp)
    .split at hp
     .simp at hp
     .exact .inr (.inr (by simpa using hp))
  rcases hp' with e |hp |e
  .rw[e];exact(okS.num hg.1 (by have :=hg.2.1;omega)).mono (by decide)
  .obtain⟨x,hx,rfl⟩:=List.mem_map.mp hp
   obtain⟨c,hc,hv⟩:=hg.2.2.mem' x hx
   have hw:=hv.word (hk.2.2 c hc)
   exact⟨hw.2.1,hw.2.2.2.2⟩
  .rw[e];exact⟨by decide+kernel,by decide+kernel⟩
 .cases e:L.back with
  |str z'=>
   rw[e]at hz
   have :z=Str.ofString "back "++z':=by simpa [markL]using hz
   rw[this]
   have ep:okS 5 (Str.ofString "back "):=⟨by decide+kernel,by decide+kernel⟩
   exact(ep.app (hb z' e)).mono (by decide)
  |_=>rw[e]at hz;simp[markL]at hz
 .cases e:L.forth with
  |str z'=>
   rw[e]at hz
   have :z=Str.ofString "forth "++z':=by simpa [markL]using hz
   rw[this]
   have ep:okS 6 (Str.ofString "forth "):=⟨by decide+kernel,by decide+kernel⟩
   exact(ep.app (hf z' e)).mono (by decide)
  |_=>rw[e]at hz;simp[markL]at hz
end
end K71
namespace K71
open PySem L2 PyProof.Rows My Vl Lw
section
variable{P:Program}{w:World}{K:PySem.W.Frag}{mg:Str->Option Value}{base:Heap}
def spWord2:Sp:=λvs H Q _=>∃(v:V) (kd:Str),vs=[v]/\valK kd v/\Q (.str (wordOf v)) H
theorem d__law_word(T:Txt K mg):Def P w K mg base true 1 "_law_word" ["_law_value_here"] spWord2:=by
 refine df__law_word T (λvs H Q E h=>by obtain⟨v,kd,rfl,_⟩:=h;rfl) (λf cdv A outer s H vs Q E hr h=>?_)
 obtain⟨v,kd,rfl,hv,q⟩:=h
 have n1:=T.n_isinstance
 have n2:=T.n_str
 have n3:=T.n_int
 have hsz:sizeLine=16777216:=sizeLine_eq
 have la:(Str.ofString "'").length=1:=by decide+kernel
 refine sxs_cons (sx_if ?_)
 walk_at "ex"
 rcases hv with rfl |⟨_,i,rfl,h1,h2⟩ |⟨_,z,rfl,hl,_⟩
 .refine ifD (λ_=>?_) (λh=>absurd rfl h)
  refine sxs_one (sx_ret ?_)
  walk_at "ex"
  exact q
 .refine ifD (λh=>nomatch h) (λ_=>?_)
  refine sxs_nil (sxs_one (sx_ret ?_))
  walk_at "ex"
  refine c_strI (log_ok ?_) ?_
  .have :(10:Nat)^60>1000000000000000000:=by decide
   omega
  exact q
 .refine ifD (λh=>nomatch h) (λ_=>?_)
  refine sxs_nil (sxs_one (sx_ret ?_))
  walk_at "ex"
  refine o_addS (by omega) ?_
  exact q
end
end K71
namespace K71
open PySem L2 PyProof.Rows My Vl Lw
section
variable{P:Program}{w:World}{K:PySem.W.Frag}{mg:Str->Option Value}{base:Heap}
def backT7:Str:=Str.ofString "l/0/+a/all/<3 'a.0001"
def forthT7:Str:=Str.ofString "l/0/+a/all/>3 'a.0002"
def rows4:List Int:=[3,0,7,1000000000]
def spMade7(K:PySem.W.Frag):Sp:=λvs H Q _=>∃(a:Addr) (ns:List Int) (b:Addr) (cs:List Col),vs=[.ref a,.ref b]/\SqL K H a (ns.map V.int)/\ns.length≤63/\Cols H b cs/\kinds2 cs/\∀p L H',Same H H'->H p=none->H' p=some (.lst ((pageT L).map V.str))->goodF cs L->okTs 7 250 (pageT L)->Q (.ref p) H'
theorem sum_le{B:Nat}:∀{ps:List Str},(∀p∈ps,p.length≤B)->(ps.map (·.length)).sum≤ps.length*B
 |[],_=>by simp
 |p::r,h=>by
  have ih:=sum_le (ps:=r) λx hx=>h x (by simp[hx])
  have :=h p (by simp)
  simp only[List.map_cons,List.sum_cons,List.length_cons,Nat.succ_mul]
  omega
theorem d__law_made(T:Txt K mg):Def P w K mg base true 4 "_law_made" ["_law_script","_law_columns_here"] (spMade7 K):=by
 refine df__law_made T (λvs H Q E h=>by obtain⟨a,ns,b,cs,rfl,_⟩:=h;rfl) (λf cdv A outer s H vs Q E hr h=>?_)
 obtain⟨a,ns,b,cs,rfl,hS,hl,hC,hk2,q⟩:=h
 have nd:=sc__law_made.nd
 have n1:=T.n_range
 have n2:=T.n_str
 have hsz:sizeLine=16777216:=sizeLine_eq
 have lb:(Str.ofString " ").length=1:=by decide+kernel
 have c6:=hk2.2.1
 have ndc:(["_law_k","_law_script"]:List Str).Nodup:=by decide+kernel
 have nd1:(["_law_value_here"]:List Str).Nodup:=by decide+kernel
 have D1:Def P w K mg base true 1 "_law_draw" ["_law_script","_law_k","_law_many"] (spDraw K):=d__law_draw T
 have D2:Def P w K mg base true 3 "_law_values" ["_law_script","_law_k","_law_columns_here"] (spValues2 K):=d__law_values T
 have D3:Def P w K mg base true 1 "_law_word" ["_law_value_here"] spWord2:=d__law_word T
 refine sxs_cons ?_
 walk_at "s"
 walk_at "ex"
 refine⟨a,ns,15,5,rfl,hS,hl,by decide,by decide,by decide,?_⟩
 have g0:=drawF_nn ns 15 (m:=5) (by decide)
 have g1:=drawF_lt ns 15 (m:=5) (by decide)
 generalize drawF ns 15 5=mv at g0 g1⊢
 obtain⟨many,rfl⟩:=Int.eq_ofNat_of_zero_le g0
 have hm4:many≤4:=by omega
 refine sxs_cons ?_
 refine sx_compRh ["_law_k","_law_script"] (σ':=[none,some (.ref a)]) (by rfl) (by rfl) (by rfl) (compSc_of (defScope s__law_made) (by rfl) (by rfl) (by decide+kernel)) nd (by rfl) (by rfl) (by rfl) n1 (by rfl) ?_
 walk_at "ex"
 refine⟨by decide,by omega,λτ=>∃o1,τ=[o1,some (.ref a)],λE2 i u H'=>∃n,u= .int n/\0≤n/\n<40,⟨none,rfl⟩,λE2 i u H2 H3 ys _ _ p=>p,λfp E2 C s3 H0 i τ x H4 H3 hE2 hi hτ sm4 hys hG=>?_,λnp H1 ys hnp hyl hyx enp sm1=>?_⟩
 .obtain⟨o1,rfl⟩:=hτ
  obtain⟨rfl,rfl⟩:=hG
  have hi3:i<3:=by simpa using hi
  refine eg_name ndc (by rfl) (.inl rfl) (.inr rfl) ?_
  walk_at "ex"
  refine⟨a,ns,_,40,rfl,sm4.seq hS,hl,by omega,by omega,by decide,?_⟩
  exact⟨⟨_,rfl⟩,⟨_,rfl,drawF_nn ns _ (by decide),drawF_lt ns _ (by decide)⟩,Same.refl _⟩
 have hy3:ys.length=3:=by rw[hyl];rfl
 obtain⟨x0,x1,x2,rfl⟩:∃x0 x1 x2,ys=[x0,x1,x2]:=by
  match ys,hy3 with
  |[a,b,c],_=>exact⟨a,b,c,rfl⟩
 obtain⟨m0,rfl,p0,q0⟩:=hyx 0 x0 rfl
 obtain⟨m1,rfl,p1,q1⟩:=hyx 1 x1 rfl
 obtain⟨m2,rfl,p2,q2⟩:=hyx 2 x2 rfl
 have SN:SqL K H1 np [.int m0,.int m1,.int m2]:=SqL.of enp
 have lg:∀i:Int,0≤i->i<10000000000->i.natAbs.log2<1920:=λi h0 h1=>log_ok (by
  have :(10:Nat)^60>10000000000:=by decide
  omega)
 have nl:∀i:Int,0≤i->i≤9999999999->(numT i).length≤18:=λi h0 h1=>(okS.num h0 h1).1
 have k0:=nl m0 p0 (by omega)
 have k1:=nl m1 p1 (by omega)
 have k2:=nl m2 p2 (by omega)
 have km:=nl (many:Int) (by omega) (by omega)
 have lp:(Str.ofString "+").length=1:=by decide+kernel
 have a1:=len_app (numT m0) (Str.ofString "+")
 have a2:=len_app (numT m0++Str.ofString "+") (numT (many:Int))
 have e2:(Str.ofString "of").length=2:=by decide+kernel
 have e3:(Str.ofString "at").length=2:=by decide+kernel
 refine sxs_cons ?_
 walk_at "s"
 walk_at "ex"
 refine i_list SN (show atI [V.int m0,.int m1,.int m2] 0=some (.int m0)from rfl) ?_
 walk_at "ex"
 refine c_strI (lg m0 p0 (by omega)) ?_
 walk_at "ex"
 refine o_addS (by show(numT m0).length+_≤_;omega) ?_
 walk_at "ex"
 refine c_strI (lg (many:Int) (by omega) (by omega)) ?_
 walk_at "ex"
 refine o_addS (by show(numT m0++Str.ofString "+").length+(numT (many:Int)).length≤_;omega) ?_
 walk_at "ex"
 refine i_list SN (show atI [V.int m0,.int m1,.int m2] 1=some (.int m1)from rfl) ?_
 walk_at "ex"
 refine c_strI (lg m1 p1 (by omega)) ?_
 walk_at "ex"
 refine i_list SN (show atI [V.int m0,.int m1,.int m2] 2=some (.int m2)from rfl) ?_
 walk_at "ex"
 refine c_strI (lg m2 p2 (by omega)) ?_
 walk_at "ex"
 refine⟨by show 5≤sizeLine;omega,λj hj=>?_⟩
 have smj:=Same.upd (H:=H1) (o:=.lst ([numT m0++Str.ofString "+"++numT (many:Int),Str.ofString "of",numT m1,Str.ofString "at",numT m2].map V.str)) hj
 have ej:(upd H1 j (.lst ([numT m0++Str.ofString "+"++numT (many:Int),Str.ofString "of",numT m1,Str.ofString "at",numT m2].map V.str))) j=some (.lst ([numT m0++Str.ofString "+"++numT (many:Int),Str.ofString "of",numT m1,Str.ofString "at",numT m2].map V.str)):=upd_same
 change EA _ _ _ (upd H1 j (.lst ([numT m0++Str.ofString "+"++numT (many:Int),Str.ofString "of",numT m1,Str.ofString "at",numT m2].map V.str))) _
 generalize upd H1 j (.lst ([numT m0++Str.ofString "+"++numT (many:Int),Str.ofString "of",numT m1,Str.ofString "at",numT m2].map V.str))=Hj at smj ej⊢
 walk_at "ex"
 refine m_join (SqL.of ej) (by simp only[List.map_cons,List.map_nil,List.sum_cons,List.sum_nil,List.length_cons,List.length_nil];rw[lb];omega) ?_
 have ehd:∀rows:List LRow,rows.length=many->∀bk fo:V,Str.join (Str.ofString " ") [numT m0++Str.ofString "+"++numT (many:Int),Str.ofString "of",numT m1,Str.ofString "at",numT m2]=headT ⟨rows,bk,fo,m1,m0,m2⟩:=λrows hr bk fo=>by
  rw[head_join]
  show _=Str.join " " [numT m0++Str.ofString "+"++numT ((rows.length:Nat):Int),_,_,_,_]
  rw[hr]
 generalize Str.join (Str.ofString " ") [numT m0++Str.ofString "+"++numT (many:Int),Str.ofString "of",numT m1,Str.ofString "at",numT m2]=hz at ehd⊢
 walk_at "ex"
 refine⟨by show 1≤sizeLine;omega,λy hy=>?_⟩
 have hyn:H y=none:=(sm1.trans smj).free hy
 have sm3:Same H (upd Hj y (.lst [.str hz])):=(sm1.trans smj).trans (Same.upd hy)
 have ey:(upd Hj y (.lst [.str hz])) y=some (.lst ([hz].map V.str)):=upd_same
 have enp3:(upd Hj y (.lst [.str hz])) np=some (.lst [.int m0,.int m1,.int m2]):=(smj.trans (Same.upd hy)) _ _ enp
 generalize upd Hj y (.lst [.str hz])=H3 at sm3 ey enp3⊢
 refine sxs_cons (sx_forR (by walk_at "po") (by rfl) (by rfl) n1 (by rfl) ?_)
 walk_at "ex"
 refine⟨by omega,by omega,λi σ H'=>(∃o5 o6,σ=[some (.ref a),some (.ref b),some (.int (many:Nat)),some (.ref np),some (.ref y),o5,o6])/\Same H H'/\∃rows:List LRow,rows.length=i/\(∀r∈rows,goodR cs r)/\H' y=some (.lst ((hz::rows.map rowT).map V.str)),
  ⟨⟨none,none,rfl⟩,sm3,[],rfl,by simp,ey⟩,λi σ H' hi hP=>?_,λσ H' hP=>?_⟩
 .obtain⟨⟨o5,o6,rfl⟩,sm,rows,hrl,hrg,ey'⟩:=hP
  have hi4:i<4:=by omega
  refine eg_name nd (by rfl) (.inl rfl) (.inl rfl) ?_
  have fin:∀(ri:Int) (xs:List V) (un:Bool) (ws:List Str) (k:Addr) (H1:Hp) (D:Ends),goodR cs (ri,xs,un)->Same H H1->H1 k=some (.lst (ws.map V.str))->ws=rowW (ri,xs,un)->H1 y=some (.lst ((hz::rows.map rowT).map V.str))->(∀o5 o6 H2,Same H H2->H2 y=some (.lst ((hz::(rows++[(ri,xs,un)]).map rowT).map V.str))->D.nx [some (.ref a),some (.ref b),some (.int (many:Nat)),some (.ref np),some (.ref y),o5,o6] H2)->SXs (CxF true P w K mg base N__law_made "_law_made" (defScope s__law_made) f cdv A outer s H E) ((forB ((defBody s__law_made).drop 3)).drop 3) D [some (.ref a),some (.ref b),some (.int (many:Nat)),some (.ref np),some (.ref y),some (.int (i:Nat)),some (.ref k)] H1:=by
   intro ri xs un ws k H1 D hg sm1 hk hws hy1 hD
   have hlen:ws.length≤8:=by
    have :=hg.2.2.len
    rw[hws]
    unfold rowW
    rw[List.length_cons,List.length_append,List.length_map]
    simp only at this⊢
    split <;>simp <;>omega
   have hall:∀z∈ws,z.length≤21:=λz hz=>by
    rw[hws]at hz
    exact(rowW_free hk2 hg z hz).2
   have hsum:=sum_le hall
   have hs2:ws.length*21≤8*21:=Nat.mul_le_mul_right _ hlen
   refine sxs_one (sx_expr (by rfl) (ev_bm PySem.F.plainAttrs_list PySem.F.slot_list_append PySem.F.type_list_append (by rfl) (by rfl) (by rfl) (by rfl) (by rfl) ?_))
   walk_at "e"
   refine⟨.inl ⟨rfl,_,SqL.of hy1⟩,?_⟩
   walk_at "ex"
   refine m_join (SqL.of hk) (by rw[lb];omega) ?_
   walk_at "ex"
   refine mt_by mt_append ⟨y,_,_,rfl,rfl,hy1,by rw[List.length_map,List.length_cons,List.length_map];omega,?_⟩
   refine hD _ _ _ (λd o e=>?_) ?_
   .rw[upd_ne (ne_of_none e hyn)]
    exact sm1 _ _ e
   .rw[upd_same,List.map_append,List.map_cons,List.map_cons,List.map_append,hws]
    rfl
  refine sxs_cons ?_
  walk_at "s"
  walk_at "ex"
  refine⟨by show 4≤sizeLine;omega,λq4 hq4=>?_⟩
  have sm4:Same H' (upd H' q4 (.lst (rows4.map V.int))):=Same.upd hq4
  have e4:(upd H' q4 (.lst (rows4.map V.int))) q4=some (.lst (rows4.map V.int)):=upd_same
  change EV _ _ _ (upd H' q4 (.lst (rows4.map V.int))) _
  generalize upd H' q4 (.lst (rows4.map V.int))=H4 at sm4 e4⊢
  walk_at "ex"
  refine⟨a,ns,_,4,rfl,(sm.trans sm4).seq hS,hl,by omega,by omega,by decide,?_⟩
  have j0:=drawF_nn ns (300+(i:Int)) (m:=4) (by decide)
  have j1:=drawF_lt ns (300+(i:Int)) (m:=4) (by decide)
  generalize drawF ns (300+(i:Int)) 4=jv at j0 j1⊢
  obtain⟨jj,rfl⟩:=Int.eq_ofNat_of_zero_le j0
  have hjj:jj<rows4.length:=by show jj<4;omega
  refine i_list (SqL.of e4) (v:=.int rows4[jj]) (atI_nat (by rw[List.getElem?_map,List.getElem?_eq_getElem hjj];rfl)) ?_
  have hrow:rows4[jj]∈rows4:=List.getElem_mem hjj
  have hrb:∀x∈rows4,0≤x/\x≤1000000000:=by decide
  have hrb:=hrb _ hrow
  generalize rows4[jj]=ri at hrow hrb⊢
  walk_at "ex"
  refine c_strI (lg ri hrb.1 (by omega)) ?_
  walk_at "ex"
  refine⟨by show 1≤sizeLine;omega,λk1 hk1=>?_⟩
  have sm5:Same H4 (upd H4 k1 (.lst [.str (numT ri)])):=Same.upd hk1
  have ek:(upd H4 k1 (.lst [.str (numT ri)])) k1=some (.lst [.str (numT ri)]):=upd_same
  change SXs _ _ _ _ (upd H4 k1 (.lst [.str (numT ri)]))
  generalize upd H4 k1 (.lst [.str (numT ri)])=H5 at sm5 ek⊢
  have sm05:=(sm.trans sm4).trans sm5
  have ey5:=(sm4.trans sm5) _ _ ey'
  refine sxs_cons ?_
  walk_at "s"
  walk_at "ex"
  refine ev_compL ["_law_value_here"] (σ':=[none]) (by rfl) (by rfl) (compSc_of (defScope s__law_made) (by rfl) (by rfl) (by decide+kernel)) (by intro _;rfl) ?_
  walk_at "ex"
  refine⟨a,ns,_,b,cs,rfl,sm05.seq hS,hl,by omega,by omega,hC.same sm05,c6,λl xs H6 sm6 hl0 hll hxx=>?_⟩
  have hxl:=hxx.len
  refine⟨l,xs,rfl,SqL.of hll,by omega,λτ=>∃o1,τ=[o1],λE2 i u H'=>∃x,xs[i]? =some x/\u= .str (wordOf x),⟨none,rfl⟩,λE2 i u H2 H3 ys _ _ p=>p,λfp E2 C s3 H0 i τ x H4 H3 hE2 hi hτ sm4 hys hG=>?_,λE2 H7 ys hE2 hl2 hx2 e7 sm7=>?_⟩
  .obtain⟨o1,rfl⟩:=hτ
   obtain⟨hx3,rfl⟩:=hG
   obtain⟨c,_,hv⟩:=hxx.get' hx3
   refine eg_name nd1 (by rfl) (.inl rfl) (.inr rfl) ?_
   walk_at "ex"
   exact⟨x,c.2,rfl,hv,⟨_,rfl⟩,⟨x,hx3,rfl⟩,Same.refl _⟩
  .have ey2:=list_of_pi (ys:=xs) (λx=>V.str (wordOf x)) hl2 hx2
   subst ey2
   have sm57:=sm6.trans sm7
   refine o_catL (sm57 _ _ ek) e7 (by rw[List.length_map];show 1+xs.length≤sizeLine;omega) λk hk=>?_
   have smF:Same H5 (upd H7 k (.lst ([V.str (numT ri)]++xs.map λx=>V.str (wordOf x)))):=sm57.trans (Same.upd hk)
   have ekF:(upd H7 k (.lst ([V.str (numT ri)]++xs.map λx=>V.str (wordOf x)))) k=some (.lst ((numT ri::xs.map wordOf).map V.str)):=by
    rw[upd_same,List.map_cons,List.map_map]
    rfl
   have hk0:H k=none:=(sm05.trans sm57).free hk
   have hky:k≠y:=λe=>by
    rw[e,sm57 _ _ ey5]at hk
    cases hk
   generalize upd H7 k (.lst ([V.str (numT ri)]++xs.map λx=>V.str (wordOf x)))=H8 at smF ekF⊢
   have sm08:=sm05.trans smF
   refine sxs_cons (sx_if ?_)
   walk_at "ex"
   refine⟨a,ns,_,2,rfl,sm08.seq hS,hl,by omega,by omega,by decide,?_⟩
   walk_at "ex"
   refine ifD (λh=>?_) (λh=>?_)
   .refine sxs_one (sx_expr (by rfl) (ev_bm PySem.F.plainAttrs_list PySem.F.slot_list_append PySem.F.type_list_append (by rfl) (by rfl) (by rfl) (by rfl) (by rfl) ?_))
    walk_at "e"
    refine⟨.inl ⟨rfl,_,SqL.of ekF⟩,?_⟩
    walk_at "ex"
    refine mt_by mt_append ⟨k,_,_,rfl,rfl,ekF,by rw[List.length_map,List.length_cons,List.length_map];omega,?_⟩
    refine fin ri xs false (numT ri::xs.map wordOf++[Str.ofString "*"]) k _ _ ⟨hrb.1,hrb.2,hxx⟩ (λb o e=>?_) ?_ rfl ?_ (λo5 o6 H2 s2 h2=>⟨⟨_,_,rfl⟩,s2,rows++[(ri,xs,false)],by simp[hrl],λr hr=>?_,h2⟩)
    .rw[upd_ne (ne_of_none e hk0)]
     exact sm08 _ _ e
    .rw[upd_same,List.map_append]
     rfl
    .rw[upd_ne (Ne.symm hky)]
     exact smF _ _ ey5
    .rcases List.mem_append.mp hr with hr |hr
     .exact hrg r hr
     .rw[List.mem_singleton.mp hr];exact⟨hrb.1,hrb.2,hxx⟩
   .refine sxs_nil ?_
    refine fin ri xs true (numT ri::xs.map wordOf) k H8 _ ⟨hrb.1,hrb.2,hxx⟩ sm08 ekF (by show _=numT ri::(xs.map wordOf++[]);rw[List.append_nil]) (smF _ _ ey5) (λo5 o6 H2 s2 h2=>⟨⟨_,_,rfl⟩,s2,rows++[(ri,xs,true)],by simp[hrl],λr hr=>?_,h2⟩)
    rcases List.mem_append.mp hr with hr |hr
    .exact hrg r hr
    .rw[List.mem_singleton.mp hr];exact⟨hrb.1,hrb.2,hxx⟩
 .obtain⟨⟨o5,o6,rfl⟩,sm,rows,hrl,hrg,ey'⟩:=hP
  have hrl':rows.length=many:=by rw[hrl];omega
  have okb:okS 100 backT7:=⟨by decide+kernel,by decide+kernel⟩
  have okf:okS 100 forthT7:=⟨by decide+kernel,by decide+kernel⟩
  have end_:∀(bk fo:V) (ts:List Str) (H2:Hp),Same H H2->H2 y=some (.lst (ts.map V.str))->ts=hz::(rows.map rowT++(markL (Str.ofString "back ") bk++markL (Str.ofString "forth ") fo))->(bk= .non\/bk= .str backT7)->(fo= .non\/fo= .str forthT7)->SXs (CxF true P w K mg base N__law_made "_law_made" (defScope s__law_made) f cdv A outer s H E) ((defBody s__law_made).drop 6) {nx:=λ_ H'=>Q .non H',rt:=Q} [some (.ref a),some (.ref b),some (.int (many:Nat)),some (.ref np),some (.ref y),o5,o6] H2:=by
   intro bk fo ts H2 sm2 e2 hts hbk hfo
   refine sxs_one (sx_ret ?_)
   walk_at "ex"
   have hpt:ts=pageT ⟨rows,bk,fo,m1,m0,m2⟩:=by
    rw[hts,ehd rows hrl' bk fo]
    rfl
   have mk:∀v x,(v= .non\/v= .str x)->okS 100 x->1≤x.length->markV v:=λv x h ho hl=>by
    rcases h with e |e
    .exact .inl e
    .exact .inr ⟨x,e,hl,ho.mono (by decide)⟩
   have gf:goodF cs ⟨rows,bk,fo,m1,m0,m2⟩:=⟨hrg,by show rows.length≤100;omega,mk bk _ hbk okb (by decide+kernel),mk fo _ hfo okf (by decide+kernel),⟨p1,by show m1≤_;omega⟩,⟨p0,by show m0≤_;omega⟩,⟨p2,by show m2≤_;omega⟩⟩
   refine q y ⟨rows,bk,fo,m1,m0,m2⟩ H2 sm2 hyn (by rw[<-hpt];exact e2) gf (page_ok hk2 gf (by show rows.length≤4;omega) (λz e=>?_) (λz e=>?_))
   .have e:bk= .str z:=e
    rcases hbk with h |h
    .rw[h]at e;cases e
    .rw[h]at e;cases e;exact okb
   .have e:fo= .str z:=e
    rcases hfo with h |h
    .rw[h]at e;cases e
    .rw[h]at e;cases e;exact okf
  have forth:∀(bk:V) (ts:List Str) (H2:Hp),Same H H2->H2 y=some (.lst (ts.map V.str))->ts=hz::(rows.map rowT++markL (Str.ofString "back ") bk)->(bk= .non\/bk= .str backT7)->SXs (CxF true P w K mg base N__law_made "_law_made" (defScope s__law_made) f cdv A outer s H E) ((defBody s__law_made).drop 5) {nx:=λ_ H'=>Q .non H',rt:=Q} [some (.ref a),some (.ref b),some (.int (many:Nat)),some (.ref np),some (.ref y),o5,o6] H2:=by
   intro bk ts H2 sm2 e2 hts hbk
   have htl:ts.length≤10:=by
    have :(markL (Str.ofString "back ") bk).length≤1:=by cases bk<;>simp[markL]
    rw[hts,List.length_cons,List.length_append,List.length_map]
    omega
   refine sxs_cons (sx_if ?_)
   walk_at "ex"
   refine⟨a,ns,25,2,rfl,sm2.seq hS,hl,by decide,by decide,by decide,?_⟩
   walk_at "ex"
   refine ifD (λh=>?_) (λh=>?_)
   .refine sxs_one (sx_expr (by rfl) (ev_bm PySem.F.plainAttrs_list PySem.F.slot_list_append PySem.F.type_list_append (by rfl) (by rfl) (by rfl) (by rfl) (by rfl) ?_))
    walk_at "e"
    refine⟨.inl ⟨rfl,_,SqL.of e2⟩,?_⟩
    walk_at "ex"
    refine mt_by mt_append ⟨y,_,_,rfl,rfl,e2,by rw[List.length_map];omega,?_⟩
    refine end_ bk (.str forthT7) (ts++[Str.ofString "forth "++forthT7]) _ (λd o e=>?_) ?_ ?_ hbk (.inr rfl)
    .rw[upd_ne (ne_of_none e hyn)]
     exact sm2 _ _ e
    .rw[upd_same,List.map_append,List.map_singleton,show Str.ofString "forth "++forthT7=Str.ofString "forth l/0/+a/all/>3 'a.0002" by decide+kernel]
    .rw[hts,List.cons_append,List.append_assoc]
     rfl
   .refine sxs_nil (end_ bk .non ts H2 sm2 e2 ?_ hbk (.inl rfl))
    rw[hts]
    show _=hz::(rows.map rowT++(markL (Str.ofString "back ") bk++[]))
    rw[List.append_nil]
  refine sxs_cons (sx_if ?_)
  walk_at "ex"
  refine⟨a,ns,24,2,rfl,sm.seq hS,hl,by decide,by decide,by decide,?_⟩
  walk_at "ex"
  refine ifD (λh=>?_) (λh=>?_)
  .refine sxs_one (sx_expr (by rfl) (ev_bm PySem.F.plainAttrs_list PySem.F.slot_list_append PySem.F.type_list_append (by rfl) (by rfl) (by rfl) (by rfl) (by rfl) ?_))
   walk_at "e"
   refine⟨.inl ⟨rfl,_,SqL.of ey'⟩,?_⟩
   walk_at "ex"
   refine mt_by mt_append ⟨y,_,_,rfl,rfl,ey',by rw[List.length_map,List.length_cons,List.length_map];omega,?_⟩
   refine forth (.str backT7) ((hz::rows.map rowT)++[Str.ofString "back "++backT7]) _ (λd o e=>?_) ?_ rfl (.inr rfl)
   .rw[upd_ne (ne_of_none e hyn)]
    exact sm _ _ e
   .rw[upd_same,List.map_append,List.map_singleton,show Str.ofString "back "++backT7=Str.ofString "back l/0/+a/all/<3 'a.0001" by decide+kernel]
  .refine sxs_nil (forth .non (hz::rows.map rowT) H' sm ey' ?_ (.inl rfl))
   show _=hz::(rows.map rowT++[])
   rw[List.append_nil]
end
end K71
namespace K71
open PySem L2 PyProof.Rows My Vl Lw
section
variable{P:Program}{w:World}{K:PySem.W.Frag}{mg:Str->Option Value}{base:Heap}
theorem okTs.set{n B C:Nat}{ts:List Str}{i:Nat}{z:Str}(h:okTs n B ts)(hz:okS C z)(hC:B≤C):okTs (n+1) C (ts.set i z):=⟨by rw[List.length_set];have :=h.1;omega,λx hx=>by
 rcases List.mem_or_eq_of_mem_set hx with hx |rfl
 .exact(h.2 x hx).mono hC
 .exact hz⟩
theorem okTs.ins{n B C:Nat}{ts:List Str}{i:Nat}{z:Str}(h:okTs n B ts)(hz:okS C z)(hC:B≤C):okTs (n+1) C (insAt ts i z):=⟨by
 have :=h.1
 unfold insAt
 rw[List.length_append,List.length_cons,List.length_take,List.length_drop]
 omega,λx hx=>by
 unfold insAt at hx
 rcases List.mem_append.mp hx with hx |hx
 .exact(h.2 x (List.mem_of_mem_take hx)).mono hC
 .rcases List.mem_cons.mp hx with rfl |hx
  .exact hz
  .exact(h.2 x (List.mem_of_mem_drop hx)).mono hC⟩
theorem map_ins(ts:List Str)(i:Nat)(z:Str):insAt (ts.map V.str) i (.str z)=(insAt ts i z).map V.str:=by
 unfold insAt
 rw[List.map_append,List.map_cons,List.map_take,List.map_drop]
theorem okS.words{B:Nat}(z:Str)(h:okS B z)(i:Nat)(y:Str)(hy:okS 25 y):okS (B+26) (Str.join " " ((cutT 32 z).set i y)):=by
 have hj:(Str.join " " ((cutT 32 z).set i y)).cps.toList=glueL 32 (((cutT 32 z).set i y).map λp=>p.cps.toList):=join_glue 32 _
 have hg:glueL 32 ((cutT 32 z).map λp=>p.cps.toList)=z.cps.toList:=by
  have e:(cutT 32 z).map (λp=>p.cps.toList)=cutAt 32 z.cps.toList:=by
   unfold cutT
   rw[List.map_map]
   have :((λp:Str=>p.cps.toList)∘λl:List Nat=>(⟨l.toArray⟩:Str))=id:=by funext l;simp
   rw[this,List.map_id]
  rw[e,glue_cutAt]
 have glen:∀(ps:List (List Nat)) (j:Nat) (q:List Nat),(glueL 32 (ps.set j q)).length≤(glueL 32 ps).length+q.length:=by
  intro ps
  induction ps with
  |nil=>intro j q;simp[glueL]
  |cons p r ih=>
   intro j q
   cases r with
   |nil=>
    cases j with
    |zero=>show q.length≤p.length+q.length;omega
    |succ j=>show p.length≤p.length+q.length;omega
   |cons p2 r=>
    cases j with
    |zero=>
     show(q++32::glueL 32 (p2::r)).length≤(p++32::glueL 32 (p2::r)).length+q.length
     rw[List.length_append,List.length_append]
     omega
    |succ j=>
     have hi:=ih j q
     have e1:∀l:List (List Nat),l≠[]->glueL 32 (p::l)=p++32::glueL 32 l:=λl hl=>by
      cases l with
      |nil=>exact absurd rfl hl
      |cons a b=>rfl
     show(glueL 32 (p::(p2::r).set j q)).length≤(glueL 32 (p::p2::r)).length+q.length
     rw[e1 _ (by cases j<;>simp),e1 _ (by simp),List.length_append,List.length_append,List.length_cons,List.length_cons]
     omega
 have gmem:∀(ps:List (List Nat)) (j:Nat) (q:List Nat),∀c∈glueL 32 (ps.set j q),c∈glueL 32 ps\/c∈q:=by
  intro ps
  induction ps with
  |nil=>intro j q c hc;simp[glueL]at hc
  |cons p r ih=>
   intro j q c hc
   cases r with
   |nil=>
    cases j with
    |zero=>exact .inr hc
    |succ j=>exact .inl hc
   |cons p2 r=>
    cases j with
    |zero=>
     have hc:c∈q++32::glueL 32 (p2::r):=hc
     rcases List.mem_append.mp hc with hc |hc
     .exact .inr hc
     .exact .inl (List.mem_append_right _ hc)
    |succ j=>
     have e1:∀l:List (List Nat),l≠[]->glueL 32 (p::l)=p++32::glueL 32 l:=λl hl=>by
      cases l with
      |nil=>exact absurd rfl hl
      |cons a b=>rfl
     have hc:c∈glueL 32 (p::(p2::r).set j q):=hc
     rw[e1 _ (by cases j<;>simp)]at hc
     rcases List.mem_append.mp hc with hc |hc
     .exact .inl (List.mem_append_left _ hc)
     .rcases List.mem_cons.mp hc with hc |hc
      .exact .inl (List.mem_append_right _ (by rw[hc];simp))
      .rcases ih j q c hc with h |h
       .exact .inl (List.mem_append_right _ (by simp[h]))
       .exact .inr h
 have es:((cutT 32 z).set i y).map (λp=>p.cps.toList)=((cutT 32 z).map λp=>p.cps.toList).set i y.cps.toList:=by rw[List.map_set]
 rw[es]at hj
 refine⟨?_,λc hc=>?_⟩
 .rw[L2.len_list,hj]
  have h1:=glen ((cutT 32 z).map λp=>p.cps.toList) i y.cps.toList
  rw[hg]at h1
  have h2:=h.1
  have h3:=hy.1
  rw[L2.len_list]at h2 h3
  omega
 .rw[hj]at hc
  rcases gmem _ i _ c hc with hc |hc
  .rw[hg]at hc
   exact h.2 c hc
  .exact hy.2 c hc
end
end K71
namespace K71
open PySem L2 PyProof.Rows My Vl Lw
section
variable{P:Program}{w:World}{K:PySem.W.Frag}{mg:Str->Option Value}{base:Heap}
def odd9:List Str:=[Str.ofString "",Str.ofString "back ",Str.ofString "forth ",Str.ofString "forth x",Str.ofString "back x",Str.ofString "0+0 of 0 at 0",Str.ofString "3",Str.ofString "3 *",Str.ofString "*"]
def odd11:List Str:=[Str.ofString "",Str.ofString "00",Str.ofString "01",Str.ofString "-0",Str.ofString "?",Str.ofString "*",Str.ofString "'",Str.ofString "1000000001",Str.ofString "9999999999",Str.ofString "10000000000",Str.ofString "of"]
theorem odd9_ok:∀z∈odd9,z.length≤25/\∀c∈z.cps.toList,c<1114112:=by decide+kernel
theorem odd11_ok:∀z∈odd11,z.length≤25/\∀c∈z.cps.toList,c<1114112:=by decide+kernel
def sgn17:Str:=Str.ofString "0123+-' ?*ofatbz9"
theorem sgn17_ok:∀c∈sgn17.cps.toList,c<1114112:=by decide+kernel
def spSpoil7(K:PySem.W.Frag):Sp:=λvs H Q _=>∃(a:Addr) (ns:List Int) (k:Int) (q0:Addr) (ts:List Str) (n B:Nat),vs=[.ref a,.int k,.ref q0]/\SqL K H a (ns.map V.int)/\ns.length≤63/\0≤k/\k≤1000/\H q0=some (.lst (ts.map V.str))/\okTs n B ts/\0<ts.length/\n≤50/\B≤1000/\∀p ts' H',Same H H'->H p=none->H' p=some (.lst (ts'.map V.str))->okTs (n+1) (2*B+30) ts'->Q (.ref p) H'
def G7(P:Program)(w:World)(K:PySem.W.Frag)(mg:Str->Option Value)(base:Heap)(f:Addr)(cdv:Value)(A:Around)(outer:List Env)(s:Shared)(H:Hp)(E:XK)(Q:VK)(a q0 p:Addr)(k:Int)(at_:Nat)(way:Int)(z:Str)(pl:Int)(sgs:Str)(i:Nat)(o9 o10 o11:Option V)(H':Hp):Prop:=SXs (CxF true P w K mg base N__law_spoiled "_law_spoiled" (defScope s__law_spoiled) f cdv A outer s H E) ((defBody s__law_spoiled).drop i) {nx:=λ_ H'=>Q .non H',rt:=Q} [some (.ref a),some (.int k),some (.ref q0),some (.ref p),some (.int (at_:Nat)),some (.int way),some (.str z),some (.int pl),some (.str sgs),o9,o10,o11] H'
structure F7(K:PySem.W.Frag)(H H1:Hp)(a p:Addr)(k:Int)(at_:Nat)(z:Str)(pl:Int)(sgs:Str)(n B:Nat)(ts:List Str)(ns:List Int):Prop where
 sm1:Same H H1
 hp:H p=none
 ep:H1 p=some (.lst (ts.map V.str))
 S1:SqL K H1 a (ns.map V.int)
 hl:ns.length≤63
 hk0:0≤k
 hk1:k≤1000
 hok:okTs n B ts
 hn:n≤50
 hB:B≤1000
 hat:at_<ts.length
 hg:ts[at_]? =some z
 hz:okS B z
 x0:0≤pl
 x1:pl<(z.length:Int)+1
 hso:okS 1 sgs
 hsl:sgs.length=1
def S7(P:Program)(w:World)(K:PySem.W.Frag)(mg:Str->Option Value)(base:Heap)(f:Addr)(cdv:Value)(A:Around)(outer:List Env)(s:Shared)(H:Hp)(E:XK)(Q:VK)(a q0 p:Addr)(k:Int)(at_:Nat)(way:Int)(z:Str)(pl:Int)(sgs:Str)(n B j:Nat):Prop:=∀(ts':List Str) (o9 o10 o11:Option V) (H':Hp),(j=8\/way<(j:Int))->Same H H'->H' p=some (.lst (ts'.map V.str))->okTs (n+1) (2*B+30) ts'->G7 P w K mg base f cdv A outer s H E Q a q0 p k at_ way z pl sgs (j+6) o9 o10 o11 H'
theorem skip7(T:Txt K mg){f:Addr}{cdv:Value}{A:Around}{outer:List Env}{s:Shared}{H:Hp}{E:XK}{Q:VK}{a q0 p:Addr}{k:Int}{at_:Nat}{way:Int}{z:Str}{pl:Int}{sgs:Str}{n B:Nat}(hr:Room true 1 (A.deeper (envOfC "_law_spoiled" (defScope s__law_spoiled) s.heap.objs.size f cdv)))(hp:H p=none)(q:∀p ts' H',Same H H'->H p=none->H' p=some (.lst (ts'.map V.str))->okTs (n+1) (2*B+30) ts'->Q (.ref p) H'):S7 P w K mg base f cdv A outer s H E Q a q0 p k at_ way z pl sgs n B 8/\S7 P w K mg base f cdv A outer s H E Q a q0 p k at_ way z pl sgs n B 7/\S7 P w K mg base f cdv A outer s H E Q a q0 p k at_ way z pl sgs n B 6/\S7 P w K mg base f cdv A outer s H E Q a q0 p k at_ way z pl sgs n B 5/\S7 P w K mg base f cdv A outer s H E Q a q0 p k at_ way z pl sgs n B 4/\S7 P w K mg base f cdv A outer s H E Q a q0 p k at_ way z pl sgs n B 3/\S7 P w K mg base f cdv A outer s H E Q a q0 p k at_ way z pl sgs n B 2/\S7 P w K mg base f cdv A outer s H E Q a q0 p k at_ way z pl sgs n B 1:=by
 have nd:=sc__law_spoiled.nd
 have s8:S7 P w K mg base f cdv A outer s H E Q a q0 p k at_ way z pl sgs n B 8:=by
  intro ts' o9 o10 o11 H' _ sm e hok'
  unfold G7
  refine sxs_one (sx_ret ?_)
  walk_at "ex"
  exact q p ts' H' sm hp e hok'
 have s7:S7 P w K mg base f cdv A outer s H E Q a q0 p k at_ way z pl sgs n B 7:=by
  intro ts' o9 o10 o11 H' hw sm e hok'
  have hw:way<7:=by omega
  unfold G7
  refine sxs_cons (sx_if ?_)
  walk_at "ex"
  refine ifD (λh=>absurd h (by show ¬(6:Int)<way;omega)) (λ_=>?_)
  exact sxs_nil (s8 ts' o9 o10 o11 H' (by omega) sm e hok')
 have s6:S7 P w K mg base f cdv A outer s H E Q a q0 p k at_ way z pl sgs n B 6:=by
  intro ts' o9 o10 o11 H' hw sm e hok'
  have hw:way<6:=by omega
  unfold G7
  refine sxs_cons (sx_if ?_)
  walk_at "ex"
  refine ifD (λh=>absurd (V.int.inj h) (by omega)) (λ_=>?_)
  exact sxs_nil (s7 ts' o9 o10 o11 H' (by omega) sm e hok')
 have s5:S7 P w K mg base f cdv A outer s H E Q a q0 p k at_ way z pl sgs n B 5:=by
  intro ts' o9 o10 o11 H' hw sm e hok'
  have hw:way<5:=by omega
  unfold G7
  refine sxs_cons (sx_if ?_)
  walk_at "ex"
  refine ifD (λh=>absurd (V.int.inj h) (by omega)) (λ_=>?_)
  exact sxs_nil (s6 ts' o9 o10 o11 H' (by omega) sm e hok')
 have s4:S7 P w K mg base f cdv A outer s H E Q a q0 p k at_ way z pl sgs n B 4:=by
  intro ts' o9 o10 o11 H' hw sm e hok'
  have hw:way<4:=by omega
  unfold G7
  refine sxs_cons (sx_if ?_)
  walk_at "ex"
  refine ifD (λh=>absurd (V.int.inj h) (by omega)) (λ_=>?_)
  exact sxs_nil (s5 ts' o9 o10 o11 H' (by omega) sm e hok')
 have s3:S7 P w K mg base f cdv A outer s H E Q a q0 p k at_ way z pl sgs n B 3:=by
  intro ts' o9 o10 o11 H' hw sm e hok'
  have hw:way<3:=by omega
  unfold G7
  refine sxs_cons (sx_if ?_)
  walk_at "ex"
  refine ifD (λh=>absurd (V.int.inj h) (by omega)) (λ_=>?_)
  exact sxs_nil (s4 ts' o9 o10 o11 H' (by omega) sm e hok')
 have s2:S7 P w K mg base f cdv A outer s H E Q a q0 p k at_ way z pl sgs n B 2:=by
  intro ts' o9 o10 o11 H' hw sm e hok'
  have hw:way<2:=by omega
  unfold G7
  refine sxs_cons (sx_if ?_)
  walk_at "ex"
  refine ifD (λh=>absurd (V.int.inj h) (by omega)) (λ_=>?_)
  exact sxs_nil (s3 ts' o9 o10 o11 H' (by omega) sm e hok')
 have s1:S7 P w K mg base f cdv A outer s H E Q a q0 p k at_ way z pl sgs n B 1:=by
  intro ts' o9 o10 o11 H' hw sm e hok'
  have hw:way<1:=by omega
  unfold G7
  refine sxs_cons (sx_if ?_)
  walk_at "ex"
  refine ifD (λh=>absurd (V.int.inj h) (by omega)) (λ_=>?_)
  exact sxs_nil (s2 ts' o9 o10 o11 H' (by omega) sm e hok')
 exact⟨s8,s7,s6,s5,s4,s3,s2,s1⟩
end
end K71
namespace K71
open PySem L2 PyProof.Rows My Vl Lw
section
variable{P:Program}{w:World}{K:PySem.W.Frag}{mg:Str->Option Value}{base:Heap}
theorem m7_7(T:Txt K mg){f:Addr}{cdv:Value}{A:Around}{outer:List Env}{s:Shared}{H H1:Hp}{E:XK}{Q:VK}{a q0 p:Addr}{k:Int}{at_:Nat}{way:Int}{z:Str}{pl:Int}{sgs:Str}{n B:Nat}{ts:List Str}{ns:List Int}(hr:Room true 1 (A.deeper (envOfC "_law_spoiled" (defScope s__law_spoiled) s.heap.objs.size f cdv)))(F:F7 K H H1 a p k at_ z pl sgs n B ts ns)(s8:S7 P w K mg base f cdv A outer s H E Q a q0 p k at_ way z pl sgs n B 8)(hw:6<way):G7 P w K mg base f cdv A outer s H E Q a q0 p k at_ way z pl sgs 13 none none none H1:=by
 obtain⟨sm1,hp,ep,S1,hl,hk0,hk1,hok,hn,hB,hat,hg,hz,x0,x1,hso,hsl⟩:=F
 have nd:=sc__law_spoiled.nd
 have n1:=T.n_len
 have n2:=T.n_list
 have hsz:sizeLine=16777216:=sizeLine_eq
 have lb:(Str.ofString " ").length=1:=by decide+kernel
 have D1:Def P w K mg base true 1 "_law_draw" ["_law_script","_law_k","_law_many"] (spDraw K):=d__law_draw T
 have htl:=hok.1
 have hzl:=hz.1
 have hlm:(ts.map V.str).length=ts.length:=List.length_map ..
 have SP:SqL K H1 p (ts.map V.str):=SqL.of ep
 have upd1:∀{H':Hp} {o:HO},Same H H'->Same H (upd H' p o):=λsm d o e=>by
  rw[upd_ne (ne_of_none e hp)]
  exact sm _ _ e
 have zat:∀(lo hi:Option Int),okS B (cutS z lo hi):=λlo hi=>hz.cut lo hi
 have cl:∀(lo hi:Option Int),(cutS z lo hi).length≤z.length:=λlo hi=>cutS_le z lo hi
 have put:∀(x:Str),okS (2*B+30) x->okTs (n+1) (2*B+30) (ts.set at_ x):=λx hx=>hok.set hx (by omega)
 have hp1:∀x:Str,(upd H1 p (.lst ((ts.map V.str).set at_ (.str x)))) p=some (.lst ((ts.set at_ x).map V.str)):=λx=>by rw[upd_same,List.map_set]
 unfold G7
 refine sxs_cons (sx_if ?_)
 walk_at "ex"
 refine ifD (λ_=>?_) (λh=>absurd (show(6:Int)<way from hw) h)
 refine sxs_cons ?_
 walk_at "s"
 refine ev_bm PySem.F.plainAttrs_str PySem.F.slot_str_split PySem.F.type_str_split (by rfl) (by rfl) (by rfl) (by rfl) (by rfl) ?_
 walk_at "ex"
 refine m_split (c:=32) (by omega) λwp hwp=>?_
 have hwl:=cutT_len 32 z
 have hw0:=cutT_ne 32 z
 have hws:∀y∈cutT 32 z,y.length≤1000:=λy hy=>by have :=cutT_short hy;omega
 have hwords:=okS.words z hz
 have sm2:Same H1 (upd H1 wp (.lst ((cutT 32 z).map V.str))):=Same.upd hwp
 have ew:(upd H1 wp (.lst ((cutT 32 z).map V.str))) wp=some (.lst ((cutT 32 z).map V.str)):=upd_same
 generalize upd H1 wp (.lst ((cutT 32 z).map V.str))=H2 at sm2 ew⊢
 generalize cutT 32 z=ws at hwl hw0 hws hwords ew
 have hwm:(ws.map V.str).length=ws.length:=List.length_map ..
 refine sxs_cons ?_
 refine L2.sx_set (i:=9) ?h0 ?h1 ?h2 ?h3 ?h4 ?_
 case h0=>exact nd
 case h1=>rfl
 case h2=>exact .inl rfl
 case h3=>rfl
 case h4=>exact .inl rfl
 walk_at "ex"
 refine⟨by show 11≤sizeLine;omega,λd hd=>?_⟩
 have sm3:Same H2 (upd H2 d (.lst (odd11.map V.str))):=Same.upd hd
 have ed:(upd H2 d (.lst (odd11.map V.str))) d=some (.lst (odd11.map V.str)):=upd_same
 change SXs _ _ _ _ (upd H2 d (.lst (odd11.map V.str)))
 generalize upd H2 d (.lst (odd11.map V.str))=H3 at sm3 ed⊢
 refine sxs_cons ?_
 refine L2.sx_set (i:=9) ?h0 ?h1 ?h2 ?h3 ?h4 ?_
 case h0=>exact nd
 case h1=>rfl
 case h2=>exact .inl rfl
 case h3=>rfl
 case h4=>exact .inl rfl
 walk_at "ex"
 refine o_mulS (by decide) (by decide) (by decide+kernel) (by rw[hsz];decide+kernel) ?_
 walk_at "ex"
 have ea:repS (Str.ofString "a") 21=Str.ofString "aaaaaaaaaaaaaaaaaaaaa":=by decide+kernel
 rw[ea]
 have l21:(Str.ofString "aaaaaaaaaaaaaaaaaaaaa").length=21:=by decide+kernel
 have l1:(Str.ofString "'").length=1:=by decide+kernel
 refine o_addS (by rw[l21,l1];omega) ?_
 walk_at "ex"
 refine⟨by show 2≤sizeLine;omega,λd2 hd2=>?_⟩
 have sm4:Same H3 (upd H3 d2 (.lst ([Str.ofString "'"++Str.ofString "aaaaaaaaaaaaaaaaaaaaa",Str.ofString "-5"].map V.str))):=Same.upd hd2
 have ed2:(upd H3 d2 (.lst ([Str.ofString "'"++Str.ofString "aaaaaaaaaaaaaaaaaaaaa",Str.ofString "-5"].map V.str))) d2=some (.lst ([Str.ofString "'"++Str.ofString "aaaaaaaaaaaaaaaaaaaaa",Str.ofString "-5"].map V.str)):=upd_same
 change OP _ _ _ _ (upd H3 d2 (.lst ([Str.ofString "'"++Str.ofString "aaaaaaaaaaaaaaaaaaaaa",Str.ofString "-5"].map V.str))) _
 generalize upd H3 d2 (.lst ([Str.ofString "'"++Str.ofString "aaaaaaaaaaaaaaaaaaaaa",Str.ofString "-5"].map V.str))=H4 at sm4 ed2⊢
 refine o_catL (sm4 _ _ ed) ed2 (by show 13≤sizeLine;omega) λd3 hd3=>?_
 have hodd:∃od:List Str,odd11.map V.str++[Str.ofString "'"++Str.ofString "aaaaaaaaaaaaaaaaaaaaa",Str.ofString "-5"].map V.str=od.map V.str/\od.length=13/\∀y∈od,okS 25 y:=⟨odd11++[Str.ofString "'"++Str.ofString "aaaaaaaaaaaaaaaaaaaaa",Str.ofString "-5"],(List.map_append ..).symm,rfl,λy hy=>by
  rcases List.mem_append.mp hy with hy |hy
  .exact odd11_ok y hy
  .simp only[List.mem_cons,List.not_mem_nil,or_false]at hy
   rcases hy with rfl |rfl
   .exact⟨by decide+kernel,by decide+kernel⟩
   .exact⟨by decide+kernel,by decide+kernel⟩⟩
 obtain⟨od,eod,lod,hod⟩:=hodd
 rw[eod]
 have sm5:Same H4 (upd H4 d3 (.lst (od.map V.str))):=Same.upd hd3
 have ed3:(upd H4 d3 (.lst (od.map V.str))) d3=some (.lst (od.map V.str)):=upd_same
 generalize upd H4 d3 (.lst (od.map V.str))=H5 at sm5 ed3⊢
 have sm25:=(sm3.trans sm4).trans sm5
 have sm15:=sm2.trans sm25
 have S5:=sm15.seq S1
 have ew5:=sm25 _ _ ew
 have ep5:=sm15 _ _ ep
 have SW:SqL K H5 wp (ws.map V.str):=SqL.of ew5
 refine sxs_cons (sx_setI (by rfl) (by rfl) (by rfl) (by intro _;rfl) ?_)
 walk_at "ex"
 refine⟨a,ns,k+5,13,rfl,S5,hl,by omega,by omega,by decide,?_⟩
 have z0:=drawF_nn ns (k+5) (m:=13) (by decide)
 have z1:=drawF_lt ns (k+5) (m:=13) (by decide)
 generalize drawF ns (k+5) 13=dv at z0 z1⊢
 obtain⟨di,rfl⟩:=Int.eq_ofNat_of_zero_le z0
 have hdi:di<od.length:=by omega
 have hdg:od[di]? =some od[di]:=List.getElem?_eq_getElem hdi
 have hdo:=hod od[di] (List.getElem_mem hdi)
 generalize od[di]=y at hdg hdo
 refine i_list (SqL.of ed3) (atI_nat (v:=V.str y) (by rw[List.getElem?_map,hdg];rfl)) ?_
 walk_at "ex"
 rw[hwm]
 refine⟨a,ns,k+4,_,rfl,S5,hl,by omega,by omega,by omega,?_⟩
 have u0:=drawF_nn ns (k+4) (m:=(ws.length:Int)) (by omega)
 have u1:=drawF_lt ns (k+4) (m:=(ws.length:Int)) (by omega)
 generalize drawF ns (k+4) (ws.length:Int)=uv at u0 u1⊢
 obtain⟨ui,rfl⟩:=Int.eq_ofNat_of_zero_le u0
 refine⟨wp,ws.map V.str,(ui:Int),ui,rfl,rfl,ew5,by rw[hwm];exact ixN_nat (by omega),?_⟩
 have hwp0:H wp=none:=sm1.free hwp
 have hwpp:p≠wp:=λe=>by rw[<-e,ep]at hwp;cases hwp
 have ew6:(upd H5 wp (.lst ((ws.map V.str).set ui (.str y)))) wp=some (.lst ((ws.set ui y).map V.str)):=by rw[upd_same,List.map_set]
 have ep6:(upd H5 wp (.lst ((ws.map V.str).set ui (.str y)))) p=some (.lst (ts.map V.str)):=by rw[upd_ne hwpp];exact ep5
 have sm06:Same H (upd H5 wp (.lst ((ws.map V.str).set ui (.str y)))):=λd o e=>by
  rw[upd_ne (ne_of_none e hwp0)]
  exact(sm1.trans sm15) _ _ e
 generalize upd H5 wp (.lst ((ws.map V.str).set ui (.str y)))=H6 at ew6 ep6 sm06⊢
 refine sxs_one (sx_setI (by rfl) (by rfl) (by rfl) (by intro _;rfl) ?_)
 walk_at "ex"
 have hsum:(((ws.set ui y).map (·.length)).sum)≤(ws.set ui y).length*1000:=sum_le λx hx=>by
  rcases List.mem_or_eq_of_mem_set hx with hx |rfl
  .exact hws x hx
  .have :=hdo.1;omega
 rw[List.length_set]at hsum
 have hs2:ws.length*1000≤1001*1000:=Nat.mul_le_mul_right _ (by omega)
 refine m_join (SqL.of ew6) (by rw[lb,List.length_set];omega) ?_
 walk_at "ex"
 refine⟨p,ts.map V.str,(at_:Int),at_,rfl,rfl,ep6,by rw[hlm];exact ixN_nat hat,?_⟩
 exact s8 (ts.set at_ (Str.join " " (ws.set ui y))) _ _ _ _ (.inl rfl) (upd1 sm06) (by rw[upd_same,List.map_set]) (hok.set ((hwords ui y hdo).mono (by omega)) (by omega))
end
end K71
namespace K71
open PySem L2 PyProof.Rows My Vl Lw
section
variable{P:Program}{w:World}{K:PySem.W.Frag}{mg:Str->Option Value}{base:Heap}
theorem m7_6(T:Txt K mg){f:Addr}{cdv:Value}{A:Around}{outer:List Env}{s:Shared}{H H1:Hp}{E:XK}{Q:VK}{a q0 p:Addr}{k:Int}{at_:Nat}{way:Int}{z:Str}{pl:Int}{sgs:Str}{n B:Nat}{ts:List Str}{ns:List Int}(hr:Room true 1 (A.deeper (envOfC "_law_spoiled" (defScope s__law_spoiled) s.heap.objs.size f cdv)))(F:F7 K H H1 a p k at_ z pl sgs n B ts ns)(s7:S7 P w K mg base f cdv A outer s H E Q a q0 p k at_ way z pl sgs n B 7)(nx:7≤way->G7 P w K mg base f cdv A outer s H E Q a q0 p k at_ way z pl sgs 13 none none none H1)(hw:6≤way):G7 P w K mg base f cdv A outer s H E Q a q0 p k at_ way z pl sgs 12 none none none H1:=by
 obtain⟨sm1,hp,ep,S1,hl,hk0,hk1,hok,hn,hB,hat,hg,hz,x0,x1,hso,hsl⟩:=F
 have nd:=sc__law_spoiled.nd
 have n1:=T.n_len
 have n2:=T.n_list
 have hsz:sizeLine=16777216:=sizeLine_eq
 have lb:(Str.ofString " ").length=1:=by decide+kernel
 have D1:Def P w K mg base true 1 "_law_draw" ["_law_script","_law_k","_law_many"] (spDraw K):=d__law_draw T
 have htl:=hok.1
 have hzl:=hz.1
 have hlm:(ts.map V.str).length=ts.length:=List.length_map ..
 have SP:SqL K H1 p (ts.map V.str):=SqL.of ep
 have upd1:∀{H':Hp} {o:HO},Same H H'->Same H (upd H' p o):=λsm d o e=>by
  rw[upd_ne (ne_of_none e hp)]
  exact sm _ _ e
 have zat:∀(lo hi:Option Int),okS B (cutS z lo hi):=λlo hi=>hz.cut lo hi
 have cl:∀(lo hi:Option Int),(cutS z lo hi).length≤z.length:=λlo hi=>cutS_le z lo hi
 have put:∀(x:Str),okS (2*B+30) x->okTs (n+1) (2*B+30) (ts.set at_ x):=λx hx=>hok.set hx (by omega)
 have hp1:∀x:Str,(upd H1 p (.lst ((ts.map V.str).set at_ (.str x)))) p=some (.lst ((ts.set at_ x).map V.str)):=λx=>by rw[upd_same,List.map_set]
 unfold G7
 refine sxs_cons (sx_if ?_)
 walk_at "ex"
 refine ifD (λh=>?_) (λh=>?_)
 .have hw':way=6:=V.int.inj h
  refine sxs_one (sx_setI (by rfl) (by rfl) (by rfl) (by intro _;rfl) ?_)
  walk_at "ex"
  refine s_str (by omega) ?_
  walk_at "ex"
  have c1:=cl none (some pl)
  have c2:=cl (some (pl+1)) none
  have l2:=len_app (cutS z none (some pl)) sgs
  refine o_addS (by omega) ?_
  walk_at "ex"
  refine s_str (by omega) ?_
  refine o_addS (by omega) ?_
  walk_at "ex"
  refine⟨p,ts.map V.str,(at_:Int),at_,rfl,rfl,ep,by rw[hlm];exact ixN_nat hat,?_⟩
  exact s7 _ _ _ _ _ (.inr (by omega)) (upd1 sm1) (hp1 _) (put _ ((((zat none (some pl)).app hso).app (zat (some (pl+1)) none)).mono (by omega)))
 .have hw':¬way=6:=λe=>h (by rw[e])
  exact sxs_nil (nx (by omega))
theorem m7_5(T:Txt K mg){f:Addr}{cdv:Value}{A:Around}{outer:List Env}{s:Shared}{H H1:Hp}{E:XK}{Q:VK}{a q0 p:Addr}{k:Int}{at_:Nat}{way:Int}{z:Str}{pl:Int}{sgs:Str}{n B:Nat}{ts:List Str}{ns:List Int}(hr:Room true 1 (A.deeper (envOfC "_law_spoiled" (defScope s__law_spoiled) s.heap.objs.size f cdv)))(F:F7 K H H1 a p k at_ z pl sgs n B ts ns)(s6:S7 P w K mg base f cdv A outer s H E Q a q0 p k at_ way z pl sgs n B 6)(nx:6≤way->G7 P w K mg base f cdv A outer s H E Q a q0 p k at_ way z pl sgs 12 none none none H1)(hw:5≤way):G7 P w K mg base f cdv A outer s H E Q a q0 p k at_ way z pl sgs 11 none none none H1:=by
 obtain⟨sm1,hp,ep,S1,hl,hk0,hk1,hok,hn,hB,hat,hg,hz,x0,x1,hso,hsl⟩:=F
 have nd:=sc__law_spoiled.nd
 have n1:=T.n_len
 have n2:=T.n_list
 have hsz:sizeLine=16777216:=sizeLine_eq
 have lb:(Str.ofString " ").length=1:=by decide+kernel
 have D1:Def P w K mg base true 1 "_law_draw" ["_law_script","_law_k","_law_many"] (spDraw K):=d__law_draw T
 have htl:=hok.1
 have hzl:=hz.1
 have hlm:(ts.map V.str).length=ts.length:=List.length_map ..
 have SP:SqL K H1 p (ts.map V.str):=SqL.of ep
 have upd1:∀{H':Hp} {o:HO},Same H H'->Same H (upd H' p o):=λsm d o e=>by
  rw[upd_ne (ne_of_none e hp)]
  exact sm _ _ e
 have zat:∀(lo hi:Option Int),okS B (cutS z lo hi):=λlo hi=>hz.cut lo hi
 have cl:∀(lo hi:Option Int),(cutS z lo hi).length≤z.length:=λlo hi=>cutS_le z lo hi
 have put:∀(x:Str),okS (2*B+30) x->okTs (n+1) (2*B+30) (ts.set at_ x):=λx hx=>hok.set hx (by omega)
 have hp1:∀x:Str,(upd H1 p (.lst ((ts.map V.str).set at_ (.str x)))) p=some (.lst ((ts.set at_ x).map V.str)):=λx=>by rw[upd_same,List.map_set]
 unfold G7
 refine sxs_cons (sx_if ?_)
 walk_at "ex"
 refine ifD (λh=>?_) (λh=>?_)
 .have hw':way=5:=V.int.inj h
  refine sxs_one (sx_setI (by rfl) (by rfl) (by rfl) (by intro _;rfl) ?_)
  walk_at "ex"
  refine s_str (by omega) ?_
  walk_at "ex"
  have c1:=cl none (some pl)
  have c2:=cl (some (pl+1)) none
  refine s_str (by omega) ?_
  refine o_addS (by omega) ?_
  walk_at "ex"
  refine⟨p,ts.map V.str,(at_:Int),at_,rfl,rfl,ep,by rw[hlm];exact ixN_nat hat,?_⟩
  exact s6 _ _ _ _ _ (.inr (by omega)) (upd1 sm1) (hp1 _) (put _ (((zat none (some pl)).app (zat (some (pl+1)) none)).mono (by omega)))
 .have hw':¬way=5:=λe=>h (by rw[e])
  exact sxs_nil (nx (by omega))
theorem m7_4(T:Txt K mg){f:Addr}{cdv:Value}{A:Around}{outer:List Env}{s:Shared}{H H1:Hp}{E:XK}{Q:VK}{a q0 p:Addr}{k:Int}{at_:Nat}{way:Int}{z:Str}{pl:Int}{sgs:Str}{n B:Nat}{ts:List Str}{ns:List Int}(hr:Room true 1 (A.deeper (envOfC "_law_spoiled" (defScope s__law_spoiled) s.heap.objs.size f cdv)))(F:F7 K H H1 a p k at_ z pl sgs n B ts ns)(s5:S7 P w K mg base f cdv A outer s H E Q a q0 p k at_ way z pl sgs n B 5)(nx:5≤way->G7 P w K mg base f cdv A outer s H E Q a q0 p k at_ way z pl sgs 11 none none none H1)(hw:4≤way):G7 P w K mg base f cdv A outer s H E Q a q0 p k at_ way z pl sgs 10 none none none H1:=by
 obtain⟨sm1,hp,ep,S1,hl,hk0,hk1,hok,hn,hB,hat,hg,hz,x0,x1,hso,hsl⟩:=F
 have nd:=sc__law_spoiled.nd
 have n1:=T.n_len
 have n2:=T.n_list
 have hsz:sizeLine=16777216:=sizeLine_eq
 have lb:(Str.ofString " ").length=1:=by decide+kernel
 have D1:Def P w K mg base true 1 "_law_draw" ["_law_script","_law_k","_law_many"] (spDraw K):=d__law_draw T
 have htl:=hok.1
 have hzl:=hz.1
 have hlm:(ts.map V.str).length=ts.length:=List.length_map ..
 have SP:SqL K H1 p (ts.map V.str):=SqL.of ep
 have upd1:∀{H':Hp} {o:HO},Same H H'->Same H (upd H' p o):=λsm d o e=>by
  rw[upd_ne (ne_of_none e hp)]
  exact sm _ _ e
 have zat:∀(lo hi:Option Int),okS B (cutS z lo hi):=λlo hi=>hz.cut lo hi
 have cl:∀(lo hi:Option Int),(cutS z lo hi).length≤z.length:=λlo hi=>cutS_le z lo hi
 have put:∀(x:Str),okS (2*B+30) x->okTs (n+1) (2*B+30) (ts.set at_ x):=λx hx=>hok.set hx (by omega)
 have hp1:∀x:Str,(upd H1 p (.lst ((ts.map V.str).set at_ (.str x)))) p=some (.lst ((ts.set at_ x).map V.str)):=λx=>by rw[upd_same,List.map_set]
 unfold G7
 refine sxs_cons (sx_if ?_)
 walk_at "ex"
 refine ifD (λh=>?_) (λh=>?_)
 .have hw':way=4:=V.int.inj h
  refine sxs_one (sx_setI (by rfl) (by rfl) (by rfl) (by intro _;rfl) ?_)
  walk_at "ex"
  refine s_str (by omega) ?_
  walk_at "ex"
  have c1:=cl none (some pl)
  have c2:=cl (some pl) none
  have l2:=len_app (cutS z none (some pl)) sgs
  refine o_addS (by omega) ?_
  walk_at "ex"
  refine s_str (by omega) ?_
  refine o_addS (by omega) ?_
  walk_at "ex"
  refine⟨p,ts.map V.str,(at_:Int),at_,rfl,rfl,ep,by rw[hlm];exact ixN_nat hat,?_⟩
  exact s5 _ _ _ _ _ (.inr (by omega)) (upd1 sm1) (hp1 _) (put _ ((((zat none (some pl)).app hso).app (zat (some pl) none)).mono (by omega)))
 .have hw':¬way=4:=λe=>h (by rw[e])
  exact sxs_nil (nx (by omega))
end
end K71
namespace K71
open PySem L2 PyProof.Rows My Vl Lw
section
variable{P:Program}{w:World}{K:PySem.W.Frag}{mg:Str->Option Value}{base:Heap}
theorem map_erase{α β:Type}(f:α->β):∀(l:List α) (i:Nat),(l.map f).eraseIdx i=(l.eraseIdx i).map f
 |[],_=>by simp
 |_::_,0=>rfl
 |x::l,i+1=>by
  show f x::(l.map f).eraseIdx i=f x::(l.eraseIdx i).map f
  rw[map_erase f l i]
theorem m7_3(T:Txt K mg){f:Addr}{cdv:Value}{A:Around}{outer:List Env}{s:Shared}{H H1:Hp}{E:XK}{Q:VK}{a q0 p:Addr}{k:Int}{at_:Nat}{way:Int}{z:Str}{pl:Int}{sgs:Str}{n B:Nat}{ts:List Str}{ns:List Int}(hr:Room true 1 (A.deeper (envOfC "_law_spoiled" (defScope s__law_spoiled) s.heap.objs.size f cdv)))(F:F7 K H H1 a p k at_ z pl sgs n B ts ns)(s4:S7 P w K mg base f cdv A outer s H E Q a q0 p k at_ way z pl sgs n B 4)(nx:4≤way->G7 P w K mg base f cdv A outer s H E Q a q0 p k at_ way z pl sgs 10 none none none H1)(hw:3≤way):G7 P w K mg base f cdv A outer s H E Q a q0 p k at_ way z pl sgs 9 none none none H1:=by
 obtain⟨sm1,hp,ep,S1,hl,hk0,hk1,hok,hn,hB,hat,hg,hz,x0,x1,hso,hsl⟩:=F
 have nd:=sc__law_spoiled.nd
 have n1:=T.n_len
 have n2:=T.n_list
 have hsz:sizeLine=16777216:=sizeLine_eq
 have lb:(Str.ofString " ").length=1:=by decide+kernel
 have D1:Def P w K mg base true 1 "_law_draw" ["_law_script","_law_k","_law_many"] (spDraw K):=d__law_draw T
 have htl:=hok.1
 have hzl:=hz.1
 have hlm:(ts.map V.str).length=ts.length:=List.length_map ..
 have SP:SqL K H1 p (ts.map V.str):=SqL.of ep
 have upd1:∀{H':Hp} {o:HO},Same H H'->Same H (upd H' p o):=λsm d o e=>by
  rw[upd_ne (ne_of_none e hp)]
  exact sm _ _ e
 have zat:∀(lo hi:Option Int),okS B (cutS z lo hi):=λlo hi=>hz.cut lo hi
 have cl:∀(lo hi:Option Int),(cutS z lo hi).length≤z.length:=λlo hi=>cutS_le z lo hi
 have put:∀(x:Str),okS (2*B+30) x->okTs (n+1) (2*B+30) (ts.set at_ x):=λx hx=>hok.set hx (by omega)
 have hp1:∀x:Str,(upd H1 p (.lst ((ts.map V.str).set at_ (.str x)))) p=some (.lst ((ts.set at_ x).map V.str)):=λx=>by rw[upd_same,List.map_set]
 unfold G7
 refine sxs_cons (sx_if ?_)
 walk_at "ex"
 refine ifD (λh=>?_) (λh=>?_)
 .have hw':way=3:=V.int.inj h
  refine sxs_cons ?_
  walk_at "s"
  walk_at "ex"
  rw[hlm]
  refine⟨a,ns,k+4,_,rfl,S1,hl,by omega,by omega,by omega,?_⟩
  have u0:=drawF_nn ns (k+4) (m:=(ts.length:Int)) (by omega)
  have u1:=drawF_lt ns (k+4) (m:=(ts.length:Int)) (by omega)
  generalize drawF ns (k+4) (ts.length:Int)=uv at u0 u1⊢
  obtain⟨ui,rfl⟩:=Int.eq_ofNat_of_zero_le u0
  have hug:ts[ui]? =some ts[ui]:=List.getElem?_eq_getElem (show ui<ts.length by omega)
  have huo:=hok.2 (ts[ui]'(by omega)) (List.getElem_mem _)
  generalize ts[ui]'(by omega)=y at hug huo
  refine sxs_cons (sx_setI (by rfl) (by rfl) (by rfl) (by intro _;rfl) ?_)
  walk_at "ex"
  refine i_list SP (atI_nat (v:=V.str y) (by rw[List.getElem?_map,hug];rfl)) ?_
  walk_at "ex"
  refine⟨p,ts.map V.str,(at_:Int),at_,rfl,rfl,ep,by rw[hlm];exact ixN_nat hat,?_⟩
  have e2:=hp1 y
  have sm2:Same H (upd H1 p (.lst ((ts.map V.str).set at_ (.str y)))):=upd1 sm1
  generalize upd H1 p (.lst ((ts.map V.str).set at_ (.str y)))=H2 at e2 sm2⊢
  refine sxs_one (sx_setI (by rfl) (by rfl) (by rfl) (by intro _;rfl) ?_)
  walk_at "ex"
  refine⟨p,(ts.set at_ y).map V.str,(ui:Int),ui,rfl,rfl,e2,by rw[List.length_map,List.length_set];exact ixN_nat (by omega),?_⟩
  refine s4 ((ts.set at_ y).set ui z) _ _ _ _ (.inr (by omega)) (upd1 sm2) (by simp only[upd_same,List.map_set]) ⟨by rw[List.length_set,List.length_set];omega,λx hx=>?_⟩
  rcases List.mem_or_eq_of_mem_set hx with hx |rfl
  .rcases List.mem_or_eq_of_mem_set hx with hx |rfl
   .exact(hok.2 x hx).mono (by omega)
   .exact huo.mono (by omega)
  .exact hz.mono (by omega)
 .have hw':¬way=3:=λe=>h (by rw[e])
  exact sxs_nil (nx (by omega))
theorem m7_2(T:Txt K mg){f:Addr}{cdv:Value}{A:Around}{outer:List Env}{s:Shared}{H H1:Hp}{E:XK}{Q:VK}{a q0 p:Addr}{k:Int}{at_:Nat}{way:Int}{z:Str}{pl:Int}{sgs:Str}{n B:Nat}{ts:List Str}{ns:List Int}(hr:Room true 1 (A.deeper (envOfC "_law_spoiled" (defScope s__law_spoiled) s.heap.objs.size f cdv)))(F:F7 K H H1 a p k at_ z pl sgs n B ts ns)(s3:S7 P w K mg base f cdv A outer s H E Q a q0 p k at_ way z pl sgs n B 3)(nx:3≤way->G7 P w K mg base f cdv A outer s H E Q a q0 p k at_ way z pl sgs 9 none none none H1)(hw:2≤way):G7 P w K mg base f cdv A outer s H E Q a q0 p k at_ way z pl sgs 8 none none none H1:=by
 obtain⟨sm1,hp,ep,S1,hl,hk0,hk1,hok,hn,hB,hat,hg,hz,x0,x1,hso,hsl⟩:=F
 have nd:=sc__law_spoiled.nd
 have n1:=T.n_len
 have n2:=T.n_list
 have hsz:sizeLine=16777216:=sizeLine_eq
 have lb:(Str.ofString " ").length=1:=by decide+kernel
 have D1:Def P w K mg base true 1 "_law_draw" ["_law_script","_law_k","_law_many"] (spDraw K):=d__law_draw T
 have htl:=hok.1
 have hzl:=hz.1
 have hlm:(ts.map V.str).length=ts.length:=List.length_map ..
 have SP:SqL K H1 p (ts.map V.str):=SqL.of ep
 have upd1:∀{H':Hp} {o:HO},Same H H'->Same H (upd H' p o):=λsm d o e=>by
  rw[upd_ne (ne_of_none e hp)]
  exact sm _ _ e
 have zat:∀(lo hi:Option Int),okS B (cutS z lo hi):=λlo hi=>hz.cut lo hi
 have cl:∀(lo hi:Option Int),(cutS z lo hi).length≤z.length:=λlo hi=>cutS_le z lo hi
 have put:∀(x:Str),okS (2*B+30) x->okTs (n+1) (2*B+30) (ts.set at_ x):=λx hx=>hok.set hx (by omega)
 have hp1:∀x:Str,(upd H1 p (.lst ((ts.map V.str).set at_ (.str x)))) p=some (.lst ((ts.set at_ x).map V.str)):=λx=>by rw[upd_same,List.map_set]
 unfold G7
 refine sxs_cons (sx_if ?_)
 walk_at "ex"
 refine ifD (λh=>?_) (λh=>?_)
 .have hw':way=2:=V.int.inj h
  refine sxs_one (sx_expr (by rfl) (ev_bm PySem.F.plainAttrs_list PySem.F.slot_list_pop PySem.F.type_list_pop (by rfl) (by rfl) (by rfl) (by rfl) (by rfl) ?_))
  walk_at "e"
  refine⟨.inl ⟨rfl,_,SP⟩,?_⟩
  walk_at "ex"
  obtain⟨jx,g1,g2,g3,_⟩:=atI_get (xs:=ts.map V.str) (i:=(at_:Int)) (v:=V.str z) (atI_nat (by rw[List.getElem?_map,hg];rfl))
  refine mt_by mt_popAt ⟨p,ts.map V.str,(at_:Int),jx,.str z,rfl,rfl,ep,by omega,by omega,g1,g2,?_⟩
  refine s3 (ts.eraseIdx jx) _ _ _ _ (.inr (by omega)) (upd1 sm1) (by rw[upd_same,map_erase]) ⟨by have :=List.length_eraseIdx_le ts jx;omega,λx hx=>(hok.2 x (List.mem_of_mem_eraseIdx hx)).mono (by omega)⟩
 .have hw':¬way=2:=λe=>h (by rw[e])
  exact sxs_nil (nx (by omega))
theorem m7_1(T:Txt K mg){f:Addr}{cdv:Value}{A:Around}{outer:List Env}{s:Shared}{H H1:Hp}{E:XK}{Q:VK}{a q0 p:Addr}{k:Int}{at_:Nat}{way:Int}{z:Str}{pl:Int}{sgs:Str}{n B:Nat}{ts:List Str}{ns:List Int}(hr:Room true 1 (A.deeper (envOfC "_law_spoiled" (defScope s__law_spoiled) s.heap.objs.size f cdv)))(F:F7 K H H1 a p k at_ z pl sgs n B ts ns)(s2:S7 P w K mg base f cdv A outer s H E Q a q0 p k at_ way z pl sgs n B 2)(nx:2≤way->G7 P w K mg base f cdv A outer s H E Q a q0 p k at_ way z pl sgs 8 none none none H1)(hw:1≤way):G7 P w K mg base f cdv A outer s H E Q a q0 p k at_ way z pl sgs 7 none none none H1:=by
 obtain⟨sm1,hp,ep,S1,hl,hk0,hk1,hok,hn,hB,hat,hg,hz,x0,x1,hso,hsl⟩:=F
 have nd:=sc__law_spoiled.nd
 have n1:=T.n_len
 have n2:=T.n_list
 have hsz:sizeLine=16777216:=sizeLine_eq
 have lb:(Str.ofString " ").length=1:=by decide+kernel
 have D1:Def P w K mg base true 1 "_law_draw" ["_law_script","_law_k","_law_many"] (spDraw K):=d__law_draw T
 have htl:=hok.1
 have hzl:=hz.1
 have hlm:(ts.map V.str).length=ts.length:=List.length_map ..
 have SP:SqL K H1 p (ts.map V.str):=SqL.of ep
 have upd1:∀{H':Hp} {o:HO},Same H H'->Same H (upd H' p o):=λsm d o e=>by
  rw[upd_ne (ne_of_none e hp)]
  exact sm _ _ e
 have zat:∀(lo hi:Option Int),okS B (cutS z lo hi):=λlo hi=>hz.cut lo hi
 have cl:∀(lo hi:Option Int),(cutS z lo hi).length≤z.length:=λlo hi=>cutS_le z lo hi
 have put:∀(x:Str),okS (2*B+30) x->okTs (n+1) (2*B+30) (ts.set at_ x):=λx hx=>hok.set hx (by omega)
 have hp1:∀x:Str,(upd H1 p (.lst ((ts.map V.str).set at_ (.str x)))) p=some (.lst ((ts.set at_ x).map V.str)):=λx=>by rw[upd_same,List.map_set]
 unfold G7
 refine sxs_cons (sx_if ?_)
 walk_at "ex"
 refine ifD (λh=>?_) (λh=>?_)
 .have hw':way=1:=V.int.inj h
  refine sxs_one (sx_expr (by rfl) (ev_bm PySem.F.plainAttrs_list PySem.F.slot_list_insert PySem.F.type_list_insert (by rfl) (by rfl) (by rfl) (by rfl) (by rfl) ?_))
  walk_at "e"
  refine⟨.inl ⟨rfl,_,SP⟩,?_⟩
  walk_at "ex"
  refine mt_by mt_insert ⟨p,ts.map V.str,at_,_,rfl,rfl,ep,by omega,by omega,?_⟩
  exact s2 (insAt ts at_ z) _ _ _ _ (.inr (by omega)) (upd1 sm1) (by rw[upd_same,map_ins]) (hok.ins (hz.mono (by omega)) (by omega))
 .have hw':¬way=1:=λe=>h (by rw[e])
  exact sxs_nil (nx (by omega))
theorem m7_0(T:Txt K mg){f:Addr}{cdv:Value}{A:Around}{outer:List Env}{s:Shared}{H H1:Hp}{E:XK}{Q:VK}{a q0 p:Addr}{k:Int}{at_:Nat}{way:Int}{z:Str}{pl:Int}{sgs:Str}{n B:Nat}{ts:List Str}{ns:List Int}(hr:Room true 1 (A.deeper (envOfC "_law_spoiled" (defScope s__law_spoiled) s.heap.objs.size f cdv)))(F:F7 K H H1 a p k at_ z pl sgs n B ts ns)(s1:S7 P w K mg base f cdv A outer s H E Q a q0 p k at_ way z pl sgs n B 1)(nx:1≤way->G7 P w K mg base f cdv A outer s H E Q a q0 p k at_ way z pl sgs 7 none none none H1)(hw:0≤way):G7 P w K mg base f cdv A outer s H E Q a q0 p k at_ way z pl sgs 6 none none none H1:=by
 obtain⟨sm1,hp,ep,S1,hl,hk0,hk1,hok,hn,hB,hat,hg,hz,x0,x1,hso,hsl⟩:=F
 have nd:=sc__law_spoiled.nd
 have n1:=T.n_len
 have n2:=T.n_list
 have hsz:sizeLine=16777216:=sizeLine_eq
 have lb:(Str.ofString " ").length=1:=by decide+kernel
 have D1:Def P w K mg base true 1 "_law_draw" ["_law_script","_law_k","_law_many"] (spDraw K):=d__law_draw T
 have htl:=hok.1
 have hzl:=hz.1
 have hlm:(ts.map V.str).length=ts.length:=List.length_map ..
 have SP:SqL K H1 p (ts.map V.str):=SqL.of ep
 have upd1:∀{H':Hp} {o:HO},Same H H'->Same H (upd H' p o):=λsm d o e=>by
  rw[upd_ne (ne_of_none e hp)]
  exact sm _ _ e
 have zat:∀(lo hi:Option Int),okS B (cutS z lo hi):=λlo hi=>hz.cut lo hi
 have cl:∀(lo hi:Option Int),(cutS z lo hi).length≤z.length:=λlo hi=>cutS_le z lo hi
 have put:∀(x:Str),okS (2*B+30) x->okTs (n+1) (2*B+30) (ts.set at_ x):=λx hx=>hok.set hx (by omega)
 have hp1:∀x:Str,(upd H1 p (.lst ((ts.map V.str).set at_ (.str x)))) p=some (.lst ((ts.set at_ x).map V.str)):=λx=>by rw[upd_same,List.map_set]
 unfold G7
 refine sxs_cons (sx_if ?_)
 walk_at "ex"
 refine ifD (λh=>?_) (λh=>?_)
 .have hw':way=0:=V.int.inj h
  refine sxs_cons ?_
  walk_at "s"
  walk_at "ex"
  refine⟨by show 9≤sizeLine;omega,λd hd=>?_⟩
  have sm3:Same H1 (upd H1 d (.lst (odd9.map V.str))):=Same.upd hd
  have ed:(upd H1 d (.lst (odd9.map V.str))) d=some (.lst (odd9.map V.str)):=upd_same
  change SXs _ _ _ _ (upd H1 d (.lst (odd9.map V.str)))
  generalize upd H1 d (.lst (odd9.map V.str))=H3 at sm3 ed⊢
  have S3:=sm3.seq S1
  have ep3:=sm3 _ _ ep
  refine sxs_one (sx_expr (by rfl) (ev_bm PySem.F.plainAttrs_list PySem.F.slot_list_insert PySem.F.type_list_insert (by rfl) (by rfl) (by rfl) (by rfl) (by rfl) ?_))
  walk_at "e"
  refine⟨.inl ⟨rfl,_,SqL.of ep3⟩,?_⟩
  walk_at "ex"
  refine⟨a,ns,k+4,2,rfl,S3,hl,by omega,by omega,by decide,?_⟩
  have u0:=drawF_nn ns (k+4) (m:=2) (by decide)
  have u1:=drawF_lt ns (k+4) (m:=2) (by decide)
  generalize drawF ns (k+4) 2=uv at u0 u1⊢
  obtain⟨ui,rfl⟩:=Int.eq_ofNat_of_zero_le u0
  walk_at "ex"
  refine⟨a,ns,k+5,9,rfl,S3,hl,by omega,by omega,by decide,?_⟩
  have v0:=drawF_nn ns (k+5) (m:=9) (by decide)
  have v1:=drawF_lt ns (k+5) (m:=9) (by decide)
  generalize drawF ns (k+5) 9=vv at v0 v1⊢
  obtain⟨vi,rfl⟩:=Int.eq_ofNat_of_zero_le v0
  have hvi:vi<odd9.length:=by show vi<9;omega
  have hvg:odd9[vi]? =some odd9[vi]:=List.getElem?_eq_getElem hvi
  have hvo:okS 25 odd9[vi]:=odd9_ok odd9[vi] (List.getElem_mem hvi)
  generalize odd9[vi]=y at hvg hvo
  refine i_list (SqL.of ed) (atI_nat (v:=V.str y) (by rw[List.getElem?_map,hvg];rfl)) ?_
  walk_at "ex"
  rw[show(at_:Int)+(ui:Int)=((at_+ui:Nat):Int)by omega]
  refine mt_by mt_insert ⟨p,ts.map V.str,at_+ui,_,rfl,rfl,ep3,by omega,by omega,?_⟩
  exact s1 (insAt ts (at_+ui) y) _ _ _ _ (.inr (by omega)) (upd1 (sm1.trans sm3)) (by rw[upd_same,map_ins]) (hok.ins (hvo.mono (by omega)) (by omega))
 .have hw':¬way=0:=λe=>h (by rw[e])
  exact sxs_nil (nx (by omega))
end
end K71
namespace K71
open PySem L2 PyProof.Rows My Vl Lw
section
variable{P:Program}{w:World}{K:PySem.W.Frag}{mg:Str->Option Value}{base:Heap}
theorem d__law_spoiled(T:Txt K mg):Def P w K mg base true 2 "_law_spoiled" ["_law_script","_law_k","_law_texts"] (spSpoil7 K):=by
 refine df__law_spoiled T (λvs H Q E h=>by obtain⟨a,ns,k,q0,ts,n,B,rfl,_⟩:=h;rfl) (λf cdv A outer s H vs Q E hr h=>?_)
 obtain⟨a,ns,k,q0,ts,n,B,rfl,hS,hl,hk0,hk1,hq0,hok,hts,hn,hB,q⟩:=h
 have nd:=sc__law_spoiled.nd
 have n1:=T.n_len
 have n2:=T.n_list
 have hsz:sizeLine=16777216:=sizeLine_eq
 have lb:(Str.ofString " ").length=1:=by decide+kernel
 have D1:Def P w K mg base true 1 "_law_draw" ["_law_script","_law_k","_law_many"] (spDraw K):=d__law_draw T
 have htl:=hok.1
 refine sxs_cons ?_
 walk_at "s"
 walk_at "ex"
 refine c_list (.inl (SqL.of hq0)) λp hp=>?_
 have sm1:Same H (upd H p (.lst (ts.map V.str))):=Same.upd hp
 have ep:(upd H p (.lst (ts.map V.str))) p=some (.lst (ts.map V.str)):=upd_same
 generalize upd H p (.lst (ts.map V.str))=H1 at sm1 ep⊢
 have SP:SqL K H1 p (ts.map V.str):=SqL.of ep
 have hlm:(ts.map V.str).length=ts.length:=List.length_map ..
 have S1:=sm1.seq hS
 refine sxs_cons ?_
 walk_at "s"
 walk_at "ex"
 rw[hlm]
 refine⟨a,ns,k,_,rfl,S1,hl,by omega,by omega,by omega,?_⟩
 have j0:=drawF_nn ns k (m:=(ts.length:Int)) (by omega)
 have j1:=drawF_lt ns k (m:=(ts.length:Int)) (by omega)
 generalize drawF ns k (ts.length:Int)=av at j0 j1⊢
 obtain⟨at_,rfl⟩:=Int.eq_ofNat_of_zero_le j0
 have hat:at_<ts.length:=by omega
 refine sxs_cons ?_
 walk_at "s"
 walk_at "ex"
 refine⟨a,ns,k+1,9,rfl,S1,hl,by omega,by omega,by decide,?_⟩
 have w0:=drawF_nn ns (k+1) (m:=9) (by decide)
 have w1:=drawF_lt ns (k+1) (m:=9) (by decide)
 generalize drawF ns (k+1) 9=way at w0 w1⊢
 have hg:ts[at_]? =some ts[at_]:=List.getElem?_eq_getElem hat
 generalize ts[at_]=z at hg
 have hz:=hok.2 z (List.mem_of_getElem? hg)
 have hzl:=hz.1
 refine sxs_cons ?_
 walk_at "s"
 walk_at "ex"
 refine i_list SP (atI_nat (v:=V.str z) (by rw[List.getElem?_map,hg];rfl)) ?_
 refine sxs_cons ?_
 walk_at "s"
 walk_at "ex"
 refine⟨a,ns,k+2,_,rfl,S1,hl,by omega,by omega,by omega,?_⟩
 have x0:=drawF_nn ns (k+2) (m:=(z.length:Int)+1) (by omega)
 have x1:=drawF_lt ns (k+2) (m:=(z.length:Int)+1) (by omega)
 generalize drawF ns (k+2) ((z.length:Int)+1)=pl at x0 x1⊢
 refine sxs_cons ?_
 walk_at "s"
 walk_at "ex"
 refine⟨a,ns,k+3,17,rfl,S1,hl,by omega,by omega,by decide,?_⟩
 have y0:=drawF_nn ns (k+3) (m:=17) (by decide)
 have y1:=drawF_lt ns (k+3) (m:=17) (by decide)
 generalize drawF ns (k+3) 17=sv at y0 y1⊢
 obtain⟨si,rfl⟩:=Int.eq_ofNat_of_zero_le y0
 have l17:sgn17.cps.toList.length=17:=by decide+kernel
 have hsi:si<sgn17.cps.toList.length:=by omega
 have hsg:sgn17.cps.toList[si]? =some sgn17.cps.toList[si]:=List.getElem?_eq_getElem hsi
 have hsm:sgn17.cps.toList[si]∈sgn17.cps.toList:=List.getElem_mem hsi
 generalize sgn17.cps.toList[si]=sg at hsg hsm
 refine i_str (z:=sgn17) (by decide+kernel) (atI_nat (j:=si) hsg) ?_
 have hso:okS 1 (⟨#[sg]⟩:Str):=⟨Nat.le_refl _,λc hc=>by
  have :c=sg:=by simpa using hc
  rw[this]
  exact sgn17_ok sg hsm⟩
 have hsl:(⟨#[sg]⟩:Str).length=1:=rfl
 generalize(⟨#[sg]⟩:Str)=sgs at hso hsl
 have hF:F7 K H H1 a p k at_ z pl sgs n B ts ns:=⟨sm1,hp,ep,S1,hl,hk0,hk1,hok,hn,hB,hat,hg,hz,x0,x1,hso,hsl⟩
 obtain⟨s8,s7,s6,s5,s4,s3,s2,s1⟩:=skip7 (way:=way) (k:=k) (at_:=at_) (z:=z) (pl:=pl) (sgs:=sgs) (a:=a) (q0:=q0) (p:=p) (P:=P) (w:=w) (base:=base) (outer:=outer) (E:=E) T hr hp q
 have g7:7≤way->_:=λh=>m7_7 T hr hF s8 (by omega)
 exact m7_0 T hr hF s1 (λh=>m7_1 T hr hF s2 (λh=>m7_2 T hr hF s3 (λh=>m7_3 T hr hF s4 (λh=>m7_4 T hr hF s5 (λh=>m7_5 T hr hF s6 (λh=>m7_6 T hr hF s7 g7 h) h) h) h) h) h) w0
end
end K71
namespace K71
open PySem L2 PyProof.Rows My Vl Lw
section
variable{P:Program}{w:World}{K:PySem.W.Frag}{mg:Str->Option Value}{base:Heap}
theorem readV_lay{kd y:Str}{x:V}(hrv:readV kd y=some x)(hyl:y.length≤4000):layV x:=by
 unfold readV at hrv
 split at hrv
 .cases hrv;exact⟨rfl,λz e=>by cases e⟩
 .split at hrv
  .cases e:readNum y.cps.toList with
   |none=>rw[e]at hrv;cases hrv
   |some i=>rw[e]at hrv;cases hrv;exact⟨rfl,λz e=>by cases e⟩
  .unfold readTxt at hrv
   split at hrv
   .next hh=>
    cases hrv
    have h9:=(isTxt_iff _).mp hh.2
    exact⟨rfl,λz e=>by cases e;exact okS.sg (by omega) h9.2⟩
   .cases hrv
theorem restW_mem{ws:List Str}{y:Str}(h:y∈restW ws):y∈ws:=by
 unfold restW at h
 split at h
 .exact List.mem_of_mem_drop (List.dropLast_subset _ h)
 .exact List.mem_of_mem_drop h
theorem rowF_lay{cs:List Col}{z:Str}{r:LRow}(h:rowF cs z=some r)(hz:z.length≤4000):∀x∈r.2.1,layV x:=by
 unfold rowF rowW1 at h
 split at h
 .cases h
 .split at h
  .cases h
  .next xs hv=>
   cases h
   intro x hx
   unfold valsF at hv
   split at hv
   .obtain⟨hl,hg⟩:=mapO_get hv
    obtain⟨i,hi,rfl⟩:=List.getElem_of_mem hx
    have hi2:i<(cs.zip (restW (cutT 32 z))).length:=by rw[hl];exact hi
    obtain⟨y,hy,hr⟩:=hg i _ (List.getElem?_eq_getElem hi2)
    rw[List.getElem?_eq_getElem hi]at hy
    cases hy
    have hm:=List.getElem_mem hi2
    generalize(cs.zip (restW (cutT 32 z)))[i]=cy at hr hm
    obtain⟨c,y⟩:=cy
    have hlen:=cutT_short (restW_mem (List.of_mem_zip hm).2)
    exact readV_lay (y:=y) hr (Nat.le_trans hlen hz)
   .cases hv
theorem markB_lay{w:Str}{ts:List Str}{i:Nat}(h:∀z∈ts,okS 2000 z):layV (markB w ts i):=by
 unfold markB
 split
 .next z hz=>
  split
  .exact⟨rfl,λy e=>by cases e;exact((h z (List.mem_of_getElem? hz)).cut _ _).mono (by decide)⟩
  .exact⟨rfl,λy e=>by cases e⟩
 .exact⟨rfl,λy e=>by cases e⟩
theorem PageOk.lay{cs:List Col}{ts:List Str}{L:Leaf}(h:PageOk cs ts L)(ht:∀z∈ts,okS 2000 z):layR L.rows/\layV L.back/\layV L.forth:=by
 obtain⟨_,hr,_,hb,hf⟩:=h
 refine⟨λr hm=>?_,by rw[hb];exact markB_lay ht,by rw[hf];exact markB_lay ht⟩
 obtain⟨i,hi,rfl⟩:=List.getElem_of_mem hm
 obtain⟨z,hz,e⟩:=hr.2 i _ (List.getElem?_eq_getElem hi)
 exact rowF_lay e (by have :=(ht z (List.mem_of_getElem? hz)).1;omega)
def OutP(cs:List Col)(ts:List Str)(H:Hp)(p:Addr):Prop:=(∃n:Nat,PageBad cs ts n/\H p=some (.tup [.str (Str.ofString "page"),.int n]))\/∃L,PageOk cs ts L/\LeafAt H p L
theorem OutP.same{cs:List Col}{ts:List Str}{H H':Hp}{p:Addr}(h:OutP cs ts H p)(s:Same H H'):OutP cs ts H' p:=by
 rcases h with⟨n,b,e⟩ |⟨L,o,l⟩
 .exact .inl ⟨n,b,s _ _ e⟩
 .exact .inr ⟨L,o,l.same s⟩
def dPage(n:Nat):PyData:=.tuple [.str (Str.ofString "page"),.int n]
theorem dPage_lay(n:Nat):(dPage n).canLay0=true:=by
 show((PyData.str (Str.ofString "page")).canLay0&&true)=true
 rw[show(PyData.str (Str.ofString "page")).canLay0=true by decide+kernel]
 rfl
theorem dPage_dep(n:Nat):(dPage n).depth≤60:=by
 simp only[dPage,PyData.depth,PyData.depthAll]
 omega
theorem dPage_rd{H:Hp}{p:Addr}{n:Nat}(e:H p=some (.tup [.str (Str.ofString "page"),.int n])):RD K H (.ref p) (dPage n):=.tup (SqT.of e) (.cons (rd_sca (v:=.str (Str.ofString "page")) rfl) (.cons (.int _) .nil))
theorem out_two{cs:List Col}{ts:List Str}{H:Hp}{p1 p2:Addr}(h1:OutP cs ts H p1)(h2:OutP cs ts H p2)(ht:∀z∈ts,okS 2000 z):∃d,RD K H (.ref p1) d/\RD K H (.ref p2) d/\d.canLay0=true/\d.depth≤60:=by
 rcases h1 with⟨n,b1,e1⟩ |⟨L,o1,l1⟩
 .rcases h2 with⟨m,b2,e2⟩ |⟨M,o2,l2⟩
  .have e:=page_bad_uniq b1 b2
   subst e
   exact⟨_,dPage_rd e1,dPage_rd e2,dPage_lay n,dPage_dep n⟩
  .exact(page_ok_bad o2 b1).elim
 .rcases h2 with⟨m,b2,e2⟩ |⟨M,o2,l2⟩
  .exact(page_ok_bad o1 b2).elim
  .have e:=page_ok_uniq o1 o2
   subst e
   obtain⟨g1,g2,g3⟩:=o1.lay ht
   exact⟨_,leaf_rd l1 g1 g2 g3,leaf_rd l2 g1 g2 g3,leaf_lay g1 g2 g3,leaf_dep L⟩
theorem out_none{cs:List Col}{H:Hp}{p:Addr}(h:OutP cs [] H p):H p=some (.tup [.str (Str.ofString "page"),.int (0:Nat)]):=by
 have hn:headF []=none:=rfl
 rcases h with⟨n,b,e⟩ |⟨L,o,_⟩
 .rcases b with⟨_,rfl⟩ |⟨_,_,_,_,b,_⟩
  .exact e
  .rw[hn]at b;cases b
 .have :=o.1
  rw[hn]at this
  cases this
theorem out_six{cs:List Col}{ts:List Str}{H:Hp}{p:Addr}{L:Leaf}(h:OutP cs ts H p)(g:PageOk cs ts L):LeafAt H p L:=by
 rcases h with⟨n,b,e⟩ |⟨M,o,l⟩
 .exact(page_ok_bad g b).elim
 .rw[page_ok_uniq g o]
  exact l
theorem due_by{H:Hp}{Q:V->Hp->Prop}{E:XK}{b a:Addr}{cs:List Col}{ts:List Str}(hC:Cols H b cs)(hk:kinds2 cs)(hS:SqL K H a (ts.map V.str))(ht:txts ts)(q:∀p H',Same H H'->OutP cs ts H' p->Q (.ref p) H'):spDue7 K [.ref b,.ref a] H Q E:=
 ⟨b,cs,a,ts,rfl,hC,hk.2.1,hk.2.2,hS,ht,λn p H' h _ s e=>q p H' s (.inl ⟨n,h,e⟩),λL p H' h s e=>q p H' s (.inr ⟨L,h,e⟩)⟩
theorem asked_by{H:Hp}{Q:V->Hp->Prop}{E:XK}{b a:Addr}{cs:List Col}{ts:List Str}(hC:Cols H b cs)(hk:kinds2 cs)(hS:SqL K H a (ts.map V.str))(ht:txts ts)(q:∀p H',Same H H'->OutP cs ts H' p->Q (.ref p) H'):spAsked7 K [.ref b,.ref a] H Q E:=
 ⟨b,cs,a,ts,rfl,hC,hk.2.1,hS,ht,λn p H' h s e=>q p H' s (.inl ⟨n,h,e⟩),λL p H' h s e=>q p H' s (.inr ⟨L,h,e⟩)⟩
theorem cols_copy{H:Hp}{b:Addr}{cs:List Col}(h:Cols H b cs):∃cv,H b=some (.lst cv)/\∀q,H q=none->Cols (upd H q (.lst cv)) q cs/\Same H (upd H q (.lst cv)):=by
 obtain⟨cv,e,hcv⟩:=h
 exact⟨cv,e,λq hq=>⟨⟨cv,upd_same,hcv.imp λu c x=>x.same (Same.upd hq)⟩,Same.upd hq⟩⟩
end
end K71
namespace K71
open PySem L2 PyProof.Rows My Vl Lw
section
variable{P:Program}{w:World}{K:PySem.W.Frag}{mg:Str->Option Value}{base:Heap}
theorem law_fn(T:Txt K mg){f:Addr}{fd:FuncData}(F:Fun K "law" "law" s_law f fd):FnOk P w K mg base (CX1 P w) true 60 f fd ["_law_script"] (spLaw K):=by
 refine fn_sx F sc_law (λvs H Q E h=>by obtain⟨a,ns,rfl,_⟩:=h;rfl) (λcdv A outer s H vs Q E hr h=>?_)
 obtain⟨a,ns,rfl,hS,hl,q⟩:=h
 have nd:=sc_law.nd
 have n1:=T.n_list
 have n2:=T.n_len
 have n3:=T.n_range
 have hu:=hr.units
 have hsz:sizeLine=16777216:=sizeLine_eq
 have D0:Def P w K mg base true 1 "_law_draw" ["_law_script","_law_k","_law_many"] (spDraw K):=d__law_draw T
 have D1:Def P w K mg base true 3 "_law_columns" ["_law_script"] (spCols2 K):=d__law_columns T
 have D2:Def P w K mg base true 4 "_law_made" ["_law_script","_law_columns_here"] (spMade7 K):=d__law_made T
 have D3:Def P w K mg base true 3 "_law_due" ["_law_columns_here","_law_texts"] (spDue7 K):=d__law_due T
 have D4:Def P w K mg base true 9 "_law_asked" ["_law_columns_here","_law_texts"] (spAsked7 K):=d__law_asked T
 have D5:Def P w K mg base true 2 "_law_spoiled" ["_law_script","_law_k","_law_texts"] (spSpoil7 K):=d__law_spoiled T
 refine sxs_cons ?_
 walk_at "s"
 walk_at "ex"
 refine⟨a,ns,rfl,hS,hl,λb cs H1 sm1 hbn hC hok=>?_⟩
 have hk:=kinds2_of hok
 refine sxs_cons ?_
 walk_at "s"
 walk_at "ex"
 refine⟨a,ns,b,cs,rfl,sm1.seq hS,hl,hC,hk,λp L H2 sm2 hpn hp hg hoT=>?_⟩
 have hpo:=page_good hk hg
 generalize pageT L=tg at hp hoT hpo
 have hgt:txts tg:=hoT.txts (by decide) (by decide)
 have hgo:∀z∈tg,okS 2000 z:=λz hz=>(hoT.2 z hz).mono (by decide)
 refine sxs_cons ?_
 walk_at "s"
 walk_at "ex"
 refine due_by (hC.same sm2) hk (SqL.of hp) hgt λd H3 sm3 hd=>?_
 have hC3:=(hC.same sm2).same sm3
 have hp3:=sm3 _ _ hp
 have hS3:=((sm1.trans sm2).trans sm3).seq hS
 have hL3:=out_six hd hpo
 clear hC sm1 sm2 sm3 hp hpn hbn hS
 obtain⟨d0,ed,_⟩:=id hL3
 obtain⟨cv,ec,ccp⟩:=cols_copy hC3
 refine sxs_cons (sx_if ?_)
 walk_at "ex"
 refine c_list (.inl (SqL.of ec)) λc4 hc4=>?_
 obtain⟨hC4,sm4⟩:=ccp c4 hc4
 generalize upd H3 c4 (.lst cv)=H4 at hC4 sm4⊢
 walk_at "ex"
 refine c_list (.inl (SqL.of (sm4 _ _ hp3))) λg5 hg5=>?_
 have sm5:Same H4 (upd H4 g5 (.lst (tg.map V.str))):=Same.upd hg5
 have eg5:(upd H4 g5 (.lst (tg.map V.str))) g5=some (.lst (tg.map V.str)):=upd_same
 generalize upd H4 g5 (.lst (tg.map V.str))=H5 at sm5 eg5⊢
 walk_at "ex"
 refine asked_by (hC4.same sm5) hk (SqL.of eg5) hgt λr6 H6 sm6 h6=>?_
 have sm36:=(sm4.trans sm5).trans sm6
 walk_at "ex"
 obtain⟨dd,R1,R2,ly,dp⟩:=out_two (K:=K) h6 (hd.same sm36) hgo
 refine o_neD hu R1 R2 ly ly dp ?_
 rw[SeqAt.eqv_refl _ ly]
 walk_at "ex"
 refine c_len (.inr (SqT.of (sm36 _ _ ed))) ?_
 walk_at "ex"
 rw[show(!decide (V.int ((([V.ref d0,L.back,L.forth,V.int L.many,V.int L.ahead,V.int L.moment]:List V).length:Nat):Int)=V.int 6))=false from congrArg (! ·) (decide_eq_true rfl)]
 walk_at "ex"
 refine sxs_nil (sxs_cons ?_)
 walk_at "s"
 walk_at "ex"
 refine c_list (.inl (SqL.of (sm36 _ _ hp3))) λt7 ht7=>?_
 have sm7:Same H6 (upd H6 t7 (.lst (tg.map V.str))):=Same.upd ht7
 have et7:(upd H6 t7 (.lst (tg.map V.str))) t7=some (.lst (tg.map V.str)):=upd_same
 generalize upd H6 t7 (.lst (tg.map V.str))=H7 at sm7 et7⊢
 have sm37:=sm36.trans sm7
 clear sm4 sm5 sm6 sm36 sm7 R1 R2 ly dp hC4 eg5 hg5 hc4 ht7 h6
 refine sxs_cons (sx_forR (by walk_at "po") (by rfl) (by rfl) n3 (by rfl) ?_)
 walk_at "ex"
 refine⟨a,ns,16,2,rfl,sm37.seq hS3,hl,by decide,by decide,by decide,?_⟩
 have j0:=drawF_nn ns 16 (m:=2) (by decide)
 have j1:=drawF_lt ns 16 (m:=2) (by decide)
 generalize drawF ns 16 2=jv at j0 j1⊢
 walk_at "ex"
 refine⟨by omega,by omega,λi σ H'=>(∃o5 t,σ=[some (.ref a),some (.ref b),some (.ref p),some (.ref d),some (.ref t),o5,none]/\∃ts:List Str,H' t=some (.lst (ts.map V.str))/\okTs (7+i) (if i=0 then 250 else if i=1 then 530 else 1090) ts)/\Same H3 H',⟨⟨none,t7,rfl,tg,et7,hoT⟩,sm37⟩,λi σ H' hi hP=>?_,λσ H' hP=>?_⟩
 .obtain⟨⟨o5,t,rfl,ts,et,hts⟩,sm⟩:=hP
  have hi2:i<2:=by omega
  have hlm:(ts.map V.str).length=ts.length:=List.length_map ..
  refine eg_name nd (by rfl) (.inl rfl) (.inl rfl) ?_
  have SP:SqL K H' t (ts.map V.str):=SqL.of et
  refine sxs_one (sx_if ?_)
  walk_at "ex"
  rw[hlm]
  refine ifD (λh=>?_) (λh=>?_)
  .have h0:0<ts.length:=by
    have :(0:Int)<(ts.length:Int):=h
    omega
   refine sxs_one ?_
   walk_at "s"
   walk_at "ex"
   refine⟨a,ns,_,t,ts,7+i,_,rfl,sm.seq hS3,hl,by omega,by omega,et,hts,h0,by omega,by split <;>(try split)<;>omega,λt' ts' H9 sm9 _ et' hts'=>?_⟩
   refine⟨⟨_,t',rfl,ts',et',?_⟩,sm.trans sm9⟩
   rcases i with _ |_ |i
   .exact hts'
   .exact hts'
   .omega
  .have h0:ts.length=0:=by
    have :¬(0:Int)<(ts.length:Int):=h
    omega
   have :ts=[]:=List.length_eq_zero_iff.mp h0
   subst this
   exact sxs_nil ⟨⟨_,t,rfl,[],et,by show(0:Nat)≤_;omega,λz hz=>by cases hz⟩,sm⟩
 .obtain⟨⟨o5,t,rfl,ts,et,hts0⟩,sm⟩:=hP
  have hts:okTs 9 1090 ts:=⟨by have :=hts0.1;omega,λz hz=>(hts0.2 z hz).mono (by split <;>(try split)<;>omega)⟩
  clear hts0
  have htt:txts ts:=hts.txts (by decide) (by decide)
  have hto:∀z∈ts,okS 2000 z:=λz hz=>(hts.2 z hz).mono (by decide)
  have playV:∀x∈ts.map V.str,sca x=true/\∀z,x= .str z->okS 4000 z:=λx hx=>by
   obtain⟨z,hz,rfl⟩:=List.mem_map.mp hx
   exact⟨rfl,λy e=>by cases e;exact(hto z hz).mono (by decide)⟩
  have plall:(ts.map V.str).all sca=true:=List.all_eq_true.mpr λx hx=>(playV x hx).1
  have play:=vals_lay playV
  have pdep:=vals_dep (ts.map V.str)
  refine sxs_cons ?_
  walk_at "s"
  walk_at "ex"
  refine c_list (.inl (SqL.of et)) λh1 hh1=>?_
  have s1:Same H' (upd H' h1 (.lst (ts.map V.str))):=Same.upd hh1
  have eh1:(upd H' h1 (.lst (ts.map V.str))) h1=some (.lst (ts.map V.str)):=upd_same
  generalize upd H' h1 (.lst (ts.map V.str))=K1 at s1 eh1⊢
  have sk1:=sm.trans s1
  have et1:=s1 _ _ et
  clear s1 sm et hh1
  refine sxs_cons (sx_if ?_)
  walk_at "ex"
  obtain⟨cv2,ec2,ccp2⟩:=cols_copy (hC3.same sk1)
  refine c_list (.inl (SqL.of ec2)) λc2 hc2=>?_
  obtain⟨hC2,s2⟩:=ccp2 c2 hc2
  generalize upd K1 c2 (.lst cv2)=K2 at hC2 s2⊢
  walk_at "ex"
  refine asked_by hC2 hk (SqL.of (s2 _ _ eh1)) htt λr3 K3 s3 h3=>?_
  have s13:=s2.trans s3
  walk_at "ex"
  refine due_by ((hC3.same sk1).same s13) hk (SqL.of (s13 _ _ et1)) htt λd4 K4 s4 h4=>?_
  have s14:=s13.trans s4
  walk_at "ex"
  obtain⟨dd,R1,R2,ly,dp⟩:=out_two (K:=K) (h3.same s4) h4 hto
  refine o_neD hu R1 R2 ly ly dp ?_
  rw[SeqAt.eqv_refl _ ly]
  walk_at "ex"
  refine o_neD hu (.lst (SqL.of (s14 _ _ eh1)) (rds_sca plall)) (.lst (SqL.of (s14 _ _ et1)) (rds_sca plall)) play play pdep ?_
  rw[SeqAt.eqv_refl _ play]
  walk_at "ex"
  refine sxs_nil (sxs_one (sx_ret ?_))
  have sk4:=sk1.trans s14
  clear R1 R2 ly dp s2 s3 s4 s13 s14 h3 h4 sk1 eh1 et1 hC2 play pdep
  walk_at "ex"
  obtain⟨cv5,ec5,ccp5⟩:=cols_copy (hC3.same sk4)
  refine c_list (.inl (SqL.of ec5)) λc5 hc5=>?_
  obtain⟨hC5,s5⟩:=ccp5 c5 hc5
  generalize upd K4 c5 (.lst cv5)=K5 at hC5 s5⊢
  walk_at "ex"
  refine⟨by show 0≤sizeLine;omega,λe6 he6=>?_⟩
  have s6:Same K5 (upd K5 e6 (.lst [])):=Same.upd he6
  have ee6:(upd K5 e6 (.lst [])) e6=some (.lst (([]:List Str).map V.str)):=upd_same
  generalize upd K5 e6 (.lst [])=K6 at s6 ee6⊢
  walk_at "ex"
  refine asked_by (hC5.same s6) hk (SqL.of ee6) ⟨by decide,λz hz=>by cases hz⟩ λr7 K7 s7 h7=>?_
  have e7:=out_none h7
  walk_at "ex"
  refine⟨by show 2≤sizeLine;omega,λp8 hp8=>?_⟩
  have s8:Same K7 (upd K7 p8 (.tup [.str (Str.ofString "page"),.int (0:Nat)])):=Same.upd hp8
  have e8:(upd K7 p8 (.tup [.str (Str.ofString "page"),.int (0:Nat)])) p8=some (.tup [.str (Str.ofString "page"),.int (0:Nat)]):=upd_same
  refine o_eqD hu (dPage_rd (s8 _ _ e7)) (dPage_rd e8) (dPage_lay 0) (dPage_lay 0) (dPage_dep 0) ?_
  rw[SeqAt.eqv_refl _ (dPage_lay 0)]
  have sk8:=(((sk4.trans s5).trans s6).trans s7).trans s8
  clear s5 s6 s7 s8 sk4
  generalize upd K7 p8 (.tup [.str (Str.ofString "page"),.int (0:Nat)])=K8 at sk8⊢
  walk_at "ex"
  obtain⟨cv9,ec9,ccp9⟩:=cols_copy (hC3.same sk8)
  refine c_list (.inl (SqL.of ec9)) λc9 hc9=>?_
  obtain⟨hC9,s9⟩:=ccp9 c9 hc9
  generalize upd K8 c9 (.lst cv9)=K9 at hC9 s9⊢
  walk_at "ex"
  refine asked_by hC9 hk (SqL.of ((sk8.trans s9) _ _ hp3)) hgt λr10 K10 s10 h10=>?_
  walk_at "ex"
  obtain⟨dd,R1,R2,ly,dp⟩:=out_two (K:=K) h10 (hd.same ((sk8.trans s9).trans s10)) hgo
  refine o_eqD hu R1 R2 ly ly dp ?_
  rw[SeqAt.eqv_refl _ ly]
  exact q _
end
end K71
namespace PySem.W.Fast
def tw12519008390389625274:Unit:=()
def tw6183674601980553276:Unit:=()
def tw28130219907884102:Unit:=()
def tw13874085993989529029:Unit:=()
def tw12554976553036003559:Unit:=()
def tw5768319982273398233:Unit:=()
def tw16150612876546980380:Unit:=()
def tw6064814148302019786:Unit:=()
def tw8709375537650486315:Unit:=()
def tw1265600105309672848:Unit:=()
def tw15009792758870330018:Unit:=()
def tw11320801582936403498:Unit:=()
def tw1221846823042310894:Unit:=()
def tw10837729233947794844:Unit:=()
def tw4495671162187356992:Unit:=()
def tw9678903632980920479:Unit:=()
def tw2689235098904844574:Unit:=()
def tw3718821077013356552:Unit:=()
def tw13975057080286188335:Unit:=()
def tw5635275760907869441:Unit:=()
def tw7923461945022388255:Unit:=()
def tw7605007185591087399:Unit:=()
def tw12074978589792585882:Unit:=()
def tw14949064123492410119:Unit:=()
def tw4527910453592165178:Unit:=()
def tw12302173368228491831:Unit:=()
def tw11212332281179779544:Unit:=()
def tw16672363058196469116:Unit:=()
def tw2752427168742126713:Unit:=()
def tw5889880429999582509:Unit:=()
def tw16661769864097604570:Unit:=()
def tw6358230569087949834:Unit:=()
def tw3277979282504248334:Unit:=()
def tw5828290464140626:Unit:=()
def tw18388880672075414248:Unit:=()
def tw15189863274499491458:Unit:=()
def tw13046450672751872383:Unit:=()
def tw4250511243456172241:Unit:=()
def tw9205442150186077324:Unit:=()
def tw15993902019826280608:Unit:=()
def tw11084268009005688654:Unit:=()
def tw6796131630955276070:Unit:=()
def tw3895205804201130245:Unit:=()
def tw9039663187703829834:Unit:=()
def tw8540548850704501200:Unit:=()
def tw1150926425272826667:Unit:=()
def tw953658454451162360:Unit:=()
def tw7241383975859687488:Unit:=()
def tw8226109176999244478:Unit:=()
def tw15043514475998395340:Unit:=()
end PySem.W.Fast
namespace K71
open PySem L2 PyProof.Rows
end K71
open PySem PySem.W PyProof.Rows
set_option maxRecDepth 100000 in
set_option maxHeartbeats 0 in
theorem PySem.Challenge.cw_turnleaf_k71_pages_refused_holds : PySem.Challenge.rw_turnleaf_k71_pages_refused.Holds := by
 w_on;o_law;k_head;(case hw=>w_witness2)
 k_fill
 refine L2.walk_of (l:=PySem.Challenge.rw_turnleaf_k71_pages_refused) (n:=63) (k:=60) (x:="_law_script") (CX:=λw=>L2.CX1 PySem.Challenge.rw_turnleaf_k71_pages_refused.prog w) (cc:=true) (sp:=λw=>L2.spLaw _) rfl (by decide) rfl ⟨λ_=>rfl,by decide,by decide⟩ (λw h Y=>PySem.W.kIn_of Y) ?F (λ_ _ a ns hl _ hS=>⟨a,ns,rfl,hS,hl,λ_=>rfl⟩) (λ_ _ _ _ _ z=>L2.CX1.never z)
 case F=>
  intro w mg fa h KX G hmg
  have T:K71.Txt (L2.KOf KX) mg:=by
   dsimp only[L2.KOf]
   constructor
   all_goals first |refine' L2.t_def KX G .. |refine' L2.t_str KX G .. |refine' L2.t_int KX G .. |refine' L2.t_non KX G .. |refine' L2.t_cls KX G .. |refine' L2.t_exc KX G .. |refine' L2.t_xc KX G .. |refine' L2.t_ini KX G .. |refine' L2.t_k KX G .. |refine' L2.t_om KX G .. |refine' L2.t_na KX G .. |refine' L2.t_oi KX G .. |refine' L2.t_fnd KX G .. |refine' L2.t_pair KX G .. |refine' L2.t_top KX G .. |refine' L2.t_ot KX G .. |refine' L2.t_ob KX G .. |refine' L2.t_nd (mg:=mg) (L2.t_cl KX G ?_ (L2.t_cl KX G ?_ (L2.t_cl KX G ?_ (L2.t_cl KX G ?_ (L2.t_cl KX G ?_ (L2.t_cl KX G ?_ (L2.t_cl KX G ?_ (L2.t_cl KX G ?_ (L2.t_cl KX G ?_ (L2.t_cl KX G ?_ (L2.t_cl KX G ?_ (L2.t_cl KX G ?_ (L2.t_cl KX G ?_ (L2.t_cl KX G ?_ (L2.t_cl KX G ?_ L2.ClsL.nil))))))))))))))) ?_
   any_goals try delta L2.NsA
   any_goals try delta L2.LkF
   any_goals first |k_is |k_exc |kernel_rfl |decide
  obtain⟨f,fd,F,hm⟩:=T.d_law
  have e0:=hmg.symm.trans hm
  cases e0
  obtain⟨oc,od,kV,doc,pm,an,cdv,ct,osl,rfl,lk,hcd⟩:=id F.ex
  exact⟨_,λs u=>.of_eq rfl,λbase kb nb=>K71.law_fn T F⟩
#print axioms PySem.Challenge.cw_turnleaf_k71_pages_refused_holds
