import PyProof.Rows.All
import Wide.All
import OpenK.AllK
import Wide.FinOn
import Lean
import PyProof.EqAt
import PyProof.EqKinds
import PyProof.TupleCall
import PyProof.NeData
import PyProof.ZipIter
import PyProof.WalksEnum
import PyProof.Rows.SetFrom
import PyProof.StrLawsTight
import PyProof.StrLawsChain
import PyProof.StrCalls2
import PyProof.ListStr
import PyProof.Rows.StrOrd
import KE.KRevIter
import PyProof.ExcInit
import PyProof.InstStoreFacts
import PyProof.ExcArgs
import PyProof.ExcAttrAll.ValueError
import PyProof.NsDelKeeps
import PyProof.RulesAs
import OpenK.KCls
import PyProof.Rows.TupAssign
import PyProof.StrLawsIn
import KE.KDictSum
import PyProof.DictWalks
import PyProof.Rows.CountFlat
import PySem.Challenge.RW_turnleaf_k38_whole_bent_marks
set_option maxHeartbeats 4000000
set_option Elab.async false
set_option linter.all false
set_option maxRecDepth 100000
namespace L2
open PySem PySem.Spec PyProof.Rows
theorem at1{α:Type}{us:List α}(h:us.length=1):∃a,us=[a]:=match us,h with |[a],_=>⟨a,rfl⟩
theorem at2{α:Type}{us:List α}(h:us.length=2):∃a b,us=[a,b]:=match us,h with |[a,b],_=>⟨a,b,rfl⟩
theorem at3{α:Type}{us:List α}(h:us.length=3):∃a b c,us=[a,b,c]:=match us,h with |[a,b,c],_=>⟨a,b,c,rfl⟩
theorem at4{α:Type}{us:List α}(h:us.length=4):∃a b c d,us=[a,b,c,d]:=match us,h with |[a,b,c,d],_=>⟨a,b,c,d,rfl⟩
theorem at5{α:Type}{us:List α}(h:us.length=5):∃a b c d e,us=[a,b,c,d,e]:=match us,h with |[a,b,c,d,e],_=>⟨a,b,c,d,e,rfl⟩
theorem at6{α:Type}{us:List α}(h:us.length=6):∃a b c d e f,us=[a,b,c,d,e,f]:=match us,h with |[a,b,c,d,e,f],_=>⟨a,b,c,d,e,f,rfl⟩
abbrev Key:=Sum Int Str
def abe:Key->Value->Bool
 | .inl k,v=>Value.isInt k v
 | .inr x,v=>Value.isStrOf x v
def alM(w:World):Key->Int
 | .inl k=>hashInt k
 | .inr x=>hashStr w x
theorem cW:∀{k:Key} {v:Value},abe k v=true->(∃i t,k=Sum.inl i/\v=Value.int i t)\/(∃x t,k=Sum.inr x/\v=Value.str x t)
 | .inl i,v,h=>by
   obtain⟨t,e⟩:=Value.isInt_shape (k:=i) (v:=v) h
   exact .inl ⟨i,t,rfl,e⟩
 | .inr x,v,h=>by
   obtain⟨t,e⟩:=Value.isStrOf_shape (x:=x) (v:=v) h
   exact .inr ⟨x,t,rfl,e⟩
theorem ab2(a b:Int):decide ((Sum.inl a:Key)=Sum.inl b)=(a==b):=by
 by_cases e:a=b
 .subst e;simp
 .have h:¬(Sum.inl a:Key)=Sum.inl b:=λq=>e (Sum.inl.inj q)
  rw[decide_eq_false h]
  exact(beq_eq_false_iff_ne.mpr e).symm
theorem afJ(a b:Str):decide ((Sum.inr a:Key)=Sum.inr b)=decide (a=b):=by
 by_cases e:a=b
 .subst e;simp
 .have h:¬(Sum.inr a:Key)=Sum.inr b:=λq=>e (Sum.inr.inj q)
  rw[decide_eq_false h,decide_eq_false e]
theorem afl(a:Int)(b:Str):decide ((Sum.inl a:Key)=Sum.inr b)=false:=decide_eq_false (λq=>nomatch q)
theorem agp(a:Str)(b:Int):decide ((Sum.inr a:Key)=Sum.inl b)=false:=decide_eq_false (λq=>nomatch q)
def De(prog:Program)(w:World):PySem.KeyKind prog w Key where
 is:=abe
 hash:=alM w
 inj:=λv a b ha hb=>by
  rcases cW ha with⟨i,t,rfl,rfl⟩ |⟨x,t,rfl,rfl⟩
  .rcases cW hb with⟨j,u,rfl,e⟩ |⟨y,u,rfl,e⟩
   .injection e with e1 _;rw[e1]
   .exact nomatch e
  .rcases cW hb with⟨j,u,rfl,e⟩ |⟨y,u,rfl,e⟩
   .exact nomatch e
   .injection e with e1 _;rw[e1]
 byValue:=λk v h=>by
  rcases cW h with⟨i,t,rfl,rfl⟩ |⟨x,t,rfl,rfl⟩<;>rfl
 pyHash:=λhv h=>by
  rcases cW hv with⟨i,t,rfl,rfl⟩ |⟨x,t,rfl,rfl⟩
  .exact wpAny_pyHash_int h
  .exact wpAny_pyHash_str h
 eqBool:=λhu hv h=>by
  rcases cW hu with⟨i,t,rfl,rfl⟩ |⟨x,t,rfl,rfl⟩
  .rcases cW hv with⟨j,u,rfl,rfl⟩ |⟨y,u,rfl,rfl⟩
   .rw[ab2]at h;exact wpAny_eqBool_int h
   .rw[afl]at h;exact SeqAt.EqAt.int_str i t y u _ _ _ _ h
  .rcases cW hv with⟨j,u,rfl,rfl⟩ |⟨y,u,rfl,rfl⟩
   .rw[agp]at h;exact SeqAt.EqAt.str_int x t j u _ _ _ _ h
   .rw[afJ]at h;exact wpAny_eqBool_str h
 «strs» :=λk x t v h=>by
  rcases cW h with⟨i,u,rfl,e⟩ |⟨y,u,rfl,e⟩
  .exact nomatch e
  .injection e with e1 _
   subst e1
   cases v<;>rfl
inductive V where
 |non |bl (b:Bool) |int (i:Int) |str (x:Str) |byt (b:Array UInt8) |flt (b:UInt64) |ref (a:Addr) |ty (n:String)
 deriving DecidableEq
def RelV:V->Value->Prop
 | .non,u=>u=Value.none
 | .bl b,u=>u=Value.bool b
 | .int i,u=>∃t,u=Value.int i t
 | .str x,u=>∃t,u=Value.str x t
 | .byt b,u=>∃t,u=Value.bytes b t
 | .flt b,u=>∃t,u=Value.float b t
 | .ref a,u=>u=Value.ref a
 | .ty n,u=>u=Value.type n
abbrev Vals:List V->List Value->Prop:=Paired RelV
theorem Vals.length{xs:List V}{us:List Value}(r:Vals xs us):xs.length=us.length:=Paired.length r
theorem Vals.get:∀{xs:List V} {us:List Value} {i:Nat} {x:V},Vals xs us->xs[i]? =some x->∃u,us[i]? =some u/\RelV x u
 |_,_,_,_,.nil,e=>by simp at e
 |_,_,0,_,.cons r _,e=>by simp at e;subst e;exact⟨_,rfl,r⟩
 |_,_,i+1,x,.cons _ t,e=>by
  obtain⟨u,h1,h2⟩:=Vals.get (i:=i) (x:=x) t (by simpa using e)
  exact⟨u,by simpa using h1,h2⟩
theorem Vals.append:∀{xs ys:List V} {us ws:List Value},Vals xs us->Vals ys ws->Vals (xs++ys) (us++ws)
 |_,_,_,_,.nil,s=>s
 |_,_,_,_,.cons r t,s=>.cons r (Vals.append t s)
theorem Vals.take:∀{xs:List V} {us:List Value} (n:Nat),Vals xs us->Vals (xs.take n) (us.take n)
 |_,_,0,_=>.nil
 |_,_,_+1,.nil=>.nil
 |_,_,n+1,.cons r t=>.cons r (Vals.take n t)
theorem Vals.drop:∀{xs:List V} {us:List Value} (n:Nat),Vals xs us->Vals (xs.drop n) (us.drop n)
 |_,_,0,r=>r
 |_,_,_+1,.nil=>.nil
 |_,_,n+1,.cons _ t=>Vals.drop n t
def yF:Option V->Option Value->Prop
 |some v,some u=>RelV v u
 |none,none=>True
 |_,_=>False
def KV{κ:Type}:List (κ×V)->List (κ×Value)->Prop:=Paired λ(p:κ×V) (q:κ×Value)=>p.1=q.1/\RelV p.2 q.2
def kV:Key->V
 | .inl i=>.int i
 | .inr x=>.str x
inductive HO where
 |lst (xs:List V)
 |tup (xs:List V)
 |dK (kvs:List (Key×V)) |dT (kvs:List (List Key×V))
 |set (S:Int->Bool) (n:Nat)
 |ins (C dx:Addr) (fs:List (Str×V))
 |own (x:Addr)
 |xd (fs:List (Str×V))
 |met (f x:Addr)
 |rng (lo hi:Int)
 |frz (o:Obj) (u:HO)
 |tbl (ps:Array Value)
 |ext (φ:Heap->Prop)
abbrev Hp:=Addr->Option HO
def upd(H:Hp)(a:Addr)(o:HO):Hp:=λb=>if b=a then some o else H b
theorem ao{H:Hp}{a:Addr}{o:HO}:upd H a o a=some o:=by unfold upd;rw[if_pos rfl]
theorem aB{H:Hp}{a b:Addr}{o:HO}(h:b≠a):upd H a o b=H b:=by unfold upd;rw[if_neg h]
theorem au{H:Hp}{a b:Addr}{o:HO}(h:H a=some o)(h':H b=none):a≠b:=by
 intro e;subst e;rw[h]at h';cases h'
section
variable(P:Program)(w:World)
def d7(H:Hp)(h:Heap)(a:Addr):HO->Prop
 | .lst xs=>xs.length≤sizeLine/\∃(its:List Value) (n:Nat),Vals xs its/\h.get? a=some {cls:=.type "list",data:=.seq its.toArray n}
 | .tup xs=>xs.length≤sizeLine/\∃its:List Value,Vals xs its/\IsTup h a its.toArray
 | .dK kvs=>kvs.length≤sizeLine/\(a==sysModules)=false/\∃vs,KV kvs vs/\h.DictOf (De P w) a vs
 | .dT kvs=>kvs.length≤sizeLine/\(a==sysModules)=false/\∃xs:List (List Key×Addr×Value),
   Paired (λ(p:List Key×V) (q:List Key×Addr×Value)=>p.1=q.1/\H q.2.1=some (.tup (p.1.map kV))/\RelV p.2 q.2.2) kvs xs/\
   ∃o es ep,h.get? a=some o/\o.ExactDict/\o.data= .dict es ep/\es.toList=xs.map (entryOfKey (tupleKind (De P w)))/\(xs.map (·.1)).Nodup
 | .set S n=>h.SetOf (intKind P w) a S n
 | .ins C dx fs=>H dx=some (.own a)/\fs.length≤1000/\dx≠a/\h.get? a=some (W.instObj C dx)/\
   ∃mA,h.Ns1 dx mA/\(∀f,yF (fs.lookup f) (mA f))/\PySem.Within mA (fs.map (·.1))
 | .own _=>∃o,h.get? a=some o
 | .xd fs=>∃mA,h.Ns1 a mA/\∀f,yF (fs.lookup f) (mA f)
 | .rng lo hi=>∃t u v,h.get? a=some {cls:=.type "range",data:=.fields #[.int lo t,.int hi u,.int 1 v]}
 | .frz o u=>h.get? a=some o/\d7 H h a u
 | .tbl ps=>h.get? a=some {cls:=.none,data:=.fields ps}
 | .met f x=>h.get? a=some (W.methodObj (.ref f) (.ref x))
 | .ext φ=>φ h/\(∃o,h.get? a=some o)/\∀h1 h2:Heap,φ h1->(∀o,h1.get? a=some o->h2.get? a=some o)->φ h2
def uY(H:Hp)(h:Heap):Prop:=∀a o,H a=some o->d7 P w H h a o
end
section
variable{P:Program}{w:World}{H H':Hp}{h h':Heap}{a:Addr}{o:HO}
theorem d7.lt(x:d7 P w H h a o):a<h.objs.size:=by
 cases o with
 |lst xs=>obtain⟨_,_,_,_,e⟩:=x;exact Heap.lt_size e
 |tup xs=>obtain⟨_,_,_,p⟩:=x;exact p.lt
 |dK kvs=>obtain⟨_,_,_,_,o,_,_,e,_⟩:=x;exact Heap.lt_size e
 |dT kvs=>obtain⟨_,_,_,_,o,_,_,e,_⟩:=x;exact Heap.lt_size e
 |set S n=>obtain⟨o,_,_,_,e,_⟩:=x;exact Heap.lt_size e
 |ins C dx fs=>obtain⟨_,_,_,e,_⟩:=x;exact Heap.lt_size e
 |own y=>obtain⟨_,e⟩:=x;exact Heap.lt_size e
 |xd fs=>obtain⟨_,⟨_,_,_,e,_⟩,_⟩:=x;exact Heap.lt_size e
 |rng lo hi=>obtain⟨_,_,_,e⟩:=x;exact Heap.lt_size e
 |frz ob u=>obtain⟨e,_⟩:=x;exact Heap.lt_size e
 |tbl ps=>exact Heap.lt_size (show h.get? a=some _ from x)
 |met f y=>exact Heap.lt_size (show h.get? a=some _ from x)
 |ext φ=>obtain⟨_,⟨_,e⟩,_⟩:=x;exact Heap.lt_size e
theorem Paired.mapP{α β:Type}{F G:α->β->Prop}:∀{l₁:List α} {l₂:List β},Paired F l₁ l₂->(∀a b,F a b->G a b)->Paired G l₁ l₂
 |_,_,.nil,_=>.nil
 |_,_,.cons r t,f=>.cons (f _ _ r) (Paired.mapP t f)
theorem d7.stay(x:d7 P w H h a o)(k:∀b u,(b=a\/H b=some (.own a))->h.get? b=some u->h'.get? b=some u)
  (ho:∀b,H b=some (.own a)->H' b=some (.own a)) (ht:∀b xs,H b=some (.tup xs)->H' b=some (.tup xs)):d7 P w H' h' a o:=by
 induction o with
 |lst xs=>obtain⟨z,its,n,r,e⟩:=x;exact⟨z,its,n,r,k _ _ (.inl rfl) e⟩
 |tup xs=>obtain⟨z,its,r,ob,e,c⟩:=x;exact⟨z,its,r,ob,k _ _ (.inl rfl) e,c⟩
 |dK kvs=>obtain⟨z,y,vs,r,ob,es,ep,e,c⟩:=x;exact⟨z,y,vs,r,ob,es,ep,k _ _ (.inl rfl) e,c⟩
 |dT kvs=>
  obtain⟨z,y,xs,r,ob,es,ep,e,c⟩:=x
  exact⟨z,y,xs,Paired.mapP r λp q z=>⟨z.1,ht _ _ z.2.1,z.2.2⟩,ob,es,ep,k _ _ (.inl rfl) e,c⟩
 |set S n=>obtain⟨ob,es,ep,t,e,c⟩:=x;exact⟨ob,es,ep,t,k _ _ (.inl rfl) e,c⟩
 |ins C dx fs=>
  obtain⟨d,z,ne,e,mA,⟨od,es,ep,e2,c⟩,r⟩:=x
  exact⟨ho _ d,z,ne,k _ _ (.inl rfl) e,mA,⟨od,es,ep,k _ _ (.inr d) e2,c⟩,r⟩
 |own y=>obtain⟨ob,e⟩:=x;exact⟨ob,k _ _ (.inl rfl) e⟩
 |xd fs=>obtain⟨mA,⟨od,es,ep,e,c⟩,r⟩:=x;exact⟨mA,⟨od,es,ep,k _ _ (.inl rfl) e,c⟩,r⟩
 |rng lo hi=>obtain⟨t,u,v,e⟩:=x;exact⟨t,u,v,k _ _ (.inl rfl) e⟩
 |frz ob u ih=>obtain⟨e,q⟩:=x;exact⟨k _ _ (.inl rfl) e,ih q⟩
 |tbl ps=>
  have e:h.get? a=some {cls:=.none,data:=.fields ps}:=x
  show h'.get? a=some {cls:=.none,data:=.fields ps}
  exact k a _ (.inl rfl) e
 |met f y=>
  have e:h.get? a=some (W.methodObj (.ref f) (.ref y)):=x
  show h'.get? a=some (W.methodObj (.ref f) (.ref y))
  exact k a _ (.inl rfl) e
 |ext φ=>obtain⟨p,⟨o,e⟩,st⟩:=x;exact⟨st _ _ p λo q=>k _ _ (.inl rfl) q,⟨o,k _ _ (.inl rfl) e⟩,st⟩
theorem uY.lt(x:uY P w H h)(e:H a=some o):a<h.objs.size:=(x a o e).lt
theorem uY.fresh(x:uY P w H h)(e:h.objs.size≤a):H a=none:=by
 cases q:H a with
 |none=>rfl
 |some u=>exact absurd (Nat.lt_of_lt_of_le (x.lt q) e) (Nat.lt_irrefl _)
theorem uY.kept(x:uY P w H h)(k:∀b u,h.get? b=some u->h'.get? b=some u):uY P w H h':=λa o e=>
 (x a o e).stay (λb u _ q=>k b u q) (λ_ q=>q) λ_ _ q=>q
theorem uY.laid(x:uY P w H h)(k:∀b u,h.get? b=some u->h'.get? b=some u)(hp:h.objs.size≤a)(new:d7 P w (upd H a o) h' a o):uY P w (upd H a o) h':=λb u e=>by
 have hn:=x.fresh hp
 by_cases hb:b=a
 .subst hb;rw[ao]at e;cases e;exact new
 .rw[aB hb]at e
  exact(x b u e).stay (λc v _ q=>k c v q) (λc q=>by rw[aB (au q hn)];exact q) λc xs q=>by rw[aB (au q hn)];exact q
end
def Rd(H:Hp)(a:Addr)(u:HO):Prop:=H a=some u\/∃o,H a=some (.frz o u)
theorem Rd.ok{P:Program}{w:World}{H:Hp}{h:Heap}{a:Addr}{u:HO}(r:Rd H a u)(x:uY P w H h):d7 P w H h a u:=by
 rcases r with r |⟨o,r⟩
 .exact x a u r
 .obtain⟨_,q⟩:=x a _ r
  exact q
def Mut:Option HO->Prop
 |some (.lst _)=>True
 |some (.dK _)=>True
 |some (.dT _)=>True
 |some (.set _ _)=>True
 |some (.ins _ _ _)=>True
 |some (.ext _)=>True
 |_=>False
section
variable{P:Program}{w:World}{H:Hp}{h h':Heap}{x e:Addr}{o':HO}
theorem uY.write(ok:uY P w H h)(mu:Mut (H x))(he:e=x\/H e=some (.own x))(k:∀b u,b≠e->h.get? b=some u->h'.get? b=some u)(heo:∃u,h'.get? e=some u)
  (new:d7 P w (upd H x o') h' x o'):uY P w (upd H x o') h':=λb u q=>by
 have nown:∀c y,H c=some (.own y)->c≠x:=λc y r z=>by subst z;rw[r]at mu;exact mu
 have ntup:∀c xs,H c=some (.tup xs)->c≠x:=λc xs r z=>by subst z;rw[r]at mu;exact mu
 by_cases hb:b=x
 .subst hb;rw[ao]at q;cases q;exact new
 .rw[aB hb]at q
  by_cases hbe:b=e
  .have q':H b=some (.own x):=by
    rcases he with z |z
    .exact absurd (hbe.trans z) hb
    .rw[hbe];exact z
   rw[q]at q';cases q'
   obtain⟨v,hv⟩:=heo
   exact⟨v,by rw[hbe];exact hv⟩
  .refine(ok b u q).stay (λc v hc r=>k c v ?_ r) (λc r=>by rw[aB (nown c b r)];exact r) λc xs r=>by rw[aB (ntup c xs r)];exact r
   rcases hc with rfl |hc
   .exact hbe
   .rintro rfl
    rcases he with z |z
    .exact nown c b hc z
    .rw[hc]at z;cases z;exact hb rfl
end
structure Un(fs ex:List Addr)(H H':Hp)(h h':Heap):Prop where
 keep:∀b o,h.get? b=some o->H b=none->b∉fs->b∉ex->h'.get? b=some o
 slot:∀b o,h.get? b=some o->H b=none->b∈fs->b∉ex->∃sl,h'.get? b=some {o with slots:=sl}
 free:∀b o,h.get? b=some o->H b=none->b∉ex->H' b=none
 there:∀b o,h.get? b=some o->b∉ex->∃o',h'.get? b=some o'
 tups:∀b xs,H b=some (.tup xs)->H' b=some (.tup xs)
 frzs:∀b o u,H b=some (.frz o u)->H' b=some (.frz o u)
 tbls:∀b ps,H b=some (.tbl ps)->∃more,H' b=some (.tbl (ps++more))
section
variable{fs fs' ex ex':List Addr}{H H1 H2:Hp}{h h1 h2 h':Heap}{a x e:Addr}{o:HO}
theorem Un.any(u:Un fs ex H H1 h h1){b:Addr}{ob:Obj}(q:h.get? b=some ob)(n:H b=none)(hx:b∉ex):∃sl,h1.get? b=some {ob with slots:=sl}:=by
 by_cases hb:b∈fs
 .exact u.slot b ob q n hb hx
 .exact⟨ob.slots,u.keep b ob q n hb hx⟩
theorem Un.kept(k:∀b u,h.get? b=some u->h'.get? b=some u):Un fs ex H H h h':=
 ⟨λb ob q _ _ _=>k b ob q,λb ob q _ _ _=>⟨ob.slots,k b ob q⟩,λ_ _ _ n _=>n,λb ob q _=>⟨ob,k b ob q⟩,λ_ _ q=>q,λ_ _ _ q=>q,λ_ ps q=>⟨#[],by rw[q];simp⟩⟩
theorem Un.refl:Un fs ex H H h h:=Un.kept λ_ _ q=>q
theorem Un.laid(k:∀b u,h.get? b=some u->h'.get? b=some u)(hp:h.objs.size≤a)(hn:H a=none):Un fs ex H (upd H a o) h h' where
 keep:=λb u q _ _ _=>k b u q
 slot:=λb u q _ _ _=>⟨u.slots,k b u q⟩
 free:=λb u q n _=>by rw[aB (Nat.ne_of_lt (Nat.lt_of_lt_of_le (Heap.lt_size q) hp))];exact n
 there:=λb u q _=>⟨u,k b u q⟩
 tups:=λb xs q=>by rw[aB (au q hn)];exact q
 frzs:=λb u xs q=>by rw[aB (au q hn)];exact q
 tbls:=λb ps q=>⟨#[],by rw[aB (au q hn),q];simp⟩
theorem Un.write(mu:Mut (H x))(he:e=x\/H e=some (.own x))(k:∀b u,b≠e->h.get? b=some u->h'.get? b=some u)(heo:∃u,h'.get? e=some u):Un fs ex H (upd H x o) h h':=by
 have hx:∀b,H b=none->b≠x:=λb n z=>by subst z;rw[n]at mu;exact mu
 have hb:∀b,H b=none->b≠e:=λb n z=>by
  subst z
  rcases he with r |r
  .exact hx b n r
  .rw[n]at r;cases r
 have hm:∀b u,H b=some u->¬Mut (some u)->b≠x:=λb u q nm z=>by subst z;rw[q]at mu;exact nm mu
 refine⟨λb u q n _ _=>k b u (hb b n) q,λb u q n _ _=>⟨u.slots,k b u (hb b n) q⟩,λb u q n _=>by rw[aB (hx b n)];exact n,λb u q _=>?_,
  λb xs q=>by rw[aB (hm b _ q λz=>z)];exact q,λb u xs q=>by rw[aB (hm b _ q λz=>z)];exact q,λb ps q=>⟨#[],by rw[aB (hm b _ q λz=>z),q];simp⟩⟩
 by_cases hbe:b=e
 .subst hbe;exact heo
 .exact⟨u,k b u hbe q⟩
end
def Yd(h:Heap)(H:Hp):List Addr:=(List.range h.objs.size).filter λa=>(H a).isSome
def Eu(h:Heap)(H:Hp):Heap:=W.hideAll h (Yd h H)
theorem QW(h:Heap)(H:Hp):(Eu h H).objs.size=h.objs.size:=W.hideAll_size _ _
theorem Wq{h:Heap}{H:Hp}{b:Addr}{o:Obj}(e:h.get? b=some o)(n:H b=none):(Eu h H).get? b=some o:=
 W.hideAll_get _ e λhm=>by
  have q:(H b).isSome=true:=(List.mem_filter.mp hm).2
  rw[n]at q;simp at q
theorem ZZ{h:Heap}{H:Hp}{b:Addr}{o:Obj}(e:(Eu h H).get? b=some o):h.get? b=some o/\H b=none:=by
 have e':h.get? b=some o:=W.of_hideAll (Yd h H) e
 refine⟨e',?_⟩
 cases q:H b with
 |none=>rfl
 |some x=>
  have hm:b∈Yd h H:=List.mem_filter.mpr ⟨List.mem_range.mpr (Heap.lt_size e'),by simp[q]⟩
  have z:(Eu h H).get? b=none:=W.hideAll_none (Yd h H) hm
  rw[z]at e;cases e
def aao(g h:Heap)(L:Addr):List (Addr×Obj):=(List.range h.objs.size).filterMap λa=>if a=L\/(g.get? a).isSome=true then none else(h.get? a).map λo=>(a,o)
def rest(g h:Heap)(L d:Addr):List (Addr×Obj):=(aao g h L).filter λp=>decide (p.1≠d)
structure Mod(K:W.Frag)(mg:Str->Option Value)(base:Heap):Prop where
 kin:K.In base
 glob:base.Ns mainGlobals mg
 blt:∃mb,base.Ns builtinsNs mb/\∀x:Str,x≠"__name__"->mb x=bootBuiltins x
 nolimit:base.NoLimit
structure Cx where
 prog:Program
 w:World
 K:W.Frag
 mg:Str->Option Value
 base:Heap
 A:Around
 N:List Str
 s₀:Shared
 H₀:Hp
 env:Env
 outer:List Env
 stack:List Env
 ex:List Addr
 fn:Str->Bool
 calm:Bool
 pn:List (Addr×Obj)
 xe:Value->Shared->Prop
def Fw(l:List Env):List Addr:=l.filterMap (·.frame)
abbrev Cx.fs(X:Cx):List Addr:=Fw X.outer
def Vis(sc:Scope)(x:Str):Prop:=sc.names.lookup x=some .local\/sc.names.lookup x=some .cell\/sc.names.lookup x=some .free
def Loc(sc:Scope)(x:Str):Prop:=sc.names.lookup x=some .local\/sc.names.lookup x=some .cell
def Look(env:Env)(h:Heap)(m:Str->Option Value)(x:Str)(u:Value):Prop:=
 (env.kindOf x=some .local/\m x=some u)\/((env.kindOf x=some .cell\/env.kindOf x=some .free)/\∃c,env.cells.lookup x=some c/\h.IsCell c (some u))
structure Cx.Ok(X:Cx):Prop where
 mod:Mod X.K X.mg X.base
 kind:X.env.scope.kind= .function
 glob:X.env.globals=mainGlobals
 blt:X.env.builtins=builtinsNs
 above:X.s₀.heap.objs.size≤X.env.locals
 inj:∀x y c,X.env.cells.lookup x=some c->X.env.cells.lookup y=some c->x=y
 has:∀x,(X.env.kindOf x=some .cell\/X.env.kindOf x=some .free)->∃c,X.env.cells.lookup x=some c
 cab:∀x c,X.fn x=true->X.env.cells.lookup x=some c->X.s₀.heap.objs.size≤c
 hd:X.calm=true->X.A.handled=none
 frames:X.A.frames=some X.stack
 stk:X.stack=X.outer\/(X.stack=X.env::X.outer/\X.env.frame=some X.env.locals)
 exf:∀b∈X.ex,b≠X.env.locals/\∀x c,X.env.cells.lookup x=some c->c≠b
 bs:∀b o,X.base.get? b=some o->X.s₀.heap.get? b=some o/\X.H₀ b=none
 bsz:X.base.objs.size≤X.s₀.heap.objs.size
 noex:∀b o,X.base.get? b=some o->b∉X.ex
 exfs:∀b∈X.ex,b∉X.fs
 funs:X.s₀.heap.FunFrames X.base X.outer
 frf:∀b∈X.fs,X.H₀ b=none
structure Inv(X:Cx)(pins:List (Addr×Obj))(σ:List (Option V))(H:Hp)(s:Shared):Prop where
 ok:X.Ok
 os:s.os=X.s₀.os
 bare:AllBare s.gens
 base:Un X.fs X.ex X.H₀ H X.s₀.heap s.heap
 loc:∃m,s.heap.Ns X.env.locals m/\∀(i:Nat) (x:Str) (v:V),X.N[i]? =some x->σ[i]? =some (some v)->Vis X.env.scope x->∃u,RelV v u/\Look X.env s.heap m x u
 cell:∀x c,X.env.cells.lookup x=some c->∃v,s.heap.IsCell c v
 free:H X.env.locals=none
 freeC:∀x c,X.env.cells.lookup x=some c->H c=none
 pin:∀p∈X.pn++pins,s.heap.get? p.1=some p.2/\H p.1=none/\p.1≠X.env.locals/\p.1∉X.fs/\∀v,p.2.data≠ .cell v
 hok:uY X.prog X.w H s.heap
 len:σ.length=X.N.length
section
variable{X:Cx}{pins:List (Addr×Obj)}{σ:List (Option V)}{H H':Hp}{s:Shared}{h':Heap}
theorem Cx.Ok.nofr(ok:X.Ok){b:Addr}{o:Obj}(e:X.base.get? b=some o):b∉X.fs:=λhb=>by
 have :=(ok.funs.mem hb).1
 rw[e]at this;cases this
theorem Inv.bs(I:Inv X pins σ H s):∀b o,X.base.get? b=some o->s.heap.get? b=some o/\H b=none:=λb o e=>
 ⟨I.base.keep b o (I.ok.bs b o e).1 (I.ok.bs b o e).2 (I.ok.nofr e) (I.ok.noex b o e),I.base.free b o (I.ok.bs b o e).1 (I.ok.bs b o e).2 (I.ok.noex b o e)⟩
theorem Inv.bk(I:Inv X pins σ H s):∀b o,X.base.get? b=some o->s.heap.get? b=some o:=λb o e=>(I.bs b o e).1
theorem Inv.mod(I:Inv X pins σ H s):Mod X.K X.mg X.base:=I.ok.mod
theorem Inv.kIn(I:Inv X pins σ H s):X.K.In s.heap:=I.ok.mod.kin.keeps I.bk
theorem Inv.lt(I:Inv X pins σ H s):X.env.locals<s.heap.objs.size:=let⟨_,hn,_⟩:=I.loc;hn.lt
theorem Inv.sz(I:Inv X pins σ H s):X.s₀.heap.objs.size≤s.heap.objs.size:=Nat.le_trans I.ok.above (Nat.le_of_lt I.lt)
theorem Inv.nofs(I:Inv X pins σ H s){a:Addr}(h:s.heap.objs.size≤a):a∉X.fs:=λhb=>by
 obtain⟨_,o,ho,_⟩:=I.ok.funs.mem hb
 exact absurd (Nat.lt_of_lt_of_le (Heap.lt_size ho) (Nat.le_trans I.sz h)) (Nat.lt_irrefl _)
theorem Inv.cne(I:Inv X pins σ H s):∀x c,X.env.cells.lookup x=some c->c≠X.env.locals:=λx c e z=>by
 obtain⟨v,o,ho,hd⟩:=I.cell x c e
 obtain⟨m,⟨o',es,ep,ho',hd',_⟩,_⟩:=I.loc
 rw[z,ho']at ho;cases ho;rw[hd']at hd;cases hd
theorem Inv.funs(I:Inv X pins σ H s):s.heap.FunFrames X.base X.outer:=by
 have all:∀(l:List Env),(∀b∈Fw l,b∈X.fs)->X.s₀.heap.FunFrames X.base l->s.heap.FunFrames X.base l:=by
  intro l
  induction l with
  |nil=>intro _ _;trivial
  |cons env r ih=>
   intro hs hl
   obtain⟨hk,⟨L,o,hf,hn,ho,hd⟩,hr⟩:=hl
   have hL:L∈X.fs:=hs L (by unfold Fw;rw[List.filterMap_cons,hf];exact List.mem_cons_self)
   obtain⟨sl,e⟩:=I.base.slot L o ho (I.ok.frf L hL) hL λz=>I.ok.exfs L z hL
   exact⟨hk,⟨L,_,hf,hn,e,hd⟩,ih (λb hb=>hs b (by unfold Fw;rw[List.filterMap_cons,hf];exact List.mem_cons_of_mem _ hb)) hr⟩
 exact all X.outer (λ_ hb=>hb) I.ok.funs
theorem Inv.stack(I:Inv X pins σ H s):s.heap.FunFrames X.base X.stack:=by
 rcases I.ok.stk with e |⟨e,hf⟩
 .rw[e];exact I.funs
 .rw[e]
  obtain⟨m,hn,_⟩:=I.loc
  refine .cons (by rw[I.ok.kind];decide) hf hn ?_ I.funs
  exact Heap.get?_none_of_le (Nat.le_trans I.ok.bsz I.ok.above)
theorem Inv.stkSub(I:Inv X pins σ H s):∀b∈Fw X.stack,b∈X.env.locals::X.fs:=λb hb=>by
 rcases I.ok.stk with e |⟨e,hf⟩
 .rw[e]at hb;exact List.mem_cons_of_mem _ hb
 .rw[e]at hb
  unfold Fw at hb
  rw[List.filterMap_cons,hf]at hb
  exact hb
theorem Inv.stkFree(I:Inv X pins σ H s):∀b∈Fw X.stack,H b=none:=λb hb=>by
 rcases List.mem_cons.mp (I.stkSub b hb)with e |hb
 .rw[e];exact I.free
 .obtain⟨_,o,ho,_⟩:=I.ok.funs.mem hb
  exact I.base.free b o ho (I.ok.frf b hb) λz=>I.ok.exfs b z hb
theorem Inv.step{g':Array GenState}{t':Nat}{d':Drawn}{ch:List Addr}(I:Inv X pins σ H s)
  (hch:∀b∈ch,(b∈X.ex\/X.s₀.heap.get? b=none)/\b≠X.env.locals/\(∀x c,X.env.cells.lookup x=some c->c≠b)/\∀p∈X.pn++pins,p.1≠b)
  (keep:∀b o,b≠X.env.locals->b∉X.fs->b∉ch->s.heap.get? b=some o->H b=none->h'.get? b=some o)
  (slot:∀b o,b≠X.env.locals->b∈X.fs->b∉ch->s.heap.get? b=some o->H b=none->∃sl,h'.get? b=some {o with slots:=sl}) (free:∀b o,b∉ch->s.heap.get? b=some o->H b=none->H' b=none)
  (there:∀b o,b∉ch->s.heap.get? b=some o->∃o',h'.get? b=some o')
  (tups:∀b xs,H b=some (.tup xs)->H' b=some (.tup xs)) (frzs:∀b o u,H b=some (.frz o u)->H' b=some (.frz o u)) (tbls:∀b ps,H b=some (.tbl ps)->∃more,H' b=some (.tbl (ps++more)))
  (ns:∀m,s.heap.Ns X.env.locals m->h'.Ns X.env.locals m) (hok:uY X.prog X.w H' h') (hg:AllBare g'):
  Inv X pins σ H' {s with heap:=h',gens:=g',drawn:=d',toks:=t'}:=by
 have neL:∀b o,X.s₀.heap.get? b=some o->b≠X.env.locals:=λb o e=>Nat.ne_of_lt (Nat.lt_of_lt_of_le (Heap.lt_size e) I.ok.above)
 have neC:∀b o,X.s₀.heap.get? b=some o->b∉X.ex->b∉ch:=λb o e hx hb=>by
  rcases(hch b hb).1 with z |z
  .exact hx z
  .rw[e]at z;cases z
 have cellK:∀x c,X.env.cells.lookup x=some c->∀v,s.heap.IsCell c v->h'.IsCell c v:=λx c e v ⟨o,ho,hd⟩=>by
  have nch:c∉ch:=λz=>(hch c z).2.2.1 x c e rfl
  by_cases hc:c∈X.fs
  .obtain⟨sl,q⟩:=slot c o (I.cne x c e) hc nch ho (I.freeC x c e)
   exact⟨_,q,hd⟩
  .exact⟨o,keep c o (I.cne x c e) hc nch ho (I.freeC x c e),hd⟩
 refine⟨I.ok,I.os,hg,⟨λb o e n hb hx=>?_,λb o e n hb hx=>?_,λb o e n hx=>?_,λb o e hx=>?_,λb xs e=>tups b xs (I.base.tups b xs e),λb o xs e=>frzs b o xs (I.base.frzs b o xs e),λb ps e=>?_⟩,?_,λx c e=>?_,?_,λx c e=>?_,λp hp=>?_,hok,I.len⟩
 .exact keep b o (neL b o e) hb (neC b o e hx) (I.base.keep b o e n hb hx) (I.base.free b o e n hx)
 .obtain⟨sl,e1⟩:=I.base.slot b o e n hb hx
  obtain⟨sl',e2⟩:=slot b _ (neL b o e) hb (neC b o e hx) e1 (I.base.free b o e n hx)
  exact⟨sl',e2⟩
 .obtain⟨o',e1⟩:=I.base.there b o e hx
  exact free b o' (neC b o e hx) e1 (I.base.free b o e n hx)
 .obtain⟨o',e1⟩:=I.base.there b o e hx
  exact there b o' (neC b o e hx) e1
 .obtain⟨m1,e1⟩:=I.base.tbls b ps e
  obtain⟨m2,e2⟩:=tbls b _ e1
  exact⟨m1++m2,by rw[e2,Array.append_assoc]⟩
 .obtain⟨m,hn,hl⟩:=I.loc
  refine⟨m,ns m hn,λi x v e1 e2 e3=>?_⟩
  obtain⟨u,r,l⟩:=hl i x v e1 e2 e3
  refine⟨u,r,?_⟩
  rcases l with l |⟨k,c,e,z⟩
  .exact .inl l
  .exact .inr ⟨k,c,e,cellK x c e _ z⟩
 .obtain⟨v,z⟩:=I.cell x c e
  exact⟨v,cellK x c e v z⟩
 .obtain⟨m,⟨o,_,_,ho,_⟩,_⟩:=I.loc
  exact free _ o (λz=>(hch _ z).2.1 rfl) ho I.free
 .obtain⟨v,o,ho,hd⟩:=I.cell x c e
  exact free c o (λz=>(hch c z).2.2.1 x c e rfl) ho (I.freeC x c e)
 .obtain⟨e,n,ne,nf,d⟩:=I.pin p hp
  have nch:p.1∉ch:=λz=>(hch p.1 z).2.2.2 p hp rfl
  exact⟨keep p.1 p.2 ne nf nch e n,free p.1 p.2 nch e n,ne,nf,d⟩
theorem Inv.un{t':Nat}(I:Inv X pins σ H s)(u:Un X.fs [] H H' s.heap h')(hok:uY X.prog X.w H' h'):Inv X pins σ H' {s with heap:=h',toks:=t'}:=by
 obtain⟨m,⟨o,es,ep,ho,r⟩,_⟩:=id I.loc
 obtain⟨sl,hL⟩:=u.any ho I.free (by simp)
 exact I.step (g':=s.gens) (d':=s.drawn) (ch:=[]) (λ_ z=>nomatch z) (λb o _ hb _ e n=>u.keep b o e n hb (by simp)) (λb o _ hb _ e n=>u.slot b o e n hb (by simp)) (λb o _ e n=>u.free b o e n (by simp)) (λb o _ e=>u.there b o e (by simp)) u.tups u.frzs u.tbls (λm' hm=>by
  obtain⟨o',es',ep',ho',r'⟩:=hm
  rw[ho]at ho';cases ho'
  exact⟨_,es',ep',hL,r'⟩) hok I.bare
theorem Inv.call{g':Array GenState}{t':Nat}{d':Drawn}{ch:List Addr}(I:Inv X pins σ H s)(u:Un (Fw X.stack) ch H H' s.heap h')(hok:uY X.prog X.w H' h')(hg:AllBare g')
  (hch:∀b∈ch,(b∈X.ex\/X.s₀.heap.get? b=none)/\b≠X.env.locals/\(∀x c,X.env.cells.lookup x=some c->c≠b)/\∀p∈X.pn++pins,p.1≠b):
  Inv X pins σ H' {s with heap:=h',gens:=g',drawn:=d',toks:=t'}:=by
 obtain⟨m,⟨o,es,ep,ho,r⟩,_⟩:=id I.loc
 obtain⟨sl,hL⟩:=u.any ho I.free λz=>(hch _ z).2.1 rfl
 exact I.step (ch:=ch) hch (λb o hL hb hc e n=>u.keep b o e n (λz=>(List.mem_cons.mp (I.stkSub b z)).elim hL hb) hc) (λb o _ _ hc e n=>u.any e n hc) (λb o hc e n=>u.free b o e n hc) (λb o hc e=>u.there b o e hc) u.tups u.frzs u.tbls (λm' hm=>by
  obtain⟨o',es',ep',ho',r'⟩:=hm
  rw[ho]at ho';cases ho'
  exact⟨_,es',ep',hL,r'⟩) hok hg
theorem Inv.turned{t':Nat}{it:Addr}(I:Inv X pins σ H s)(k:∀b o,b≠it->s.heap.get? b=some o->h'.get? b=some o)(hn:H it=none)(hL:it≠X.env.locals)
  (h1:it∈X.ex\/X.s₀.heap.get? it=none) (h2:∀x c,X.env.cells.lookup x=some c->c≠it) (h3:∀p∈X.pn++pins,p.1≠it):Inv X pins σ H {s with heap:=h',toks:=t'}:=by
 have nit:∀b u,H b=some u->b≠it:=λb u e z=>by rw[z,hn]at e;cases e
 refine I.step (g':=s.gens) (d':=s.drawn) (ch:=[it]) (λb hb=>?_) (λb o _ _ hc e _=>k b o (λz=>hc (by simp[z])) e) (λb o _ _ hc e _=>⟨o.slots,k b o (λz=>hc (by simp[z])) e⟩) (λ_ _ _ _ n=>n)
  (λb o hc e=>⟨o,k b o (λz=>hc (by simp[z])) e⟩) (λ_ _ e=>e) (λ_ _ _ e=>e) (λb ps e=>⟨#[],by rw[e];simp⟩) (λm hm=>?_) (λb u e=>?_) I.bare
 .have e:b=it:=by simpa using hb
  subst e
  exact⟨h1,hL,h2,h3⟩
 .obtain⟨o,es,ep,ho,r⟩:=hm
  exact⟨o,es,ep,k _ o (Ne.symm hL) ho,r⟩
 .refine(I.hok b u e).stay (λc v hc q=>k c v ?_ q) (λ_ q=>q) λ_ _ q=>q
  rcases hc with z |z
  .rw[z];exact nit b u e
  .exact nit c _ z
theorem Inv.tok(I:Inv X pins σ H s)(t:Nat):Inv X pins σ H {s with toks:=t}:=I.un (h':=s.heap) (t':=t) Un.refl I.hok
theorem Inv.kept{t':Nat}(I:Inv X pins σ H s)(k:∀b u,s.heap.get? b=some u->h'.get? b=some u):Inv X pins σ H {s with heap:=h',toks:=t'}:=I.un (Un.kept k) (I.hok.kept k)
theorem Inv.laid{a:Addr}{o:HO}{t':Nat}(I:Inv X pins σ H s)(k:∀b u,s.heap.get? b=some u->h'.get? b=some u)(hp:s.heap.objs.size≤a)(new:d7 X.prog X.w (upd H a o) h' a o):
  Inv X pins σ (upd H a o) {s with heap:=h',toks:=t'}:=I.un (Un.laid k hp (I.hok.fresh hp)) (I.hok.laid k hp new)
theorem Inv.write{x e:Addr}{o:HO}{t':Nat}(I:Inv X pins σ H s)(mu:Mut (H x))(he:e=x\/H e=some (.own x))(k:∀b u,b≠e->s.heap.get? b=some u->h'.get? b=some u)(heo:∃u,h'.get? e=some u)
  (new:d7 X.prog X.w (upd H x o) h' x o):Inv X pins σ (upd H x o) {s with heap:=h',toks:=t'}:=I.un (Un.write mu he k heo) (I.hok.write mu he k heo new)
theorem Inv.weak{σ':List (Option V)}(I:Inv X pins σ H s)(hl:σ'.length=σ.length)(w:∀(i:Nat) v,σ'[i]? =some (some v)->σ[i]? =some (some v)):Inv X pins σ' H s:=
 ⟨I.ok,I.os,I.bare,I.base,let⟨m,hn,hl'⟩:=I.loc;⟨m,hn,λi x v e1 e2 e3=>hl' i x v e1 (w i v e2) e3⟩,I.cell,I.free,I.freeC,I.pin,I.hok,hl.trans I.len⟩
theorem Inv.pins_of{pins':List (Addr×Obj)}(I:Inv X pins σ H s)(h:∀p∈pins',s.heap.get? p.1=some p.2/\H p.1=none/\p.1≠X.env.locals/\p.1∉X.fs/\∀v,p.2.data≠ .cell v):Inv X pins' σ H s:=
 ⟨I.ok,I.os,I.bare,I.base,I.loc,I.cell,I.free,I.freeC,λp hp=>(List.mem_append.mp hp).elim (λz=>I.pin p (List.mem_append_left _ z)) (h p),I.hok,I.len⟩
theorem yt{N:List Str}(hN:N.Nodup){i j:Nat}{x:Str}(a:N[i]? =some x)(b:N[j]? =some x):i=j:=by
 obtain⟨h1,e1⟩:=List.getElem?_eq_some_iff.mp a
 obtain⟨h2,e2⟩:=List.getElem?_eq_some_iff.mp b
 exact(List.getElem_inj hN).mp (e1.trans e2.symm)
theorem oZ{M:Model}{A:Around}{E:Value->Shared->Prop}{i:Nat}{x:Str}{v:V}{u:Value}{Q:Unit->Shared->Prop}(I:Inv X pins σ H s)(hN:X.N.Nodup)(hi:X.N[i]? =some x)(hx:Loc X.env.scope x)(r:RelV v u)
  (h:∀s',Inv X pins (σ.set i (some v)) H s'->(∃a,Heap.SameBut a s.heap s'.heap/\(a=X.env.locals\/X.env.cells.lookup x=some a))->Q () s') (hf:X.fn x=true\/X.env.scope.names.lookup x=some .local:=by first |exact .inl rfl |exact .inr rfl |assumption):wpAny M A (storeName X.env x u) Q E s:=by
 obtain⟨m,hn,hl⟩:=id I.loc
 have hcls:(X.env.scope.kind== .class||(X.env.scope.kind== .module&&X.env.locals !=X.env.globals))=false:=by rw[I.ok.kind];rfl
 have hiσ:i<σ.length:=by rw[I.len];exact(List.getElem?_eq_some_iff.mp hi).1
 have cne:=I.cne
 have tracked:∀{a:Addr} {h':Heap},(∃o,s.heap.get? a=some o/\H a=none)->Heap.SameBut a s.heap h'->uY X.prog X.w H h':=λ{a h'} ha hs b ob e=>by
  obtain⟨_,_,hfree⟩:=ha
  refine(I.hok b ob e).stay (λc w' hc q=>(hs.2 c ?_).trans q) (λ_ q=>q) λ_ _ q=>q
  rintro rfl
  rcases hc with rfl |hc
  .rw[hfree]at e;cases e
  .rw[hfree]at hc;cases hc
 rcases hx with hk |hk
 .refine wpAny_storeName_local hk hn (λh' hn' hs=>?_) hcls
  obtain⟨oL,_,_,hoL,_⟩:=id hn
  refine h _ ⟨I.ok,I.os,I.bare,⟨λb o e n hb hx=>?_,λb o e n hb hx=>?_,I.base.free,λb o e hx=>?_,I.base.tups,I.base.frzs,I.base.tbls⟩,⟨_,hn',λj y v' e1 e2 e3=>?_⟩,λy c e=>?_,I.free,I.freeC,λp hp=>?_,tracked ⟨oL,hoL,I.free⟩ hs,by simpa using I.len⟩ ⟨_,hs,.inl rfl⟩
  .exact(hs.2 b (Nat.ne_of_lt (Nat.lt_of_lt_of_le (Heap.lt_size e) I.ok.above))).trans (I.base.keep b o e n hb hx)
  .obtain⟨sl,e1⟩:=I.base.slot b o e n hb hx
   exact⟨sl,(hs.2 b (Nat.ne_of_lt (Nat.lt_of_lt_of_le (Heap.lt_size e) I.ok.above))).trans e1⟩
  .obtain⟨o',e1⟩:=I.base.there b o e hx
   exact⟨o',(hs.2 b (Nat.ne_of_lt (Nat.lt_of_lt_of_le (Heap.lt_size e) I.ok.above))).trans e1⟩
  .by_cases hj:j=i
   .subst hj
    rw[hi]at e1;cases e1
    rw[List.getElem?_set_self hiσ]at e2
    cases e2
    exact⟨u,r,.inl ⟨hk,by simp⟩⟩
   .rw[List.getElem?_set_ne (Ne.symm hj)]at e2
    obtain⟨u',r',q⟩:=hl j y v' e1 e2 e3
    refine⟨u',r',?_⟩
    rcases q with⟨k,e⟩ |⟨k,c,e,z⟩
    .refine .inl ⟨k,?_⟩
     have :y≠x:=λe=>hj (yt hN e1 (e▸hi))
     simp[this,e]
    .exact .inr ⟨k,c,e,z.sameBut hs (cne y c e)⟩
  .obtain⟨w',z⟩:=I.cell y c e
   exact⟨w',z.sameBut hs (cne y c e)⟩
  .obtain⟨e,n,ne,nf,d⟩:=I.pin p hp
   exact⟨(hs.2 p.1 ne).trans e,n,ne,nf,d⟩
 .have hfn:X.fn x=true:=by
   rcases hf with z |z
   .exact z
   .rw[z]at hk;cases hk
  obtain⟨c,hc⟩:=I.ok.has x (.inl hk)
  obtain⟨w',z⟩:=I.cell x c hc
  refine wpAny_storeName_cell I.ok.kind hk hc z (λh' hc' hs=>?_)
  obtain⟨oc,hoc,hocd⟩:=id z
  refine h {s with heap:=h'} ⟨I.ok,I.os,I.bare,⟨λb o e n hb hx=>?_,λb o e n hb hx=>?_,I.base.free,λb o e hx=>?_,I.base.tups,I.base.frzs,I.base.tbls⟩,⟨m,hn.sameBut hs (Ne.symm (cne x c hc)),λj y v' e1 e2 e3=>?_⟩,λy c' e=>?_,I.free,I.freeC,λp hp=>?_,tracked ⟨oc,hoc,I.freeC x c hc⟩ hs,by simpa using I.len⟩ ⟨c,hs,.inr hc⟩
  .exact(hs.2 b (Nat.ne_of_lt (Nat.lt_of_lt_of_le (Heap.lt_size e) (I.ok.cab x c hfn hc)))).trans (I.base.keep b o e n hb hx)
  .obtain⟨sl,e1⟩:=I.base.slot b o e n hb hx
   exact⟨sl,(hs.2 b (Nat.ne_of_lt (Nat.lt_of_lt_of_le (Heap.lt_size e) (I.ok.cab x c hfn hc)))).trans e1⟩
  .obtain⟨o',e1⟩:=I.base.there b o e hx
   exact⟨o',(hs.2 b (Nat.ne_of_lt (Nat.lt_of_lt_of_le (Heap.lt_size e) (I.ok.cab x c hfn hc)))).trans e1⟩
  .by_cases hj:j=i
   .subst hj
    rw[hi]at e1;cases e1
    rw[List.getElem?_set_self hiσ]at e2
    cases e2
    exact⟨u,r,.inr ⟨.inl hk,c,hc,hc'⟩⟩
   .rw[List.getElem?_set_ne (Ne.symm hj)]at e2
    obtain⟨u',r',q⟩:=hl j y v' e1 e2 e3
    refine⟨u',r',?_⟩
    rcases q with q |⟨k,c',e,z'⟩
    .exact .inl q
    .refine .inr ⟨k,c',e,z'.sameBut hs ?_⟩
     rintro rfl
     exact hj (yt hN e1 (I.ok.inj _ _ _ e hc▸hi))
  .by_cases hcc:c'=c
   .subst hcc;exact⟨_,hc'⟩
   .obtain⟨w2,z2⟩:=I.cell y c' e
    exact⟨w2,z2.sameBut hs hcc⟩
  .obtain⟨e,n,ne,nf,d⟩:=I.pin p hp
   refine⟨(hs.2 p.1 ?_).trans e,n,ne,nf,d⟩
   intro q
   rw[q,hoc]at e
   have q':oc=p.2:=Option.some.inj e
   exact d w' (by rw[<-q'];exact hocd)
theorem Gq{M:Model}{A:Around}{E:Value->Shared->Prop}{i:Nat}{x:Str}{v:V}{u:Value}{Q:Unit->Shared->Prop}(I:Inv X pins σ H s)(hN:X.N.Nodup)(hi:X.N[i]? =some x)(hx:Loc X.env.scope x)(r:RelV v u)
  (h:∀s',Inv X pins (σ.set i (some v)) H s'->Q () s') (hf:X.fn x=true\/X.env.scope.names.lookup x=some .local:=by first |exact .inl rfl |exact .inr rfl |assumption):wpAny M A (storeName X.env x u) Q E s:=
 oZ I hN hi hx r (λs' I' _=>h s' I') hf
theorem Inv.call'{s':Shared}{ch:List Addr}(I:Inv X pins σ H s)(ho:s'.os=s.os)(u:Un (Fw X.stack) ch H H' s.heap s'.heap)(hok:uY X.prog X.w H' s'.heap)(hg:AllBare s'.gens)
  (hch:∀b∈ch,(b∈X.ex\/X.s₀.heap.get? b=none)/\b≠X.env.locals/\(∀x c,X.env.cells.lookup x=some c->c≠b)/\∀p∈X.pn++pins,p.1≠b):Inv X pins σ H' s':=by
 obtain⟨h',g',d',t',o'⟩:=s'
 have e:o'=s.os:=ho
 subst e
 exact I.call (g':=g') (t':=t') (d':=d') u hok hg hch
end
abbrev XK:=Value->Option Addr×Bool->Hp->Prop
abbrev St:=List (Option V)
abbrev VK:=V->Hp->Prop
abbrev TE:=St->Hp->VK->Prop
abbrev TT:=St->Hp->(Bool->Hp->Prop)->Prop
abbrev TA:=St->Hp->(List V->Hp->Prop)->Prop
structure Ends where
 nx:St->Hp->Prop
 rt:VK
 bk:St->Hp->Prop:=λ_ _=>False
 ct:St->Hp->Prop:=λ_ _=>False
abbrev TS:=Ends->St->Hp->Prop
def EP(X:Cx)(pins:List (Addr×Obj))(σ:St)(Q:VK)(u:Value)(s':Shared):Prop:=∃v H',Inv X pins σ H' s'/\RelV v u/\Q v H'
def TP(X:Cx)(pins:List (Addr×Obj))(σ:St)(Q:Bool->Hp->Prop)(b:Bool)(s':Shared):Prop:=∃H',Inv X pins σ H' s'/\Q b H'
def AP(X:Cx)(pins:List (Addr×Obj))(σ:St)(Q:List V->Hp->Prop)(us:List Value)(s':Shared):Prop:=∃vs H',Inv X pins σ H' s'/\Vals vs us/\Q vs H'
def SP(X:Cx)(pins:List (Addr×Obj))(D:Ends)(f:Flow)(s':Shared):Prop:=
 match f with
 | .next=>∃σ' H',Inv X pins σ' H' s'/\D.nx σ' H'
 | .brk=>∃σ' H',Inv X pins σ' H' s'/\D.bk σ' H'
 | .cont=>∃σ' H',Inv X pins σ' H' s'/\D.ct σ' H'
 | .ret u=>∃v σ' H',Inv X pins σ' H' s'/\RelV v u/\D.rt v H'
def PE(X:Cx)(e:Expr)(t:TE):Prop:=
 ∀(pins:List (Addr×Obj)) (s:Shared) (σ:St) (H:Hp) (Q:VK),Inv X pins σ H s->t σ H Q->wpAny (model X.prog X.w) X.A (eval e X.env) (EP X pins σ Q) X.xe s
def PT(X:Cx)(e:Expr)(t:TT):Prop:=
 ∀(pins:List (Addr×Obj)) (s:Shared) (σ:St) (H:Hp) (Q:Bool->Hp->Prop),Inv X pins σ H s->t σ H Q->wpAny (model X.prog X.w) X.A (isTrue e X.env (eval e X.env)) (TP X pins σ Q) X.xe s
def PW(X:Cx)(e:Expr)(t:TT):Prop:=
 ∀(whole:Sem Value) (pins:List (Addr×Obj)) (s:Shared) (σ:St) (H:Hp) (Q:Bool->Hp->Prop),Inv X pins σ H s->t σ H Q->wpAny (model X.prog X.w) X.A (isTrue e X.env whole) (TP X pins σ Q) X.xe s
theorem PW.pt{X:Cx}{e:Expr}{t:TT}(h:PW X e t):PT X e t:=h _
def PA(X:Cx)(es:List Expr)(t:TA):Prop:=
 ∀(pos:Pos) (pins:List (Addr×Obj)) (s:Shared) (σ:St) (H:Hp) (Q:List V->Hp->Prop),Inv X pins σ H s->t σ H Q->wpAny (model X.prog X.w) X.A (spliced (backTo pos (starEach es X.env))) (AP X pins σ Q) X.xe s
def PS(X:Cx)(st:Stmt)(t:TS):Prop:=
 ∀(pins:List (Addr×Obj)) (s:Shared) (σ:St) (H:Hp) (D:Ends),Inv X pins σ H s->t D σ H->wpAny (model X.prog X.w) X.A (exec st X.env) (SP X pins D) X.xe s
def XX(X:Cx)(st:List Stmt)(t:TS):Prop:=
 ∀(pins:List (Addr×Obj)) (s:Shared) (σ:St) (H:Hp) (D:Ends),Inv X pins σ H s->t D σ H->wpAny (model X.prog X.w) X.A (execs st X.env) (SP X pins D) X.xe s
theorem cU{α:Type}{t:Sem α}{Q Q':α->Shared->Prop}{M:Model}{A:Around}{E:Value->Shared->Prop}{s:Shared}(h:wpAny M A t Q E s)(hQ:∀a s,Q a s->Q' a s):wpAny M A t Q' E s:=wpAny_mono h hQ λ_ _ x=>x
section
variable{X:Cx}
def aps(i:Nat):TE:=λσ H Q=>∃v,σ[i]? =some (some v)/\Q v H
def tC(v:V):TE:=λ_ H Q=>Q v H
theorem adk{i:Nat}{x:Str}{pos:Pos}(hN:X.N[i]? =some x)(hv:Vis X.env.scope x)(hd:(x==("__debug__":Str))=false:=by decide)(hcd:(x==("__classdict__":Str))=false:=by decide):PE X (.Name x pos) (aps i):=by
 intro pins s σ H Q I h
 obtain⟨v,e,h⟩:=h
 obtain⟨m,hn,hl⟩:=I.loc
 obtain⟨u,r,l⟩:=hl i x v hN e hv
 have fin:EP X pins σ Q u s:=⟨v,H,I,r,h⟩
 rcases l with⟨hk,hm⟩ |⟨hk,c,hc,hcell⟩
 .exact wpAny_Name (wpAny_loadName_local I.ok.kind hk hn hm fin) hd
 .rcases hk with hk |hk
  .exact wpAny_Name (wpAny_loadName_cell I.ok.kind hk hc hcell fin) hd
  .exact wpAny_Name (wpAny_loadName_free I.ok.kind hk hc hcell fin hcd) hd
theorem aej{i j pos}:PE X (.Constant (.int i) j pos) (tC (.int i)):=λ_ _ _ H _ I h=>wpAny_Constant_int ⟨.int i,H,I.tok _,⟨_,rfl⟩,h⟩
theorem aiY{b j pos}:PE X (.Constant (.bool b) j pos) (tC (.bl b)):=λ_ _ _ H _ I h=>Constant_bool ⟨.bl b,H,I,rfl,h⟩
theorem acN{j pos}:PE X (.Constant .none j pos) (tC .non):=λ_ _ _ H _ I h=>Constant_none ⟨.non,H,I,rfl,h⟩
theorem afe{x j pos}:PE X (.Constant (.str x) j pos) (tC (.str x)):=λ_ _ _ H _ I h=>Calls.Constant_str ⟨.str x,H,I.tok _,⟨_,rfl⟩,h⟩
def Gl(X:Cx)(x:Str):Prop:=X.env.kindOf x=some .globalImplicit
theorem jB{E:Value->Shared->Prop}{pins:List (Addr×Obj)}{s:Shared}{σ:St}{H:Hp}{x:Str}{u:Value}{pos:Pos}{Q:Value->Shared->Prop}(I:Inv X pins σ H s)(hg:Gl X x)(hm:X.mg x=some u)(h:Q u s)
  (hd:(x==("__debug__":Str))=false:=by decide):wpAny (model X.prog X.w) X.A (eval (.Name x pos) X.env) Q E s:=
 Calls.Name_function_global I.ok.kind hg (Calls.loadGlobal_global (by rw[I.ok.glob];exact I.mod.glob.keeps I.bk) hm h) hd
theorem qQ{E:Value->Shared->Prop}{pins:List (Addr×Obj)}{s:Shared}{σ:St}{H:Hp}{x:Str}{u:Value}{pos:Pos}{Q:Value->Shared->Prop}(I:Inv X pins σ H s)(hg:Gl X x)(hm:X.mg x=none)(hv:bootBuiltins x=some u)(h:Q u s)
  (hn:x≠"__name__":=by decide) (hd:(x==("__debug__":Str))=false:=by decide):wpAny (model X.prog X.w) X.A (eval (.Name x pos) X.env) Q E s:=by
 obtain⟨mb,h1,h2⟩:=I.mod.blt
 exact Calls.Name_function_global I.ok.kind hg (Calls.loadGlobal_builtin (by rw[I.ok.glob];exact I.mod.glob.keeps I.bk) hm (by rw[I.ok.blt];exact h1.keeps I.bk) ((h2 x hn).trans hv) h) hd
theorem Yz{x:Str}{v:V}{u:Value}{pos:Pos}(hg:Gl X x)(hm:X.mg x=some u)(r:RelV v u)(hd:(x==("__debug__":Str))=false:=by decide):PE X (.Name x pos) (tC v):=
 λ_ _ _ H _ I h=>jB I hg hm ⟨v,H,I,r,h⟩ hd
theorem ZF{x:Str}{v:V}{u:Value}{pos:Pos}(hg:Gl X x)(hm:X.mg x=none)(hv:bootBuiltins x=some u)(r:RelV v u)(hn:x≠"__name__":=by decide)(hd:(x==("__debug__":Str))=false:=by decide):PE X (.Name x pos) (tC v):=
 λ_ _ _ H _ I h=>qQ I hg hm hv ⟨v,H,I,r,h⟩ hn hd
def t2I(ta tb:TE)(k:Int->Int->Hp->Prop):St->Hp->Prop:=λσ H=>ta σ H λx H1=>tb σ H1 λy H2=>∃i j,x= .int i/\y= .int j/\k i j H2
def ayf(ta tb:TE):TE:=λσ H Q=>t2I ta tb (λi j H2=>Q (.int (i+j)) H2) σ H
def ayO(ta tb:TE):TE:=λσ H Q=>t2I ta tb (λi j H2=>Q (.int (i-j)) H2) σ H
def aAS(ta tb:TE):TE:=λσ H Q=>t2I ta tb (λi j H2=>(-(2^64)<i/\i<2^64)/\Q (.int (i*j)) H2) σ H
variable{a b:Expr}{ta tb:TE}{pos:Pos}
def PC(X:Cx)(op:CmpOp)(a b:Expr)(t:TE):Prop:=
 ∀(pins:List (Addr×Obj)) (s:Shared) (σ:St) (H:Hp) (Q:VK),Inv X pins σ H s->t σ H Q->
  wpAny (model X.prog X.w) X.A (eval a X.env) (λv s₁=>wpAny (model X.prog X.w) X.A (eval b X.env) (λu s₂=>wpAny (model X.prog X.w) X.A (compareOp op v u) (EP X pins σ Q) X.xe s₂) X.xe s₁) X.xe s
def Qg(p:Int->Int->Bool)(ta tb:TE):TE:=λσ H Q=>t2I ta tb (λi j H2=>Q (.bl (p i j)) H2) σ H
abbrev tLt:TE->TE->TE:=Qg λi j=>decide (i<j)
abbrev tLe:TE->TE->TE:=Qg λi j=>decide (i≤j)
abbrev tGt:TE->TE->TE:=Qg λi j=>decide (j<i)
abbrev tGe:TE->TE->TE:=Qg λi j=>decide (j≤i)
abbrev ay7:TE->TE->TE:=Qg λi j=>decide (i=j)
abbrev ax7:TE->TE->TE:=Qg λi j=> !decide (i=j)
def aya(ta:TE):TE:=λσ H Q=>ta σ H λx H1=>Q (.bl (decide (x= .non))) H1
def axI(ta:TE):TE:=λσ H Q=>ta σ H λx H1=>Q (.bl (!decide (x= .non))) H1
def tB(t:TE):TT:=λσ H Q=>t σ H λx H1=>∃c,x= .bl c/\Q c H1
variable{tA tB':TT}{rest:List Expr}
def aws(t u:TT):TT:=λσ H Q=>t σ H λc H1=>if c=true then u σ H1 Q else Q false H1
def tOr(t u:TT):TT:=λσ H Q=>t σ H λc H1=>if c=true then Q true H1 else u σ H1 Q
def as7(t:TT):TT:=λσ H Q=>t σ H λc H1=>Q (!c) H1
theorem ZX(ha:PT X a tA):PW X (.BoolOp .And [a] pos) tA:=by
 intro wh pins s σ H Q I h
 refine isTrue_and (cU (ha pins s σ H Q I h) λc s1 e=>?_)
 cases c with
 |true=>exact isTrue_and_nil e
 |false=>exact e
theorem adx(ha:PT X a tA):PW X (.BoolOp .Or [a] pos) tA:=by
 intro wh pins s σ H Q I h
 refine isTrue_or (cU (ha pins s σ H Q I h) λc s1 e=>?_)
 cases c with
 |false=>exact isTrue_or_nil e
 |true=>exact e
theorem abg(ha:PT X a tA)(hb:PW X (.BoolOp .And (b::rest) pos) tB'):PW X (.BoolOp .And (a::b::rest) pos) (aws tA tB'):=by
 intro wh pins s σ H Q I h
 refine isTrue_and (cU (ha pins s σ H _ I h) λc s1 ⟨H1,I1,q1⟩=>?_)
 cases c with
 |true=>exact hb wh pins s1 σ H1 Q I1 q1
 |false=>exact⟨H1,I1,q1⟩
theorem ahO(ha:PT X a tA)(hb:PW X (.BoolOp .Or (b::rest) pos) tB'):PW X (.BoolOp .Or (a::b::rest) pos) (tOr tA tB'):=by
 intro wh pins s σ H Q I h
 refine isTrue_or (cU (ha pins s σ H _ I h) λc s1 ⟨H1,I1,q1⟩=>?_)
 cases c with
 |true=>exact⟨H1,I1,q1⟩
 |false=>exact hb wh pins s1 σ H1 Q I1 q1
theorem abz(ha:PT X a tA):PT X (.UnaryOp .Not a pos) (as7 tA):=by
 intro pins s σ H Q I h
 exact isTrue_not (ha pins s σ H (λc H1=>Q (!c) H1) I h)
def aid(ta tb:TE):TE:=λσ H Q=>ta σ H λx H1=>∃c,x= .bl c/\if c=true then tb σ H1 Q else Q (.bl false) H1
def ata(ta tb:TE):TE:=λσ H Q=>ta σ H λx H1=>∃c,x= .bl c/\if c=true then Q (.bl true) H1 else tb σ H1 Q
def axw(ta:TE):TE:=λσ H Q=>ta σ H λx H1=>∃c,x= .bl c/\Q (.bl (!c)) H1
theorem agt{op}{t:TE}(h:PE X a t):PE X (.BoolOp op [a] pos) t:=λpins s σ H Q I hw=>BoolOp_one (h pins s σ H Q I hw)
theorem adv(ha:PE X a ta)(hb:PE X (.BoolOp .And (b::rest) pos) tb):PE X (.BoolOp .And (a::b::rest) pos) (aid ta tb):=by
 intro pins s σ H Q I h
 refine BoolOp_and (cU (ha pins s σ H _ I h) λv s1 ⟨x,H1,I1,r1,q1⟩=>?_)
 obtain⟨c,rfl,q1⟩:=q1
 cases r1
 refine wpAny_truthy_bool ?_
 cases c with
 |true=>exact hb pins s1 σ H1 Q I1 q1
 |false=>exact⟨.bl false,H1,I1,rfl,q1⟩
theorem ajw(ha:PE X a ta)(hb:PE X (.BoolOp .Or (b::rest) pos) tb):PE X (.BoolOp .Or (a::b::rest) pos) (ata ta tb):=by
 intro pins s σ H Q I h
 refine BoolOp_or (cU (ha pins s σ H _ I h) λv s1 ⟨x,H1,I1,r1,q1⟩=>?_)
 obtain⟨c,rfl,q1⟩:=q1
 cases r1
 refine wpAny_truthy_bool ?_
 cases c with
 |false=>exact hb pins s1 σ H1 Q I1 q1
 |true=>exact⟨.bl true,H1,I1,rfl,q1⟩
def tIf(t:TT)(ta tb:TE):TE:=λσ H Q=>t σ H λc H1=>if c=true then ta σ H1 Q else tb σ H1 Q
theorem TX{c:Expr}(hc:PT X c tA)(ha:PE X a ta)(hb:PE X b tb):PE X (.IfExp c a b pos) (tIf tA ta tb):=by
 intro pins s σ H Q I h
 refine wpAny_IfExp (cU (hc pins s σ H _ I h) λd s1 ⟨H1,I1,q1⟩=>?_)
 cases d with
 |true=>exact ha pins s1 σ H1 Q I1 q1
 |false=>exact hb pins s1 σ H1 Q I1 q1
end
def bf(K:W.Frag)(H:Hp)(a:Addr)(xs:List V):Prop:=
 Rd H a (.lst xs)\/
  ∃(o:Obj) (its:Array Value) (n:Nat),K.lookup a=some o/\o.cls= .type "list"/\o.dict=none/\o.data= .seq its n/\its.size≤sizeLine/\Vals xs its.toList
def fK(K:W.Frag)(H:Hp)(a:Addr)(xs:List V):Prop:=
 Rd H a (.tup xs)\/
  ∃(o:Obj) (its:Array Value) (n:Nat),K.lookup a=some o/\o.cls= .type "tuple"/\o.data= .seq its n/\its.size≤sizeLine/\Vals xs its.toList
def auD:Value->Option V
 | .none=>some .non
 | .bool b=>some (.bl b)
 | .int i _=>some (.int i)
 | .str x _=>some (.str x)
 | .bytes b _=>some (.byt b)
 | .float b _=>some (.flt b)
 | .ref a=>some (.ref a)
 | .type n=>some (.ty n)
 |_=>none
theorem RelV.abs{x:V}{u:Value}(r:RelV x u):auD u=some x:=by
 cases x with
 |non=>cases r;rfl
 |bl _=>cases r;rfl
 |int _=>obtain⟨t,rfl⟩:=r;rfl
 |str _=>obtain⟨t,rfl⟩:=r;rfl
 |byt _=>obtain⟨t,rfl⟩:=r;rfl
 |flt _=>obtain⟨t,rfl⟩:=r;rfl
 |ref _=>cases r;rfl
 |ty _=>cases r;rfl
theorem RelV.inj{x y:V}{u:Value}(r:RelV x u)(q:RelV y u):x=y:=Option.some.inj (r.abs.symm.trans q.abs)
theorem Vals.inj:∀{xs ys:List V} {us:List Value},Vals xs us->Vals ys us->xs=ys
 |_,_,_,.nil,.nil=>rfl
 |_,_,_,.cons r t,.cons r' t'=>by rw[r.inj r',Vals.inj t t']
section
variable{X:Cx}{pins:List (Addr×Obj)}{σ:St}{H:Hp}{s:Shared}{a:Addr}{xs ys:List V}
theorem bf.of{K:W.Frag}(h:H a=some (.lst xs)):bf K H a xs:=.inl (.inl h)
theorem fK.of{K:W.Frag}(h:H a=some (.tup xs)):fK K H a xs:=.inl (.inl h)
theorem Inv.list(I:Inv X pins σ H s)(h:bf X.K H a xs):∃its:List Value,Vals xs its/\PlainL s.heap a its.toArray/\xs.length≤sizeLine:=by
 rcases h with h |⟨o,its,n,hk,hc,hd,hs,hz,r⟩
 .obtain⟨z,its,n,r,e⟩:=h.ok I.hok
  exact⟨its,r,⟨_,n,e,rfl,rfl,rfl⟩,z⟩
 .refine⟨its.toList,r,⟨o,n,I.kIn a o hk,hc,hd,by simpa using hs⟩,?_⟩
  have e:=r.length
  simp only[Array.length_toList]at e
  omega
theorem Inv.tuple(I:Inv X pins σ H s)(h:fK X.K H a xs):∃its:List Value,Vals xs its/\IsTup s.heap a its.toArray/\xs.length≤sizeLine:=by
 rcases h with h |⟨o,its,n,hk,hc,hs,hz,r⟩
 .obtain⟨z,its,r,p⟩:=h.ok I.hok
  exact⟨its,r,p,z⟩
 .refine⟨its.toList,r,⟨o,I.kIn a o hk,hc,n,by simpa using hs⟩,?_⟩
  have e:=r.length
  simp only[Array.length_toList]at e
  omega
theorem Inv.list_inj(I:Inv X pins σ H s)(h:bf X.K H a xs)(h':bf X.K H a ys):xs=ys:=by
 obtain⟨its,r,⟨o,n,e,_,_,d⟩,_⟩:=I.list h
 obtain⟨its',r',⟨o',n',e',_,_,d'⟩,_⟩:=I.list h'
 rw[e]at e';cases e'
 rw[d]at d'
 injection d' with d1 _
 have :its=its':=by simpa using congrArg Array.toList d1
 subst this
 exact r.inj r'
theorem Inv.tuple_inj(I:Inv X pins σ H s)(h:fK X.K H a xs)(h':fK X.K H a ys):xs=ys:=by
 obtain⟨its,r,⟨o,e,_,n,d⟩,_⟩:=I.tuple h
 obtain⟨its',r',⟨o',e',_,n',d'⟩,_⟩:=I.tuple h'
 rw[e]at e';cases e'
 rw[d]at d'
 injection d' with d1 _
 have :its=its':=by simpa using congrArg Array.toList d1
 subst this
 exact r.inj r'
end
abbrev Cx.wish(X:Cx)(E:Value->Shared->Prop):Cx:={X with xe:=E}
abbrev Cx.nox(X:Cx):Cx:=X.wish λ_ _=>False
section
variable{X:Cx}{pins:List (Addr×Obj)}{σ:St}{H:Hp}{s:Shared}{E:Value->Shared->Prop}
end
section
variable{X:Cx}{st:Stmt}{rest:List Stmt}{t u:TS}{e:Expr}{te:TE}{pos:Pos}
def akL:TS:=λD σ H=>D.nx σ H
def auF(t u:TS):TS:=λD σ H=>t {D with nx:=u D} σ H
theorem Yx:XX X [] akL:=λ_ _ σ H _ I h=>wpAny_execs_nil ⟨σ,H,I,h⟩
theorem T6(h1:PS X st t)(h2:XX X rest u):XX X (st::rest) (auF t u):=by
 intro pins s σ H D I h
 refine wpAny_execs_cons (cU (h1 pins s σ H {D with nx:=u D} I h) λf s1 q=>?_)
 cases f with
 |next=>
  obtain⟨σ',H',I',q⟩:=q
  exact h2 pins s1 σ' H' D I' q
 |ret v=>exact q
 |brk=>exact q
 |cont=>exact q
theorem Yj(h1:PS X st t):XX X [st] t:=by
 intro pins s σ H D I h
 refine wpAny_execs_cons (cU (h1 pins s σ H D I h) λf s1 q=>?_)
 cases f with
 |next=>exact wpAny_execs_nil q
 |ret v=>exact q
 |brk=>exact q
 |cont=>exact q
def am9:TS:=λD σ H=>D.bk σ H
def awx:TS:=λD σ H=>D.ct σ H
theorem Inv.quiet{pins:List (Addr×Obj)}{σ:St}{H:Hp}{s:Shared}(I:Inv X pins σ H s):interactive X.env=false:=by simp[interactive,I.ok.kind]
def aiC(te:TE):TS:=λD σ H=>te σ H λ_ H1=>D.nx σ H1
theorem ZL(he:PE X e te)(hs:swapsWith e none pos.line X.env=pure false:=by rfl):PS X (.Expr e pos) (aiC te):=by
 intro pins s σ H D I h
 exact wpAny_Expr_any (cU (he pins s σ H _ I h) λv s1 ⟨x,H1,I1,r1,q1⟩=>⟨σ,H1,I1,q1⟩) I.quiet hs
def awh(te:TE):TS:=λD σ H=>te σ H D.rt
theorem afy(he:PE X e te):PS X (.Return (some e) pos) (awh te):=by
 intro pins s σ H D I h
 exact wpAny_Return_some (cU (he pins s σ H _ I h) λv s1 ⟨x,H1,I1,r1,q1⟩=>⟨x,σ,H1,I1,r1,q1⟩)
def awz:TS:=λD _ H=>D.rt .non H
def asv(c:TT)(t u:TS):TS:=λD σ H=>c σ H λb H1=>if b=true then t D σ H1 else u D σ H1
theorem ajZ{c:Expr}{a b:List Stmt}{tc:TT}(hc:PT X c tc)(ha:XX X a t)(hb:XX X b u):PS X (.If c a b pos) (asv tc t u):=by
 intro pins s σ H D I h
 refine wpAny_If (cU (hc pins s σ H _ I h) λd s1 ⟨H1,I1,q1⟩=>?_)
 cases d with
 |true=>exact ha pins s1 σ H1 D I1 q1
 |false=>exact hb pins s1 σ H1 D I1 q1
def asJ:TS:=λ_ _ _=>False
end
abbrev TG:=V->St->Hp->(St->Hp->Prop)->Prop
abbrev TGs:=List V->St->Hp->(St->Hp->Prop)->Prop
def PG(X:Cx)(target:Expr)(t:TG):Prop:=
 ∀(pins:List (Addr×Obj)) (s:Shared) (σ:St) (H:Hp) (v:V) (u:Value) (Q:St->Hp->Prop),Inv X pins σ H s->RelV v u->t v σ H Q->
  wpAny (model X.prog X.w) X.A (assign target X.env u) (λ_ s'=>∃σ' H',Inv X pins σ' H' s'/\Q σ' H') X.xe s
def PGs(X:Cx)(ts:List Expr)(t:TGs):Prop:=
 ∀(pins:List (Addr×Obj)) (s:Shared) (σ:St) (H:Hp) (vs:List V) (us:List Value) (Q:St->Hp->Prop),Inv X pins σ H s->Vals vs us->t vs σ H Q->
  wpAny (model X.prog X.w) X.A (assignInOrder ((assignEach ts X.env).map (·.2)) us) (λ_ s'=>∃σ' H',Inv X pins σ' H' s'/\Q σ' H') X.xe s
abbrev agB:=V->V->V->Hp->(Hp->Prop)->Prop
def az6(X:Cx)(t:agB):Prop:=
 ∀(pins:List (Addr×Obj)) (s:Shared) (σ:St) (H:Hp) (o i v:V) (ov iv u:Value) (Q:Hp->Prop),Inv X pins σ H s->RelV o ov->RelV i iv->RelV v u->t o i v H Q->
  wpAny (model X.prog X.w) X.A (setItem ov iv u) (λ_ s'=>∃H',Inv X pins σ H' s'/\Q H') X.xe s
abbrev TIp:=V->V->Hp->VK->Prop
def PIp(X:Cx)(op:Operator)(t:TIp):Prop:=
 ∀(pins:List (Addr×Obj)) (s:Shared) (σ:St) (H:Hp) (x y:V) (v u:Value) (Q:VK),Inv X pins σ H s->RelV x v->RelV y u->t x y H Q->
  wpAny (model X.prog X.w) X.A (inplaceOp op v u) (EP X pins σ Q) X.xe s
section
variable{X:Cx}{pos:Pos}
def aaF(i:Nat):TG:=λv σ H Q=>Q (σ.set i (some v)) H
theorem YM{i:Nat}{x:Str}(hN:X.N.Nodup)(hi:X.N[i]? =some x)(hx:Loc X.env.scope x)(hf:X.fn x=true\/X.env.scope.names.lookup x=some .local:=by first |exact .inl rfl |exact .inr rfl |assumption):PG X (.Name x pos) (aaF i):=by
 intro pins s σ H v u Q I r h
 exact wpAny_assign_Name (Gq I hN hi hx r (λs' I'=>⟨_,H,I',h⟩) hf)
def avv:TGs:=λvs σ H Q=>vs=[]/\Q σ H
def ahJ(t:TG)(u:TGs):TGs:=λvs σ H Q=>∃v r,vs=v::r/\t v σ H λσ' H'=>u r σ' H' Q
theorem Zf:PGs X [] avv:=by
 intro pins s σ H vs us Q I r h
 obtain⟨e,h⟩:=h
 subst e
 cases r
 exact assignInOrder_nil ⟨σ,H,I,h⟩
theorem Tf{e:Expr}{es:List Expr}{t:TG}{u:TGs}(h1:PG X e t)(h2:PGs X es u)
  (hs:(assignEach (e::es) X.env).map (·.2)=assign e X.env::(assignEach es X.env).map (·.2):=by rfl):PGs X (e::es) (ahJ t u):=by
 intro pins s σ H vs us Q I r h
 obtain⟨v,vr,e1,h⟩:=h
 subst e1
 cases r with
 |cons r rr=>
  rw[hs]
  refine assignInOrder_cons (cU (h1 pins s σ H _ _ _ I r h) λ_ s1 ⟨σ1,H1,I1,q1⟩=>?_)
  exact h2 pins s1 σ1 H1 _ _ Q I1 rr q1
def apj(K:W.Frag)(n:Nat)(t:TGs):TG:=λv σ H Q=>∃a xs,v= .ref a/\fK K H a xs/\xs.length=n/\t xs σ H Q
theorem acv{es:List Expr}{k:Nat}{t:TGs}{n:Nat}(hc:X.calm=true)(h:PGs X es t)
  (hn:(assignEach es X.env).length=n:=by rfl) (hst:(assignEach es X.env).findIdx? (·.1)=none:=by rfl):PG X (.Tuple es k pos) (apj X.K n t):=by
 intro pins s σ H v u Q I r hw
 obtain⟨a,xs,e1,hq,hl,hw⟩:=hw
 subst e1
 cases r
 obtain⟨its,rv,ht,hz⟩:=I.tuple hq
 refine assign_Tuple_tuple (I.ok.hd hc) ht (by simp[hn, <-hl,rv.length]) hst λh' hx=>?_
 have I1:Inv X pins σ H {s with heap:=h'}:=I.kept (t':=s.toks) λb o e=>hx b o (Nat.ne_of_lt (Heap.lt_size e)) e
 exact h pins _ σ H xs _ Q I1 (by simpa using rv) hw
def aAU(to ti:TE)(t:agB):TG:=λv σ H Q=>to σ H λo H1=>ti σ H1 λi H2=>t o i v H2 λH3=>Q σ H3
def arP(te:TE)(g:TG):TS:=λD σ H=>te σ H λx H1=>g x σ H1 D.nx
theorem ae6{i:Nat}{x:Str}{e:Expr}{te:TE}{pos':Pos}(hN:X.N.Nodup)(hi:X.N[i]? =some x)(hx:Loc X.env.scope x)(he:PE X e te)(hs:swapsWith e (some (.Name x pos')) pos.line X.env=pure false:=by rfl)(hf:X.fn x=true\/X.env.scope.names.lookup x=some .local:=by first |exact .inl rfl |exact .inr rfl |assumption):
  PS X (.Assign [.Name x pos'] e pos) (arP te (aaF i)):=by
 intro pins s σ H D I h
 refine wpAny_Assign_Name (cU (he pins s σ H _ I h) λv s1 ⟨y,H1,I1,r1,q1⟩=>?_) hs
 exact Gq I1 hN hi hx r1 (λs2 I2=>⟨_,H1,I2,q1⟩) hf
def azt(i j:Nat)(ta:TA):TS:=λD σ H=>ta σ H λvs H1=>∃v w,vs=[v,w]/\D.nx ((σ.set i (some v)).set j (some w)) H1
def azV(i:Nat)(te:TE)(ti:TIp):TS:=λD σ H=>∃x,σ[i]? =some (some x)/\te σ H λy H1=>ti x y H1 λz H2=>D.nx (σ.set i (some z)) H2
def aw0(to ti te:TE)(tget:V->V->Hp->VK->Prop)(tip:TIp)(tset:agB):TS:=λD σ H=>to σ H λo H1=>ti σ H1 λi H2=>tget o i H2 λx H3=>te σ H3 λy H4=>tip x y H4 λz H5=>tset o i z H5 λH6=>D.nx σ H6
def ayJ(X:Cx)(t:V->V->Hp->VK->Prop):Prop:=
 ∀(pins:List (Addr×Obj)) (s:Shared) (σ:St) (H:Hp) (o i:V) (ov iv:Value) (Q:VK),Inv X pins σ H s->RelV o ov->RelV i iv->t o i H Q->
  wpAny (model X.prog X.w) X.A (getItem ov iv) (EP X pins σ Q) X.xe s
def ipI(f:Int->Int->Int):TIp:=λx y H Q=>∃i j,x= .int i/\y= .int j/\Q (.int (f i j)) H
end
section
variable{X:Cx}{pos:Pos}
def aon(c:TT)(tb:TS):TS:=λD σ H=>∃W:Nat->St->Hp->Prop,(∃m,W m σ H)/\∀m σ H,W m σ H->
 c σ H λb H1=>if b=true then ∃N:St->Hp->Prop,(∀σ' H',N σ' H'->∃m',m'<m/\W m' σ' H')/\tb {D with nx:=N,ct:=N,bk:=D.nx} σ H1 else D.nx σ H1
end
structure It where
 go:Nat->Hp->Prop
 yld:Nat->Hp->V->Hp->Prop
 stop:Nat->Hp->Prop
def jZ(X:Cx)(pins:List (Addr×Obj))(H:Hp)(b:Addr):Prop:=
 H b=none/\b≠X.env.locals/\b∉X.fs/\(b∈X.ex\/X.s₀.heap.get? b=none)/\(∀x c,X.env.cells.lookup x=some c->c≠b)/\∀p∈X.pn++pins,p.1≠b
theorem Inv.fpOk{X:Cx}{pins:List (Addr×Obj)}{σ:St}{H H':Hp}{s:Shared}{b:Addr}(I:Inv X pins σ H s)(hb:s.heap.objs.size≤b)(hn:H' b=none):jZ X pins H' b:=by
 refine⟨hn,Nat.ne_of_gt (Nat.lt_of_lt_of_le I.lt hb),I.nofs hb,.inr (Heap.get?_none_of_le (Nat.le_trans I.sz hb)),λx c e z=>?_,λp hp z=>?_⟩
 .obtain⟨v,q⟩:=I.cell x c e
  exact absurd (Nat.lt_of_lt_of_le q.lt (by rw[z];exact hb)) (Nat.lt_irrefl _)
 .exact absurd (Nat.lt_of_lt_of_le (Heap.lt_size (I.pin p hp).1) (by rw[z];exact hb)) (Nat.lt_irrefl _)
structure Turn(P:Program)(w:World)(K:W.Frag)(tg:Expr)(J:It)(fp:List Addr)(it:Addr)(tn:Nat->Heap->Prop):Prop where
 mem:it∈fp
 obj:∀i h,tn i h->∀b∈fp,∃o,h.get? b=some o/\∀v,o.data≠ .cell v
 keep:∀i h h',tn i h->(∀b∈fp,∀o,h.get? b=some o->h'.get? b=some o)->tn i h'
 item:∀(X:Cx),X.prog=P->X.w=w->X.K=K->X.calm=true->∀(i:Nat) (pins:List (Addr×Obj)) (s:Shared) (σ:St) (H:Hp) (E:Value->Shared->Prop),Inv X pins σ H s->(∀b∈fp,jZ X pins H b)->tn i s.heap->J.go i H->
  wpAny (model P w) X.A (pyNext (.ref it)) (λr s1=>∃u,r=some u/\
   wpAny (model P w) X.A (letOwnedTupleGo tg (.ref it) u) (λ_ s2=>∃x H',Inv X pins σ H' s2/\RelV x u/\J.yld i H x H'/\tn (i+1) s2.heap/\∀b∈fp,H' b=none) E s1) E s
 done:∀(X:Cx),X.prog=P->X.w=w->X.K=K->X.calm=true->∀(i:Nat) (pins:List (Addr×Obj)) (s:Shared) (σ:St) (H:Hp) (E:Value->Shared->Prop),Inv X pins σ H s->(∀b∈fp,jZ X pins H b)->tn i s.heap->J.stop i H->
  wpAny (model P w) X.A (pyNext (.ref it)) (λr s1=>r=none/\Inv X pins σ H s1) E s
 self:∀(A:Around) (i:Nat) (s:Shared) (Q:Value->Shared->Prop) (E:Value->Shared->Prop),tn i s.heap->Q (.ref it) s->wpAny (model P w) A (pyIter (.ref it)) Q E s
abbrev TI:=St->Hp->(It->Hp->Prop)->Prop
def PIE(X:Cx)(pins:List (Addr×Obj))(σ:St)(tg:Expr)(R:It->Hp->Prop)(itv:Value)(s2:Shared):Prop:=
 ∃(it:Addr) (fp:List Addr) (tn:Nat->Heap->Prop) (J:It) (H':Hp),itv= .ref it/\Inv X pins σ H' s2/\Turn X.prog X.w X.K tg J fp it tn/\tn 0 s2.heap/\(∀b∈fp,jZ X pins H' b)/\R J H'
def PI(X:Cx)(tg iter:Expr)(wi:TI):Prop:=
 ∀(pins:List (Addr×Obj)) (s:Shared) (σ:St) (H:Hp) (R:It->Hp->Prop),Inv X pins σ H s->wi σ H R->
  wpAny (model X.prog X.w) X.A (eval iter X.env) (λv s1=>wpAny (model X.prog X.w) X.A (pyIter v) (PIE X pins σ tg R) X.xe s1) X.xe s
theorem Gy{M:Model}{A:Around}{E:Value->Shared->Prop}{s:Shared}{tg:Expr}{it:Addr}{u:Value}{o:Obj}{n:String}{vs:Array Value}{Q:Unit->Shared->Prop}(ho:s.heap.get? it=some o)(hc:o.cls= .type n)(hd:o.data= .fields vs)
  (hn:["enumerate","zip","dict_itemiterator","dict_reverseitemiterator","odict_iterator","itertools.zip_longest","itertools.pairwise"].contains n=false) (hQ:Q () s):wpAny M A (letOwnedTupleGo tg (.ref it) u) Q E s:=by
 unfold letOwnedTupleGo
 cases tg<;>first
  |exact wpAny_pure hQ
  |(cases u<;>first
   |exact wpAny_pure hQ
   |(refine wpAny_bind (wpAny_load ho ?_)
     rw[hc,hd]
     show wpAny M A (if(["enumerate","zip","dict_itemiterator","dict_reverseitemiterator","odict_iterator","itertools.zip_longest","itertools.pairwise"].contains n&&vs[0]? ==some (rawInt _))=true then _ else _) Q E s
     rw[if_neg (by intro h;rw[hn,Bool.false_and]at h;cases h)]
     exact wpAny_pure hQ))
def Z0(K:W.Frag)(a:Addr):It:=
 ⟨λi H=>∃xs x,bf K H a xs/\xs[i]? =some x,λi H x H'=>H'=H/\∀xs,bf K H a xs->xs[i]? =some x,λi H=>∃xs,bf K H a xs/\xs.length≤i⟩
def Itt(K:W.Frag)(a:Addr):It:=
 ⟨λi H=>∃xs x,fK K H a xs/\xs[i]? =some x,λi H x H'=>H'=H/\∀xs,fK K H a xs->xs[i]? =some x,λi H=>∃xs,fK K H a xs/\xs.length≤i⟩
def Itr(lo:Int)(n:Nat):It:=⟨λi _=>i<n,λi H x H'=>H'=H/\x= .int (lo+i),λi _=>n≤i⟩
theorem Qh{P:Program}{w:World}{K:W.Frag}{tg:Expr}(a it:Addr):Turn P w K tg (Z0 K a) [it] it (λi h=>h.IsListIter it a i)where
 mem:=by simp
 obj:=λi h st b hb=>by
  have e:b=it:=by simpa using hb
  subst e
  obtain⟨o,e,c,d⟩:=st
  exact⟨o,e,λv z=>by rw[d]at z;cases z⟩
 keep:=λi h h' st k=>st.at λo e=>k it (by simp) o e
 item:=by
  intro X hP hw hK hc i pins s σ H E I hf st hg
  subst hP hw hK
  obtain⟨xs,x,hq,hx⟩:=hg
  obtain⟨its,rv,p,hz⟩:=I.list hq
  obtain⟨u,hu,ru⟩:=rv.get hx
  obtain⟨f0,f1,f2,f3,f4,f5⟩:=hf it (by simp)
  refine wpAny_pyNext_list_item st p.isList (x:=u) (by simpa using hu) λh' st' sb=>?_
  have I1:Inv X pins σ H {s with heap:=h'}:=I.turned (t':=s.toks) (λb o hb e=>(sb.2 b hb).trans e) f0 f1 f3 f4 f5
  obtain⟨o,e,c,d⟩:=id st'
  exact⟨u,rfl,Gy (s:={s with heap:=h'}) e c d (by decide) ⟨x,H,I1,ru,⟨rfl,λys hy=>by rw[I.list_inj hy hq];exact hx⟩,st',λb hb=>(hf b hb).1⟩⟩
 done:=by
  intro X hP hw hK hc i pins s σ H E I hf st hg
  subst hP hw hK
  obtain⟨xs,hq,hx⟩:=hg
  obtain⟨its,rv,p,hz⟩:=I.list hq
  obtain⟨f0,f1,f2,f3,f4,f5⟩:=hf it (by simp)
  have hl:=rv.length
  exact wpAny_pyNext_list_end (I.ok.hd hc) st p.isList (by simp;omega) λh' eb=>⟨rfl,I.turned (t':=s.toks) (λb o hb e=>eb b o hb e) f0 f1 f3 f4 f5⟩
 self:=λ_ _ _ _ _ st h=>wpAny_pyIter_listiter st h
theorem J5{P:Program}{w:World}{K:W.Frag}{tg:Expr}(a it:Addr):Turn P w K tg (Itt K a) [it] it (λi h=>h.IsTupleIter it a i)where
 mem:=by simp
 obj:=λi h st b hb=>by
  have e:b=it:=by simpa using hb
  subst e
  obtain⟨o,e,c,d⟩:=st
  exact⟨o,e,λv z=>by rw[d]at z;cases z⟩
 keep:=λi h h' st k=>st.at λo e=>k it (by simp) o e
 item:=by
  intro X hP hw hK hc i pins s σ H E I hf st hg
  subst hP hw hK
  obtain⟨xs,x,hq,hx⟩:=hg
  obtain⟨its,rv,p,hz⟩:=I.tuple hq
  obtain⟨u,hu,ru⟩:=rv.get hx
  obtain⟨f0,f1,f2,f3,f4,f5⟩:=hf it (by simp)
  refine wpAny_pyNext_tuple_item st (show s.heap.IsTuple a its.toArray from p) (x:=u) (by simpa using hu) λh' st' sb=>?_
  have I1:Inv X pins σ H {s with heap:=h'}:=I.turned (t':=s.toks) (λb o hb e=>(sb.2 b hb).trans e) f0 f1 f3 f4 f5
  obtain⟨o,e,c,d⟩:=id st'
  exact⟨u,rfl,Gy (s:={s with heap:=h'}) e c d (by decide) ⟨x,H,I1,ru,⟨rfl,λys hy=>by rw[I.tuple_inj hy hq];exact hx⟩,st',λb hb=>(hf b hb).1⟩⟩
 done:=by
  intro X hP hw hK hc i pins s σ H E I hf st hg
  subst hP hw hK
  obtain⟨xs,hq,hx⟩:=hg
  obtain⟨its,rv,p,hz⟩:=I.tuple hq
  obtain⟨f0,f1,f2,f3,f4,f5⟩:=hf it (by simp)
  have hl:=rv.length
  exact wpAny_pyNext_tuple_end (I.ok.hd hc) st (show s.heap.IsTuple a its.toArray from p) (by simp;omega) λh' eb=>⟨rfl,I.turned (t':=s.toks) (λb o hb e=>eb b o hb e) f0 f1 f3 f4 f5⟩
 self:=λ_ _ _ _ _ st h=>wpAny_pyIter_tupleiter st h
theorem Kh{P:Program}{w:World}{K:PySem.W.Frag}{tg:Expr}(it:Addr)(lo:Int)(n:Nat):Turn P w K tg (Itr lo n) [it] it (λi h=>IsRangeIter h it (lo+(i:Nat)*1) ((n:Int)-(i:Nat)) 1)where
 mem:=by simp
 obj:=λi h st b hb=>by
  have e:b=it:=by simpa using hb
  subst e
  exact⟨_,st,λv z=>by
   have z':Data.fields _=Data.cell v:=z
   cases z'⟩
 keep:=λi h h' st k=>k it (by simp) _ st
 item:=by
  intro X hP hw hK hc i pins s σ H E I hf st hg
  subst hP hw hK
  obtain⟨f0,f1,f2,f3,f4,f5⟩:=hf it (by simp)
  have W:=Walks.range (prog:=X.prog) (w:=X.w) (I.ok.hd hc) it lo 1 n
  refine W.item i s _ _ hg st λv h' tk hv st' kk=>?_
  obtain⟨t,rfl⟩:=hv
  have I1:Inv X pins σ H {s with heap:=h',toks:=tk}:=I.turned (λb o hb e=>kk b o (by simpa using hb) e) f0 f1 f3 f4 f5
  refine⟨_,rfl,Gy (s:={s with heap:=h',toks:=tk}) (n:="range_iterator") st' rfl rfl (by decide) ⟨.int (lo+i),H,I1,⟨t,?_⟩,⟨rfl,rfl⟩,st',λb hb=>(hf b hb).1⟩⟩
  rw[Int.mul_one]
 done:=by
  intro X hP hw hK hc i pins s σ H E I hf st hg
  subst hP hw hK
  obtain⟨f0,f1,f2,f3,f4,f5⟩:=hf it (by simp)
  exact wpAny_pyNext_range_end (I.ok.hd hc) st (by have :n≤i:=hg;omega) λh' eb=>⟨rfl,I.turned (t':=s.toks) (λb o hb e=>eb b o hb e) f0 f1 f3 f4 f5⟩
 self:=λ_ _ _ _ _ st h=>wpAny_pyIter_rangeiter st h
section
variable{X:Cx}{tg:Expr}
def ahX(K:W.Frag)(tl:TE):TI:=λσ H R=>tl σ H λx H1=>∃a,x= .ref a/\(∃xs,bf K H1 a xs)/\R (Z0 K a) H1
def au9(K:W.Frag)(tl:TE):TI:=λσ H R=>tl σ H λx H1=>∃a,x= .ref a/\(∃xs,fK K H1 a xs)/\R (Itt K a) H1
theorem X8{l:Expr}{tl:TE}(hl:PE X l tl):PI X tg l (ahX X.K tl):=by
 intro pins s σ H R I h
 refine cU (hl pins s σ H _ I h) λv s1 ⟨x,H1,I1,r1,q1⟩=>?_
 obtain⟨a,e,⟨xs,hq⟩,q⟩:=q1
 subst e
 cases r1
 obtain⟨its,rv,p,hz⟩:=I1.list hq
 refine wpAny_pyIter_list p.isList ?_
 refine⟨s1.heap.objs.size,[s1.heap.objs.size],_,_,H1,rfl,I1.kept (t':=s1.toks) λb o e=>Heap.get?_push_of_some _ e,Qh a _,⟨_,Heap.get?_push_size _ rfl,rfl,rfl⟩,λb hb=>?_,q⟩
 have e:b=s1.heap.objs.size:=by simpa using hb
 subst e
 exact I1.fpOk (Nat.le_refl _) (I1.hok.fresh (Nat.le_refl _))
theorem adn{l:Expr}{tl:TE}(hl:PE X l tl):PI X tg l (au9 X.K tl):=by
 intro pins s σ H R I h
 refine cU (hl pins s σ H _ I h) λv s1 ⟨x,H1,I1,r1,q1⟩=>?_
 obtain⟨a,e,⟨xs,hq⟩,q⟩:=q1
 subst e
 cases r1
 obtain⟨its,rv,p,hz⟩:=I1.tuple hq
 refine wpAny_pyIter_tuple (show s1.heap.IsTuple a its.toArray from p) ?_
 refine⟨s1.heap.objs.size,[s1.heap.objs.size],_,_,H1,rfl,I1.kept (t':=s1.toks) λb o e=>Heap.get?_push_of_some _ e,J5 a _,⟨_,Heap.get?_push_size _ rfl,rfl,rfl⟩,λb hb=>?_,q⟩
 have e:b=s1.heap.objs.size:=by simpa using hb
 subst e
 exact I1.fpOk (Nat.le_refl _) (I1.hok.fresh (Nat.le_refl _))
theorem Vo{pins:List (Addr×Obj)}{σ:St}{H:Hp}{s:Shared}{R:It->Hp->Prop}{E:Value->Shared->Prop}{lo hi:Int}{t u v:Tok}{tk:Nat}(I:Inv X pins σ H s)(h1: -(2^62)≤lo)(h2:lo<2^62)(h3: -(2^62)≤hi)(h4:hi<2^62)
  (q:R (Itr lo (hi-lo).toNat) H):wpAny (model X.prog X.w) X.A (pyIter (.ref s.heap.objs.size)) (PIE X pins σ tg R) E {s with heap:=s.heap.push {cls:=.type "range",data:=.fields #[.int lo t,.int hi u,.int 1 v]},toks:=tk}:=by
 refine wpAny_pyIter_range (IsRange.new ..) (small_one h1 h2 h3 h4) ?_
 have I1:Inv X pins σ H {s with heap:=s.heap.push {cls:=.type "range",data:=.fields #[.int lo t,.int hi u,.int 1 v]},toks:=tk}:=I.kept λb o e=>Heap.get?_push_of_some _ e
 refine⟨(s.heap.push {cls:=.type "range",data:=.fields #[.int lo t,.int hi u,.int 1 v]}).objs.size,[(s.heap.push {cls:=.type "range",data:=.fields #[.int lo t,.int hi u,.int 1 v]}).objs.size],_,_,H,rfl,
  I1.kept (t':=tk) λb o e=>Heap.get?_push_of_some _ e,Kh _ lo (hi-lo).toNat,?_,λb hb=>?_,q⟩
 .have e1:lo+((0:Nat):Int)*1=lo:=by simp
  have e2:(((hi-lo).toNat:Nat):Int)-((0:Nat):Int)=Builtin.Range.rangeSize lo hi 1:=by rw[rangeSize_one];split <;>omega
  show IsRangeIter _ _ (lo+((0:Nat):Int)*1) ((((hi-lo).toNat:Nat):Int)-((0:Nat):Int)) 1
  rw[e1,e2]
  exact Heap.get?_push_size _ rfl
 .have e:b=(s.heap.push {cls:=.type "range",data:=.fields #[.int lo t,.int hi u,.int 1 v]}).objs.size:=by simpa using hb
  subst e
  exact I1.fpOk (Nat.le_refl _) (I1.hok.fresh (Nat.le_refl _))
def ajA(ta:TA):TI:=λσ H R=>ta σ H λvs H1=>∃j:Int,vs=[.int j]/\ -(2^62)≤j/\j<2^62/\R (Itr 0 j.toNat) H1
def awP(ta:TA):TI:=λσ H R=>ta σ H λvs H1=>∃i j:Int,vs=[.int i,.int j]/\(-(2^62)≤i/\i<2^62/\ -(2^62)≤j/\j<2^62)/\R (Itr i (j-i).toNat) H1
theorem Rm{a:Expr}{ta:TA}{p pos:Pos}(hg:Gl X "range")(hm:X.mg "range"=none)(ha:PA X [a] ta)(hs:starEach [a] X.env=[(false,eval a X.env)]:=by rfl):PI X tg (.Call (.Name "range" p) [a] [] pos) (ajA ta):=by
 intro pins s σ H R I h
 refine Call_ (qQ I hg hm boot_range (PyProof.Rows.callWith_type1 (cU (ha pos pins s σ H _ I h) λus s1 ⟨vs,H1,I1,r1,q1⟩=>?_) hs rfl))
 obtain⟨j,e,q1,q2,q⟩:=q1
 subst e
 cases r1 with
 |cons r rr=>
  cases rr
  obtain⟨t,rfl⟩:=r
  exact call_range_1 (Vo I1 (by omega) (by omega) q1 q2 (by simpa using q))
def amP(wi:TI)(g:TG)(tb:TS):TS:=λD σ H=>wi σ H λJ H1=>∃W:Nat->Nat->St->Hp->Prop,(∃m,W 0 m σ H1)/\∀i m σ H,W i m σ H->
 (J.stop i H/\D.nx σ H)\/(J.go i H/\∃N:St->Hp->Prop,(∀σ' H',N σ' H'->∃m',m'<m/\W (i+1) m' σ' H')/\∀x H',J.yld i H x H'->g x σ H' λσ2 H2=>tb {D with nx:=N,ct:=N,bk:=D.nx} σ2 H2)
def uI(fp:List Addr)(h:Heap):List (Addr×Obj):=fp.filterMap λb=>(h.get? b).map λo=>(b,o)
theorem gQ{fp:List Addr}{h:Heap}{b:Addr}{o:Obj}(hb:b∈fp)(e:h.get? b=some o):(b,o)∈uI fp h:=List.mem_filterMap.mpr ⟨b,hb,by rw[e];rfl⟩
theorem Qx{fp:List Addr}{h:Heap}{p:Addr×Obj}(hp:p∈uI fp h):p.1∈fp/\h.get? p.1=some p.2:=by
 obtain⟨b,hb,e⟩:=List.mem_filterMap.mp hp
 cases q:h.get? b with
 |none=>rw[q]at e;cases e
 |some o=>
  rw[q]at e
  have e':(b,o)=p:=Option.some.inj e
  subst e'
  exact⟨hb,q⟩
theorem Inv.pinned{pins:List (Addr×Obj)}{σ:St}{H:Hp}{s:Shared}{fp:List Addr}(I:Inv X pins σ H s)(hf:∀b∈fp,jZ X pins H b)(ho:∀b∈fp,∃o,s.heap.get? b=some o/\∀v,o.data≠ .cell v):Inv X (pins++uI fp s.heap) σ H s:=
 I.pins_of λp hp=>(List.mem_append.mp hp).elim (λz=>I.pin p (List.mem_append_right _ z)) λz=>by
  obtain⟨hb,e⟩:=Qx z
  obtain⟨f0,f1,f2,_⟩:=hf p.1 hb
  obtain⟨o,e',d⟩:=ho p.1 hb
  rw[e]at e';cases e'
  exact⟨e,f0,f1,f2,d⟩
theorem Inv.unpinned{pins pl:List (Addr×Obj)}{σ:St}{H:Hp}{s:Shared}(I:Inv X (pins++pl) σ H s):Inv X pins σ H s:=I.pins_of λp hp=>I.pin p (List.mem_append_right _ (List.mem_append_left _ hp))
theorem agA{iter:Expr}{body:List Stmt}{wi:TI}{g:TG}{tb:TS}{pos:Pos}(hp:PassesOwn (model X.prog X.w) X.A X.env X.xe)(hc:X.calm=true)(hi:PI X tg iter wi)(hg:PG X tg g)(hb:XX X body tb)
  (hs:∀x,foldedSetIterable iter X.env x=pure x:=by intro _;rfl):PS X (.For tg iter body [] pos) (amP wi g tb):=by
 intro pins s σ H D I h
 refine wpAny_For (cU (hi pins s σ H _ I h) λv s1 h1=>cU h1 λitv s2 h2=>?_) hs
 obtain⟨it,fp,tn,J,H2,e,I2,T,st2,f2,W,⟨m0,w0⟩,turn⟩:=h2
 subst e
 have stat:∀{H':Hp},(∀b∈fp,H' b=none)->∀b∈fp,jZ X pins H' b:=λhn b hb=>⟨hn b hb,(f2 b hb).2⟩
 refine codeAny_forLoop_any (λn s'=>∃i σ' H',Inv X pins σ' H' s'/\tn i s'.heap/\(∀b∈fp,H' b=none)/\W i n σ' H') ?_ m0 ⟨0,σ,H2,I2,st2,λb hb=>(f2 b hb).1,w0⟩
 rintro n s3 ⟨i,σ3,H3,I3,st3,fr3,w3⟩
 rcases turn i n σ3 H3 w3 with⟨stop,qn⟩ |⟨go,N,hN,step⟩
 .refine wpAny_passesOwn hp (cU (T.done X rfl rfl rfl hc i pins s3 σ3 H3 X.xe I3 (stat fr3) st3 stop) λr s4 ⟨hr,I4⟩=>?_)
  subst hr
  exact wpAny_execs_nil ⟨σ3,H3,I4,qn⟩
 .refine wpAny_passesOwn hp (cU (T.item X rfl rfl rfl hc i pins s3 σ3 H3 X.xe I3 (stat fr3) st3 go) λr s4 ⟨u,hr,h4⟩=>?_)
  subst hr
  refine wpAny_passesOwn hp (cU h4 λ_ s5 ⟨x,H5,I5,r5,y5,st5,fr5⟩=>?_)
  have I5':=I5.pinned (stat fr5) (T.obj _ _ st5)
  refine wpAny_passesOwn hp (cU (hg _ s5 σ3 H5 x u _ I5' r5 (step x H5 y5)) λ_ s6 ⟨σ6,H6,I6,q6⟩=>?_)
  refine wpAny_passesOwn hp (cU (hb _ s6 σ6 H6 _ I6 q6) λf s7 q7=>?_)
  have again:∀{σ7:St} {H7:Hp},Inv X (pins++uI fp s5.heap) σ7 H7 s7->N σ7 H7->∃m,m<n/\∃i σ' H',Inv X pins σ' H' s7/\tn i s7.heap/\(∀b∈fp,H' b=none)/\W i m σ' H':=λ{σ7 H7} I7 n7=>by
   obtain⟨m',hm,w7⟩:=hN σ7 H7 n7
   refine⟨m',hm,i+1,σ7,H7,I7.unpinned,T.keep _ _ _ st5 λb hb o e=>(I7.pin (b,o) (List.mem_append_right _ (List.mem_append_right _ (gQ hb e)))).1,λb hb=>?_,w7⟩
   obtain⟨o,e,d⟩:=T.obj _ _ st5 b hb
   exact(I7.pin (b,o) (List.mem_append_right _ (List.mem_append_right _ (gQ hb e)))).2.1
  cases f with
  |next=>obtain⟨σ7,H7,I7,n7⟩:=q7;exact again I7 n7
  |cont=>obtain⟨σ7,H7,I7,n7⟩:=q7;exact again I7 n7
  |brk=>obtain⟨σ7,H7,I7,q7⟩:=q7;exact⟨σ7,H7,I7.unpinned,q7⟩
  |ret v=>obtain⟨x7,σ7,H7,I7,r7,q7⟩:=q7;exact⟨x7,σ7,H7,I7.unpinned,r7,q7⟩
end
theorem XH{K:PySem.W.Frag}{a:Addr}{xs:List V}{g:TG}{tb:TS}{D:Ends}{σ:St}{H:Hp}(Pv:Nat->St->Hp->Prop)(h0:Pv 0 σ H)(hl:∀i σ H,i≤xs.length->Pv i σ H->bf K H a xs)
  (hs:∀i x σ H,xs[i]? =some x->Pv i σ H->g x σ H λσ2 H2=>tb {D with nx:=Pv (i+1),ct:=Pv (i+1),bk:=D.nx} σ2 H2) (hd:∀σ H,Pv xs.length σ H->D.nx σ H):
  ∃W:Nat->Nat->St->Hp->Prop,(∃m,W 0 m σ H)/\∀i m σ H,W i m σ H->
   ((Z0 K a).stop i H/\D.nx σ H)\/((Z0 K a).go i H/\∃N:St->Hp->Prop,(∀σ' H',N σ' H'->∃m',m'<m/\W (i+1) m' σ' H')/\∀x H',(Z0 K a).yld i H x H'->g x σ H' λσ2 H2=>tb {D with nx:=N,ct:=N,bk:=D.nx} σ2 H2):=by
 refine⟨λi m σ H=>m=xs.length-i/\i≤xs.length/\Pv i σ H,⟨xs.length,by simp,Nat.zero_le _,h0⟩,?_⟩
 rintro i m σ H ⟨rfl,hi,p⟩
 have q:=hl i σ H hi p
 by_cases hlt:i<xs.length
 .refine .inr ⟨⟨xs,xs[i],q,by simp[hlt]⟩,Pv (i+1),λσ' H' p'=>⟨xs.length-(i+1),by omega,rfl,hlt,p'⟩,λx H' y=>?_⟩
  obtain⟨e,y⟩:=y
  subst e
  exact hs i x σ _ (y xs q) p
 .have e:i=xs.length:=by omega
  subst e
  exact .inl ⟨⟨xs,q,Nat.le_refl _⟩,hd σ H p⟩
theorem aap{K:PySem.W.Frag}{a:Addr}{xs:List V}{g:TG}{tb:TS}{D:Ends}{σ:St}{H:Hp}(Pv:Nat->St->Hp->Prop)(h0:Pv 0 σ H)(hl:∀i σ H,i≤xs.length->Pv i σ H->fK K H a xs)
  (hs:∀i x σ H,xs[i]? =some x->Pv i σ H->g x σ H λσ2 H2=>tb {D with nx:=Pv (i+1),ct:=Pv (i+1),bk:=D.nx} σ2 H2) (hd:∀σ H,Pv xs.length σ H->D.nx σ H):
  ∃W:Nat->Nat->St->Hp->Prop,(∃m,W 0 m σ H)/\∀i m σ H,W i m σ H->
   ((Itt K a).stop i H/\D.nx σ H)\/((Itt K a).go i H/\∃N:St->Hp->Prop,(∀σ' H',N σ' H'->∃m',m'<m/\W (i+1) m' σ' H')/\∀x H',(Itt K a).yld i H x H'->g x σ H' λσ2 H2=>tb {D with nx:=N,ct:=N,bk:=D.nx} σ2 H2):=by
 refine⟨λi m σ H=>m=xs.length-i/\i≤xs.length/\Pv i σ H,⟨xs.length,by simp,Nat.zero_le _,h0⟩,?_⟩
 rintro i m σ H ⟨rfl,hi,p⟩
 have q:=hl i σ H hi p
 by_cases hlt:i<xs.length
 .refine .inr ⟨⟨xs,xs[i],q,by simp[hlt]⟩,Pv (i+1),λσ' H' p'=>⟨xs.length-(i+1),by omega,rfl,hlt,p'⟩,λx H' y=>?_⟩
  obtain⟨e,y⟩:=y
  subst e
  exact hs i x σ _ (y xs q) p
 .have e:i=xs.length:=by omega
  subst e
  exact .inl ⟨⟨xs,q,Nat.le_refl _⟩,hd σ H p⟩
theorem Rk{lo:Int}{n:Nat}{g:TG}{tb:TS}{D:Ends}{σ:St}{H:Hp}(Pv:Nat->St->Hp->Prop)(h0:Pv 0 σ H)
  (hs:∀i σ H,i<n->Pv i σ H->g (.int (lo+i)) σ H λσ2 H2=>tb {D with nx:=Pv (i+1),ct:=Pv (i+1),bk:=D.nx} σ2 H2) (hd:∀σ H,Pv n σ H->D.nx σ H):
  ∃W:Nat->Nat->St->Hp->Prop,(∃m,W 0 m σ H)/\∀i m σ H,W i m σ H->
   ((Itr lo n).stop i H/\D.nx σ H)\/((Itr lo n).go i H/\∃N:St->Hp->Prop,(∀σ' H',N σ' H'->∃m',m'<m/\W (i+1) m' σ' H')/\∀x H',(Itr lo n).yld i H x H'->g x σ H' λσ2 H2=>tb {D with nx:=N,ct:=N,bk:=D.nx} σ2 H2):=by
 refine⟨λi m σ H=>m=n-i/\i≤n/\Pv i σ H,⟨n,by simp,Nat.zero_le _,h0⟩,?_⟩
 rintro i m σ H ⟨rfl,hi,p⟩
 by_cases hlt:i<n
 .refine .inr ⟨hlt,Pv (i+1),λσ' H' p'=>⟨n-(i+1),by omega,rfl,hlt,p'⟩,λx H' y=>?_⟩
  obtain⟨e,y⟩:=y
  subst e y
  exact hs i σ _ hlt p
 .have e:i=n:=by omega
  subst e
  exact .inl ⟨Nat.le_refl _,hd σ H p⟩
abbrev R2:=V->V->Hp->VK->Prop
def vK(X:Cx)(f:Value->Value->Sem Value)(r:R2):Prop:=
 ∀(pins:List (Addr×Obj)) (s:Shared) (σ:St) (H:Hp) (x y:V) (v u:Value) (Q:VK),Inv X pins σ H s->RelV x v->RelV y u->r x y H Q->
  wpAny (model X.prog X.w) X.A (f v u) (EP X pins σ Q) X.xe s
def UnR(X:Cx)(f:Value->Sem Value)(r:V->Hp->VK->Prop):Prop:=
 ∀(pins:List (Addr×Obj)) (s:Shared) (σ:St) (H:Hp) (x:V) (v:Value) (Q:VK),Inv X pins σ H s->RelV x v->r x H Q->
  wpAny (model X.prog X.w) X.A (f v) (EP X pins σ Q) X.xe s
def pQ(X:Cx)(f:Value)(r:List V->Hp->VK->Prop):Prop:=
 ∀(pins:List (Addr×Obj)) (s:Shared) (σ:St) (H:Hp) (xs:List V) (us:List Value) (Q:VK),Inv X pins σ H s->Vals xs us->r xs H Q->
  wpAny (model X.prog X.w) X.A (call f us) (EP X pins σ Q) X.xe s
def ase(X:Cx)(r:V->Hp->(Bool->Hp->Prop)->Prop):Prop:=
 ∀(pins:List (Addr×Obj)) (s:Shared) (σ:St) (H:Hp) (x:V) (v:Value) (Q:Bool->Hp->Prop),Inv X pins σ H s->RelV x v->r x H Q->
  wpAny (model X.prog X.w) X.A (truthy v) (TP X pins σ Q) X.xe s
def tOp(r:R2)(ta tb:TE):TE:=λσ H Q=>ta σ H λx H1=>tb σ H1 λy H2=>r x y H2 Q
def tUn(r:V->Hp->VK->Prop)(ta:TE):TE:=λσ H Q=>ta σ H λx H1=>r x H1 Q
def rI(C:Int->Int->Prop)(g:Int->Int->V):R2:=λx y H Q=>∃i j,x= .int i/\y= .int j/\C i j/\Q (g i j) H
def rI0(g:Int->Int->V):R2:=λx y H Q=>∃i j,x= .int i/\y= .int j/\Q (g i j) H
def rU(g:Int->V):V->Hp->VK->Prop:=λx H Q=>∃i,x= .int i/\Q (g i) H
section
variable{X:Cx}{a b c:Expr}{ta tb tc:TE}{pos:Pos}
theorem abp(ha:PE X a ta)(hb:PE X b tb){pins:List (Addr×Obj)}{s:Shared}{σ:St}{H:Hp}{R:V->V->Hp->Prop}(I:Inv X pins σ H s)
  (h:ta σ H λx H1=>tb σ H1 λy H2=>R x y H2) {Q:Value->Shared->Prop} {f:Value->Value->Sem Value}
  (hf:∀v u s2 x y H2,Inv X pins σ H2 s2->RelV x v->RelV y u->R x y H2->wpAny (model X.prog X.w) X.A (f v u) Q X.xe s2):
  wpAny (model X.prog X.w) X.A (eval a X.env) (λv s₁=>wpAny (model X.prog X.w) X.A (eval b X.env) (λu s₂=>wpAny (model X.prog X.w) X.A (f v u) Q X.xe s₂) X.xe s₁) X.xe s:=by
 refine cU (ha pins s σ H _ I h) λv s1 ⟨x,H1,I1,r1,q1⟩=>?_
 refine cU (hb pins s1 σ H1 _ I1 q1) λu s2 ⟨y,H2,I2,r2,q2⟩=>?_
 exact hf v u s2 x y H2 I2 r1 r2 q2
theorem ai9{op:Operator}{r:R2}(ho:vK X (binaryOp op) r)(ha:PE X a ta)(hb:PE X b tb):PE X (.BinOp a op b pos) (tOp r ta tb):=by
 intro pins s σ H Q I h
 exact wpAny_BinOp (abp ha hb I h λv u s2 x y H2 I2 rx ry q=>ho pins s2 σ H2 x y v u Q I2 rx ry q)
theorem aiO{op:UnaryOp}{r:V->Hp->VK->Prop}(ho:UnR X (unaryOp op) r)(ha:PE X a ta):PE X (.UnaryOp op a pos) (tUn r ta):=by
 intro pins s σ H Q I h
 exact UnaryOp_ (cU (ha pins s σ H _ I h) λv s1 ⟨x,H1,I1,r1,q1⟩=>ho pins s1 σ H1 x v Q I1 r1 q1)
theorem opI{f:Value->Value->Sem Value}{C:Int->Int->Prop}{g:Int->Int->Int}
  (rule:∀(i j:Int) (t u:Tok) (s:Shared) (Q:Value->Shared->Prop) (E:Value->Shared->Prop),C i j->Q (.int (g i j) s.toks) {s with toks:=s.toks+1}->wpAny (model X.prog X.w) X.A (f (.int i t) (.int j u)) Q E s):
  vK X f (rI C λi j=>.int (g i j)):=by
 intro pins s σ H x y v u Q I rx ry h
 obtain⟨i,j,rfl,rfl,hc,q⟩:=h
 obtain⟨t,rfl⟩:=rx
 obtain⟨t',rfl⟩:=ry
 exact rule i j t t' s _ _ hc ⟨.int (g i j),H,I.tok _,⟨_,rfl⟩,q⟩
theorem ah7{f:Value->Value->Sem Value}{g:Int->Int->Int}
  (rule:∀(i j:Int) (t u:Tok) (s:Shared) (Q:Value->Shared->Prop) (E:Value->Shared->Prop),Q (.int (g i j) s.toks) {s with toks:=s.toks+1}->wpAny (model X.prog X.w) X.A (f (.int i t) (.int j u)) Q E s):
  vK X f (rI0 λi j=>.int (g i j)):=by
 intro pins s σ H x y v u Q I rx ry h
 obtain⟨i,j,rfl,rfl,q⟩:=h
 obtain⟨t,rfl⟩:=rx
 obtain⟨t',rfl⟩:=ry
 exact rule i j t t' s _ _ ⟨.int (g i j),H,I.tok _,⟨_,rfl⟩,q⟩
theorem ZV{f:Value->Value->Sem Value}{g:Int->Int->Bool}
  (rule:∀(i j:Int) (t u:Tok) (s:Shared) (Q:Value->Shared->Prop) (E:Value->Shared->Prop),Q (.bool (g i j)) s->wpAny (model X.prog X.w) X.A (f (.int i t) (.int j u)) Q E s):
  vK X f (rI0 λi j=>.bl (g i j)):=by
 intro pins s σ H x y v u Q I rx ry h
 obtain⟨i,j,rfl,rfl,q⟩:=h
 obtain⟨t,rfl⟩:=rx
 obtain⟨t',rfl⟩:=ry
 exact rule i j t t' s _ _ ⟨.bl (g i j),H,I,rfl,q⟩
def aji(i j:Int):Prop:=0<j/\j<1073741824
def awy(i j:Int):Prop:=j≠0/\j.natAbs<1073741824
def ajl(i j:Int):Prop:=0≤j/\j≤1000000/\i.natAbs<2^64
def Zn(i j:Int):Prop:=(-(2^64)<i/\i<2^64)\/(-(2^64)<j/\j<2^64)
theorem Zn.ok{i j:Int}(h:Zn i j):IntMulOk i j:=by
 rcases h with⟨h1,h2⟩ |⟨h1,h2⟩
 .exact .of_left (intBits_le_64 h1 h2)
 .exact .of_right (intBits_le_64 h1 h2)
theorem adQ:vK X (binaryOp .Add) (rI0 λi j=>.int (i+j)):=ah7 λ_ _ _ _ _ _ _ q=>add_int q
theorem afg:vK X (binaryOp .Sub) (rI0 λi j=>.int (i-j)):=ah7 λ_ _ _ _ _ _ _ q=>sub_int q
theorem abn:vK X (binaryOp .Mult) (rI Zn λi j=>.int (i*j)):=opI λ_ _ _ _ _ _ _ hc q=>mul_int q hc.ok
theorem YQ:vK X (binaryOp .FloorDiv) (rI aji λi j=>.int (i / j)):=opI λi j _ _ _ _ _ hc q=>by
 have h1:(0:Int)<j:=hc.1
 have h2:j<1073741824:=hc.2
 exact floordiv_int (by omega) (by rw[Int.fdiv_eq_ediv_of_nonneg i (by omega)];exact q) (.inl (PyProof.noPylong_small (by omega)))
theorem abA:vK X (binaryOp .Mod) (rI (λ_ j=>0<j) λi j=>.int (i % j)):=opI λi j _ _ _ _ _ hc q=>by
 have h1:(0:Int)<j:=hc
 exact mod_int' (by omega) (by rw[Int.fmod_eq_emod_of_nonneg i (by omega)];exact q)
theorem afr:vK X (binaryOp .Pow) (rI ajl λi j=>.int (i^j.toNat)):=opI λ_ _ _ _ _ _ _ hc q=>pow_int_small hc.1 hc.2.1 hc.2.2 q
theorem unI{f:Value->Sem Value}{g:Int->Int}
  (rule:∀(i:Int) (t:Tok) (s:Shared) (Q:Value->Shared->Prop) (E:Value->Shared->Prop),Q (.int (g i) s.toks) {s with toks:=s.toks+1}->wpAny (model X.prog X.w) X.A (f (.int i t)) Q E s):
  UnR X f (rU λi=>.int (g i)):=by
 intro pins s σ H x v Q I rx h
 obtain⟨i,rfl,q⟩:=h
 obtain⟨t,rfl⟩:=rx
 exact rule i t s _ _ ⟨.int (g i),H,I.tok _,⟨_,rfl⟩,q⟩
theorem ad6:UnR X (unaryOp .USub) (rU λi=>.int (-i)):=unI λ_ _ _ _ _ q=>neg_int q
end
def Ys:V->V->Bool
 | .non,.non=>true | .non,.int _=>true | .int _,.non=>true | .non,.bl _=>true | .bl _,.non=>true | .non,.str _=>true | .str _,.non=>true
 | .int _,.int _=>true | .bl _,.bl _=>true | .str _,.str _=>true | .byt _,.byt _=>true
 | .int _,.str _=>true | .str _,.int _=>true | .bl _,.str _=>true | .str _,.bl _=>true
 |_,_=>false
def rEq:R2:=λx y H Q=>Ys x y=true/\Q (.bl (decide (x=y))) H
def rNe:R2:=λx y H Q=>Ys x y=true/\Q (.bl (!decide (x=y))) H
theorem Oz{i j:Int}:decide (V.int i=V.int j)=(i==j):=by
 rw[Bool.eq_iff_iff]
 simp
theorem V8{i j:Bool}:decide (V.bl i=V.bl j)=(i==j):=by
 rw[Bool.eq_iff_iff]
 simp
theorem N6{i j:Str}:decide (V.str i=V.str j)=(i==j):=by
 rw[Bool.eq_iff_iff]
 simp
theorem O7{i j:Array UInt8}:decide (V.byt i=V.byt j)=(i.toList==j.toList):=by
 rw[Bool.eq_iff_iff]
 cases i
 cases j
 simp
section
variable{X:Cx}{a b c:Expr}{ta tb tc:TE}{pos:Pos}
theorem bF{pins:List (Addr×Obj)}{σ:St}{H:Hp}{s:Shared}{Q:VK}{k k':Bool}(I:Inv X pins σ H s)(q:Q (.bl k) H)(e:k=k'):EP X pins σ Q (.bool k') s:=by
 subst e
 exact⟨.bl k,H,I,rfl,q⟩
theorem aiM:vK X (compareOp .Eq) rEq:=by
 intro pins s σ H x y v u Q I rx ry h
 obtain⟨hs,q⟩:=h
 cases x with
 |non=>
  cases rx
  cases y with
  |non=>cases ry;exact PySem.EqNone.eq_none_none (bF I q (by simp))
  |bl j=>cases ry;exact PySem.EqNone.eq_none_bool (bF I q (by simp))
  |int j=>obtain⟨t',rfl⟩:=ry;exact PySem.EqNone.eq_none_int (bF I q (by simp))
  |str j=>obtain⟨t',rfl⟩:=ry;exact PySem.EqNone.eq_none_str (bF I q (by simp))
  |_=>exact absurd (show false=true from hs) Bool.false_ne_true
 |bl i=>
  cases rx
  cases y with
  |non=>cases ry;exact PySem.EqNone.eq_bool_none (bF I q (by simp))
  |bl j=>cases ry;exact eq_bool (bF I q V8)
  |str j=>obtain⟨t',rfl⟩:=ry;exact PySem.EqMixed.eq_bool_str (bF I q (by simp))
  |_=>exact absurd (show false=true from hs) Bool.false_ne_true
 |int i=>
  obtain⟨t,rfl⟩:=rx
  cases y with
  |non=>cases ry;exact PySem.EqNone.eq_int_none (bF I q (by simp))
  |int j=>obtain⟨t',rfl⟩:=ry;exact eq_int (bF I q Oz)
  |str j=>obtain⟨t',rfl⟩:=ry;exact PySem.EqMixed.eq_int_str (bF I q (by simp))
  |_=>exact absurd (show false=true from hs) Bool.false_ne_true
 |str i=>
  obtain⟨t,rfl⟩:=rx
  cases y with
  |non=>cases ry;exact PySem.EqNone.eq_str_none (bF I q (by simp))
  |bl j=>cases ry;exact PySem.EqMixed.eq_str_bool (bF I q (by simp))
  |int j=>obtain⟨t',rfl⟩:=ry;exact PySem.EqMixed.eq_str_int (bF I q (by simp))
  |str j=>obtain⟨t',rfl⟩:=ry;exact eq_str (bF I q N6)
  |_=>exact absurd (show false=true from hs) Bool.false_ne_true
 |byt i=>
  obtain⟨t,rfl⟩:=rx
  cases y with
  |byt j=>obtain⟨t',rfl⟩:=ry;exact W.eq_bytes (bF I q O7)
  |_=>exact absurd (show false=true from hs) Bool.false_ne_true
 |_=>cases y<;>exact absurd (show false=true from hs) Bool.false_ne_true
theorem aht:vK X (compareOp .NotEq) rNe:=by
 intro pins s σ H x y v u Q I rx ry h
 obtain⟨hs,q⟩:=h
 cases x with
 |non=>
  cases rx
  cases y with
  |non=>cases ry;exact PySem.EqNone.ne_none_none (bF I q (by simp))
  |bl j=>cases ry;exact PySem.EqNone.ne_none_bool (bF I q (by simp))
  |int j=>obtain⟨t',rfl⟩:=ry;exact PySem.EqNone.ne_none_int (bF I q (by simp))
  |str j=>obtain⟨t',rfl⟩:=ry;exact PySem.EqNone.ne_none_str (bF I q (by simp))
  |_=>exact absurd (show false=true from hs) Bool.false_ne_true
 |bl i=>
  cases rx
  cases y with
  |non=>cases ry;exact PySem.EqNone.ne_bool_none (bF I q (by simp))
  |bl j=>cases ry;exact ne_bool (bF I q (congrArg not V8))
  |str j=>obtain⟨t',rfl⟩:=ry;exact PySem.EqMixed.ne_bool_str (bF I q (by simp))
  |_=>exact absurd (show false=true from hs) Bool.false_ne_true
 |int i=>
  obtain⟨t,rfl⟩:=rx
  cases y with
  |non=>cases ry;exact PySem.EqNone.ne_int_none (bF I q (by simp))
  |int j=>obtain⟨t',rfl⟩:=ry;exact ne_int (bF I q (congrArg not Oz))
  |str j=>obtain⟨t',rfl⟩:=ry;exact PySem.EqMixed.ne_int_str (bF I q (by simp))
  |_=>exact absurd (show false=true from hs) Bool.false_ne_true
 |str i=>
  obtain⟨t,rfl⟩:=rx
  cases y with
  |non=>cases ry;exact PySem.EqNone.ne_str_none (bF I q (by simp))
  |bl j=>cases ry;exact PySem.EqMixed.ne_str_bool (bF I q (by simp))
  |int j=>obtain⟨t',rfl⟩:=ry;exact PySem.EqMixed.ne_str_int (bF I q (by simp))
  |str j=>obtain⟨t',rfl⟩:=ry;exact ne_str (bF I q (congrArg not N6))
  |_=>exact absurd (show false=true from hs) Bool.false_ne_true
 |byt i=>
  obtain⟨t,rfl⟩:=rx
  cases y with
  |byt j=>obtain⟨t',rfl⟩:=ry;exact W.ne_bytes (bF I q (congrArg not O7))
  |_=>exact absurd (show false=true from hs) Bool.false_ne_true
 |_=>cases y<;>exact absurd (show false=true from hs) Bool.false_ne_true
theorem ajS:vK X (compareOp .Lt) (rI0 λi j=>.bl (decide (i<j))):=ZV λ_ _ _ _ _ _ _ q=>lt_int q
theorem ahI:vK X (compareOp .LtE) (rI0 λi j=>.bl (decide (i≤j))):=ZV λ_ _ _ _ _ _ _ q=>le_int q
theorem ail:vK X (compareOp .Gt) (rI0 λi j=>.bl (decide (j<i))):=ZV λ_ _ _ _ _ _ _ q=>gt_int q
theorem akS:vK X (compareOp .GtE) (rI0 λi j=>.bl (decide (j≤i))):=ZV λ_ _ _ _ _ _ _ q=>ge_int q
theorem Q8:vK X (compareOp .In) (λx y H Q=>∃i j,x= .str i/\y= .str j/\Q (.bl (!(Builtin.Str.occurrences j i 0 j.length 1).isEmpty)) H):=by
 intro pins s σ H x y v u Q I rx ry h
 obtain⟨i,j,rfl,rfl,q⟩:=h
 obtain⟨t,rfl⟩:=rx
 obtain⟨t',rfl⟩:=ry
 exact in_str (bF I q rfl)
theorem afc:vK X (compareOp .Is) (λx y H Q=>y= .non/\Q (.bl (decide (x= .non))) H):=by
 intro pins s σ H x y v u Q I rx ry h
 obtain⟨rfl,q⟩:=h
 cases ry
 refine is_none_gen (bF I q ?_)
 cases x<;>first
  |(cases rx;rfl)
  |(obtain⟨t,rfl⟩:=rx;rfl)
def isObj:HO->Bool
 | .lst _=>true
 | .ins _ _ _=>true
 |_=>false
theorem XF(b:Expr){op:CmpOp}(h:op≠ .In:=by decide)(h2:op≠ .NotIn:=by decide):behindInMarks op b=false:=by
 have e1:(op==CmpOp.In)=false:=by cases op<;>first |rfl |exact absurd rfl h
 have e2:(op==CmpOp.NotIn)=false:=by cases op<;>first |rfl |exact absurd rfl h2
 cases b<;>simp[behindInMarks,e1,e2]
theorem Z1{op:CmpOp}{r:R2}(ho:vK X (compareOp op) r)(ha:PE X a ta)(hb:PE X b tb)(hm:behindInMarks op b=false):PE X (.Compare a [op] [b] pos) (tOp r ta tb):=by
 intro pins s σ H Q I h
 exact wpAny_Compare1 (abp ha hb I h λv u s2 x y H2 I2 rx ry q=>ho pins s2 σ H2 x y v u Q I2 rx ry q) hm
def ajg(t:TE):TT:=λσ H Q=>t σ H λx H'=>∃k,x= .bl k/\Q k H'
theorem Zb{op:CmpOp}{r:R2}(ho:vK X (compareOp op) r)(ha:PE X a ta)(hb:PE X b tb)(hm:behindInMarks op b=false):PT X (.Compare a [op] [b] pos) (ajg (tOp r ta tb)):=by
 intro pins s σ H Q I h
 refine wpAny_isTrue_Compare1 (cU (ha pins s σ H _ I h) λv s1 ⟨x,H1,I1,r1,q1⟩=>cU (hb pins s1 σ H1 _ I1 q1) λu s2 ⟨y,H2,I2,r2,q2⟩=>
  cU (ho pins s2 σ H2 x y v u _ I2 r1 r2 q2) λc s3 ⟨z,H3,I3,r3,k,e,q3⟩=>?_) hm
 subst e
 cases r3
 exact wpAny_truthy_bool ⟨H3,I3,q3⟩
def ani(r r':R2)(ta tb tc:TE):TE:=λσ H Q=>ta σ H λx H1=>tb σ H1 λy H2=>r x y H2 λz H3=>∃k,z= .bl k/\
 (if k=true then tc σ H3 λw' H4=>r' y w' H4 Q else Q (.bl false) H3)
def Y7(K:W.Frag)(x:V)(H:Hp)(k:Bool):Prop:=
 match x with
 | .non=>k=false
 | .bl b=>k=b
 | .int i=>k=(i !=0)
 | .str y=>y.length≤sizeLine/\k=((y.length:Int) !=0)
 | .byt y=>y.size≤sizeLine/\k=((y.size:Int) !=0)
 | .ref p=>(∃xs,bf K H p xs/\k= !xs.isEmpty)\/(∃xs,fK K H p xs/\k= !xs.isEmpty)\/∃kvs,H p=some (.dK kvs)/\k= !kvs.isEmpty
 |_=>False
theorem J8{κ:Type}{kvs:List (κ×V)}{vs:List (κ×Value)}(r:KV kvs vs):(!vs.isEmpty)= !kvs.isEmpty:=by
 cases r<;>rfl
theorem zj{xs:List V}{its:List Value}(r:Vals xs its):(!its.toArray.isEmpty)= !xs.isEmpty:=by
 cases r<;>simp
theorem vp:(sizeLine:Nat)<2^63:=by rw[sizeLine_eq];decide
theorem afQ:ase X (λx H Q=>∃k,Y7 X.K x H k/\Q k H):=by
 intro pins s σ H x v Q I rx h
 obtain⟨k,e,q⟩:=h
 have hl:=vp
 have hs:sizeLine=16777216:=sizeLine_eq
 cases x with
 |non=>
  cases rx
  have e':k=false:=e
  subst e'
  exact truthy_none ⟨H,I,q⟩
 |bl b=>
  cases rx
  have e':k=b:=e
  subst e'
  exact wpAny_truthy_bool ⟨H,I,q⟩
 |int i=>
  obtain⟨t,rfl⟩:=rx
  have e':k=(i !=0):=e
  subst e'
  exact PySem.P.truthy_int ⟨H,I,q⟩
 |str y=>
  obtain⟨t,rfl⟩:=rx
  obtain⟨hy,e'⟩:y.length≤sizeLine/\k=((y.length:Int) !=0):=e
  subst e'
  exact PySem.P.truthy_str (by omega) ⟨H,I.tok _,q⟩
 |byt y=>
  obtain⟨t,rfl⟩:=rx
  obtain⟨hy,e'⟩:y.size≤sizeLine/\k=((y.size:Int) !=0):=e
  subst e'
  exact W.truthy_bytes (by omega) ⟨H,I.tok _,q⟩
 |ref p=>
  cases rx
  have e':(∃xs,bf X.K H p xs/\k= !xs.isEmpty)\/(∃xs,fK X.K H p xs/\k= !xs.isEmpty)\/∃kvs,H p=some (.dK kvs)/\k= !kvs.isEmpty:=e
  rcases e' with⟨xs,hx,e'⟩ |⟨xs,hx,e'⟩ |⟨kvs,hx,e'⟩
  .subst e'
   obtain⟨its,r,pl,hz⟩:=I.list hx
   have hlen:=r.length
   exact wpAny_truthy_list pl.isList (by simp only[List.size_toArray];omega) ⟨H,I.tok _,by rw[zj r];exact q⟩
  .subst e'
   obtain⟨its,r,pl,hz⟩:=I.tuple hx
   have hlen:=r.length
   exact truthy_tuple pl (by simp only[List.size_toArray];omega) ⟨H,I.tok _,by rw[zj r];exact q⟩
  .subst e'
   obtain⟨hz,hS,vs,r,m⟩:kvs.length≤sizeLine/\(p==sysModules)=false/\∃vs,KV kvs vs/\s.heap.DictOf (De X.prog X.w) p vs:=I.hok p _ hx
   have hlen:kvs.length=vs.length:=Paired.length r
   exact wpAny_truthy_dict hS m (by omega) ⟨H,I.tok _,by rw[J8 r];exact q⟩
 |_=>exact(show False from e).elim
theorem RN(ha:PE X a ta)(he:∀whole,isTrue a X.env whole=(do let v<-whole;standAt a.pos;holding [v] (truthy v))):
  PT X a (λσ H Q=>ta σ H λx H'=>∃k,Y7 X.K x H' k/\Q k H'):=by
 intro pins s σ H Q I h
 exact isTrue_plain (cU (ha pins s σ H _ I h) λv s1 ⟨x,H1,I1,r1,q1⟩=>afQ pins s1 σ H1 x v Q I1 r1 q1) (he _)
theorem Jm:vK X (binaryOp .Add) (λx y H Q=>∃i j,x= .str i/\y= .str j/\i.length+j.length≤sizeLine/\Q (.str (i++j)) H):=by
 intro pins s σ H x y v u Q I rx ry h
 obtain⟨i,j,rfl,rfl,hz,q⟩:=h
 obtain⟨t,rfl⟩:=rx
 obtain⟨t',rfl⟩:=ry
 exact add_str (λt' tk=>⟨.str (i++j),H,I.tok _,⟨_,rfl⟩,q⟩) hz
def aiB(b:Expr):Prop:=∀o i,subscripted b false o i=operate [o,i] (getItem o i)
theorem vals1{x:V}{us:List Value}(r:Vals [x] us):∃u,us=[u]/\RelV x u:=by
 cases r with
 |cons r1 r2=>cases r2;exact⟨_,rfl,r1⟩
theorem vals2{x y:V}{us:List Value}(r:Vals [x,y] us):∃u w',us=[u,w']/\RelV x u/\RelV y w':=by
 cases r with
 |cons r1 r2=>
  cases r2 with
  |cons r3 r4=>cases r4;exact⟨_,_,rfl,r1,r3⟩
theorem uJ:pQ X (.type "int") (λxs H Q=>(∃i,xs=[.int i]/\Q (.int i) H)\/∃k,xs=[.bl k]/\Q (.int (if k then 1 else 0)) H):=by
 intro pins s σ H xs us Q I r h
 rcases h with⟨i,rfl,q⟩ |⟨k,rfl,q⟩
 .obtain⟨u,rfl,t,rfl⟩:=vals1 r
  exact call_int_int ⟨.int i,H,I,⟨_,rfl⟩,q⟩
 .obtain⟨u,rfl,r1⟩:=vals1 r
  cases r1
  exact call_int_bool ⟨.int (if k then 1 else 0),H,I.tok _,⟨_,rfl⟩,q⟩
theorem Dh:pQ X (.type "str") (λxs H Q=>∃i,xs=[.int i]/\i.natAbs.log2<1920/\Q (.str (toString i)) H):=by
 intro pins s σ H xs us Q I r h
 obtain⟨i,rfl,hz,q⟩:=h
 obtain⟨u,rfl,t,rfl⟩:=vals1 r
 exact PySem.P.str_of_int hz ⟨.str _,H,I.tok _,⟨_,rfl⟩,q⟩
def azb(K:W.Frag)(x:V)(H:Hp)(n:Nat):Prop:=
 match x with
 | .str y=>y.length≤sizeLine/\n=y.length
 | .byt y=>y.size≤sizeLine/\n=y.size
 | .ref p=>(∃xs,bf K H p xs/\n=xs.length)\/∃xs,fK K H p xs/\n=xs.length
 |_=>False
end
structure Jf(h:Heap)(x dx C:Addr)(mA:Str->Option Value):Prop where
 obj:h.get? x=some (W.instObj C dx)
 ns:h.Ns1 dx mA
 ne:dx≠x
theorem Ah{h:Heap}{dx:Addr}{mA:Str->Option Value}(n:h.Ns1 dx mA):∃od,h.get? dx=some od/\∀name,W.lookIn name od=some (mA name):=by
 obtain⟨o,es,ep,ho,hd,hk,_,hm⟩:=n
 refine⟨o,ho,λname=>?_⟩
 have e:=hm name
 unfold nsFind findBy at e
 rw[<-Array.find?_toList]at e
 unfold W.lookIn
 rw[hd]
 dsimp only
 split
 .rename_i y q
  rw[q]at e
  exact congrArg some e
 .rename_i q
  rw[q]at e
  have a:es.toList.any (·.refKey)=false:=by
   rw[List.any_eq_false]
   intro y hy
   obtain⟨z,t,hkey⟩:=hk y (Array.mem_toList_iff.mp hy)
   simp[DictEntry.refKey,hkey]
  have a':¬es.toList.any (·.refKey)=true:=by rw[a];exact Bool.false_ne_true
  rw[if_neg a']
  exact congrArg some e
theorem Jf.look{h:Heap}{x dx C:Addr}{mA:Str->Option Value}(I:Jf h x dx C mA):∃od,W.InstAt h x (W.instObj C dx) C (some od)/\∀name,W.lookIn name od=some (mA name):=
 let⟨od,ho,hl⟩:=Ah I.ns
 ⟨od,⟨I.obj,rfl,rfl,ho⟩,hl⟩
section
variable{prog:Program}{w:World}{A:Around}{E:Value->Shared->Prop}{s:Shared}{K:W.Frag}{x dx C f:Addr}{mA:Str->Option Value}{name:Str}{v:Value}
theorem get_map{expr:Bool}{Q:Value->Shared->Prop}(X:K.In s.heap)(I:Jf s.heap x dx C mA)(hg:W.plainGet K C name=true)(hh:W.hasDictIn K C=true)
  (ha:W.findIn K (.ref C) name=some none) (hv:mA name=some v) (hv':W.handedIn v=true) (h:Q v {s with toks:=s.toks+1}):
  wpAny (model prog w) A (getAttr (.ref x) name expr) Q E s:=by
 obtain⟨od,J,hl⟩:=I.look
 exact W.get_value X J (W.plainGet_of hg).1 (W.findObj_own hh ha rfl (by rw[hl,hv])) hv' h
theorem Vy{pl:Sem Bool}{Q:Value×List Value->Shared->Prop}(X:K.In s.heap)(I:Jf s.heap x dx C mA)(hg:W.plainGet K C name=true)
  (hf:W.findIn K (.ref C) name=some (some (.ref f))) (ht:W.isFn K (.ref f)=true) (hv:mA name=none) (h:Q (.ref f,[.ref x]) s):
  wpAny (model prog w) A (getMethod (.ref x) name pl) Q E s:=by
 obtain⟨od,J,hl⟩:=I.look
 exact W.method_fn X J (W.plainGet_of hg).1 (W.plainGet_of hg).2 hf (beq_iff_eq.mp ht) (by show(W.lookIn name od).map (·.isSome)=some false;rw[hl,hv];rfl) h
theorem Ye{ns:List Str}{Q:Unit->Shared->Prop}(X:K.In s.heap)(I:Jf s.heap x dx C mA)
  (hs:W.findIn K (.ref C) "__setattr__"=some (some (.builtin "object.__setattr__"))) (hp:W.plainOver K C=true) (ht:W.takerIn K C name=some none) (hh:W.hasDictIn K C=true)
  (hw:PySem.Within mA ns) (hsz:ns.length≤sizeLine)
  (h:∀h',Jf h' x dx C (λy=>if y=name then some v else mA y)->Heap.SameBut dx s.heap h'->Q () {s with heap:=h',toks:=s.toks+2}):
  wpAny (model prog w) A (setAttr (.ref x) name v) Q E s:=by
 obtain⟨od,J,hl⟩:=I.look
 refine W.set_plain X J hs (W.osa_open (s:={s with toks:=s.toks+1}) (r:=none) X J hp ht λb=>?_)
 obtain⟨cd,hc,hd'⟩:=W.any_some hh
 have hx:s.heap.get? x=some ⟨.ref C,some dx,.plain, #[]⟩:=I.obj
 refine wpAny_bind (wpAny_pure (wpAny_bind (wpAny_bind (wpAny_loadPart hx (wpAny_bind (W.Looks.here (s:={s with toks:=s.toks+1}) (W.looks_clsIn X hc) ?_))))))
 rw[hd']
 refine wpAny_pure (a:=some dx) (wpAny_bind (wpAny_pure (wpAny_bind ?_)))
 refine wpAny_nsSet1 (s:={s with toks:=s.toks+1}) I.ns λh' hn2 hs2=>?_
 obtain⟨oD,esD,epD,hoD,hdD,hcD⟩:=hn2.count (PySem.Within.cons name v hw)
 refine wpAny_bind (wpAny_lookBehind hoD (by rw[hdD];exact pastItsLine_dict (Nat.le_trans hcD (by rw[List.length_cons];omega))) ?_)
 exact wpAny_pure (h _ ⟨(hs2.2 _ (Ne.symm I.ne)).trans I.obj,hn2,I.ne⟩ hs2)
theorem U5{R:Result->Shared->Prop}{vs:List Value}{kw:List (Str×Value)}(X:K.In s.heap)(hm:W.makesIn K C=true)
  (hi:W.findIn K (.ref C) "__init__"=some (some (.ref f))) (hf:W.typeIn K (.ref f)=some (.type "function"))
  (h:codeAny (model prog w) (A.under (.builtin "type.__call__" ⟨.ref C::vs,kw⟩)) (.call (.ref f) ⟨.ref (s.heap.objs.size+1)::vs,kw⟩) (W.InitBack (s.heap.objs.size+1) R)
   {s with heap:=(s.heap.push W.emptyDict).push (W.instObj C s.heap.objs.size)}):
  codeAny (model prog w) A (.call (.ref C) ⟨vs,kw⟩) R s:=by
 obtain⟨hh,g,d,t,os⟩:=s
 exact W.make_core (W.makes_of X hm) (W.looks_findIn X hi) (λself=>W.bind_fn X self hf) (.inl rfl) h
end
def fU(f:Str)(v:V):List (Str×V)->List (Str×V)
 |[]=>[(f,v)]
 |(g,x)::r=>if g=f then(g,v)::r else(g,x)::fU f v r
theorem wD(f g:Str)(v:V):∀fs:List (Str×V),(fU f v fs).lookup g=if g=f then some v else fs.lookup g
 |[]=>by
  show List.lookup g [(f,v)]=_
  by_cases h:g=f
  .have hb:(g==f)=true:=beq_iff_eq.mpr h
   simp only[List.lookup,hb,if_pos h]
  .have hb:(g==f)=false:=beq_eq_false_iff_ne.mpr h
   simp only[List.lookup,hb,if_neg h]
 |(k,x)::r=>by
  have ih:=wD f g v r
  rw[show fU f v ((k,x)::r)=(if k=f then(k,v)::r else(k,x)::fU f v r)from rfl]
  by_cases hk:k=f
  .rw[if_pos hk]
   by_cases h:g=k
   .have hb:(g==k)=true:=beq_iff_eq.mpr h
    simp only[List.lookup,hb,if_pos (h.trans hk)]
   .have hb:(g==k)=false:=beq_eq_false_iff_ne.mpr h
    simp only[List.lookup,hb,if_neg (λe:g=f=>h (e.trans hk.symm))]
  .rw[if_neg hk]
   by_cases h:g=k
   .have hb:(g==k)=true:=beq_iff_eq.mpr h
    simp only[List.lookup,hb,if_neg (λe:g=f=>hk (h.symm.trans e))]
   .have hb:(g==k)=false:=beq_eq_false_iff_ne.mpr h
    simp only[List.lookup,hb]
    exact ih
theorem vG(f:Str)(v:V):∀fs:List (Str×V),f∈(fU f v fs).map (·.1)/\∀g,g∈fs.map (·.1)->g∈(fU f v fs).map (·.1)
 |[]=>⟨by simp[fU],λg h=>by simp at h⟩
 |(k,x)::r=>by
  obtain⟨i1,i2⟩:=vG f v r
  rw[show fU f v ((k,x)::r)=(if k=f then(k,v)::r else(k,x)::fU f v r)from rfl]
  by_cases hk:k=f
  .rw[if_pos hk]
   subst hk
   exact⟨by simp,λg h=>by simpa using h⟩
  .rw[if_neg hk]
   refine⟨?_,λg h=>?_⟩
   .rw[List.map_cons]
    exact List.mem_cons_of_mem _ i1
   .rw[List.map_cons]at h⊢
    rcases List.mem_cons.mp h with e |e
    .exact List.mem_cons.mpr (.inl e)
    .exact List.mem_cons_of_mem _ (i2 g e)
theorem dC(f:Str)(v:V):∀fs:List (Str×V),(fU f v fs).length≤fs.length+1
 |[]=>by simp[fU]
 |(k,x)::r=>by
  have ih:=dC f v r
  rw[show fU f v ((k,x)::r)=(if k=f then(k,v)::r else(k,x)::fU f v r)from rfl]
  by_cases hk:k=f
  .rw[if_pos hk,List.length_cons,List.length_cons];omega
  .rw[if_neg hk,List.length_cons,List.length_cons];omega
theorem yF.some_of{v:V}{o:Option Value}(r:yF (some v) o):∃u,o=some u/\RelV v u:=by
 cases o with
 |none=>exact(show False from r).elim
 |some u=>exact⟨u,rfl,r⟩
theorem yF.none_of{o:Option Value}(r:yF none o):o=none:=by
 cases o with
 |none=>rfl
 |some u=>exact(show False from r).elim
theorem PQ{v:V}{u:Value}(r:RelV v u):W.handedIn u=true:=by
 cases v with
 |non=>cases(show u=Value.none from r);rfl
 |bl b=>cases(show u=Value.bool b from r);rfl
 |int i=>obtain⟨t,e⟩:=(show ∃t,u=Value.int i t from r);cases e;rfl
 |str x=>obtain⟨t,e⟩:=(show ∃t,u=Value.str x t from r);cases e;rfl
 |byt b=>obtain⟨t,e⟩:=(show ∃t,u=Value.bytes b t from r);cases e;rfl
 |flt b=>obtain⟨t,e⟩:=(show ∃t,u=Value.float b t from r);cases e;rfl
 |ref a=>cases(show u=Value.ref a from r);rfl
 |ty n=>cases(show u=Value.type n from r);rfl
section
variable{P:Program}{w:World}{H H':Hp}{h h':Heap}{a C dx:Addr}{fs fs':List (Str×V)}
theorem xr(hok:uY P w H h)(e:H a=some (.ins C dx fs)):∃mA,Jf h a dx C mA/\(∀f,yF (fs.lookup f) (mA f))/\PySem.Within mA (fs.map (·.1))/\fs.length≤1000/\H dx=some (.own a):=by
 obtain⟨d,z,ne,ob,mA,n,r,q⟩:=(show d7 P w H h a (.ins C dx fs)from hok a _ e)
 exact⟨mA,⟨ob,n,ne⟩,r,q,z,d⟩
end
structure oY(K:W.Frag)(C:Addr):Prop where
 pg:W.plainGet K C Str.empty=true
 hd:W.hasDictIn K C=true
 po:W.plainOver K C=true
 sa:W.findIn K (.ref C) "__setattr__"=some (some (.builtin "object.__setattr__"))
theorem oY.get{K:W.Frag}{C:Addr}(c:oY K C)(f:Str):W.plainGet K C f=true:=c.pg
def aU(K:W.Frag)(C:Addr)(f:Str):Prop:=W.findIn K (.ref C) f=some none
theorem aU.taker{K:W.Frag}{C:Addr}{f:Str}(n:aU K C f):W.takerIn K C f=some none:=by
 unfold W.takerIn
 rw[show W.findIn K (.ref C) f=some none from n]
 rfl
structure Con(K:W.Frag)(C:Addr)(f:Str)(v:V)(u:Value):Prop where
 at_:W.findIn K (.ref C) f=some (some u)
 rel:RelV v u
 get:W.specialIn K u "__get__"=some none
 cp:W.copiedNames.contains f=false
structure Meth(K:W.Frag)(C:Addr)(m:Str)(f:Addr):Prop where
 at_:W.findIn K (.ref C) m=some (some (.ref f))
 fn:W.isFn K (.ref f)=true
 kp:W.keepIn K (.ref f)=true
section
variable{X:Cx}{pins:List (Addr×Obj)}{σ:St}{H:Hp}{s:Shared}{a C dx:Addr}{fs:List (Str×V)}{f:Str}{v:V}{A:Around}{E:Value->Shared->Prop}
theorem MP{b:Bool}{Q:Value->Shared->Prop}(I:Inv X pins σ H s)(e:H a=some (.ins C dx fs))(c:oY X.K C)(n:aU X.K C f)(l:fs.lookup f=some v)
  (h:∀u s',Inv X pins σ H s'->RelV v u->Q u s'):wpAny (model X.prog X.w) A (getAttr (.ref a) f b) Q E s:=by
 obtain⟨mA,O,r,_,_,_⟩:=xr I.hok e
 obtain⟨u,hu,ru⟩:=yF.some_of (v:=v) (o:=mA f) (by rw[<-l];exact r f)
 exact get_map I.kIn O (c.get f) c.hd n hu (PQ ru) (h u _ (I.tok _) ru)
theorem Kg{m:Str}{g:Addr}{pl:Sem Bool}{Q:Value×List Value->Shared->Prop}(I:Inv X pins σ H s)(e:H a=some (.ins C dx fs))(c:oY X.K C)(k:Meth X.K C m g)(l:fs.lookup m=none)
  (h:Q (.ref g,[.ref a]) s):wpAny (model X.prog X.w) A (getMethod (.ref a) m pl) Q E s:=by
 obtain⟨mA,O,r,_,_,_⟩:=xr I.hok e
 have hn:mA m=none:=yF.none_of (by rw[<-l];exact r m)
 exact Vy I.kIn O (c.get m) k.at_ k.fn hn h
theorem Kv{y:V}{u:Value}{Q:Unit->Shared->Prop}(I:Inv X pins σ H s)(e:H a=some (.ins C dx fs))(c:oY X.K C)(n:aU X.K C f)(hl:fs.length<1000)(ry:RelV y u)
  (h:∀s',Inv X pins σ (upd H a (.ins C dx (fU f y fs))) s'->Q () s'):wpAny (model X.prog X.w) A (setAttr (.ref a) f u) Q E s:=by
 obtain⟨mA,O,r,wi,_,ho⟩:=xr I.hok e
 have hz:(fs.map (·.1)).length≤sizeLine:=by rw[List.length_map,sizeLine_eq];omega
 refine Ye I.kIn O c.sa c.po n.taker c.hd wi hz λh' O' sb=>h _ ?_
 have hd:∃o,h'.get? dx=some o:=let⟨o,_,_,e',_⟩:=O'.ns;⟨o,e'⟩
 refine I.write (x:=a) (e:=dx) (by rw[e];exact True.intro) (.inr ho) (λb q hb z=>(sb.2 b hb).trans z) hd ?_
 refine⟨by rw[aB O.ne];exact ho,?_,O.ne,O'.obj,_,O'.ns,λg=>?_,λg hg=>?_⟩
 .have :=dC f y fs;omega
 .show yF ((fU f y fs).lookup g) (if g=f then some u else mA g)
  rw[wD]
  by_cases q:g=f
  .rw[if_pos q,if_pos q];exact ry
  .rw[if_neg q,if_neg q];exact r g
 .by_cases q:g=f
  .rw[q];exact(vG f y fs).1
  .refine(vG f y fs).2 g (wi g λz=>hg ?_)
   show(if g=f then some u else mA g)=none
   rw[if_neg q];exact z
theorem Inv.made(I:Inv X pins σ H s):Inv X pins σ (upd (upd H s.heap.objs.size (.own (s.heap.objs.size+1))) (s.heap.objs.size+1) (.ins C s.heap.objs.size []))
  {s with heap:=(s.heap.push W.emptyDict).push (W.instObj C s.heap.objs.size)}:=by
 have e1:(s.heap.push W.emptyDict).get? s.heap.objs.size=some W.emptyDict:=Heap.get?_push_size s.heap rfl
 have e2:((s.heap.push W.emptyDict).push (W.instObj C s.heap.objs.size)).get? (s.heap.objs.size+1)=some (W.instObj C s.heap.objs.size):=by
  have :=Heap.get?_push_size (s.heap.push W.emptyDict) (o:=W.instObj C s.heap.objs.size) rfl
  rwa [Heap.size_push]at this
 have e3:(s.heap.push W.emptyDict).Ns s.heap.objs.size (λ_=>none):=⟨W.emptyDict, #[],_,e1,rfl,(λe he=>absurd he (by simp)),λ_=>rfl⟩
 have I1:=I.laid (a:=s.heap.objs.size) (o:=.own (s.heap.objs.size+1)) (h':=s.heap.push W.emptyDict) (t':=s.toks) (λb u q=>Heap.get?_push_of_some _ q) (Nat.le_refl _) ⟨_,e1⟩
 refine I1.laid (a:=s.heap.objs.size+1) (o:=.ins C s.heap.objs.size []) (t':=s.toks) (λb u q=>Heap.get?_push_of_some _ q) (Nat.le_of_eq (Heap.size_push _ _)) ?_
 have ne:s.heap.objs.size≠s.heap.objs.size+1:=Nat.ne_of_lt (Nat.lt_succ_self _)
 refine⟨by rw[aB ne,ao],Nat.zero_le _,ne,e2,λ_=>none,(Heap.Ns1.of_empty e3).at λo q=>Heap.get?_push_of_some _ q,λ_=>True.intro,λy hy=>absurd rfl hy⟩
theorem Yo{prog:Program}{w:World}{env:Env}{e:Expr}{f:Str}{pos:Pos}{s:Shared}{Q:Value->Shared->Prop}(hb:attributeBase e f env (eval e env)=eval e env)
  (h:wpAny (model prog w) A (eval e env) (λo s₁=>wpAny (model prog w) A (getAttr o f true) Q E s₁) E s):wpAny (model prog w) A (eval (.Attribute e f pos) env) Q E s:=
 Attribute_any_ h (by rw[arm_eval_Attribute,hb])
end
def anY(K:W.Frag)(ta:TE)(f:Str):TE:=λσ H Q=>ta σ H λx H1=>∃a C dx fs v,x= .ref a/\H1 a=some (.ins C dx fs)/\oY K C/\aU K C f/\fs.lookup f=some v/\Q v H1
def ax0(K:W.Frag)(ta:TE)(f:Str):TE:=λσ H Q=>ta σ H λx H1=>∃a C dx fs v u,x= .ref a/\H1 a=some (.ins C dx fs)/\oY K C/\Con K C f v u/\fs.lookup f=none/\Q v H1
def arn(K:W.Frag)(ta tv:TE)(f:Str):TS:=λD σ H=>tv σ H λy H1=>ta σ H1 λx H2=>∃a C dx fs,x= .ref a/\H2 a=some (.ins C dx fs)/\oY K C/\aU K C f/\fs.length<1000/\
 D.nx σ (upd H2 a (.ins C dx (fU f y fs)))
def ayc(X:Cx)(op:Operator)(rd:V->V->Hp->VK->Prop):Prop:=
 ∀(pins:List (Addr×Obj)) (s:Shared) (σ:St) (H:Hp) (x y:V) (u v:Value) (Q:VK),Inv X pins σ H s->RelV x u->RelV y v->rd x y H Q->wpAny (model X.prog X.w) X.A (inplaceOp op u v) (EP X pins σ Q) X.xe s
def ak8(K:W.Frag)(ta tv:TE)(rd:V->V->Hp->VK->Prop)(f:Str):TS:=λD σ H=>ta σ H λx H1=>∃a C dx fs v,x= .ref a/\H1 a=some (.ins C dx fs)/\oY K C/\aU K C f/\fs.lookup f=some v/\
 tv σ H1 λy H2=>rd v y H2 λz H3=>∃dx' fs',H3 a=some (.ins C dx' fs')/\fs'.length<1000/\D.nx σ (upd H3 a (.ins C dx' (fU f z fs')))
section
variable{X:Cx}{o e value:Expr}{f:Str}{pos pos' tpos:Pos}{ta tv:TE}
theorem aen(he:PE X e ta)(hb:attributeBase e f X.env (eval e X.env)=eval e X.env):PE X (.Attribute e f pos) (anY X.K ta f):=by
 intro pins s σ H Q I h
 refine Yo hb (cU (he pins s σ H _ I h) λu s1 ⟨x,H1,I1,rx,a,C,dx,fs,v,ex,ea,c,n,l,q⟩=>?_)
 subst ex
 obtain rfl:u=Value.ref a:=rx
 exact MP I1 ea c n l λu' s2 I2 ru=>⟨v,H1,I2,ru,q⟩
theorem aeB(ha:PE X o ta)(hv:PE X value tv)(hs:swapsWith value (some (.Attribute o f pos')) pos.line X.env=pure false):PS X (.Assign [.Attribute o f pos'] value pos) (arn X.K ta tv f):=by
 intro pins s σ H D I h
 refine plainObj_wpAny_Assign_Attribute (cU (hv pins s σ H _ I h) λu s1 ⟨y,H1,I1,ry,q⟩=>cU (ha pins s1 σ H1 _ I1 q) λov s2 ⟨x,H2,I2,rx,a,C,dx,fs,ex,ea,c,n,l,q2⟩=>?_) hs
 subst ex
 obtain rfl:ov=Value.ref a:=rx
 exact Kv I2 ea c n l ry λs3 I3=>⟨σ,_,I3,q2⟩
def ay0:V->V->Hp->VK->Prop:=λx y H Q=>∃i j,x= .int i/\y= .int j/\Q (.int (i+j)) H
def aAK:V->V->Hp->VK->Prop:=λx y H Q=>∃i j,x= .int i/\y= .int j/\Q (.int (i-j)) H
end
section
variable{X:Cx}{pins:List (Addr×Obj)}{σ:St}{H:Hp}{s:Shared}{A:Around}{E:Value->Shared->Prop}{Q:Value->Shared->Prop}{c:Value}{b:Bool}
inductive mR (K:W.Frag) (H:Hp):V->Value->Prop where
 |non:mR K H .non (.type "NoneType")
 |bl (x:Bool):mR K H (.bl x) (.type "bool")
 |int (i:Int):mR K H (.int i) (.type "int")
 |str (x:Str):mR K H (.str x) (.type "str")
 |flt (x:UInt64):mR K H (.flt x) (.type "float")
 |lst {a:Addr} {xs:List V} (e:H a=some (.lst xs)):mR K H (.ref a) (.type "list")
 |frz {a:Addr} {o:Obj} {xs:List V} (e:H a=some (.frz o (.lst xs))):mR K H (.ref a) (.type "list")
 |tup {a:Addr} {xs:List V} (e:H a=some (.tup xs)):mR K H (.ref a) (.type "tuple")
 |dK {a:Addr} {kvs:List (Key×V)} (e:H a=some (.dK kvs)):mR K H (.ref a) (.type "dict")
 |dT {a:Addr} {kvs:List (List Key×V)} (e:H a=some (.dT kvs)):mR K H (.ref a) (.type "dict")
 |ins {a C dx:Addr} {fs:List (Str×V)} (e:H a=some (.ins C dx fs)) (cl:oY K C) (ha:W.findIn K (.ref C) "__class__"=some (some (.builtin "object.__class__")))
  (hn:W.specialIn K (.builtin "object.__class__") "__get__"=some (some (.builtin "getset_descriptor.__get__"))) (htk:W.takesIn K (.builtin "object.__class__")=some true)
  (hm:W.mroIn K C (.type "object")=some true):mR K H (.ref a) (.ref C)
theorem Qe{x:V}{u t:Value}(I:Inv X pins σ H s)(rx:RelV x u)(ty:mR X.K H x t)(e:W.kitOne X.K t c=some b)(h:∀tk,Q (.bool b) {s with toks:=tk}):
  wpAny (model X.prog X.w) A (call (.builtin "isinstance") [u,c]) Q E s:=by
 cases ty with
 |non=>cases(show u=Value.none from rx);exact W.kia_one W.kitx_none I.kIn True.intro e (λz=>nomatch z) h
 |bl y=>cases(show u=Value.bool y from rx);exact W.kia_one W.kitx_bool I.kIn True.intro e (λz=>nomatch z) h
 |int i=>obtain⟨t,q⟩:=(show ∃t,u=Value.int i t from rx);cases q;exact W.kia_one W.kitx_int I.kIn True.intro e (λz=>nomatch z) h
 |str y=>obtain⟨t,q⟩:=(show ∃t,u=Value.str y t from rx);cases q;exact W.kia_one W.kitx_str I.kIn True.intro e (λz=>nomatch z) h
 |flt y=>obtain⟨t,q⟩:=(show ∃t,u=Value.float y t from rx);cases q;exact W.kia_one W.kitx_float I.kIn True.intro e (λz=>nomatch z) h
 | @lst a xs ea=>
   cases(show u=Value.ref a from rx)
   obtain⟨_,_,n,_,h1⟩:=(show d7 X.prog X.w H s.heap a (.lst xs)from I.hok a _ ea)
   exact W.kia_one W.kitx_list I.kIn ⟨_,h1,rfl⟩ e (λz=>nomatch z) h
 | @frz a ob xs ea=>
   cases(show u=Value.ref a from rx)
   obtain⟨_,_,_,n,_,h1⟩:=(show d7 X.prog X.w H s.heap a (.frz ob (.lst xs))from I.hok a _ ea)
   exact W.kia_one W.kitx_list I.kIn ⟨_,h1,rfl⟩ e (λz=>nomatch z) h
 | @tup a xs ea=>
   cases(show u=Value.ref a from rx)
   obtain⟨_,_,_,p⟩:=(show d7 X.prog X.w H s.heap a (.tup xs)from I.hok a _ ea)
   obtain⟨o,h1,h2,_⟩:=p
   exact W.kia_one W.kitx_tuple I.kIn ⟨o,h1,h2⟩ e (λz=>nomatch z) h
 | @dK a kvs ea=>
   cases(show u=Value.ref a from rx)
   obtain⟨_,_,vs,_,p⟩:=(show d7 X.prog X.w H s.heap a (.dK kvs)from I.hok a _ ea)
   obtain⟨o,es,ep,h1,h2,_⟩:=p
   exact W.kia_one W.kitx_dict I.kIn ⟨o,h1,h2.1⟩ e (λz=>nomatch z) h
 | @dT a kvs ea=>
   cases(show u=Value.ref a from rx)
   obtain⟨_,_,xs,_,o,es,ep,h1,h2,_⟩:=(show d7 X.prog X.w H s.heap a (.dT kvs)from I.hok a _ ea)
   exact W.kia_one W.kitx_dict I.kIn ⟨o,h1,h2.1⟩ e (λz=>nomatch z) h
 | @ins a C dx fs ea cl ha hn htk hm=>
   cases(show u=Value.ref a from rx)
   obtain⟨mA,O,_⟩:=xr I.hok ea
   obtain⟨od,J,_⟩:=O.look
   exact W.kia_one (W.kitx_own (cl.get _) cl.hd ha hn htk hm) I.kIn J e (λz=>nomatch z) h
end
structure dU(cc:Bool)(k:Nat)(A:Around):Prop where
 hd:cc=true->A.handled=none
 dp:A.depth+3*k+5<recursionLimit
 un:A.units+16*k+200<cLine
theorem dU.mono{j k:Nat}{A:Around}(r:dU cc k A)(h:j≤k):dU cc j A:=⟨r.hd,by have :=r.dp;omega,by have :=r.un;omega⟩
theorem dU.deeper{k:Nat}{A:Around}(r:dU cc (k+1) A)(env:Env):dU cc k (A.deeper env):=
 ⟨r.hd,by have :=r.dp;show A.depth+1+3*k+5<_;omega,by have :=r.un;show A.units+3+16*k+200<_;omega⟩
theorem MF{A:Around}{C:Addr}{us:List Value}{kw:List (Str×Value)}:(A.under (.builtin "type.__call__" ⟨.ref C::us,kw⟩)).depth=A.depth+1:=by
 first |rfl |simp[Around.under,Code.weight,Code.isCreation,Code.isGuard,Code.isCaller,Code.frames,Code.isFrame,guardIds]
theorem K6{A:Around}{C:Addr}{us:List Value}{kw:List (Str×Value)}:(A.under (.builtin "type.__call__" ⟨.ref C::us,kw⟩)).units=A.units+1:=by
 first |rfl |simp[Around.under,Code.cUnits,Code.frames,Code.isFrame]
theorem dU.make{k:Nat}{A:Around}(r:dU cc (k+1) A)(C:Addr)(us:List Value)(kw:List (Str×Value)):dU cc k (A.under (.builtin "type.__call__" ⟨.ref C::us,kw⟩)):=
 ⟨r.hd,by have :=r.dp;rw[MF];omega,by have :=r.un;rw[K6];omega⟩
theorem dU.depth{k:Nat}{A:Around}(r:dU cc k A):A.depth<recursionLimit:=by have :=r.dp;omega
def aqw:TA:=λ_ H Q=>Q [] H
def ajz(ta:TE)(tr:TA):TA:=λσ H Q=>ta σ H λx H1=>tr σ H1 λxs H2=>Q (x::xs) H2
section
variable{X:Cx}{e:Expr}{es:List Expr}{te:TE}{t:TA}{pos:Pos}
theorem ab8:PA X [] aqw:=λ_ _ _ _ H Q I h=>Calls.spliced_nil ⟨[],H,I,.nil,h⟩
theorem Yu(ha:PE X e te)(hr:PA X es t)(hs:starEach (e::es) X.env=(false,eval e X.env)::starEach es X.env:=by rfl):PA X (e::es) (ajz te t):=by
 intro pos pins s σ H Q I h
 rw[hs]
 show wpAny _ _ (spliced ((false,eval e X.env)::backTo pos (starEach es X.env))) _ _ s
 refine Calls.spliced_cons (cU (ha pins s σ H _ I h) λu s1 ⟨x,H1,I1,r1,q1⟩=>?_)
 exact cU (hr pos pins s1 σ H1 _ I1 q1) λus s2 ⟨xs,H2,I2,r2,q2⟩=>⟨x::xs,H2,I2,.cons r1 r2,q2⟩
def aql(t:TA):TE:=λσ H Q=>t σ H λxs H1=>xs.length≤sizeLine/\∀p,H1 p=none->Q (.ref p) (upd H1 p (.tup xs))
def aqr(t:TA):TE:=λσ H Q=>t σ H λxs H1=>xs.length≤sizeLine/\∀p,H1 p=none->Q (.ref p) (upd H1 p (.lst xs))
theorem acI{x1}(h:PA X es t):PE X (.Tuple es x1 pos) (aql t):=by
 intro pins s σ H Q I hq
 refine wpAny_Tuple_spliced (cU (h pos pins s σ H _ I hq) λus s1 ⟨xs,H1,I1,r,z,q⟩=>⟨by rw[<-r.length];exact z,?_⟩)
 have hf:H1 s1.heap.objs.size=none:=I1.hok.fresh (Nat.le_refl _)
 refine⟨.ref s1.heap.objs.size,upd H1 s1.heap.objs.size (.tup xs),I1.laid (t':=s1.toks) (λb u e=>Heap.get?_push_of_some _ e) (Nat.le_refl _) ?_,rfl,q _ hf⟩
 exact⟨z,us,r,⟨_,Heap.get?_push_size _ rfl,rfl,_,rfl⟩⟩
theorem afB(h:PA X es t):PE X (.List es pos) (aqr t):=by
 intro pins s σ H Q I hq
 refine wpAny_List_spliced (cU (h pos pins s σ H _ I hq) λus s1 ⟨xs,H1,I1,r,z,q⟩=>⟨by rw[<-r.length];exact z,?_⟩)
 have hf:H1 s1.heap.objs.size=none:=I1.hok.fresh (Nat.le_refl _)
 refine⟨.ref s1.heap.objs.size,upd H1 s1.heap.objs.size (.lst xs),I1.laid (t':=s1.toks) (λb u e=>Heap.get?_push_of_some _ e) (Nat.le_refl _) ?_,rfl,q _ hf⟩
 exact⟨z,us,0,r,Heap.get?_push_size _ rfl⟩
end
abbrev Sp:=List V->Hp->VK->XK->Prop
abbrev RK:=List Env->Hp->Shared->XK->Value->Shared->Prop
structure Kw(P:Program)(w:World)(K:W.Frag)(mg:Str->Option Value)(base:Heap)(A:Around)(outer:List Env)(s:Shared)(H:Hp):Prop where
 frames:A.frames=some outer
 mod:Mod K mg base
 bs:∀b o,base.get? b=some o->s.heap.get? b=some o/\H b=none
 bsz:base.objs.size≤s.heap.objs.size
 funs:s.heap.FunFrames base outer
 frf:∀b∈Fw outer,H b=none
 hok:uY P w H s.heap
 bare:AllBare s.gens
def CE(outer:List Env)(P:Program)(w:World)(H:Hp)(s:Shared)(Q:VK)(u:Value)(s':Shared):Prop:=
 ∃v H',s'.os=s.os/\AllBare s'.gens/\Un (Fw outer) [] H H' s.heap s'.heap/\uY P w H' s'.heap/\RelV v u/\Q v H'
def CR(CX:RK)(outer:List Env)(P:Program)(w:World)(H:Hp)(s:Shared)(Q:VK)(E:XK)(r:Result)(s':Shared):Prop:=
 match r with
 | .ok (.ret u)=>CE outer P w H s Q u s'
 | .ok _=>False
 | .error e=>CX outer H s E e s'
structure uT(P:Program)(w:World)(K:W.Frag)(mg:Str->Option Value)(base:Heap)(CX:RK)(cc:Bool)(k:Nat)(f:Addr)(fd:FuncData)(ps:List Str)(sp:Sp):Prop where
 len:∀vs H Q E,sp vs H Q E->vs.length=ps.length
 run:∀(A:Around) (outer:List Env) (s:Shared) (H:Hp) (args:Args) (us:List Value) (vs:List V) (Q:VK) (E:XK),dU cc k A->Kw P w K mg base A outer s H->BindsTo s fd args (ps.zip us)->Vals vs us->sp vs H Q E->
  codeAny (model P w) A (.call (.ref f) args) (CR CX outer P w H s Q E) s
theorem Kw.make{P:Program}{w:World}{K:W.Frag}{mg:Str->Option Value}{base:Heap}{A:Around}{outer:List Env}{s:Shared}{H:Hp}(e:Kw P w K mg base A outer s H)(C:Addr)(us:List Value)(kw:List (Str×Value)):
  Kw P w K mg base (A.under (.builtin "type.__call__" ⟨.ref C::us,kw⟩)) outer s H:=⟨by first |exact e.frames |(simpa [Around.under,Code.envs,Code.isFrame,pushEnvs]using e.frames),e.mod,e.bs,e.bsz,e.funs,e.frf,e.hok,e.bare⟩
section
variable{X:Cx}{pins:List (Addr×Obj)}{σ:St}{H:Hp}{s s':Shared}
theorem Inv.env0(I:Inv X pins σ H s):Kw X.prog X.w X.K X.mg X.base X.A X.stack s H:=
 ⟨I.ok.frames,I.ok.mod,I.bs,Nat.le_trans I.ok.bsz I.sz,I.stack,I.stkFree,I.hok,I.bare⟩
theorem Inv.after{Q:VK}{u:Value}(I:Inv X pins σ H s)(h:CE X.stack X.prog X.w H s Q u s'):EP X pins σ Q u s':=by
 obtain⟨v,H',os,bare,un,hok,r,q⟩:=h
 obtain⟨hh,g,d,t,os'⟩:=s'
 obtain rfl:os'=s.os:=os
 exact⟨v,H',I.call (h':=hh) (g':=g) (d':=d) (t':=t) (ch:=[]) un hok bare (λb z=>absurd z (by simp)),r,q⟩
end
def axG(sp:Sp)(dvs:List V)(E:XK)(t:TA):TE:=λσ H Q=>t σ H λvs H1=>sp (vs++dvs) H1 Q E
def awI(C:Addr)(m:Str)(sp:Sp)(dvs:List V)(E:XK)(ta:TE)(t:TA):TE:=λσ H Q=>ta σ H λx H1=>∃a dx fs,x= .ref a/\H1 a=some (.ins C dx fs)/\fs.lookup m=none/\
 t σ H1 λvs H2=>sp (x::(vs++dvs)) H2 Q E
def awF(C:Addr)(sp:Sp)(dvs:List V)(E:XK)(t:TA):TE:=λσ H Q=>t σ H λvs H1=>∀x dx,H1 x=none->H1 dx=none->dx≠x->
 sp (.ref x::(vs++dvs)) (upd (upd H1 dx (.own x)) x (.ins C dx [])) (λv H2=>v= .non/\Q (.ref x) H2) E
def Binds(K:W.Frag)(fd:FuncData)(ps:List Str)(ds:List Value):Prop:=
 ∀(s:Shared) (us:List Value),K.In s.heap->(us++ds).length=ps.length->BindsTo s fd ⟨us,[]⟩ (ps.zip (us++ds))
theorem Binds.all{K:W.Frag}{fd:FuncData}{ps:List Str}(h:∀us:List Value,us.length=ps.length->bindArgs fd ⟨us,[]⟩=pure (ps.zip us)):Binds K fd ps []:=λs us _ hl=>by
 rw[List.append_nil]at hl⊢
 exact .of_eq (h us hl)
def Passes(CX:RK)(X:Cx)(E:XK):Prop:=∀(pins:List (Addr×Obj)) (σ:St) (H:Hp) (s:Shared) (e:Value) (s':Shared),Inv X pins σ H s->CX X.stack H s E e s'->X.xe e s'
section
variable{X:Cx}{CX:RK}{k:Nat}{f C:Addr}{fd:FuncData}{ps:List Str}{sp:Sp}{dvs:List V}{ds:List Value}{E:XK}{x m:Str}{p pos apos:Pos}{e o:Expr}{es:List Expr}{ta:TE}{t:TA}
structure Mk(K:W.Frag)(C f:Addr):Prop where
 makes:W.makesIn K C=true
 init:W.findIn K (.ref C) "__init__"=some (some (.ref f))
 fn:W.isFn K (.ref f)=true
 kp:W.keepIn K (.ref C)=true
end
def PK(X:Cx)(kws:List Keyword)(t:TA):Prop:=
 ∀(pos:Pos) (pins:List (Addr×Obj)) (s:Shared) (σ:St) (H:Hp) (Q:List V->Hp->Prop),Inv X pins σ H s->t σ H Q->wpAny (model X.prog X.w) X.A (evalAll ((backToKw pos (keywordEach kws X.env)).map (·.2))) (AP X pins σ Q) X.xe s
section
variable{X:Cx}{CX:RK}{k:Nat}{f C:Addr}{fd:FuncData}{ps ks:List Str}{sp:Sp}{E:XK}{x m:Str}{p pos apos kpos:Pos}{e o:Expr}{es:List Expr}{kws:List Keyword}{te ta:TE}{t tk:TA}{nm:Option Str}
structure avG(K:W.Frag)(fd:FuncData)(ps ks:List Str)(g:List Value->List Value->List Value)(gV:List V->List V->List V):Prop where
 to:∀(s:Shared) (us ws:List Value),K.In s.heap->(g us ws).length=ps.length->BindsTo s fd ⟨us,ks.zip ws⟩ (ps.zip (g us ws))
 rel:∀{vs:List V} {us:List Value} {zs:List V} {ws:List Value},Vals vs us->Vals zs ws->Vals (gV vs zs) (g us ws)
def av0(sp:Sp)(gV:List V->List V->List V)(E:XK)(t tk:TA):TE:=λσ H Q=>t σ H λvs H1=>tk σ H1 λzs H2=>sp (gV vs zs) H2 Q E
variable{g:List Value->List Value->List Value}{gV:List V->List V->List V}
end
structure aK(N P:List Str)(sc:Scope):Prop where
 kind:sc.kind= .function
 co:sc.isCoroutine=false
 gen:sc.isGenerator=false
 nd:N.Nodup
 pre:N.take P.length=P
 par:∀x∈P,sc.names.lookup x=some .local\/sc.names.lookup x=some .cell
 nofree:∀y∈sc.names,y.2≠ .free
theorem Bt{kindOf:Str->Option NameKind}{x:Str}:∀{binds:List (Str×Value)} {m:Str->Option Value},(∀v,(x,v)∉binds)->bindL kindOf binds m x=m x
 |[],_,_=>rfl
 |(n,v)::r,m,h=>by
  unfold bindL
  rw[Bt λw hw=>h w (List.mem_cons_of_mem _ hw)]
  split
  .have :x≠n:=by rintro rfl;exact h v List.mem_cons_self
   simp[this]
  .rfl
theorem Ar{kindOf:Str->Option NameKind}{x:Str}:∀{binds:List (Str×Value)} {m:Str->Option Value},(∀v,(x,v)∉binds)->bindC kindOf binds m x=m x
 |[],_,_=>rfl
 |(n,v)::r,m,h=>by
  unfold bindC
  rw[Ar λw hw=>h w (List.mem_cons_of_mem _ hw)]
  split
  .rfl
  .have :x≠n:=by rintro rfl;exact h v List.mem_cons_self
   simp[this]
theorem BJ{kindOf:Str->Option NameKind}{x:Str}{v:Value}:∀{P:List Str} {vs:List Value} {i:Nat} {m:Str->Option Value},P.Nodup->P[i]? =some x->vs[i]? =some v->kindOf x=some .local->
  bindL kindOf (P.zip vs) m x=some v
 |[],_,_,_,_,h,_,_=>by simp at h
 |_::_,[],_,_,_,_,h,_=>by simp at h
 |p::P,w::vs,0,m,nd,h1,h2,hk=>by
  simp at h1 h2;subst h1;subst h2
  show bindL kindOf ((p,w)::P.zip vs) m p=_
  unfold bindL
  rw[Bt λv hv=>(List.nodup_cons.mp nd).1 (List.of_mem_zip hv).1,if_pos hk]
  simp
 |p::P,w::vs,i+1,m,nd,h1,h2,hk=>by
  show bindL kindOf ((p,w)::P.zip vs) m x=_
  unfold bindL
  exact BJ (i:=i) (List.nodup_cons.mp nd).2 (by simpa using h1) (by simpa using h2) hk
theorem Bf{kindOf:Str->Option NameKind}{x:Str}{v:Value}:∀{P:List Str} {vs:List Value} {i:Nat} {m:Str->Option Value},P.Nodup->P[i]? =some x->vs[i]? =some v->kindOf x≠some .local->
  bindC kindOf (P.zip vs) m x=some v
 |[],_,_,_,_,h,_,_=>by simp at h
 |_::_,[],_,_,_,_,h,_=>by simp at h
 |p::P,w::vs,0,m,nd,h1,h2,hk=>by
  simp at h1 h2;subst h1;subst h2
  show bindC kindOf ((p,w)::P.zip vs) m p=_
  unfold bindC
  rw[Ar λv hv=>(List.nodup_cons.mp nd).1 (List.of_mem_zip hv).1,if_neg hk]
  simp
 |p::P,w::vs,i+1,m,nd,h1,h2,hk=>by
  show bindC kindOf ((p,w)::P.zip vs) m x=_
  unfold bindC
  exact Bf (i:=i) (List.nodup_cons.mp nd).2 (by simpa using h1) (by simpa using h2) hk
def start(N:List Str)(vs:List V):St:=vs.map some++List.replicate (N.length-vs.length) none
def Ia(cc:Bool)(CX:RK)(P:Program)(w:World)(K:W.Frag)(mg:Str->Option Value)(base:Heap)(N:List Str)(qual:Str)(scope:Scope)(f:Addr)(cd:Value)(A:Around)(outer:List Env)(s:Shared)(H:Hp)(E:XK):Cx where
 prog:=P
 w:=w
 K:=K
 mg:=mg
 base:=base
 A:=A.deeper (envOfC qual scope s.heap.objs.size f cd)
 N:=N
 s₀:=s
 H₀:=H
 env:=envOfC qual scope s.heap.objs.size f cd
 outer:=outer
 stack:=envOfC qual scope s.heap.objs.size f cd::outer
 ex:=[]
 calm:=cc
 fn:=λ_=>true
 pn:=[]
 xe:=λe s'=>wpAny (model P w) (A.deeper (envOfC qual scope s.heap.objs.size f cd)) (leaving (envOfC qual scope s.heap.objs.size f cd) e) (λ_ s''=>CX outer H s E e s'') (λe' s''=>CX outer H s E e' s'') s'
theorem Gn{sc:Scope}{n:Nat}{x:Str}(h:sc.names.lookup x=some .cell):∃c,(cellsFrom n sc.names []).lookup x=some c:=by
 have q:=W.cellsFrom_some sc.names n [] (.inl h)
 exact Option.isSome_iff_exists.mp q
theorem QC{CX:RK}{P:Program}{w:World}{K:W.Frag}{mg:Str->Option Value}{base:Heap}{N ps:List Str}{qual:Str}{scope:Scope}{f:Addr}{cd:Value}{A:Around}{outer:List Env}{s s1:Shared}{H:Hp}{E:XK}{us:List Value}{vs:List V}
  (S:aK N ps scope) (hd:cc=true->A.handled=none) (e0:Kw P w K mg base A outer s H) (hl:vs.length=ps.length) (r:Vals vs us)
  (x:InCallC s s.heap.objs.size (bindL (envOfC qual scope s.heap.objs.size f cd).kindOf (ps.zip us) λ_=>none) (cellsFrom (s.heap.objs.size+1) scope.names []) (bindC (envOfC qual scope s.heap.objs.size f cd).kindOf (ps.zip us) λ_=>none) s1):
  Inv (Ia cc CX P w K mg base N qual scope f cd A outer s H E) [] (start N vs) H s1:=by
 have hpl:ps.length≤N.length:=by have :=congrArg List.length S.pre;rw[List.length_take]at this;omega
 obtain⟨h1,tk,rfl,hk⟩:=x.done
 have noA:∀b:Addr,b∉(Ia cc CX P w K mg base N qual scope f cd A outer s H E).ex:=λb z=>absurd (show b∈([]:List Addr)from z) (by simp)
 refine⟨⟨e0.mod,S.kind,rfl,rfl,Nat.le_refl _,λy z c h1 h2=>?_,λy hy=>?_,λy c _ h=>?_,hd,Around.frames_deeper e0.frames,.inr ⟨rfl,rfl⟩,λb z=>absurd z (noA b),e0.bs,e0.bsz,λb _ _=>noA b,λb z=>absurd z (noA b),e0.funs,e0.frf⟩,
  rfl,e0.bare,Un.kept hk,⟨_,x.toInCall.ns,λi y v h1 h2 h3=>?_⟩,λy c h=>⟨_,x.cell y c h⟩,e0.hok.fresh (Nat.le_refl _),λy c h=>?_,λp hp=>absurd (show p∈([]:List (Addr×Obj))from hp) (by simp),e0.hok.kept hk,?_⟩
 .exact name_of_addr x.apart (PySem.mem_of_lookup h1) (PySem.mem_of_lookup h2)
 .have hy:scope.names.lookup y=some .cell\/scope.names.lookup y=some .free:=hy
  rcases hy with hy |hy
  .exact Gn hy
  .exact absurd rfl (S.nofree _ (PySem.mem_of_lookup hy))
 .exact Nat.le_of_lt (x.above y c (PySem.mem_of_lookup h))
 .have hi:i<vs.length:=by
   unfold start at h2
   by_cases hi:i<vs.length
   .exact hi
   .rw[List.getElem?_append_right (by simpa using hi)]at h2
    rw[List.getElem?_replicate]at h2
    split at h2<;>cases h2
  have ha:vs[i]? =some v:=by
   unfold start at h2
   rw[List.getElem?_append_left (by simpa using hi),List.getElem?_map]at h2
   cases e:vs[i]? with
   |none=>rw[e]at h2;cases h2
   |some a=>rw[e]at h2;cases h2;rfl
  obtain⟨u,hu,rv⟩:=r.get ha
  have hp:ps[i]? =some y:=by
   rw[<-S.pre,List.getElem?_take_of_lt (by omega)];exact h1
  have ndP:ps.Nodup:=by rw[<-S.pre];exact S.nd.sublist (List.take_sublist _ _)
  refine⟨u,rv,?_⟩
  rcases S.par y (List.mem_of_getElem? hp)with k |k
  .exact .inl ⟨k,BJ ndP hp hu k⟩
  .obtain⟨c,e⟩:=Gn (n:=s.heap.objs.size+1) k
   refine .inr ⟨.inl k,c,e,?_⟩
   have q:=x.cell y c e
   rw[Bf ndP hp hu (by show scope.names.lookup y≠_;rw[k];decide)]at q
   exact q
 .exact e0.hok.fresh (Nat.le_of_lt (x.above y c (PySem.mem_of_lookup h)))
 .unfold start
  show _=N.length
  rw[List.length_append,List.length_map,List.length_replicate]
  omega
theorem aiE{CX:RK}{P:Program}{w:World}{K:W.Frag}{mg:Str->Option Value}{base:Heap}{k:Nat}{f:Addr}{name qual:Str}{params:Arguments}{body:List Stmt}{scope:Scope}{dV kV doc pm cdv ct oc:Value}{an od:Option Addr}
  {osl:Array (Option Value)} {N ps:List Str} {sp:Sp} (lk:K.lookup f=some ⟨oc,od,.func (W.fnOf name qual params body scope dV kV doc pm an cdv ct),osl⟩) (hcd:W.codeIn K cdv qual=true) (S:aK N ps scope)
  (len:∀vs H Q E,sp vs H Q E->vs.length=ps.length)
  (hbody:∀(A:Around) (outer:List Env) (s:Shared) (H:Hp) (vs:List V) (Q:VK) (E:XK),dU cc k (A.deeper (envOfC qual scope s.heap.objs.size f cdv))->sp vs H Q E->
   ∃t,XX (Ia cc CX P w K mg base N qual scope f cdv A outer s H E) body t/\t {nx:=λ_ H'=>Q .non H',rt:=Q} (start N vs) H):
  uT P w K mg base CX cc (k+1) f (W.fnOf name qual params body scope dV kV doc pm an cdv ct) ps sp:=by
 refine⟨len,λA outer s H args us vs Q E hr e0 hb r hsp=>?_⟩
 have hl:=len _ _ _ _ hsp
 have KX:K.In s.heap:=e0.mod.kin.keeps λb o e=>(e0.bs b o e).1
 have lim:s.heap.NoLimit:=e0.mod.nolimit.keeps λb o e=>(e0.bs b o e).1
 have hkind:∀y∈ps.zip us,scope.names.lookup y.1=some .local\/(scope.names.lookup y.1=some .cell/\((cellsFrom (s.heap.objs.size+1) scope.names []).lookup y.1).isSome=true):=λ⟨n,v⟩ hy=>by
  rcases S.par n (List.of_mem_zip hy).1 with q |q
  .exact .inl q
  .exact .inr ⟨q,W.cellsFrom_some _ _ _ (.inl q)⟩
 refine codeAny_call_function hr.depth (KX _ _ lk) rfl S.co S.gen rfl (W.codeRec_of KX hcd) (hb _ _ _ _ ?_)
 refine wpAny_newFunctionEnv_cells S.kind hkind λenv he s1 x=>?_
 subst he
 refine⟨lim.keeps x.toInCall.keep,codeAny_func ?_⟩
 obtain⟨t,ht,hq⟩:=hbody A outer s H vs Q E (hr.deeper _) hsp
 have I:Inv (Ia cc CX P w K mg base N qual scope f cdv A outer s H E) [] (start N vs) H s1:=QC S hr.hd e0 hl r x
 refine wpAny_mono (ht [] s1 (start N vs) H _ I hq) (λfl s' hs=>?_) λe s' hs=>hs
 have fin:∀{σ':St} {H':Hp} {v:V} {u:Value},Inv (Ia cc CX P w K mg base N qual scope f cdv A outer s H E) [] σ' H' s'->RelV v u->Q v H'->CE outer P w H s Q u s':=
  λ{σ' H' v u} J rv q=>⟨v,H',J.os,J.bare,J.base,J.hok,rv,q⟩
 cases fl with
 |ret u=>
  obtain⟨v,σ',H',J,rv,q⟩:=hs
  exact fin J rv q
 |next=>
  obtain⟨σ',H',J,q⟩:=hs
  exact fin (v:=V.non) (u:=Value.none) J rfl q
 |brk=>
  obtain⟨_,_,_,q⟩:=hs
  exact False.elim q
 |cont=>
  obtain⟨_,_,_,q⟩:=hs
  exact False.elim q
section
variable{X:Cx}{x:Str}{p pos:Pos}{e:Expr}{es:List Expr}{t:TA}{id T:String}{r:List V->Hp->VK->Prop}
def tCB(r:List V->Hp->VK->Prop)(t:TA):TE:=λσ H Q=>t σ H λvs H1=>r vs H1 Q
theorem Vg(hc:pQ X (.builtin id) r)(hg:Gl X x)(hm:X.mg x=none)(hv:bootBuiltins x=some (.builtin id))(ha:PA X (e::es) t)(hn:x≠"__name__":=by decide)(hdb:(x==("__debug__":Str))=false:=by decide)
  (he:starEach (e::es) X.env=(false,eval e X.env)::starEach es X.env:=by rfl) (hpl:(backTo pos (starEach es X.env)).any (·.1)=false:=by rfl):PE X (.Call (.Name x p) (e::es) [] pos) (tCB r t):=by
 intro pins s σ H Q I h
 refine wpAny_Call_Name_kw (qQ I hg hm hv ?_ hn hdb)
 exact PyProof.Rows.callWith_builtin1 (cU (ha pos pins s σ H _ I h) λus s1 ⟨vs,H1,I1,r1,q1⟩=>hc pins s1 σ H1 vs us Q I1 r1 q1) he hpl
theorem Qv(hc:pQ X (.type T) r)(hg:Gl X x)(hm:X.mg x=none)(hv:bootBuiltins x=some (.type T))(ha:PA X (e::es) t)(hn:x≠"__name__":=by decide)(hdb:(x==("__debug__":Str))=false:=by decide)
  (he:starEach (e::es) X.env=(false,eval e X.env)::starEach es X.env:=by rfl) (hpl:(backTo pos (starEach es X.env)).any (·.1)=false:=by rfl):PE X (.Call (.Name x p) (e::es) [] pos) (tCB r t):=by
 intro pins s σ H Q I h
 refine wpAny_Call_Name_kw (qQ I hg hm hv ?_ hn hdb)
 exact PyProof.Rows.callWith_type1 (cU (ha pos pins s σ H _ I h) λus s1 ⟨vs,H1,I1,r1,q1⟩=>hc pins s1 σ H1 vs us Q I1 r1 q1) he hpl
end
end L2
namespace HT
open PySem PyProof.Rows
def lexLt:List Int->List Int->Bool
 |[],[]=>false
 |[],_::_=>true
 |_::_,[]=>false
 |x::xs,y::ys=>if x=y then lexLt xs ys else decide (x<y)
section
open PySem.SeqAt
open PySem.AutoSeq1 (wpAny_loadPart')
open PySem.MeetsSeq PySem.MeetsSeq2 PySem.MeetsSeq3
end
section
variable{prog:Program}{w:World}{A:Around}{E:Value->Shared->Prop}{s:Shared}
def jb(n d:Nat):Option Int->Nat
 |none=>d
 |some v=>if v<0 then(v+(n:Int)).toNat else min v.toNat n
theorem yJ(n d:Nat):jb n d none=d:=rfl
theorem ud(n d k:Nat):jb n d (some (k:Int))=min k n:=by
 show(if(k:Int)<0 then((k:Int)+(n:Int)).toNat else min (k:Int).toNat n)=min k n
 rw[if_neg (by omega),Int.toNat_natCast]
theorem Wv(n d:Nat)(hd:d≤n)(o:Option Int):jb n d o≤n:=by
 cases o with
 |none=>exact hd
 |some v=>
  show(if v<0 then(v+(n:Int)).toNat else min v.toNat n)≤n
  by_cases hv:v<0
  .rw[if_pos hv];omega
  .rw[if_neg hv];exact Nat.min_le_right _ _
theorem Yl(v:Int)(n d:Nat):(if v<0 then max (v+(n:Int)) 0 else min v (n:Int))=((jb n d (some v):Nat):Int):=by
 show(if v<0 then max (v+(n:Int)) 0 else min v (n:Int))=(((if v<0 then(v+(n:Int)).toNat else min v.toNat n):Nat):Int)
 by_cases hv:v<0
 .simp only[if_pos hv];omega
 .simp only[if_neg hv];omega
end
end HT
namespace L2
open PySem PySem.Spec PyProof.Rows
abbrev TO:=St->Hp->(Option Int->Hp->Prop)->Prop
def PO(X:Cx)(e:Option Expr)(t:TO):Prop:=
 ∀(pins:List (Addr×Obj)) (s:Shared) (σ:St) (H:Hp) (Q:Option Int->Hp->Prop),Inv X pins σ H s->t σ H Q->
  wpAny (model X.prog X.w) X.A (evalPart e X.env) (λu s'=>∃o H',Inv X pins σ H' s'/\IsPart u o/\Q o H') X.xe s
def Zw:TO:=λ_ H Q=>Q none H
def ahS(t:TE):TO:=λσ H Q=>t σ H λx H1=>∃i,x= .int i/\Q (some i) H1
section
variable{X:Cx}{e:Expr}{te:TE}{lo hi:Option Expr}{tl th:TO}{pos p2:Pos}
theorem Ze:PO X none Zw:=by
 intro pins s σ H Q I h
 rw[evalPart_none]
 exact wpAny_pure ⟨none,H,I,.none,h⟩
theorem Zo(h:PE X e te):PO X (some e) (ahS te):=by
 intro pins s σ H Q I hw
 rw[evalPart_some]
 refine cU (h pins s σ H _ I hw) λu s1 ⟨x,H1,I1,r1,q1⟩=>?_
 obtain⟨i,rfl,q⟩:=q1
 obtain⟨t,rfl⟩:=r1
 exact⟨some i,H1,I1,.int i t,q⟩
def SlR(X:Cx)(r:V->Option Int->Option Int->Hp->VK->Prop):Prop:=
 ∀(pins:List (Addr×Obj)) (s:Shared) (σ:St) (H:Hp) (x:V) (v vl vu:Value) (lo hi:Option Int) (sl:Addr) (Q:VK),Inv X pins σ H s->RelV x v->s.heap.IsSliceOf sl vl vu .none->IsPart vl lo->IsPart vu hi->r x lo hi H Q->
  ∃T id,typeLookup (.type T) "__getitem__"=pure (some (.builtin id))/\s.TypeIs v T/\wpAny (model X.prog X.w) X.A (getItem v (.ref sl)) (EP X pins σ Q) X.xe s
def tSl(r:V->Option Int->Option Int->Hp->VK->Prop)(te:TE)(tl th:TO):TE:=λσ H Q=>te σ H λx H1=>tl σ H1 λl H2=>th σ H2 λu H3=>r x l u H3 Q
theorem RW{r:V->Option Int->Option Int->Hp->VK->Prop}(hr:SlR X r)(he:PE X e te)(hl:PO X lo tl)(hu:PO X hi th):PE X (.Subscript e (.Slice lo hi none p2) pos) (tSl r te tl th):=by
 intro pins s σ H Q I h
 refine Subscript_ (cU (he pins s σ H _ I h) λv s1 ⟨x,H1,I1,r1,q1⟩=>?_)
 refine wpAny_Slice (cU (hl pins s1 σ H1 _ I1 q1) λvl s2 ⟨l,H2,I2,pl,q2⟩=>cU (hu pins s2 σ H2 _ I2 q2) λvu s3 ⟨u,H3,I3,pu,q3⟩=>?_)
 rw[evalPart_none]
 refine wpAny_pure ?_
 have I4:Inv X pins σ H3 {s3 with heap:=s3.heap.push {cls:=.type "slice",data:=.fields #[vl,vu,.none]}}:=I3.kept (t':=s3.toks) λb ob q=>Heap.get?_push_of_some _ q
 obtain⟨T,id,hT,ht,hg⟩:=hr pins {s3 with heap:=s3.heap.push {cls:=.type "slice",data:=.fields #[vl,vu,.none]}} σ H3 x v vl vu l u s3.heap.objs.size Q I4 r1 (Heap.IsSliceOf.new ..) pl pu q3
 show wpAny (model X.prog X.w) X.A (subscriptTail e (.Slice lo hi none p2) v (.ref s3.heap.objs.size)) (EP X pins σ Q) X.xe {s3 with heap:=s3.heap.push {cls:=.type "slice",data:=.fields #[vl,vu,.none]}}
 exact tail_any (ops:=[.ref s3.heap.objs.size,v]) ht hT hg (by with_unfolding_all rfl)
def yd(xs:List V)(lo hi:Option Int):List V:=(xs.drop (HT.jb xs.length 0 lo)).take (HT.jb xs.length xs.length hi-HT.jb xs.length 0 lo)
theorem GQ(xs:List V)(lo hi:Option Int):(yd xs lo hi).length≤xs.length:=by
 unfold yd
 rw[List.length_take,List.length_drop]
 omega
def aAO(K:W.Frag):V->Option Int->Option Int->Hp->VK->Prop:=λx lo hi H Q=>∃a xs,x= .ref a/\fK K H a xs/\
 ¬(HT.jb xs.length 0 lo=0/\HT.jb xs.length xs.length hi=xs.length)/\∀p,H p=none->Q (.ref p) (upd H p (.tup (yd xs lo hi)))
def azw(K:W.Frag):R2:=λx y H Q=>∃a b ns ms,x= .ref a/\y= .ref b/\fK K H a (ns.map V.int)/\fK K H b (ms.map V.int)/\Q (.bl (HT.lexLt ns ms)) H
def axz(K:W.Frag):R2:=λx y H Q=>∃a b xs ys,x= .ref a/\y= .ref b/\fK K H a xs/\fK K H b ys/\xs≠[]/\xs.length+ys.length≤sizeLine/\
 (ys=[]->Q (.ref a) H)/\(ys≠[]->∀p,H p=none->Q (.ref p) (upd H p (.tup (xs++ys))))
end
def ixN(n:Nat)(i:Int):Option Nat:=if 0≤i then(if i<n then some i.toNat else none)else if -(n:Int)≤i then some (i+n).toNat else none
def qg{α:Type}(xs:List α)(i:Int):Option α:=(ixN xs.length i).bind λj=>xs[j]?
theorem Yn{n:Nat}{i:Int}{j:Nat}(h:ixN n i=some j):seqIndex? i n=some j/\j<n/\ -(n:Int)≤i/\i<n:=by
 unfold ixN at h
 by_cases h0:0≤i
 .rw[if_pos h0]at h
  by_cases h1:i<n
  .rw[if_pos h1]at h
   have e:i.toNat=j:=Option.some.inj h
   exact⟨by rw[seqIndex_of h0 h1,e],by omega,by omega,h1⟩
  .rw[if_neg h1]at h;cases h
 .rw[if_neg h0]at h
  by_cases h1: -(n:Int)≤i
  .rw[if_pos h1]at h
   have e:(i+n).toNat=j:=Option.some.inj h
   exact⟨by rw[seqIndex_neg (by omega) h1,e],by omega,h1,by omega⟩
  .rw[if_neg h1]at h;cases h
theorem En{α:Type}{xs:List α}{i:Int}{v:α}(h:qg xs i=some v):∃j,seqIndex? i xs.length=some j/\xs[j]? =some v/\j<xs.length/\ -(xs.length:Int)≤i/\i<xs.length:=by
 unfold qg at h
 cases e:ixN xs.length i with
 |none=>rw[e]at h;cases h
 |some j=>
  rw[e]at h
  obtain⟨h1,h2,h3,h4⟩:=Yn e
  exact⟨j,h1,h,h2,h3,h4⟩
theorem bD{α:Type}{xs:List α}{j:Nat}{v:α}(h:xs[j]? =some v):qg xs (j:Int)=some v:=by
 have hj:j<xs.length:=(List.getElem?_eq_some_iff.mp h).1
 have e:ixN xs.length (j:Int)=some j:=by
  unfold ixN
  rw[if_pos (by omega),if_pos (by omega)];simp
 unfold qg;rw[e];exact h
def NT(b:Expr):Prop:=∀o i,subscripted b false o i=operate [o,i] (getItem o i)
def IxR(X:Cx)(r:R2):Prop:=
 ∀(value slice:Expr) (pins:List (Addr×Obj)) (s:Shared) (σ:St) (H:Hp) (x y:V) (v u:Value) (Q:VK),Inv X pins σ H s->RelV x v->RelV y u->r x y H Q->
  subscripted slice false v u=operate [v,u] (getItem v u)->wpAny (model X.prog X.w) X.A (subscriptTail value slice v u) (EP X pins σ Q) X.xe s
def MtR(X:Cx)(id:String)(r:V->List V->Hp->VK->Prop):Prop:=
 ∀(pins:List (Addr×Obj)) (s:Shared) (σ:St) (H:Hp) (x:V) (xs:List V) (v:Value) (us:List Value) (Q:VK),Inv X pins σ H s->RelV x v->Vals xs us->r x xs H Q->
  wpAny (model X.prog X.w) X.A (call (.builtin id) (v::us)) (EP X pins σ Q) X.xe s
section
variable{X:Cx}{a b:Expr}{ta tb:TE}{pos:Pos}
theorem ajR{r:R2}(hr:IxR X r)(ha:PE X a ta)(hb:PE X b tb)(hs:NT b):PE X (.Subscript a b pos) (tOp r ta tb):=by
 intro pins s σ H Q I h
 exact Subscript_ (abp ha hb I h λv u s2 x y H2 I2 rx ry q=>hr a b pins s2 σ H2 x y v u Q I2 rx ry q (hs _ _))
def ahp(K:W.Frag):R2:=λx y H Q=>∃p xs i v,x= .ref p/\y= .int i/\bf K H p xs/\qg xs i=some v/\Q v H
def ajW(K:W.Frag):R2:=λx y H Q=>∃p xs i v,x= .ref p/\y= .int i/\fK K H p xs/\qg xs i=some v/\Q v H
def aiN:R2:=λx y H Q=>∃z i c,x= .str z/\y= .int i/\z.length≤sizeLine/\qg z.cps.toList i=some c/\Q (.str ⟨#[c]⟩) H
theorem Yi:IxR X (ahp X.K):=by
 intro value slice pins s σ H x y v u Q I rx ry h hs
 obtain⟨p,xs,i,z,rfl,rfl,hq,he,q⟩:=h
 cases rx
 obtain⟨t,rfl⟩:=ry
 obtain⟨its,r,pl,hz⟩:=I.list hq
 obtain⟨j,h1,h2,h3,h4,h5⟩:=En he
 obtain⟨w,ew,rw'⟩:=r.get h2
 have hl:=r.length
 have hn:=vp
 have fin:EP X pins σ Q w s:=⟨z,H,I,rw',q⟩
 by_cases h0:0≤i
 .have hj:i.toNat=j:=by
   rw[seqIndex_of h0 h5]at h1
   exact Option.some.inj h1
  exact item_listR pl.isList h0 (by omega) (by rw[hj];simpa using ew) fin hs
 .have hj:(i+(its.toArray.size:Int)).toNat=j:=by
   rw[seqIndex_neg (by omega) h4]at h1
   rw[List.size_toArray, <-hl]
   exact Option.some.inj h1
  exact subscriptTail_builtinR (x:=w) pl.isList.typeIs slot_list_getitem.lookup
   (wpAny_getItem_list_neg (Q:=λr s'=>r=w/\EP X pins σ Q r s') pl.isList (by omega) (by rw[List.size_toArray]<;>omega) (by omega) (by rw[hj];simpa using ew) ⟨rfl,fin⟩) hs
theorem acP:IxR X (ajW X.K):=by
 intro value slice pins s σ H x y v u Q I rx ry h hs
 obtain⟨p,xs,i,z,rfl,rfl,hq,he,q⟩:=h
 cases rx
 obtain⟨t,rfl⟩:=ry
 obtain⟨its,r,pl,hz⟩:=I.tuple hq
 obtain⟨j,h1,h2,h3,h4,h5⟩:=En he
 obtain⟨w,ew,rw'⟩:=r.get h2
 have hl:=r.length
 have hn:=vp
 have fin:EP X pins σ Q w s:=⟨z,H,I,rw',q⟩
 exact subscriptTail_builtinR (x:=w) pl.typeIs slot_tuple_getitem.lookup
  (getItem_tuple (j:=j) (Q:=λr s'=>r=w/\EP X pins σ Q r s') pl (by omega) (by omega) (by rw[List.size_toArray, <-hl];exact h1) (by simpa using ew) ⟨rfl,fin⟩) hs
theorem abW:IxR X aiN:=by
 intro value slice pins s σ H x y v u Q I rx ry h hs
 obtain⟨z,i,c,rfl,rfl,hz,he,q⟩:=h
 obtain⟨t,rfl⟩:=rx
 obtain⟨t',rfl⟩:=ry
 obtain⟨j,h1,h2,h3,h4,h5⟩:=En he
 have hl:z.cps.toList.length=z.length:=by simp[Str.length]
 rw[hl]at h1 h4 h5
 have hn:=vp
 exact tail_any (typeIs_str s z t) slot_str_getitem.lookup (getItem_str (c:=c) (by
  have e1:decide (i< -(2^63:Int))=false:=decide_eq_false (by omega)
  have e2:decide (i≥2^63)=false:=decide_eq_false (by omega)
  rw[e1,e2,Bool.or_false]) (by rw[h1];simpa using h2) ⟨.str ⟨#[c]⟩,H,I.tok _,⟨_,rfl⟩,q⟩) hs
def rIx(K:W.Frag):R2:=λx y H Q=>ahp K x y H Q\/ajW K x y H Q\/aiN x y H Q
def awJ:V->V->V->Hp->(Hp->Prop)->Prop:=λo i v H Q=>∃p xs k j,o= .ref p/\i= .int k/\H p=some (.lst xs)/\ixN xs.length k=some j/\Q (upd H p (.lst (xs.set j v)))
theorem Ca(lo hi:Option Int)(n:Nat):(sliceBounds lo hi none n).1=((HT.jb n 0 lo:Nat):Int)/\(sliceBounds lo hi none n).2.1=((HT.jb n n hi:Nat):Int)/\(sliceBounds lo hi none n).2.2=1:=by
 refine⟨?_,?_,rfl⟩
 .cases lo with
  |none=>simp[sliceBounds,HT.jb]
  |some i=>
   simp only[sliceBounds,HT.jb,Option.getD_none,show(1:Int)>0 by decide,if_true]
   by_cases h:i<0
   .simp only[h,if_true]<;>omega
   .simp only[h,if_false]<;>omega
 .cases hi with
  |none=>simp[sliceBounds,HT.jb]
  |some i=>
   simp only[sliceBounds,HT.jb,Option.getD_none,show(1:Int)>0 by decide,if_true]
   by_cases h:i<0
   .simp only[h,if_true]<;>omega
   .simp only[h,if_false]<;>omega
theorem zy(its:List Value)(lo hi:Option Int):slicePick its.toArray lo hi none=((its.drop (HT.jb its.length 0 lo)).take (HT.jb its.length its.length hi-HT.jb its.length 0 lo)).toArray:=by
 obtain⟨h1,h2,h3⟩:=Ca lo hi its.toArray.size
 unfold slicePick
 rw[h1,h2,h3]
 simp only[sliceRange_one,pick_run,List.size_toArray]<;>rfl
def aoV(K:W.Frag):V->Option Int->Option Int->Hp->VK->Prop:=λx lo hi H Q=>∃a xs,x= .ref a/\bf K H a xs/\∀p,H p=none->Q (.ref p) (upd H p (.lst (yd xs lo hi)))
theorem Yv:SlR X (aoV X.K):=by
 intro pins s σ H x v vl vu lo hi sl Q I rx hs pl pu h
 obtain⟨a,xs,rfl,hx,q⟩:=h
 cases rx
 obtain⟨its,r,ht,hz⟩:=I.list hx
 have hlen:=r.length
 refine⟨"list",_,slot_list_getitem.lookup,ht.isList.typeIs,?_⟩
 refine wpAny_getItem_list_slice ht.isList hs pl pu .none (by simp) ?_ (by rw[List.size_toArray]<;>omega)
 rw[zy, <-hlen]
 refine⟨.ref s.heap.objs.size,_,I.laid (t':=s.toks) (o:=.lst (yd xs lo hi)) (λb ob q=>Heap.get?_push_of_some _ q) (Nat.le_refl _) ?_,rfl,q _ (I.hok.fresh (Nat.le_refl _))⟩
 exact⟨Nat.le_trans (GQ xs lo hi) hz,_,0,(r.drop (HT.jb xs.length 0 lo)).take (HT.jb xs.length xs.length hi-HT.jb xs.length 0 lo),Heap.get?_push_size _ rfl⟩
def jG:V->Bool
 | .non=>true
 | .bl _=>true
 | .int _=>true
 | .str _=>true
 |_=>false
def Ql:V->V->Bool
 | .non,.non=>true
 | .bl a,.bl b=>a==b
 | .bl a,.int b=>(if a then 1 else 0)==b
 | .int a,.bl b=>a==(if b then 1 else 0)
 | .int a,.int b=>a==b
 | .str a,.str b=>a==b
 |_,_=>false
theorem agI{A:Around}{s:Shared}{y x:V}{u v:Value}(ry:RelV y u)(rx:RelV x v)(fy:jG y=true)(fx:jG x=true):SeqAt.EqAt A s u v (Ql y x):=by
 cases y with
 |non=>
  cases ry
  cases x with
  |non=>cases rx;exact SeqAt.EqAt.same _
  |bl b=>cases rx;exact SeqAt.EqAt.none_bool b
  |int b=>obtain⟨t,rfl⟩:=rx;exact SeqAt.EqAt.none_int b t
  |str b=>obtain⟨t,rfl⟩:=rx;exact SeqAt.EqAt.none_str b t
  |_=>exact absurd (show false=true from fx) Bool.false_ne_true
 |bl a=>
  cases ry
  cases x with
  |non=>cases rx;exact SeqAt.EqAt.bool_none a
  |bl b=>cases rx;exact SeqAt.EqAt.bool_bool a b
  |int b=>obtain⟨t,rfl⟩:=rx;exact SeqAt.EqAt.bool_int a b t
  |str b=>obtain⟨t,rfl⟩:=rx;exact SeqAt.EqAt.bool_str a b t
  |_=>exact absurd (show false=true from fx) Bool.false_ne_true
 |int a=>
  obtain⟨t',rfl⟩:=ry
  cases x with
  |non=>cases rx;exact SeqAt.EqAt.int_none a t'
  |bl b=>cases rx;exact SeqAt.EqAt.int_bool a t' b
  |int b=>obtain⟨t,rfl⟩:=rx;exact SeqAt.EqAt.int_int a t' b t
  |str b=>obtain⟨t,rfl⟩:=rx;exact SeqAt.EqAt.int_str a t' b t
  |_=>exact absurd (show false=true from fx) Bool.false_ne_true
 |str a=>
  obtain⟨t',rfl⟩:=ry
  cases x with
  |non=>cases rx;exact SeqAt.EqAt.str_none a t'
  |bl b=>cases rx;exact SeqAt.EqAt.str_bool a t' b
  |int b=>obtain⟨t,rfl⟩:=rx;exact SeqAt.EqAt.str_int a t' b t
  |str b=>obtain⟨t,rfl⟩:=rx;exact SeqAt.EqAt.str_str a t' b t
  |_=>exact absurd (show false=true from fx) Bool.false_ne_true
 |_=>exact absurd (show false=true from fy) Bool.false_ne_true
def JW(x:V)(u:Value):Bool:=match u with
 | .none=>Ql .non x
 | .bool b=>Ql (.bl b) x
 | .int i _=>Ql (.int i) x
 | .str z _=>Ql (.str z) x
 |_=>false
theorem U0{x y:V}{u:Value}(r:RelV y u)(f:jG y=true):JW x u=Ql y x:=by
 cases y with
 |non=>cases r;rfl
 |bl b=>cases r;rfl
 |int i=>obtain⟨t,rfl⟩:=r;rfl
 |str z=>obtain⟨t,rfl⟩:=r;rfl
 |_=>exact absurd (show false=true from f) Bool.false_ne_true
theorem tZ{x:V}:∀{xs:List V} {us:List Value},Vals xs us->xs.all jG=true->us.any (JW x)=xs.any λy=>Ql y x
 |_,_,.nil,_=>rfl
 |y::xs,u::us,.cons r t,f=>by
  rw[List.all_cons,Bool.and_eq_true]at f
  rw[List.any_cons,List.any_cons,U0 r f.1,tZ t f.2]
theorem nQ{A:Around}{s:Shared}{x:V}{v:Value}(rx:RelV x v)(fx:jG x=true):∀{xs:List V} {us:List Value},Vals xs us->xs.all jG=true->∀u∈us,SeqAt.EqAt A s u v (JW x u)
 |_,_,.nil,_=>λu hu=>by cases hu
 |y::xs,u::us,.cons r t,f=>λu' hu=>by
  rw[List.all_cons,Bool.and_eq_true]at f
  rcases List.mem_cons.mp hu with rfl |hu
  .rw[U0 r f.1];exact agI r rx f.1 fx
  .exact nQ rx fx t f.2 u' hu
def QH(x:V)(xs:List V):Bool:=xs.any λy=>Ql y x
def rIn(K:W.Frag)(neg:Bool):R2:=λx y H Q=>∃p xs,y= .ref p/\(bf K H p xs\/fK K H p xs)/\jG x=true/\xs.all jG=true/\Q (.bl (if neg then !QH x xs else QH x xs)) H
theorem Pu:vK X (compareOp .In) (rIn X.K false):=by
 intro pins s σ H x y v u Q I rx ry h
 obtain⟨p,xs,rfl,hq,fx,fs,q⟩:=h
 cases ry
 rcases hq with hq |hq
 .obtain⟨its,r,pl,hz⟩:=I.list hq
  refine SeqAt.in_listAt (JW x) pl.isList (λw hw=>nQ rx fx r fs w (by simpa using hw)) ⟨.bl _,H,I,rfl,?_⟩
  rw[show its.toArray.any (JW x)=its.any (JW x)by simp,tZ r fs]
  exact q
 .obtain⟨its,r,pl,hz⟩:=I.tuple hq
  refine SeqAt.in_tupleAt (JW x) pl (λw hw=>nQ rx fx r fs w (by simpa using hw)) ⟨.bl _,H,I,rfl,?_⟩
  rw[show its.toArray.any (JW x)=its.any (JW x)by simp,tZ r fs]
  exact q
theorem uh:vK X (compareOp .NotIn) (rIn X.K true):=by
 intro pins s σ H x y v u Q I rx ry h
 obtain⟨p,xs,rfl,hq,fx,fs,q⟩:=h
 cases ry
 rcases hq with hq |hq
 .obtain⟨its,r,pl,hz⟩:=I.list hq
  refine SeqAt.notIn_listAt (JW x) pl.isList (λw hw=>nQ rx fx r fs w (by simpa using hw)) ⟨.bl _,H,I,rfl,?_⟩
  rw[show its.toArray.any (JW x)=its.any (JW x)by simp,tZ r fs]
  exact q
 .obtain⟨its,r,pl,hz⟩:=I.tuple hq
  refine SeqAt.notIn_tupleAt (JW x) pl (λw hw=>nQ rx fx r fs w (by simpa using hw)) ⟨.bl _,H,I,rfl,?_⟩
  rw[show its.toArray.any (JW x)=its.any (JW x)by simp,tZ r fs]
  exact q
theorem Dn:pQ X (.builtin "len") (λxs H Q=>∃p ys,xs=[.ref p]/\(bf X.K H p ys\/fK X.K H p ys)/\Q (.int ys.length) H):=by
 intro pins s σ H xs us Q I r h
 obtain⟨p,ys,rfl,hq,q⟩:=h
 obtain⟨u,rfl,rx⟩:=vals1 r
 cases rx
 have hn:=vp
 rcases hq with hq |hq
 .obtain⟨its,r',pl,hz⟩:=I.list hq
  have hlen:=r'.length
  exact Calls.call_len_list pl.isList (by simp only[List.size_toArray]<;>omega) ⟨.int ys.length,H,I.tok _,⟨s.toks+1,by rw[List.size_toArray,hlen]⟩,q⟩
 .obtain⟨its,r',pl,hz⟩:=I.tuple hq
  have hlen:=r'.length
  exact len_tuple pl (by simp only[List.size_toArray]<;>omega) ⟨.int ys.length,H,I.tok _,⟨s.toks+1,by rw[List.size_toArray,hlen]⟩,q⟩
theorem Em:pQ X (.builtin "len") (λxs H Q=>∃z,xs=[.str z]/\z.length≤sizeLine/\Q (.int z.length) H):=by
 intro pins s σ H xs us Q I r h
 obtain⟨z,rfl,hz,q⟩:=h
 obtain⟨u,rfl,t,rfl⟩:=vals1 r
 have hn:=vp
 exact len_str (by omega) ⟨.int z.length,H,I.tok _,⟨_,rfl⟩,q⟩
def tyV(K:W.Frag)(T:String)(x:V)(H:Hp):Prop:=match x with
 | .str _=>T="str"
 | .int _=>T="int"
 | .ref p=>(T="list"/\∃xs,bf K H p xs)\/(T="tuple"/\∃o,K.lookup p=some o/\o.cls= .type "tuple"/\o.dict=none)\/
   (T="dict"/\((∃kvs,H p=some (.dK kvs))\/∃kvs,H p=some (.dT kvs)))\/(T="set"/\∃S n,H p=some (.set S n))
 |_=>False
theorem abJ{pins:List (Addr×Obj)}{σ:St}{H:Hp}{s:Shared}{T:String}{x:V}{v:Value}(I:Inv X pins σ H s)(r:RelV x v)(ty:tyV X.K T x H):
  s.TypeIs v T/\∀a,v= .ref a->∃ob,s.heap.get? a=some ob/\ob.dict=none:=by
 cases x with
 |str z=>
  obtain⟨t,rfl⟩:=r
  cases(show T="str" from ty)
  exact⟨typeIs_str s z t,λ_ e=>nomatch e⟩
 |int i=>
  obtain⟨t,rfl⟩:=r
  cases(show T="int" from ty)
  exact⟨typeIs_int s i t,λ_ e=>nomatch e⟩
 |ref p=>
  cases r
  rcases ty with⟨rfl,xs,hq⟩ |⟨rfl,o,hk,hc,hd⟩ |⟨rfl,hk⟩ |⟨rfl,S,n,hk⟩
  .obtain⟨its,_,pl,_⟩:=I.list hq
   refine⟨pl.isList.typeIs,λa e=>?_⟩
   cases e
   obtain⟨o,n,e,c,hd,_⟩:=pl
   exact⟨o,e,hd⟩
  .refine⟨⟨o,I.kIn p o hk,hc⟩,λa e=>?_⟩
   cases e
   exact⟨o,I.kIn _ o hk,hd⟩
  .have z:∃o,s.heap.get? p=some o/\o.ExactDict:=by
    rcases hk with⟨kvs,hk⟩ |⟨kvs,hk⟩
    .obtain⟨_,_,_,_,o,_,_,e,ex,_⟩:=I.hok p _ hk
     exact⟨o,e,ex⟩
    .obtain⟨_,_,_,_,o,_,_,e,ex,_⟩:=I.hok p _ hk
     exact⟨o,e,ex⟩
   obtain⟨o,e,ex⟩:=z
   refine⟨⟨o,e,ex.1⟩,λa e2=>?_⟩
   cases e2
   exact⟨o,e,ex.2.1⟩
  .obtain⟨o,_,_,_,e,ex,_⟩:=I.hok p _ hk
   refine⟨⟨o,e,ex.1⟩,λa e2=>?_⟩
   cases e2
   exact⟨o,e,ex.2.1⟩
 |_=>exact False.elim ty
def aAl(K:W.Frag)(T:String)(r:V->List V->Hp->VK->Prop)(to:TE):TE:=λσ H Q=>to σ H λx H1=>tyV K T x H1/\r x [] H1 Q
def tBM(K:W.Frag)(T:String)(r:V->List V->Hp->VK->Prop)(to:TE)(t:TA):TE:=λσ H Q=>to σ H λx H1=>tyV K T x H1/\t σ H1 λxs H2=>r x xs H2 Q
variable{o e:Expr}{es:List Expr}{to:TE}{t:TA}{name:Str}{apos cpos:Pos}{T id:String}{r:V->List V->Hp->VK->Prop}
theorem aho(pa:PlainAttrs T)(slot:Slot T name id)(hty:typeOf (.builtin id)=pure (.type "method_descriptor"))(hm:MtR X id r)(ho:PE X o to)(ha:PA X (e::es) t)
  (hbase:attributeBase o name X.env (eval o X.env)=eval o X.env:=by rfl)
  (hfew:((backTo cpos (starEach (e::es) X.env)).all (λx=> !x.1)&&(backToKw cpos (keywordEach [] X.env)).all (λx=>x.1.isSome)
   &&decide ((e::es).length+([]:List Keyword).length+(if([]:List Keyword).isEmpty then 0 else 1)<30))=true:=by rfl)
  (hline:(apos.endLine==cpos.line)=true:=by rfl) (hs:starEach (e::es) X.env=(false,eval e X.env)::starEach es X.env:=by rfl) (hplain:(backTo cpos (starEach es X.env)).any (·.1)=false:=by rfl):
  PE X (.Call (.Attribute o name apos) (e::es) [] cpos) (tBM X.K T r to t):=by
 intro pins s σ H Q I h
 refine wpAny_Call_method_late hbase hfew hline rfl (cU (ho pins s σ H _ I h) λv s1 ⟨x,H1,I1,r1,ty,q1⟩=>?_)
 obtain⟨h1,h2⟩:=abJ I1 r1 ty
 refine⟨T,id,pa,slot,hty,h1,h2,?_⟩
 have hA:=ha cpos pins s1 σ H1 _ I1 q1
 rw[hs]at hA⊢
 refine Calls.callWith_builtin (by show(false||(backTo cpos (starEach es X.env)).any (·.1))=false;rw[hplain]<;>rfl) (Calls.evalArgs_plain ?_)
 exact cU hA λus s2 ⟨vs,H2,I2,r2,q2⟩=>hm pins s2 σ H2 x vs v us Q I2 r1 r2 q2
end
def MtM(X:Cx)(id:String)(r:V->List V->Hp->VK->Prop):Prop:=
 ∀(pins:List (Addr×Obj)) (s:Shared) (σ:St) (H:Hp) (x:V) (xs:List V) (v:Value) (us:List Value) (Q:VK),Inv X pins σ H s->RelV x v->Vals xs us->r x xs H Q->
  wpAny (model X.prog X.w) X.A (call (.builtin id) (v::us)) (EP X pins σ Q) X.xe s
theorem Vals.one:∀{x:V} {us:List Value},Vals [x] us->∃u,us=[u]/\RelV x u
 |_,_,.cons r .nil=>⟨_,rfl,r⟩
section
variable{X:Cx}{pins:List (Addr×Obj)}{σ:St}{H:Hp}{s:Shared}{l b:Addr}{xs ys zs:List V}
theorem Inv.lset{its its':List Value}{n:Nat}{f:Array Value->Array Value}{t':Nat}(I:Inv X pins σ H s)(hH:H l=some (.lst xs))
  (e:s.heap.get? l=some {cls:=.type "list",data:=.seq its.toArray n}) (hf:f its.toArray=its'.toArray) (hv:Vals ys its') (hz:ys.length≤sizeLine):
  Inv X pins σ (upd H l (.lst ys)) {s with heap:=s.heap.update l (Obj.mapSeq f),toks:=t'}:=by
 have q:=PySem.IsL.update e f
 rw[hf]at q
 refine I.write (x:=l) (e:=l) (by rw[hH];exact trivial) (.inl rfl) (λb' u hb hu=>(Heap.get?_update_other s.heap (Obj.mapSeq f) (Ne.symm hb)).trans hu) ⟨_,q⟩ ?_
 exact⟨hz,its',_,hv,q⟩
theorem Inv.lnew{its:List Value}{t':Nat}(I:Inv X pins σ H s)(hv:Vals ys its)(hz:ys.length≤sizeLine):
  Inv X pins σ (upd H s.heap.objs.size (.lst ys)) {s with heap:=s.heap.push {cls:=.type "list",data:=.seq its.toArray},toks:=t'}:=
 I.laid (λ_ _ q=>Heap.get?_push_of_some _ q) (Nat.le_refl _) ⟨hz,its,0,hv,Heap.get?_push_size _ rfl⟩
theorem Inv.fresh(I:Inv X pins σ H s):H s.heap.objs.size=none:=I.hok.fresh (Nat.le_refl _)
theorem Inv.lstM(I:Inv X pins σ H s)(hH:H l=some (.lst xs)):xs.length≤sizeLine/\∃(its:List Value) (n:Nat),Vals xs its/\xs.length=its.length/\s.heap.get? l=some {cls:=.type "list",data:=.seq its.toArray n}:=by
 obtain⟨z,its,n,r,e⟩:=I.hok l _ hH
 exact⟨z,its,n,r,r.length,e⟩
end
section
variable{X:Cx}
def Y6:V->List V->Hp->VK->Prop:=λx vs H Q=>∃l xs y,x= .ref l/\vs=[y]/\H l=some (.lst xs)/\xs.length<sizeLine/\Q .non (upd H l (.lst (xs++[y])))
theorem gK:MtM X "list.append" Y6:=by
 intro pins s σ H x vs v us Q I rx rv h
 obtain⟨l,xs,y,rfl,rfl,hH,hz,q⟩:=h
 cases rx
 obtain⟨u,rfl,ru⟩:=rv.one
 obtain⟨z,its,n,r,hl,e⟩:=I.lstM hH
 refine call_meets F.slot_list_append ⟨_,e,rfl⟩ F.entry_list_append (F.args_list_append_2 _ _) (PySem.list_append l its.toArray n u (by rw[List.size_toArray];omega)) ⟨e,?_⟩
 refine⟨.non,_,I.lset (its':=its++[u]) hH e (by simp) (r.append (.cons ru .nil)) ?_,rfl,q⟩
 rw[List.length_append,List.length_singleton]
 omega
def akX:V->List V->Hp->VK->Prop:=λx vs H Q=>∃l b xs zs,x= .ref l/\vs=[.ref b]/\H l=some (.lst xs)/\H b=some (.lst zs)/\xs.length+zs.length≤sizeLine/\Q .non (upd H l (.lst (xs++zs)))
def azj:V->List V->Hp->VK->Prop:=λx vs H Q=>∃l xs y,x= .ref l/\vs=[]/\H l=some (.lst xs)/\xs[xs.length-1]? =some y/\Q y (upd H l (.lst xs.dropLast))
def asK:V->List V->Hp->VK->Prop:=λx vs H Q=>∃l xs i k y,x= .ref l/\vs=[.int i]/\H l=some (.lst xs)/\ -(2^63)≤i/\i<2^63/\seqIndex? i xs.length=some k/\xs[k]? =some y/\Q y (upd H l (.lst (xs.eraseIdx k)))
def aj2:V->List V->Hp->VK->Prop:=λx vs H Q=>∃l xs,x= .ref l/\vs=[]/\H l=some (.lst xs)/\Q .non (upd H l (.lst xs.reverse))
def anB:V->List V->Hp->VK->Prop:=λx vs H Q=>∃l xs,x= .ref l/\vs=[]/\H l=some (.lst xs)/\Q .non (upd H l (.lst []))
def anC:R2:=λx y H Q=>∃l b xs zs,x= .ref l/\y= .ref b/\H l=some (.lst xs)/\H b=some (.lst zs)/\xs.length+zs.length≤sizeLine/\∀p,H p=none->Q (.ref p) (upd H p (.lst (xs++zs)))
theorem ag3:vK X (binaryOp .Add) anC:=by
 intro pins s σ H x y v u Q I rx ry h
 obtain⟨l,b,xs,zs,rfl,rfl,hH,hB,hz,q⟩:=h
 cases rx
 cases ry
 obtain⟨z,its,n,r,hl,e⟩:=I.lstM hH
 obtain⟨z2,its2,n2,r2,hl2,e2⟩:=I.lstM hB
 refine PySem.P.add_list e e2 ?_ (by rw[List.size_toArray,List.size_toArray];omega)
 have ea:its.toArray++its2.toArray=(its++its2).toArray:=by simp
 rw[ea]
 exact⟨.ref _,_,I.lnew (t':=s.toks) (r.append r2) (by rw[List.length_append];omega),rfl,q _ I.fresh⟩
def ay2:R2:=λx y H Q=>∃l k xs,x= .ref l/\y= .int k/\H l=some (.lst xs)/\ -(2^63)≤k/\k<2^63/\xs.length*k.toNat≤sizeLine/\
 ∀p,H p=none->Q (.ref p) (upd H p (.lst (List.replicate k.toNat xs).flatten))
end
section
variable{prog:Program}{w:World}{A:Around}{E:Value->Shared->Prop}{s:Shared}
end
section
variable{X:Cx}
end
section
variable{κ:Type} [DecidableEq κ]
def QD(kvs:List (κ×V))(k:κ):Option V:=(kvs.find? λkv=>decide (kv.1=k)).map (·.2)
def putK(kvs:List (κ×V))(k:κ)(v:V):List (κ×V):=
 if(kvs.any λkv=>decide (kv.1=k))=true then kvs.map (λkv=>if kv.1=k then(kv.1,v)else kv)else kvs++[(k,v)]
def Xw(kvs:List (κ×V))(k:κ):List (κ×V):=kvs.filter λkv=>decide (kv.1≠k)
end
abbrev KT(H:Hp):List (List Key×V)->List (List Key×Addr×Value)->Prop:=Paired λp q=>p.1=q.1/\H q.2.1=some (.tup (p.1.map kV))/\RelV p.2 q.2.2
section
variable{P:Program}{w:World}{H:Hp}{h:Heap}{a:Addr}
end
def Rx(H:Hp)(a:Addr)(y:V)(r:Option V):Prop:=
 (∃kvs k,Rd H a (.dK kvs)/\y=kV k/\r=QD kvs k)\/∃kvs k b,Rd H a (.dT kvs)/\y= .ref b/\H b=some (.tup (k.map kV))/\r=QD kvs k
def ahq(H:Hp)(a:Addr)(y v:V)(H':Hp):Prop:=
 (∃kvs k,H a=some (.dK kvs)/\y=kV k/\kvs.length<sizeLine/\H'=upd H a (.dK (putK kvs k v)))\/
 ∃kvs k b,H a=some (.dT kvs)/\y= .ref b/\H b=some (.tup (k.map kV))/\kvs.length<sizeLine/\H'=upd H a (.dT (putK kvs k v))
section
variable{X:Cx}{pins:List (Addr×Obj)}{σ:St}{H:Hp}{s:Shared}{a:Addr}{y v:V}{u r:Value}{o:Option V}{A:Around}{E:Value->Shared->Prop}
end
section
variable{X:Cx}{pins:List (Addr×Obj)}{σ:St}{H:Hp}{s:Shared}{a:Addr}{kvs:List (Key×V)}{k:Key}{u:Value}{A:Around}{E:Value->Shared->Prop}
end
def ayD(i:Expr):Prop:=∀ov iv,subscripted i false ov iv=operate [ov,iv] (getItem ov iv)
def axm(td ty:TE):TE:=λσ H Q=>td σ H λx H1=>ty σ H1 λy H2=>∃a v,x= .ref a/\Rx H2 a y (some v)/\Q v H2
def azd(ty td:TE):TE:=λσ H Q=>ty σ H λy H1=>td σ H1 λx H2=>∃a o,x= .ref a/\Rx H2 a y o/\Q (.bl o.isSome) H2
def alf(ty td:TE):TE:=λσ H Q=>ty σ H λy H1=>td σ H1 λx H2=>∃a o,x= .ref a/\Rx H2 a y o/\Q (.bl (!o.isSome)) H2
def axE(td ty tv:TE):TS:=λD σ H=>tv σ H λv H1=>td σ H1 λx H2=>ty σ H2 λy H3=>∃a H4,x= .ref a/\ahq H3 a y v H4/\D.nx σ H4
def axt(td ty tv:TE)(rd:V->V->Hp->VK->Prop):TS:=λD σ H=>td σ H λx H1=>ty σ H1 λy H2=>∃a v,x= .ref a/\Rx H2 a y (some v)/\
 tv σ H2 λy2 H3=>rd v y2 H3 λz H4=>∃H5,ahq H4 a y z H5/\D.nx σ H5
def aw2(td ty:TE):TS:=λD σ H=>td σ H λx H1=>ty σ H1 λy H2=>∃a kvs k,x= .ref a/\H2 a=some (.dK kvs)/\y=kV k/\(QD kvs k).isSome=true/\D.nx σ (upd H2 a (.dK (Xw kvs k)))
section
variable{X:Cx}{o i e value:Expr}{pos pos' tpos:Pos}{td ty tv:TE}
end
def apk:TE:=λ_ H Q=>∀p,H p=none->Q (.ref p) (upd H p (.dK []))
def auY:TE:=λ_ H Q=>∀p,H p=none->Q (.ref p) (upd H p (.dT []))
section
variable{X:Cx}{pos:Pos}
end
def Li:List (TE×TE)->St->Hp->(List (V×V)->Hp->Prop)->Prop
 |[],_,H,Q=>Q [] H
 |(tk,tv)::r,σ,H,Q=>tk σ H λx H1=>tv σ H1 λy H2=>Li r σ H2 λps H3=>Q ((x,y)::ps) H3
abbrev VV:List (V×V)->List (Value×Value)->Prop:=Paired λp q=>RelV p.1 q.1/\RelV p.2 q.2
def PPs(X:Cx)(pos:Pos)(keys:List (Option Expr))(values:List Expr)(trs:List (TE×TE)):Prop:=
 ∀(pins:List (Addr×Obj)) (s:Shared) (σ:St) (H:Hp) (Q:List (V×V)->Hp->Prop),Inv X pins σ H s->Li trs σ H Q->
  wpAny (model X.prog X.w) X.A (evalPairs (pairTrees keys values X.env pos)) (λvs s'=>∃ps H',Inv X pins σ H' s'/\VV ps vs/\Q ps H') X.xe s
def afI(kvs more:List (Key×V)):List (Key×V):=more.foldl (λacc kv=>putK acc kv.1 kv.2) kvs
def axj(trs:List (TE×TE)):TE:=λσ H Q=>∀p,H p=none->Li trs σ (upd H p (.dK [])) λps H2=>H2 p=some (.dK [])/\∃kvs:List (Key×V),ps=kvs.map (λkv=>(kV kv.1,kv.2))/\kvs.length≤15/\Q (.ref p) (upd H2 p (.dK (afI [] kvs)))
structure M1(X:Cx)(o:Expr)(m:Str)(apos:Pos)(e:Expr)(cpos:Pos):Prop where
 base:attributeBase o m X.env (eval o X.env)=eval o X.env
 few:((backTo cpos (starEach [e] X.env)).all (λx=> !x.1)&&(backToKw cpos (keywordEach [] X.env)).all (λx=>x.1.isSome)
  &&decide (([e]:List Expr).length+([]:List Keyword).length+(if([]:List Keyword).isEmpty then 0 else 1)<30))=true
 line:(apos.endLine==cpos.line)=true
 trees:backTo cpos (starEach [e] X.env)=[(false,eval e X.env)]
structure M2(X:Cx)(o:Expr)(m:Str)(apos:Pos)(e f:Expr)(cpos:Pos):Prop where
 base:attributeBase o m X.env (eval o X.env)=eval o X.env
 few:((backTo cpos (starEach [e,f] X.env)).all (λx=> !x.1)&&(backToKw cpos (keywordEach [] X.env)).all (λx=>x.1.isSome)
  &&decide (([e,f]:List Expr).length+([]:List Keyword).length+(if([]:List Keyword).isEmpty then 0 else 1)<30))=true
 line:(apos.endLine==cpos.line)=true
 trees:backTo cpos (starEach [e,f] X.env)=[(false,eval e X.env),(false,eval f X.env)]
def IsD(H:Hp)(a:Addr):Prop:=(∃kvs,Rd H a (.dK kvs))\/∃kvs,Rd H a (.dT kvs)
section
variable{X:Cx}{pins:List (Addr×Obj)}{σ:St}{H:Hp}{s:Shared}{a:Addr}{y d:V}{u r:Value}{o:Option V}{A:Around}{E:Value->Shared->Prop}
end
def awb(td ty:TE):TE:=λσ H Q=>td σ H λx H1=>∃a,x= .ref a/\IsD H1 a/\ty σ H1 λy H2=>∃o,Rx H2 a y o/\Q (o.getD .non) H2
def atG(td ty tx:TE):TE:=λσ H Q=>td σ H λx H1=>∃a,x= .ref a/\IsD H1 a/\ty σ H1 λy H2=>tx σ H2 λz H3=>∃o,Rx H3 a y o/\Q (o.getD z) H3
def aop(td ty:TE):TE:=λσ H Q=>td σ H λx H1=>∃a,x= .ref a/\IsD H1 a/\ty σ H1 λy H2=>∃kvs k v,H2 a=some (.dK kvs)/\y=kV k/\QD kvs k=some v/\Q v (upd H2 a (.dK (Xw kvs k)))
def aul(td ty tx:TE):TE:=λσ H Q=>td σ H λx H1=>∃a,x= .ref a/\IsD H1 a/\ty σ H1 λy H2=>tx σ H2 λz H3=>∃kvs k,H3 a=some (.dK kvs)/\y=kV k/\
 (∀v,QD kvs k=some v->Q v (upd H3 a (.dK (Xw kvs k))))/\(QD kvs k=none->Q z H3)
section
variable{X:Cx}{o e f:Expr}{apos cpos:Pos}{td ty tx:TE}
end
section
variable{X:Cx}{pins:List (Addr×Obj)}{σ:St}{H:Hp}{s:Shared}{a:Addr}{kvs:List (Key×V)}{A:Around}{E:Value->Shared->Prop}
end
section
variable{X:Cx}{pins:List (Addr×Obj)}{σ:St}{H:Hp}{s:Shared}{a:Addr}{y:V}{u:Value}{A:Around}{E:Value->Shared->Prop}
end
end L2
namespace Att
open PySem PySem.W PySem.Calls PyProof.Rows
theorem wQ{P:Params}{h:Heap}:∀(ns:List Int) (vs:List Value),WellAll P h vs (ns.map WData.int)->IntsAre vs ns:=by
 intro ns
 induction ns with
 |nil=>
  intro vs w
  rw[List.map_nil]at w
  cases w
  exact .nil
 |cons n ns ih=>
  intro vs w
  rw[List.map_cons]at w
  cases w with
  |cons a b=>
   cases a
   exact .cons _ _ (ih _ b)
theorem Py{l:OpenLaw}{n:Nat}(hn:l.most=some n){P:Params}{h:Heap}{args:List WData}{vals:List Value}
  (hpre:l.row.toRowW.claim.pre args=true) (hwl:WellAll P h vals args):
  ∃a vs ns,vals=[Value.ref a]/\args=[WData.list (ns.map WData.int)]/\h.get? a=some {cls:=.type "list",data:=.seq vs.toArray}/\IntsAre vs ns/\ns.length≤n:=by
 have hsh:WShape.hasAll [] args [.list .int]=true:=(pre_splitW hpre).1
 have hc:l.pre.holds [] {args:=args}=true:=(pre_splitW hpre).2
 obtain⟨d,r,rfl,h1,h2⟩:=hasAllW_cons hsh
 obtain rfl:=hasAllW_nil h2
 obtain⟨xs,rfl,h3⟩:=hasW_list h1
 obtain⟨ns,rfl⟩:=items_int h3
 have hlen:ns.length≤n:=by
  unfold OpenLaw.pre at hc
  have h4:(WTm.not (.lt (.lit (.int (n:Int))) (.len (.arg 0)))).holds [] {args:=[.list (ns.map .int)]}=true:=by
   have h4:=(holds_andW hc).1
   rw[hn]at h4
   exact h4
  have h5:=condW_of h4 (w_not (w_lt w_lit (w_len_list (w_arg rfl))))
  rw[List.length_map]at h5
  refine Nat.le_of_not_lt λq=>?_
  have q':(n:Int)<((ns.length:Nat):Int):=by omega
  first
   |(rw[decide_eq_true q']at h5;exact absurd h5 (by decide))
   |(simp at h5;omega)
 cases hwl with
 |cons w1 w2=>
  cases w2
  cases w1 with
  |list ho hall=>exact⟨_,_,ns,rfl,rfl,ho,wQ ns _ hall,hlen⟩
theorem QS(l:OpenLaw)(args:List WData):l.row.toRowW.claim.post args (.bool true) args=true:=
 postW_of (r:=l.row.toRowW) (X:=(true==true))
  (show WShape.has [] (.bool true) .bool=true by first |rfl |decide |simp[WShape.has,WShape.arms,WShape.armsAll])
  (show(WTm.eq .res (.lit (.bool true))).value [] {args:=args,res:=some (.bool true),after:=args}=some (.bool (true==true))from w_eq_bool (w_res rfl) w_lit) rfl
theorem Gx{l:OpenLaw}{n:Nat}{q:Program}{loose:List Str}{XP:(Str->Option Value)->Heap->Prop}{YP:World->Heap->Prop}{d:DefRec}
  (hn:l.most=some n) (hdf:d.params.defaults=[])
  (call:∀(w:World) (s₀ s₁:Shared) (mg mb:Str->Option Value) (fa:Addr) (o:Obj) (pm cd doc:Value) (a:Addr) (vs:List Value) (ns:List Int),
   Ground q loose [] XP w s₀ mg mb s₁.heap->YP w s₁.heap->
   s₁.heap.get? fa=some o->o.data= .func (docDef d.name d.params d.body d.scope pm cd doc)->s₁.heap.CodeRec cd d.name->mg d.name=some (.ref fa)->
   s₁.heap.get? a=some {cls:=.type "list",data:=.seq vs.toArray}->IntsAre vs ns->ns.length≤n->s₁.gens= #[]->
   codeAny (model l.prog w) callerA (.call (.ref fa) ⟨[.ref a],[]⟩) (λr s'=>r= .ok (.ret (.bool true))/\OldK s₁.heap s'.heap/\s'.os=s₁.os/\AllBare s'.gens) s₁):
  WalkO q loose XP YP l.row.toRowW d [] (λf vs=>PySem.call f vs):=by
 intro w s₀ s₁ mg mb G Y fa o pm cd doc dV kV ho hd hcd hD hmg hg args vals as hpre hlay hrd hwl hlo
 obtain rfl:dV= .none:=Dflts.none hD hdf
 obtain rfl:kV= .none:=Dflts.noKw hD
 obtain⟨a,vs,ns,rfl,rfl,hobj,hints,hlen⟩:=Py hn hpre hwl
 refine enter_call (codeAny_mono (call w s₀ s₁ mg mb fa o pm cd doc a vs ns G Y ho (fd_plain hd) hcd hmg hobj hints hlen hg) λr s' hq=>?_)
 obtain⟨rfl,h2,h3,h4⟩:=hq
 exact⟨.inl ⟨.bool true,.bool true,[],rfl,λ_=>rfl,.bool true,QS l _,λ_=>⟨List.Pairwise.nil,λ_ hm=>(nomatch hm)⟩⟩,h2,h3,h4⟩
section
variable{prog:Program}{w:World}{A:Around}{E:Value->Shared->Prop}{s:Shared}{K:Frag}
def ar7(h:Heap):Heap:={h with objs:= #[]}
def ledger(h:Heap)(L d:Addr):List (Addr×Obj):=(List.range h.objs.size).filterMap λa=>if a=L\/a=d then none else(h.get? a).map λo=>(a,o)
end
end Att
namespace L2
open PySem PySem.Spec PyProof.Rows
theorem BP:∀{vs:List Value} {ns:List Int},IntsAre vs ns->Vals (ns.map V.int) vs
 |_,_,.nil=>.nil
 |_,_,.cons n t h=>.cons ⟨t,rfl⟩ (BP h)
def acb(H:Hp):Prop:=∀b,H b=none\/∃o xs,H b=some (.frz o (.lst xs))
theorem Vf{P:Program}{w:World}{K:W.Frag}{mg mb:Str->Option Value}{CX:RK}{k:Nat}{fa a:Addr}{fd:FuncData}{x:Str}{sp:Sp}{s₁:Shared}{vs:List Value}{ns:List Int}
  (KX:K.In s₁.heap) (hns:s₁.heap.Ns mainGlobals mg) (hb:s₁.heap.Ns builtinsNs mb) (hbb:∀x:Str,x≠"__name__"->mb x=bootBuiltins x) (hlim:s₁.heap.NoLimit) (hg:s₁.gens= #[])
  (ha:s₁.heap.get? a=some {cls:=.type "list",data:=.seq vs.toArray}) (hi:IntsAre vs ns) (hl:ns.length≤sizeLine) (hr:dU cc k callerA)
  (F:∀base:Heap,K.In base->base.Ns mainGlobals mg->uT P w K mg base CX cc k fa fd [x] sp) (hbind:∀(s:Shared) (u:Value),BindsTo s fd ⟨[u],[]⟩ [(x,u)])
  (hsp:∀H:Hp,acb H->bf K H a (ns.map V.int)->sp [.ref a] H (λv _=>v= .bl true) λ_ _ _=>False)
  (hCX:∀H e s',CX [] H s₁ (λ_ _ _=>False) e s'->False):
  codeAny (model P w) callerA (.call (.ref fa) ⟨[.ref a],[]⟩) (λr s'=>r= .ok (.ret (.bool true))/\OldK s₁.heap s'.heap/\s'.os=s₁.os/\AllBare s'.gens) s₁:=by
 have rv:=BP hi
 have lenV:=hi.length
 have core:∀H:Hp,acb H->bf K H a (ns.map V.int)->uY P w H s₁.heap->(∀b,H b≠none->b=a)->(H a≠none->K.lookup a=none)->
   codeAny (model P w) callerA (.call (.ref fa) ⟨[.ref a],[]⟩) (λr s'=>r= .ok (.ret (.bool true))/\OldK s₁.heap s'.heap/\s'.os=s₁.os/\AllBare s'.gens) s₁:=by
  intro H hO hS hok hA hK
  have base_of:∀{b:Addr} {o:Obj},s₁.heap.get? b=some o->H b=none->(Eu s₁.heap H).get? b=some o:=λe n=>Wq e n
  have noA:∀{b:Addr} {o:Obj} {es:Array DictEntry} {ep:Nat},s₁.heap.get? b=some o->o.data= .dict es ep->H b=none:=λ{b o es ep} e d=>by
   cases q:H b with
   |none=>rfl
   |some u=>
    have e':b=a:=hA b (by rw[q];simp)
    subst e'
    rw[ha]at e;cases e
    have d':Data.seq vs.toArray _=Data.dict es ep:=d
    cases d'
  have nsK:∀{b:Addr} {m:Str->Option Value},s₁.heap.Ns b m->(Eu s₁.heap H).Ns b m:=λ{b m} ⟨o,es,ep,e,d,r⟩=>⟨o,es,ep,base_of e (noA e d),d,r⟩
  have hKb:K.In (Eu s₁.heap H):=λb o e=>base_of (KX b o e) (by
   cases q:H b with
   |none=>rfl
   |some u=>
    have e':b=a:=hA b (by rw[q];simp)
    subst e'
    rw[hK (by rw[q];simp)]at e;cases e)
  have hM:Mod K mg (Eu s₁.heap H):=⟨hKb,nsK hns,⟨mb,nsK hb,hbb⟩,let⟨mc,h1,h2⟩:=hlim;⟨mc,nsK h1,h2⟩⟩
  have e0:Kw P w K mg (Eu s₁.heap H) callerA [] s₁ H:=⟨rfl,hM,λb o e=>ZZ e,Nat.le_of_eq (QW _ _),trivial,λb hb=>absurd (show b∈([]:List Addr)from hb) (by simp),hok,.of_eq hg⟩
  refine codeAny_mono ((F _ hKb (nsK hns)).run callerA [] s₁ H ⟨[.ref a],[]⟩ [.ref a] [.ref a] _ _ hr e0 (hbind s₁ (.ref a)) (.cons rfl .nil) (hsp H hO hS)) λr s' h=>?_
  cases r with
  |error e=>exact(hCX H e s' h).elim
  |ok fl=>
   cases fl with
   |next=>exact False.elim h
   |brk=>exact False.elim h
   |cont=>exact False.elim h
   |ret u=>
    obtain⟨v,H',os,bare,un,hok',r',q⟩:=h
    have q':v= .bl true:=q
    subst q'
    obtain rfl:u=Value.bool true:=r'
    refine⟨rfl,OldK.of_keep λb o e=>?_,os,bare⟩
    cases q:H b with
    |none=>exact un.keep b o e q (by intro z;exact absurd (show b∈([]:List Addr)from z) (by simp)) (by simp)
    |some u=>
     rcases hO b with z |⟨ob,xs,z⟩
     .rw[q]at z;cases z
     .have z2:=un.frzs b ob _ z
      obtain⟨e1,_⟩:=hok b _ z
      obtain⟨e2,_⟩:=hok' b _ z2
      rw[e]at e1;cases e1
      exact e2
 cases hk:K.lookup a with
 |some o=>
  have e:=KX a o hk
  rw[ha]at e
  cases e
  refine core (λ_=>none) (λ_=>.inl rfl) (.inr ⟨_,vs.toArray,_,hk,rfl,rfl,rfl,by rw[List.size_toArray,lenV];exact hl,by simpa using rv⟩) (λb u z=>by have z':(none:Option HO)=some u:=z;cases z') (λb z=>absurd rfl z) λz=>absurd rfl z
 |none=>
  refine core (λb=>if b=a then some (.frz {cls:=.type "list",data:=.seq vs.toArray} (.lst (ns.map V.int)))else none) (λb=>?_) (.inl (.inr ⟨{cls:=.type "list",data:=.seq vs.toArray},if_pos rfl⟩)) (λb u z=>?_) (λb z=>?_) λ_=>hk
  .by_cases hb:b=a
   .exact .inr ⟨_,_,if_pos hb⟩
   .exact .inl (if_neg hb)
  .by_cases hb:b=a
   .have z':=(if_pos hb).symm.trans z
    cases z'
    subst hb
    exact⟨ha,by rw[List.length_map];exact hl,vs,_,rv,ha⟩
   .have z':=(if_neg hb).symm.trans z
    cases z'
  .by_cases hb:b=a
   .exact hb
   .exact absurd (if_neg hb) z
abbrev KOf{K:W.Frag}{h:Heap}(_:K.In h):W.Frag:=K
theorem Zm{l:W.OpenLaw}{n k:Nat}{q:Program}{loose:List Str}{XP:(Str->Option Value)->Heap->Prop}{YP:World->Heap->Prop}{d:DefRec}{K:Params->W.Frag}{CX:World->RK}{sp:World->Sp}{x:Str}
  (hn:l.most=some n) (hn2:n≤sizeLine) (hdf:d.params.defaults=[]) (hr:dU cc k callerA)
  (hY:∀(w:World) (h:Heap),YP w h->(K w.params).In h)
  (F:∀(w:World) (mg:Str->Option Value) (fa:Addr) (h:Heap),(K w.params).In h->h.Ns mainGlobals mg->mg d.name=some (.ref fa)->
   ∃fd:FuncData,(∀(s:Shared) (u:Value),BindsTo s fd ⟨[u],[]⟩ [(x,u)])/\
    ∀base:Heap,(K w.params).In base->base.Ns mainGlobals mg->uT l.prog w (K w.params) mg base (CX w) cc k fa fd [x] (sp w))
  (hsp:∀(w:World) (H:Hp) (a:Addr) (ns:List Int),ns.length≤n->acb H->bf (K w.params) H a (ns.map V.int)->sp w [.ref a] H (λv _=>v= .bl true) λ_ _ _=>False)
  (hCX:∀(w:World) (H:Hp) (s:Shared) (e:Value) (s':Shared),CX w [] H s (λ_ _ _=>False) e s'->False):
  W.WalkO q loose XP YP l.row.toRowW d [] (λf vs=>PySem.call f vs):=by
 refine Att.Gx hn hdf λw s₀ s₁ mg mb fa o pm cd doc a vs ns G Y ho hd hcd hmg hobj hints hlen hg=>?_
 have KX:=hY w _ Y
 obtain⟨fd,hb,hF⟩:=F w mg fa _ KX G.T.g hmg
 exact Vf KX G.T.g G.T.b G.T.builtins G.T.nolimit hg hobj hints (Nat.le_trans hlen hn2) hr hF hb (λH hO hS=>hsp w H a ns hlen hO hS) λH e s'=>hCX w H s₁ e s'
def inClass(s:Stmt)(j:Nat):Stmt:=match s with
 | .ClassDef _ _ _ body _ _ _ _ _ _ _=>body.getD j (.Pass ⟨0,0,0,0⟩)
 |_=>.Pass ⟨0,0,0,0⟩
def aJ(s:Stmt):Arguments:=match s with
 | .FunctionDef _ a _ _ _ _ _ _ _ _=>a
 |_=>{posonlyargs:=[],args:=[],vararg:=none,kwonlyargs:=[],kw_defaults:=[],kwarg:=none,defaults:=[]}
def az(s:Stmt):List Stmt:=match s with
 | .FunctionDef _ _ b _ _ _ _ _ _ _=>b
 |_=>[]
def aa(s:Stmt):Scope:=match s with
 | .FunctionDef _ _ _ _ _ _ sc _ _ _=>sc
 |_=>{kind:=.function,names:=[],isGenerator:=false,isCoroutine:=false}
abbrev CX0:RK:=λ_ _ _ _ _ _=>False
abbrev E0:XK:=λ_ _ _=>False
structure gn(K:W.Frag)(x qual:Str)(st:Stmt)(f:Addr)(fd:FuncData):Prop where
 ex:∃(oc:Value) (od:Option Addr) (kV doc pm:Value) (an:Option Addr) (cdv ct:Value) (osl:Array (Option Value)),
  fd=W.fnOf x qual (aJ st) (az st) (aa st) .none kV doc pm an cdv ct/\K.lookup f=some ⟨oc,od,.func fd,osl⟩/\W.codeIn K cdv qual=true
 kp:W.keepIn K (.ref f)=true
section
variable{P:Program}{w:World}{K:W.Frag}{mg:Str->Option Value}{base:Heap}
theorem gn.binds{x qual:Str}{st:Stmt}{f:Addr}{fd:FuncData}{ps:List Str}(F:gn K x qual st f fd)
  (h:∀(kV doc pm:Value) (an:Option Addr) (cdv ct:Value) (us:List Value),us.length=ps.length->bindArgs (W.fnOf x qual (aJ st) (az st) (aa st) .none kV doc pm an cdv ct) ⟨us,[]⟩=pure (ps.zip us)):Binds K fd ps []:=by
 obtain⟨oc,od,kV,doc,pm,an,cdv,ct,osl,rfl,lk,hcd⟩:=F.ex
 exact .all (h kV doc pm an cdv ct)
theorem aH{x qual:Str}{st:Stmt}{f:Addr}{oc:Value}{od an:Option Addr}{osl:Array (Option Value)}{kV doc pm cdv ct:Value}(l:K.lookup f=some ⟨oc,od,.func (W.fnOf x qual (aJ st) (az st) (aa st) .none kV doc pm an cdv ct),osl⟩)
  (c:W.codeIn K cdv qual=true) (k:W.keepIn K (.ref f)=true):gn K x qual st f (W.fnOf x qual (aJ st) (az st) (aa st) .none kV doc pm an cdv ct):=⟨⟨oc,od,kV,doc,pm,an,cdv,ct,osl,rfl,l,c⟩,k⟩
end
section
variable{X:Cx}
end
theorem avT{A B:Prop}(h:B):if false=true then A else B:=by
 rw[if_neg Bool.false_ne_true]
 exact h
theorem anr{A B:Prop}(h:A):if true=true then A else B:=by
 rw[if_pos rfl]
 exact h
def aq(H H':Hp):Prop:=∀b o,H b=some o->H' b=some o
theorem aq.refl(H:Hp):aq H H:=λ_ _ h=>h
theorem aq.trans{H H1 H2:Hp}(a:aq H H1)(b:aq H1 H2):aq H H2:=λc o h=>b c o (a c o h)
theorem aq.free{H H':Hp}(e:aq H H'){l:Addr}(h:H' l=Option.none):H l=Option.none:=by
 cases q:H l with
 |none=>rfl
 |some o=>
  rw[e l o q]at h
  cases h
theorem aq.seq{K:W.Frag}{H H':Hp}{a:Addr}{xs:List V}(e:aq H H')(h:bf K H a xs):bf K H' a xs:=by
 rcases h with(h |⟨o,h⟩) |h
 .exact .inl (.inl (e _ _ h))
 .exact .inl (.inr ⟨o,e _ _ h⟩)
 .exact .inr h
section
variable{X:Cx}
end
section
variable{κ:Type} [DecidableEq κ]
end
def u5(h:Heap):Option Value->List Addr->Prop
 |c,[]=>c=some .none
 |c,a::r=>c=some (.ref a)/\∃o vs,h.get? a=some o/\o.data= .fields vs/\u5 h vs[2]? r
theorem u5.stay{h h':Heap}{e:Addr}(k:∀v o ws,v≠e->h.get? v=some o->o.data= .fields ws->∃o' ws',h'.get? v=some o'/\o'.data= .fields ws'/\ws'[2]? =ws[2]?):∀{l:List Addr} {c:Option Value},u5 h c l->e∉l->u5 h' c l
 |[],_,q,_=>q
 |a::r,c,⟨q1,o,vs,q2,q3,q4⟩,n=>by
  obtain⟨o',ws',k1,k2,k3⟩:=k a o vs (λz=>n (by simp[z])) q2 q3
  refine⟨q1,o',ws',k1,k2,?_⟩
  rw[k3]
  exact u5.stay k q4 λz=>n (by simp[z])
def Ctx(h:Heap)(e:Addr)(b:Bool)(c:Option Value):Prop:=(b=true->c=some .none)/\∃l,u5 h c l/\e∉l/\l.Nodup
theorem Ctx.yes{h:Heap}{e:Addr}{c:Option Value}(q:c=some .none):Ctx h e true c:=⟨λ_=>q,[],q,by simp,.nil⟩
theorem Ctx.stay{h h':Heap}{e:Addr}{b:Bool}{c:Option Value}(q:Ctx h e b c)(k:∀v o ws,v≠e->h.get? v=some o->o.data= .fields ws->∃o' ws',h'.get? v=some o'/\o'.data= .fields ws'/\ws'[2]? =ws[2]?):Ctx h' e b c:=by
 obtain⟨q1,l,q2,q3,q4⟩:=q
 exact⟨q1,l,q2.stay k q3,q3,q4⟩
def fL(h:Heap)(e:Addr)(cls:Value)(d:Option Addr×Bool)(tb:Option Addr)(fl:Value):Prop:=
 ∃oe vs,h.get? e=some oe/\oe.cls=cls/\oe.dict=d.1/\oe.data= .fields vs/\vs[1]? =some (tb.elim Value.none Value.ref)/\2<vs.size/\Ctx h e d.2 vs[2]? /\
  ∀T,tb=some T->T≠e/\∃oT ws,h.get? T=some oT/\oT.data= .fields ws/\ws[3]? =some fl
theorem d7.there{P:Program}{w:World}{H:Hp}{h:Heap}{a:Addr}{o:HO}(x:d7 P w H h a o):∃ob,h.get? a=some ob:=by
 cases o with
 |lst xs=>obtain⟨_,_,_,_,e⟩:=x;exact⟨_,e⟩
 |tup xs=>obtain⟨_,_,_,ob,e,_⟩:=x;exact⟨_,e⟩
 |dK kvs=>obtain⟨_,_,_,_,o,_,_,e,_⟩:=x;exact⟨_,e⟩
 |dT kvs=>obtain⟨_,_,_,_,o,_,_,e,_⟩:=x;exact⟨_,e⟩
 |set S n=>obtain⟨o,_,_,_,e,_⟩:=x;exact⟨_,e⟩
 |ins C dx fs=>obtain⟨_,_,_,e,_⟩:=x;exact⟨_,e⟩
 |own y=>obtain⟨_,e⟩:=x;exact⟨_,e⟩
 |xd fs=>obtain⟨_,⟨_,_,_,e,_⟩,_⟩:=x;exact⟨_,e⟩
 |rng lo hi=>obtain⟨_,_,_,e⟩:=x;exact⟨_,e⟩
 |frz ob u=>obtain⟨e,_⟩:=x;exact⟨_,e⟩
 |tbl ps=>exact⟨_,(show h.get? a=some _ from x)⟩
 |met f y=>exact⟨_,(show h.get? a=some _ from x)⟩
 |ext φ=>obtain⟨_,⟨_,e⟩,_⟩:=x;exact⟨_,e⟩
theorem uY.free{P:Program}{w:World}{H:Hp}{h:Heap}{a:Addr}(x:uY P w H h)(e:h.get? a=none):H a=none:=by
 cases q:H a with
 |none=>rfl
 |some u=>
  obtain⟨ob,z⟩:=(x a u q).there
  rw[e]at z;cases z
def Dk(P:Program)(w:World):RK:=λouter H s E x s'=>∃e tb cls d H',x= .ref e/\s'.os=s.os/\AllBare s'.gens/\Un (Fw outer) [] H H' s.heap s'.heap/\uY P w H' s'.heap/\fL s'.heap e cls d tb .none/\
 (∀b∈e::tb.toList,H' b=none/\s.heap.get? b=none)/\E cls d H'
theorem Dk.never{P:Program}{w:World}{outer:List Env}{H:Hp}{s s':Shared}{e:Value}(h:Dk P w outer H s (λ_ _ _=>False) e s'):False:=by
 obtain⟨_,_,_,_,_,_,_,_,_,_,_,_,z⟩:=h
 exact z
section
variable{M:Model}{A:Around}{E:Value->Shared->Prop}{s:Shared}
theorem Bl{base:Heap}{env:Env}{outer:List Env}{L e:Addr}{oe:Obj}{vs:Array Value}{head:Value}{hadNext:Bool}{Q:Unit->Shared->Prop}
  (hfr:A.frames=some (env::outer)) (hl:s.heap.FunFrames base (env::outer)) (hf:env.frame=some L) (he:s.heap.get? e=some oe) (hd:oe.data= .fields vs) (hsz:1<vs.size)
  (k:∀(h':Heap) (T:Addr) (oT:Obj) (ws:Array Value),s.heap.objs.size≤h'.objs.size->(∀b o,s.heap.get? b=some o->b≠e->b∉Fw (env::outer)->h'.get? b=some o)->
   (∀b o,s.heap.get? b=some o->b≠e->∃sl,h'.get? b=some {o with slots:=sl})->s.heap.objs.size≤T->h'.get? e=some (oe.mapFields (·.setIfInBounds 1 (.ref T)))->
   h'.get? T=some oT->oT.data= .fields ws->ws[3]? =some (rawInt L)->Q () {s with heap:=h'}):
  wpAny M A (do
   let a<-frameOf env
   let pl<-entryPlaceOf L hadNext
   let b<-EntryCells.newEntry head a .none (rawInt L) .none pl
   setField (.ref e) 1 b) Q E s:=by
 have hne:e∉(env::outer).filterMap (·.frame):=λm=>by
  obtain⟨_,o,ho,nf⟩:=hl.mem m
  rw[he]at ho
  cases ho
  exact nf vs hd
 refine wpAny_bind (wpAny_frameOf_fun hfr hl hf λh1 so=>wpAny_bind (wpAny_entryPlaceOf λpl hp=>?_))
 unfold EntryCells.newEntry newFields
 refine wpAny_bind (wpAny_newObj_type ?_ (hp.sizeOk5 _ _ _ _ _))
 have e1:h1.get? e=some oe:=(so.2.1 e hne).trans he
 have hTe:e≠h1.objs.size:=Nat.ne_of_lt (Heap.lt_size e1)
 refine wpAny_setField (Heap.get?_push_of_some _ e1) hd hsz (k _ h1.objs.size {cls:=.type "traceback",dict:=none,data:=.fields (([head,.ref L,.none,rawInt L,.none]:List Value)++(if pl.isEmpty then List.replicate 6 Value.none else pl)).toArray} (([head,.ref L,.none,rawInt L,.none]:List Value)++(if pl.isEmpty then List.replicate 6 Value.none else pl)).toArray ?_ (λb o hb hbe hbf=>?_) (λb o hb hbe=>?_) (Nat.le_of_eq so.1.symm) ?_ ?_ ?_ ?_)
 .rw[Heap.size_after_update,Heap.size_push,so.1]
  exact Nat.le_succ _
 .rw[Heap.get?_update_other _ _ (Ne.symm hbe)]
  exact Heap.get?_push_of_some _ ((so.2.1 b hbf).trans hb)
 .obtain⟨sl,q⟩:=so.2.2 b o hb
  exact⟨sl,by rw[Heap.get?_update_other _ _ (Ne.symm hbe)];exact Heap.get?_push_of_some _ q⟩
 .exact Heap.get?_update_self _ (Heap.get?_push_of_some _ e1) (Obj.isFreed_of_fields (Obj.data_mapFields hd _))
 .rw[Heap.get?_update_other _ _ hTe]
  exact Heap.get?_push_size h1 rfl
 .exact rfl
 .first
   |(simp;done)
   |(rcases hp with rfl |⟨_,_,_,_,_,_,_,rfl⟩<;>simp)
structure Hm(h h':Heap)(ch fs:List Addr):Prop where
 keep:∀b o,h.get? b=some o->b∉fs->b∉ch->h'.get? b=some o
 slot:∀b o,h.get? b=some o->b∉ch->∃sl,h'.get? b=some {o with slots:=sl}
 there:∀b o,h.get? b=some o->∃o',h'.get? b=some o'
theorem Hs{base:Heap}{env:Env}{outer:List Env}{L e:Addr}{cls:Value}{d:Option Addr×Bool}{tb:Option Addr}{fl:Value}{Q:Unit->Shared->Prop}
  (hfr:A.frames=some (env::outer)) (hl:s.heap.FunFrames base (env::outer)) (hf:env.frame=some L) (F:fL s.heap e cls d tb fl) (hfl:(fl==rawInt L)=false)
  (k:∀(h':Heap) (T:Addr),Hm s.heap h' (e::tb.toList) (Fw (env::outer))->s.heap.objs.size≤T->fL h' e cls d (some T) (rawInt L)->Q () {s with heap:=h'}):
  wpAny M A (noteFrame (.ref e) env) Q E s:=by
 obtain⟨oe,vs,he,hc,hdx,hd,h1,hz,h2,ht⟩:=F
 have fin:∀{hp:Heap} {h':Heap} {T:Addr} {oT:Obj} {ws:Array Value},(∀v o ws,v≠e->s.heap.get? v=some o->o.data= .fields ws->∃o' ws',h'.get? v=some o'/\o'.data= .fields ws'/\ws'[2]? =ws[2]?)->hp.get? e=some oe->hp.objs.size≤T->h'.get? e=some (oe.mapFields (·.setIfInBounds 1 (.ref T)))->h'.get? T=some oT->oT.data= .fields ws->
   ws[3]? =some (rawInt L)->fL h' e cls d (some T) (rawInt L):=λ{hp h' T oT ws} kk e0 hT q1 q2 q3 q4=>by
  have hd':=Obj.data_mapFields hd (·.setIfInBounds 1 (Value.ref T))
  refine⟨_,_,q1,(Obj.cls_mapFields _ _).trans hc,?_,hd',?_,by simpa using hz,?_,λT' eT=>?_⟩
  .obtain⟨c0,d0,dt,sl⟩:=oe
   cases hd
   exact hdx
  .have :1<vs.size:=by omega
   simp[this]
  .rw[Array.getElem?_setIfInBounds_ne (by decide)]
   exact h2.stay kk
  .cases eT
   exact⟨λz=>Nat.lt_irrefl _ (Nat.lt_of_lt_of_le (Heap.lt_size e0) (z▸hT)),oT,ws,q2,q3,q4⟩
 unfold noteFrame
 simp only[hf]
 cases tb with
 |none=>
  have h1':vs[1]? =some Value.none:=h1
  refine wpAny_bind (wpAny_field he hd h1' ?_)
  rw[if_neg (by decide)]
  refine Bl hfr hl hf he hd (by omega) λh' T oT ws a1 a2 a3 a4 a5 a6 a7 a8=>k h' T ⟨λb o q1 q2 q3=>a2 b o q1 (λz=>q3 (by simp[z])) q2,λb o q1 q3=>a3 b o q1 λz=>q3 (by simp[z]),λb o q1=>?_⟩ a4 (fin (λv o ws hv q1 q2=>by obtain⟨sl,q⟩:=a3 v o q1 hv;exact⟨_,ws,q,q2,rfl⟩) he a4 a5 a6 a7 a8)
  by_cases z:b=e
  .subst z;exact⟨_,a5⟩
  .obtain⟨sl,q⟩:=a3 b o q1 z
   exact⟨_,q⟩
 |some T0=>
  obtain⟨hne,oT0,ws0,t1,t2,t3⟩:=ht T0 rfl
  have h1':vs[1]? =some (Value.ref T0):=h1
  refine wpAny_bind (wpAny_field he hd h1' ?_)
  rw[if_pos (show(Value.ref T0 !=Value.none)=true from by simp)]
  refine wpAny_bind (wpAny_field t1 t2 t3 ?_)
  rw[if_neg (by rw[hfl];exact Bool.false_ne_true)]
  refine wpAny_bind (wpAny_setField t1 t2 (Array.getElem?_eq_some_iff.mp t3).1 ?_)
  have oth:∀b,b≠T0->(s.heap.update T0 (Obj.mapFields (·.setIfInBounds 3 Value.none))).get? b=s.heap.get? b:=λb hb=>Heap.get?_update_other _ _ (Ne.symm hb)
  have slf:=Heap.get?_update_self (Obj.mapFields (·.setIfInBounds 3 Value.none)) t1 (Obj.isFreed_of_fields (Obj.data_mapFields t2 _))
  have hsz:(s.heap.update T0 (Obj.mapFields (·.setIfInBounds 3 Value.none))).objs.size=s.heap.objs.size:=Heap.size_after_update ..
  have hl':(s.heap.update T0 (Obj.mapFields (·.setIfInBounds 3 Value.none))).FunFrames base (env::outer):=hl.of_keeps λb o hb nf=>⟨o,(oth b λz=>by
   subst z
   rw[t1]at hb
   cases hb
   exact nf ws0 t2).trans hb,rfl⟩
  refine Bl (s:={s with heap:=s.heap.update T0 (Obj.mapFields (·.setIfInBounds 3 Value.none))}) hfr hl' hf ((oth e (Ne.symm hne)).trans he) hd (by omega) λh' T oT ws a1 a2 a3 a4 a5 a6 a7 a8=>
   k h' T ⟨λb o q1 q2 q3=>a2 b o ((oth b λz=>q3 (by simp[z])).trans q1) (λz=>q3 (by simp[z])) q2,λb o q1 q3=>a3 b o ((oth b λz=>q3 (by simp[z])).trans q1) λz=>q3 (by simp[z]),λb o q1=>?_⟩ (hsz▸a4) (fin (λv o ws hv q1 q2=>by
     by_cases z2:v=T0
     .subst z2
      obtain⟨sl,q⟩:=a3 v _ slf hv
      rw[t1]at q1
      cases q1
      exact⟨_,_,q,Obj.data_mapFields q2 _,by rw[Array.getElem?_setIfInBounds_ne (by decide)]⟩
     .obtain⟨sl,q⟩:=a3 v o ((oth v z2).trans q1) hv
      exact⟨_,ws,q,q2,rfl⟩) ((oth e (Ne.symm hne)).trans he) a4 a5 a6 a7 a8)
  by_cases z:b=e
  .subst z;exact⟨_,a5⟩
  .by_cases z2:b=T0
   .subst z2
    obtain⟨sl,q⟩:=a3 b _ slf z
    exact⟨_,q⟩
   .obtain⟨sl,q⟩:=a3 b o ((oth b z2).trans q1) z
    exact⟨_,q⟩
theorem WT{base:Heap}{env:Env}{outer:List Env}{L e:Addr}{cls:Value}{d:Option Addr×Bool}{tb:Option Addr}{Q:Unit->Shared->Prop}
  (hfr:A.frames=some (env::outer)) (hl:s.heap.FunFrames base (env::outer)) (hf:env.frame=some L) (F:fL s.heap e cls d tb .none)
  (k:∀(h':Heap) (T:Addr),Hm s.heap h' (e::tb.toList) (Fw (env::outer))->s.heap.objs.size≤T->fL h' e cls d (some T) (rawInt L)->Q () {s with heap:=h'}):
  wpAny M A (noteFrame (.ref e) env) Q E s:=
 Hs hfr hl hf F (by simp[rawInt]) k
theorem P0{env:Env}{L e:Addr}{cls:Value}{d:Option Addr×Bool}{tb:Option Addr}{Q:Unit->Shared->Prop}(hf:env.frame=some L)(F:fL s.heap e cls d tb (rawInt L))(ht:tb.isSome=true)(k:Q () s):
  wpAny M A (noteFrame (.ref e) env) Q E s:=by
 obtain⟨oe,vs,he,hc,hdx,hd,h1,hz,h2,hT⟩:=F
 cases tb with
 |none=>cases ht
 |some T=>
  obtain⟨_,oT,ws,t1,t2,t3⟩:=hT T rfl
  exact wpAny_noteFrame_inFlight hf he hd h1 t1 t2 t3 k
theorem Lh{e T:Addr}{cls:Value}{d:Option Addr×Bool}{fl:Value}{Q:Unit->Shared->Prop}(F:fL s.heap e cls d (some T) fl)
  (k:∀h',Hm s.heap h' [T] []->fL h' e cls d (some T) .none->Q () {s with heap:=h'}):wpAny M A (setFlight (.ref e) none) Q E s:=by
 obtain⟨oe,vs,he,hc,hdx,hd,h1,hz,h2,hT⟩:=F
 obtain⟨hne,oT,ws,t1,t2,t3⟩:=hT T rfl
 have h3:3<ws.size:=(Array.getElem?_eq_some_iff.mp t3).1
 refine wpAny_setFlight_none he hd h1 t1 t2 h3 (k _ ⟨λb o q _ n=>?_,λb o q n=>⟨o.slots,?_⟩,λb o q=>?_⟩ ?_)
 .rw[Heap.get?_update_other _ _ (λz=>n (by simp[z]))];exact q
 .rw[Heap.get?_update_other _ _ (λz=>n (by simp[z]))];exact q
 .by_cases z:b=T
  .subst z;exact⟨_,Heap.get?_update_self _ t1 (Obj.isFreed_of_fields (Obj.data_mapFields t2 _))⟩
  .exact⟨o,by rw[Heap.get?_update_other _ _ (Ne.symm z)];exact q⟩
 .refine⟨oe,vs,?_,hc,hdx,hd,h1,hz,h2.stay λv o ws hv q1 q2=>?_,λT' eT=>?_⟩
  .rw[Heap.get?_update_other _ _ hne];exact he
  .by_cases z:v=T
   .subst z
    rw[t1]at q1
    cases q1
    exact⟨_,_,Heap.get?_update_self _ t1 (Obj.isFreed_of_fields (Obj.data_mapFields t2 _)),Obj.data_mapFields q2 _,by rw[Array.getElem?_setIfInBounds_ne (by decide)]⟩
   .exact⟨o,ws,by rw[Heap.get?_update_other _ _ (Ne.symm z)];exact q1,q2,rfl⟩
  .cases eT
   exact⟨hne,_,_,Heap.get?_update_self _ t1 (Obj.isFreed_of_fields (Obj.data_mapFields t2 _)),Obj.data_mapFields t2 _,by simp[h3]⟩
end
section
variable{X:Cx}{pins:List (Addr×Obj)}{σ:St}{H H':Hp}{s s':Shared}
def Ch(X:Cx)(pins:List (Addr×Obj))(b:Addr):Prop:=(b∈X.ex\/X.s₀.heap.get? b=none)/\b≠X.env.locals/\(∀x c,X.env.cells.lookup x=some c->c≠b)/\∀p∈X.pn++pins,p.1≠b
theorem Inv.ch(I:Inv X pins σ H s){b:Addr}(h:s.heap.get? b=none):Ch X pins b:=by
 refine⟨?_,λz=>?_,λx c q z=>?_,λp hp z=>?_⟩
 .by_cases hx:b∈X.ex
  .exact .inl hx
  .refine .inr ?_
   cases q:X.s₀.heap.get? b with
   |none=>rfl
   |some o=>
    obtain⟨o',q'⟩:=I.base.there b o q hx
    rw[h]at q';cases q'
 .obtain⟨_,⟨o,_,_,ho,_⟩,_⟩:=I.loc
  rw[<-z,h]at ho;cases ho
 .obtain⟨_,o,ho,_⟩:=I.cell x c q
  rw[z,h]at ho;cases ho
 .have :=(I.pin p hp).1
  rw[z,h]at this;cases this
theorem Inv.noted{ch:List Addr}{h':Heap}(I:Inv X pins σ H s)(N:Hm s.heap h' ch (Fw X.stack))(hc:∀b∈ch,H b=none/\Ch X pins b):Inv X pins σ H {s with heap:=h'}:=by
 have Yd:∀b u,H b=some u->b∉Fw X.stack/\b∉ch:=λb u e=>⟨(λz=>by rw[I.stkFree b z]at e;cases e),(λz=>by rw[(hc b z).1]at e;cases e)⟩
 refine I.call (g':=s.gens) (d':=s.drawn) (t':=s.toks) (ch:=ch) (h':=h') ⟨λb o e _ hb hx=>N.keep b o e hb hx,λb o e _ _ hx=>N.slot b o e hx,λ_ _ _ n _=>n,λb o e _=>N.there b o e,λ_ _ e=>e,λ_ _ _ e=>e,λb ps e=>⟨#[],by rw[e];simp⟩⟩ ?_ I.bare λb hb=>(hc b hb).2
 intro b u e
 refine(I.hok b u e).stay (λc v hcv q=>?_) (λ_ q=>q) λ_ _ q=>q
 rcases hcv with z |z
 .subst z;exact N.keep c v q (Yd c u e).1 (Yd c u e).2
 .exact N.keep c v q (Yd c _ z).1 (Yd c _ z).2
def XAt(X:Cx)(pins:List (Addr×Obj))(σ:St)(H:Hp)(s:Shared)(e:Addr)(cls:Value)(d:Option Addr×Bool):Prop:=
 Inv X pins σ H s/\∃tb fl,fL s.heap e cls d tb fl/\(fl= .none\/(fl=rawInt X.env.locals/\tb.isSome=true))/\∀b∈e::tb.toList,H b=none/\Ch X pins b
def Dl(X:Cx)(Kx:St->XK):Prop:=∀(pins:List (Addr×Obj)) (σ:St) (H:Hp) (s:Shared) (e:Addr) (cls:Value) (d:Option Addr×Bool),XAt X pins σ H s e cls d->Kx σ cls d H->X.xe (.ref e) s
theorem Inv.flown{E:XK}{x:Value}(I:Inv X pins σ H s)(c:Dk X.prog X.w X.stack H s E x s'):∃e cls d H',x= .ref e/\XAt X pins σ H' s' e cls d/\E cls d H':=by
 obtain⟨e,tb,cls,d,H',rfl,os,bare,un,hok,F,ch,q⟩:=c
 have I':Inv X pins σ H' s':=I.call' (ch:=[]) os un hok bare λb z=>absurd z (by simp)
 exact⟨e,cls,d,H',rfl,⟨I',tb,.none,F,.inl rfl,λb hb=>⟨(ch b hb).1,I.ch (ch b hb).2⟩⟩,q⟩
theorem Rw(h:X.xe=λ_ _=>False):Dl X (λ_ _ _ _=>False):=λ_ _ _ _ _ _ _ _ z=>z.elim
theorem XAt.note{M:Model}{E:Value->Shared->Prop}{e:Addr}{cls:Value}{d:Option Addr×Bool}{Q:Unit->Shared->Prop}(x:XAt X pins σ H s e cls d)(hst:X.stack=X.env::X.outer)(hf:X.env.frame=some X.env.locals)
  (k:∀s' T,Inv X pins σ H s'->fL s'.heap e cls d (some T) (rawInt X.env.locals)->(∀b∈[e,T],H b=none/\Ch X pins b)->Q () s'):wpAny M X.A (noteFrame (.ref e) X.env) Q E s:=by
 obtain⟨I,tb,fl,F,hfl,ch⟩:=x
 rcases hfl with z |⟨z,ht⟩
 .subst z
  have hl:=I.stack
  rw[hst]at hl
  refine WT (base:=X.base) (I.ok.frames.trans (by rw[hst])) hl hf F λh' T N hT F'=>k _ T (I.noted (by rw[hst];exact N) ch) F' λb hb=>?_
  rcases List.mem_cons.mp hb with z |z
  .subst z;exact ch _ List.mem_cons_self
  .have z':b=T:=by simpa using z
   subst z'
   exact⟨I.hok.fresh hT,I.ch (Heap.get?_none_of_le hT)⟩
 .subst z
  cases tb with
  |none=>cases ht
  |some T=>exact P0 hf F rfl (k s T I F ch)
theorem Inv.off{M:Model}{E:Value->Shared->Prop}{e T:Addr}{cls:Value}{d:Option Addr×Bool}{fl:Value}{Q:Unit->Shared->Prop}(I:Inv X pins σ H s)(F:fL s.heap e cls d (some T) fl)(hc:∀b∈[e,T],H b=none/\Ch X pins b)
  (k:∀s',Inv X pins σ H s'->fL s'.heap e cls d (some T) .none->Q () s') {A:Around}:wpAny M A (setFlight (.ref e) none) Q E s:=by
 refine Lh F λh' N F'=>k _ (I.noted (ch:=[T]) ⟨λb o q _ n=>N.keep b o q (by simp) n,N.slot,N.there⟩ λb hb=>?_) F'
 have z:b=T:=by simpa using hb
 subst z
 exact hc b (by simp)
end
theorem b8{cc:Bool}{P:Program}{w:World}{K:W.Frag}{mg:Str->Option Value}{base:Heap}{N:List Str}{qual:Str}{scope:Scope}{f:Addr}{cd:Value}{A:Around}{outer:List Env}{s₀:Shared}{H₀:Hp}{E:XK}:
  Dl (Ia cc (Dk P w) P w K mg base N qual scope f cd A outer s₀ H₀ E) (λ_=>E):=by
 intro pins σ H s e cls d x q
 show wpAny _ _ (leaving _ _) _ _ s
 unfold leaving
 refine wpAny_bind (x.note rfl rfl λs1 T I1 F1 c1=>?_)
 refine I1.off F1 c1 λs2 I2 F2=>?_
 refine⟨e,some T,cls,d,H,rfl,I2.os,I2.bare,I2.base,I2.hok,F2,λb hb=>?_,q⟩
 have z:=c1 b (by simpa using hb)
 refine⟨z.1,?_⟩
 rcases z.2.1 with y |y
 .exact absurd (show b∈([]:List Addr)from y) (by simp)
 .exact y
theorem Rb{cc:Bool}{P:Program}{w:World}{K:W.Frag}{mg:Str->Option Value}{base:Heap}{N:List Str}{qual:Str}{scope:Scope}{f:Addr}{cd:Value}{A:Around}{outer:List Env}{s₀:Shared}{H₀:Hp}{E:XK}:
  PassesOwn (model P w) (A.deeper (envOfC qual scope s₀.heap.objs.size f cd)) (envOfC qual scope s₀.heap.objs.size f cd) (Ia cc (Dk P w) P w K mg base N qual scope f cd A outer s₀ H₀ E).xe:=PassesOwn.leaving
section
variable{X:Cx}{Kx:St->XK}{cc:Bool}{k k':Nat}{f C:Addr}{fd:FuncData}{ps:List Str}{sp:Sp}{x m:Str}{p pos apos:Pos}{e o:Expr}{es:List Expr}{σ:St}{H:Hp}{Q:VK}
theorem CJ{pins:List (Addr×Obj)}{s:Shared}{us:List Value}{vs:List V}(F:uT X.prog X.w X.K X.mg X.base (Dk X.prog X.w) cc k f fd ps sp)(hr:dU cc k X.A)(hb:Binds X.K fd ps [])(hx:Dl X Kx)
  (I:Inv X pins σ H s) (r:Vals vs us) (h:sp vs H Q (Kx σ)):wpAny (model X.prog X.w) X.A (call (.ref f) us) (EP X pins σ Q) X.xe s:=by
 have hl:us.length=ps.length:=by rw[<-r.length];exact F.len _ _ _ _ h
 have hb':=hb s us I.kIn (by simpa using hl)
 rw[List.append_nil]at hb'
 refine wpAny_call (codeAny_mono (F.run X.A X.stack s H ⟨us,[]⟩ us vs Q (Kx σ) hr I.env0 hb' r h) λr s' hq=>?_)
 cases r with
 |error e=>
  obtain⟨a,cls,d,H',rfl,xa,q⟩:=I.flown hq
  exact hx pins σ H' s' a cls d xa q
 |ok fl=>
  cases fl with
  |ret u=>exact I.after hq
  |next=>exact False.elim hq
  |brk=>exact False.elim hq
  |cont=>exact False.elim hq
end
def EV(X:Cx)(e:Expr)(σ:St)(H:Hp)(Q:VK):Prop:=
 ∀(pins:List (Addr×Obj)) (s:Shared),Inv X pins σ H s->wpAny (model X.prog X.w) X.A (eval e X.env) (EP X pins σ Q) X.xe s
def ET(X:Cx)(e:Expr)(σ:St)(H:Hp)(Q:Bool->Hp->Prop):Prop:=
 ∀(pins:List (Addr×Obj)) (s:Shared),Inv X pins σ H s->wpAny (model X.prog X.w) X.A (isTrue e X.env (eval e X.env)) (TP X pins σ Q) X.xe s
def EW(X:Cx)(e:Expr)(σ:St)(H:Hp)(Q:Bool->Hp->Prop):Prop:=
 ∀(whole:Sem Value) (pins:List (Addr×Obj)) (s:Shared),Inv X pins σ H s->wpAny (model X.prog X.w) X.A (isTrue e X.env whole) (TP X pins σ Q) X.xe s
def EA(X:Cx)(es:List Expr)(σ:St)(H:Hp)(Q:List V->Hp->Prop):Prop:=
 ∀(pos:Pos) (pins:List (Addr×Obj)) (s:Shared),Inv X pins σ H s->wpAny (model X.prog X.w) X.A (spliced (backTo pos (starEach es X.env))) (AP X pins σ Q) X.xe s
def EO(X:Cx)(e:Option Expr)(σ:St)(H:Hp)(Q:Option Int->Hp->Prop):Prop:=∃t,PO X e t/\t σ H Q
def SX(X:Cx)(st:Stmt)(D:Ends)(σ:St)(H:Hp):Prop:=
 ∀(pins:List (Addr×Obj)) (s:Shared),Inv X pins σ H s->wpAny (model X.prog X.w) X.A (exec st X.env) (SP X pins D) X.xe s
def lB(X:Cx)(st:List Stmt)(D:Ends)(σ:St)(H:Hp):Prop:=
 ∀(pins:List (Addr×Obj)) (s:Shared),Inv X pins σ H s->wpAny (model X.prog X.w) X.A (execs st X.env) (SP X pins D) X.xe s
def EG(X:Cx)(tg:Expr)(v:V)(σ:St)(H:Hp)(Q:St->Hp->Prop):Prop:=
 ∀(pins:List (Addr×Obj)) (s:Shared) (u:Value),Inv X pins σ H s->RelV v u->wpAny (model X.prog X.w) X.A (assign tg X.env u) (λ_ s'=>∃σ' H',Inv X pins σ' H' s'/\Q σ' H') X.xe s
def EGs(X:Cx)(ts:List Expr)(vs:List V)(σ:St)(H:Hp)(Q:St->Hp->Prop):Prop:=
 ∀(pins:List (Addr×Obj)) (s:Shared) (us:List Value),Inv X pins σ H s->Vals vs us->wpAny (model X.prog X.w) X.A (assignInOrder ((assignEach ts X.env).map (·.2)) us) (λ_ s'=>∃σ' H',Inv X pins σ' H' s'/\Q σ' H') X.xe s
def EI(X:Cx)(tg iter:Expr)(σ:St)(H:Hp)(R:It->Hp->Prop):Prop:=
 ∀(pins:List (Addr×Obj)) (s:Shared),Inv X pins σ H s->
  wpAny (model X.prog X.w) X.A (eval iter X.env) (λv s1=>wpAny (model X.prog X.w) X.A (pyIter v) (PIE X pins σ tg R) X.xe s1) X.xe s
def OP(X:Cx)(f:Value->Value->Sem Value)(x y:V)(H:Hp)(Q:VK):Prop:=∃r,vK X f r/\r x y H Q
def UN(X:Cx)(f:Value->Sem Value)(x:V)(H:Hp)(Q:VK):Prop:=∃r,UnR X f r/\r x H Q
def CL(X:Cx)(f:Value)(xs:List V)(H:Hp)(Q:VK):Prop:=∃r,pQ X f r/\r xs H Q
def IX(X:Cx)(x y:V)(H:Hp)(Q:VK):Prop:=∃r,IxR X r/\r x y H Q
def SL(X:Cx)(x:V)(lo hi:Option Int)(H:Hp)(Q:VK):Prop:=∃r,SlR X r/\r x lo hi H Q
def MT(X:Cx)(id:String)(x:V)(xs:List V)(H:Hp)(Q:VK):Prop:=∃r,MtR X id r/\r x xs H Q
section
variable{X:Cx}{a b c e:Expr}{es:List Expr}{σ:St}{H:Hp}{Q:VK}{QT:Bool->Hp->Prop}{QA:List V->Hp->Prop}{D:Ends}{pos p apos:Pos}{x:Str}{v:V}
theorem bx:PE X e (EV X e):=λpins s _ _ _ I h=>h pins s I
theorem lV:PT X e (ET X e):=λpins s _ _ _ I h=>h pins s I
theorem Cu:PW X e (EW X e):=λwhole pins s _ _ _ I h=>h whole pins s I
theorem lG:PA X es (EA X es):=λpos pins s _ _ _ I h=>h pos pins s I
theorem Oo{o:Option Expr}:PO X o (EO X o):=λpins s σ H Q I ⟨_,h,q⟩=>h pins s σ H Q I q
theorem Pg{st:Stmt}:PS X st (SX X st):=λpins s _ _ _ I h=>h pins s I
theorem nj{st:List Stmt}:XX X st (lB X st):=λpins s _ _ _ I h=>h pins s I
theorem Pk{tg:Expr}:PG X tg (EG X tg):=λpins s _ _ _ u _ I r h=>h pins s u I r
theorem Hb{ts:List Expr}:PGs X ts (EGs X ts):=λpins s _ _ _ us _ I r h=>h pins s us I r
theorem YX{tg iter:Expr}:PI X tg iter (EI X tg iter):=λpins s _ _ _ I h=>h pins s I
theorem Dw{f:Value->Value->Sem Value}:vK X f (OP X f):=λpins s σ H x y v u Q I rx ry ⟨_,h,q⟩=>h pins s σ H x y v u Q I rx ry q
theorem YD{f:Value->Sem Value}:UnR X f (UN X f):=λpins s σ H x v Q I rx ⟨_,h,q⟩=>h pins s σ H x v Q I rx q
theorem Nb{f:Value}:pQ X f (CL X f):=λpins s σ H xs us Q I rx ⟨_,h,q⟩=>h pins s σ H xs us Q I rx q
theorem Zr:IxR X (IX X):=λva sl pins s σ H x y v u Q I rx ry ⟨_,h,q⟩ hs=>h va sl pins s σ H x y v u Q I rx ry q hs
theorem YW:SlR X (SL X):=λpins s σ H x v vl vu lo hi sl Q I rx hs pl pu ⟨_,h,q⟩=>h pins s σ H x v vl vu lo hi sl Q I rx hs pl pu q
theorem Zh{id:String}:MtR X id (MT X id):=λpins s σ H x xs v us Q I rx rs ⟨_,h,q⟩=>h pins s σ H x xs v us Q I rx rs q
theorem fQ{t:TE}(h:PE X e t)(q:t σ H Q):EV X e σ H Q:=λpins s I=>h pins s σ H Q I q
theorem NP{t:TT}(h:PT X e t)(q:t σ H QT):ET X e σ H QT:=λpins s I=>h pins s σ H QT I q
theorem aba{t:TA}(h:PA X es t)(q:t σ H QA):EA X es σ H QA:=λpos pins s I=>h pos pins s σ H QA I q
theorem HH{st:Stmt}{t:TS}(h:PS X st t)(q:t D σ H):SX X st D σ H:=λpins s I=>h pins s σ H D I q
theorem K8{st:List Stmt}{t:TS}(h:XX X st t)(q:t D σ H):lB X st D σ H:=λpins s I=>h pins s σ H D I q
theorem aaL{tg:Expr}{t:TG}{QG:St->Hp->Prop}(h:PG X tg t)(q:t v σ H QG):EG X tg v σ H QG:=λpins s u I r=>h pins s σ H v u QG I r q
theorem U8{ts:List Expr}{t:TGs}{vs:List V}{QG:St->Hp->Prop}(h:PGs X ts t)(q:t vs σ H QG):EGs X ts vs σ H QG:=λpins s us I r=>h pins s σ H vs us QG I r q
theorem Xz{tg iter:Expr}{t:TI}{R:It->Hp->Prop}(h:PI X tg iter t)(q:t σ H R):EI X tg iter σ H R:=λpins s I=>h pins s σ H R I q
def sJ:List Str->St->Str->Option V
 |n::N,o::σ,x=>if n=x then o else sJ N σ x
 |_,_,_=>none
theorem vI:∀{N:List Str} {σ:St} {x:Str} {v:V},sJ N σ x=some v->∃i:Nat,N[i]? =some x/\σ[i]? =some (some v)
 |n::N,o::σ,x,v,h=>by
  unfold sJ at h
  split at h
  .rename_i e
   exact⟨0,by simp[e],by simp[h]⟩
  .obtain⟨i,h1,h2⟩:=vI h
   exact⟨i+1,by simpa using h1,by simpa using h2⟩
 |[],_,_,_,h=>by simp[sJ]at h
 |_::_,[],_,_,h=>by simp[sJ]at h
def nameAt:List Str->Str->Option Nat
 |n::N,x=>if n=x then some 0 else(nameAt N x).map (· +1)
 |[],_=>none
theorem fc:∀{N:List Str} {x:Str} {i:Nat},nameAt N x=some i->N[i]? =some x
 |n::N,x,i,h=>by
  unfold nameAt at h
  split at h
  .rename_i e
   cases h
   simp[e]
  .cases q:nameAt N x with
   |none=>rw[q]at h;cases h
   |some j=>
    rw[q]at h
    cases h
    simpa using fc q
 |[],_,_,h=>by simp[nameAt]at h
theorem aad(hn:sJ X.N σ x=some v)(hv:Vis X.env.scope x)(q:Q v H)(hd:(x==("__debug__":Str))=false)(hcd:(x==("__classdict__":Str))=false):EV X (.Name x pos) σ H Q:=by
 obtain⟨i,h1,h2⟩:=vI hn
 exact fQ (adk h1 hv hd hcd) ⟨v,h2,q⟩
def Gc(mg:Str->Option Value)(x:Str)(v:V):Prop:=∃u,mg x=some u/\RelV v u
theorem ahR(g:Gc X.mg x v)(hg:Gl X x)(q:Q v H)(hd:(x==("__debug__":Str))=false):EV X (.Name x pos) σ H Q:=by
 obtain⟨u,h1,h2⟩:=g
 exact fQ (Yz hg h1 h2 hd) q
theorem aa7{T:String}(hg:Gl X x)(hm:X.mg x=none)(hv:bootBuiltins x=some (.type T))(q:Q (.ty T) H)(hn:x≠"__name__")(hd:(x==("__debug__":Str))=false):EV X (.Name x pos) σ H Q:=
 fQ (ZF hg hm hv (v:=.ty T) rfl hn hd) q
theorem ab0{i:Int}{j}(q:Q (.int i) H):EV X (.Constant (.int i) j pos) σ H Q:=fQ aej q
theorem ajs{i:Bool}{j}(q:Q (.bl i) H):EV X (.Constant (.bool i) j pos) σ H Q:=fQ aiY q
theorem afR{j}(q:Q .non H):EV X (.Constant .none j pos) σ H Q:=fQ acN q
theorem Vw{i:Str}{j}(q:Q (.str i) H):EV X (.Constant (.str i) j pos) σ H Q:=fQ afe q
theorem abv{op:Operator}(h:EV X a σ H λx H1=>EV X b σ H1 λy H2=>OP X (binaryOp op) x y H2 Q):EV X (.BinOp a op b pos) σ H Q:=fQ (ai9 Dw bx bx) h
theorem ajk{op:UnaryOp}(h:EV X a σ H λx H1=>UN X (unaryOp op) x H1 Q):EV X (.UnaryOp op a pos) σ H Q:=fQ (aiO YD bx) h
theorem ac3{op:CmpOp}(hm:behindInMarks op b=false)(h:EV X a σ H λx H1=>EV X b σ H1 λy H2=>OP X (compareOp op) x y H2 Q):EV X (.Compare a [op] [b] pos) σ H Q:=fQ (Z1 Dw bx bx hm) h
theorem afT{op:CmpOp}(hm:behindInMarks op b=false)(h:EV X a σ H λx H1=>EV X b σ H1 λy H2=>OP X (compareOp op) x y H2 λz H3=>∃k,z= .bl k/\QT k H3):ET X (.Compare a [op] [b] pos) σ H QT:=NP (Zb Dw bx bx hm) h
theorem Cz(he:∀whole,isTrue e X.env whole=(do let v<-whole;standAt e.pos;holding [v] (truthy v)))(h:EV X e σ H λx H'=>∃k,Y7 X.K x H' k/\QT k H'):ET X e σ H QT:=NP (RN bx he) h
theorem aeA(h:ET X a σ H λk H1=>QT (!k) H1):ET X (.UnaryOp .Not a pos) σ H QT:=NP (abz lV) h
theorem alT(h:EW X e σ H QT):ET X e σ H QT:=NP Cu.pt h
theorem Nu{t:TT}(h:PW X e t)(q:t σ H QT):EW X e σ H QT:=λwhole pins s I=>h whole pins s σ H QT I q
theorem afV{rest:List Expr}(h:ET X a σ H λk H1=>if k=true then EW X (.BoolOp .And (b::rest) pos) σ H1 QT else QT false H1):EW X (.BoolOp .And (a::b::rest) pos) σ H QT:=Nu (abg lV Cu) h
theorem aiL{rest:List Expr}(h:ET X a σ H λk H1=>if k=true then QT true H1 else EW X (.BoolOp .Or (b::rest) pos) σ H1 QT):EW X (.BoolOp .Or (a::b::rest) pos) σ H QT:=Nu (ahO lV Cu) h
theorem Zx(h:ET X a σ H QT):EW X (.BoolOp .And [a] pos) σ H QT:=Nu (ZX lV) h
theorem ab4(h:ET X a σ H QT):EW X (.BoolOp .Or [a] pos) σ H QT:=Nu (adx lV) h
theorem acf{op}(h:EV X a σ H Q):EV X (.BoolOp op [a] pos) σ H Q:=fQ (agt bx) h
theorem abY{rest:List Expr}(h:EV X a σ H λx H1=>∃k,x= .bl k/\if k=true then EV X (.BoolOp .And (b::rest) pos) σ H1 Q else Q (.bl false) H1):EV X (.BoolOp .And (a::b::rest) pos) σ H Q:=fQ (adv bx bx) h
theorem aku{rest:List Expr}(h:EV X a σ H λx H1=>∃k,x= .bl k/\if k=true then Q (.bl true) H1 else EV X (.BoolOp .Or (b::rest) pos) σ H1 Q):EV X (.BoolOp .Or (a::b::rest) pos) σ H Q:=fQ (ajw bx bx) h
theorem acF(h:ET X c σ H λk H1=>if k=true then EV X a σ H1 Q else EV X b σ H1 Q):EV X (.IfExp c a b pos) σ H Q:=fQ (TX lV bx bx) h
theorem j7(q:QA [] H):EA X [] σ H QA:=aba ab8 q
theorem iT(hs:starEach (e::es) X.env=(false,eval e X.env)::starEach es X.env)(h:EV X e σ H λx H1=>EA X es σ H1 λxs H2=>QA (x::xs) H2):EA X (e::es) σ H QA:=aba (Yu bx lG hs) h
theorem Wl{x1}(h:EA X es σ H λxs H1=>xs.length≤sizeLine/\∀p,H1 p=none->Q (.ref p) (upd H1 p (.tup xs))):EV X (.Tuple es x1 pos) σ H Q:=fQ (acI lG) h
theorem abR(h:EA X es σ H λxs H1=>xs.length≤sizeLine/\∀p,H1 p=none->Q (.ref p) (upd H1 p (.lst xs))):EV X (.List es pos) σ H Q:=fQ (afB lG) h
theorem oh{id:String}(hg:Gl X x)(hm:X.mg x=none)(hv:bootBuiltins x=some (.builtin id))(hn:x≠"__name__")(hdb:(x==("__debug__":Str))=false)
  (he:starEach (e::es) X.env=(false,eval e X.env)::starEach es X.env) (hpl:(backTo pos (starEach es X.env)).any (·.1)=false) (h:EA X (e::es) σ H λvs H1=>CL X (.builtin id) vs H1 Q):EV X (.Call (.Name x p) (e::es) [] pos) σ H Q:=
 fQ (Vg Nb hg hm hv lG hn hdb he hpl) h
theorem oJ{T:String}(hg:Gl X x)(hm:X.mg x=none)(hv:bootBuiltins x=some (.type T))(hn:x≠"__name__")(hdb:(x==("__debug__":Str))=false)
  (he:starEach (e::es) X.env=(false,eval e X.env)::starEach es X.env) (hpl:(backTo pos (starEach es X.env)).any (·.1)=false) (h:EA X (e::es) σ H λvs H1=>CL X (.type T) vs H1 Q):EV X (.Call (.Name x p) (e::es) [] pos) σ H Q:=
 fQ (Qv Nb hg hm hv lG hn hdb he hpl) h
structure Def(P:Program)(w:World)(K:W.Frag)(mg:Str->Option Value)(base:Heap)(cc:Bool)(k:Nat)(x:Str)(ps:List Str)(sp:Sp):Prop where
 ex:∃f fd,mg x=some (.ref f)/\W.keepIn K (.ref f)=true/\Binds K fd ps []/\uT P w K mg base (Dk P w) cc k f fd ps sp
theorem dU.xF{cc Cj:Bool}{k:Nat}{A:Around}(r:dU cc k A)(h:Cj=true->cc=true):dU Cj k A:=⟨λz=>r.hd (h z),r.dp,r.un⟩
theorem ZG{Kx:St->XK}{cc Cj:Bool}{k k':Nat}{ps:List Str}{sp:Sp}(F:Def X.prog X.w X.K X.mg X.base Cj k x ps sp)(hr:dU cc k' X.A)(hk:k≤k')(hcc:Cj=true->cc=true)(hg:Gl X x)(hx:Dl X Kx)
  (hdb:(x==("__debug__":Str))=false) (he:starEach (e::es) X.env=(false,eval e X.env)::starEach es X.env) (hpl:(backTo pos (starEach es X.env)).any (·.1)=false)
  (h:EA X (e::es) σ H λvs H1=>sp vs H1 Q (Kx σ)):EV X (.Call (.Name x p) (e::es) [] pos) σ H Q:=by
 obtain⟨f,fd,h1,h2,h3,h4⟩:=F.ex
 intro pins s I
 refine wpAny_Call_Name_kw (jB I hg h1 ?_ hdb)
 refine W.callWith_K (h₀:=X.base) I.ok.mod.kin h2 (cU (h pos pins s I) λus s1 ⟨vs,H1,I1,r,q⟩=>⟨I1.kIn,?_⟩) he hpl
 exact CJ h4 ((hr.mono hk).xF hcc) h3 hx I1 r q
theorem ajh(hs:NT b)(h:EV X a σ H λx H1=>EV X b σ H1 λy H2=>IX X x y H2 Q):EV X (.Subscript a b pos) σ H Q:=fQ (ajR Zr bx bx hs) h
theorem Y8{QO:Option Int->Hp->Prop}(q:QO none H):EO X none σ H QO:=⟨_,Ze,q⟩
theorem Yp{QO:Option Int->Hp->Prop}(q:EV X e σ H λx H1=>∃i,x= .int i/\QO (some i) H1):EO X (some e) σ H QO:=⟨_,Zo bx,q⟩
theorem ai6{lo hi:Option Expr}{p2:Pos}(h:EV X a σ H λx H1=>EO X lo σ H1 λl H2=>EO X hi σ H2 λu H3=>SL X x l u H3 Q):EV X (.Subscript a (.Slice lo hi none p2) pos) σ H Q:=fQ (RW YW bx Oo Oo) h
theorem ju{T id:String}{name:Str}(pa:PlainAttrs T)(slot:Slot T name id)(hty:typeOf (.builtin id)=pure (.type "method_descriptor"))
  (hbase:attributeBase a name X.env (eval a X.env)=eval a X.env)
  (hfew:((backTo pos (starEach (e::es) X.env)).all (λx=> !x.1)&&(backToKw pos (keywordEach [] X.env)).all (λx=>x.1.isSome)
   &&decide ((e::es).length+([]:List Keyword).length+(if([]:List Keyword).isEmpty then 0 else 1)<30))=true)
  (hline:(apos.endLine==pos.line)=true) (hs:starEach (e::es) X.env=(false,eval e X.env)::starEach es X.env) (hplain:(backTo pos (starEach es X.env)).any (·.1)=false)
  (h:EV X a σ H λx H1=>tyV X.K T x H1/\EA X (e::es) σ H1 λxs H2=>MT X id x xs H2 Q):EV X (.Call (.Attribute a name apos) (e::es) [] pos) σ H Q:=
 fQ (aho pa slot hty Zh bx lG hbase hfew hline hs hplain) h
theorem aN(q:D.nx σ H):lB X [] D σ H:=K8 Yx q
theorem ak{st:Stmt}{rest:List Stmt}(h:SX X st {D with nx:=λσ' H'=>lB X rest D σ' H'} σ H):lB X (st::rest) D σ H:=K8 (T6 Pg nj) h
theorem aF{st:Stmt}(h:SX X st D σ H):lB X [st] D σ H:=K8 (Yj Pg) h
theorem gB(hs:swapsWith e none pos.line X.env=pure false)(h:EV X e σ H λ_ H1=>D.nx σ H1):SX X (.Expr e pos) D σ H:=HH (ZL bx hs) h
theorem bz(h:EV X e σ H D.rt):SX X (.Return (some e) pos) D σ H:=HH (afy bx) h
theorem cB{t u:List Stmt}(h:ET X c σ H λk H1=>if k=true then lB X t D σ H1 else lB X u D σ H1):SX X (.If c t u pos) D σ H:=HH (ajZ lV nj nj) h
theorem Wi{i:Nat}{p':Pos}(hN:X.N.Nodup)(hi:nameAt X.N x=some i)(hx:Loc X.env.scope x)(hs:swapsWith e (some (.Name x p')) pos.line X.env=pure false)(hf:X.fn x=true\/X.env.scope.names.lookup x=some .local)
  (h:EV X e σ H λv H1=>D.nx (σ.set i (some v)) H1):SX X (.Assign [.Name x p'] e pos) D σ H:=HH (ae6 hN (fc hi) hx bx hs hf) h
theorem aM{i:Nat}{QG:St->Hp->Prop}(hN:X.N.Nodup)(hi:nameAt X.N x=some i)(hx:Loc X.env.scope x)(hf:X.fn x=true\/X.env.scope.names.lookup x=some .local)(q:QG (σ.set i (some v)) H):EG X (.Name x pos) v σ H QG:=
 aaL (YM hN (fc hi) hx hf) q
theorem dm{QG:St->Hp->Prop}(q:QG σ H):EGs X [] [] σ H QG:=U8 Zf ⟨rfl,q⟩
theorem aO{ts:List Expr}{vs:List V}{QG:St->Hp->Prop}(hs:(assignEach (e::ts) X.env).map (·.2)=assign e X.env::(assignEach ts X.env).map (·.2))(h:EG X e v σ H λσ' H'=>EGs X ts vs σ' H' QG):EGs X (e::ts) (v::vs) σ H QG:=
 U8 (Tf Pk Hb hs) ⟨v,vs,rfl,h⟩
theorem fW{n:Nat}{k:Nat}{QG:St->Hp->Prop}{q:Addr}{xs:List V}(hc:X.calm=true)(hn:(assignEach es X.env).length=n)(hst:(assignEach es X.env).findIdx? (·.1)=none)
  (ht:fK X.K H q xs) (hl:xs.length=n) (h:EGs X es xs σ H QG):EG X (.Tuple es k pos) (.ref q) σ H QG:=
 aaL (acv hc Hb hn hst) ⟨q,xs,rfl,ht,hl,h⟩
theorem u6{tg iter:Expr}{body:List Stmt}(hp:PassesOwn (model X.prog X.w) X.A X.env X.xe)(hc:X.calm=true)(hs:∀x,foldedSetIterable iter X.env x=pure x)
  (h:EI X tg iter σ H λJ H1=>∃W:Nat->Nat->St->Hp->Prop,(∃m,W 0 m σ H1)/\∀i m σ H,W i m σ H->
   (J.stop i H/\D.nx σ H)\/(J.go i H/\∃N:St->Hp->Prop,(∀σ' H',N σ' H'->∃m',m'<m/\W (i+1) m' σ' H')/\∀x H',J.yld i H x H'->EG X tg x σ H' λσ2 H2=>lB X body {D with nx:=N,ct:=N,bk:=D.nx} σ2 H2)):
  SX X (.For tg iter body [] pos) D σ H:=HH (agA hp hc YX Pk nj hs) h
theorem rW{tg l:Expr}{R:It->Hp->Prop}(h:EV X l σ H λx H1=>∃a,x= .ref a/\(∃xs,bf X.K H1 a xs)/\R (Z0 X.K a) H1):EI X tg l σ H R:=Xz (X8 bx) h
theorem acj{tg l:Expr}{R:It->Hp->Prop}(h:EV X l σ H λx H1=>∃a,x= .ref a/\(∃xs,fK X.K H1 a xs)/\R (Itt X.K a) H1):EI X tg l σ H R:=Xz (adn bx) h
theorem uL{tg:Expr}{R:It->Hp->Prop}(hg:Gl X "range")(hm:X.mg "range"=none)(hs:starEach [a] X.env=[(false,eval a X.env)])
  (h:EA X [a] σ H λvs H1=>∃j:Int,vs=[.int j]/\ -(2^62)≤j/\j<2^62/\R (Itr 0 j.toNat) H1):EI X tg (.Call (.Name "range" p) [a] [] pos) σ H R:=Xz (Rm hg hm lG hs) h
theorem bC{Q':VK}(h:EV X e σ H Q)(m:∀v H',Q v H'->Q' v H'):EV X e σ H Q':=λpins s I=>cU (h pins s I) λ_ _ ⟨v,H',I',r,q⟩=>⟨v,H',I',r,m v H' q⟩
theorem gF{f:Value->Value->Sem Value}{r:R2}{y z:V}(h:vK X f r)(q:r y z H Q):OP X f y z H Q:=⟨r,h,q⟩
variable{i j:Int}{k k':Bool}{z z':Str}
theorem aiW(q:Q (.int (i+j)) H):OP X (binaryOp .Add) (.int i) (.int j) H Q:=gF adQ ⟨i,j,rfl,rfl,q⟩
theorem akF(q:Q (.int (i-j)) H):OP X (binaryOp .Sub) (.int i) (.int j) H Q:=gF afg ⟨i,j,rfl,rfl,q⟩
theorem ah3(c:Zn i j)(q:Q (.int (i*j)) H):OP X (binaryOp .Mult) (.int i) (.int j) H Q:=gF abn ⟨i,j,rfl,rfl,c,q⟩
theorem ad5(c:aji i j)(q:Q (.int (i / j)) H):OP X (binaryOp .FloorDiv) (.int i) (.int j) H Q:=gF YQ ⟨i,j,rfl,rfl,c,q⟩
theorem ajr(c:0<j)(q:Q (.int (i % j)) H):OP X (binaryOp .Mod) (.int i) (.int j) H Q:=gF abA ⟨i,j,rfl,rfl,c,q⟩
theorem T8(c:ajl i j)(q:Q (.int (i^j.toNat)) H):OP X (binaryOp .Pow) (.int i) (.int j) H Q:=gF afr ⟨i,j,rfl,rfl,c,q⟩
theorem avP(q:Q (.bl (decide (i<j))) H):OP X (compareOp .Lt) (.int i) (.int j) H Q:=gF ajS ⟨i,j,rfl,rfl,q⟩
theorem arM(q:Q (.bl (decide (i≤j))) H):OP X (compareOp .LtE) (.int i) (.int j) H Q:=gF ahI ⟨i,j,rfl,rfl,q⟩
theorem apz(q:Q (.bl (decide (j<i))) H):OP X (compareOp .Gt) (.int i) (.int j) H Q:=gF ail ⟨i,j,rfl,rfl,q⟩
theorem avz(q:Q (.bl (decide (j≤i))) H):OP X (compareOp .GtE) (.int i) (.int j) H Q:=gF akS ⟨i,j,rfl,rfl,q⟩
theorem ao3{y z:V}(s:Ys y z=true)(q:Q (.bl (decide (y=z))) H):OP X (compareOp .Eq) y z H Q:=gF aiM ⟨s,q⟩
theorem anZ{y z:V}(s:Ys y z=true)(q:Q (.bl (!decide (y=z))) H):OP X (compareOp .NotEq) y z H Q:=gF aht ⟨s,q⟩
theorem aj1(q:Q (.bl (!(Builtin.Str.occurrences z' z 0 z'.length 1).isEmpty)) H):OP X (compareOp .In) (.str z) (.str z') H Q:=gF Q8 ⟨z,z',rfl,rfl,q⟩
theorem aib{y:V}(q:Q (.bl (decide (y= .non))) H):OP X (compareOp .Is) y .non H Q:=gF afc ⟨rfl,q⟩
theorem bA(c:z.length+z'.length≤sizeLine)(q:Q (.str (z++z')) H):OP X (binaryOp .Add) (.str z) (.str z') H Q:=gF Jm ⟨z,z',rfl,rfl,c,q⟩
theorem ahz(q:Q (.int (-i)) H):UN X (unaryOp .USub) (.int i) H Q:=⟨_,ad6,i,rfl,q⟩
theorem gJ{f:Value}{r:List V->Hp->VK->Prop}{vs:List V}(h:pQ X f r)(q:r vs H Q):CL X f vs H Q:=⟨r,h,q⟩
theorem aaM{q:Addr}{ys:List V}(h:bf X.K H q ys\/fK X.K H q ys)(g:Q (.int ys.length) H):CL X (.builtin "len") [.ref q] H Q:=gJ Dn ⟨q,ys,rfl,h,g⟩
theorem adw(h:z.length≤sizeLine)(g:Q (.int z.length) H):CL X (.builtin "len") [.str z] H Q:=gJ Em ⟨z,rfl,h,g⟩
theorem vy(h:i.natAbs.log2<1920)(g:Q (.str (toString i)) H):CL X (.type "str") [.int i] H Q:=gJ Dh ⟨i,rfl,h,g⟩
theorem Vm{r:R2}{y z:V}(h:IxR X r)(q:r y z H Q):IX X y z H Q:=⟨r,h,q⟩
theorem bw{q:Addr}{xs:List V}(h:bf X.K H q xs)(e:qg xs i=some v)(g:Q v H):IX X (.ref q) (.int i) H Q:=Vm Yi ⟨q,xs,i,v,rfl,rfl,h,e,g⟩
theorem iH{q:Addr}{xs:List V}(h:fK X.K H q xs)(e:qg xs i=some v)(g:Q v H):IX X (.ref q) (.int i) H Q:=Vm acP ⟨q,xs,i,v,rfl,rfl,h,e,g⟩
theorem mQ{n:Nat}(h:z.length≤sizeLine)(e:qg z.cps.toList i=some n)(g:Q (.str ⟨#[n]⟩) H):IX X (.str z) (.int i) H Q:=Vm abW ⟨z,i,n,rfl,rfl,h,e,g⟩
theorem Vz{q:Addr}{xs:List V}{lo hi:Option Int}(h:bf X.K H q xs)(g:∀p,H p=none->Q (.ref p) (upd H p (.lst (yd xs lo hi)))):SL X (.ref q) lo hi H Q:=⟨_,Yv,q,xs,rfl,h,g⟩
theorem yI{y:V}{t:Value}{T:String}(ty:mR X.K H y t)(e:W.kitOne X.K t (.type T)=some k)(g:Q (.bl k) H):CL X (.builtin "isinstance") [y,.ty T] H Q:=by
 refine⟨λxs H Q=>∃y t T k,xs=[y,.ty T]/\mR X.K H y t/\W.kitOne X.K t (.type T)=some k/\Q (.bl k) H,?_,y,t,T,k,rfl,ty,e,g⟩
 intro pins s σ H xs us Q I r h
 obtain⟨y,t,T,k,rfl,ty,e,g⟩:=h
 obtain⟨u1,u2,rfl,r1,r2⟩:=vals2 r
 cases(show u2=Value.type T from r2)
 exact Qe I r1 ty e λtk=>⟨.bl k,H,I.tok tk,rfl,g⟩
end
def Its(x:Str):It:=⟨λi _=>i<x.cps.size,λi H v H'=>H'=H/\∃c,x.cps[i]? =some c/\v= .str ⟨#[c]⟩,λi _=>x.cps.size≤i⟩
theorem We{P:Program}{w:World}{K:PySem.W.Frag}{tg:Expr}{T:String}(hT:T="str_ascii_iterator"\/T="str_iterator")(it:Addr)(x:Str)(t:Tok):Turn P w K tg (Its x) [it] it (λi h=>h.IsStrIter it T x t i)where
 mem:=by simp
 obj:=λi h st b hb=>by
  have e:b=it:=by simpa using hb
  subst e
  obtain⟨o,e,c,d⟩:=st
  exact⟨o,e,λv z=>by rw[d]at z;cases z⟩
 keep:=λi h h' st k=>by
  obtain⟨o,e,c,d⟩:=st
  exact⟨o,k it (by simp) o e,c,d⟩
 item:=by
  intro X hP hw hK hc i pins s σ H E I hf st hg
  subst hP hw hK
  obtain⟨f0,f1,f2,f3,f4,f5⟩:=hf it (by simp)
  have hg':i<x.cps.size:=hg
  have hW:∃W:Nat->Heap->Prop,Walks X.prog X.w X.A it [it] [it] x.cps.size (SignAt x) W/\W=λi h=>h.IsStrIter it T x t i:=by
   rcases hT with rfl |rfl
   .exact⟨_,Walks.strAscii (I.ok.hd hc) it x t,rfl⟩
   .exact⟨_,Walks.strWide (I.ok.hd hc) it x t,rfl⟩
  obtain⟨_,W,rfl⟩:=hW
  refine W.item i s _ _ hg' st λv h' tk hv st' kk=>?_
  obtain⟨c,u,e1,rfl⟩:=hv
  have I1:Inv X pins σ H {s with heap:=h',toks:=tk}:=I.turned (λb o hb e=>kk b o (by simpa using hb) e) f0 f1 f3 f4 f5
  obtain⟨o,e,c',d⟩:=id st'
  refine⟨_,rfl,Gy (s:={s with heap:=h',toks:=tk}) (n:=T) e c' d (by rcases hT with rfl |rfl<;>decide) ⟨.str ⟨#[c]⟩,H,I1,⟨u,rfl⟩,⟨rfl,c,e1,rfl⟩,st',λb hb=>(hf b hb).1⟩⟩
 done:=by
  intro X hP hw hK hc i pins s σ H E I hf st hg
  subst hP hw hK
  obtain⟨f0,f1,f2,f3,f4,f5⟩:=hf it (by simp)
  have hg':x.cps[i]? =none:=Array.getElem?_eq_none hg
  rcases hT with rfl |rfl
  .exact wpAny_pyNext_ascii_end (I.ok.hd hc) st hg' λh' eb=>⟨rfl,I.turned (t':=s.toks) (λb o hb e=>eb b o hb e) f0 f1 f3 f4 f5⟩
  .exact wpAny_pyNext_wide_end (I.ok.hd hc) st hg' λh' eb=>⟨rfl,I.turned (t':=s.toks) (λb o hb e=>eb b o hb e) f0 f1 f3 f4 f5⟩
 self:=λ_ _ _ _ _ st h=>by
  rcases hT with rfl |rfl
  .exact wpAny_pyIter_striter_ascii st h
  .exact wpAny_pyIter_striter_wide st h
section
variable{X:Cx}{tg l:Expr}{σ:St}{H:Hp}{R:It->Hp->Prop}
theorem Jt(h:EV X l σ H λx H1=>∃z,x= .str z/\R (Its z) H1):EI X tg l σ H R:=by
 intro pins s I
 refine cU (h pins s I) λv s1 ⟨x,H1,I1,r1,z,e,q⟩=>?_
 subst e
 obtain⟨t,rfl⟩:=r1
 have fin:∀T:String,(T="str_ascii_iterator"\/T="str_iterator")->
   PIE X pins σ tg R (.ref s1.heap.objs.size) {s1 with heap:=s1.heap.push {cls:=.type T,data:=.fields #[.str z t,.int 0 0]}}:=λT hT=>by
  refine⟨s1.heap.objs.size,[s1.heap.objs.size],_,_,H1,rfl,I1.kept (t':=s1.toks) λb o e=>Heap.get?_push_of_some _ e,We hT _ z t,⟨_,Heap.get?_push_size _ rfl,rfl,rfl⟩,λb hb=>?_,q⟩
  have e:b=s1.heap.objs.size:=by simpa using hb
  subst e
  exact I1.fpOk (Nat.le_refl _) (I1.hok.fresh (Nat.le_refl _))
 cases ha:z.cps.all (· <128)
 .exact wpAny_pyIter_wide ha (fin _ (.inr rfl))
 .exact wpAny_pyIter_ascii ha (fin _ (.inl rfl))
end
def fO(N' N:List Str)(σ:St)(scope:Scope):St:=N'.map λx=>if scope.names.lookup x=some .free then sJ N σ x else none
def z9(X:Cx)(N':List Str)(scope:Scope)(cl:List (Str×Addr))(C:Addr)(s:Shared)(H:Hp)(fp:List Addr):Cx:=
 {X with N:=N',s₀:=s,H₀:=H,env:=compEnvC scope cl C X.env,outer:=X.stack,stack:=X.stack,ex:=fp,fn:=λ_=>false,pn:=[],xe:=λ_ _=>False}
def abu(X:Cx)(ifs:List Expr)(σ:St)(H:Hp)(Q:Bool->Hp->Prop):Prop:=
 ∀(pins:List (Addr×Obj)) (s:Shared),Inv X pins σ H s->
  wpAny (model X.prog X.w) X.A (forIn ifs true λc r=>if r=true then do let ok<-isTrue c X.env (eval c X.env);pure (ForInStep.yield ok)else pure (ForInStep.yield r)) (TP X pins σ Q) X.xe s
theorem qj(env:Env):∀(names:List (Str×NameKind)) (cs:List (Str×Addr)),(∀y∈names,y.2= .free->∃c,env.cells.lookup y.1=some c)->
  (forIn names cs (λ(x:Str×NameKind) (r:List (Str×Addr))=>if(x.2==NameKind.free)=true then do let a<-cellOf env x.1;pure (ForInStep.yield ((x.1,a)::r))else pure (ForInStep.yield r)):Sem (List (Str×Addr)))=
   pure (names.foldl (λcs y=>if y.2== .free then(y.1,(env.cells.lookup y.1).getD 0)::cs else cs) cs)
 |[],cs,_=>by simp
 |(n,k)::r,cs,h=>by
  rw[List.forIn_cons]
  by_cases hk:k= .free
  .subst hk
   obtain⟨c,e⟩:=h (n,.free) List.mem_cons_self rfl
   have e':cellOf env n=pure c:=by
    unfold cellOf
    have e2:env.cells.lookup n=some c:=e
    rw[e2]
   simp only[beq_self_eq_true,if_true,e',pure_bind]
   have e2:env.cells.lookup n=some c:=e
   rw[qj env r _ λy hy=>h y (List.mem_cons_of_mem _ hy),List.foldl_cons]
   simp only[beq_self_eq_true,if_true,e2,Option.getD_some]
  .have hb:(k==NameKind.free)=false:=by simpa using hk
   simp only[hb,Bool.false_eq_true,if_false,pure_bind]
   rw[qj env r _ λy hy=>h y (List.mem_cons_of_mem _ hy),List.foldl_cons]
   simp only[hb,Bool.false_eq_true,if_false]
def bV(scope:Scope)(env:Env):List (Str×Addr):=scope.names.foldl (λcs y=>if y.2== .free then(y.1,(env.cells.lookup y.1).getD 0)::cs else cs) []
theorem qP{scope:Scope}{env:Env}(h:∀y∈scope.names,y.2= .free->∃c,env.cells.lookup y.1=some c):closureFor scope env=pure (bV scope env):=by
 have :=qj env scope.names [] h
 unfold closureFor bV
 rw[<-this]
 simp
theorem Bb{env:Env}:∀(names:List (Str×NameKind)) (cs:List (Str×Addr)),(∀y∈names,y.2= .free->∃c,env.cells.lookup y.1=some c)->
  ∀x c,(names.foldl (λcs y=>if y.2== .free then(y.1,(env.cells.lookup y.1).getD 0)::cs else cs) cs).lookup x=some c->(env.cells.lookup x=some c\/cs.lookup x=some c)
 |[],cs,_,x,c,e=>.inr e
 |(n,k)::r,cs,h,x,c,e=>by
  rw[List.foldl_cons]at e
  rcases Bb r _ (λy hy=>h y (List.mem_cons_of_mem _ hy)) x c e with q |q
  .exact .inl q
  .by_cases hk:k= .free
   .subst hk
    obtain⟨c',e'⟩:=h (n,.free) List.mem_cons_self rfl
    have e2:env.cells.lookup n=some c':=e'
    simp only[beq_self_eq_true,if_true,e2,Option.getD_some,List.lookup_cons]at q
    cases hx:x==n with
    |true=>
     rw[hx]at q
     have hx':x=n:=by simpa using hx
     subst hx'
     exact .inl (e2.trans q)
    |false=>rw[hx]at q;exact .inr q
   .have hb:(k==NameKind.free)=false:=by simpa using hk
    rw[if_neg (by simp[hb])]at q
    exact .inr q
theorem ux{env:Env}:∀(names:List (Str×NameKind)) (cs:List (Str×Addr)) (x:Str),((x,NameKind.free)∈names\/∃c,cs.lookup x=some c)->
  ∃c,(names.foldl (λcs y=>if y.2== .free then(y.1,(env.cells.lookup y.1).getD 0)::cs else cs) cs).lookup x=some c
 |[],cs,x,h=>by
  rcases h with h |h
  .cases h
  .exact h
 |(n,k)::r,cs,x,h=>by
  rw[List.foldl_cons]
  refine ux r _ x ?_
  by_cases hk:k= .free
  .subst hk
   simp only[beq_self_eq_true,if_true,List.lookup_cons]
   cases hx:x==n with
   |true=>exact .inr ⟨_,rfl⟩
   |false=>
    rcases h with h |h
    .rcases List.mem_cons.mp h with h |h
     .cases h
      simp at hx
     .exact .inl h
    .exact .inr h
  .have hb:(k==NameKind.free)=false:=by simpa using hk
   rw[if_neg (by simp[hb])]
   rcases h with h |h
   .rcases List.mem_cons.mp h with h |h
    .cases h
     exact absurd rfl hk
    .exact .inl h
   .exact .inr h
theorem ue{env:Env}{x:Str}:∀{names:List (Str×NameKind)},names.lookup x=some .free->
  (names.map λ(n,k)=>if(k==NameKind.free&&env.scope.kind== .function&&env.kindOf n==some .cell)then(n,NameKind.cell)else(n,k)).lookup x=some .cell\/
  (names.map λ(n,k)=>if(k==NameKind.free&&env.scope.kind== .function&&env.kindOf n==some .cell)then(n,NameKind.cell)else(n,k)).lookup x=some .free
 |[],h=>by simp at h
 |(n,k')::r,h=>by
  have ih:= @ue env x r
  show List.lookup x ((if(k'==NameKind.free&&env.scope.kind== .function&&env.kindOf n==some .cell)=true then(n,NameKind.cell)else(n,k'))::_)=_\/List.lookup x ((if(k'==NameKind.free&&env.scope.kind== .function&&env.kindOf n==some .cell)=true then(n,NameKind.cell)else(n,k'))::_)=_
  cases hx:x==n with
  |true=>
   simp only[List.lookup_cons,hx]at h
   cases h
   by_cases hc:(NameKind.free==NameKind.free&&env.scope.kind== .function&&env.kindOf n==some .cell)=true
   .rw[if_pos hc];left;simp only[List.lookup_cons,hx]
   .rw[if_neg hc];right;simp only[List.lookup_cons,hx]
  |false=>
   simp only[List.lookup_cons,hx]at h
   by_cases hc:(k'==NameKind.free&&env.scope.kind== .function&&env.kindOf n==some .cell)=true
   .rw[if_pos hc];simp only[List.lookup_cons,hx];exact ih h
   .rw[if_neg hc];simp only[List.lookup_cons,hx];exact ih h
theorem yO{env:Env}{x:Str}:∀{names:List (Str×NameKind)},(∀y∈names,y.2≠ .cell)->
  ((names.map λ(n,k)=>if(k==NameKind.free&&env.scope.kind== .function&&env.kindOf n==some .cell)then(n,NameKind.cell)else(n,k)).lookup x=some .cell\/
  (names.map λ(n,k)=>if(k==NameKind.free&&env.scope.kind== .function&&env.kindOf n==some .cell)then(n,NameKind.cell)else(n,k)).lookup x=some .free)->(x,NameKind.free)∈names
 |[],_,h=>by simp at h
 |(n,k')::r,hc0,h=>by
  have ih:= @yO env x r λy hy=>hc0 y (List.mem_cons_of_mem _ hy)
  have h':List.lookup x ((if(k'==NameKind.free&&env.scope.kind== .function&&env.kindOf n==some .cell)=true then(n,NameKind.cell)else(n,k'))::(r.map λ(n,k)=>if(k==NameKind.free&&env.scope.kind== .function&&env.kindOf n==some .cell)then(n,NameKind.cell)else(n,k)))=some .cell\/
   List.lookup x ((if(k'==NameKind.free&&env.scope.kind== .function&&env.kindOf n==some .cell)=true then(n,NameKind.cell)else(n,k'))::(r.map λ(n,k)=>if(k==NameKind.free&&env.scope.kind== .function&&env.kindOf n==some .cell)then(n,NameKind.cell)else(n,k)))=some .free:=h
  cases hx:x==n with
  |true=>
   have hx':x=n:=by simpa using hx
   subst hx'
   by_cases hc:(k'==NameKind.free&&env.scope.kind== .function&&env.kindOf x==some .cell)=true
   .have :k'= .free:=by simp only[Bool.and_eq_true]at hc;simpa using hc.1.1
    subst this
    exact List.mem_cons_self
   .rw[if_neg hc]at h'
    simp only[List.lookup_cons,hx]at h'
    rcases h' with h' |h'
    .cases h'
     exact absurd rfl (hc0 (x,.cell) List.mem_cons_self)
    .cases h'
     exact List.mem_cons_self
  |false=>
   refine List.mem_cons_of_mem _ (ih ?_)
   by_cases hc:(k'==NameKind.free&&env.scope.kind== .function&&env.kindOf n==some .cell)=true
   .rw[if_pos hc]at h';simpa only[List.lookup_cons,hx]using h'
   .rw[if_neg hc]at h';simpa only[List.lookup_cons,hx]using h'
theorem Ck{prog:Program}{w:World}{A:Around}{R:Result->Shared->Prop}{s:Shared}{elt target iter:Expr}{ifs:List Expr}{scope:Scope}{pos:Pos}{it acc:Value}{env:Env}(I:Nat->Shared->Prop)
  (turn:∀n s,I n s->wpAny (model prog w) A (pyNext it) (λr s₁=>match r with
   |none=>R (.ok .next) s₁
   |some v=>wpAny (model prog w) A (letOwnedTupleGo target it v) (λ_ s₁'=>wpAny (model prog w) A (assign target env v) (λ_ s₂=>
    wpAny (model prog w) A (forIn ifs true λc r=>if r=true then do let ok<-isTrue c env (eval c env);pure (ForInStep.yield ok)else pure (ForInStep.yield r)) (λok s₃=>
     if ok=true then wpAny (model prog w) A (eval elt env) (λx s₄=>
      wpAny (model prog w) A (call (.builtin "list.append") [acc,x]) (λ_ s₅=>∃m,m<n/\I m s₅) (λ_ _=>False) s₄) (λ_ _=>False) s₃
     else ∃m,m<n/\I m s₃) (λ_ _=>False) s₂) (λ_ _=>False) s₁') (λ_ _=>False) s₁) (λ_ _=>False) s)
  (n:Nat) (h:I n s):
  codeAny (model prog w) A (.compLoop (.ListComp elt [⟨target,iter,ifs,0⟩] scope pos) 0 it acc env) R s:=by
 refine codeAny_loop rfl I (λn s hI=>?_) n h
 show wpAny _ A ((compTurn (.ListComp elt [⟨target,iter,ifs,0⟩] scope pos) 0 it acc env).onRaise (λx=>do noteFrame x env;theTreesLotGoes x)) _ _ s
 refine wpAny_noted ?_
 rw[compTurn_list]
 refine wpAny_bind (wpAny_standAt (wpAny_bind (wpAny_mono (turn n s hI) (λr s₁ h₁=>?_) λ_ _ h'=>h'.elim)))
 cases r with
 |none=>exact wpAny_pure h₁
 |some v=>
  refine wpAny_bind (wpAny_mono h₁ (λ_ s₁' h₁'=>?_) λ_ _ h'=>h'.elim)
  refine wpAny_bind (wpAny_mono h₁' (λ_ s₂ h₂=>wpAny_bind (wpAny_mono h₂ (λok s₃ h₃=>?_) λ_ _ h'=>h'.elim)) λ_ _ h'=>h'.elim)
  cases ok with
  |false=>exact wpAny_pure ⟨rfl,h₃⟩
  |true=>
   exact wpAny_bind (wpAny_bind (wpAny_mono h₃ (λx s₄ h₄=>wpAny_bind (wpAny_mono h₄ (λ_ s₅ h₅=>wpAny_pure (wpAny_pure ⟨rfl,h₅⟩)) λ_ _ h'=>h'.elim)) λ_ _ h'=>h'.elim))
section
variable{X:Cx}{pins:List (Addr×Obj)}{σ:St}{H H':Hp}{s s':Shared}{scope:Scope}{fp:List Addr}{N':List Str}
structure dh(env:Env)(scope:Scope):Prop where
 kind:scope.kind= .function
 free:∀y∈scope.names,y.2= .free->env.kindOf y.1=some .cell\/env.kindOf y.1=some .free
 cell:∀y∈scope.names,y.2≠ .cell
 loc:∀y∈scope.names,y.2= .local->scope.names.lookup y.1=some .local
theorem dh.has(S:dh X.env scope)(I:Inv X pins σ H s):∀y∈scope.names,y.2= .free->∃c,X.env.cells.lookup y.1=some c:=λy hy e=>I.ok.has y.1 (S.free y hy e)
theorem dh.cl(S:dh X.env scope)(I:Inv X pins σ H s){x:Str}{c:Addr}(h:(bV scope X.env).lookup x=some c):X.env.cells.lookup x=some c:=by
 rcases Bb scope.names [] (S.has I) x c h with q |q
 .exact q
 .simp at q
theorem adB(S:dh X.env scope)(I:Inv X pins σ H s)(hf:∀b∈fp,jZ X pins H b)(hfs:∀b∈fp,b<s.heap.objs.size):(z9 X N' scope (bV scope X.env) s.heap.objs.size s H fp).Ok where
 mod:=I.ok.mod
 kind:=S.kind
 glob:=I.ok.glob
 blt:=I.ok.blt
 above:=Nat.le_refl _
 inj:=λx y c h1 h2=>I.ok.inj x y c (S.cl I h1) (S.cl I h2)
 has:=λx hx=>ux (env:=X.env) scope.names [] x (.inl (yO S.cell hx))
 cab:=λx c h _=>by cases h
 hd:=I.ok.hd
 frames:=I.ok.frames
 stk:=.inl rfl
 exf:=λb hb=>⟨Nat.ne_of_lt (hfs b hb),λx c h=>(hf b hb).2.2.2.2.1 x c (S.cl I h)⟩
 bs:=I.bs
 bsz:=Nat.le_trans I.ok.bsz I.sz
 noex:=λb o e hb=>by
  rcases(hf b hb).2.2.2.1 with z |z
  .exact I.ok.noex b o e z
  .rw[(I.ok.bs b o e).1]at z;cases z
 exfs:=λb hb z=>by
  rcases List.mem_cons.mp (I.stkSub b z)with e |e
  .exact(hf b hb).2.1 e
  .exact(hf b hb).2.2.1 e
 funs:=I.stack
 frf:=I.stkFree
theorem QL{N:List Str}{i:Nat}{x:Str}{v:V}(h1:N'[i]? =some x)(h2:(fO N' N σ scope)[i]? =some (some v)):scope.names.lookup x=some .free/\sJ N σ x=some v:=by
 unfold fO at h2
 rw[List.getElem?_map,h1]at h2
 have h3:(if scope.names.lookup x=some .free then sJ N σ x else none)=some v:=by simpa using h2
 split at h3
 .rename_i e
  exact⟨e,h3⟩
 .cases h3
theorem Pb(S:dh X.env scope)(I:Inv X pins σ H s)(hf:∀b∈fp,jZ X pins H b)(hfs:∀b∈fp,b<s.heap.objs.size){h₁:Heap}{m:Str->Option Value}{tk:Nat}(hns:h₁.Ns s.heap.objs.size m)
  (old:∀b o,s.heap.get? b=some o->h₁.get? b=some o):Inv (z9 X N' scope (bV scope X.env) s.heap.objs.size s H fp) [] (fO N' X.N σ scope) H {s with heap:=h₁,toks:=tk}where
 ok:=adB S I hf hfs
 os:=rfl
 bare:=I.bare
 base:=Un.kept old
 loc:=by
  refine⟨m,hns,λi x v h1 h2 h3=>?_⟩
  obtain⟨e1,e2⟩:=QL h1 h2
  obtain⟨j,g1,g2⟩:=vI e2
  have hm:(x,NameKind.free)∈scope.names:=PySem.mem_of_lookup e1
  have hk:=S.free _ hm rfl
  obtain⟨m0,_,hl⟩:=I.loc
  have vis:Vis X.env.scope x:=.inr hk
  obtain⟨u,r,lk⟩:=hl j x v g1 g2 vis
  refine⟨u,r,.inr ⟨ue (env:=X.env) e1,?_⟩⟩
  rcases lk with⟨k,_⟩ |⟨_,c,e,z⟩
  .rcases hk with hk |hk
   .have hk':X.env.kindOf x=some .cell:=hk
    rw[hk']at k;cases k
   .have hk':X.env.kindOf x=some .free:=hk
    rw[hk']at k;cases k
  .obtain⟨c',e'⟩:=ux (env:=X.env) scope.names [] x (.inl hm)
   have e3:=S.cl I (x:=x) (c:=c') e'
   rw[e]at e3
   cases e3
   obtain⟨o,ho,hd⟩:=z
   exact⟨c,e',o,old _ _ ho,hd⟩
 cell:=λx c h=>by
  obtain⟨v,o,ho,hd⟩:=I.cell x c (S.cl I h)
  exact⟨v,o,old _ _ ho,hd⟩
 free:=I.hok.fresh (Nat.le_refl _)
 freeC:=λx c h=>I.freeC x c (S.cl I h)
 pin:=λp hp=>absurd (show p∈([]:List (Addr×Obj))from hp) (by simp)
 hok:=I.hok.kept old
 len:=by show(fO N' X.N σ scope).length=N'.length;unfold fO;rw[List.length_map]
theorem Nj{τ:St}(I:Inv X pins σ H s)(hf:∀b∈fp,jZ X pins H b)(J:Inv (z9 X N' scope (bV scope X.env) s.heap.objs.size s H fp) [] τ H' s'):Inv X pins σ H' s':=by
 obtain⟨hh,g,d,t,os'⟩:=s'
 have e:os'=s.os:=J.os
 subst e
 exact I.call (h':=hh) (g':=g) (d':=d) (t':=t) (ch:=fp) J.base J.hok J.bare λb hb=>⟨(hf b hb).2.2.2.1,(hf b hb).2.1,(hf b hb).2.2.2.2.1,(hf b hb).2.2.2.2.2⟩
variable{elt iter tg:Expr}{ifs:List Expr}{pos:Pos}
def mL(X Y:Cx)(tg elt:Expr)(ifs:List Expr)(J:It)(D:Addr)(σ':St)(H:Hp)(Q:Hp->Prop):Prop:=
 ∃W:Nat->Nat->St->Hp->Prop,(∃m,W 0 m σ' (upd H D (.lst [])))/\∀i m τ H,W i m τ H->
  (J.stop i H/\Q H)\/(J.go i H/\∃N:St->Hp->Prop,(∀τ' H',N τ' H'->∃m',m'<m/\W (i+1) m' τ' H')/\∀x H',J.yld i H x H'->
   EG Y tg x τ H' λτ2 H2=>abu Y ifs τ2 H2 λk H3=>if k=true then EV Y elt τ2 H3 λy H4=>∃xs,H4 D=some (.lst xs)/\xs.length<sizeLine/\N τ2 (upd H4 D (.lst (xs++[y])))else N τ2 H3)
theorem Gj{R:Value->Addr->Result->Shared->Prop}{it:Addr}{tn:Nat->Heap->Prop}{J:It}{E:Value->Shared->Prop}{Q:Addr->Hp->Prop}(hc:X.calm=true)(S:dh X.env scope)(I:Inv X pins σ H s)
  (T:Turn X.prog X.w X.K tg J fp it tn) (st:tn 0 s.heap) (hf:∀b∈fp,jZ X pins H b)
  (h:∀(D C:Addr) (s3:Shared),H D=none->mL X (z9 X N' scope (bV scope X.env) C s3 (upd H D (.lst [])) fp) tg elt ifs J D (fO N' X.N σ scope) H (Q D))
  (hR:∀(D C:Addr) (H':Hp) (s':Shared),H D=none->Q D H'->Inv X pins σ H' s'->jZ X pins H' C->(∃m,s'.heap.Ns C m)->R (.ref D) C (.ok .next) s'):
  wpAny (model X.prog X.w) X.A (newList []) (λacc s₃=>wpAny (model X.prog X.w) X.A (newFunctionEnv scope X.env.globals (bV scope X.env) [] X.env.qual none .none (some X.env)) (λcenv s₄=>
   codeAny (model X.prog X.w) X.A (.compStart (.ListComp elt [⟨tg,iter,ifs,0⟩] scope pos) 0 (.ref it) acc {cenv with scope:=relabel scope X.env}) (R acc cenv.locals) s₄) E s₃) E s:=by
 refine wpAny_newObj_type ?_
 have hD:H s.heap.objs.size=none:=I.hok.fresh (Nat.le_refl _)
 generalize hs3:({s with heap:=s.heap.push {cls:=.type "list",dict:=none,data:=.seq ([]:List Value).toArray}}:Shared)=s3
 have I3:Inv X pins σ (upd H s.heap.objs.size (.lst [])) s3:=by
  subst hs3
  exact I.laid (t':=s.toks) (λb u e=>Heap.get?_push_of_some _ e) (Nat.le_refl _) ⟨Nat.zero_le _,[],0,.nil,Heap.get?_push_size _ rfl⟩
 have hsz:s3.heap.objs.size=s.heap.objs.size+1:=by subst hs3;exact Heap.size_push ..
 have old3:∀b o,s.heap.get? b=some o->s3.heap.get? b=some o:=λb o e=>by subst hs3;exact Heap.get?_push_of_some _ e
 have fpl:∀b∈fp,b<s.heap.objs.size:=λb hb=>by
  obtain⟨o,e,_⟩:=T.obj _ _ st b hb
  exact Heap.lt_size e
 have X7:∀b∈fp,jZ X pins (upd H s.heap.objs.size (.lst [])) b:=λb hb=>⟨by rw[aB (Nat.ne_of_lt (fpl b hb))];exact(hf b hb).1,(hf b hb).2⟩
 have st3:tn 0 s3.heap:=T.keep _ _ _ st λb _ o e=>old3 b o e
 have WQ:∀b∈fp,b<s3.heap.objs.size:=λb hb=>by rw[hsz];exact Nat.lt_succ_of_lt (fpl b hb)
 refine wpAny_newFunctionEnv S.cell (by intro y hy;simp at hy) (λh₁ hns hsb=>?_) S.kind
 have Xi:∀b o,s3.heap.get? b=some o->h₁.get? b=some o:=λb o e=>hsb.extBut b o (Nat.ne_of_lt (Heap.lt_size e)) (Heap.get?_push_of_some _ e)
 generalize hY:z9 X N' scope (bV scope X.env) s3.heap.objs.size s3 (upd H s.heap.objs.size (.lst [])) fp=Y
 have hT:=h s.heap.objs.size s3.heap.objs.size s3 hD
 rw[hY]at hT
 obtain⟨W,⟨m0,w0⟩,turn⟩:=hT
 generalize hs4:({s3 with heap:=h₁,toks:=s3.toks+([]:List (Str×Value)).length}:Shared)=s4
 have I4:Inv Y [] (fO N' X.N σ scope) (upd H s.heap.objs.size (.lst [])) s4:=by
  subst hs4
  rw[<-hY]
  exact Pb S I3 X7 WQ hns Xi
 have st4:tn 0 s4.heap:=by
  subst hs4
  exact T.keep _ _ _ st3 λb _ o e=>Xi b o e
 have hP:Y.prog=X.prog:=by rw[<-hY];rfl
 have hw:Y.w=X.w:=by rw[<-hY];rfl
 have hK:Y.K=X.K:=by rw[<-hY];rfl
 have hA:Y.A=X.A:=by rw[<-hY];rfl
 have hcY:Y.calm=true:=by rw[<-hY];exact hc
 have hE:Y.xe=λ_ _=>False:=by rw[<-hY];rfl
 have hen:Y.env=compEnvC scope (bV scope X.env) s3.heap.objs.size X.env:=by rw[<-hY];rfl
 have hloc:Y.env.locals=s3.heap.objs.size:=by rw[hen];rfl
 have fpY:∀b∈fp,∀H':Hp,H' b=none->jZ Y [] H' b:=λb hb H' e=>by
  rw[<-hY]
  refine⟨e,Nat.ne_of_lt (WQ b hb),λz=>?_,.inl hb,λx c q=>(X7 b hb).2.2.2.2.1 x c (S.cl I3 q),λp hp=>absurd (show p∈([]:List (Addr×Obj))from hp) (by simp)⟩
  rcases List.mem_cons.mp (I3.stkSub b z)with e |e
  .exact(hf b hb).2.1 e
  .exact(hf b hb).2.2.1 e
 have loop:codeAny (model X.prog X.w) X.A (.compLoop (.ListComp elt [⟨tg,iter,ifs,0⟩] scope pos) 0 (.ref it) (.ref s.heap.objs.size) Y.env) (R (.ref s.heap.objs.size) s3.heap.objs.size) s4:=by
  refine Ck (λn s'=>∃i τ H',Inv Y [] τ H' s'/\tn i s'.heap/\(∀b∈fp,H' b=none)/\W i n τ H') ?_ m0 ⟨0,_,_,I4,st4,λb hb=>(X7 b hb).1,w0⟩
  rintro n s5 ⟨i,τ,H5,I5,st5,fr5,w5⟩
  have toF:∀{α:Type} {t:Sem α} {Q:α->Shared->Prop} {s:Shared},wpAny (model Y.prog Y.w) Y.A t Q Y.xe s->wpAny (model X.prog X.w) X.A t Q (λ_ _=>False) s:=λh=>by
   rw[hP,hw,hA,hE]at h;exact h
  rcases turn i n τ H5 w5 with⟨stop,qn⟩ |⟨go,N,hN,step⟩
  .have q:=T.done Y hP hw hK hcY i [] s5 τ H5 (λ_ _=>False) I5 (λb hb=>fpY b hb _ (fr5 b hb)) st5 stop
   rw[hA]at q
   refine cU q λr s6 ⟨hr,I6⟩=>?_
   subst hr
   have IX6:Inv X pins σ H5 s6:=by
    have I6':=I6
    rw[<-hY]at I6'
    exact Nj I3 X7 I6'
   refine hR _ _ H5 s6 hD qn IX6 (I3.fpOk (Nat.le_refl _) ?_) ?_
   .have :=I6.free
    rw[hloc]at this
    exact this
   .obtain⟨m,hn,_⟩:=I6.loc
    rw[hloc]at hn
    exact⟨m,hn⟩
  .have q:=T.item Y hP hw hK hcY i [] s5 τ H5 (λ_ _=>False) I5 (λb hb=>fpY b hb _ (fr5 b hb)) st5 go
   rw[hA]at q
   refine cU q λr s6 ⟨u,hr,h6⟩=>?_
   subst hr
   refine cU h6 λ_ s7 ⟨x,H7,I7,r7,y7,st7,fr7⟩=>?_
   have I7':=I7.pinned (λb hb=>fpY b hb _ (fr7 b hb)) (T.obj _ _ st7)
   have Xg:∀{τ':St} {H8:Hp} {s8:Shared},Inv Y ([]++uI fp s7.heap) τ' H8 s8->tn (i+1) s8.heap/\∀b∈fp,H8 b=none:=λ{τ' H8 s8} I8=>by
    refine⟨T.keep _ _ _ st7 λb hb o e=>(I8.pin (b,o) (List.mem_append_right _ (List.mem_append_right _ (gQ hb e)))).1,λb hb=>?_⟩
    obtain⟨o,e,d⟩:=T.obj _ _ st7 b hb
    exact(I8.pin (b,o) (List.mem_append_right _ (List.mem_append_right _ (gQ hb e)))).2.1
   refine toF (cU (step x H7 y7 _ s7 u I7' r7) λ_ s8 ⟨τ8,H8,I8,q8⟩=>?_)
   refine toF (cU (q8 _ s8 I8) λok s9 ⟨H9,I9,q9⟩=>?_)
   cases ok with
   |false=>
    have q9':N τ8 H9:=by simpa using q9
    obtain⟨m',hm,w9⟩:=hN _ _ q9'
    obtain⟨k1,k2⟩:=Xg I9
    show ∃m,_
    exact⟨m',hm,i+1,τ8,H9,I9.unpinned,k1,k2,w9⟩
   |true=>
    have q9':EV Y elt τ8 H9 λy H4=>∃xs,H4 s.heap.objs.size=some (.lst xs)/\xs.length<sizeLine/\N τ8 (upd H4 s.heap.objs.size (.lst (xs++[y]))):=by simpa using q9
    show wpAny _ _ _ _ _ _
    refine toF (cU (q9' _ s9 I9) λz s10 ⟨y,H10,I10,r10,xs,e10,l10,n10⟩=>?_)
    refine toF (cU (gK _ s10 τ8 H10 (.ref s.heap.objs.size) [y] _ [z] (λv H11=>v= .non/\H11=upd H10 s.heap.objs.size (.lst (xs++[y]))) I10 rfl (.cons r10 .nil) ⟨_,xs,y,rfl,rfl,e10,l10,rfl,rfl⟩) λ_ s11 ⟨_,H11,I11,_,_,e11⟩=>?_)
    subst e11
    obtain⟨m',hm,w11⟩:=hN _ _ n10
    obtain⟨k1,k2⟩:=Xg I11
    exact⟨m',hm,i+1,τ8,_,I11.unpinned,k1,k2,w11⟩
 rw[hen]at loop
 exact codeAny_compStart_list loop (T.self X.A 0 s4 _ _ st4 loop)
theorem tL{Q:VK}(hc:X.calm=true)(S:dh X.env scope)(hs:∀x,foldedSetIterable iter X.env x=pure x)
  (h:EI X tg iter σ H λJ H1=>∀(fp:List Addr) (D C:Addr) (s3:Shared),H1 D=none->mL X (z9 X N' scope (bV scope X.env) C s3 (upd H1 D (.lst [])) fp) tg elt ifs J D (fO N' X.N σ scope) H1 (λH'=>Q (.ref D) H')):
  EV X (.ListComp elt [⟨tg,iter,ifs,0⟩] scope pos) σ H Q:=by
 intro pins s I
 rw[eval_ListComp]
 refine wpAny_comprehension_free (use:=none) rfl hs (qP (S.has I)) S.kind S.loc (cU (h pins s I) λv s1 h1=>cU h1 λitv s2 h2=>?_)
 obtain⟨it,fp,tn,J,H2,e,I2,T,st2,f2,q2⟩:=h2
 subst e
 refine Gj (R:=λacc C=>compPost (model X.prog X.w) X.A X.xe none (EP X pins σ Q) acc C) (Q:=λD H'=>Q (.ref D) H') hc S I2 T st2 f2 (λD C s3 hD=>q2 fp D C s3 hD) λD C H' s' hD qD IX fC hn=>?_
 obtain⟨m,hn⟩:=hn
 obtain⟨f0,f1,f2',f3,f4,f5⟩:=fC
 exact⟨m,hn,λh' hsb=>⟨.ref D,H',IX.turned (t':=s'.toks) (λb o hb e=>hsb.extBut b o hb e) f0 f1 f3 f4 f5,rfl,qD⟩⟩
theorem Ea{D:Ends}{y:Str}{py spos:Pos}{j:Nat}(hsw:swapsWith (.ListComp elt [⟨tg,iter,ifs,0⟩] scope pos) (some (.Name y py)) spos.line X.env=pure true)(hc:X.calm=true)(S:dh X.env scope)(hs:∀x,foldedSetIterable iter X.env x=pure x)
  (hN:X.N.Nodup) (hi:nameAt X.N y=some j) (hx:X.env.scope.names.lookup y=some .local)
  (h:EI X tg iter σ H λJ H1=>∀(fp:List Addr) (E C:Addr) (s3:Shared),H1 E=none->mL X (z9 X N' scope (bV scope X.env) C s3 (upd H1 E (.lst [])) fp) tg elt ifs J E (fO N' X.N σ scope) H1 (λH'=>D.nx (σ.set j (some (.ref E))) H')):
  SX X (.Assign [.Name y py] (.ListComp elt [⟨tg,iter,ifs,0⟩] scope pos) spos) D σ H:=by
 intro pins s I
 rw[exec_Assign_Name_used _ _ _ _ hsw]
 refine wpAny_bind (wpAny_standAt (wpAny_bind ?_))
 show wpAny _ X.A (do let _<-comprehension (.ListComp elt [⟨tg,iter,ifs,0⟩] scope pos) scope X.env _ (newList []) false (eval iter X.env) (some (assign (.Name y py) X.env))) _ _ s
 refine wpAny_bind (wpAny_mono (wpAny_comprehension_free (use:=some (assign (.Name y py) X.env)) (Q:=λ_ s'=>SP X pins D .next s') rfl hs (qP (S.has I)) S.kind S.loc
  (cU (h pins s I) λv s1 h1=>cU h1 λitv s2 h2=>?_)) (λ_ s' hq=>wpAny_pure (wpAny_pure hq)) λ_ _ e=>e)
 obtain⟨it,fp,tn,J,H2,e,I2,T,st2,f2,q2⟩:=h2
 subst e
 refine Gj (R:=λacc C=>compPost (model X.prog X.w) X.A X.xe (some (assign (.Name y py) X.env)) (λ_ s'=>SP X pins D .next s') acc C) (Q:=λE H'=>D.nx (σ.set j (some (.ref E))) H') hc S I2 T st2 f2 (λE C s3 hD=>q2 fp E C s3 hD) λE C H' s' hD qD IX fC hn=>?_
 obtain⟨m,hn⟩:=hn
 obtain⟨f0,f1,f2',f3,f4,f5⟩:=fC
 show wpAny _ _ (assign (.Name y py) X.env (.ref E)) _ _ _
 refine wpAny_assign_Name (oZ IX hN (fc hi) (.inl hx) (v:=.ref E) rfl (λs'' I'' hb=>?_) (.inr hx))
 obtain⟨a,sb,ha⟩:=hb
 have hCa:C≠a:=by
  rcases ha with ha |ha
  .rw[ha];exact f1
  .intro z
   exact f4 y a ha z.symm
 refine⟨m,hn.sameBut sb hCa,λh' hsb=>⟨σ.set j (some (.ref E)),H',I''.turned (t':=s''.toks) (λb o hb e=>hsb.extBut b o hb e) f0 f1 f3 f4 f5,qD⟩⟩
theorem yV{Q:Bool->Hp->Prop}(q:Q true H):abu X [] σ H Q:=λpins s I=>by
 rw[List.forIn_nil]
 exact wpAny_pure ⟨H,I,q⟩
theorem Gp{c:Expr}{Q:Bool->Hp->Prop}(h:ET X c σ H Q):abu X [c] σ H Q:=λpins s I=>by
 rw[List.forIn_cons]
 simp only[if_true]
 refine wpAny_bind (wpAny_bind (cU (h pins s I) λk s1 q=>wpAny_pure ?_))
 dsimp only
 rw[List.forIn_nil]
 exact wpAny_pure q
end
theorem fY{c A B:Prop} [Decidable c](h1:c->A)(h2:¬c->B):if decide c=true then A else B:=by
 by_cases h:c
 .rw[if_pos (decide_eq_true h)];exact h1 h
 .rw[if_neg (by simpa using h)];exact h2 h
theorem ifN{c A B:Prop} [Decidable c](h1:¬c->A)(h2:c->B):if(!decide c)=true then A else B:=by
 by_cases h:c
 .rw[if_neg (by simp[h])];exact h2 h
 .rw[if_pos (by simp[h])];exact h1 h
theorem ifB{k:Bool}{A B:Prop}(h1:k=true->A)(h2:k=false->B):if k=true then A else B:=by
 cases k with
 |true=>rw[if_pos rfl];exact h1 rfl
 |false=>rw[if_neg Bool.false_ne_true];exact h2 rfl
theorem aja{A B:Prop}(h:B):if(!true)=true then A else B:=by rw[if_neg (by decide)];exact h
theorem aq.upd{H:Hp}{p:Addr}{o:HO}(h:H p=none):aq H (L2.upd H p o):=λb u e=>by rw[aB (au e h)];exact e
section
variable{X:Cx}{a e:Expr}{σ:St}{H:Hp}{Q:VK}{D:Ends}{pos p p':Pos}
theorem um{tg:Expr}{body:List Stmt}(hp:PassesOwn (model X.prog X.w) X.A X.env X.xe)(hc:X.calm=true)(hg:Gl X "range")(hm:X.mg "range"=none)(hs:starEach [a] X.env=[(false,eval a X.env)])
  (h:EV X a σ H λv H1=>∃n:Int,v= .int n/\ -(2^62)≤n/\n<2^62/\∃Pv:Nat->St->Hp->Prop,Pv 0 σ H1/\
   (∀i σ' H',i<n.toNat->Pv i σ' H'->EG X tg (.int i) σ' H' λσ2 H2=>lB X body {D with nx:=Pv (i+1),ct:=Pv (i+1),bk:=D.nx} σ2 H2)/\∀σ' H',Pv n.toNat σ' H'->D.nx σ' H'):
  SX X (.For tg (.Call (.Name "range" p) [a] [] p') body [] pos) D σ H:=by
 refine u6 hp hc (by intro _;rfl) (uL hg hm hs (iT hs (bC h λv H1 q=>?_)))
 obtain⟨n,rfl,h1,h2,Pv,h0,hst,hd⟩:=q
 refine j7 ⟨n,rfl,h1,h2,?_⟩
 exact Rk (g:=EG X tg) (tb:=lB X body) Pv h0 (λi σ' H' hi hP=>by rw[Int.zero_add];exact hst i σ' H' hi hP) hd
theorem Oc{tg:Expr}{body:List Stmt}(hp:PassesOwn (model X.prog X.w) X.A X.env X.xe)(hc:X.calm=true)(hs:∀x,foldedSetIterable e X.env x=pure x)
  (h:EV X e σ H λv H1=>∃q xs,v= .ref q/\bf X.K H1 q xs/\∃Pv:Nat->St->Hp->Prop,Pv 0 σ H1/\(∀i σ' H',i≤xs.length->Pv i σ' H'->bf X.K H' q xs)/\
   (∀i x σ' H',xs[i]? =some x->Pv i σ' H'->EG X tg x σ' H' λσ2 H2=>lB X body {D with nx:=Pv (i+1),ct:=Pv (i+1),bk:=D.nx} σ2 H2)/\∀σ' H',Pv xs.length σ' H'->D.nx σ' H'):
  SX X (.For tg e body [] pos) D σ H:=by
 refine u6 hp hc hs (rW (bC h λv H1 q=>?_))
 obtain⟨q,xs,rfl,hq,Pv,h0,hl,hst,hd⟩:=q
 exact⟨q,rfl,⟨xs,hq⟩,XH (g:=EG X tg) (tb:=lB X body) Pv h0 hl hst hd⟩
theorem aak{tg:Expr}{body:List Stmt}(hp:PassesOwn (model X.prog X.w) X.A X.env X.xe)(hc:X.calm=true)(hs:∀x,foldedSetIterable e X.env x=pure x)
  (h:EV X e σ H λv H1=>∃z:Str,v= .str z/\∃Pv:Nat->St->Hp->Prop,Pv 0 σ H1/\
   (∀i c σ' H',z.cps.toList[i]? =some c->Pv i σ' H'->EG X tg (.str ⟨#[c]⟩) σ' H' λσ2 H2=>lB X body {D with nx:=Pv (i+1),ct:=Pv (i+1),bk:=D.nx} σ2 H2)/\∀σ' H',Pv z.cps.toList.length σ' H'->D.nx σ' H'):
  SX X (.For tg e body [] pos) D σ H:=by
 refine u6 hp hc hs (Jt (bC h λv H1 q=>?_))
 obtain⟨z,rfl,Pv,h0,hst,hd⟩:=q
 refine⟨z,rfl,λi m σ H=>m=z.cps.size-i/\i≤z.cps.size/\Pv i σ H,⟨z.cps.size,by simp,Nat.zero_le _,h0⟩,?_⟩
 rintro i m σ' H' ⟨rfl,hi,p⟩
 by_cases hlt:i<z.cps.size
 .refine .inr ⟨hlt,Pv (i+1),λσ2 H2 p2=>⟨z.cps.size-(i+1),by omega,rfl,hlt,p2⟩,λx H2 y=>?_⟩
  obtain⟨e1,c,e2,e3⟩:=y
  subst e1 e3
  exact hst i c σ' _ (by simpa using e2) p
 .have e:i=z.cps.size:=by omega
  subst e
  exact .inl ⟨Nat.le_refl _,hd σ' H' (by simpa using p)⟩
theorem Bx{Y:Cx}{elt:Expr}{J:It}{E:Addr}{τ0:St}{Q:Hp->Prop}{y:Str}{py:Pos}{j:Nat}(hN:Y.N.Nodup)(hj:nameAt Y.N y=some j)(hx:Y.env.scope.names.lookup y=some .local)
  (n:Nat) (hn:n≤sizeLine) (Pi:Nat->V->Prop) (It:Nat->V->Prop) (hE:H E=none)
  (go:∀i H1,aq (upd H E (.lst [])) (upd H1 E (.lst []))->i<n->J.go i H1) (stop:∀H1,aq (upd H E (.lst [])) (upd H1 E (.lst []))->J.stop n H1)
  (yld:∀i H1 x H2,i<n->aq (upd H E (.lst [])) (upd H1 E (.lst []))->J.yld i H1 x H2->It i x/\H2=H1)
  (step:∀i x H1,i<n->It i x->aq H H1->EV Y elt (τ0.set j (some x)) H1 λv H2=>Pi i v/\aq H1 H2)
  (fin:∀H1 xs,xs.length=n->(∀i v,xs[i]? =some v->Pi i v)->H1 E=some (.lst xs)->aq H H1->Q H1):mL X Y (.Name y py) elt [] J E τ0 H Q:=by
 have sU:∀{H1:Hp},aq H H1->aq (upd H E (.lst [])) (upd H1 E (.lst [])):=λ{H1} s b o e=>by
  by_cases hb:b=E
  .subst hb;rw[ao]at e⊢;exact e
  .rw[aB hb]at e⊢;exact s b o e
 refine⟨λi m τ H1=>m=n-i/\i≤n/\aq H H1/\(τ=τ0\/∃x,τ=τ0.set j (some x))/\∃xs,H1 E=some (.lst xs)/\xs.length=i/\∀k v,xs[k]? =some v->Pi k v,⟨n,by simp,Nat.zero_le _,aq.upd hE,.inl rfl,[],ao,rfl,λk v e=>by simp at e⟩,?_⟩
 rintro i m τ H1 ⟨rfl,hi,s1,hτ,xs,eE,lx,px⟩
 by_cases hlt:i<n
 .refine .inr ⟨go i H1 (sU s1) hlt,λτ' H'=>aq H H'/\(τ'=τ0\/∃x,τ'=τ0.set j (some x))/\∃xs,H' E=some (.lst xs)/\xs.length=i+1/\∀k v,xs[k]? =some v->Pi k v,λτ' H' ⟨a,b,c⟩=>⟨n-(i+1),by omega,rfl,hlt,a,b,c⟩,λx H2 y=>?_⟩
  obtain⟨hI,e2⟩:=yld i H1 x H2 hlt (sU s1) y
  subst e2
  refine aM hN hj (.inl hx) (.inr hx) (yV ?_)
  rw[if_pos rfl]
  have eτ:τ.set j (some x)=τ0.set j (some x):=by
   rcases hτ with e |⟨z,e⟩
   .rw[e]
   .rw[e,List.set_set]
  rw[eτ]
  refine bC (step i x H2 hlt hI s1) λv H3 ⟨pv,s2⟩=>⟨xs,s2 _ _ eE,by omega,?_⟩
  refine⟨λb o e=>?_,.inr ⟨x,rfl⟩,xs++[v],ao,by simp[lx],λk u e=>?_⟩
  .rw[aB (au e hE)]
   exact s2 _ _ (s1 _ _ e)
  .by_cases hk:k<xs.length
   .rw[List.getElem?_append_left hk]at e
    exact px k u e
   .have hk2:k=i:=by
     have :=(List.getElem?_eq_some_iff.mp e).1
     rw[List.length_append,List.length_singleton]at this
     omega
    subst hk2
    rw[<-lx,List.getElem?_concat_length]at e
    cases e
    exact pv
 .have e:i=n:=by omega
  subst e
  exact .inl ⟨stop H1 (sU s1),fin H1 xs lx px eE s1⟩
theorem Gs{elt:Expr}{scope:Scope}{y:Str}{py:Pos}{j:Nat}(N':List Str){σ':St}(hσ:fO N' X.N σ scope=σ')(hc:X.calm=true)(S:dh X.env scope)(hN:N'.Nodup)(hj:nameAt N' y=some j)(hx:scope.names.lookup y=some .local)
  (hg:Gl X "range") (hm:X.mg "range"=none) (hs:starEach [a] X.env=[(false,eval a X.env)])
  (h:EV X a σ H λv H1=>∃n:Int,v= .int n/\ -(2^62)≤n/\n.toNat≤sizeLine/\∃Pi:Nat->V->Prop,
   (∀(fp:List Addr) (E C:Addr) (s3:Shared) (H0:Hp) (i:Nat) (H2:Hp),i<n.toNat->aq H1 H2->EV (z9 X N' scope (bV scope X.env) C s3 H0 fp) elt (σ'.set j (some (.int i))) H2 λv H3=>Pi i v/\aq H2 H3)/\
   ∀(E:Addr) (H2:Hp) (xs:List V),H1 E=none->xs.length=n.toNat->(∀i v,xs[i]? =some v->Pi i v)->H2 E=some (.lst xs)->aq H1 H2->Q (.ref E) H2):
  EV X (.ListComp elt [⟨.Name y py,.Call (.Name "range" p) [a] [] p',[],0⟩] scope pos) σ H Q:=by
 refine tL (N':=N') hc S (by intro _;rfl) (uL hg hm hs (iT hs (bC h λv H1 q=>?_)))
 obtain⟨n,rfl,h1,h2,Pi,hst,hfin⟩:=q
 have hsz:(sizeLine:Nat)<2^62:=by rw[sizeLine_eq];decide
 refine j7 ⟨n,rfl,h1,by omega,λfp E C s3 hE=>?_⟩
 rw[hσ]
 refine Bx (Y:=z9 X N' scope (bV scope X.env) C s3 (upd H1 E (.lst [])) fp) hN hj (lookup_relabel_local hx) n.toNat h2 Pi (λi x=>x= .int i) hE (λi _ _ hi=>hi) (λ_ _=>Nat.le_refl _) (λi H1 x H2 _ _ yl=>?_) (λi x H2 hi ex s=>?_) (λH2 xs l px eE s=>hfin E H2 xs hE l px eE s)
 .obtain⟨e1,e2⟩:=yl
  exact⟨by rw[e2,Int.zero_add],e1⟩
 .subst ex
  exact hst fp E C s3 _ i H2 hi s
theorem Wc{elt:Expr}{scope:Scope}{y:Str}{py:Pos}{j:Nat}(N':List Str){σ':St}(hσ:fO N' X.N σ scope=σ')(hc:X.calm=true)(S:dh X.env scope)(hN:N'.Nodup)(hj:nameAt N' y=some j)(hx:scope.names.lookup y=some .local)
  (hs:∀x,foldedSetIterable e X.env x=pure x)
  (h:EV X e σ H λv H1=>∃z:Str,v= .str z/\z.cps.size≤sizeLine/\∃Pi:Nat->V->Prop,
   (∀(fp:List Addr) (E C:Addr) (s3:Shared) (H0:Hp) (i c:Nat) (H2:Hp),z.cps.toList[i]? =some c->aq H1 H2->EV (z9 X N' scope (bV scope X.env) C s3 H0 fp) elt (σ'.set j (some (.str ⟨#[c]⟩))) H2 λv H3=>Pi i v/\aq H2 H3)/\
   ∀(E:Addr) (H2:Hp) (xs:List V),H1 E=none->xs.length=z.cps.size->(∀i v,xs[i]? =some v->Pi i v)->H2 E=some (.lst xs)->aq H1 H2->Q (.ref E) H2):
  EV X (.ListComp elt [⟨.Name y py,e,[],0⟩] scope pos) σ H Q:=by
 refine tL (N':=N') hc S hs (Jt (bC h λv H1 q=>?_))
 obtain⟨z,rfl,h2,Pi,hst,hfin⟩:=q
 refine⟨z,rfl,λfp E C s3 hE=>?_⟩
 rw[hσ]
 refine Bx (Y:=z9 X N' scope (bV scope X.env) C s3 (upd H1 E (.lst [])) fp) hN hj (lookup_relabel_local hx) z.cps.size h2 Pi (λi x=>∃c,z.cps.toList[i]? =some c/\x= .str ⟨#[c]⟩) hE (λi _ _ hi=>hi) (λ_ _=>Nat.le_refl _) (λi H1 x H2 _ _ yl=>?_) (λi x H2 hi ex s=>?_) (λH2 xs l px eE s=>hfin E H2 xs hE l px eE s)
 .obtain⟨e1,c,e2,e3⟩:=yl
  exact⟨⟨c,by simpa using e2,e3⟩,e1⟩
 .obtain⟨c,e1,e2⟩:=ex
  subst e2
  exact hst fp E C s3 _ i c H2 e1 s
end
section
variable{P:Program}{w:World}{K:W.Frag}{mg:Str->Option Value}{base:Heap}{cc:Bool}
abbrev xu(cc:Bool)(P:Program)(w:World)(K:W.Frag)(mg:Str->Option Value)(base:Heap)(N:List Str)(qual:Str)(scope:Scope)(f:Addr)(cd:Value)(A:Around)(outer:List Env)(s:Shared)(H:Hp)(E:XK):Cx:=
 Ia cc (Dk P w) P w K mg base N qual scope f cd A outer s H E
theorem OD{x qual:Str}{st:Stmt}{ps N:List Str}{k:Nat}{sp:Sp}{f:Addr}{fd:FuncData}(F:gn K x qual st f fd)(S:aK N ps (aa st))
  (len:∀vs H Q E,sp vs H Q E->vs.length=ps.length)
  (body:∀(cdv:Value) (A:Around) (outer:List Env) (s:Shared) (H:Hp) (vs:List V) (Q:VK) (E:XK),dU cc k (A.deeper (envOfC qual (aa st) s.heap.objs.size f cdv))->sp vs H Q E->
   lB (xu cc P w K mg base N qual (aa st) f cdv A outer s H E) (az st) {nx:=λ_ H'=>Q .non H',rt:=Q} (start N vs) H):uT P w K mg base (Dk P w) cc (k+1) f fd ps sp:=by
 obtain⟨oc,od,kV,doc,pm,an,cdv,ct,osl,rfl,lk,hcd⟩:=id F.ex
 exact aiE lk hcd S len λA outer s H vs Q E hr h=>⟨_,nj,body cdv A outer s H vs Q E hr h⟩
theorem aZ{x:Str}{st:Stmt}{ps N:List Str}{k:Nat}{sp:Sp}(F:∃f fd,gn K x x st f fd/\mg x=some (.ref f))(S:aK N ps (aa st))
  (hb:∀(kV doc pm:Value) (an:Option Addr) (cdv ct:Value) (us:List Value),us.length=ps.length->bindArgs (W.fnOf x x (aJ st) (az st) (aa st) .none kV doc pm an cdv ct) ⟨us,[]⟩=pure (ps.zip us))
  (len:∀vs H Q E,sp vs H Q E->vs.length=ps.length)
  (body:∀(f:Addr) (cdv:Value) (A:Around) (outer:List Env) (s:Shared) (H:Hp) (vs:List V) (Q:VK) (E:XK),dU cc k (A.deeper (envOfC x (aa st) s.heap.objs.size f cdv))->sp vs H Q E->
   lB (xu cc P w K mg base N x (aa st) f cdv A outer s H E) (az st) {nx:=λ_ H'=>Q .non H',rt:=Q} (start N vs) H):Def P w K mg base cc (k+1) x ps sp:=by
 obtain⟨f,fd,F,hm⟩:=F
 exact⟨f,fd,hm,F.kp,F.binds hb,OD F S len λcdv A outer s H vs Q E hr h=>body f cdv A outer s H vs Q E hr h⟩
end
def aaC(K:W.Frag):Sp:=λvs H Q _=>∃(a:Addr) (ns:List Int),vs=[.ref a]/\bf K H a (ns.map V.int)/\ns.length≤63/\∀H',Q (.bl true) H'
def bQ(z:Str)(lo hi:Option Int):Str:=⟨((z.cps.toList.drop (HT.jb z.length 0 lo)).take (HT.jb z.length z.length hi-HT.jb z.length 0 lo)).toArray⟩
theorem sI(n d:Nat)(v:Int):max 0 (min (if v<0 then v+(n:Int)else v) (n:Int))=((HT.jb n d (some v):Nat):Int):=by
 rw[<-HT.Yl]
 split <;>omega
theorem aaA(lo hi:Option Int)(n:Nat):Builtin.Str.strSliceIndices lo hi 1 n=(List.range (HT.jb n n hi-HT.jb n 0 lo)).map (λm=>HT.jb n 0 lo+m):=by
 have e:Builtin.Str.strSliceIndices lo hi 1 n=sliceRange ((HT.jb n 0 lo:Nat):Int) ((HT.jb n n hi:Nat):Int) 1:=by
  cases lo with
  |none=>
   cases hi with
   |none=>rfl
   |some v=>rw[<-sI n n v];rfl
  |some u=>
   cases hi with
   |none=>rw[<-sI n 0 u];rfl
   |some v=>rw[<-sI n 0 u, <-sI n n v];rfl
 rw[e]
 generalize HT.jb n 0 lo=a
 generalize HT.jb n n hi=b
 by_cases h:a≤b
 .have :=StrLaws.strSliceIndices_plain (len:=b) h (Nat.le_refl b)
  rw[<-this]
  have e2:Builtin.Str.strSliceIndices (some (a:Int)) (some (b:Int)) 1 b=sliceRange (a:Int) (b:Int) 1:=by
   have h1:¬((a:Int)<0):=by omega
   have h2:¬((b:Int)<0):=by omega
   have e1:max (0:Int) (min (a:Int) (b:Int))=a:=by omega
   have e2:max (0:Int) (min (b:Int) (b:Int))=b:=by omega
   simp only[Builtin.Str.strSliceIndices,h1,h2,if_false,e1,e2,show((1:Int)>0)=True from by simp,if_true]
  rw[e2]
 .have e3:b-a=0:=by omega
  rw[e3]
  have :¬((a:Int)<b):=by omega
  simp[sliceRange,this]
theorem K9(z:Str)(lo hi:Option Int):(⟨((Builtin.Str.strSliceIndices lo hi 1 z.length).filterMap (z.cps[·]?)).toArray⟩:Str)=bQ z lo hi:=by
 rw[aaA]
 unfold bQ
 have h1:=HT.Wv z.length z.length (Nat.le_refl _) hi
 have hl:z.cps.toList.length=z.length:=by simp[Str.length]
 by_cases h:HT.jb z.length 0 lo≤HT.jb z.length z.length hi
 .have :=StrLaws.picks z.cps.toList (HT.jb z.length z.length hi-HT.jb z.length 0 lo) (HT.jb z.length 0 lo) (by omega)
  rw[<-this]
  simp
 .have e3:HT.jb z.length z.length hi-HT.jb z.length 0 lo=0:=by omega
  rw[e3]
  simp
theorem BK{v:Value}{o:Option Int}(h:IsPart v o):∃l:Option (Int×Tok),v=partValue l/\l.map (·.1)=o:=by
 cases h with
 |none=>exact⟨none,rfl,rfl⟩
 |int i t=>exact⟨some (i,t),rfl,rfl⟩
theorem acx{X:Cx}:SlR X (λx lo hi H Q=>∃z,x= .str z/\z.length≤sizeLine/\Q (.str (bQ z lo hi)) H):=by
 intro pins s σ H x v vl vu lo hi sl Q I rx hs pl pu h
 obtain⟨z,rfl,hz,q⟩:=h
 obtain⟨t,rfl⟩:=rx
 refine⟨"str",_,F.slot_str_getitem.lookup,typeIs_str s z t,?_⟩
 obtain⟨l,rfl,rfl⟩:=BK pl
 obtain⟨u,rfl,rfl⟩:=BK pu
 have hsl:s.heap.IsSlice sl l u none:=by
  obtain⟨o,ho,hc,hd⟩:=hs
  exact⟨o,ho,hc,hd⟩
 refine wpAny_getItem_str_slice hsl rfl ?_
 have e:(slicePicked z l u none)=Builtin.Str.strSliceIndices (l.map (·.1)) (u.map (·.1)) 1 z.length:=rfl
 unfold sliceMade
 have key:(⟨((slicePicked z l u none).filterMap (z.cps[·]?)).toArray⟩:Str)=bQ z (l.map (·.1)) (u.map (·.1)):=by rw[e];exact K9 z _ _
 split
 .rename_i hh
  have hlen:(slicePicked z l u none).length=z.length:=by
   simp only[Bool.and_eq_true,beq_iff_eq]at hh
   exact hh.2
  have whole:bQ z (l.map (·.1)) (u.map (·.1))=z:=by
   rw[e,aaA,List.length_map,List.length_range]at hlen
   have h1:=HT.Wv z.length z.length (Nat.le_refl _) (u.map (·.1))
   have hl:z.cps.toList.length=z.length:=by simp[Str.length]
   unfold bQ
   by_cases hz0:z.length=0
   .have :z.cps.toList=[]:=List.eq_nil_of_length_eq_zero (by omega)
    rw[this]
    have e2:z.cps= #[]:=by
     have :=congrArg List.toArray this
     simpa using this
    obtain⟨c⟩:=z
    simp at e2
    subst e2
    simp
   .have ha:HT.jb z.length 0 (l.map (·.1))=0:=by omega
    have hb:HT.jb z.length z.length (u.map (·.1))=z.length:=by omega
    rw[ha,hb,List.drop_zero,Nat.sub_zero,List.take_of_length_le (by omega)]
  exact⟨.str (bQ z (l.map (·.1)) (u.map (·.1))),H,I,⟨t,by rw[whole]⟩,q⟩
 .rw[key]
  refine⟨?_,.str (bQ z (l.map (·.1)) (u.map (·.1))),H,I.tok _,⟨_,rfl⟩,q⟩
  have :(bQ z (l.map (·.1)) (u.map (·.1))).length≤z.length:=by
   unfold bQ Str.length
   simp
   omega
  omega
section
variable{X:Cx}{H:Hp}{Q:VK}{z y:Str}
theorem iJ{lo hi:Option Int}(h:z.length≤sizeLine)(g:Q (.str (bQ z lo hi)) H):SL X (.str z) lo hi H Q:=⟨_,acx,z,rfl,h,g⟩
theorem n8{id:String}{r:V->List V->Hp->VK->Prop}{x:V}{xs:List V}(h:MtR X id r)(q:r x xs H Q):MT X id x xs H Q:=⟨r,h,q⟩
theorem xQ{ys:List Str}:∀{us:List Value},Vals (ys.map V.str) us->StrsAre us ys:=by
 induction ys with
 |nil=>intro us r;cases r;exact .nil
 |cons y ys ih=>
  intro us r
  cases r with
  |cons r rr=>
   obtain⟨t,rfl⟩:=r
   exact .cons y t (ih rr)
theorem Dc{q:Addr}{ys:List Str}(h:bf X.K H q (ys.map V.str))(hw:(ys.map (·.length)).sum+ys.length*z.length≤16777216)(g:Q (.str (Str.join z ys)) H):MT X "str.join" (.str z) [.ref q] H Q:=by
 refine n8 (r:=λx xs H Q=>∃z q ys,x= .str z/\xs=[.ref q]/\bf X.K H q (ys.map V.str)/\(ys.map (·.length)).sum+ys.length*z.length≤16777216/\Q (.str (Str.join z ys)) H) ?_ ⟨z,q,ys,rfl,rfl,h,hw,g⟩
 intro pins s σ H x xs v us Q I rx rs h
 obtain⟨z,q,ys,rfl,rfl,h,hw,g⟩:=h
 obtain⟨t,rfl⟩:=rx
 obtain⟨u,rfl,ru⟩:=vals1 rs
 cases(show u=Value.ref q from ru)
 obtain⟨its,rv,pl,_⟩:=I.list h
 refine join_list pl.isList (by simpa using xQ rv) hw λt' k=>⟨.str (Str.join z ys),H,I.tok k,⟨t',?_⟩,g⟩
 have e:Txt.join z ys=Str.join z ys:=by
  unfold Txt.join
  cases ys with
  |nil=>rfl
  |cons y r=>exact StrLaws.glued_cons z r y
 rw[e]
theorem Hr(g:Q (.bl (Txt.startswith z y)) H):MT X "str.startswith" (.str z) [.str y] H Q:=by
 refine n8 (r:=λx xs H Q=>∃z y,x= .str z/\xs=[.str y]/\Q (.bl (Txt.startswith z y)) H) ?_ ⟨z,y,rfl,rfl,g⟩
 intro pins s σ H x xs v us Q I rx rs h
 obtain⟨z,y,rfl,rfl,g⟩:=h
 obtain⟨t,rfl⟩:=rx
 obtain⟨u,rfl,ru⟩:=vals1 rs
 obtain⟨t',rfl⟩:=ru
 exact SC.startswith ⟨.bl _,H,I,rfl,g⟩
theorem ajN{q:Addr}{bs:List Bool}(hc:X.calm=true)(h:bf X.K H q (bs.map V.bl))(g:Q (.bl (bs.all id)) H):CL X (.builtin "all") [.ref q] H Q:=by
 refine gJ (r:=λxs H Q=>∃q bs,xs=[.ref q]/\bf X.K H q (bs.map V.bl)/\Q (.bl (bs.all id)) H) ?_ ⟨q,bs,rfl,h,g⟩
 intro pins s σ H xs us Q I r h
 obtain⟨q,bs,rfl,h,g⟩:=h
 obtain⟨u,rfl,ru⟩:=vals1 r
 cases(show u=Value.ref q from ru)
 obtain⟨its,rv,pl,hz⟩:=I.list h
 refine call_all_walk (wpAny_pyIter_list pl.isList ?_)
 have hq:q<s.heap.objs.size:=by
  obtain⟨o,ho,_⟩:=pl.isList
  exact Heap.lt_size ho
 have hlen:its.length=bs.length:=by have :=rv.length;rw[List.length_map]at this;exact this.symm
 refine⟨s.heap.objs.size,[s.heap.objs.size,q],[s.heap.objs.size],its.toArray.size,(λi v=>its.toArray[i]? =some v),(λi h=>h.IsListIter s.heap.objs.size q i/\h.IsList q its.toArray),λi=>bs.getD i true,rfl,Walks.list (A:=X.A.in1) (show X.A.in1.handled=none from I.ok.hd hc) s.heap.objs.size q (Nat.ne_of_lt hq) its.toArray,⟨⟨_,Heap.get?_push_size _ rfl,rfl,rfl⟩,?_⟩,?_,λh' tk hk=>?_⟩
 .obtain⟨o,ho,r⟩:=pl.isList
  exact⟨o,Heap.get?_push_of_some _ ho,r⟩
 .intro i v s Q E hv hq
  have hv':its[i]? =some v:=by simpa using hv
  have hi:i<bs.length:=by rw[<-hlen];exact(List.getElem?_eq_some_iff.mp hv').1
  obtain⟨u,e1,e2⟩:=rv.get (i:=i) (x:=V.bl bs[i]) (by simp[hi])
  rw[hv']at e1
  cases e1
  cases(show v=Value.bool bs[i]from e2)
  refine wpAny_truthy_bool ?_
  have :bs.getD i true=bs[i]:=by simp[hi]
  have hq':Q (bs.getD i true) s:=hq
  rw[this]at hq'
  exact hq'
 .have e:(List.range its.toArray.size).all (λi=>bs.getD i true)=bs.all id:=by
   rw[List.size_toArray,hlen,Bool.eq_iff_iff,List.all_eq_true,List.all_eq_true]
   constructor
   .intro h b hb
    obtain⟨i,hi,e⟩:=List.getElem_of_mem hb
    have :=h i (by simpa using hi)
    simpa [hi,e]using this
   .intro h i hi
    have hi':i<bs.length:=by simpa using hi
    have :=h bs[i] (List.getElem_mem hi')
    simpa [hi']using this
  rw[e]
  have fp:=I.fpOk (Nat.le_refl _) (I.hok.fresh (Nat.le_refl _))
  have I1:Inv X pins σ H {s with heap:=s.heap.push {cls:=.type "list_iterator",data:=.fields #[.ref q,.int 0 0]}}:=I.kept (t':=s.toks) λb o e=>Heap.get?_push_of_some _ e
  refine⟨.bl _,H,I1.turned (it:=s.heap.objs.size) (λb o hb e=>hk b o (by simpa using hb) e) (I.hok.fresh (Nat.le_refl _)) fp.2.1 fp.2.2.2.1 fp.2.2.2.2.1 fp.2.2.2.2.2,rfl,g⟩
end
theorem cC{env:Env}{scope:Scope}(sc:Scope)(hsc:env.scope=sc)(hk:scope.kind= .function)
  (h:(scope.names.all λy=>(if y.2== .free then(sc.names.lookup y.1==some .cell||sc.names.lookup y.1==some .free)else true)&&y.2 != .cell&&(if y.2== .local then scope.names.lookup y.1==some .local else true))=true):dh env scope:=by
 have h':=List.all_eq_true.mp h
 refine⟨hk,λy hy e=>?_,λy hy e=>?_,λy hy e=>?_⟩
 .have q:=h' y hy
  simp only[e,beq_self_eq_true,if_true,Bool.and_eq_true,Bool.or_eq_true,beq_iff_eq]at q
  show env.scope.names.lookup y.1=_\/env.scope.names.lookup y.1=_
  rw[hsc]
  exact q.1.1
 .have q:=h' y hy
  rw[e]at q
  simp at q
 .have q:=h' y hy
  simp only[e,Bool.and_eq_true,beq_iff_eq,beq_self_eq_true,if_true]at q
  exact q.2
theorem eY{α:Type}{xs:List V}{ys:List α}(f:α->V)(hl:xs.length=ys.length)(h:∀(i:Nat) v,xs[i]? =some v->∃c,ys[i]? =some c/\v=f c):xs=ys.map f:=by
 apply List.ext_getElem?
 intro i
 rw[List.getElem?_map]
 cases e:xs[i]? with
 |none=>
  have :xs.length≤i:=List.getElem?_eq_none_iff.mp e
  rw[List.getElem?_eq_none (by omega)]
  rfl
 |some v=>
  obtain⟨c,e1,e2⟩:=h i v e
  rw[e1,e2]
  rfl
section
variable{X:Cx}{H:Hp}{Q:VK}
theorem al3(q:Q (.int 1000000000) H):OP X (binaryOp .Pow) (.int 10) (.int 9) H Q:=T8 ⟨by decide,by decide,by decide⟩ (show Q (.int (10^(9:Int).toNat)) H from(show(10:Int)^(9:Int).toNat=1000000000 from by decide)▸q)
theorem ahP(q:Q (.int 1000000000000000000) H):OP X (binaryOp .Pow) (.int 10) (.int 18) H Q:=T8 ⟨by decide,by decide,by decide⟩ (show Q (.int (10^(18:Int).toNat)) H from(show(10:Int)^(18:Int).toNat=1000000000000000000 from by decide)▸q)
end
def EJ(X:Cx)(vs:List Expr)(out:Str)(σ:St)(H:Hp)(Q:VK):Prop:=
 ∀(pins:List (Addr×Obj)) (s:Shared),Inv X pins σ H s->wpAny (model X.prog X.w) X.A (joinParts out (evalEach vs X.env)) (EP X pins σ Q) X.xe s
section
variable{X:Cx}{σ:St}{H:Hp}{Q:VK}{v v₁ v₂:Expr}{rest:List Expr}{pos:Pos}{out:Str}
theorem YS(h:EJ X (v₁::v₂::rest) Str.empty σ H Q):EV X (.JoinedStr (v₁::v₂::rest) pos) σ H Q:=λpins s I=>h pins s I
theorem acL(hl:out.length≤sizeLine)(q:Q (.str out) H):EJ X [] out σ H Q:=λpins s I=>joinParts_nil ⟨.str out,H,I.tok _,⟨_,rfl⟩,q⟩ hl
theorem Z7(h:EV X v σ H λx H1=>∃y,x= .str y/\(out++y).length≤sizeLine/\EJ X rest (out++y) σ H1 Q):EJ X (v::rest) out σ H Q:=λpins s I=>by
 refine joinParts_cons (cU (h pins s I) λu s1 ⟨x,H1,I1,r,y,e,hl,q⟩=>?_)
 subst e
 obtain⟨t,rfl⟩:=r
 exact⟨hl,q pins s1 I1⟩
theorem xg(h:EV X v σ H λx H1=>∃z,x= .str z/\z.length≤sizeLine/\Q (.str z) H1):EV X (.FormattedValue v (-1) none pos) σ H Q:=λpins s I=>by
 refine FormattedValue_plain (cU (h pins s I) λu s1 ⟨x,H1,I1,r,z,e,hl,q⟩=>?_)
 subst e
 obtain⟨t,rfl⟩:=r
 exact formatField_str (λt' tk=>⟨.str z,H1,I1.tok tk,⟨t',rfl⟩,q⟩) hl
theorem Y4(h:EV X v σ H λx H1=>∃i,x= .int i/\i.natAbs.log2<1920/\Q (.str (toString i)) H1):EV X (.FormattedValue v (-1) none pos) σ H Q:=λpins s I=>by
 refine FormattedValue_plain (cU (h pins s I) λu s1 ⟨x,H1,I1,r,z,e,hl,q⟩=>?_)
 subst e
 obtain⟨t,rfl⟩:=r
 exact formatField_int_small hl ⟨.str (toString z),H1,I1.tok _,⟨_,rfl⟩,q⟩
end
def EJL(X:Cx)(vs:List Expr)(n:Nat)(σ:St)(H:Hp)(R:Hp->Prop):Prop:=∀out:Str,out.length≤n->∀Q:VK,(∀z H',R H'->Q (.str z) H')->EJ X vs out σ H Q
theorem Ox(x y:Str):(x++y).length=x.length+y.length:=by
 show(x.cps++y.cps).size=_
 rw[Array.size_append]
 rfl
section
variable{X:Cx}{σ:St}{H:Hp}{Q:VK}{R:Hp->Prop}{v v₁ v₂:Expr}{rest:List Expr}{pos:Pos}{n:Nat}
theorem Ut(h:EJL X (v₁::v₂::rest) 0 σ H λH'=>∀z,Q (.str z) H'):EV X (.JoinedStr (v₁::v₂::rest) pos) σ H Q:=YS (h Str.empty (Nat.le_refl _) Q λz H' r=>r z)
theorem YL(hn:n≤sizeLine)(r:R H):EJL X [] n σ H R:=λout ho Q k=>acL (Nat.le_trans ho hn) (k out H r)
theorem Gb(h:EV X v σ H λx H1=>∃y m,x= .str y/\y.length≤m/\n+m≤sizeLine/\EJL X rest (n+m) σ H1 R):EJL X (v::rest) n σ H R:=λout ho Q k=>
 Z7 (bC h λx H1 ⟨y,m,e,hy,hm,q⟩=>⟨y,e,by rw[Ox];omega,q (out++y) (by rw[Ox];omega) Q k⟩)
end
abbrev Ii:List Value:=[.type "ValueError",.type "Exception",.type "BaseException",.type "object"]
def aj(mg:Str->Option Value)(x:Str):Addr:=match mg x with
 |some (.ref C)=>C
 |_=>0
theorem aA{mg:Str->Option Value}{x:Str}{C:Addr}(h:mg x=some (.ref C)):aj mg x=C:=by unfold aj;rw[h]
structure Ux(K:W.Frag)(mg:Str->Option Value)(x:Str):Prop where
 at_:mg x=some (.ref (aj mg x))
 ex:W.excIn K (aj mg x) Ii "ValueError.__new__"=true
theorem Ew{K:W.Frag}{mg:Str->Option Value}{x:Str}{C:Addr}(h:mg x=some (.ref C))(e:W.excIn K C Ii "ValueError.__new__"=true):Ux K mg x:=by
 have z:aj mg x=C:=by unfold aj;rw[h]
 exact⟨by rw[z];exact h,by rw[z];exact e⟩
theorem aaa{K:W.Frag}{C:Addr}{h:Heap}(kin:K.In h)(e:W.excIn K C Ii "ValueError.__new__"=true):
  ∃bm N nm q bs hdct sn sub ab col dd k0 k1 k2 k3 k5 mN,h.get? C=some (excClassObj nm q C N bs bm hdct sn sub ab col dd k0 k1 k2 k3 k5 "ValueError.__new__")/\h.Ns N mN/\mN "__init__"=none/\OwnTail h Ii bm:=by
 unfold W.excIn at e
 split at e
 .rename_i dd cd sl ho
  split at e
  .rename_i C' bm k0 k1 k2 k3 n k5 hm hs
   simp only[Bool.and_eq_true,beq_iff_eq,Bool.not_eq_true']at e
   obtain⟨⟨⟨⟨⟨e1,e2⟩,e3⟩,e4⟩,e5⟩,e6⟩:=e
   subst e1 e2
   obtain⟨nm,bs,mro,ns,qn,hd,sn,sub,ab,col,del⟩:=cd
   dsimp only at hm e3 e5 e6
   subst hm e3
   have hl:sl= #[k0,k1,k2,k3,some (.builtin "ValueError.__new__"),k5]:=by
    obtain⟨l⟩:=sl
    simp only at hs
    rw[hs]
   subst hl
   exact⟨bm,ns,nm,qn,bs,hd,sn,sub,ab,col,dd,k0,k1,k2,k3,k5,_,kin _ _ ho,.of_isNs (W.isNs_of_in kin e5),W.nsMap_none_of_in kin e5 e6,W.tail_of_in kin e4⟩
  .cases e
 .cases e
section
variable{X:Cx}{Kx:St->XK}{D:Ends}{σ:St}{H:Hp}{x:Str}{np cpos pos:Pos}{e:Expr}{es:List Expr}
theorem ik(hx:Dl X Kx)(hc:X.calm=true)(O:Ux X.K X.mg x)(hg:Gl X x)(hd:(x==("__debug__":Str))=false)(he:starEach (e::es) X.env=(false,eval e X.env)::starEach es X.env)
  (hpl:(backTo cpos (starEach es X.env)).any (·.1)=false) (h:EA X (e::es) σ H λvs H1=>vs.length≤sizeLine/\Kx σ (.ref (aj X.mg x)) (none,true) H1):
  SX X (.Raise (some (.Call (.Name x np) (e::es) [] cpos)) none pos) D σ H:=by
 intro pins s I
 obtain⟨bm,N,nm,q,bs,hdct,sn,sub,ab,col,dd,k0,k1,k2,k3,k5,mN,hC,hN,hni,T⟩:=aaa I.ok.mod.kin O.ex
 refine wpAny_Raise_call_subT (C:=aj X.mg x) (nm:=nm) (q:=q) (N:=N) (bs:=bs) (bm:=bm) (hdct:=hdct) (sn:=sn) (sub:=sub) (ab:=ab) (col:=col) (dd:=dd) (k0:=k0) (k1:=k1) (k2:=k2) (k3:=k3) (k5:=k5)
  F.excBase_ValueError (mN:=mN) (T.hasType (by decide+kernel)) (I.ok.hd hc) ?_ hni (jB I hg O.at_ ⟨rfl,?_⟩ hd)
 .rw[he]
  show(false||(backTo cpos (starEach es X.env)).any (·.1))=false
  rw[hpl]
  rfl
 .have h':=h cpos pins s I
  rw[he]at h'⊢
  refine Calls.evalArgs_plain (cU h' λus s2 ⟨vs,H1,I2,r,hl,kq⟩=>⟨rfl,by rw[<-r.length];exact hl,I2.bk _ _ hC,hN.keeps I2.bk,T.keeps I2.bk,λh3 a M=>?_⟩)
  obtain⟨t,m1,m2,m3⟩:=M.there
  refine hx pins σ H1 _ a _ (none,true) ⟨I2.kept (t':=s2.toks) M.keeps,none,.none,⟨_,_,m1,rfl,rfl,rfl,rfl,by simp,Ctx.yes rfl,λT z=>nomatch z⟩,.inl rfl,λb hb=>?_⟩ kq
  have z:b=a:=by simpa using hb
  subst z
  exact⟨I2.hok.free M.new,I2.ch M.new⟩
end
abbrev Cx.tri(X:Cx)(F:Value->Shared->Prop)(pn:List (Addr×Obj)):Cx:={X with xe:=F,pn:=pn}
abbrev Cx.yu(X:Cx)(e:Value)(F:Value->Shared->Prop)(pn:List (Addr×Obj)):Cx:={X with A:=X.A.mark (some e),calm:=false,xe:=F,pn:=pn}
section
variable{X:Cx}{pins pins':List (Addr×Obj)}{σ:St}{H:Hp}{s:Shared}{F:Value->Shared->Prop}{e:Value}
theorem Cx.Ok.tri(ok:X.Ok)(pn:List (Addr×Obj)):(X.tri F pn).Ok:=
 ⟨ok.mod,ok.kind,ok.glob,ok.blt,ok.above,ok.inj,ok.has,ok.cab,ok.hd,ok.frames,ok.stk,ok.exf,ok.bs,ok.bsz,ok.noex,ok.exfs,ok.funs,ok.frf⟩
theorem Cx.Ok.yu(ok:X.Ok)(pn:List (Addr×Obj)):(X.yu e F pn).Ok:=
 ⟨ok.mod,ok.kind,ok.glob,ok.blt,ok.above,ok.inj,ok.has,ok.cab,(λz=>nomatch z),ok.frames,ok.stk,ok.exf,ok.bs,ok.bsz,ok.noex,ok.exfs,ok.funs,ok.frf⟩
theorem Inv.tri(I:Inv X pins σ H s):Inv (X.tri F (X.pn++pins)) [] σ H s:=
 ⟨I.ok.tri _,I.os,I.bare,I.base,I.loc,I.cell,I.free,I.freeC,λp hp=>I.pin p (by simpa using hp),I.hok,I.len⟩
theorem Inv.yu(I:Inv X pins σ H s):Inv (X.yu e F (X.pn++pins)) [] σ H s:=
 ⟨I.ok.yu _,I.os,I.bare,I.base,I.loc,I.cell,I.free,I.freeC,λp hp=>I.pin p (by simpa using hp),I.hok,I.len⟩
theorem Inv.wg(ok:X.Ok)(I:Inv (X.tri F (X.pn++pins)) pins' σ H s):Inv X pins σ H s:=
 ⟨ok,I.os,I.bare,I.base,I.loc,I.cell,I.free,I.freeC,λp hp=>I.pin p (List.mem_append_left _ hp),I.hok,I.len⟩
theorem Inv.Eo(ok:X.Ok)(I:Inv (X.yu e F (X.pn++pins)) pins' σ H s):Inv X pins σ H s:=
 ⟨ok,I.os,I.bare,I.base,I.loc,I.cell,I.free,I.freeC,λp hp=>I.pin p (List.mem_append_left _ hp),I.hok,I.len⟩
theorem Ch.wg{b:Addr}(c:Ch (X.tri F (X.pn++pins)) pins' b):Ch X pins b:=⟨c.1,c.2.1,c.2.2.1,λp hp=>c.2.2.2 p (List.mem_append_left _ hp)⟩
end
def EH(X:Cx)(hs:List ExceptHandler)(D:Ends)(σ:St)(cls:Value)(d:Option Addr×Bool)(H:Hp):Prop:=
 ∀(pins:List (Addr×Obj)) (s:Shared) (e T:Addr),Inv X pins σ H s->fL s.heap e cls d (some T) .none->(∀b∈[e,T],H b=none/\Ch X pins b)->
  wpAny (model X.prog X.w) X.A (handleBy (.ref e) X.env hs) (SP X pins D) X.xe s
section
variable{X:Cx}{D:Ends}{σ:St}{H:Hp}{h₀:ExceptHandler}{hs rest:List ExceptHandler}{body orelse suite:List Stmt}{b₀:Stmt}{pos np:Pos}{x n:Str}{cls c:Value}{d:Option Addr×Bool}
theorem Ml(Kx:St->XK)(hst:X.stack=X.env::X.outer)(hf:X.env.frame=some X.env.locals)
  (hb:∀F pn,Dl (X.tri F pn) Kx->PassesOwn (model X.prog X.w) X.A X.env F->lB (X.tri F pn) body {D with nx:=λσ' H'=>lB X orelse D σ' H'} σ H)
  (hh:∀σ' cls d H',Kx σ' cls d H'->EH X (h₀::hs) D σ' cls d H'):SX X (.Try body (h₀::hs) orelse [] pos) D σ H:=by
 intro pins s I
 refine wpAny_Try_except ?_
 refine wpAny_mono (hb (λe s1=>wpAny (model X.prog X.w) X.A (noteFrame e X.env) (λ_ s2=>wpAny (model X.prog X.w) X.A (setFlight e none) (λ_ s3=>wpAny (model X.prog X.w) X.A (handleBy e X.env (h₀::hs)) (SP X pins D) X.xe s3) X.xe s2) X.xe s1)
  (X.pn++pins) ?_ PassesOwn.looking [] s I.tri) (λf s1 q=>?_) λ_ _ q=>q
 .intro pins' σ' H' s' e cls d xa q
  obtain⟨I',tb,fl,F',hfl,ch⟩:=xa
  have I2:=Inv.wg I.ok I'
  refine XAt.note (X:=X) (pins:=pins) ⟨I2,tb,fl,F',hfl,λb hb=>⟨(ch b hb).1,(ch b hb).2.wg⟩⟩ hst hf λs2 T I3 F3 c3=>?_
  exact I3.off F3 c3 λs4 I4 F4=>hh σ' cls d H' q pins s4 e T I4 F4 c3
 .cases f with
  |next=>
   obtain⟨σ',H',J,q⟩:=q
   exact q pins s1 (Inv.wg I.ok J)
  |brk=>
   obtain⟨σ',H',J,q⟩:=q
   exact⟨σ',H',Inv.wg I.ok J,q⟩
  |cont=>
   obtain⟨σ',H',J,q⟩:=q
   exact⟨σ',H',Inv.wg I.ok J,q⟩
  |ret u=>
   obtain⟨v,σ',H',J,r,q⟩:=q
   exact⟨v,σ',H',Inv.wg I.ok J,r,q⟩
theorem fL.ty{M:Model}{h:Heap}{e:Addr}{tb:Option Addr}{fl:Value}(F:fL h e cls d tb fl):W.Looks M h (typeOf (.ref e)) cls:=by
 obtain⟨oe,vs,he,hc,_⟩:=F
 subst hc
 exact(W.Looks.ld he).andThen .now
theorem YB{X:Cx}{pins:List (Addr×Obj)}{s:Shared}{e:Addr}{tb:Option Addr}{fl:Value}{k:Bool}{R:Result->Shared->Prop}(I:Inv X pins σ H s)(F:fL s.heap e cls d tb fl)(hg:Gl X x)(hm:X.mg x=some c)(hd:(x==("__debug__":Str))=false)
  (ex:W.exmOne X.K cls c=some k) (h:R (.ok (if k then .brk else .next)) s):codeAny (model X.prog X.w) (X.A.mark (some (.ref e))) (.handlers (.ref e) [.ExceptHandler (some (.Name x np)) none [] pos] X.env) R s:=by
 refine codeAny_handlers_test ?_
 have J:Inv (X.yu (.ref e) X.xe (X.pn++pins)) [] σ H s:=I.yu
 exact jB (X:=X.yu (.ref e) X.xe (X.pn++pins)) J hg hm ((W.exm_one I.kIn F.ty ex).here h) hd
end
mutual
inductive RD (K:W.Frag) (H:Hp):V->PyData->Prop
 |non:RD K H .non .none
 |bl (b:Bool):RD K H (.bl b) (.bool b)
 |int (i:Int):RD K H (.int i) (.int i)
 |str (x:Str):RD K H (.str x) (.str x)
 |lst {a:Addr} {xs:List V} {ds:List PyData} (h:bf K H a xs) (r:RDs K H xs ds):RD K H (.ref a) (.list ds)
 |tup {a:Addr} {xs:List V} {ds:List PyData} (h:fK K H a xs) (r:RDs K H xs ds):RD K H (.ref a) (.tuple ds)
inductive RDs (K:W.Frag) (H:Hp):List V->List PyData->Prop
 |nil:RDs K H [] []
 |cons {x:V} {d:PyData} {xs:List V} {ds:List PyData} (h:RD K H x d) (r:RDs K H xs ds):RDs K H (x::xs) (d::ds)
end
section
variable{X:Cx}{H:Hp}{Q:VK}{x y:V}{d d':PyData}
end
def W3(l:List Stmt)(i:Nat):Stmt:=l.getD i (.Pass ⟨0,0,0,0⟩)
def axF(s:Stmt):List Stmt:=match s with
 | .For _ _ b _ _=>b
 |_=>[]
def adD(s:Stmt):List Stmt:=match s with
 | .If _ b _ _=>b
 |_=>[]
def amO(s:Stmt):List Stmt:=match s with
 | .If _ _ b _=>b
 |_=>[]
def axD(s:Stmt):List Stmt:=match s with
 | .Try b _ _ _ _=>b
 |_=>[]
theorem avr{A B:Prop}(h:A):if decide (V.non=V.non)=true then A else B:=by rw[if_pos (by decide)];exact h
theorem ahl{A B:Prop}{i:Int}(h:B):if decide (V.int i=V.non)=true then A else B:=by rw[if_neg (by simp)];exact h
theorem adG{X:Cx}{H:Hp}{Q:VK}{z:Str}{n:Int}(hn:intText? z=some n)(hl:z.length≤640)(q:Q (.int n) H):CL X (.type "int") [.str z] H Q:=by
 refine gJ (r:=λxs H Q=>∃z n,xs=[.str z]/\intText? z=some n/\z.length≤640/\Q (.int n) H) ?_ ⟨z,n,rfl,hn,hl,q⟩
 intro pins s σ H xs us Q I r h
 obtain⟨z,n,rfl,hn,hl,q⟩:=h
 obtain⟨u,rfl,ru⟩:=vals1 r
 obtain⟨t,rfl⟩:=ru
 exact W.KIN.call_text hn hl ⟨.int n,H,I.tok _,⟨_,rfl⟩,q⟩
def ayw(x:Str)(n:Int):Str:=⟨(List.replicate n.toNat x.cps).foldl (· ++ ·) #[]⟩
theorem Mz{X:Cx}{H:Hp}{Q:VK}{i:Int}(q:Q (.bl false) H):CL X (.builtin "isinstance") [V.int i,.ty "str"] H Q:=yI (mR.int _) (k:=false) (by rfl) q
theorem Jv{X:Cx}{H:Hp}{Q:VK}{i:Str}(q:Q (.bl true) H):CL X (.builtin "isinstance") [V.str i,.ty "str"] H Q:=yI (mR.str _) (k:=true) (by rfl) q
theorem wR{X:Cx}{H:Hp}{Q:VK}(q:Q (.bl false) H):CL X (.builtin "isinstance") [V.non,.ty "str"] H Q:=yI (mR.non) (k:=false) (by rfl) q
section
variable{X:Cx}{e:Expr}{es:List Expr}{σ:St}{H:Hp}{Q:VK}{pos p:Pos}
theorem afC(hg:Gl X "len")(hm:X.mg "len"=none)(he:starEach (e::es) X.env=(false,eval e X.env)::starEach es X.env)(hpl:(backTo pos (starEach es X.env)).any (·.1)=false)(h:EA X (e::es) σ H λvs H1=>CL X (.builtin "len") vs H1 Q):EV X (.Call (.Name "len" p) (e::es) [] pos) σ H Q:=oh hg hm PySem.boot_len (by decide) (by decide) he hpl h
theorem zT(hg:Gl X "isinstance")(hm:X.mg "isinstance"=none)(he:starEach (e::es) X.env=(false,eval e X.env)::starEach es X.env)(hpl:(backTo pos (starEach es X.env)).any (·.1)=false)(h:EA X (e::es) σ H λvs H1=>CL X (.builtin "isinstance") vs H1 Q):EV X (.Call (.Name "isinstance" p) (e::es) [] pos) σ H Q:=oh hg hm PyProof.Rows.boot_isinstance (by decide) (by decide) he hpl h
theorem ad8(hg:Gl X "all")(hm:X.mg "all"=none)(he:starEach (e::es) X.env=(false,eval e X.env)::starEach es X.env)(hpl:(backTo pos (starEach es X.env)).any (·.1)=false)(h:EA X (e::es) σ H λvs H1=>CL X (.builtin "all") vs H1 Q):EV X (.Call (.Name "all" p) (e::es) [] pos) σ H Q:=oh hg hm PyProof.Rows.boot_all (by decide) (by decide) he hpl h
theorem ags(hg:Gl X "min")(hm:X.mg "min"=none)(he:starEach (e::es) X.env=(false,eval e X.env)::starEach es X.env)(hpl:(backTo pos (starEach es X.env)).any (·.1)=false)(h:EA X (e::es) σ H λvs H1=>CL X (.builtin "min") vs H1 Q):EV X (.Call (.Name "min" p) (e::es) [] pos) σ H Q:=oh hg hm PyProof.Rows.boot_min (by decide) (by decide) he hpl h
theorem adS(hg:Gl X "ord")(hm:X.mg "ord"=none)(he:starEach (e::es) X.env=(false,eval e X.env)::starEach es X.env)(hpl:(backTo pos (starEach es X.env)).any (·.1)=false)(h:EA X (e::es) σ H λvs H1=>CL X (.builtin "ord") vs H1 Q):EV X (.Call (.Name "ord" p) (e::es) [] pos) σ H Q:=oh hg hm PyProof.Rows.boot_ord (by decide) (by decide) he hpl h
theorem acM(hg:Gl X "str")(hm:X.mg "str"=none)(he:starEach (e::es) X.env=(false,eval e X.env)::starEach es X.env)(hpl:(backTo pos (starEach es X.env)).any (·.1)=false)(h:EA X (e::es) σ H λvs H1=>CL X (.type "str") vs H1 Q):EV X (.Call (.Name "str" p) (e::es) [] pos) σ H Q:=oJ hg hm PyProof.Rows.boot_str (by decide) (by decide) he hpl h
theorem Y5(hg:Gl X "list")(hm:X.mg "list"=none)(he:starEach (e::es) X.env=(false,eval e X.env)::starEach es X.env)(hpl:(backTo pos (starEach es X.env)).any (·.1)=false)(h:EA X (e::es) σ H λvs H1=>CL X (.type "list") vs H1 Q):EV X (.Call (.Name "list" p) (e::es) [] pos) σ H Q:=oJ hg hm PyProof.Rows.boot_list (by decide) (by decide) he hpl h
theorem adp(hg:Gl X "int")(hm:X.mg "int"=none)(he:starEach (e::es) X.env=(false,eval e X.env)::starEach es X.env)(hpl:(backTo pos (starEach es X.env)).any (·.1)=false)(h:EA X (e::es) σ H λvs H1=>CL X (.type "int") vs H1 Q):EV X (.Call (.Name "int" p) (e::es) [] pos) σ H Q:=oJ hg hm PyProof.Rows.boot_int (by decide) (by decide) he hpl h
theorem agT(hg:Gl X "set")(hm:X.mg "set"=none)(he:starEach (e::es) X.env=(false,eval e X.env)::starEach es X.env)(hpl:(backTo pos (starEach es X.env)).any (·.1)=false)(h:EA X (e::es) σ H λvs H1=>CL X (.type "set") vs H1 Q):EV X (.Call (.Name "set" p) (e::es) [] pos) σ H Q:=oJ hg hm PyProof.Rows.boot_set (by decide) (by decide) he hpl h
theorem ty_str(hg:Gl X "str")(hm:X.mg "str"=none)(q:Q (.ty "str") H):EV X (.Name "str" pos) σ H Q:=aa7 hg hm PyProof.Rows.boot_str q (by decide) (by decide)
end
section
variable{X:Cx}{pins:List (Addr×Obj)}{σ:St}{H:Hp}{s:Shared}
theorem Inv.Ol{ch:List Addr}{T:Addr}{xs:List V}{us:List Value}{h':Heap}{tk:Nat}(I:Inv X pins σ H s)(hf:∀b∈ch,jZ X pins H b)(hT:s.heap.objs.size≤T)
  (k:∀b o,b∉ch->s.heap.get? b=some o->h'.get? b=some o) (hz:xs.length≤sizeLine) (rv:Vals xs us) (tp:IsTup h' T us.toArray):Inv X pins σ (upd H T (.tup xs)) {s with heap:=h',toks:=tk}:=by
 have nT:=I.hok.fresh hT
 have neT:∀b o,s.heap.get? b=some o->b≠T:=λb o e z=>Nat.lt_irrefl _ (Nat.lt_of_lt_of_le (Heap.lt_size e) (z▸hT))
 have nch:∀b u,H b=some u->b∉ch:=λb u e z=>by rw[(hf b z).1]at e;cases e
 refine I.call (g':=s.gens) (d':=s.drawn) (t':=tk) (ch:=ch) (h':=h') ⟨λb o e _ _ hx=>k b o hx e,λb o e _ _ hx=>⟨o.slots,k b o hx e⟩,λb o e n _=>?_,λb o e hx=>⟨o,k b o hx e⟩,λb ys e=>?_,λb o u e=>?_,λb ps e=>⟨#[],?_⟩⟩ ?_ I.bare
  λb hb=>⟨(hf b hb).2.2.2.1,(hf b hb).2.1,(hf b hb).2.2.2.2.1,(hf b hb).2.2.2.2.2⟩
 .rw[aB (neT b o e)];exact n
 .rw[aB (au e nT)];exact e
 .rw[aB (au e nT)];exact e
 .rw[aB (au e nT),e];simp
 .intro b u e
  by_cases hb:b=T
  .subst hb
   rw[ao]at e
   cases e
   exact⟨hz,us,rv,tp⟩
  .rw[aB hb]at e
   refine(I.hok b u e).stay (λc v hc q=>k c v ?_ q) (λc q=>by rw[aB (au q nT)];exact q) λc ys q=>by rw[aB (au q nT)];exact q
   rcases hc with z |z
   .subst z;exact nch c u e
   .exact nch c _ z
end
def Ite(K:W.Frag)(l:Addr):It:=
 ⟨λi H=>∃xs x,bf K H l xs/\xs[i]? =some x,λi H v H'=>∃T x,v= .ref T/\H T=none/\H'=upd H T (.tup [.int i,x])/\∀xs,bf K H l xs->xs[i]? =some x,λi H=>∃xs,bf K H l xs/\xs.length≤i⟩
theorem Qw{P:Program}{w:World}{K:PySem.W.Frag}{elts:List Expr}{k:Nat}{pos:Pos}(l e it:Addr)(hei:e≠it)(hle:l≠e)(hli:l≠it):
  Turn P w K (.Tuple elts k pos) (Ite K l) [e,it] e (λi h=>(∃old,IsEnum h e it i old)/\h.IsListIter it l i)where
 mem:=by simp
 obj:=λi h st b hb=>by
  obtain⟨⟨old,he⟩,o,ho,_,hd⟩:=st
  rcases List.mem_cons.mp hb with z |z
  .subst z;exact⟨_,he,λv z=>by cases z⟩
  .have z':b=it:=by simpa using z
   subst z'
   exact⟨o,ho,λv z=>by rw[hd]at z;cases z⟩
 keep:=λi h h' st kk=>by
  obtain⟨⟨old,he⟩,o,ho,r⟩:=st
  exact⟨⟨old,kk e (by simp) _ he⟩,o,kk it (by simp) _ ho,r⟩
 item:=by
  intro X hP hw hK hc i pins s σ H E I hf st hg
  subst hP hw hK
  obtain⟨⟨old,he⟩,hit⟩:=st
  obtain⟨xs,x,hS,hx⟩:=hg
  obtain⟨its,rv,pl,hz⟩:=I.list hS
  have W:=WalksT.enumerate (prog:=X.prog) (w:=X.w) (A:=X.A) (I.ok.hd hc) e it l hei hle hli its.toArray
  have hi:i<its.toArray.size:=by
   rw[List.size_toArray, <-rv.length]
   exact(List.getElem?_eq_some_iff.mp hx).1
  obtain⟨u,hu,ru⟩:=rv.get hx
  refine W.item i s _ _ hi ⟨⟨old,he⟩,hit,pl.isList⟩ λT vals h1 tk hp hT tup mid keep=>⟨.ref T,rfl,?_⟩
  obtain⟨t,y,ey,rfl⟩:=hp
  have euy:y=u:=by
   have :its[i]? =some y:=by simpa using ey
   rw[hu]at this
   exact(Option.some.inj this).symm
  subst euy
  refine W.go elts k pos i T {s with heap:=h1,toks:=tk} _ _ mid λh2 st2 Hl=>?_
  obtain⟨⟨avM,he2⟩,hit2,_⟩:=st2
  have agh:IsTup h2 T [Value.int i t,y].toArray:=by
   obtain⟨o,ho,r⟩:=tup
   exact⟨o,Hl T o (W.apart i T h1 mid) ho,r⟩
  refine⟨.ref T,upd H T (.tup [.int i,x]),I.Ol (ch:=[e,it]) (tk:=tk) hf hT (λb o hb q=>Hl b o hb (keep b o hb q)) (by show 2≤sizeLine;rw[sizeLine_eq];decide) (.cons ⟨t,rfl⟩ (.cons ru .nil)) agh,rfl,?_,?_,λb hb=>?_⟩
  .refine⟨T,x,rfl,I.hok.fresh hT,rfl,λys hy=>?_⟩
   rw[<-I.list_inj hS hy]
   exact hx
  .exact⟨⟨avM,by simpa using he2⟩,hit2⟩
  .have :b≠T:=λz=>by
    obtain⟨o,ho,_⟩:∃o,s.heap.get? b=some o/\True:=by
     rcases List.mem_cons.mp hb with z |z
     .subst z;exact⟨_,he,trivial⟩
     .have z':b=it:=by simpa using z
      subst z'
      obtain⟨o,ho,_⟩:=hit
      exact⟨o,ho,trivial⟩
    exact Nat.lt_irrefl _ (Nat.lt_of_lt_of_le (Heap.lt_size ho) (z▸hT))
   rw[aB this]
   exact(hf b hb).1
 done:=by
  intro X hP hw hK hc i pins s σ H E I hf st hg
  subst hP hw hK
  obtain⟨⟨old,he⟩,hit⟩:=st
  obtain⟨xs,hS,hx⟩:=hg
  obtain⟨its,rv,pl,hz⟩:=I.list hS
  have hn:its.toArray[i]? =none:=Array.getElem?_eq_none (by rw[List.size_toArray, <-rv.length];exact hx)
  refine wpAny_pyNext_enum_end (I.ok.hd hc) he hit pl.isList hn λh' hk=>⟨rfl,?_⟩
  obtain⟨f0,f1,f2,f3,f4,f5⟩:=hf it (by simp)
  exact I.turned (t':=s.toks) (it:=it) (λb o hb q=>hk b o hb q) f0 f1 f3 f4 f5
 self:=λA i s Q E st h=>by
  obtain⟨⟨old,he⟩,_⟩:=st
  exact wpAny_pyIter_enum he h
section
variable{X:Cx}{σ:St}{H:Hp}{a b:Expr}{elts:List Expr}{k:Nat}{tp p pos:Pos}{R:It->Hp->Prop}
theorem aaj(hg:Gl X "enumerate")(hm:X.mg "enumerate"=none)(hs:starEach [a] X.env=[(false,eval a X.env)])
  (h:EV X a σ H λv H1=>∃l xs,v= .ref l/\H1 l=some (.lst xs)/\R (Ite X.K l) H1):EI X (.Tuple elts k tp) (.Call (.Name "enumerate" p) [a] [] pos) σ H R:=by
 intro pins s I
 refine Call_ (qQ I hg hm boot_enumerate (PyProof.Rows.callWith_type1 (cU (iT (es:=[]) (QA:=λvs H1=>∃l xs,vs=[.ref l]/\H1 l=some (.lst xs)/\R (Ite X.K l) H1) hs (bC h λv H1 ⟨l,xs,e,q1,q2⟩=>j7 ⟨l,xs,by rw[e],q1,q2⟩) pos pins s I) λus s1 ⟨vs,H1,I1,r1,l,xs,e,hl,q⟩=>?_) hs rfl))
 subst e
 obtain⟨u,rfl,ru⟩:=vals1 r1
 cases(show u=Value.ref l from ru)
 obtain⟨hz,its,n,rv,ho⟩:=I1.hok l _ hl
 refine call_enumerate_1 ho λh' he hit hsz hk=>?_
 refine wpAny_pyIter_enum he ?_
 have hlt:l<s1.heap.objs.size:=Heap.lt_size ho
 refine⟨s1.heap.objs.size+1,[s1.heap.objs.size+1,s1.heap.objs.size],_,_,H1,rfl,I1.kept (t':=s1.toks) hk,Qw l _ _ (Nat.succ_ne_self _) (Nat.ne_of_lt (Nat.lt_succ_of_lt hlt)) (Nat.ne_of_lt hlt),⟨⟨_,he⟩,hit⟩,λb hb=>?_,q⟩
 have hb':b=s1.heap.objs.size+1\/b=s1.heap.objs.size:=by simpa using hb
 rcases hb' with z |z<;>subst z
 .exact I1.fpOk (Nat.le_succ _) (I1.hok.fresh (Nat.le_succ _))
 .exact I1.fpOk (Nat.le_refl _) (I1.hok.fresh (Nat.le_refl _))
end
section
variable{X:Cx}{pins:List (Addr×Obj)}{σ:St}{H:Hp}{s:Shared}
theorem Inv.Zv{ch:List Addr}{h':Heap}{tk:Nat}(I:Inv X pins σ H s)(hf:∀b∈ch,jZ X pins H b)
  (k:∀b o,b∉ch->s.heap.get? b=some o->h'.get? b=some o):Inv X pins σ H {s with heap:=h',toks:=tk}:=by
 have nch:∀b u,H b=some u->b∉ch:=λb u e z=>by rw[(hf b z).1]at e;cases e
 refine I.call (g':=s.gens) (d':=s.drawn) (t':=tk) (ch:=ch) (h':=h') ⟨λb o e _ _ hx=>k b o hx e,λb o e _ _ hx=>⟨o.slots,k b o hx e⟩,λb o e n _=>n,λb o e hx=>⟨o,k b o hx e⟩,λb ys e=>e,λb o u e=>e,λb ps e=>⟨#[],?_⟩⟩ ?_ I.bare
  λb hb=>⟨(hf b hb).2.2.2.1,(hf b hb).2.1,(hf b hb).2.2.2.2.1,(hf b hb).2.2.2.2.2⟩
 .rw[e];simp
 .intro b u e
  refine(I.hok b u e).stay (λc v hc q=>k c v ?_ q) (λc q=>q) λc ys q=>q
  rcases hc with z |z
  .subst z;exact nch c u e
  .exact nch c _ z
end
def Itz(K:W.Frag)(l m:Addr):It:=
 ⟨λi H=>∃xs ys x y,bf K H l xs/\bf K H m ys/\xs[i]? =some x/\ys[i]? =some y,
  λi H v H'=>∃T x y,v= .ref T/\H T=none/\H'=upd H T (.tup [x,y])/\(∀xs,bf K H l xs->xs[i]? =some x)/\∀ys,bf K H m ys->ys[i]? =some y,
  λi H=>∃xs ys,bf K H l xs/\bf K H m ys/\min xs.length ys.length≤i⟩
theorem Uk{P:Program}{w:World}{K:PySem.W.Frag}{elts:List Expr}{k:Nat}{pos:Pos}(z TI TO i1 i2 l m:Addr)(D:ZipApart z TI TO i1 i2 l m):
  Turn P w K (.Tuple elts k pos) (Itz K l m) [z,TI,TO,i1,i2] z (λi h=>IsZip h z TI TO .none/\IsPair h TI (.ref i1) (.ref i2)/\(∃a b,IsPair h TO a b)/\h.IsListIter i1 l i/\h.IsListIter i2 m i)where
 mem:=by simp
 obj:=λi h st b hb=>by
  obtain⟨hz,hTI,⟨a,a',hTO⟩,⟨o1,h1,_,d1⟩,⟨o2,h2,_,d2⟩⟩:=st
  simp only[List.mem_cons,List.not_mem_nil,or_false]at hb
  rcases hb with e |e |e |e |e<;>subst e
  .exact⟨_,hz,λv z=>by cases z⟩
  .exact⟨_,hTI,λv z=>by cases z⟩
  .exact⟨_,hTO,λv z=>by cases z⟩
  .exact⟨_,h1,λv z=>by rw[d1]at z;cases z⟩
  .exact⟨_,h2,λv z=>by rw[d2]at z;cases z⟩
 keep:=λi h h' st kk=>by
  obtain⟨hz,hTI,⟨a,a',hTO⟩,⟨o1,h1,r1⟩,⟨o2,h2,r2⟩⟩:=st
  exact⟨kk z (by simp) _ hz,kk TI (by simp) _ hTI,⟨a,a',kk TO (by simp) _ hTO⟩,⟨o1,kk i1 (by simp) _ h1,r1⟩,⟨o2,kk i2 (by simp) _ h2,r2⟩⟩
 item:=by
  intro X hP hw hK hc i pins s σ H E I hf st hg
  subst hP hw hK
  obtain⟨hz,hTI,hTO,h1,h2⟩:=st
  obtain⟨xs,ys,x,y,hS,hS',hx,hy⟩:=hg
  obtain⟨its,rv,pl,hsz⟩:=I.list hS
  obtain⟨its',rv',pl',hsz'⟩:=I.list hS'
  have W:=WalksT.zip2 (prog:=X.prog) (w:=X.w) (A:=X.A) (I.ok.hd hc) z TI TO i1 i2 l m D its.toArray its'.toArray
  have hi:i<min its.toArray.size its'.toArray.size:=by
   rw[List.size_toArray, <-rv.length,List.size_toArray, <-rv'.length]
   exact Nat.lt_min.mpr ⟨(List.getElem?_eq_some_iff.mp hx).1,(List.getElem?_eq_some_iff.mp hy).1⟩
  obtain⟨u,hu,ru⟩:=rv.get hx
  obtain⟨u',hu',ru'⟩:=rv'.get hy
  refine W.item i s _ _ hi ⟨hz,hTI,hTO,h1,h2,pl.isList,pl'.isList⟩ λT vals hh tk hp hT tup mid keep=>⟨.ref T,rfl,?_⟩
  obtain⟨v,v',ev,ev',rfl⟩:=hp
  have e1:v=u:=by
   have :its[i]? =some v:=by simpa using ev
   rw[hu]at this
   exact(Option.some.inj this).symm
  have e2:v'=u':=by
   have :its'[i]? =some v':=by simpa using ev'
   rw[hu']at this
   exact(Option.some.inj this).symm
  subst e1 e2
  refine W.go elts k pos i T {s with heap:=hh,toks:=tk} _ _ mid λh3 st2 Hl=>?_
  obtain⟨gz,gTI,gTO,g1,g2,_⟩:=st2
  have nin:∀b,b∉[z,TI,TO,i1,i2]->b∉[z,TO,i1,i2]:=λb hb hb'=>hb (by simp at hb'⊢;rcases hb' with e |e |e |e<;>simp[e])
  have agh:IsTup h3 T [v,v'].toArray:=by
   obtain⟨o,ho,r⟩:=tup
   exact⟨o,Hl T o (W.apart i T hh mid) ho,r⟩
  refine⟨.ref T,upd H T (.tup [x,y]),I.Ol (ch:=[z,TI,TO,i1,i2]) (tk:=tk) hf hT (λb o hb q=>Hl b o (nin b hb) (keep b o (nin b hb) q)) (by show 2≤sizeLine;rw[sizeLine_eq];decide) (.cons ru (.cons ru' .nil)) agh,rfl,?_,⟨gz,gTI,gTO,g1,g2⟩,λb hb=>?_⟩
  .refine⟨T,x,y,rfl,I.hok.fresh hT,rfl,λa ha=>?_,λa ha=>?_⟩
   .rw[<-I.list_inj hS ha];exact hx
   .rw[<-I.list_inj hS' ha];exact hy
  .have :b≠T:=λq=>by
    obtain⟨o,ho⟩:∃o,s.heap.get? b=some o:=by
     obtain⟨a,a',hTO⟩:=hTO
     obtain⟨o1,h1,_⟩:=h1
     obtain⟨o2,h2,_⟩:=h2
     simp only[List.mem_cons,List.not_mem_nil,or_false]at hb
     rcases hb with e |e |e |e |e<;>subst e
     .exact⟨_,hz⟩
     .exact⟨_,hTI⟩
     .exact⟨_,hTO⟩
     .exact⟨_,h1⟩
     .exact⟨_,h2⟩
    exact Nat.lt_irrefl _ (Nat.lt_of_lt_of_le (Heap.lt_size ho) (q▸hT))
   rw[aB this]
   exact(hf b hb).1
 done:=by
  intro X hP hw hK hc i pins s σ H E I hf st hg
  subst hP hw hK
  obtain⟨hz,hTI,⟨a,b,hTO⟩,h1,h2⟩:=st
  obtain⟨xs,ys,hS,hS',hx⟩:=hg
  obtain⟨its,rv,pl,hsz⟩:=I.list hS
  obtain⟨its',rv',pl',hsz'⟩:=I.list hS'
  have hend:its.toArray[i]? =none\/its'.toArray[i]? =none:=by
   by_cases q:xs.length≤i
   .exact .inl (Array.getElem?_eq_none (by rw[List.size_toArray, <-rv.length];exact q))
   .exact .inr (Array.getElem?_eq_none (by rw[List.size_toArray, <-rv'.length];omega))
  refine wpAny_pyNext_zip_end (I.ok.hd hc) D hz hTI hTO h1 h2 pl.isList pl'.isList hend λh' hk=>⟨rfl,?_⟩
  exact I.Zv (tk:=s.toks) hf λb o hb q=>hk b o (λe=>hb (by simp[e])) (λe=>hb (by simp[e])) (λe=>hb (by simp[e])) (λe=>hb (by simp[e])) q
 self:=λA i s Q E st h=>wpAny_pyIter_zip st.1 h
theorem Wt(n l m:Nat)(h1:l<n)(h2:m<n):ZipApart (n+4) (n+2) (n+3) n (n+1) l m:=by
 constructor<;>(intro e;have e':(_:Nat)=_:=e;omega)
section
variable{X:Cx}{σ:St}{H:Hp}{a b:Expr}{elts:List Expr}{k:Nat}{tp p pos:Pos}{R:It->Hp->Prop}
theorem ac7(hg:Gl X "zip")(hm:X.mg "zip"=none)(hs:starEach [a,b] X.env=[(false,eval a X.env),(false,eval b X.env)])(hs2:starEach [b] X.env=[(false,eval b X.env)])
  (h:EV X a σ H λv H1=>EV X b σ H1 λv' H2=>∃l m xs ys,v= .ref l/\v'= .ref m/\H2 l=some (.lst xs)/\H2 m=some (.lst ys)/\R (Itz X.K l m) H2):EI X (.Tuple elts k tp) (.Call (.Name "zip" p) [a,b] [] pos) σ H R:=by
 intro pins s I
 refine Call_ (qQ I hg hm boot_zip (PyProof.Rows.callWith_type1 (cU (iT (es:=[b]) (QA:=λvs H1=>∃l m xs ys,vs=[.ref l,.ref m]/\H1 l=some (.lst xs)/\H1 m=some (.lst ys)/\R (Itz X.K l m) H1) (by rw[hs,hs2]) (bC h λv H1 q=>iT (es:=[]) hs2 (bC q λv' H2 ⟨l,m,xs,ys,e,e',q1,q2,q3⟩=>j7 ⟨l,m,xs,ys,by rw[e,e'],q1,q2,q3⟩)) pos pins s I) λus s1 ⟨vs,H1,I1,r1,l,m,xs,ys,e,hl,hm',q⟩=>?_) (by rw[hs,hs2]) (by rw[hs2];rfl)))
 subst e
 obtain⟨u,u',rfl,ru,ru'⟩:=vals2 r1
 cases(show u=Value.ref l from ru)
 cases(show u'=Value.ref m from ru')
 obtain⟨hz,its,n,rv,ho⟩:=I1.hok l _ hl
 obtain⟨hz',its',n',rv',ho'⟩:=I1.hok m _ hm'
 refine call_zip_2 (xs:=its.toArray) (ys:=its'.toArray) ⟨_,ho,rfl,_,rfl⟩ ⟨_,ho',rfl,_,rfl⟩ λh' h1 h2 h3 h4 h5 hsz hk=>?_
 refine wpAny_pyIter_zip h1 ?_
 refine⟨s1.heap.objs.size+4,[s1.heap.objs.size+4,s1.heap.objs.size+2,s1.heap.objs.size+3,s1.heap.objs.size,s1.heap.objs.size+1],_,_,H1,rfl,I1.kept (t':=s1.toks) hk,Uk _ _ _ _ _ l m (Wt _ _ _ (Heap.lt_size ho) (Heap.lt_size ho')),⟨h1,h2,⟨_,_,h3⟩,h4,h5⟩,λb hb=>?_,q⟩
 have hb':s1.heap.objs.size≤b:=by
  simp only[List.mem_cons,List.not_mem_nil,or_false]at hb
  rcases hb with e |e |e |e |e<;>subst e
  .exact Nat.le_add_right _ _
  .exact Nat.le_add_right _ _
  .exact Nat.le_add_right _ _
  .exact Nat.le_refl _
  .exact Nat.le_add_right _ _
 exact I1.fpOk hb' (I1.hok.fresh hb')
end
section
variable{X:Cx}{a e:Expr}{σ:St}{H:Hp}{Q:VK}{D:Ends}{pos p p':Pos}
theorem Wb{Y:Cx}{tg elt:Expr}{J:It}{E:Addr}{τ0:St}{Q:Hp->Prop}
  (n:Nat) (hn:n≤sizeLine) (Tp:St->Prop) (hT:Tp τ0) (Pi:Nat->V->Hp->Prop) (hE:H E=none)
  (mono:∀i v H1 H2 ys,H1 E=some (.lst ys)->(∀b o,b≠E->H1 b=some o->H2 b=some o)->Pi i v H1->Pi i v H2)
  (go:∀i H1,aq H H1->i<n->J.go i H1) (stop:∀H1,aq H H1->J.stop n H1)
  (step:∀i τ x H1 H2,i<n->Tp τ->aq H H1->(∃ys,H1 E=some (.lst ys))->J.yld i H1 x H2->EG Y tg x τ H2 λτ2 H3=>EV Y elt τ2 H3 λv H4=>Tp τ2/\Pi i v H4/\aq H1 H4)
  (fin:∀H1 xs,xs.length=n->(∀i v,xs[i]? =some v->Pi i v H1)->H1 E=some (.lst xs)->aq H H1->Q H1):mL X Y tg elt [] J E τ0 H Q:=by
 refine⟨λi m τ H1=>m=n-i/\i≤n/\aq H H1/\Tp τ/\∃xs,H1 E=some (.lst xs)/\xs.length=i/\∀k v,xs[k]? =some v->Pi k v H1,⟨n,by simp,Nat.zero_le _,aq.upd hE,hT,[],ao,rfl,λk v e=>by simp at e⟩,?_⟩
 rintro i m τ H1 ⟨rfl,hi,s1,hτ,xs,eE,lx,px⟩
 by_cases hlt:i<n
 .refine .inr ⟨go i H1 s1 hlt,λτ' H'=>aq H H'/\Tp τ'/\∃xs,H' E=some (.lst xs)/\xs.length=i+1/\∀k v,xs[k]? =some v->Pi k v H',λτ' H' ⟨a,b,c⟩=>⟨n-(i+1),by omega,rfl,hlt,a,b,c⟩,λx H2 y=>?_⟩
  intro pins s u I r
  refine cU (step i τ x H1 H2 hlt hτ s1 ⟨xs,eE⟩ y pins s u I r) λ_ s' ⟨τ2,H3,I3,q3⟩=>⟨τ2,H3,I3,yV ?_⟩
  rw[if_pos rfl]
  refine bC q3 λv H4 ⟨t2,pv,s2⟩=>⟨xs,s2 _ _ eE,by omega,?_⟩
  have mm:∀k w',Pi k w' H4->Pi k w' (upd H4 E (.lst (xs++[v]))):=λk w' q=>mono k w' H4 _ xs (s2 _ _ eE) (λb o hb e=>by rw[aB hb];exact e) q
  refine⟨λb o e=>?_,t2,xs++[v],ao,by simp[lx],λk u e=>?_⟩
  .rw[aB (au e hE)]
   exact s2 _ _ (s1 _ _ e)
  .by_cases hk:k<xs.length
   .rw[List.getElem?_append_left hk]at e
    refine mono k u H1 _ xs eE (λb o hb e=>?_) (px k u e)
    rw[aB hb]
    exact s2 _ _ e
   .have hk2:k=i:=by
     have :=(List.getElem?_eq_some_iff.mp e).1
     rw[List.length_append,List.length_singleton]at this
     omega
    subst hk2
    rw[<-lx,List.getElem?_concat_length]at e
    cases e
    exact mm _ _ pv
 .have e:i=n:=by omega
  subst e
  exact .inl ⟨stop H1 s1,fin H1 xs lx px eE s1⟩
variable{tg elt iter:Expr}{scope:Scope}{σ':St}
def Ib(X:Cx)(N':List Str)(scope:Scope)(tg elt:Expr)(σ':St)(H1:Hp)(Q:VK)(n:Nat)(G:Nat->Hp->V->Hp->Prop):Prop:=
 ∃(Tp:St->Prop) (Pi:Addr->Nat->V->Hp->Prop),Tp σ'/\
  (∀E i v H2 H3 ys,H2 E=some (.lst ys)->(∀b o,b≠E->H2 b=some o->H3 b=some o)->Pi E i v H2->Pi E i v H3)/\
  (∀(fp:List Addr) (E C:Addr) (s3:Shared) (H0:Hp) (i:Nat) (τ:St) (x:V) (H2 H3:Hp),H1 E=none->i<n->Tp τ->aq H1 H2->(∃ys,H2 E=some (.lst ys))->G i H2 x H3->
   EG (z9 X N' scope (bV scope X.env) C s3 H0 fp) tg x τ H3 λτ2 H4=>EV (z9 X N' scope (bV scope X.env) C s3 H0 fp) elt τ2 H4 λv H5=>Tp τ2/\Pi E i v H5/\aq H2 H5)/\
  ∀(E:Addr) (H2:Hp) (xs:List V),H1 E=none->xs.length=n->(∀i v,xs[i]? =some v->Pi E i v H2)->H2 E=some (.lst xs)->aq H1 H2->Q (.ref E) H2
theorem M8{N':List Str}{J:It}{n:Nat}{G:Nat->Hp->V->Hp->Prop}(hn:n≤sizeLine)(go:∀i H2,aq H H2->i<n->J.go i H2)(stop:∀H2,aq H H2->J.stop n H2)
  (yl:∀i H2 x H3,i<n->aq H H2->J.yld i H2 x H3->G i H2 x H3) (h:Ib X N' scope tg elt σ' H Q n G):
  ∀(fp:List Addr) (D C:Addr) (s3:Shared),H D=none->mL X (z9 X N' scope (bV scope X.env) C s3 (upd H D (.lst [])) fp) tg elt [] J D σ' H (λH'=>Q (.ref D) H'):=by
 intro fp E C s3 hE
 obtain⟨Tp,Pi,t0,mono,step,fin⟩:=h
 exact Wb n hn Tp t0 (Pi E) hE (λi v H1 H2 ys=>mono E i v H1 H2 ys) go stop (λi τ x H1 H2 hi ht hs hy y=>step fp E C s3 _ i τ x H1 H2 hE hi ht hs hy (yl i H1 x H2 hi hs y)) λH1 xs l px eE s=>fin E H1 xs hE l px eE s
theorem yx(N':List Str)(hσ:fO N' X.N σ scope=σ')(hc:X.calm=true)(S:dh X.env scope)(hs:∀x,foldedSetIterable e X.env x=pure x)
  (h:EV X e σ H λv H1=>∃l xs,v= .ref l/\bf X.K H1 l xs/\xs.length≤sizeLine/\Ib X N' scope tg elt σ' H1 Q xs.length λi H2 x H3=>xs[i]? =some x/\H2=H3):
  EV X (.ListComp elt [⟨tg,e,[],0⟩] scope pos) σ H Q:=by
 refine tL (N':=N') hc S hs (rW (bC h λv H1 q=>?_))
 obtain⟨l,xs,rfl,hl,hz,hw⟩:=q
 refine⟨l,rfl,⟨xs,hl⟩,?_⟩
 rw[hσ]
 refine M8 hz (λi H2 s hi=>⟨xs,xs[i],aq.seq s hl,List.getElem?_eq_getElem hi⟩) (λH2 s=>⟨xs,aq.seq s hl,Nat.le_refl _⟩) (λi H2 x H3 hi s y=>⟨y.2 xs (aq.seq s hl),y.1.symm⟩) hw
theorem Ri(N':List Str)(hσ:fO N' X.N σ scope=σ')(hc:X.calm=true)(S:dh X.env scope)
  (hg:Gl X "range") (hm:X.mg "range"=none) (hs:starEach [a] X.env=[(false,eval a X.env)])
  (h:EV X a σ H λv H1=>∃n:Int,v= .int n/\ -(2^62)≤n/\n.toNat≤sizeLine/\Ib X N' scope tg elt σ' H1 Q n.toNat λi H2 x H3=>x= .int i/\H2=H3):
  EV X (.ListComp elt [⟨tg,.Call (.Name "range" p) [a] [] p',[],0⟩] scope pos) σ H Q:=by
 refine tL (N':=N') hc S (by intro _;rfl) (uL hg hm hs (iT hs (bC h λv H1 q=>?_)))
 obtain⟨n,rfl,h1,h2,hw⟩:=q
 have hsz:(sizeLine:Nat)<2^62:=by rw[sizeLine_eq];decide
 refine j7 ⟨n,rfl,h1,by omega,?_⟩
 rw[hσ]
 exact M8 h2 (λi H2 s hi=>hi) (λH2 s=>Nat.le_refl _) (λi H2 x H3 hi s y=>⟨by rw[y.2,Int.zero_add],y.1.symm⟩) hw
theorem Ui{b:Expr}{elts:List Expr}{k:Nat}{tp:Pos}(N':List Str)(hσ:fO N' X.N σ scope=σ')(hc:X.calm=true)(S:dh X.env scope)
  (hg:Gl X "zip") (hm:X.mg "zip"=none) (hs:starEach [a,b] X.env=[(false,eval a X.env),(false,eval b X.env)]) (hs2:starEach [b] X.env=[(false,eval b X.env)])
  (h:EV X a σ H λv H1=>EV X b σ H1 λv' H2=>∃l m xs ys,v= .ref l/\v'= .ref m/\H2 l=some (.lst xs)/\H2 m=some (.lst ys)/\min xs.length ys.length≤sizeLine/\
   Ib X N' scope (.Tuple elts k tp) elt σ' H2 Q (min xs.length ys.length) λi H3 x H4=>∃T y z,x= .ref T/\H3 T=none/\H4=upd H3 T (.tup [y,z])/\xs[i]? =some y/\ys[i]? =some z):
  EV X (.ListComp elt [⟨.Tuple elts k tp,.Call (.Name "zip" p) [a,b] [] p',[],0⟩] scope pos) σ H Q:=by
 refine tL (N':=N') hc S (by intro _;rfl) (ac7 hg hm hs hs2 (bC h λv H1 q=>bC q λv' H2 q=>?_))
 obtain⟨l,m,xs,ys,e1,e2,hl,hm',h2,hw⟩:=q
 refine⟨l,m,xs,ys,e1,e2,hl,hm',?_⟩
 rw[hσ]
 have S1:bf X.K H2 l xs:=.inl (.inl hl)
 have S2:bf X.K H2 m ys:=.inl (.inl hm')
 refine M8 h2 (λi H3 s hi=>⟨xs,ys,xs[i]'(by omega),ys[i]'(by omega),aq.seq s S1,aq.seq s S2,List.getElem?_eq_getElem _,List.getElem?_eq_getElem _⟩) (λH3 s=>⟨xs,ys,aq.seq s S1,aq.seq s S2,Nat.le_refl _⟩) (λi H3 x H4 hi s y=>?_) hw
 obtain⟨T,u,u',a1,a2,a3,a4,a5⟩:=y
 exact⟨T,u,u',a1,a2,a3,a4 xs (aq.seq s S1),a5 ys (aq.seq s S2)⟩
theorem ZM{elts:List Expr}{k:Nat}{tp:Pos}{body:List Stmt}(hp:PassesOwn (model X.prog X.w) X.A X.env X.xe)(hc:X.calm=true)(hg:Gl X "enumerate")(hm:X.mg "enumerate"=none)(hs:starEach [a] X.env=[(false,eval a X.env)])
  (h:EV X a σ H λv H1=>∃l xs,v= .ref l/\H1 l=some (.lst xs)/\∃Pv:Nat->St->Hp->Prop,Pv 0 σ H1/\(∀i σ' H',i≤xs.length->Pv i σ' H'->bf X.K H' l xs)/\
   (∀i x T σ' H',xs[i]? =some x->Pv i σ' H'->H' T=none->EG X (.Tuple elts k tp) (.ref T) σ' (upd H' T (.tup [.int i,x])) λσ2 H2=>lB X body {D with nx:=Pv (i+1),ct:=Pv (i+1),bk:=D.nx} σ2 H2)/\∀σ' H',Pv xs.length σ' H'->D.nx σ' H'):
  SX X (.For (.Tuple elts k tp) (.Call (.Name "enumerate" p) [a] [] p') body [] pos) D σ H:=by
 refine u6 hp hc (by intro _;rfl) (aaj hg hm hs (bC h λv H1 q=>?_))
 obtain⟨l,xs,rfl,hq,Pv,h0,hl,hst,hd⟩:=q
 refine⟨l,xs,rfl,hq,λi m σ H=>m=xs.length-i/\i≤xs.length/\Pv i σ H,⟨xs.length,by simp,Nat.zero_le _,h0⟩,?_⟩
 rintro i m σ' H' ⟨rfl,hi,p⟩
 have hS:=hl i σ' H' hi p
 by_cases hlt:i<xs.length
 .refine .inr ⟨⟨xs,xs[i],hS,List.getElem?_eq_getElem hlt⟩,Pv (i+1),λσ2 H2 p2=>⟨xs.length-(i+1),by omega,rfl,hlt,p2⟩,λx H2 y=>?_⟩
  obtain⟨T,u,e1,e2,e3,e4⟩:=y
  subst e1 e3
  exact hst i u T σ' H' (e4 xs hS) p e2
 .have e:i=xs.length:=by omega
  subst e
  exact .inl ⟨⟨xs,hS,Nat.le_refl _⟩,hd σ' H' p⟩
end
section
variable{Kt:Type} [DecidableEq Kt] [BEq Kt] [LawfulBEq Kt]
def jr(ks:List Kt):List Kt:=ks.foldl (λa k=>if k∈a then a else a++[k]) []
theorem jz(ks:List Kt)(k:Kt):jr (ks++[k])=if k∈jr ks then jr ks else jr ks++[k]:=by
 unfold jr
 rw[List.foldl_append]
 rfl
theorem sZ:∀n (ks:List Kt),ks.length=n->(jr ks).length≤ks.length
 |0,ks,h=>by rw[List.length_eq_zero_iff.mp h];exact Nat.le_refl _
 |n+1,ks,h=>by
  obtain⟨l,k,rfl⟩:∃l k,ks=l++[k]:=⟨_,_,(List.dropLast_concat_getLast (List.ne_nil_of_length_eq_add_one h)).symm⟩
  have hl:l.length=n:=by simpa using h
  have ih:=sZ n l hl
  rw[jz]
  split <;>simp <;>omega
theorem Bc:∀n (ks:List Kt),ks.length=n->∀k,k∈jr ks↔k∈ks
 |0,ks,h=>by rw[List.length_eq_zero_iff.mp h];intro k;exact Iff.rfl
 |n+1,ks,h=>by
  obtain⟨l,x,rfl⟩:∃l k,ks=l++[k]:=⟨_,_,(List.dropLast_concat_getLast (List.ne_nil_of_length_eq_add_one h)).symm⟩
  have hl:l.length=n:=by simpa using h
  have ih:=Bc n l hl
  intro k
  rw[jz,List.mem_append,List.mem_singleton]
  split
  .rename_i hx
   rw[ih]
   constructor
   .exact .inl
   .rintro(e |e)
    .exact e
    .rw[e];exact(ih x).mp hx
  .rw[List.mem_append,List.mem_singleton,ih]
theorem yQ:∀n (ks:List Kt),ks.length=n->((jr ks).length=ks.length↔ks.Nodup)
 |0,ks,h=>by rw[List.length_eq_zero_iff.mp h];simp[jr]
 |n+1,ks,h=>by
  obtain⟨l,x,rfl⟩:∃l k,ks=l++[k]:=⟨_,_,(List.dropLast_concat_getLast (List.ne_nil_of_length_eq_add_one h)).symm⟩
  have hl:l.length=n:=by simpa using h
  have ih:=yQ n l hl
  have le:=sZ n l hl
  have me:=Bc n l hl x
  rw[jz,List.nodup_append]
  split
  .rename_i hx
   constructor
   .intro e;simp at e;omega
   .intro e;exact absurd rfl (e.2.2 x (me.mp hx) x (by simp))
  .rename_i hx
   rw[List.length_append,List.length_append,List.length_singleton]
   constructor
   .intro e
    refine⟨ih.mp (by omega),by simp,λa ha b hb=>?_⟩
    rw[List.mem_singleton.mp hb]
    intro e'
    exact hx (me.mpr (e'▸ha))
   .intro e
    rw[ih.mpr e.1]
end
section
variable{prog:Program}{w:World}{A:Around}{E:Value->Shared->Prop}{s:Shared}{zs:List Str}{us:Array Value}
def strAt(us:Array Value)(zs:List Str):Prop:=∀(i:Nat) (v:Value),us[i]? =some v->∃t z,v= .str z t/\zs[i]? =some z
def X6(prog:Program)(w:World)(h:Heap)(S:Addr)(zs:List Str):Prop:=h.SetOf (strKind prog w) S (λk=>decide (k∈jr zs)) (jr zs).length
theorem X6.stay{h h':Heap}{S:Addr}(x:X6 prog w h S zs)(k:∀o,h.get? S=some o->h'.get? S=some o):X6 prog w h' S zs:=by
 obtain⟨o,es,ep,t,ho,rest⟩:=x
 exact⟨o,es,ep,t,k _ ho,rest⟩
theorem S5{R:Result->Shared->Prop}{it:Addr}{fp wr:List Addr}{G:Array GenState->Array GenState->Prop}{St:Nat->Shared->Prop}
  (W:WalksS prog w A.in1 it fp wr G us.size (λi v=>us[i]? =some v) St) (S:Addr) (hS:S∉fp) (hz:strAt us zs) (hl:us.size=zs.length) (hb:us.size+1<scanBound) (d:Nat):
  ∀(i:Nat) (s:Shared),d+i=us.size->St i s->X6 prog w s.heap S (zs.take i)->
   (∀s',Moved (S::wr) G s s'->X6 prog w s'.heap S zs->R (.ok (.ret .none)) s')->codeAny (model prog w) A (.builtin "set.update.loop" ⟨[.ref S,.ref it],[]⟩) R s:=by
 have hSw:S∉wr:=λh=>hS (W.sub _ h)
 have up:∀b∈wr,b∈S::wr:=λb hb=>List.mem_cons_of_mem _ hb
 induction d with
 |zero=>
  intro i s hi st ts hR
  have e:i=us.size:=by omega
  subst e
  refine codeAny_builtin F.entry_set_update_loop ?_
  rw[Around.under_plainId F.plain_set_update_loop _]
  refine wpAny_bind (m:=pyNext (.ref it)) (W.done s _ _ st λs' hm=>?_)
  refine wpAny_pure (hR s' (hm.mono up) ?_)
  rw[hl,List.take_length]at ts
  exact ts.stay λo ho=>hm.heap S o hSw ho
 |succ d ih=>
  intro i s hi st ts hR
  refine codeAny_builtin F.entry_set_update_loop ?_
  rw[Around.under_plainId F.plain_set_update_loop _]
  refine wpAny_bind (m:=pyNext (.ref it)) (W.item i s _ _ (by omega) st λv s' hv st' hm=>?_)
  obtain⟨t,z,rfl,ez⟩:=hz i v hv
  have ts':=ts.stay (h':=s'.heap) λo ho=>hm.heap S o hSw ho
  show wpAny _ A.in1 (holding [Value.str z t] (setAdd S (.str z t))>>=_) _ _ s'
  refine wpAny_bind (wpAny_holding ?_)
  unfold setAdd
  refine wpAny_holding (wpAny_bind ((strKind prog w).pyHash (k:=z) (strKind_is _ _ _ _) ?_))
  have et:zs.take (i+1)=zs.take i++[z]:=by rw[List.take_add_one,ez];rfl
  have room:(jr (zs.take i)).length+1<scanBound:=by
   have :=sZ _ (zs.take i) rfl
   have :(zs.take i).length≤zs.length:=by simp;omega
   omega
  refine wpAny_setAddHashed_of (knd:=strKind prog w) (s:={s' with toks:=s'.toks+1}) (strKind_is _ _ _ _) rfl ts' room λh' sb ts2=>?_
  have ts3:X6 prog w h' S (zs.take (i+1)):=by
   refine SetOf_congr ts2 (λk=>?_) ?_
   .rw[et,jz]
    split
    .rename_i hk
     by_cases e:k=z
     .subst e;simp[hk]
     .simp[e]
    .by_cases e:k=z
     .subst e;simp
     .simp[e]
   .rw[et,jz]
    by_cases hk:z∈jr (zs.take i)
    .simp[hk]
    .simp[hk]
  refine wpAny_pure ⟨plainId_quiet F.plain_set_update_loop _,ih (i+1) _ (by omega) (W.frame _ s' _ _ st' (Nat.le_succ _) λb hb o e=>?_) ts3 λs2 hm2 ts4=>?_⟩
  .rw[sb.2 b (λh:b=S=>hS (h▸hb))];exact e
  .refine hR s2 (Moved.trans W.gtrans ((hm.mono up).then_heap (Nat.le_succ _) λb o hb e=>?_) hm2) ts4
   rw[sb.2 b (λh:b=S=>hb (h▸List.mem_cons_self))];exact e
abbrev newSet(h:Heap)(led:Bool):Heap:=h.push {cls:=.type "set",dict:=none,data:=.set #[] 0 (.fresh 0 0 led)}
set_option maxRecDepth 100000 in
theorem Vk{l S:Addr}{Q:Value->Shared->Prop}(hh:A.handled=none)(hl:s.heap.IsList l us)(hS:∃led,s.heap.get? S=some {cls:=.type "set",dict:=none,data:=.set #[] 0 (.fresh 0 0 led)})
  (hz:strAt us zs) (hn:us.size=zs.length) (hb:us.size+1<scanBound)
  (h:∀(h':Heap) (tk:Nat),X6 prog w h' S zs->(∀b o,b≠S->s.heap.get? b=some o->h'.get? b=some o)->Q .none {s with heap:=h',toks:=tk}):
  codeAny (model prog w) A (.call (.builtin "set.__init__") ⟨[.ref S,.ref l],[]⟩) (wants Q E) s:=by
 obtain⟨led,hS⟩:=hS
 have hT:s.TypeIs (.ref S) "set":=⟨_,hS,rfl⟩
 refine codeAny_call_builtin F.called_set.init.plain F.entry_set_init (check_set_init_1 hT ?_)
 have hl0:=hl
 obtain⟨⟨oc,od,odata,os⟩,hol,hc,nl,hd⟩:=hl
 simp only at hc hd
 subst hc hd
 have f1:=F.sub_list_set
 have f2:=F.sub_list_frozenset
 have f3:(Value.type "list"==Value.type "dict")=false:=by decide
 unfold Builtin.«set.__init__» noKeywords Builtin.Frozenset.updateFrom
 generalize hPI:pyIter=PI
 wp_walk
 subst hPI
 refine wpAny_pyIter_list hl0 (wpAny_bind (wpAny_runValue ?_))
 have lS:S<s.heap.objs.size:=Heap.lt_size hS
 have ll:l<s.heap.objs.size:=Heap.lt_size hol
 have h3:A.in1.in1.handled=none:=by simp[hh]
 have hlS:S≠l:=λe=>by subst e;rw[hS]at hol;simp at hol
 refine S5 (us:=us) ((Walks.list h3 _ l (Nat.ne_of_lt ll) us).toS) S (by simp only[List.mem_cons,List.not_mem_nil,or_false,not_or];exact⟨Nat.ne_of_lt lS,hlS⟩) hz hn hb us.size 0 {s with heap:=s.heap.push {cls:=.type "list_iterator",data:=.fields #[.ref l,.int 0 0]}} (by omega)
  ⟨⟨_,Heap.get?_push_size _ rfl,rfl,rfl⟩,(hl0.push _)⟩ ?_ ?_
 .have hget:=Heap.get?_push_of_some {cls:=.type "list_iterator",data:=.fields #[.ref l,.int 0 0]} hS
  exact SetOf_congr ((setObjOf_fresh (knd:=strKind prog w) led).setOf hget (by unfold scanBound;omega)) (λ_=>rfl) rfl
 .intro s' hm ts
  obtain⟨h',g',d',tk',os'⟩:=s'
  have eg:g'=s.gens:=hm.gens
  have ed:d'=s.drawn:=hm.drawn
  have eo:os'=s.os:=hm.os
  subst eg ed eo
  refine wpAny_pure ?_
  show wpAny _ _ (ret Value.none) _ _ _
  refine wpAny_pure (h h' tk' ts λb o hb e=>?_)
  refine hm.heap b o ?_ (Heap.get?_push_of_some _ e)
  simp only[List.mem_cons,List.not_mem_nil,or_false,not_or]
  exact⟨hb,Nat.ne_of_lt (Heap.lt_size e)⟩
set_option maxRecDepth 100000 in
theorem yG{l:Addr}{Q:Value->Shared->Prop}(hh:A.handled=none)(hl:s.heap.IsList l us)(hz:strAt us zs)(hn:us.size=zs.length)(hb:us.size+1<scanBound)
  (h:∀(h':Heap) (tk:Nat),X6 prog w h' s.heap.objs.size zs->(∀b o,s.heap.get? b=some o->h'.get? b=some o)->Q (.ref s.heap.objs.size) {s with heap:=h',toks:=tk}):
  wpAny (model prog w) A (call (.type "set") [.ref l]) Q E s:=by
 obtain⟨c,tl,hmro⟩:=F.called_set.mro
 have hmade:=F.called_set.made
 have hsub:=F.called_set.sub
 have h1:=F.called_set.notType
 have h2:=F.called_set.canCreate
 have hct:=F.typeCall_set_1 (.ref l)
 refine wpAny_call (codeAny_of_tree ?_)
 show wpAny _ _ (callAny (.type "set") _) _ _ _
 refine wpAny_pure ⟨Code.quiet_builtin _ (by decide+kernel),codeAny_builtin F.entry_type_call ?_⟩
 rw[Around.under_plain (weight_type_call_type "set" [.ref l] []) rfl]
 repeat (any_goals (first |assumption |wp_step))
 refine codeAny_mono (code_set_new_1 (.ref l) (E:=E) (Q₁:=λobj s₁=>∃led:Bool,obj= .ref s.heap.objs.size/\s₁={s with heap:=newSet s.heap led}) λled=>⟨led,rfl,rfl⟩) λr s₁ hr=>?_
 rcases r with e |(_ |_ |_ |obj)
 all_goals first |exact hr |exact hr.elim |skip
 obtain⟨led,rfl,rfl⟩:=hr
 have hS:(newSet s.heap led).get? s.heap.objs.size=some {cls:=.type "set",dict:=none,data:=.set #[] 0 (.fresh 0 0 led)}:=Heap.get?_push_size _ rfl
 have hT:Shared.TypeIs {s with heap:=newSet s.heap led} (.ref s.heap.objs.size) "set":=⟨_,hS,rfl⟩
 have hli:=F.called_set.init.lookup
 have hbi:=F.called_set.init.bind (.ref s.heap.objs.size)
 repeat (any_goals (first |assumption |wp_step))
 refine codeAny_mono (Vk (E:=E) (s:={s with heap:=newSet s.heap led}) (Q:=λr s₂=>r= .none/\∃h' tk,s₂={s with heap:=h',toks:=tk}/\X6 prog w h' s.heap.objs.size zs/\∀b o,s.heap.get? b=some o->h'.get? b=some o) (by simp[hh]) (hl.push _) ⟨led,hS⟩ hz hn hb λh' tk ts k=>⟨rfl,h',tk,rfl,ts,λb o e=>k b o (Nat.ne_of_lt (Heap.lt_size e)) (Heap.get?_push_of_some _ e)⟩) λr₂ s₂ hr₂=>?_
 rcases r₂ with e |(_ |_ |_ |r)
 all_goals first |exact hr₂ |exact hr₂.elim |skip
 obtain⟨rfl,h',tk,rfl,ts,k⟩:=hr₂
 repeat (any_goals (first |assumption |wp_step))
 exact h _ _ ts k
end
section
variable{X:Cx}{H:Hp}{Q:VK}{v:V}
def xN(X:Cx)(S:Addr)(zs:List Str):HO:=.ext λh=>X6 X.prog X.w h S zs
theorem ac6{q:Addr}{zs:List Str}(hc:X.calm=true)(h:bf X.K H q (zs.map V.str))(hz:zs.length≤4000)(g:∀S,H S=none->Q (.ref S) (upd H S (xN X S zs))):CL X (.type "set") [.ref q] H Q:=by
 refine gJ (r:=λxs H Q=>∃q zs,xs=[.ref q]/\bf X.K H q (zs.map V.str)/\zs.length≤4000/\∀S,H S=none->Q (.ref S) (upd H S (xN X S zs))) ?_ ⟨q,zs,rfl,h,hz,g⟩
 intro pins s σ H xs us Q I r h
 obtain⟨q,zs,rfl,h,hz,g⟩:=h
 obtain⟨u,rfl,ru⟩:=vals1 r
 cases(show u=Value.ref q from ru)
 obtain⟨its,rv,pl,_⟩:=I.list h
 have hl:its.length=zs.length:=by have :=rv.length;rw[List.length_map]at this;exact this.symm
 have hat:strAt its.toArray zs:=λi v e=>by
  have e':its[i]? =some v:=by simpa using e
  have hi:i<zs.length:=by rw[<-hl];exact(List.getElem?_eq_some_iff.mp e').1
  obtain⟨u,e1,e2⟩:=rv.get (i:=i) (x:=V.str zs[i]) (by simp[hi])
  rw[e']at e1
  cases e1
  obtain⟨t,rfl⟩:=e2
  exact⟨t,zs[i],rfl,List.getElem?_eq_getElem hi⟩
 refine yG (I.ok.hd hc) pl.isList hat (by simpa using hl) (by show _<4096;simp;omega) λh' tk ts k=>?_
 refine⟨.ref s.heap.objs.size,_,I.laid (t':=tk) (o:=xN X s.heap.objs.size zs) k (Nat.le_refl _) ⟨ts,?_,λh1 h2 ts hk=>ts.stay hk⟩,rfl,g _ (I.hok.fresh (Nat.le_refl _))⟩
 obtain⟨o,es,ep,t,ho,_⟩:=ts
 exact⟨o,ho⟩
theorem aet{S:Addr}{zs:List Str}(h:H S=some (xN X S zs))(hz:zs.length≤4000)(g:Q (.int (jr zs).length) H):CL X (.builtin "len") [.ref S] H Q:=by
 refine gJ (r:=λxs H Q=>∃S zs,xs=[.ref S]/\H S=some (xN X S zs)/\zs.length≤4000/\Q (.int (jr zs).length) H) ?_ ⟨S,zs,rfl,h,hz,g⟩
 intro pins s σ H xs us Q I r h
 obtain⟨S,zs,rfl,h,hz,g⟩:=h
 obtain⟨u,rfl,ru⟩:=vals1 r
 cases(show u=Value.ref S from ru)
 obtain⟨⟨o,es,ep,t,ho,hex,hd,hel,hm,hb,hf,hn⟩,_⟩:=I.hok S _ h
 have le:=sZ _ zs rfl
 refine call_len_set ho hex hd hf (by omega) ⟨.int es.size,H,I.tok _,⟨_,rfl⟩,?_⟩
 rw[hn]
 exact g
theorem abE{x:V}{p:Addr}{xs:List V}(h:fK X.K H p xs)(f:jG x=true)(fs:xs.all jG=true)(q:Q (.bl (!QH x xs)) H):OP X (compareOp .NotIn) x (.ref p) H Q:=gF uh ⟨p,xs,rfl,.inr h,f,fs,q⟩
theorem UG{x:V}{p:Addr}{xs:List V}(h:fK X.K H p xs)(f:jG x=true)(fs:xs.all jG=true)(q:Q (.bl (QH x xs)) H):OP X (compareOp .In) x (.ref p) H Q:=gF Pu ⟨p,xs,rfl,.inr h,f,fs,q⟩
theorem aeW{x:V}{p:Addr}{xs:List V}(h:bf X.K H p xs)(f:jG x=true)(fs:xs.all jG=true)(q:Q (.bl (!QH x xs)) H):OP X (compareOp .NotIn) x (.ref p) H Q:=gF uh ⟨p,xs,rfl,.inl h,f,fs,q⟩
theorem agM{l b:Addr}{xs zs:List V}(h1:H l=some (.lst xs))(h2:H b=some (.lst zs))(hz:xs.length+zs.length≤sizeLine)(q:∀p,H p=none->Q (.ref p) (upd H p (.lst (xs++zs)))):OP X (binaryOp .Add) (.ref l) (.ref b) H Q:=gF ag3 ⟨l,b,xs,zs,rfl,rfl,h1,h2,hz,q⟩
end
section
variable{X:Cx}{H:Hp}{D:Ends}{σ σ':St}{e a elt tg:Expr}{scope:Scope}{pos spos py p p':Pos}{y:Str}{j:Nat}
theorem Hz(N':List Str)(hσ:fO N' X.N σ scope=σ')(hsw:swapsWith (.ListComp elt [⟨tg,e,[],0⟩] scope pos) (some (.Name y py)) spos.line X.env=pure true)(hc:X.calm=true)(S:dh X.env scope)(hs:∀x,foldedSetIterable e X.env x=pure x)
  (hN:X.N.Nodup) (hi:nameAt X.N y=some j) (hx:X.env.scope.names.lookup y=some .local)
  (h:EV X e σ H λv H1=>∃l xs,v= .ref l/\bf X.K H1 l xs/\xs.length≤sizeLine/\Ib X N' scope tg elt σ' H1 (λv H'=>D.nx (σ.set j (some v)) H') xs.length λi H2 x H3=>xs[i]? =some x/\H2=H3):
  SX X (.Assign [.Name y py] (.ListComp elt [⟨tg,e,[],0⟩] scope pos) spos) D σ H:=by
 refine Ea (N':=N') hsw hc S hs hN hi hx (rW (bC h λv H1 q=>?_))
 obtain⟨l,xs,rfl,hl,hz,hw⟩:=q
 refine⟨l,rfl,⟨xs,hl⟩,?_⟩
 rw[hσ]
 refine M8 (J:=Z0 X.K l) hz (λi H2 s hi=>⟨xs,xs[i],aq.seq s hl,List.getElem?_eq_getElem hi⟩) (λH2 s=>⟨xs,aq.seq s hl,Nat.le_refl _⟩) (λi H2 x H3 hi s y=>⟨y.2 xs (aq.seq s hl),y.1.symm⟩) hw
end
def cutAt(c:Nat):List Nat->List (List Nat)
 |[]=>[[]]
 |x::r=>if x=c then []::cutAt c r else match cutAt c r with
  |[]=>[[x]]
  |h::t=>(x::h)::t
def km(c:Nat):List (List Nat)->List Nat
 |[]=>[]
 |[p]=>p
 |p::q::r=>p++c::km c (q::r)
theorem Gi(c:Nat):∀l,cutAt c l≠[]
 |[]=>by simp[cutAt]
 |x::r=>by
  unfold cutAt
  split
  .simp
  .split <;>simp
theorem Az{c:Nat}:∀{p:List Nat},c∉p->cutAt c p=[p]
 |[],_=>rfl
 |x::r,h=>by
  have ih:=Az (c:=c) (p:=r) λz=>h (by simp[z])
  unfold cutAt
  rw[if_neg (λz=>h (by simp[z])),ih]
theorem Bm{c:Nat}{l:List Nat}:∀{p:List Nat},c∉p->cutAt c (p++c::l)=p::cutAt c l
 |[],_=>by
  show cutAt c (c::l)=_
  rw[cutAt,if_pos rfl]
 |x::r,h=>by
  have ih:=Bm (c:=c) (l:=l) (p:=r) λz=>h (by simp[z])
  show cutAt c (x::(r++c::l))=_
  rw[cutAt,if_neg (λz=>h (by simp[z])),ih]
theorem lW{c:Nat}:∀{ps:List (List Nat)},ps≠[]->(∀p∈ps,c∉p)->cutAt c (km c ps)=ps
 |[],h,_=>absurd rfl h
 |[p],_,h=>Az (h p (by simp))
 |p::q::r,_,h=>by
  show cutAt c (p++c::km c (q::r))=_
  rw[Bm (h p (by simp)),lW (by simp) λx hx=>h x (List.mem_cons_of_mem _ hx)]
theorem uN(c:Nat):∀l,(cutAt c l).length≤l.length+1
 |[]=>by simp[cutAt]
 |x::r=>by
  have ih:=uN c r
  unfold cutAt
  split
  .simp
   exact ih
  .split
   .simp
   .rename_i h t e
    rw[e]at ih
    simp at ih⊢
    omega
theorem yH(c:Nat):∀l,km c (cutAt c l)=l
 |[]=>rfl
 |x::r=>by
  have ih:=yH c r
  unfold cutAt
  split
  .rename_i h
   cases e:cutAt c r with
   |nil=>exact absurd e (Gi c r)
   |cons p q=>
    rw[e]at ih
    show []++c::km c (p::q)=_
    rw[ih,h]
    rfl
  .cases e:cutAt c r with
   |nil=>exact absurd e (Gi c r)
   |cons p q=>
    rw[e]at ih
    simp only
    cases q with
    |nil=>
     show x::p=_
     rw[show p=r from ih]
    |cons y q=>
     show(x::p)++c::km c (y::q)=_
     rw[<-ih]
     rfl
theorem jg(c:Nat):∀ps:List Str,(Str.join ⟨#[c]⟩ ps).cps.toList=km c (ps.map λp=>p.cps.toList)
 |[]=>rfl
 |[p]=>rfl
 |p::q::r=>by
  have ih:=jg c (q::r)
  have e:Str.join ⟨#[c]⟩ (p::q::r)=p++⟨#[c]⟩++Str.join ⟨#[c]⟩ (q::r):=rfl
  rw[e]
  show((p.cps++ #[c])++(Str.join ⟨#[c]⟩ (q::r)).cps).toList=_
  simp only[Array.toList_append]
  rw[ih]
  simp[km]
theorem U4(x:Str)(c:Nat):Txt.split x ⟨#[c]⟩≠[]:=by
 unfold Txt.split
 split
 .simp
 .split
  .simp
  .unfold Builtin.Str.partsBetween
   simp
theorem split_list(x:Str)(c:Nat):(Txt.split x ⟨#[c]⟩).map (λp=>p.cps.toList)=cutAt c x.cps.toList:=by
 have h1:(Str.join ⟨#[c]⟩ (Txt.split x ⟨#[c]⟩)).cps.toList=x.cps.toList:=by rw[StrLaws.join_split]
 rw[jg]at h1
 rw[<-h1]
 refine(lW (by simpa using U4 x c) λp hp=>?_).symm
 obtain⟨q,hq,rfl⟩:=List.mem_map.mp hp
 exact StrLaws.split_free x c q hq
def cN(c:Nat)(x:Str):List Str:=(cutAt c x.cps.toList).map λl=>⟨l.toArray⟩
theorem ph(x:Str)(c:Nat):Txt.split x ⟨#[c]⟩=cN c x:=by
 unfold cN
 rw[<-split_list,List.map_map]
 have :((λl:List Nat=>(⟨l.toArray⟩:Str))∘λp:Str=>p.cps.toList)=id:=by
  funext p
  rfl
 rw[this,List.map_id]
section
variable{X:Cx}{H:Hp}{Q:VK}{z y:Str}{v:V}
theorem Bo:∀l:List (Str×Tok),Vals ((l.map (·.1)).map V.str) (strValues l)
 |[]=>.nil
 |p::l=>.cons ⟨p.2,rfl⟩ (Bo l)
theorem m_split{c:Nat}(hz:z.length≤100000)(g:∀p,H p=none->Q (.ref p) (upd H p (.lst ((cN c z).map V.str)))):MT X "str.split" (.str z) [.str ⟨#[c]⟩] H Q:=by
 refine n8 (r:=λx xs H Q=>∃z c,x= .str z/\xs=[.str ⟨#[c]⟩]/\z.length≤100000/\∀p,H p=none->Q (.ref p) (upd H p (.lst ((cN c z).map V.str)))) ?_ ⟨z,c,rfl,rfl,hz,g⟩
 intro pins s σ H x xs v us Q I rx rs h
 obtain⟨z,c,rfl,rfl,hz,g⟩:=h
 obtain⟨t,rfl⟩:=rx
 obtain⟨u,rfl,ru⟩:=vals1 rs
 obtain⟨t',rfl⟩:=ru
 have hl:(cN c z).length≤z.length+1:=by
  have h1:=uN c z.cps.toList
  unfold cN
  rw[List.length_map]
  have h2:z.cps.toList.length=z.length:=rfl
  omega
 have hsz:sizeLine=16777216:=sizeLine_eq
 have fin:∀(l:List (Str×Tok)) (tk:Nat),l.map (·.1)=cN c z->EP X pins σ Q (.ref s.heap.objs.size) {s with toks:=tk,heap:=s.heap.push {cls:=.type "list",data:=.seq (strValues l).toArray}}:=λl tk e=>
  ⟨.ref s.heap.objs.size,_,I.laid (t':=tk) (o:=.lst ((cN c z).map V.str)) (λb o q=>Heap.get?_push_of_some _ q) (Nat.le_refl _) ⟨by rw[List.length_map];omega,strValues l,_,by rw[<-e];exact Bo l,Heap.get?_push_size _ rfl⟩,rfl,g _ (I.hok.fresh (Nat.le_refl _))⟩
 cases h1:(decide (z.length<(⟨#[c]⟩:Str).length)||decide (Builtin.Str.strKind z<Builtin.Str.strKind ⟨#[c]⟩))
 .cases hf:(Builtin.Str.occurrences z ⟨#[c]⟩ 0 z.length (z.length+1)).isEmpty
  .have e:Txt.split z ⟨#[c]⟩=Builtin.Str.partsBetween z (Builtin.Str.occurrences z ⟨#[c]⟩ 0 z.length (z.length+1)) (⟨#[c]⟩:Str).length:=by
    unfold Txt.split
    rw[if_neg (by rw[h1];decide),if_neg (by rw[hf];decide)]
   have hlp:=hl
   rw[<-ph,e]at hlp
   refine call_meets F.slot_str_split (typeIs_str _ _ _) F.entry_str_split (F.args_str_split_2 _ _) (meets_str_split_sep z ⟨#[c]⟩ t t' h1 rfl hf (by omega) (by omega)) ?_
   have :=fin (numbered s.toks (Txt.split z ⟨#[c]⟩)) (s.toks+(Builtin.Str.partsBetween z (Builtin.Str.occurrences z ⟨#[c]⟩ 0 z.length (z.length+1)) (⟨#[c]⟩:Str).length).length) (by rw[numbered_texts,ph])
   rw[<-strsFrom_eq,e]at this
   exact this
  .have e:Txt.split z ⟨#[c]⟩=[z]:=by
    unfold Txt.split
    rw[if_neg (by rw[h1];decide),if_pos hf]
   exact call_meets F.slot_str_split (typeIs_str _ _ _) F.entry_str_split (F.args_str_split_2 _ _) (meets_str_split_not_found z ⟨#[c]⟩ t t' h1 rfl hf) (fin [(z,t)] s.toks (by rw[<-ph,e];rfl))
 .have e:Txt.split z ⟨#[c]⟩=[z]:=by
   unfold Txt.split
   rw[if_pos h1]
  exact call_meets F.slot_str_split (typeIs_str _ _ _) F.entry_str_split (F.args_str_split_2 _ _) (meets_str_split_cannot_occur z ⟨#[c]⟩ t t' h1) (fin [(z,t)] s.toks (by rw[<-ph,e];rfl))
theorem ais{c:Nat}(q:Q (.int c) H):CL X (.builtin "ord") [.str ⟨#[c]⟩] H Q:=by
 refine gJ (r:=λxs H Q=>∃c:Nat,xs=[.str ⟨#[c]⟩]/\Q (.int c) H) ?_ ⟨c,rfl,q⟩
 intro pins s σ H xs us Q I r h
 obtain⟨c,rfl,q⟩:=h
 obtain⟨u,rfl,ru⟩:=vals1 r
 obtain⟨t,rfl⟩:=ru
 exact P.ord_of_char ⟨.int c,H,I.tok _,⟨_,rfl⟩,q⟩
theorem ZW{i:Int}(hi:0≤i)(hi2:i<1000)(g:Q (.str (Txt.zfill z i)) H):MT X "str.zfill" (.str z) [.int i] H Q:=by
 refine n8 (r:=λx xs H Q=>∃z i,x= .str z/\xs=[.int i]/\0≤i/\i<1000/\Q (.str (Txt.zfill z i)) H) ?_ ⟨z,i,rfl,rfl,hi,hi2,g⟩
 intro pins s σ H x xs v us Q I rx rs h
 obtain⟨z,i,rfl,rfl,hi,hi2,g⟩:=h
 obtain⟨t,rfl⟩:=rx
 obtain⟨u,rfl,ru⟩:=vals1 rs
 obtain⟨t',rfl⟩:=ru
 refine SC.zfill ?_ λt2 k=>⟨.str _,H,I.tok k,⟨t2,rfl⟩,g⟩
 exact padOk_of (by omega) (by omega)
theorem Zg(hc:X.calm=true)(hz:z.length≤100000)(g:∀p,H p=none->Q (.ref p) (upd H p (.lst (z.cps.toList.map λc=>V.str ⟨#[c]⟩)))):CL X (.type "list") [.str z] H Q:=by
 refine gJ (r:=λxs H Q=>∃z:Str,xs=[.str z]/\z.length≤100000/\∀p,H p=none->Q (.ref p) (upd H p (.lst (z.cps.toList.map λc=>V.str ⟨#[c]⟩)))) ?_ ⟨z,rfl,hz,g⟩
 intro pins s σ H xs us Q I r h
 obtain⟨z,rfl,hz,g⟩:=h
 obtain⟨u,rfl,ru⟩:=vals1 r
 obtain⟨t,rfl⟩:=ru
 have hsz:sizeLine=16777216:=sizeLine_eq
 have hl:z.cps.size=z.length:=rfl
 refine call_list_str (I.ok.hd hc) z t (λh' tk acc c' hk hS ha=>?_) (by omega)
 refine⟨.ref s.heap.objs.size,_,I.laid (t':=tk) (o:=.lst (z.cps.toList.map λc=>V.str ⟨#[c]⟩)) hk (Nat.le_refl _) ⟨by simp;omega,acc.toList,c',?_,by simpa using hS⟩,rfl,g _ (I.hok.fresh (Nat.le_refl _))⟩
 have hv:∀(l:List Nat) (vs:List Value),vs.length=l.length->(∀(j:Nat) v,vs[j]? =some v->∃c u,l[j]? =some c/\v= .str ⟨#[c]⟩ u)->Vals (l.map λc=>V.str ⟨#[c]⟩) vs:=by
  intro l
  induction l with
  |nil=>intro vs h _;have :vs=[]:=by simpa using h
        subst this;exact .nil
  |cons c l ih=>
   intro vs h k
   cases vs with
   |nil=>simp at h
   |cons v vs=>
    obtain⟨c',u,e,rfl⟩:=k 0 v rfl
    have :c=c':=by simpa using e
    subst this
    exact .cons ⟨u,rfl⟩ (ih vs (by simpa using h) λj v e=>by simpa using k (j+1) v (by simpa using e))
 refine hv _ _ (by simpa using ha.1) λj v e=>?_
 obtain⟨c,u,e1,e2⟩:=ha.2 j v (by simpa using e)
 exact⟨c,u,by simpa using e1,e2⟩
end
def Itv(K:W.Frag)(l:Addr)(n:Nat):It:=
 ⟨λi H=>i<n/\∃xs,bf K H l xs/\xs.length=n,λi H x H'=>H'=H/\∀xs,bf K H l xs->xs[n-1-i]? =some x,λi _=>i=n⟩
theorem Xh{P:Program}{w:World}{K:W.Frag}{tg:Expr}(l it:Addr)(n:Nat):Turn P w K tg (Itv K l n) [it] it (λi h=>h.IsRevIter it l ((n:Int)-1-(i:Int)))where
 mem:=by simp
 obj:=λi h st b hb=>by
  have e:b=it:=by simpa using hb
  subst e
  obtain⟨o,e,c,d⟩:=st
  exact⟨o,e,λv z=>by rw[d]at z;cases z⟩
 keep:=λi h h' st k=>st.at λo e=>k it (by simp) o e
 item:=by
  intro X hP hw hK hc i pins s σ H E I hf st hg
  subst hP hw hK
  obtain⟨hi,xs,hq,hx⟩:=hg
  obtain⟨its,rv,p,hz⟩:=I.list hq
  have hx':n-1-i<xs.length:=by omega
  obtain⟨u,hu,ru⟩:=rv.get (List.getElem?_eq_getElem hx')
  obtain⟨f0,f1,f2,f3,f4,f5⟩:=hf it (by simp)
  have ei:((n:Int)-1-(i:Int))=((n-1-i:Nat):Int):=by omega
  rw[ei]at st
  refine wpAny_pyNext_rev_item st p.isList (x:=u) (by simpa using hu) λh' st' sb=>?_
  have I1:Inv X pins σ H {s with heap:=h'}:=I.turned (t':=s.toks) (λb o hb e=>(sb.2 b hb).trans e) f0 f1 f3 f4 f5
  obtain⟨o,e,c,d⟩:=id st'
  refine⟨u,rfl,Gy (s:={s with heap:=h'}) e c d (by decide) ⟨_,H,I1,ru,⟨rfl,λys hy=>?_⟩,?_,λb hb=>(hf b hb).1⟩⟩
  .rw[I.list_inj hy hq]
   exact List.getElem?_eq_getElem hx'
  .have e2:((n:Int)-1-((i+1:Nat):Int))=((n-1-i:Nat):Int)-1:=by omega
   rw[e2]
   exact st'
 done:=by
  intro X hP hw hK hc i pins s σ H E I hf st hg
  subst hP hw hK
  obtain⟨f0,f1,f2,f3,f4,f5⟩:=hf it (by simp)
  have e:i=n:=hg
  have e2:((n:Int)-1-(i:Int))= -1:=by omega
  rw[e2]at st
  exact wpAny_pyNext_rev_end (I.ok.hd hc) st λh' eb=>⟨rfl,I.turned (t':=s.toks) (λb o hb e=>eb b o hb e) f0 f1 f3 f4 f5⟩
 self:=λ_ _ _ _ _ st h=>wpAny_pyIter_revIter st h
section
variable{X:Cx}{σ:St}{H:Hp}{a:Expr}{tg:Expr}{p pos p':Pos}{R:It->Hp->Prop}{D:Ends}
theorem aeT(hg:Gl X "reversed")(hm:X.mg "reversed"=none)(hs:starEach [a] X.env=[(false,eval a X.env)])
  (h:EV X a σ H λv H1=>∃l xs,v= .ref l/\bf X.K H1 l xs/\R (Itv X.K l xs.length) H1):EI X tg (.Call (.Name "reversed" p) [a] [] pos) σ H R:=by
 intro pins s I
 refine Call_ (qQ I hg hm boot_reversed (PyProof.Rows.callWith_type1 (cU (iT (es:=[]) (QA:=λvs H1=>∃l xs,vs=[.ref l]/\bf X.K H1 l xs/\R (Itv X.K l xs.length) H1) hs (bC h λv H1 ⟨l,xs,e,q1,q2⟩=>j7 ⟨l,xs,by rw[e],q1,q2⟩) pos pins s I) λus s1 ⟨vs,H1,I1,r1,l,xs,e,hl,q⟩=>?_) hs rfl))
 subst e
 obtain⟨u,rfl,ru⟩:=vals1 r1
 cases(show u=Value.ref l from ru)
 obtain⟨its,rv,pl,hz⟩:=I1.list hl
 have hlen:=rv.length
 refine call_reversed_list pl.isList ?_
 have hit:(s1.heap.push (revObj l ((its.toArray.size:Int)-1))).IsRevIter s1.heap.objs.size l ((its.toArray.size:Int)-1):=⟨_,Heap.get?_push_size _ rfl,rfl,rfl⟩
 refine wpAny_pyIter_revIter hit ?_
 refine⟨s1.heap.objs.size,[s1.heap.objs.size],_,_,H1,rfl,I1.kept (t':=s1.toks) λb o e=>Heap.get?_push_of_some _ e,Xh l _ xs.length,?_,λb hb=>?_,q⟩
 .have e:((xs.length:Int)-1-((0:Nat):Int))=(its.toArray.size:Int)-1:=by simp;omega
  rw[e]
  exact hit
 .have e:b=s1.heap.objs.size:=by simpa using hb
  subst e
  exact I1.fpOk (Nat.le_refl _) (I1.hok.fresh (Nat.le_refl _))
theorem Zt{body:List Stmt}(hp:PassesOwn (model X.prog X.w) X.A X.env X.xe)(hc:X.calm=true)(hg:Gl X "reversed")(hm:X.mg "reversed"=none)(hs:starEach [a] X.env=[(false,eval a X.env)])
  (h:EV X a σ H λv H1=>∃q xs,v= .ref q/\bf X.K H1 q xs/\∃Pv:Nat->St->Hp->Prop,Pv 0 σ H1/\(∀i σ' H',i≤xs.length->Pv i σ' H'->bf X.K H' q xs)/\
   (∀i x σ' H',i<xs.length->xs[xs.length-1-i]? =some x->Pv i σ' H'->EG X tg x σ' H' λσ2 H2=>lB X body {D with nx:=Pv (i+1),ct:=Pv (i+1),bk:=D.nx} σ2 H2)/\∀σ' H',Pv xs.length σ' H'->D.nx σ' H'):
  SX X (.For tg (.Call (.Name "reversed" p) [a] [] p') body [] pos) D σ H:=by
 refine u6 hp hc (by intro _;rfl) (aeT hg hm hs (bC h λv H1 q=>?_))
 obtain⟨q,xs,rfl,hq,Pv,h0,hl,hst,hd⟩:=q
 refine⟨q,xs,rfl,hq,λi m σ H=>m=xs.length-i/\i≤xs.length/\Pv i σ H,⟨xs.length,by simp,Nat.zero_le _,h0⟩,?_⟩
 rintro i m σ' H' ⟨rfl,hi,p⟩
 by_cases hlt:i<xs.length
 .refine .inr ⟨⟨hlt,xs,hl i σ' H' hi p,rfl⟩,Pv (i+1),λσ2 H2 p2=>⟨xs.length-(i+1),by omega,rfl,hlt,p2⟩,λx H2 y=>?_⟩
  obtain⟨rfl,e⟩:=y
  exact hst i x σ' _ hlt (e xs (hl i σ' _ hi p)) p
 .have e:i=xs.length:=by omega
  refine .inl ⟨e,?_⟩
  subst e
  exact hd σ' H' p
end
theorem Ry{M:Model}{A:Around}{E:Value->Shared->Prop}{s:Shared}{α:Type}{e T L:Addr}{cls:Value}{d:Option Addr×Bool}{fl:Value}{what:String}{env:Env}{Q:α->Shared->Prop}(hf:env.frame=some L)
  (F:fL s.heap e cls d (some T) fl) (k:∀h',Hm s.heap h' [T] []->fL h' e cls d (some T) (rawInt L)->E (.ref e) {s with heap:=h'}):wpAny M A (passOn what (.ref e) env) Q E s:=by
 obtain⟨oe,vs,he,hc,hdx,hd,h1,hz,h2,hT⟩:=F
 obtain⟨hne,oT,ws,t1,t2,t3⟩:=hT T rfl
 have h3:3<ws.size:=(Array.getElem?_eq_some_iff.mp t3).1
 have h1':vs[1]? =some (Value.ref T):=h1
 unfold PySem.passOn
 refine wpAny_bind (wpAny_field he hd h1' ?_)
 rw[if_neg (show ¬((Value.ref T==Value.none)=true)from by simp)]
 refine wpAny_bind ?_
 unfold setFlight
 refine wpAny_bind (wpAny_field he hd h1' ?_)
 rw[if_pos (show(Value.ref T !=Value.none)=true from by simp),hf]
 refine wpAny_setField t1 t2 h3 (wpAny_throw (k _ ⟨λb o q _ n=>?_,λb o q n=>⟨o.slots,?_⟩,λb o q=>?_⟩ ?_))
 .rw[Heap.get?_update_other _ _ (λz=>n (by simp[z]))];exact q
 .rw[Heap.get?_update_other _ _ (λz=>n (by simp[z]))];exact q
 .by_cases z:b=T
  .subst z;exact⟨_,Heap.get?_update_self _ t1 (Obj.isFreed_of_fields (Obj.data_mapFields t2 _))⟩
  .exact⟨o,by rw[Heap.get?_update_other _ _ (Ne.symm z)];exact q⟩
 .refine⟨oe,vs,?_,hc,hdx,hd,h1,hz,h2.stay λv o ws hv q1 q2=>?_,λT' eT=>?_⟩
  .rw[Heap.get?_update_other _ _ hne];exact he
  .by_cases z:v=T
   .subst z
    rw[t1]at q1
    cases q1
    exact⟨_,_,Heap.get?_update_self _ t1 (Obj.isFreed_of_fields (Obj.data_mapFields t2 _)),Obj.data_mapFields q2 _,by rw[Array.getElem?_setIfInBounds_ne (by decide)]⟩
   .exact⟨o,ws,by rw[Heap.get?_update_other _ _ (Ne.symm z)];exact q1,q2,rfl⟩
  .cases eT
   exact⟨hne,_,_,Heap.get?_update_self _ t1 (Obj.isFreed_of_fields (Obj.data_mapFields t2 _)),Obj.data_mapFields t2 _,by simp[h3]⟩
theorem KN{prog:Program}{w:World}{A:Around}{R:Result->Shared->Prop}{s:Shared}{elt target iter:Expr}{ifs:List Expr}{scope:Scope}{pos:Pos}{it acc:Value}{env:Env}(I:Nat->Shared->Prop){Er:Value->Shared->Prop}
  (hE:∀x s,Er x s->notedBy (model prog w) A env (λx s'=>R (.error x) s') x s)
  (turn:∀n s,I n s->wpAny (model prog w) A (pyNext it) (λr s₁=>match r with
   |none=>R (.ok .next) s₁
   |some v=>wpAny (model prog w) A (letOwnedTupleGo target it v) (λ_ s₁'=>wpAny (model prog w) A (assign target env v) (λ_ s₂=>
    wpAny (model prog w) A (forIn ifs true λc r=>if r=true then do let ok<-isTrue c env (eval c env);pure (ForInStep.yield ok)else pure (ForInStep.yield r)) (λok s₃=>
     if ok=true then wpAny (model prog w) A (eval elt env) (λx s₄=>
      wpAny (model prog w) A (call (.builtin "list.append") [acc,x]) (λ_ s₅=>∃m,m<n/\I m s₅) Er s₄) Er s₃
     else ∃m,m<n/\I m s₃) Er s₂) Er s₁') Er s₁) Er s)
  (n:Nat) (h:I n s):
  codeAny (model prog w) A (.compLoop (.ListComp elt [⟨target,iter,ifs,0⟩] scope pos) 0 it acc env) R s:=by
 refine codeAny_loop rfl I (λn s hI=>?_) n h
 show wpAny _ A ((compTurn (.ListComp elt [⟨target,iter,ifs,0⟩] scope pos) 0 it acc env).onRaise (λx=>do noteFrame x env;theTreesLotGoes x)) _ _ s
 refine wpAny_noted ?_
 rw[compTurn_list]
 refine wpAny_bind (wpAny_standAt (wpAny_bind (wpAny_mono (turn n s hI) (λr s₁ h₁=>?_) hE)))
 cases r with
 |none=>exact wpAny_pure h₁
 |some v=>
  refine wpAny_bind (wpAny_mono h₁ (λ_ s₁' h₁'=>?_) hE)
  refine wpAny_bind (wpAny_mono h₁' (λ_ s₂ h₂=>wpAny_bind (wpAny_mono h₂ (λok s₃ h₃=>?_) hE)) hE)
  cases ok with
  |false=>exact wpAny_pure ⟨rfl,h₃⟩
  |true=>
   exact wpAny_bind (wpAny_bind (wpAny_mono h₃ (λx s₄ h₄=>wpAny_bind (wpAny_mono h₄ (λ_ s₅ h₅=>wpAny_pure (wpAny_pure ⟨rfl,h₅⟩)) hE)) hE))
def BR(M:Model)(A:Around)(E:Value->Shared->Prop)(use:Option (Value->Sem Unit))(Q:Value->Shared->Prop)(acc:Value)(C:Env)(r:Result)(s':Shared):Prop:=
 match r,use with
 | .ok _,none=>∃m,s'.heap.Ns C.locals m/\∀h',Heap.SameBut C.locals s'.heap h'->Q acc {s' with heap:=h'}
 | .ok _,some u=>wpAny M A (u acc) (λ_ s''=>∃m,s''.heap.Ns C.locals m/\∀h',Heap.SameBut C.locals s''.heap h'->Q .none {s'' with heap:=h'}) E s'
 | .error x,_=>∃m,s'.heap.Ns C.locals m/\∀h',Heap.SameBut C.locals s'.heap h'->wpAny M A (passOn "comprehension.variables-let-go" x C:Sem Value) (λ_ _=>False) E {s' with heap:=h'}
theorem TY{M:Model}{A:Around}{E:Value->Shared->Prop}{s:Shared}{env:Env}{e:Expr}{scope:Scope}{pos:Pos}{newAcc first:Sem Value}{g:Comprehension}{gs:List Comprehension}{cl:List (Str×Addr)}{use:Option (Value->Sem Unit)}{Q:Value->Shared->Prop}
  (hcl:clausesOf e=g::gs) (hs:∀x,foldedSetIterable g.iter env x=pure x) (hclos:closureFor scope env=pure cl) (hkind:scope.kind= .function) (hnames:∀x∈scope.names,x.2= .local->scope.names.lookup x.1=some .local)
  (h:wpAny M A first (λx s₁=>wpAny M A (pyIter x) (λit s₂=>wpAny M A newAcc (λacc s₃=>wpAny M A (newFunctionEnv scope env.globals cl [] env.qual none .none (some env)) (λcenv s₄=>
   codeAny M A (.compStart e 0 it acc {cenv with scope:=relabel scope env}) (BR M A E use Q acc {cenv with scope:=relabel scope env}) s₄) E s₃) E s₂) E s₁) E s):
  wpAny M A (comprehension e scope env pos newAcc false first use) Q E s:=by
 unfold comprehension
 rw[hclos,hcl]
 refine wpAny_bind (wpAny_mono h (λx s₁ h₁=>wpAny_bind (wpAny_standAt (wpAny_bind (wpAny_of_eq (hs x) (wpAny_bind (wpAny_holding (wpAny_mono h₁ (λit s₂ h₂=>wpAny_standIf (wpAny_bind (wpAny_mono h₂ (λacc s₃ h₃=>
  wpAny_bind (wpAny_pure (wpAny_bind (wpAny_mono h₃ (λcenv s₄ h₄=>?_) λ_ _ z=>z)))) λ_ _ z=>z))) λ_ _ z=>z))))))) λ_ _ z=>z)
 dsimp only
 have hv:∀x∈(scope.names.filter λx=>(x.2== .local||x.2== .cell)&&x.1 !=(".0":Str)).reverse,x.2= .local->Env.kindOf {cenv with scope:=relabel scope env} x.1=some .local:=
  λx hx hl=>lookup_relabel_local (hnames x (List.mem_filter.mp (List.mem_reverse.mp hx)).1 hl)
 have hw:∀x∈(scope.names.filter λx=>(x.2== .local||x.2== .cell)&&x.1 !=(".0":Str)).reverse.drop 1++(scope.names.filter λx=>(x.2== .local||x.2== .cell)&&x.1 !=(".0":Str)).reverse.take 1,x.2= .local->Env.kindOf {cenv with scope:=relabel scope env} x.1=some .local:=λx hx hl=>by
  rcases List.mem_append.mp hx with z |z
  .exact hv x (List.mem_of_mem_drop z) hl
  .exact hv x (List.mem_of_mem_take z) hl
 refine wpAny_holding (wpAny_bind (wpAny_attempt (wpAny_holding (wpAny_run (codeAny_mono h₄ λr s' hr=>?_)))))
 cases r with
 |ok f=>
  cases use with
  |none=>
   obtain⟨m,hn,hr⟩:=hr
   exact wpAny_bind (wpAny_holding (wpAny_comp_letGo (cenv:={cenv with scope:=relabel scope env}) hkind _ s' m hv hn λh' m' _ z=>wpAny_pure (hr h' z)))
  |some u=>
   refine wpAny_bind (wpAny_rule (wpAny_bind (wpAny_holding (wpAny_mono hr (λ_ s'' hr'=>?_) λ_ _ z=>z))))
   obtain⟨m,hn,hr'⟩:=hr'
   exact wpAny_bind (wpAny_comp_letGo (cenv:={cenv with scope:=relabel scope env}) hkind _ s'' m hw hn λh' m' _ z=>wpAny_pure (hr' h' z))
 |error x=>
  have hr':∃m,s'.heap.Ns cenv.locals m/\∀h',Heap.SameBut cenv.locals s'.heap h'->wpAny M A (passOn "comprehension.variables-let-go" x {cenv with scope:=relabel scope env}:Sem Value) (λ_ _=>False) E {s' with heap:=h'}:=by cases use<;>exact hr
  obtain⟨m,hn,hr⟩:=hr'
  exact wpAny_bind (wpAny_holding (wpAny_comp_letGo (cenv:={cenv with scope:=relabel scope env}) hkind _ s' m hv hn λh' m' _ z=>wpAny_mono (hr h' z) (λ_ _ f=>f.elim) λ_ _ y=>y))
abbrev zB(X:Cx)(N':List Str)(scope:Scope)(cl:List (Str×Addr))(C:Addr)(s:Shared)(H:Hp)(fp:List Addr)(F:Value->Shared->Prop):Cx:=(z9 X N' scope cl C s H fp).tri F []
section
variable{X:Cx}{pins:List (Addr×Obj)}{σ:St}{H:Hp}{s:Shared}{scope:Scope}{N':List Str}{fp:List Addr}{elt iter tg:Expr}{ifs:List Expr}{pos:Pos}{Kx:St->XK}
theorem Qc{R:Value->Env->Result->Shared->Prop}{it:Addr}{tn:Nat->Heap->Prop}{J:It}{E:Value->Shared->Prop}{Q:Addr->Hp->Prop}(hst:X.stack=X.env::X.outer)(hfr:X.env.frame=some X.env.locals)(hc:X.calm=true)(S:dh X.env scope)(I:Inv X pins σ H s)
  (T:Turn X.prog X.w X.K tg J fp it tn) (st:tn 0 s.heap) (hf:∀b∈fp,jZ X pins H b)
  (h:∀(D C:Addr) (s3:Shared) (F:Value->Shared->Prop),H D=none->Dl (zB X N' scope (bV scope X.env) C s3 (upd H D (.lst [])) fp F) (λ_=>Kx σ)->mL X (zB X N' scope (bV scope X.env) C s3 (upd H D (.lst [])) fp F) tg elt ifs J D (fO N' X.N σ scope) H (Q D))
  (hR:∀(D:Addr) (C:Env) (H':Hp) (s':Shared),H D=none->Q D H'->Inv X pins σ H' s'->jZ X pins H' C.locals->(∃m,s'.heap.Ns C.locals m)->R (.ref D) C (.ok .next) s')
  (hRx:∀(D:Addr) (C:Env) (H':Hp) (s':Shared) (e t:Addr) (cls:Value) (d:Option Addr×Bool),C.frame=some X.env.locals->Inv X pins σ H' s'->jZ X pins H' C.locals->(∃m,s'.heap.Ns C.locals m)->fL s'.heap e cls d (some t) (rawInt X.env.locals)->
   (∀b∈[e,t],(H' b=none/\Ch X pins b)/\b≠C.locals)->Kx σ cls d H'->R (.ref D) C (.error (.ref e)) s'):
  wpAny (model X.prog X.w) X.A (newList []) (λacc s₃=>wpAny (model X.prog X.w) X.A (newFunctionEnv scope X.env.globals (bV scope X.env) [] X.env.qual none .none (some X.env)) (λcenv s₄=>
   codeAny (model X.prog X.w) X.A (.compStart (.ListComp elt [⟨tg,iter,ifs,0⟩] scope pos) 0 (.ref it) acc {cenv with scope:=relabel scope X.env}) (R acc {cenv with scope:=relabel scope X.env}) s₄) E s₃) E s:=by
 refine wpAny_newObj_type ?_
 have hD:H s.heap.objs.size=none:=I.hok.fresh (Nat.le_refl _)
 generalize hs3:({s with heap:=s.heap.push {cls:=.type "list",dict:=none,data:=.seq ([]:List Value).toArray}}:Shared)=s3
 have I3:Inv X pins σ (upd H s.heap.objs.size (.lst [])) s3:=by
  subst hs3
  exact I.laid (t':=s.toks) (λb u e=>Heap.get?_push_of_some _ e) (Nat.le_refl _) ⟨Nat.zero_le _,[],0,.nil,Heap.get?_push_size _ rfl⟩
 have hsz:s3.heap.objs.size=s.heap.objs.size+1:=by subst hs3;exact Heap.size_push ..
 have old3:∀b o,s.heap.get? b=some o->s3.heap.get? b=some o:=λb o e=>by subst hs3;exact Heap.get?_push_of_some _ e
 have fpl:∀b∈fp,b<s.heap.objs.size:=λb hb=>by
  obtain⟨o,e,_⟩:=T.obj _ _ st b hb
  exact Heap.lt_size e
 have X7:∀b∈fp,jZ X pins (upd H s.heap.objs.size (.lst [])) b:=λb hb=>⟨by rw[aB (Nat.ne_of_lt (fpl b hb))];exact(hf b hb).1,(hf b hb).2⟩
 have st3:tn 0 s3.heap:=T.keep _ _ _ st λb _ o e=>old3 b o e
 have WQ:∀b∈fp,b<s3.heap.objs.size:=λb hb=>by rw[hsz];exact Nat.lt_succ_of_lt (fpl b hb)
 refine wpAny_newFunctionEnv S.cell (by intro y hy;simp at hy) (λh₁ hns hsb=>?_) S.kind
 have Xi:∀b o,s3.heap.get? b=some o->h₁.get? b=some o:=λb o e=>hsb.extBut b o (Nat.ne_of_lt (Heap.lt_size e)) (Heap.get?_push_of_some _ e)
 generalize hCe:compEnvC scope (bV scope X.env) s3.heap.objs.size X.env=Ce
 have hCl:Ce.locals=s3.heap.objs.size:=by rw[<-hCe];rfl
 have hCf:Ce.frame=some X.env.locals:=by rw[<-hCe];exact hfr
 generalize hB:z9 X N' scope (bV scope X.env) s3.heap.objs.size s3 (upd H s.heap.objs.size (.lst [])) fp=B
 generalize hF:notedBy (model X.prog X.w) X.A Ce (λx s'=>R (.ref s.heap.objs.size) Ce (.error x) s')=F
 generalize hs4:({s3 with heap:=h₁,toks:=s3.toks+([]:List (Str×Value)).length}:Shared)=s4
 have I4b:Inv B [] (fO N' X.N σ scope) (upd H s.heap.objs.size (.lst [])) s4:=by
  subst hs4
  rw[<-hB]
  exact Pb S I3 X7 WQ hns Xi
 have hpn:B.pn=[]:=by rw[<-hB];rfl
 have toX:∀{pins':List (Addr×Obj)} {τ:St} {H':Hp} {s':Shared},Inv (B.tri F []) pins' τ H' s'->Inv X pins σ H' s':=λ{pins' τ H' s'} J=>by
  have J2:Inv B [] τ H' s':=Inv.wg (X:=B) (pins:=[]) (F:=F) (pins':=pins') I4b.ok (by rw[hpn];exact J)
  rw[<-hB]at J2
  exact Nj I3 X7 J2
 have hP:(B.tri F []).prog=X.prog:=by rw[<-hB];rfl
 have hw:(B.tri F []).w=X.w:=by rw[<-hB];rfl
 have hK:(B.tri F []).K=X.K:=by rw[<-hB];rfl
 have hA:(B.tri F []).A=X.A:=by rw[<-hB];rfl
 have hcY:(B.tri F []).calm=true:=by rw[<-hB];exact hc
 have hen:(B.tri F []).env=Ce:=by rw[<-hB, <-hCe];rfl
 have hloc:(B.tri F []).env.locals=s3.heap.objs.size:=by rw[hen,hCl]
 have hex:(B.tri F []).ex=fp:=by rw[<-hB];rfl
 have hs0:(B.tri F []).s₀=s3:=by rw[<-hB];rfl
 have apA:s3.heap.objs.size∉Fw X.stack:=λz=>by
  rcases List.mem_cons.mp (I3.stkSub _ z)with e |e
  .exact Nat.lt_irrefl _ (e▸I3.lt)
  .exact I3.nofs (Nat.le_refl _) e
 have hxY:Dl (B.tri F []) (λ_=>Kx σ):=by
  intro pins' τ H' s' e cls d xa q
  obtain⟨J,tb,fl,Fl,hfl,ch⟩:=xa
  have IX:=toX J
  have chX:∀b∈e::tb.toList,(H' b=none/\Ch X pins b)/\b≠s3.heap.objs.size:=λb hb=>by
   obtain⟨c0,c1,c2,c3⟩:=ch b hb
   rw[hloc]at c2
   rw[hex,hs0]at c1
   refine⟨⟨c0,?_⟩,c2⟩
   rcases c1 with z |z
   .obtain⟨_,g1,_,g3,g4,g5⟩:=X7 b z
    exact⟨g3,g1,g4,g5⟩
   .exact I3.ch z
  have hfl':(fl==rawInt X.env.locals)=false:=by
   rcases hfl with z |⟨z,_⟩
   .rw[z];simp[rawInt]
   .rw[z,hloc,beq_eq_false_iff_ne]
    intro z2
    simp only[rawInt]at z2
    have z3:((s3.heap.objs.size:Nat):Int)=((X.env.locals:Nat):Int):=by injection z2
    have z4:s3.heap.objs.size=X.env.locals:=Int.ofNat.inj z3
    have z5:=I3.lt
    rw[z4]at z5
    exact Nat.lt_irrefl _ z5
  show F (.ref e) s'
  rw[<-hF]
  have hl:=IX.stack
  rw[hst]at hl
  have en:noteFrame (.ref e) Ce=noteFrame (.ref e) X.env:=by rw[<-hCe];rfl
  show wpAny _ _ (noteFrame (.ref e) Ce) _ _ _
  rw[en]
  refine Hs (base:=X.base) (IX.ok.frames.trans (by rw[hst])) hl hfr Fl hfl' λh' t N hT F'=>?_
  have IN:Inv X pins σ H' {s' with heap:=h'}:=IX.noted (by rw[hst];exact N) λb hb=>(chX b hb).1
  obtain⟨m,hn,_⟩:=J.loc
  rw[hloc]at hn
  have hlt:s3.heap.objs.size<s'.heap.objs.size:=hn.lt
  have hfree:H' s3.heap.objs.size=none:=by
   have :=J.free
   rw[hloc]at this
   exact this
  refine hRx _ Ce H' _ e t cls d hCf IN (by rw[hCl];exact I3.fpOk (Nat.le_refl _) hfree) ⟨m,?_⟩ F' (λb hb=>?_) q
  .rw[hCl]
   obtain⟨o,a1,a2,ho,hr⟩:=hn
   exact⟨o,a1,a2,N.keep _ _ ho (by rw[<-hst];exact apA) (λz=>(chX _ z).2 rfl),hr⟩
  .rw[hCl]
   rcases List.mem_cons.mp hb with z |z
   .subst z;exact chX _ List.mem_cons_self
   .have z':b=t:=by simpa using z
    subst z'
    exact⟨⟨IX.hok.fresh hT,IX.ch (Heap.get?_none_of_le hT)⟩,λz=>Nat.lt_irrefl _ (Nat.lt_of_lt_of_le hlt (z▸hT))⟩
 have hT:=h s.heap.objs.size s3.heap.objs.size s3 F hD (by rw[<-hB]at hxY;exact hxY)
 rw[show zB X N' scope (bV scope X.env) s3.heap.objs.size s3 (upd H s.heap.objs.size (.lst [])) fp F=B.tri F []from by rw[<-hB]]at hT
 obtain⟨W,⟨m0,w0⟩,turn⟩:=hT
 have I4:Inv (B.tri F []) [] (fO N' X.N σ scope) (upd H s.heap.objs.size (.lst [])) s4:=by
  have :=I4b.tri (F:=F)
  rw[hpn]at this
  exact this
 have st4:tn 0 s4.heap:=by
  subst hs4
  exact T.keep _ _ _ st3 λb _ o e=>Xi b o e
 have fpY:∀b∈fp,∀H':Hp,H' b=none->jZ (B.tri F []) [] H' b:=λb hb H' e=>by
  rw[<-hB]
  refine⟨e,Nat.ne_of_lt (WQ b hb),λz=>?_,.inl hb,λx c q=>(X7 b hb).2.2.2.2.1 x c (S.cl I3 q),λp hp=>absurd (show p∈([]:List (Addr×Obj))from hp) (by simp)⟩
  rcases List.mem_cons.mp (I3.stkSub b z)with e |e
  .exact(hf b hb).2.1 e
  .exact(hf b hb).2.2.1 e
 have loop:codeAny (model X.prog X.w) X.A (.compLoop (.ListComp elt [⟨tg,iter,ifs,0⟩] scope pos) 0 (.ref it) (.ref s.heap.objs.size) Ce) (R (.ref s.heap.objs.size) Ce) s4:=by
  refine KN (Er:=F) (λn s'=>∃i τ H',Inv (B.tri F []) [] τ H' s'/\tn i s'.heap/\(∀b∈fp,H' b=none)/\W i n τ H') (λx s z=>by rw[<-hF]at z;exact z) ?_ m0 ⟨0,_,_,I4,st4,λb hb=>(X7 b hb).1,w0⟩
  rintro n s5 ⟨i,τ,H5,I5,st5,fr5,w5⟩
  have toF:∀{α:Type} {t:Sem α} {Q:α->Shared->Prop} {s:Shared},wpAny (model (B.tri F []).prog (B.tri F []).w) (B.tri F []).A t Q (B.tri F []).xe s->wpAny (model X.prog X.w) X.A t Q F s:=λh=>by
   rw[hP,hw,hA]at h;exact h
  rw[<-hen]
  rcases turn i n τ H5 w5 with⟨stop,qn⟩ |⟨go,N,hN,step⟩
  .have q:=T.done (B.tri F []) hP hw hK hcY i [] s5 τ H5 F I5 (λb hb=>fpY b hb _ (fr5 b hb)) st5 stop
   rw[hA]at q
   refine cU q λr s6 ⟨hr,I6⟩=>?_
   subst hr
   refine hR _ _ H5 s6 hD qn (toX I6) ?_ ?_
   .rw[hloc]
    refine I3.fpOk (Nat.le_refl _) ?_
    have :=I6.free
    rw[hloc]at this
    exact this
   .obtain⟨m,hn,_⟩:=I6.loc
    exact⟨m,hn⟩
  .have q:=T.item (B.tri F []) hP hw hK hcY i [] s5 τ H5 F I5 (λb hb=>fpY b hb _ (fr5 b hb)) st5 go
   rw[hA]at q
   refine cU q λr s6 ⟨u,hr,h6⟩=>?_
   subst hr
   refine cU h6 λ_ s7 ⟨x,H7,I7,r7,y7,st7,fr7⟩=>?_
   have I7':=I7.pinned (λb hb=>fpY b hb _ (fr7 b hb)) (T.obj _ _ st7)
   have Xg:∀{τ':St} {H8:Hp} {s8:Shared},Inv (B.tri F []) ([]++uI fp s7.heap) τ' H8 s8->tn (i+1) s8.heap/\∀b∈fp,H8 b=none:=λ{τ' H8 s8} I8=>by
    refine⟨T.keep _ _ _ st7 λb hb o e=>(I8.pin (b,o) (List.mem_append_right _ (List.mem_append_right _ (gQ hb e)))).1,λb hb=>?_⟩
    obtain⟨o,e,d⟩:=T.obj _ _ st7 b hb
    exact(I8.pin (b,o) (List.mem_append_right _ (List.mem_append_right _ (gQ hb e)))).2.1
   refine toF (cU (step x H7 y7 _ s7 u I7' r7) λ_ s8 ⟨τ8,H8,I8,q8⟩=>?_)
   refine toF (cU (q8 _ s8 I8) λok s9 ⟨H9,I9,q9⟩=>?_)
   cases ok with
   |false=>
    have q9':N τ8 H9:=by simpa using q9
    obtain⟨m',hm,w9⟩:=hN _ _ q9'
    obtain⟨k1,k2⟩:=Xg I9
    show ∃m,_
    exact⟨m',hm,i+1,τ8,H9,I9.unpinned,k1,k2,w9⟩
   |true=>
    have q9':EV (B.tri F []) elt τ8 H9 λy H4=>∃xs,H4 s.heap.objs.size=some (.lst xs)/\xs.length<sizeLine/\N τ8 (upd H4 s.heap.objs.size (.lst (xs++[y]))):=by simpa using q9
    show wpAny _ _ _ _ _ _
    refine toF (cU (q9' _ s9 I9) λz s10 ⟨y,H10,I10,r10,xs,e10,l10,n10⟩=>?_)
    refine toF (cU (gK _ s10 τ8 H10 (.ref s.heap.objs.size) [y] _ [z] (λv H11=>v= .non/\H11=upd H10 s.heap.objs.size (.lst (xs++[y]))) I10 rfl (.cons r10 .nil) ⟨_,xs,y,rfl,rfl,e10,l10,rfl,rfl⟩) λ_ s11 ⟨_,H11,I11,_,_,e11⟩=>?_)
    subst e11
    obtain⟨m',hm,w11⟩:=hN _ _ n10
    obtain⟨k1,k2⟩:=Xg I11
    exact⟨m',hm,i+1,τ8,_,I11.unpinned,k1,k2,w11⟩
 rw[<-hCe]at loop
 exact codeAny_compStart_list loop (T.self X.A 0 s4 _ _ st4 loop)
theorem Qo{Q:Value->Shared->Prop}{use:Option (Value->Sem Unit)}(hx:Dl X Kx){acc:Value}{C:Env}{H':Hp}{s':Shared}{e t:Addr}{cls:Value}{d:Option Addr×Bool}(hCf:C.frame=some X.env.locals)(I:Inv X pins σ H' s')(fC:jZ X pins H' C.locals)(hn:∃m,s'.heap.Ns C.locals m)
  (F:fL s'.heap e cls d (some t) (rawInt X.env.locals)) (ch:∀b∈[e,t],(H' b=none/\Ch X pins b)/\b≠C.locals) (q:Kx σ cls d H'):BR (model X.prog X.w) X.A X.xe use Q acc C (.error (.ref e)) s':=by
 obtain⟨m,hn⟩:=hn
 obtain⟨f0,f1,f2,f3,f4,f5⟩:=fC
 have main:∃m,s'.heap.Ns C.locals m/\∀h',Heap.SameBut C.locals s'.heap h'->wpAny (model X.prog X.w) X.A (passOn "comprehension.variables-let-go" (.ref e) C:Sem Value) (λ_ _=>False) X.xe {s' with heap:=h'}:=by
  refine⟨m,hn,λh' hsb=>?_⟩
  have I2:Inv X pins σ H' {s' with heap:=h'}:=I.turned (t':=s'.toks) (λb o hb e=>hsb.extBut b o hb e) f0 f1 f3 f4 f5
  have F2:fL h' e cls d (some t) (rawInt X.env.locals):=by
   obtain⟨oe,vs,he,hc,hdx,hd,h1,hz,h2,hT⟩:=F
   refine⟨oe,vs,hsb.extBut _ _ (ch e (by simp)).2 he,hc,hdx,hd,h1,hz,h2.stay (λv o ws hv q1 q2=>⟨o,ws,hsb.extBut _ _ (λz=>by
    obtain⟨_,_,_,ho,hdd,_⟩:=hn
    rw[<-z,q1]at ho
    cases ho
    rw[q2]at hdd
    cases hdd) q1,q2,rfl⟩),λT eT=>?_⟩
   cases eT
   obtain⟨hne,oT,ws,t1,t2,t3⟩:=hT t rfl
   exact⟨hne,oT,ws,hsb.extBut _ _ (ch t (by simp)).2 t1,t2,t3⟩
  refine Ry (s:={s' with heap:=h'}) hCf F2 λh2 N F3=>?_
  refine hx pins σ H' _ e cls d ⟨I2.noted (ch:=[t]) ⟨λb o q _ n=>N.keep b o q (by simp) n,N.slot,N.there⟩ λb hb=>?_,some t,_,F3,.inr ⟨rfl,rfl⟩,λb hb=>(ch b (by simpa using hb)).1⟩ q
  have z:b=t:=by simpa using hb
  subst z
  exact(ch b (by simp)).1
 cases use<;>exact main
theorem W5{D:Ends}{y:Str}{py spos:Pos}{j:Nat}(hx0:Dl X Kx)(hst:X.stack=X.env::X.outer)(hfr:X.env.frame=some X.env.locals)(hsw:swapsWith (.ListComp elt [⟨tg,iter,ifs,0⟩] scope pos) (some (.Name y py)) spos.line X.env=pure true)(hc:X.calm=true)(S:dh X.env scope)(hs:∀x,foldedSetIterable iter X.env x=pure x)
  (hN:X.N.Nodup) (hi:nameAt X.N y=some j) (hx:X.env.scope.names.lookup y=some .local)
  (h:EI X tg iter σ H λJ H1=>∀(fp:List Addr) (E C:Addr) (s3:Shared) (F:Value->Shared->Prop),H1 E=none->Dl (zB X N' scope (bV scope X.env) C s3 (upd H1 E (.lst [])) fp F) (λ_=>Kx σ)->mL X (zB X N' scope (bV scope X.env) C s3 (upd H1 E (.lst [])) fp F) tg elt ifs J E (fO N' X.N σ scope) H1 (λH'=>D.nx (σ.set j (some (.ref E))) H')):
  SX X (.Assign [.Name y py] (.ListComp elt [⟨tg,iter,ifs,0⟩] scope pos) spos) D σ H:=by
 intro pins s I
 rw[exec_Assign_Name_used _ _ _ _ hsw]
 refine wpAny_bind (wpAny_standAt (wpAny_bind ?_))
 show wpAny _ X.A (do let _<-comprehension (.ListComp elt [⟨tg,iter,ifs,0⟩] scope pos) scope X.env _ (newList []) false (eval iter X.env) (some (assign (.Name y py) X.env))) _ _ s
 refine wpAny_bind (wpAny_mono (TY (use:=some (assign (.Name y py) X.env)) (Q:=λ_ s'=>SP X pins D .next s') rfl hs (qP (S.has I)) S.kind S.loc
  (cU (h pins s I) λv s1 h1=>cU h1 λitv s2 h2=>?_)) (λ_ s' hq=>wpAny_pure (wpAny_pure hq)) λ_ _ e=>e)
 obtain⟨it,fp,tn,J,H2,e,I2,T,st2,f2,q2⟩:=h2
 subst e
 refine Qc (Kx:=Kx) (R:=λacc C=>BR (model X.prog X.w) X.A X.xe (some (assign (.Name y py) X.env)) (λ_ s'=>SP X pins D .next s') acc C) (Q:=λE H'=>D.nx (σ.set j (some (.ref E))) H') hst hfr hc S I2 T st2 f2 (λE C s3 F hD xo=>q2 fp E C s3 F hD xo) (λE C H' s' hD qD IX fC hn=>?_)
  λD C H' s' e t cls d hCf IX fC hn F ch q=>Qo hx0 hCf IX fC hn F ch q
 obtain⟨m,hn⟩:=hn
 obtain⟨f0,f1,f2',f3,f4,f5⟩:=fC
 show wpAny _ _ (assign (.Name y py) X.env (.ref E)) _ _ _
 refine wpAny_assign_Name (oZ IX hN (fc hi) (.inl hx) (v:=.ref E) rfl (λs'' I'' hb=>?_) (.inr hx))
 obtain⟨a,sb,ha⟩:=hb
 have hCa:C.locals≠a:=by
  rcases ha with ha |ha
  .rw[ha];exact f1
  .intro z
   exact f4 y a ha z.symm
 refine⟨m,hn.sameBut sb hCa,λh' hsb=>⟨σ.set j (some (.ref E)),H',I''.turned (t':=s''.toks) (λb o hb e=>hsb.extBut b o hb e) f0 f1 f3 f4 f5,qD⟩⟩
end
section
variable{X:Cx}{a e:Expr}{σ σ':St}{H:Hp}{Q:VK}{D:Ends}{pos spos py p p':Pos}{tg elt iter:Expr}{scope:Scope}{Kx:St->XK}{y:Str}{j:Nat}
def aaJ(X:Cx)(N':List Str)(scope:Scope)(tg elt:Expr)(σ σ':St)(Kx:St->XK)(H1:Hp)(Q:VK)(n:Nat)(G:Nat->Hp->V->Hp->Prop):Prop:=
 ∃(Tp:St->Prop) (Pi:Addr->Nat->V->Hp->Prop),Tp σ'/\
  (∀E i v H2 H3 ys,H2 E=some (.lst ys)->(∀b o,b≠E->H2 b=some o->H3 b=some o)->Pi E i v H2->Pi E i v H3)/\
  (∀(fp:List Addr) (E C:Addr) (s3:Shared) (H0:Hp) (F:Value->Shared->Prop) (i:Nat) (τ:St) (x:V) (H2 H3:Hp),Dl (zB X N' scope (bV scope X.env) C s3 H0 fp F) (λ_=>Kx σ)->H1 E=none->i<n->Tp τ->aq H1 H2->(∃ys,H2 E=some (.lst ys)/\ys.length=i/\∀k v,ys[k]? =some v->Pi E k v H2)->G i H2 x H3->
   EG (zB X N' scope (bV scope X.env) C s3 H0 fp F) tg x τ H3 λτ2 H4=>EV (zB X N' scope (bV scope X.env) C s3 H0 fp F) elt τ2 H4 λv H5=>Tp τ2/\Pi E i v H5/\aq H2 H5)/\
  ∀(E:Addr) (H2:Hp) (xs:List V),H1 E=none->xs.length=n->(∀i v,xs[i]? =some v->Pi E i v H2)->H2 E=some (.lst xs)->aq H1 H2->Q (.ref E) H2
theorem QZ{Y:Cx}{tg elt:Expr}{J:It}{E:Addr}{τ0:St}{Q:Hp->Prop}
  (n:Nat) (hn:n≤sizeLine) (Tp:St->Prop) (hT:Tp τ0) (Pi:Nat->V->Hp->Prop) (hE:H E=none)
  (mono:∀i v H1 H2 ys,H1 E=some (.lst ys)->(∀b o,b≠E->H1 b=some o->H2 b=some o)->Pi i v H1->Pi i v H2)
  (go:∀i H1,aq H H1->i<n->J.go i H1) (stop:∀H1,aq H H1->J.stop n H1)
  (step:∀i τ x H1 H2,i<n->Tp τ->aq H H1->(∃ys,H1 E=some (.lst ys)/\ys.length=i/\∀k v,ys[k]? =some v->Pi k v H1)->J.yld i H1 x H2->EG Y tg x τ H2 λτ2 H3=>EV Y elt τ2 H3 λv H4=>Tp τ2/\Pi i v H4/\aq H1 H4)
  (fin:∀H1 xs,xs.length=n->(∀i v,xs[i]? =some v->Pi i v H1)->H1 E=some (.lst xs)->aq H H1->Q H1):mL X Y tg elt [] J E τ0 H Q:=by
 refine⟨λi m τ H1=>m=n-i/\i≤n/\aq H H1/\Tp τ/\∃xs,H1 E=some (.lst xs)/\xs.length=i/\∀k v,xs[k]? =some v->Pi k v H1,⟨n,by simp,Nat.zero_le _,aq.upd hE,hT,[],ao,rfl,λk v e=>by simp at e⟩,?_⟩
 rintro i m τ H1 ⟨rfl,hi,s1,hτ,xs,eE,lx,px⟩
 by_cases hlt:i<n
 .refine .inr ⟨go i H1 s1 hlt,λτ' H'=>aq H H'/\Tp τ'/\∃xs,H' E=some (.lst xs)/\xs.length=i+1/\∀k v,xs[k]? =some v->Pi k v H',λτ' H' ⟨a,b,c⟩=>⟨n-(i+1),by omega,rfl,hlt,a,b,c⟩,λx H2 y=>?_⟩
  intro pins s u I r
  refine cU (step i τ x H1 H2 hlt hτ s1 ⟨xs,eE,lx,px⟩ y pins s u I r) λ_ s' ⟨τ2,H3,I3,q3⟩=>⟨τ2,H3,I3,yV ?_⟩
  rw[if_pos rfl]
  refine bC q3 λv H4 ⟨t2,pv,s2⟩=>⟨xs,s2 _ _ eE,by omega,?_⟩
  have mm:∀k w',Pi k w' H4->Pi k w' (upd H4 E (.lst (xs++[v]))):=λk w' q=>mono k w' H4 _ xs (s2 _ _ eE) (λb o hb e=>by rw[aB hb];exact e) q
  refine⟨λb o e=>?_,t2,xs++[v],ao,by simp[lx],λk u e=>?_⟩
  .rw[aB (au e hE)]
   exact s2 _ _ (s1 _ _ e)
  .by_cases hk:k<xs.length
   .rw[List.getElem?_append_left hk]at e
    refine mono k u H1 _ xs eE (λb o hb e=>?_) (px k u e)
    rw[aB hb]
    exact s2 _ _ e
   .have hk2:k=i:=by
     have :=(List.getElem?_eq_some_iff.mp e).1
     rw[List.length_append,List.length_singleton]at this
     omega
    subst hk2
    rw[<-lx,List.getElem?_concat_length]at e
    cases e
    exact mm _ _ pv
 .have e:i=n:=by omega
  subst e
  exact .inl ⟨stop H1 s1,fin H1 xs lx px eE s1⟩
theorem akO{N':List Str}{J:It}{n:Nat}{G:Nat->Hp->V->Hp->Prop}(hn:n≤sizeLine)(go:∀i H2,aq H H2->i<n->J.go i H2)(stop:∀H2,aq H H2->J.stop n H2)
  (yl:∀i H2 x H3,i<n->aq H H2->J.yld i H2 x H3->G i H2 x H3) (h:aaJ X N' scope tg elt σ σ' Kx H Q n G):
  ∀(fp:List Addr) (D C:Addr) (s3:Shared) (F:Value->Shared->Prop),H D=none->Dl (zB X N' scope (bV scope X.env) C s3 (upd H D (.lst [])) fp F) (λ_=>Kx σ)->mL X (zB X N' scope (bV scope X.env) C s3 (upd H D (.lst [])) fp F) tg elt [] J D σ' H (λH'=>Q (.ref D) H'):=by
 intro fp E C s3 F hE xo
 obtain⟨Tp,Pi,t0,mono,step,fin⟩:=h
 exact QZ n hn Tp t0 (Pi E) hE (λi v H1 H2 ys=>mono E i v H1 H2 ys) go stop (λi τ x H1 H2 hi ht hs hy y=>step fp E C s3 _ F i τ x H1 H2 xo hE hi ht hs hy (yl i H1 x H2 hi hs y)) λH1 xs l px eE s=>fin E H1 xs hE l px eE s
theorem PX(N':List Str)(hσ:fO N' X.N σ scope=σ')(hx0:Dl X Kx)(hst:X.stack=X.env::X.outer)(hfr:X.env.frame=some X.env.locals)(hsw:swapsWith (.ListComp elt [⟨tg,e,[],0⟩] scope pos) (some (.Name y py)) spos.line X.env=pure true)(hc:X.calm=true)(S:dh X.env scope)(hs:∀x,foldedSetIterable e X.env x=pure x)
  (hN:X.N.Nodup) (hi:nameAt X.N y=some j) (hx:X.env.scope.names.lookup y=some .local)
  (h:EV X e σ H λv H1=>∃l xs,v= .ref l/\bf X.K H1 l xs/\xs.length≤sizeLine/\aaJ X N' scope tg elt σ σ' Kx H1 (λv H'=>D.nx (σ.set j (some v)) H') xs.length λi H2 x H3=>xs[i]? =some x/\H2=H3):
  SX X (.Assign [.Name y py] (.ListComp elt [⟨tg,e,[],0⟩] scope pos) spos) D σ H:=by
 refine W5 (N':=N') hx0 hst hfr hsw hc S hs hN hi hx (rW (bC h λv H1 q=>?_))
 obtain⟨l,xs,rfl,hl,hz,hw⟩:=q
 refine⟨l,rfl,⟨xs,hl⟩,?_⟩
 rw[hσ]
 refine akO (J:=Z0 X.K l) (Q:=λv H'=>D.nx (σ.set j (some v)) H') hz (λi H2 s hi=>⟨xs,xs[i],aq.seq s hl,List.getElem?_eq_getElem hi⟩) (λH2 s=>⟨xs,aq.seq s hl,Nat.le_refl _⟩) (λi H2 x H3 hi s y=>⟨y.2 xs (aq.seq s hl),y.1.symm⟩) hw
end
def j6(K:W.Frag)(C L:Addr):Bool:=(W.clsIn K C).any λcd=>cd.hasDict&&cd.mro== .ref C:: .ref L::Ii
theorem Vd{K:W.Frag}{C L:Addr}(h:j6 K C L=true):∃cd,W.clsIn K C=some cd/\cd.hasDict=true/\cd.mro= .ref C:: .ref L::Ii:=by
 obtain⟨cd,h1,h2⟩:=W.any_some h
 rw[Bool.and_eq_true,beq_iff_eq]at h2
 exact⟨cd,h1,h2.1,h2.2⟩
section
variable{prog:Program}{w:World}{A:Around}{E:Value->Shared->Prop}{s:Shared}{K:W.Frag}{x C L:Addr}{ox:Obj}{vs:Array Value}{name:Str}{v:Value}
theorem Yr{Q:Unit->Shared->Prop}(X:K.In s.heap)(hx:s.heap.get? x=some ox)(hc:ox.cls= .ref C)(hf:ox.data= .fields vs)(hd:ox.dict=none)
  (hs:W.findIn K (.ref C) "__setattr__"=some (some (.builtin "object.__setattr__"))) (hm:j6 K C L=true) (ht:W.takerIn K C name=some none)
  (h:∀h' tk,h'.get? x=some {ox with dict:=some s.heap.objs.size}->h'.Ns1 s.heap.objs.size (λy=>if y=name then some v else none)->(∀b o,b≠x->s.heap.get? b=some o->h'.get? b=some o)->Q () {s with heap:=h',toks:=tk}):
  wpAny (model prog w) A (setAttr (.ref x) name v) Q E s:=by
 obtain⟨cd,hcd,hdc,hmro⟩:=Vd hm
 have I:W.InstAt s.heap x ox C none:=⟨hx,hc,by unfold W.notCls;rw[hf],by rw[hd];trivial⟩
 refine W.set_plain X I hs ?_
 have SF:=F.store_object
 have sub:W.Looks (model prog w) s.heap (isInstance (.ref x) (.type "object")) true:=I.type.andThen (W.looks_mroIn X (by unfold W.mroIn;rw[hcd,Option.bind_some,hmro];rfl))
 refine codeAny_call_builtin SF.slot.plain SF.entry (@W.check_slot (model prog w) _ _ {s with toks:=s.toks+1} "object.__setattr__" "object" "__setattr__" (.ref x) [.str name s.toks,v] [] _ SF.kind SF.split sub (SF.args (.ref x) (.str name s.toks) v) ?_)
 obtain⟨attr,ha,hr⟩:=Option.bind_eq_some_iff.mp ht
 have hmo:W.Looks (model prog w) s.heap (mroOf (.ref C)) cd.mro:=(W.looks_clsIn X hcd).andThen .now
 have L3:W.Looks (model prog w) s.heap (Builtin.ObjectAttr.storeTaker? attr) none:=by
  cases attr with
  |none=>exact .now
  |some a=>
   obtain⟨b,hb,e⟩:=Option.map_eq_some_iff.mp hr
   refine(W.looks_takesIn X hb).andThen ?_
   cases b
   .exact .now
   .cases e
 rw[W.osa_eq,refuse_eq]
 refine wpAny_bind (wpAny_bind (W.Looks.here (s:={s with toks:=s.toks+1}) I.type (wpAny_bind (W.Looks.here (s:={s with toks:=s.toks+1}) hmo ?_))))
 rw[hmro,refuseLoop_ref,refuseLoop_ref,F.store_ValueError.passes]
 refine wpAny_pure (wpAny_bind (W.Looks.here (s:={s with toks:=s.toks+1}) I.type (wpAny_bind (W.Looks.here (s:={s with toks:=s.toks+1}) (W.looks_findIn X ha) (wpAny_bind (W.Looks.here (s:={s with toks:=s.toks+1}) L3 ?_))))))
 obtain⟨oc,od,oda,osl⟩:=ox
 dsimp only at hc hf hd
 subst hc hf hd
 refine wpAny_bind (wpAny_pure (wpAny_bind (wpAny_bind (wpAny_loadPart (s:={s with toks:=s.toks+1}) hx (wpAny_bind (W.Looks.here (s:={s with toks:=s.toks+1}) (W.looks_clsIn X hcd) ?_))))))
 rw[hdc]
 rw[if_neg (by decide)]
 show wpAny _ _ (if(!true|| !typeHasDict (Value.ref C))=true then pure none else(alloc {cls:=.type "dict",data:=.dict #[]}>>=λd=>update x (λo=>{o with dict:=some d})>>=λ_=>dictMade (Value.ref C) x d)) _ _ _
 rw[if_neg (by simp[typeHasDict])]
 have hx₁:(s.heap.push {cls:=.type "dict",data:=.dict #[]}).get? x=some {cls:=.ref C,data:=.fields vs,slots:=osl}:=Heap.get?_push_of_some _ hx
 have hxs:x≠s.heap.objs.size:=Nat.ne_of_lt (Heap.lt_size hx)
 refine wpAny_bind (wpAny_alloc (s:={s with toks:=s.toks+1}) ?_)
 refine wpAny_bind (wpAny_update (s:={s with heap:=s.heap.push {cls:=.type "dict",data:=.dict #[]},toks:=s.toks+1}) hx₁ ?_)
 refine wpAny_pure ?_
 have hgd:((s.heap.push {cls:=.type "dict",data:=.dict #[]}).update x λo=>{o with dict:=some s.heap.objs.size}).get? s.heap.objs.size=some {cls:=.type "dict",data:=.dict #[]}:=
  (Heap.get?_update_ne _ _ _ _ hxs.symm).trans (Heap.get?_push_at rfl rfl)
 have hnd:((s.heap.push {cls:=.type "dict",data:=.dict #[]}).update x λo=>{o with dict:=some s.heap.objs.size}).Ns s.heap.objs.size (λ_=>none):=
  ⟨_, #[],_,hgd,rfl,λe he=>absurd he (by simp),λ_=>rfl⟩
 show wpAny _ _ (Builtin.ObjectAttr.storeInDict s.heap.objs.size (.str name s.toks) name v) _ _ _
 unfold Builtin.ObjectAttr.storeInDict Builtin.ObjectAttr.newKeyGuard
 refine wpAny_bind (wpAny_pure (wpAny_bind (wpAny_nsSet1 (s:={s with heap:=(s.heap.push {cls:=.type "dict",data:=.dict #[]}).update x λo=>{o with dict:=some s.heap.objs.size},toks:=s.toks+1}) (Heap.Ns1.of_empty hnd) λh' hn' hs'=>?_)))
 obtain⟨oD,esD,epD,hoD,hdD,hcD⟩:=hn'.count (Within.cons name v Within.nil)
 refine wpAny_bind (wpAny_lookBehind hoD (by rw[hdD];exact pastItsLine_dict (Nat.le_trans hcD (by rw[List.length_cons,List.length_nil,sizeLine_eq];omega))) ?_)
 refine wpAny_pure (h h' _ ?_ hn' λb ob hbx hb=>?_)
 .refine(hs'.2 x hxs).trans (Heap.get?_update_self _ hx₁ rfl)
 .exact(hs'.2 b (Nat.ne_of_lt (Heap.lt_size hb))).trans ((Heap.get?_update_ne _ _ _ _ hbx).trans (Heap.get?_push_of_some _ hb))
end
theorem Mx{K:W.Frag}{h:Heap}{N:Addr}{mg:Str->Option Value}{n:Str}{v:Value}(X:K.In h)(G:h.Ns N mg)(e:W.nsIn K N n=some (some v)):mg n=some v:=by
 obtain⟨o,es,ep,ho,hd,_,hf⟩:=G
 unfold W.nsIn at e
 split at e
 .rename_i c d es' n' sl q
  have :=X _ _ q
  rw[ho]at this
  cases this
  cases hd
  split at e
  .rename_i en he
   cases e
   rw[<-hf]
   unfold nsFind findBy
   rw[<-Array.find?_toList,he]
   rfl
  .split at e<;>cases e
 .cases e
def wu(K:W.Frag)(C f:Addr):Bool:=match K.lookup C with
 |some ⟨.type "type",_,.cls cd,sl⟩=>(match cd.mro,sl.toList with
  | .ref C'::bm,[_,_,_,_,some (.builtin n),_]=>C'==C&&n=="ValueError.__new__"&& !cd.hasDel&&W.tailIn K Ii bm&&W.nsOkIn K cd.ns&&W.nsIn K cd.ns "__init__"==some (some (.ref f))
  |_,_=>false)
 |_=>false
theorem Nk{K:W.Frag}{C f:Addr}{h:Heap}(kin:K.In h)(e:wu K C f=true):
  ∃bm N nm q bs hdct sn sub ab col dd k0 k1 k2 k3 k5 mN,h.get? C=some (excClassObj nm q C N bs bm hdct sn sub ab col dd k0 k1 k2 k3 k5 "ValueError.__new__")/\h.Ns N mN/\mN "__init__"=some (.ref f)/\OwnTail h Ii bm:=by
 unfold wu at e
 split at e
 .rename_i dd cd sl ho
  split at e
  .rename_i C' bm k0 k1 k2 k3 n k5 hm hs
   simp only[Bool.and_eq_true,beq_iff_eq,Bool.not_eq_true']at e
   obtain⟨⟨⟨⟨⟨e1,e2⟩,e3⟩,e4⟩,e5⟩,e6⟩:=e
   subst e1 e2
   obtain⟨nm,bs,mro,ns,qn,hd,sn,sub,ab,col,del⟩:=cd
   dsimp only at hm e3 e5 e6
   subst hm e3
   have hl:sl= #[k0,k1,k2,k3,some (.builtin "ValueError.__new__"),k5]:=by
    obtain⟨l⟩:=sl
    simp only at hs
    rw[hs]
   subst hl
   have hN:h.Ns ns (h.nsMap ns):=.of_isNs (W.isNs_of_in kin e5)
   exact⟨bm,ns,nm,qn,bs,hd,sn,sub,ab,col,dd,k0,k1,k2,k3,k5,_,kin _ _ ho,hN,Mx kin hN e6,W.tail_of_in kin e4⟩
  .cases e
 .cases e
section
variable{prog:Program}{w:World}{A:Around}{E:Value->Shared->Prop}{h:Heap}{g:Array GenState}{d:Drawn}{t:Nat}{os:OsState}
variable{nm q:Str}{C N x:Addr}{bs bm:List Value}{hdct:Bool}{sn:List Str}{sub:List Value}{ab:Bool}{col:Option Bool}{dd:Option Addr}{k0 k1 k2 k3 k5:Option Value}{ox:Obj}{vs:Array Value}{v:Value}
theorem agD{t0:Addr}{Q:Value->Shared->Prop}(T:OwnTail h Ii bm)(hC:h.get? C=some (excClassObj nm q C N bs bm hdct sn sub ab col dd k0 k1 k2 k3 k5 "ValueError.__new__"))(hx:h.get? x=some {cls:=.ref C,data:=.fields #[.ref t0,.none,.none,.none,.bool false,.none]})
  (hq:∀h' t1,h'.get? x=some {cls:=.ref C,data:=.fields #[.ref t1,.none,.none,.none,.bool false,.none]}->(∀b o,b≠x->h.get? b=some o->h'.get? b=some o)->Q .none ⟨h',g,d,t,os⟩):
  wpAny (model prog w) A (call (.builtin "ValueError.__init__") [.ref x,v]) Q E ⟨h,g,d,t,os⟩:=by
 have F0:=F.excBase_ValueError
 refine wpAny_call (codeAny_call_builtin F0.init.plain F0.initEntry (wpAny_check_init_subT F0 T hC hx rfl ?_))
 wp_walk
 refine hq _ h.objs.size ?_ λb o hb q=>?_
 .rw[Heap.get?_update_self _ (Heap.get?_push_of_some _ hx) rfl]
  rfl
 .rw[Heap.get?_update_other _ _ (Ne.symm hb)]
  exact Heap.get?_push_of_some _ q
theorem zO{mN:Str->Option Value}{rest:List Value}{fI:Addr}{oI:Obj}{Q:Fin->Shared->Prop}(T:OwnTail h Ii bm)(hC:h.get? C=some (excClassObj nm q C N bs bm hdct sn sub ab col dd k0 k1 k2 k3 k5 "ValueError.__new__"))(hn:h.Ns N mN)(hi:mN "__init__"=some (.ref fI))
  (hfI:h.get? fI=some oI) (hfc:oI.cls= .type "function")
  (hq:∀h' e,Heap.MadeExcOf h h' e (.ref C) rest->wpAny (model prog w) A (call (.ref fI) (.ref e::rest)) (λr s'=>r= .none/\Q (.done (.ret (.ref e))) s') E ⟨h',g,d,t,os⟩) (hrest:rest.length≤sizeLine):
  wpAny (model prog w) A (Builtin.«type.__call__» ⟨.ref C::rest,[]⟩) Q E ⟨h,g,d,t,os⟩:=by
 have F0:=F.excBase_ValueError
 repeat (first |with_reducible refine wpAny_loadPart_at hC ?_ |with_reducible refine wpAny_madeBy_exc hC ?_ |wp_step)
 refine codeAny_call_builtin_code (Code.quiet_builtin _ F0.quiet) (wpAny_check_new_subT F0 T hC ?_)
 refine codeAny_exc_new_subT F0 T hC ?_ hrest
 show wpAny _ _ _ _ _ _
 generalize hh1:(h.push {cls:=.type "tuple",data:=.seq rest.toArray}).push {cls:=.ref C,data:=.fields #[.ref h.objs.size,.none,.none,.none,.bool false,.none]}=h1
 have k1':∀b o,h.get? b=some o->h1.get? b=some o:=λb o e=>by rw[<-hh1];exact Heap.get?_push_of_some _ (Heap.get?_push_of_some _ e)
 have hC₁:=k1' _ _ hC
 have hn₁:h1.Ns N mN:=let⟨o,es,ep,e,r⟩:=hn;⟨o,es,ep,k1' _ _ e,r⟩
 have hget:h1.get? (h.objs.size+1)=some {cls:=.ref C,data:=.fields #[.ref h.objs.size,.none,.none,.none,.bool false,.none]}:=by rw[<-hh1];heap_get
 have hcC:(Value.ref C::bm).contains (.ref C)=true:=by simp
 have T₁:=T.keeps k1'
 unfold isInstance
 repeat (first |with_reducible refine wpAny_loadPart_at hget ?_ |(with_reducible refine wpAny_isSubtype_exc hC₁ ?_;rw[hcC]) |wp_step)
 show wpAny _ _ (typeLookup (.ref C) _) _ _ _
 refine wpAny_typeLookup_tail hC₁ hn₁ T₁ F0.mroIs F0.init.lookup ?_
 rw[hi]
 refine wpAny_holding (wpAny_bind ?_)
 unfold bindSpecial
 refine wpAny_bind (wpAny_typeOf (T:="function") ⟨_,k1' _ _ hfI,hfc⟩ ?_)
 rw[if_pos (by decide)]
 refine wpAny_pure (wpAny_bind (wpAny_mono (hq h1 (h.objs.size+1) ⟨k1',Heap.get?_none_of_le (Nat.le_succ _),h.objs.size,hget,Heap.get?_none_of_le (Nat.le_refl _),?_⟩) (λr s' hr=>?_) λ_ _ x=>x))
 .rw[<-hh1]
  exact Heap.get?_push_of_some _ (Heap.get?_push_at rfl rfl)
 .obtain⟨rfl,hQ⟩:=hr
  wp_walk
  exact hQ
theorem Ww{mN:Str->Option Value}{rest:List Value}{fI:Addr}{oI:Obj}{Q:Value->Shared->Prop}(T:OwnTail h Ii bm)(hC:h.get? C=some (excClassObj nm q C N bs bm hdct sn sub ab col dd k0 k1 k2 k3 k5 "ValueError.__new__"))(hn:h.Ns N mN)(hi:mN "__init__"=some (.ref fI))
  (hfI:h.get? fI=some oI) (hfc:oI.cls= .type "function")
  (hq:∀h' e,Heap.MadeExcOf h h' e (.ref C) rest->wpAny (model prog w) (A.under (.builtin "type.__call__" ⟨.ref C::rest,[]⟩)) (call (.ref fI) (.ref e::rest)) (λr s'=>r= .none/\Q (.ref e) s') E ⟨h',g,d,t,os⟩) (hrest:rest.length≤sizeLine):
  wpAny (model prog w) A (call (.ref C) rest) Q E ⟨h,g,d,t,os⟩:=by
 have f1:=tc_lookup
 have f2:=tc_bind (.ref C)
 have hT:(⟨h,g,d,t,os⟩:Shared).TypeIs (.ref C) "type":=⟨_,hC,rfl⟩
 refine wpAny_call (codeAny_of_tree ?_)
 show wpAny _ _ (callAny (.ref C) _) _ _ _
 repeat (any_goals (first |assumption |with_reducible refine wpAny_loadPart_at hC ?_ |wp_step))
 refine⟨rfl,?_⟩
 exact codeAny_call_builtin_at (Code.quiet_builtin _ (by decide+kernel)) entry_typeCall (wpAny_check_type_call_sub hC (zO T hC hn hi hfI hfc hq hrest))
end
section
variable{prog:Program}{w:World}{A:Around}{E:Value->Shared->Prop}{s:Shared}{env:Env}
variable{nm q:Str}{C N:Addr}{bs bm:List Value}{hdct:Bool}{sn:List Str}{sub:List Value}{ab:Bool}{col:Option Bool}{dd:Option Addr}{k0 k1 k2 k3 k5:Option Value}
theorem Rv{M:Model}{x:Sem Value}{Q:Flow->Shared->Prop}(hbase:bm.contains (.type "BaseException")=true)(hh:A.handled=none)
  (h:wpAny M A x (λv s₁=>∃e t D,v= .ref e/\s₁.heap.get? C=some (excClassObj nm q C N bs bm hdct sn sub ab col dd k0 k1 k2 k3 k5 "ValueError.__new__")/\
   s₁.heap.get? e=some {cls:=.ref C,dict:=D,data:=.fields #[.ref t,.none,.none,.none,.bool false,.none]}/\E (.ref e) s₁) E s):
  wpAny M A (raiseStmt env (some x) none) Q E s:=by
 have hcB:(Value.ref C::bm).contains (.type "BaseException")=true:=by rw[List.contains_cons,hbase,Bool.or_true]
 unfold raiseStmt
 refine wpAny_bind (wpAny_mono h (λv s₁ h₁=>?_) λ_ _ x=>x)
 obtain⟨e,t,D,rfl,hC,he,hE⟩:=h₁
 obtain⟨hp,g,d,tk,os⟩:=s₁
 repeat (first |with_reducible refine wpAny_loadPart_at he ?_ |with_reducible refine wpAny_loadPart_at hC ?_ |(with_reducible refine wpAny_isSubtype_exc hC ?_;rw[hcB]) |wp_step)
 exact wpAny_raiseNew_none hh hE
end
def xo(e C:Addr)(D:Option Addr):HO:=.ext λh=>∃t,h.get? e=some {cls:=.ref C,dict:=D,data:=.fields #[.ref t,.none,.none,.none,.bool false,.none]}
def kJ(H:Hp)(e:Addr):Hp:=λb=>if b=e then none else H b
theorem fZ{H:Hp}{e b:Addr}(h:b≠e):kJ H e b=H b:=by unfold kJ;rw[if_neg h]
theorem xZ{H:Hp}{e:Addr}:kJ H e e=none:=by unfold kJ;rw[if_pos rfl]
theorem Sy{P:Program}{w:World}{H:Hp}{h:Heap}{e C t:Addr}{D:Option Addr}(q:h.get? e=some {cls:=.ref C,dict:=D,data:=.fields #[.ref t,.none,.none,.none,.bool false,.none]}):d7 P w H h e (xo e C D):=
 ⟨⟨t,q⟩,⟨_,q⟩,λh1 h2 ⟨t,q⟩ k=>⟨t,k _ q⟩⟩
section
variable{X:Cx}{pins:List (Addr×Obj)}{σ:St}{H:Hp}{s:Shared}{e:Addr}{φ:Heap->Prop}
theorem Inv.adopt(I:Inv X pins σ H s)(hn:H e=none)(c:Ch X pins e)(ok:d7 X.prog X.w (upd H e (.ext φ)) s.heap e (.ext φ)):Inv X pins σ (upd H e (.ext φ)) s:=by
 have ne:∀b u,H b=some u->b≠e:=λb u q=>au q hn
 have :=I.step (h':=s.heap) (H':=upd H e (.ext φ)) (g':=s.gens) (d':=s.drawn) (t':=s.toks) (ch:=[e]) (λb hb=>?_) (λb o _ _ _ q _=>q) (λb o _ _ _ q _=>⟨o.slots,q⟩) (λb o hc _ n=>?_) (λb o _ q=>⟨o,q⟩) (λb xs q=>?_) (λb o u q=>?_) (λb ps q=>?_) (λm q=>q) (λb u q=>?_) I.bare
 .exact this
 .have z:b=e:=by simpa using hb
  subst z
  exact c
 .rw[aB (λz=>hc (by simp[z]))];exact n
 .rw[aB (ne _ _ q)];exact q
 .rw[aB (ne _ _ q)];exact q
 .exact⟨#[],by rw[aB (ne _ _ q),q];simp⟩
 .by_cases z:b=e
  .subst z
   rw[ao]at q
   cases q
   exact ok
  .rw[aB z]at q
   exact(I.hok b u q).stay (λ_ _ _ r=>r) (λc r=>by rw[aB (ne _ _ r)];exact r) λc xs r=>by rw[aB (ne _ _ r)];exact r
theorem Inv.forget(I:Inv X pins σ H s)(hn:H e=some (.ext φ))(c:Ch X pins e):Inv X pins σ (kJ H e) s:=by
 have :=I.step (h':=s.heap) (H':=kJ H e) (g':=s.gens) (d':=s.drawn) (t':=s.toks) (ch:=[e]) (λb hb=>?_) (λb o _ _ _ q _=>q) (λb o _ _ _ q _=>⟨o.slots,q⟩) (λb o hc _ n=>?_) (λb o _ q=>⟨o,q⟩) (λb xs q=>?_) (λb o u q=>?_) (λb ps q=>?_) (λm q=>q) (λb u q=>?_) I.bare
 .exact this
 .have z:b=e:=by simpa using hb
  subst z
  exact c
 .rw[fZ (λz=>hc (by simp[z]))];exact n
 .rw[fZ (λz=>by rw[z,hn]at q;cases q)];exact q
 .rw[fZ (λz=>by rw[z,hn]at q;cases q)];exact q
 .exact⟨#[],by rw[fZ (λz=>by rw[z,hn]at q;cases q),q];simp⟩
 .by_cases z:b=e
  .subst z
   rw[xZ]at q
   cases q
  .rw[fZ z]at q
   exact(I.hok b u q).stay (λ_ _ _ r=>r) (λc r=>by rw[fZ (λz=>by rw[z,hn]at r;cases r)];exact r) λc xs r=>by rw[fZ (λz=>by rw[z,hn]at r;cases r)];exact r
end
structure XBase(K:W.Frag)(mg:Str->Option Value)(x:Str):Prop where
 at_:mg x=some (.ref (aj mg x))
 reads:W.readsIn K (aj mg x) (.type "type")=true
 ini:W.findCls K (.ref (aj mg x)) (.type "type") "__init__"=some (.val (.builtin "ValueError.__init__"))
 ga:W.specialIn K (.ref (aj mg x)) "__getattribute__"=some (some (.builtin "type.__getattribute__"))
structure agU(K:W.Frag)(mg:Str->Option Value)(Lx x qual fld:Str)(st:Stmt):Prop where
 at_:mg x=some (.ref (aj mg x))
 ex:∃f fd,gn K "__init__" qual st f fd/\wu K (aj mg x) f=true/\W.isFn K (.ref f)=true
 sa:W.findIn K (.ref (aj mg x)) "__setattr__"=some (some (.builtin "object.__setattr__"))
 tk:W.takerIn K (aj mg x) fld=some none
 xc:j6 K (aj mg x) (aj mg Lx)=true
def Tj(C:Addr)(fld:Str):Sp:=λvs H Q _=>∃e n,vs=[.ref e,.int n]/\n.natAbs<10^60/\H e=some (xo e C none)/\
 ∀D H',D≠e->H D=none->(∀b o,b≠e->H b=some o->H' b=some o)->H' e=some (xo e C (some D))->H' D=some (.xd [(fld,.int n)])->Q .non H'
section
variable{X:Cx}{σ:St}{H:Hp}{Q:VK}{D:Ends}{Lx x f fld:Str}{np apos pos pos' cpos:Pos}{a o value:Expr}{es:List Expr}{Kx:St->XK}
theorem ZP{pl:Sem Bool}(B:XBase X.K X.mg Lx)(hg:Gl X Lx)(hd:(Lx==("__debug__":Str))=false)(hst:starEach (a::es) X.env=(false,eval a X.env)::starEach es X.env)(hpl:(backTo pos (starEach es X.env)).any (·.1)=false)
  (ht:eval (.Call (.Attribute (.Name Lx np) "__init__" apos) (a::es) [] pos) X.env=(do
   let ov<-eval (.Name Lx np) X.env
   standAt apos.atName
   let(f,first)<-holding [ov] (getMethod ov "__init__" pl)
   callWith pos f first (backTo pos (starEach (a::es) X.env)) (backToKw pos (keywordEach [] X.env))))
  (h:EA X (a::es) σ H λvs H1=>CL X (.builtin "ValueError.__init__") vs H1 Q):EV X (.Call (.Attribute (.Name Lx np) "__init__" apos) (a::es) [] pos) σ H Q:=by
 intro pins s I
 refine W.methodCall_KW (pl:=pl) (jB I hg B.at_ ?_ hd) ht
 refine W.method_cls I.kIn B.ga (W.cls_value I.kIn B.reads B.ini (by decide+kernel) ?_)
 have I1:=I.tok (s.toks+1)
 have h':=h pos pins _ I1
 rw[hst]at h'⊢
 refine Calls.callWith_builtin (by show(false||(backTo pos (starEach es X.env)).any (·.1))=false;rw[hpl];rfl) (Calls.evalArgs_plain ?_)
 refine cU h' λus s2 ⟨vs,H2,I2,r2,c,h1,q2⟩=>?_
 exact h1 pins s2 σ H2 vs us Q I2 r2 q2
theorem aeH{C ff:Addr}{e:Addr}{v:V}(hi:wu X.K C ff=true)(he:H e=some (xo e C none))(q:Q .non H):CL X (.builtin "ValueError.__init__") [.ref e,v] H Q:=by
 refine gJ (r:=λxs H Q=>∃e v,xs=[.ref e,v]/\H e=some (xo e C none)/\Q .non H) ?_ ⟨e,v,rfl,he,q⟩
 intro pins s σ H xs us Q I r h
 obtain⟨e,v,rfl,he,q⟩:=h
 obtain⟨u1,u2,rfl,r1,r2⟩:=vals2 r
 cases(show u1=Value.ref e from r1)
 obtain⟨bm,N,nm,qn,bs,hdct,sn,sub,ab,col,dd,k0,k1,k2,k3,k5,mN,hC,hN,hni,T⟩:=Nk I.kIn hi
 obtain⟨⟨t,ht⟩,_,_⟩:=I.hok e _ he
 obtain⟨hp,g,d,tk,os⟩:=s
 refine agD T hC ht λh' t1 h1 k=>?_
 have hw:=I.write (x:=e) (e:=e) (o:=xo e C none) (h':=h') (t':=tk) (by rw[he];trivial) (.inl rfl) (λb u n q=>k b u n q) ⟨_,h1⟩ (Sy h1)
 have hid:upd H e (xo e C none)=H:=by
  funext b
  unfold upd
  split
  .rename_i z;rw[z,he]
  .rfl
 rw[hid]at hw
 exact⟨.non,H,hw,rfl,q⟩
theorem Yb{C L:Addr}(hs:W.findIn X.K (.ref C) "__setattr__"=some (some (.builtin "object.__setattr__")))(hm:j6 X.K C L=true)(ht:W.takerIn X.K C f=some none)
  (hsw:swapsWith value (some (.Attribute o f pos')) pos.line X.env=pure false)
  (h:EV X value σ H λy H1=>EV X o σ H1 λx H2=>∃e,x= .ref e/\H2 e=some (xo e C none)/\∀E',H2 E'=none->E'≠e->D.nx σ (upd (upd H2 E' (.xd [(f,y)])) e (xo e C (some E')))):
  SX X (.Assign [.Attribute o f pos'] value pos) D σ H:=by
 intro pins s I
 refine plainObj_wpAny_Assign_Attribute (cU (h pins s I) λu s1 ⟨y,H1,I1,ry,q⟩=>cU (q pins s1 I1) λov s2 ⟨x,H2,I2,rx,e,ex,he,q2⟩=>?_) hsw
 subst ex
 obtain rfl:ov=Value.ref e:=rx
 obtain⟨⟨t,hte⟩,_,_⟩:=I2.hok e _ he
 refine Yr I2.kIn hte rfl rfl rfl hs hm ht λh' tk g1 g2 g3=>?_
 have hDn:H2 s2.heap.objs.size=none:=I2.hok.fresh (Nat.le_refl _)
 have hDe:s2.heap.objs.size≠e:=λz=>by rw[z]at hDn;rw[hDn]at he;cases he
 have ne:∀b u,H2 b=some u->u≠xo e C none->b≠e:=λb u q n z=>by rw[z,he]at q;cases q;exact n rfl
 have nD:∀b u,H2 b=some u->b≠s2.heap.objs.size:=λb u q=>au q hDn
 refine⟨σ,_,?_,q2 s2.heap.objs.size hDn hDe⟩
 refine I2.step (h':=h') (g':=s2.gens) (d':=s2.drawn) (t':=tk) (ch:=[]) (λb hb=>absurd hb (by simp)) (λb o _ _ _ q n=>g3 b o (λz=>by rw[z,he]at n;cases n) q) (λb o _ _ _ q n=>⟨o.slots,g3 b o (λz=>by rw[z,he]at n;cases n) q⟩) (λb o _ q n=>?_) (λb o _ q=>?_) (λb xs q=>?_) (λb o u q=>?_) (λb ps q=>?_) (λm hm'=>?_) (λb u q=>?_) I2.bare
 .rw[aB (λz=>by rw[z,he]at n;cases n),aB (Nat.ne_of_lt (Heap.lt_size q))]
  exact n
 .by_cases z:b=e
  .subst z;exact⟨_,g1⟩
  .exact⟨o,g3 b o z q⟩
 .rw[aB (ne _ _ q (λz=>nomatch z)),aB (nD _ _ q)];exact q
 .rw[aB (ne _ _ q (λz=>nomatch z)),aB (nD _ _ q)];exact q
 .exact⟨#[],by rw[aB (ne _ _ q (λz=>nomatch z)),aB (nD _ _ q),q];simp⟩
 .obtain⟨o,es,ep,ho,r⟩:=hm'
  exact⟨o,es,ep,g3 _ _ (λz=>by have :=I2.free;rw[z,he]at this;cases this) ho,r⟩
 .by_cases z:b=e
  .subst z
   rw[ao]at q
   cases q
   exact Sy g1
  .rw[aB z]at q
   by_cases z2:b=s2.heap.objs.size
   .subst z2
    rw[ao]at q
    cases q
    refine⟨_,g2,λn=>?_⟩
    by_cases hf:n=f
    .subst hf
     simp only[if_true,List.lookup_cons,beq_self_eq_true]
     exact ry
    .rw[if_neg hf,List.lookup_cons,beq_eq_false_iff_ne.mpr hf]
     trivial
   .rw[aB z2]at q
    refine(I2.hok b u q).stay (λc v hc r=>g3 c v ?_ r) (λc r=>?_) λc xs r=>?_
    .rcases hc with y |y
     .rw[y];exact z
     .exact ne _ _ y (λz=>nomatch z)
    .rw[aB (ne _ _ r (λz=>nomatch z)),aB (nD _ _ r)];exact r
    .rw[aB (ne _ _ r (λz=>nomatch z)),aB (nD _ _ r)];exact r
end
structure abM(P:Program)(w:World)(K:W.Frag)(mg:Str->Option Value)(base:Heap)(cc:Bool)(k:Nat)(x fld:Str):Prop where
 at_:mg x=some (.ref (aj mg x))
 ex:∃f fd ps oc od osl,uT P w K mg base (Dk P w) cc k f fd ps (Tj (aj mg x) fld)/\Binds K fd ps []/\wu K (aj mg x) f=true/\K.lookup f=some ⟨oc,od,.func fd,osl⟩/\oc= .type "function"
section
variable{prog:Program}{w:World}{A:Around}{E:Value->Shared->Prop}{s:Shared}{env:Env}
variable{nm q:Str}{C N:Addr}{bs bm:List Value}{hdct:Bool}{sn:List Str}{sub:List Value}{ab:Bool}{col:Option Bool}{dd:Option Addr}{k0 k1 k2 k3 k5:Option Value}
theorem Qu{mN:Str->Option Value}{fI:Addr}{oI:Obj}{x:Str}{np cpos pos:Pos}{args:List Expr}{Q:Flow->Shared->Prop}
  (hbase:bm.contains (.type "BaseException")=true) (hh:A.handled=none) (hplain:(backTo cpos (starEach args env)).any (·.1)=false) (hi:mN "__init__"=some (.ref fI)) (hfc:oI.cls= .type "function")
  (h:wpAny (model prog w) A (eval (.Name x np) env) (λf s₁=>f= .ref C/\wpAny (model prog w) A (evalArgs (.ref C) true (backTo cpos (starEach args env)) [])
   (λa s₂=>a.kw=[]/\a.pos.length≤sizeLine/\s₂.heap.get? C=some (excClassObj nm q C N bs bm hdct sn sub ab col dd k0 k1 k2 k3 k5 "ValueError.__new__")/\s₂.heap.Ns N mN/\OwnTail s₂.heap Ii bm/\s₂.heap.get? fI=some oI/\
    ∀h' e,Heap.MadeExcOf s₂.heap h' e (.ref C) a.pos->wpAny (model prog w) (A.under (.builtin "type.__call__" ⟨.ref C::a.pos,[]⟩)) (call (.ref fI) (.ref e::a.pos))
     (λr s'=>r= .none/\∃t D,s'.heap.get? C=some (excClassObj nm q C N bs bm hdct sn sub ab col dd k0 k1 k2 k3 k5 "ValueError.__new__")/\
      s'.heap.get? e=some {cls:=.ref C,dict:=D,data:=.fields #[.ref t,.none,.none,.none,.bool false,.none]}/\E (.ref e) s') E {s₂ with heap:=h'}) E s₁) E s):
  wpAny (model prog w) A (exec (.Raise (some (.Call (.Name x np) args [] cpos)) none pos) env) Q E s:=by
 rw[arm_exec_Raise]
 refine wpAny_bind (wpAny_standAt (Rv (C:=C) (nm:=nm) (q:=q) (N:=N) (bs:=bs) (bm:=bm) (hdct:=hdct) (sn:=sn) (sub:=sub) (ab:=ab) (col:=col) (dd:=dd) (k0:=k0) (k1:=k1) (k2:=k2) (k3:=k3) (k5:=k5) hbase hh ?_))
 refine wpAny_bind (wpAny_mono (wpAny_Call_ofName (wpAny_mono h (λf s₁ h₁=>?_) λ_ _ x=>x)) (λv s₃ h₃=>wpAny_bind (wpAny_standAt (wpAny_pure h₃))) λ_ _ x=>x)
 obtain⟨rfl,h₁⟩:=h₁
 unfold callWith
 refine wpAny_bind (wpAny_holding (wpAny_mono h₁ (λa s₂ h₂=>wpAny_bind (wpAny_standAt ?_)) λ_ _ x=>x))
 obtain⟨apos,akw⟩:=a
 obtain⟨hkw,hlen,hC,hn,T,hfI,h₂⟩:=h₂
 obtain rfl:akw=[]:=hkw
 obtain⟨hp,g,d,tk,os⟩:=s₂
 simp only[hplain]
 refine wpAny_bind (wpAny_keeperOf_exc hC ?_)
 refine wpAny_bind (Ww T hC hn hi hfI hfc (λh' e hm=>?_) hlen)
 refine wpAny_mono (h₂ h' e hm) (λr s' hr=>⟨hr.1,?_⟩) λ_ _ z=>z
 obtain⟨t,D,g1,g2,g3⟩:=hr.2
 exact wpAny_bind (wpAny_holding (wpAny_point (wpAny_pure ⟨e,t,D,rfl,g1,g2,g3⟩)))
end
section
variable{X:Cx}{Kx:St->XK}{D:Ends}{σ:St}{H:Hp}{x fld:Str}{np cpos pos:Pos}{e:Expr}{es:List Expr}{cc Cj:Bool}{k k':Nat}
theorem Bh(O:abM X.prog X.w X.K X.mg X.base Cj k x fld)(hr:dU cc k' X.A)(hk:k+1≤k')(hcc:Cj=true->cc=true)(hx:Dl X Kx)(hc:X.calm=true)(hg:Gl X x)(hd:(x==("__debug__":Str))=false)(he:starEach (e::es) X.env=(false,eval e X.env)::starEach es X.env)
  (hpl:(backTo cpos (starEach es X.env)).any (·.1)=false)
  (h:EA X (e::es) σ H λvs H1=>∃n,vs=[.int n]/\n.natAbs<10^60/\∀E' H',aq H1 H'->H' E'=some (.xd [(fld,.int n)])->Kx σ (.ref (aj X.mg x)) (some E',true) H'):
  SX X (.Raise (some (.Call (.Name x np) (e::es) [] cpos)) none pos) D σ H:=by
 intro pins s I
 obtain⟨f,fd,ps,oc,od,osl,Fn,hb,hi,hlk,hoc⟩:=O.ex
 obtain⟨bm,N,nm,q,bs,hdct,sn,sub,ab,col,dd,k0,k1,k2,k3,k5,mN,hC,hN,hni,T⟩:=Nk I.ok.mod.kin hi
 have hr':dU Cj (k+1) X.A:=(hr.mono hk).xF hcc
 refine Qu (C:=aj X.mg x) (nm:=nm) (q:=q) (N:=N) (bs:=bs) (bm:=bm) (hdct:=hdct) (sn:=sn) (sub:=sub) (ab:=ab) (col:=col) (dd:=dd) (k0:=k0) (k1:=k1) (k2:=k2) (k3:=k3) (k5:=k5) (mN:=mN) (fI:=f) (oI:=⟨oc,od,.func fd,osl⟩)
  (T.hasType (by decide+kernel)) (I.ok.hd hc) ?_ hni hoc (jB I hg O.at_ ⟨rfl,?_⟩ hd)
 .rw[he]
  show(false||(backTo cpos (starEach es X.env)).any (·.1))=false
  rw[hpl]
  rfl
 .have h':=h cpos pins s I
  rw[he]at h'⊢
  refine Calls.evalArgs_plain (cU h' λus s2 ⟨vs,H1,I2,r,n,ev,hn,kq⟩=>?_)
  subst ev
  obtain⟨u,rfl,ru⟩:=vals1 r
  refine⟨rfl,by show 1≤sizeLine;rw[sizeLine_eq];decide,I2.bk _ _ hC,hN.keeps I2.bk,T.keeps I2.bk,I2.kIn _ _ hlk,λh3 a M=>?_⟩
  obtain⟨t,m1,m2,m3⟩:=M.there
  have hfree:H1 a=none:=I2.hok.free M.new
  have hch:Ch X pins a:=I2.ch M.new
  have I3:Inv X pins σ H1 {s2 with heap:=h3}:=I2.kept (t':=s2.toks) M.keeps
  have I4:Inv X pins σ (upd H1 a (xo a (aj X.mg x) none)) {s2 with heap:=h3}:=I3.adopt hfree hch (Sy m1)
  have rv:Vals [V.ref a,.int n] [Value.ref a,u]:=.cons rfl (.cons ru .nil)
  have hsp:Tj (aj X.mg x) fld [V.ref a,.int n] (upd H1 a (xo a (aj X.mg x) none)) (λv H'=>v= .non/\∃E',H' a=some (xo a (aj X.mg x) (some E'))/\H' E'=some (.xd [(fld,.int n)])/\E'≠a/\∀b o,b≠a->H1 b=some o->H' b=some o) (λ_ _ _=>False):=
   ⟨a,n,rfl,hn,ao,λE' H' h1 h2 h3' h4 h5=>⟨rfl,E',h4,h5,h1,λb o hb q=>h3' b o hb (by rw[aB hb];exact q)⟩⟩
  have hl:([Value.ref a,u]:List Value).length=ps.length:=by rw[<-rv.length];exact Fn.len _ _ _ _ hsp
  have hb':=hb {s2 with heap:=h3} [Value.ref a,u] I4.kIn (by simpa using hl)
  rw[List.append_nil]at hb'
  refine wpAny_call (codeAny_mono (Fn.run (X.A.under (.builtin "type.__call__" ⟨.ref (aj X.mg x)::[u],[]⟩)) X.stack {s2 with heap:=h3} _ ⟨[Value.ref a,u],[]⟩ [Value.ref a,u] [V.ref a,.int n] _ (λ_ _ _=>False) (hr'.make (aj X.mg x) [u] [])
   (I4.env0.make (aj X.mg x) [u] []) hb' rv hsp) λr s' hq=>?_)
  cases r with
  |error e=>exact(Dk.never hq).elim
  |ok fl=>
   cases fl with
   |ret v=>
    obtain⟨v',H',I5,rr,ev,E',g1,g2,g3,g4⟩:=I4.after hq
    subst ev
    obtain⟨⟨t',ht'⟩,_,_⟩:=I5.hok a _ g1
    have I6:=I5.forget g1 hch
    refine⟨rr,t',some E',I5.bk _ _ hC,ht',?_⟩
    refine hx pins σ _ s' a _ (some E',true) ⟨I6,none,.none,⟨_,_,ht',rfl,rfl,rfl,rfl,by simp,Ctx.yes rfl,λT z=>nomatch z⟩,.inl rfl,λb hb=>?_⟩ (kq E' _ (λb o q=>?_) ?_)
    .have z:b=a:=by simpa using hb
     subst z
     exact⟨xZ,hch⟩
    .have hba:b≠a:=au q hfree
     rw[fZ hba]
     exact g4 b o hba q
    .rw[fZ g3]
     exact g2
   |next=>exact False.elim hq
   |brk=>exact False.elim hq
   |cont=>exact False.elim hq
end
structure Br(K:W.Frag)(C:Addr):Prop where
 hd:W.hasDictIn K C=true
 ga:W.findIn K (.ref C) "__getattribute__"=some (some (.builtin "BaseException.__getattribute__"))
 gt:W.findIn K (.ref C) "__getattr__"=some none
 cl:W.findIn K (.ref C) "__class__"=some (some (.builtin "object.__class__"))
 cg:W.specialIn K (.builtin "object.__class__") "__get__"=some (some (.builtin "getset_descriptor.__get__"))
 ct:W.takesIn K (.builtin "object.__class__")=some true
 mo:W.mroIn K C (.type "object")=some true
 mb:W.mroIn K C (.type "BaseException")=some true
section
variable{prog:Program}{w:World}{A:Around}{E:Value->Shared->Prop}{s:Shared}{K:W.Frag}{x C:Addr}{ox:Obj}{od:Option Obj}{name:Str}{v:Value}
theorem amm{tk:Tok}{fill expr:Bool}{Q:Value->Shared->Prop}(X:K.In s.heap)(I:W.InstAt s.heap x ox C od)(c:Br K C)
  (h:wpAny (model prog w) A.in1 (Builtin.«object.__getattribute__» ⟨[.ref x,.str name tk],[]⟩) (λfin s'=>match fin with
   | .done (.ret v)=>wpAny (model prog w) A (handedOut v) Q E s'
   |_=>False) (λ_ _=>False) s):wpAny (model prog w) A (getAttrBy (.ref x) (.str name tk) fill expr) Q E s:=by
 have FB:=F.attrBase_ValueError
 have sub:W.Looks (model prog w) s.heap (isInstance (.ref x) (.type "BaseException")) true:=I.type.andThen (W.looks_mroIn X c.mb)
 unfold getAttrBy
 refine wpAny_holding (wpAny_bind (I.type.here (wpAny_bind ((W.looks_findIn X c.ga).here ?_))))
 dsimp only
 have hx2:(Value.builtin "BaseException.__getattribute__"==Value.builtin "object.__getattribute__")=false:=by decide+kernel
 rw[if_neg (by rw[hx2,Bool.and_false];exact Bool.false_ne_true)]
 unfold getAttrByItsOwn hookBefore
 rw[if_pos (show onTheHeap (Value.ref C)=true from rfl)]
 refine wpAny_bind ((W.looks_findIn X c.gt).here ?_)
 refine wpAny_bind (wpAny_attempt (wpAny_holding ?_))
 unfold callGetattribute
 rw[if_neg (by cases expr<;>exact Bool.false_ne_true)]
 unfold boundAndCalled
 rw[FB.ga.bind]
 refine wpAny_bind (wpAny_pure (wpAny_call (codeAny_call_builtin FB.ga.plain F.entry_bexc_ga (@W.check_slot (model prog w) _ _ s "BaseException.__getattribute__" "BaseException" "__getattribute__" (.ref x) [.str name tk] [] _ (by decide+kernel) (by decide+kernel) sub (F.args_bexc_ga _ _) ?_))))
 refine wpAny_mono h (λfin s' z=>?_) λ_ _ z=>z.elim
 rcases fin with(_ |_ |_ |_) |_<;>first |exact z |exact z.elim
theorem Eg{a g:Value}(hc:(W.clsIn K C).isSome=true)(ha:W.findIn K (.ref C) name=some (some a))(hg:W.specialIn K a "__get__"=some (some g))(ht:W.takesIn K a=some true):W.findObj K C od name=some (.bind g a):=by
 obtain⟨cd,hc⟩:=Option.isSome_iff_exists.mp hc
 unfold W.findObj
 rw[hc,Option.bind_some,ha,Option.bind_some]
 simp[hg,ht]
theorem ZR{Q:Option Value->Shared->Prop}(X:K.In s.heap)(I:W.InstAt s.heap x ox C od)(c:Br K C)(h:Q (some (.ref C)) {s with toks:=s.toks+1}):wpAny (model prog w) A (getAttr? (.ref x) "__class__") Q E s:=by
 have hf:W.findObj K C od "__class__"=some (.bind (.builtin "getset_descriptor.__get__") (.builtin "object.__class__")):=Eg (by obtain⟨cd,hc,_⟩:=W.any_some c.hd;rw[hc];rfl) c.cl c.cg c.ct
 have L1:=W.looks_find (M:=model prog w) X I hf
 unfold getAttr? getAttrBy?
 refine wpAny_bind (wpAny_mkText (wpAny_bind (wpAny_attempt (amm (s:={s with toks:=s.toks+1}) X I c ?_))))
 unfold Builtin.«object.__getattribute__»
 refine wpAny_bind (wpAny_pure ?_)
 dsimp only
 refine wpAny_bind (wpAny_pure (wpAny_bind (W.Looks.here (s:={s with toks:=s.toks+1}) I.type (wpAny_bind (W.Looks.here (s:={s with toks:=s.toks+1}) L1 ?_)))))
 show wpAny _ _ (holding [.builtin "object.__class__"] (call (.builtin "getset_descriptor.__get__") [.builtin "object.__class__",.ref x,.ref C])>>=ret) _ _ _
 refine wpAny_bind (wpAny_holding (wpAny_call (W.class_get (s:={s with toks:=s.toks+1}) X I c.mo (wpAny_pure ?_))))
 exact W.handed_on rfl (wpAny_pure h)
theorem VH(c:Br K C):W.KitX K (.ref x) (.ref C) (λh=>∃ox od,W.InstAt h x ox C od)where
 ty:=λ_ _ _ ⟨_,_,I⟩=>I.type
 it:=λ_ _ X _=>by
  obtain⟨cdD,hcD,_⟩:=W.any_some c.hd
  unfold W.clsIn at hcD
  split at hcD
  .rename_i c' d' cd' sl' ho
   intro A' Q' E' s' k q
   unfold isType loadHead
   exact wpAny_bind (wpAny_loadPart (k _ _ (X _ _ ho)) (wpAny_pure q))
  .cases hcD
 ne:=λh tp dd its n sl X htp=>by
  obtain⟨cdD,hcD,_⟩:=W.any_some c.hd
  refine Bool.eq_false_iff.mpr λq=>?_
  have e:C=tp:=Value.ref.inj (beq_iff_eq.mp q)
  subst e
  unfold W.clsIn at hcD
  split at hcD
  .rename_i c' d' cd' sl' ho
   have z:=(X _ _ ho).symm.trans htp
   cases z
  .cases hcD
 ca:=λX ⟨_,_,I⟩ k=>ZR X I c k
end
def xw(e C:Addr)(D:Option Addr):HO:=.ext λh=>∃oe vs,h.get? e=some oe/\oe.cls= .ref C/\oe.dict=D/\oe.data= .fields vs
theorem ajO{P:Program}{w:World}{H:Hp}{h:Heap}{e C:Addr}{D:Option Addr}{oe:Obj}{vs:Array Value}(q:h.get? e=some oe)(hc:oe.cls= .ref C)(hd:oe.dict=D)(hf:oe.data= .fields vs):d7 P w H h e (xw e C D):=
 ⟨⟨oe,vs,q,hc,hd,hf⟩,⟨_,q⟩,λh1 h2 ⟨oe,vs,q,r⟩ k=>⟨oe,vs,k _ q,r⟩⟩
section
variable{X:Cx}{σ:St}{H:Hp}{Q:VK}{e C:Addr}{D:Option Addr}{k:Bool}
theorem Inv.inst{pins:List (Addr×Obj)}{s:Shared}(I:Inv X pins σ H s)(he:H e=some (xw e C D))(hd:∀E',D=some E'->∃fs,H E'=some (.xd fs)):∃ox od,W.InstAt s.heap e ox C od/\∀E' fs,D=some E'->H E'=some (.xd fs)->∃o,od=some o/\∃mA:Str->Option Value,(∀f,yF (fs.lookup f) (mA f))/\∀n,W.lookIn n o=some (mA n):=by
 obtain⟨⟨oe,vs,q,hc,hdd,hf⟩,_,_⟩:=I.hok e _ he
 cases D with
 |none=>exact⟨oe,none,⟨q,hc,by unfold W.notCls;rw[hf],by rw[hdd];trivial⟩,λE' fs z=>nomatch z⟩
 |some E'=>
  obtain⟨fs,h1⟩:=hd E' rfl
  obtain⟨mA,hns,hr⟩:=I.hok E' _ h1
  obtain⟨o,ho,hl⟩:=Ah hns
  refine⟨oe,some o,⟨q,hc,by unfold W.notCls;rw[hf],by rw[hdd];exact ho⟩,λE2 fs2 z z2=>?_⟩
  cases z
  rw[h1]at z2
  cases z2
  exact⟨o,rfl,mA,hr,hl⟩
theorem aaX{c:V}{u:Value}(ca:Br X.K C)(he:H e=some (xw e C D))(hd:∀E',D=some E'->∃fs,H E'=some (.xd fs))(hu:∀u',RelV c u'->u'=u)(ek:W.kitOne X.K (.ref C) u=some k)(q:Q (.bl k) H):CL X (.builtin "isinstance") [.ref e,c] H Q:=by
 refine gJ (r:=λxs H Q=>xs=[.ref e,c]/\H e=some (xw e C D)/\(∀E',D=some E'->∃fs,H E'=some (.xd fs))/\Q (.bl k) H) ?_ ⟨rfl,he,hd,q⟩
 intro pins s σ H xs us Q I r h
 obtain⟨rfl,he,hd,q⟩:=h
 obtain⟨u1,u2,rfl,r1,r2⟩:=vals2 r
 cases(show u1=Value.ref e from r1)
 rw[hu u2 r2]
 obtain⟨ox,od,J,_⟩:=I.inst he hd
 exact W.kia_one (VH ca) I.kIn ⟨ox,od,J⟩ ek (λz=>nomatch z) λtk=>⟨.bl k,H,I.tok tk,rfl,q⟩
end
section
variable{X:Cx}{pins:List (Addr×Obj)}{σ:St}{H:Hp}{s:Shared}{h':Heap}
theorem Inv.aac{n:Str}{i:Nat}{m m':Str->Option Value}{t':Nat}(I:Inv X pins σ H s)(hN:X.N.Nodup)(hi:X.N[i]? =some n)(hσ:σ[i]? =some none)
  (hl:∀(i:Nat) (x:Str) (v:V),X.N[i]? =some x->σ[i]? =some (some v)->Vis X.env.scope x->∃u,RelV v u/\Look X.env s.heap m x u)
  (hn:h'.Ns X.env.locals m') (ag:∀x,x≠n->m' x=m x) (sb:∀b o,b≠X.env.locals->s.heap.get? b=some o->h'.get? b=some o) (hL:∃o,h'.get? X.env.locals=some o):Inv X pins σ H {s with heap:=h',toks:=t'}:=by
 have neL:∀b o,X.s₀.heap.get? b=some o->b≠X.env.locals:=λb o e=>Nat.ne_of_lt (Nat.lt_of_lt_of_le (Heap.lt_size e) I.ok.above)
 have cellK:∀x c,X.env.cells.lookup x=some c->∀v,s.heap.IsCell c v->h'.IsCell c v:=λx c e v ⟨o,ho,hd⟩=>⟨o,sb c o (I.cne x c e) ho,hd⟩
 refine⟨I.ok,I.os,I.bare,⟨λb o e n hb hx=>sb b o (neL b o e) (I.base.keep b o e n hb hx),λb o e n hb hx=>?_,I.base.free,λb o e hx=>?_,I.base.tups,I.base.frzs,I.base.tbls⟩,⟨m',hn,λj x v e1 e2 e3=>?_⟩,λx c e=>?_,I.free,I.freeC,λp hp=>?_,λb u e=>?_,I.len⟩
 .obtain⟨sl,e1⟩:=I.base.slot b o e n hb hx
  exact⟨sl,sb b _ (neL b o e) e1⟩
 .obtain⟨o',e1⟩:=I.base.there b o e hx
  exact⟨o',sb b o' (neL b o e) e1⟩
 .obtain⟨u,r,l⟩:=hl j x v e1 e2 e3
  refine⟨u,r,?_⟩
  have hne:x≠n:=λz=>by
   subst z
   have :=yt hN e1 hi
   subst this
   rw[hσ]at e2
   cases e2
  rcases l with l |⟨k,c,e,z⟩
  .exact .inl ⟨l.1,by rw[ag x hne];exact l.2⟩
  .exact .inr ⟨k,c,e,cellK x c e _ z⟩
 .obtain⟨v,z⟩:=I.cell x c e
  exact⟨v,cellK x c e v z⟩
 .obtain⟨e,n,ne,nf,d⟩:=I.pin p hp
  exact⟨sb _ _ ne e,n,ne,nf,d⟩
 .refine(I.hok b u e).stay (λc v hc q=>sb c v ?_ q) (λ_ q=>q) λ_ _ q=>q
  rcases hc with z |z
  .rw[z];exact au e I.free
  .exact au z I.free
end
section
variable{X:Cx}{D:Ends}{σ:St}{H:Hp}{rest:List ExceptHandler}{suite:List Stmt}{b₀:Stmt}{pos np:Pos}{x n:Str}{c:Value}{C:Addr}{d:Option Addr×Bool}{i:Nat}
abbrev acJ(D:Ends)(i:Nat)(e C:Addr)(dd:Option Addr):Ends:=
 {nx:=λσ' H'=>H' e=some (xw e C dd)/\D.nx (σ'.set i none) (kJ H' e),rt:=λv H'=>H' e=some (xw e C dd)/\D.rt v (kJ H' e),
  bk:=λσ' H'=>H' e=some (xw e C dd)/\D.bk (σ'.set i none) (kJ H' e),ct:=λσ' H'=>H' e=some (xw e C dd)/\D.ct (σ'.set i none) (kJ H' e)}
theorem ajy(hN:X.N.Nodup)(hi:nameAt X.N n=some i)(hloc:X.env.scope.names.lookup n=some .local)(hg:Gl X x)(hm:X.mg x=some c)(hd:(x==("__debug__":Str))=false)(ex:W.exmOne X.K (.ref C) c=some true)
  (h:∀e pn,H e=none->lB (X.yu (.ref e) (λ_ _=>False) pn) (b₀::suite) (acJ D i e C d.1) (σ.set i (some (.ref e))) (upd H e (xw e C d.1))):
  EH X (.ExceptHandler (some (.Name x np)) (some n) (b₀::suite) pos::rest) D σ (.ref C) d H:=by
 intro pins s e T I F ch
 have hkind:(X.env.scope.kind== .class||(X.env.scope.kind== .module&&X.env.locals !=X.env.globals))=false:=by rw[I.ok.kind];rfl
 have hil:i<X.N.length:=(List.getElem?_eq_some_iff.mp (fc hi)).1
 obtain⟨ce0,ce⟩:=ch e (by simp)
 refine wpAny_handleBy_cons (YB I F hg hm hd ex ?_) (by intro q;cases q)
 refine codeAny_handlers_suite_as (I.off F ch λs2 I2 F2=>?_)
 refine oZ I2 hN (fc hi) (.inl hloc) (v:=.ref e) rfl (λs3 I3 hb=>?_) (.inr hloc)
 obtain⟨a,sb,ha⟩:=hb
 have hea:e≠a:=by
  rcases ha with z |z
  .rw[z];exact ce.2.1
  .exact λy=>ce.2.2.1 n a z y.symm
 obtain⟨oe,vs,he,hcl,hdx,hdt,_⟩:=F2
 have he3:s3.heap.get? e=some oe:=(sb.2 e hea).trans he
 have I4:=I3.adopt ce0 ce (φ:=λh=>∃oe vs,h.get? e=some oe/\oe.cls= .ref C/\oe.dict=d.1/\oe.data= .fields vs) (ajO he3 hcl hdx hdt)
 refine wpAny_mono (h e (X.pn++pins) ce0 [] s3 I4.yu) (λf s4 q=>?_) λ_ _ q=>q.elim
 have gone:∀{σ':St} {H':Hp} {Q:Unit->Shared->Prop},Inv X pins σ' H' s4->H' e=some (xw e C d.1)->(∀s5,Inv X pins (σ'.set i none) (kJ H' e) s5->Q () s5)->wpAny (model X.prog X.w) X.A (do bindName X.env n .none;unbindBehindTheSuite X.env n pos) Q X.xe s4:=λ{σ' H' Q} J he' k=>by
  have J2:=J.forget he' ce
  have J3:Inv X pins (σ'.set i none) (kJ H' e) s4:=J2.weak (by simp) λj v e2=>by
   by_cases z:j=i
   .subst z
    rw[List.getElem?_set_self (by rw[J.len];exact hil)]at e2
    cases e2
   .rw[List.getElem?_set_ne (Ne.symm z)]at e2
    exact e2
  obtain⟨m,hn,hl⟩:=id J3.loc
  refine wpAny_nameGoes_keeps (show X.env.kindOf n=some .local from hloc) hn hkind λh' v hn' hsb=>k _ ?_
  refine J3.aac (m:=m) (m':=λx=>if x=n then v else m x) hN (fc hi) (List.getElem?_set_self (by rw[J.len];exact hil)) hl hn' (λx hx=>by rw[if_neg hx]) (λb o hb q=>(hsb.2 b hb).trans q) ?_
  obtain⟨o,_,_,ho,_⟩:=hn'
  exact⟨o,ho⟩
 cases f with
 |next=>
  obtain⟨σ',H',J,q1,q2⟩:=q
  exact gone (Inv.Eo I.ok J) q1 λs5 I5=>⟨_,_,I5,q2⟩
 |brk=>
  obtain⟨σ',H',J,q1,q2⟩:=q
  exact gone (Inv.Eo I.ok J) q1 λs5 I5=>⟨_,_,I5,q2⟩
 |cont=>
  obtain⟨σ',H',J,q1,q2⟩:=q
  exact gone (Inv.Eo I.ok J) q1 λs5 I5=>⟨_,_,I5,q2⟩
 |ret u=>
  obtain⟨v,σ',H',J,r,q1,q2⟩:=q
  exact gone (Inv.Eo I.ok J) q1 λs5 I5=>⟨v,_,_,I5,r,q2⟩
end
structure Xc(K:W.Frag)(mg:Str->Option Value)(x:Str):Prop extends XBase K mg x where
 ty:W.typeIn K (.ref (aj mg x))=some (.type "type")
 mb:W.mroIn K (aj mg x) (.type "BaseException")=some true
structure XC(K:W.Frag)(mg:Str->Option Value)(Lx x:Str):Prop where
 at_:mg x=some (.ref (aj mg x))
 xc:j6 K (aj mg x) (aj mg Lx)=true
 ty:W.typeIn K (.ref (aj mg x))=some (.type "type")
 attr:Br K (aj mg x)
section
variable{K:W.Frag}{mg:Str->Option Value}{Lx x y:Str}
theorem Kz(h:XC K mg Lx x)(v:Value):W.mroIn K (aj mg x) v=some ((Value.ref (aj mg x):: .ref (aj mg Lx)::Ii).contains v):=by
 obtain⟨cd,h1,_,h2⟩:=Vd h.xc
 unfold W.mroIn
 rw[h1,Option.bind_some,h2]
 rfl
theorem XC.cls(h:XC K mg Lx x):(W.clsIn K (aj mg x)).isSome=true:=by
 obtain⟨cd,h1,_,h2⟩:=Vd h.xc
 rw[h1]
 rfl
theorem Xc.cls(h:Xc K mg x):(W.clsIn K (aj mg x)).isSome=true:=by
 have :=h.mb
 unfold W.mroIn at this
 cases e:W.clsIn K (aj mg x)with
 |none=>rw[e]at this;cases this
 |some cd=>rfl
theorem zg{C:Addr}(t:Value)(h1:(W.clsIn K C).isSome=true)(h2:W.typeIn K (.ref C)=some (.type "type")):W.kitCls K t (.ref C)=W.subIn K t (.ref C):=by
 show(if((W.clsIn K C).isSome&&W.typeIn K (.ref C)==some (.type "type"))=true then W.subIn K t (.ref C)else none)=_
 rw[if_pos]
 rw[h1,h2]
 rfl
theorem VP(h:XC K mg Lx x)(g:XC K mg Lx y)(ne:aj mg x≠aj mg y)(nl:aj mg Lx≠aj mg y):W.subIn K (.ref (aj mg x)) (.ref (aj mg y))=some false:=by
 show W.mroIn K (aj mg x) (.ref (aj mg y))=some false
 rw[Kz h]
 have e1:(Value.ref (aj mg y)==Value.ref (aj mg x))=false:=beq_eq_false_iff_ne.mpr λz=>ne (Value.ref.inj z).symm
 have e2:(Value.ref (aj mg y)==Value.ref (aj mg Lx))=false:=beq_eq_false_iff_ne.mpr λz=>nl (Value.ref.inj z).symm
 rw[List.contains_cons,e1,List.contains_cons,e2]
 rfl
theorem abI(h:XC K mg Lx x):W.subIn K (.ref (aj mg x)) (.ref (aj mg Lx))=some true:=by
 show W.mroIn K (aj mg x) (.ref (aj mg Lx))=some true
 rw[Kz h,List.contains_cons,List.contains_cons,beq_self_eq_true]
 cases(Value.ref (aj mg Lx)==Value.ref (aj mg x))<;>rfl
theorem Pz(h:XC K mg Lx x)(g:XC K mg Lx y)(ne:aj mg x≠aj mg y)(nl:aj mg Lx≠aj mg y):W.kitOne K (.ref (aj mg x)) (.ref (aj mg y))=some false:=by
 unfold W.kitOne
 rw[if_neg (by rw[beq_eq_false_iff_ne.mpr λz=>ne (Value.ref.inj z)];exact Bool.false_ne_true),zg _ g.cls g.ty]
 exact VP h g ne nl
theorem Xm(h:XC K mg Lx x):W.kitOne K (.ref (aj mg x)) (.ref (aj mg x))=some true:=by
 unfold W.kitOne
 rw[if_pos (beq_self_eq_true _)]
theorem ac9(h:XC K mg Lx x):W.kitOne K (.ref (aj mg x)) (.type "ValueError")=some true:=by
 unfold W.kitOne
 rw[if_neg (by rw[beq_eq_false_iff_ne.mpr λz=>by cases z];exact Bool.false_ne_true)]
 show(if W.kitMeta "ValueError"=true then W.subIn K (.ref (aj mg x)) (.type "ValueError")else none)=some true
 rw[if_pos (by decide+kernel)]
 show W.mroIn K (aj mg x) (.type "ValueError")=some true
 rw[Kz h]
 rfl
theorem ZS(h:XC K mg Lx x)(b:Xc K mg Lx):W.exmOne K (.ref (aj mg x)) (.ref (aj mg Lx))=some true:=by
 unfold W.exmOne
 have e:W.subIn K (.ref (aj mg Lx)) (.type "BaseException")=some true:=b.mb
 rw[e,if_pos (by decide),zg _ b.cls b.ty]
 exact abI h
end
theorem ZC{P:Program}{w:World}{K:W.Frag}{mg:Str->Option Value}{base:Heap}{cc:Bool}{k:Nat}{Lx x qual fld:Str}{st:Stmt}{ps N:List Str}(O:agU K mg Lx x qual fld st)(S:aK N ps (aa st))
  (hb:∀(kV doc pm:Value) (an:Option Addr) (cdv ct:Value) (us:List Value),us.length=ps.length->bindArgs (W.fnOf "__init__" qual (aJ st) (az st) (aa st) .none kV doc pm an cdv ct) ⟨us,[]⟩=pure (ps.zip us))
  (len:ps.length=2)
  (body:∀(f:Addr) (cdv:Value) (A:Around) (outer:List Env) (s:Shared) (H:Hp) (vs:List V) (Q:VK) (E:XK),wu K (aj mg x) f=true->dU cc k (A.deeper (envOfC qual (aa st) s.heap.objs.size f cdv))->Tj (aj mg x) fld vs H Q E->
   lB (xu cc P w K mg base N qual (aa st) f cdv A outer s H E) (az st) {nx:=λ_ H'=>Q .non H',rt:=Q} (start N vs) H):abM P w K mg base cc (k+1) x fld:=by
 obtain⟨f,fd,F,h1,h2⟩:=O.ex
 obtain⟨oc,od,kV,doc,pm,an,cdv,ct,osl,e,lk,hcd⟩:=id F.ex
 refine⟨O.at_,f,fd,ps,oc,od,osl,OD F S (λvs H Q E h=>by obtain⟨a,n,rfl,_⟩:=h;exact len.symm) λcdv A outer s H vs Q E hr h=>body f cdv A outer s H vs Q E h1 hr h,F.binds hb,h1,lk,?_⟩
 have h3:W.typeIn K (.ref f)=some (.type "function"):=beq_iff_eq.mp h2
 have h4:Option.map (λx:Obj=>x.cls) (List.lookup f K)=some (.type "function"):=h3
 rw[lk]at h4
 exact Option.some.inj h4
section
variable{K:W.Frag}{mg:Str->Option Value}{Lx x qual fld:Str}{C L f:Addr}{st:Stmt}{fd:FuncData}
theorem ZJ(h:mg x=some (.ref C))(a1:W.readsIn K C (.type "type")=true)(a2:W.findCls K (.ref C) (.type "type") "__init__"=some (.val (.builtin "ValueError.__init__")))(a3:W.specialIn K (.ref C) "__getattribute__"=some (some (.builtin "type.__getattribute__")))
  (a4:W.typeIn K (.ref C)=some (.type "type")) (a5:W.mroIn K C (.type "BaseException")=some true):Xc K mg x:=by
 have e:=aA h
 exact {at_:=by rw[e];exact h,reads:=by rw[e];exact a1,ini:=by rw[e];exact a2,ga:=by rw[e];exact a3,ty:=by rw[e];exact a4,mb:=by rw[e];exact a5}
theorem jF(h:mg x=some (.ref C))(hL:mg Lx=some (.ref L))(a1:j6 K C L=true)(a2:W.typeIn K (.ref C)=some (.type "type"))(a3:W.hasDictIn K C=true)(a4:W.findIn K (.ref C) "__getattribute__"=some (some (.builtin "BaseException.__getattribute__")))
  (a5:W.findIn K (.ref C) "__getattr__"=some none) (a6:W.findIn K (.ref C) "__class__"=some (some (.builtin "object.__class__"))) (a7:W.specialIn K (.builtin "object.__class__") "__get__"=some (some (.builtin "getset_descriptor.__get__"))) (a8:W.takesIn K (.builtin "object.__class__")=some true)
  (a9:W.mroIn K C (.type "object")=some true) (a10:W.mroIn K C (.type "BaseException")=some true):XC K mg Lx x:=by
 have e:=aA h
 have eL:=aA hL
 exact⟨by rw[e];exact h,by rw[e,eL];exact a1,by rw[e];exact a2,by rw[e];exact⟨a3,a4,a5,a6,a7,a8,a9,a10⟩⟩
theorem Z4(h:mg x=some (.ref C))(hL:mg Lx=some (.ref L))(F:gn K "__init__" qual st f fd)(a1:wu K C f=true)(a2:W.isFn K (.ref f)=true)(a3:W.findIn K (.ref C) "__setattr__"=some (some (.builtin "object.__setattr__")))
  (a4:W.takerIn K C fld=some none) (a5:j6 K C L=true):agU K mg Lx x qual fld st:=by
 have e:=aA h
 have eL:=aA hL
 exact⟨by rw[e];exact h,⟨f,fd,F,by rw[e];exact a1,a2⟩,by rw[e];exact a3,by rw[e];exact a4,by rw[e,eL];exact a5⟩
end
theorem ajD{X:Cx}{σ:St}{H:Hp}{Q:VK}{pos:Pos}(hg:Gl X "ValueError")(hm:X.mg "ValueError"=none)(q:Q (.ty "ValueError") H):EV X (.Name "ValueError" pos) σ H Q:=aa7 hg hm (by decide+kernel) q (by decide) (by decide)
abbrev axp(h:Heap)(T:Addr)(a b c:Value):Prop:=h.get? T=some {cls:=.type "tuple",data:=.seq #[a,b,c]}
section
variable{prog:Program}{w:World}{A:Around}{E:Value->Shared->Prop}{s:Shared}
end
abbrev z3a(h:Heap)(l1:Addr):Heap:=h.push {cls:=.type "list_iterator",data:=.fields #[.ref l1,.int 0 0]}
abbrev z3b(h:Heap)(l1 l2:Addr):Heap:=(z3a h l1).push {cls:=.type "list_iterator",data:=.fields #[.ref l2,.int 0 0]}
abbrev z3c(h:Heap)(l1 l2 l3:Addr):Heap:=(z3b h l1 l2).push {cls:=.type "list_iterator",data:=.fields #[.ref l3,.int 0 0]}
abbrev z3d(h:Heap)(l1 l2 l3:Addr):Heap:=(z3c h l1 l2 l3).push {cls:=.type "tuple",data:=.seq #[.ref h.objs.size,.ref (z3a h l1).objs.size,.ref (z3b h l1 l2).objs.size]}
abbrev z3e(h:Heap)(l1 l2 l3:Addr):Heap:=(z3d h l1 l2 l3).push {cls:=.type "tuple",data:=.seq #[.none,.none,.none]}
abbrev z3f(h:Heap)(l1 l2 l3:Addr):Heap:=(z3e h l1 l2 l3).push {cls:=.type "zip",data:=.fields #[.none,.bool false,.bool false,.ref (z3c h l1 l2 l3).objs.size,.ref (z3d h l1 l2 l3).objs.size]}
section
variable{prog:Program}{w:World}{A:Around}{E:Value->Shared->Prop}{s:Shared}
end
def ayh(K:W.Frag)(l m q:Addr):It:=
 ⟨λi H=>∃xs ys zs x y z,(bf K H l xs/\bf K H m ys/\bf K H q zs)/\xs[i]? =some x/\ys[i]? =some y/\zs[i]? =some z,
  λi H v H'=>∃T x y z,v= .ref T/\H T=none/\H'=upd H T (.tup [x,y,z])/\(∀xs,bf K H l xs->xs[i]? =some x)/\(∀ys,bf K H m ys->ys[i]? =some y)/\∀zs,bf K H q zs->zs[i]? =some z,
  λi H=>∃xs ys zs,(bf K H l xs/\bf K H m ys/\bf K H q zs)/\(xs.length≤i\/ys.length≤i\/zs.length≤i)⟩
theorem vals3{x y z:V}{us:List Value}(r:Vals [x,y,z] us):∃u v w,us=[u,v,w]/\RelV x u/\RelV y v/\RelV z w:=by
 cases r with
 |cons a r=>
  cases r with
  |cons b r=>
   cases r with
   |cons c r=>
    cases r
    exact⟨_,_,_,rfl,a,b,c⟩
section
variable{X:Cx}{σ:St}{H:Hp}{a b c:Expr}{elts:List Expr}{k:Nat}{tp p pos p':Pos}{R:It->Hp->Prop}{D:Ends}
end
theorem m6:∀{us:List Value} {ys:List Str} {m:Nat} {u:Value},StrsAre us ys->us[m]? =some u->∃y t,ys[m]? =some y/\u= .str y t
 |_,_,_,_,.nil,e=>by simp at e
 |_,_,0,u,.cons y t h,e=>by
  simp at e
  exact⟨y,t,rfl,e.symm⟩
 |_,_,m+1,u,.cons y t h,e=>by
  obtain⟨y',t',e1,e2⟩:=m6 h (by simpa using e)
  exact⟨y',t',by simpa using e1,e2⟩
section
variable{X:Cx}{H:Hp}{Q:VK}
theorem Wr{a:Addr}{zs:List Str}{z:Str}{j:Nat}(h:bf X.K H a (zs.map V.str))(hj:zs[j]? =some z)(hno:∀m y,m<j->zs[m]? =some y->¬y=z)(g:Q (.int j) H):MT X "list.index" (.ref a) [.str z] H Q:=by
 refine n8 (r:=λx xs H Q=>∃a zs z j,x= .ref a/\xs=[.str z]/\bf X.K H a (zs.map V.str)/\zs[j]? =some z/\(∀m y,m<j->zs[m]? =some y->¬y=z)/\Q (.int (j:Nat)) H) ?_ ⟨a,zs,z,j,rfl,rfl,h,hj,hno,g⟩
 intro pins s σ H x xs v us Q I rx rs h
 obtain⟨a,zs,z,j,rfl,rfl,h,hj,hno,g⟩:=h
 cases rx
 obtain⟨u,rfl,ru⟩:=vals1 rs
 obtain⟨t,rfl⟩:=ru
 obtain⟨its,r,⟨⟨cls,dd,data,sl⟩,n,e,hc,hd,hs⟩,hz⟩:=I.list h
 simp only at hc hd hs
 subst hc hd hs
 have hS:=xQ r
 have hlen:its.length=zs.length:=by have :=r.length;rw[List.length_map]at this;exact this.symm
 have hjl:j<its.toArray.size:=by
  rw[List.size_toArray,hlen]
  exact(List.getElem?_eq_some_iff.mp hj).1
 rw[List.length_map]at hz
 have hsz:sizeLine=16777216:=sizeLine_eq
 have hjz:j<zs.length:=(List.getElem?_eq_some_iff.mp hj).1
 refine call_meets F.slot_list_index ⟨_,e,rfl⟩ F.entry_list_index (F.args_list_index_2 _ _) (SeqAt.list_indexAt a its.toArray n _ sl (.str z t) (isStrOf z) j hjl (by omega) ?_ ?_) ⟨e,λy hy=>(eq_isStrOf z t hS y (by simpa using hy)).at _ _,?_⟩
 .obtain⟨y,t',e1,e2⟩:=m6 (m:=j) (u:=its.toArray[j]) hS (by simp)
  rw[e2]
  rw[hj]at e1
  cases e1
  show(z==z)=true
  exact beq_self_eq_true z
 .intro m hm hmj
  obtain⟨y,t',e1,e2⟩:=m6 (m:=m) (u:=its.toArray[m]) hS (by simp)
  rw[e2]
  show(y==z)=false
  exact beq_eq_false_iff_ne.mpr (hno m y hmj e1)
 .exact⟨.int j,H,I.tok _,⟨_,rfl⟩,g⟩
def ain(A:Around)(s:Shared):List Value->List Value->Bool->Prop
 |[],[],r=>r=false
 |x::xs,y::ys,r=>∃e,SeqAt.EqAt A s x y e/\(e=true->ain A s xs ys r)/\(e=false->∀(prog:Program) (w:World) (E:Value->Shared->Prop) (Q:Value->Shared->Prop),Q (.bool r) s->wpAny (model prog w) A (richCompare .Lt x y) Q E s)
 |_,_,_=>False
def ltV:V->V->Bool
 | .int i,.int j=>decide (i<j)
 | .str x,.str y=>decide (x.cps.toList<y.cps.toList)
 |_,_=>false
def ltP(i j:Int)(x y:V):Bool:=if i=j then ltV x y else decide (i<j)
end
structure aew(P:Program)(w:World)(K:W.Frag)(mg:Str->Option Value)(base:Heap)(cc:Bool)(k:Nat)(C:Addr)(m:Str)(ps:List Str)(sp:Sp):Prop where
 cls:oY K C
 ex:∃f fd,Meth K C m f/\Binds K fd ps []/\uT P w K mg base (Dk P w) cc k f fd ps sp
structure yq(P:Program)(w:World)(K:W.Frag)(mg:Str->Option Value)(base:Heap)(cc:Bool)(k:Nat)(x:Str)(C:Addr)(ps:List Str)(sp:Sp):Prop where
 at_:mg x=some (.ref C)
 ex:∃f fd,Mk K C f/\Binds K fd ps []/\uT P w K mg base (Dk P w) cc k f fd ps sp
structure PB(P:Program)(w:World)(K:W.Frag)(mg:Str->Option Value)(base:Heap)(cc:Bool)(k:Nat)(x m:Str)(ps:List Str)(sp:Sp):Prop where
 ex:∃C f fd,mg x=some (.ref C)/\W.readsIn K C (.type "type")=true/\W.findCls K (.ref C) (.type "type") m=some (.val (.ref f))/\
  W.specialIn K (.ref C) "__getattribute__"=some (some (.builtin "type.__getattribute__"))/\W.keepIn K (.ref f)=true/\Binds K fd ps []/\uT P w K mg base (Dk P w) cc k f fd ps sp
section
variable{X:Cx}{σ:St}{H:Hp}{Q:VK}{D:Ends}{x f m:Str}{p np apos pos pos' tpos:Pos}{a e o value:Expr}{es:List Expr}{Kx:St->XK}{cc:Bool}{k':Nat}
theorem aex(hb:attributeBase e f X.env (eval e X.env)=eval e X.env)(h:EV X e σ H λx H1=>∃a C dx fs v,x= .ref a/\H1 a=some (.ins C dx fs)/\oY X.K C/\aU X.K C f/\fs.lookup f=some v/\Q v H1):EV X (.Attribute e f pos) σ H Q:=
 fQ (aen bx hb) h
theorem lY(hs:swapsWith value (some (.Attribute o f pos')) pos.line X.env=pure false)
  (h:EV X value σ H λy H1=>EV X o σ H1 λx H2=>∃a C dx fs,x= .ref a/\H2 a=some (.ins C dx fs)/\oY X.K C/\aU X.K C f/\fs.length<1000/\D.nx σ (upd H2 a (.ins C dx (fU f y fs)))):SX X (.Assign [.Attribute o f pos'] value pos) D σ H:=
 λpins s I=>aeB bx bx hs pins s σ H D I h
theorem RZ{pl:Sem Bool}(hr:dU cc k' X.A)(hx:Dl X Kx)
  (ht:eval (.Call (.Attribute o m apos) [] [] pos) X.env=(do
   let ov<-eval o X.env
   standAt apos.atName
   let(f,first)<-holding [ov] (getMethod ov m pl)
   callWith pos f first (backTo pos (starEach [] X.env)) (backToKw pos (keywordEach [] X.env))))
  (h:EV X o σ H λx H1=>∃a C dx fs Cj k ps sp,x= .ref a/\H1 a=some (.ins C dx fs)/\fs.lookup m=none/\aew X.prog X.w X.K X.mg X.base Cj k C m ps sp/\k≤k'/\(Cj=true->cc=true)/\sp [x] H1 Q (Kx σ)):
  EV X (.Call (.Attribute o m apos) [] [] pos) σ H Q:=by
 intro pins s I
 refine W.methodCall_KW (pl:=pl) (cU (h pins s I) λu s1 ⟨x,H1,I1,rx,a,C,dx,fs,Cj,k,ps,sp,ex,ea,hl,M,hk,hcc,q⟩=>?_) ht
 subst ex
 cases(show u=Value.ref a from rx)
 obtain⟨f,fd,hm,hb,F⟩:=M.ex
 refine Kg I1 ea M.cls hm hl ?_
 exact W.callWith_K0 (first:=[.ref a]) I1.kIn hm.kp (CJ (us:=[.ref a]) (vs:=[.ref a]) F ((hr.mono hk).xF hcc) hb hx I1 (.cons rfl .nil) q)
theorem sr{pl:Sem Bool}{Cj:Bool}{k:Nat}{ps:List Str}{sp:Sp}(B:PB X.prog X.w X.K X.mg X.base Cj k x m ps sp)(hr:dU cc k' X.A)(hk:k≤k')(hcc:Cj=true->cc=true)(hx:Dl X Kx)(hg:Gl X x)(hd:(x==("__debug__":Str))=false)
  (hst:starEach (e::es) X.env=(false,eval e X.env)::starEach es X.env) (hpl:(backTo pos (starEach es X.env)).any (·.1)=false)
  (ht:eval (.Call (.Attribute (.Name x np) m apos) (e::es) [] pos) X.env=(do
   let ov<-eval (.Name x np) X.env
   standAt apos.atName
   let(f,first)<-holding [ov] (getMethod ov m pl)
   callWith pos f first (backTo pos (starEach (e::es) X.env)) (backToKw pos (keywordEach [] X.env))))
  (h:EA X (e::es) σ H λvs H1=>sp vs H1 Q (Kx σ)):EV X (.Call (.Attribute (.Name x np) m apos) (e::es) [] pos) σ H Q:=by
 obtain⟨C,f,fd,hm,hrd,hf,hga,hkp,hb,F⟩:=B.ex
 intro pins s I
 refine W.methodCall_KW (pl:=pl) (jB I hg hm ?_ hd) ht
 refine W.method_cls I.kIn hga (W.cls_value I.kIn hrd hf (by rfl) ?_)
 have I1:=I.tok (s.toks+1)
 refine W.callWith_K (first:=[]) (h₀:=X.base) I.ok.mod.kin hkp (cU (h pos pins _ I1) λus s2 ⟨vs,H2,I2,r,q2⟩=>⟨I2.kIn,?_⟩) hst hpl
 exact CJ F ((hr.mono hk).xF hcc) hb hx I2 r q2
theorem Rg{cc:Bool}{k:Nat}{C g:Addr}{fd:FuncData}{ps:List Str}{sp:Sp}{pins:List (Addr×Obj)}{s:Shared}{us:List Value}{vs:List V}(M:Mk X.K C g)(F:uT X.prog X.w X.K X.mg X.base (Dk X.prog X.w) cc k g fd ps sp)(hr:dU cc (k+1) X.A)(hb:Binds X.K fd ps [])(hx:Dl X Kx)
  (I:Inv X pins σ H s) (r:Vals vs us)
  (h:∀y dx,H y=none->H dx=none->dx≠y->sp (.ref y::vs) (upd (upd H dx (.own y)) y (.ins C dx [])) (λv H2=>v= .non/\Q (.ref y) H2) (Kx σ)):
  wpAny (model X.prog X.w) X.A (call (.ref C) us) (EP X pins σ Q) X.xe s:=by
 have hy:H (s.heap.objs.size+1)=none:=I.hok.fresh (Nat.le_succ _)
 have hdx:H s.heap.objs.size=none:=I.hok.fresh (Nat.le_refl _)
 have q:=h _ _ hy hdx (Nat.ne_of_lt (Nat.lt_succ_self _))
 have I2:=Inv.made (C:=C) I
 have rr:Vals (V.ref (s.heap.objs.size+1)::vs) (Value.ref (s.heap.objs.size+1)::us):=.cons rfl r
 have hl:(Value.ref (s.heap.objs.size+1)::us).length=ps.length:=by rw[<-rr.length];exact F.len _ _ _ _ q
 have hb':=hb {s with heap:=(s.heap.push W.emptyDict).push (W.instObj C s.heap.objs.size)} (Value.ref (s.heap.objs.size+1)::us) I2.kIn (by simpa using hl)
 rw[List.append_nil]at hb'
 refine wpAny_call (U5 (f:=g) I.kIn M.makes M.init (beq_iff_eq.mp M.fn) (codeAny_mono (F.run _ X.stack _ _ ⟨Value.ref (s.heap.objs.size+1)::us,[]⟩ _ _ _ (Kx σ) (hr.make C us []) (I2.env0.make C us []) hb' rr q) λres s' hq=>?_))
 match res,hq with
 | .error z,hq=>
   obtain⟨b,cls,d,H',rfl,xa,w⟩:=I2.flown hq
   exact hx pins σ H' s' b cls d xa w
 | .ok (.ret u),hq=>
   obtain⟨v,H',I3,rv,ev,q3⟩:=I2.after hq
   subst ev
   exact⟨rv,⟨V.ref (s.heap.objs.size+1),H',I3,rfl,q3⟩⟩
 | .ok .next,hq=>exact False.elim hq
 | .ok .brk,hq=>exact False.elim hq
 | .ok .cont,hq=>exact False.elim hq
theorem iW{Cj:Bool}{k:Nat}{C:Addr}{ps:List Str}{sp:Sp}(M:yq X.prog X.w X.K X.mg X.base Cj k x C ps sp)(hr:dU cc k' X.A)(hk:k+1≤k')(hcc:Cj=true->cc=true)(hx:Dl X Kx)(hg:Gl X x)(hd:(x==("__debug__":Str))=false)
  (hst:starEach (e::es) X.env=(false,eval e X.env)::starEach es X.env) (hpl:(backTo pos (starEach es X.env)).any (·.1)=false)
  (h:EA X (e::es) σ H λvs H1=>∀y dx,H1 y=none->H1 dx=none->dx≠y->sp (.ref y::vs) (upd (upd H1 dx (.own y)) y (.ins C dx [])) (λv H2=>v= .non/\Q (.ref y) H2) (Kx σ)):
  EV X (.Call (.Name x p) (e::es) [] pos) σ H Q:=by
 obtain⟨f,fd,hm,hb,F⟩:=M.ex
 intro pins s I
 refine wpAny_Call_Name_kw (jB I hg M.at_ ?_ hd)
 refine W.callWith_K (h₀:=X.base) I.ok.mod.kin hm.kp (cU (h pos pins s I) λus s1 ⟨vs,H1,I1,r,q⟩=>⟨I1.kIn,?_⟩) hst hpl
 exact Rg hm F ((hr.mono hk).xF hcc) hb hx I1 r q
end
structure OM(K:W.Frag)(C:Addr)(m qual:Str)(st:Stmt):Prop where
 ex:∃f fd,gn K m qual st f fd/\Meth K C m f
structure OI(K:W.Frag)(C:Addr)(qual:Str)(st:Stmt):Prop where
 ex:∃f fd,gn K "__init__" qual st f fd/\Mk K C f
structure OB(K:W.Frag)(C:Addr)(m qual:Str)(st:Stmt):Prop where
 rd:W.readsIn K C (.type "type")=true
 ga:W.specialIn K (.ref C) "__getattribute__"=some (some (.builtin "type.__getattribute__"))
 ex:∃f fd,gn K m qual st f fd/\W.findCls K (.ref C) (.type "type") m=some (.val (.ref f))
def FD(P:Program)(w:World)(K:W.Frag)(mg:Str->Option Value)(base:Heap)(cc:Bool)(k:Nat)(m qual:Str)(st:Stmt)(ps:List Str)(sp:Sp):Prop:=
 ∀f fd,gn K m qual st f fd->Binds K fd ps []/\uT P w K mg base (Dk P w) cc k f fd ps sp
section
variable{P:Program}{w:World}{K:W.Frag}{mg:Str->Option Value}{base:Heap}{cc:Bool}{k:Nat}{x m qual:Str}{C:Addr}{st:Stmt}{ps N:List Str}{sp:Sp}
theorem Ai(S:aK N ps (aa st))
  (hb:∀(kV doc pm:Value) (an:Option Addr) (cdv ct:Value) (us:List Value),us.length=ps.length->bindArgs (W.fnOf m qual (aJ st) (az st) (aa st) .none kV doc pm an cdv ct) ⟨us,[]⟩=pure (ps.zip us))
  (len:∀vs H Q E,sp vs H Q E->vs.length=ps.length)
  (body:∀(f:Addr) (cdv:Value) (A:Around) (outer:List Env) (s:Shared) (H:Hp) (vs:List V) (Q:VK) (E:XK),dU cc k (A.deeper (envOfC qual (aa st) s.heap.objs.size f cdv))->sp vs H Q E->
   lB (xu cc P w K mg base N qual (aa st) f cdv A outer s H E) (az st) {nx:=λ_ H'=>Q .non H',rt:=Q} (start N vs) H):FD P w K mg base cc (k+1) m qual st ps sp:=
 λf fd F=>⟨F.binds hb,OD F S len λcdv A outer s H vs Q E hr h=>body f cdv A outer s H vs Q E hr h⟩
theorem FD.meth(F:FD P w K mg base cc k m qual st ps sp)(c:oY K C)(O:OM K C m qual st):aew P w K mg base cc k C m ps sp:=by
 obtain⟨f,fd,h1,h2⟩:=O.ex
 exact⟨c,f,fd,h2,F f fd h1⟩
theorem FD.make(F:FD P w K mg base cc k "__init__" qual st ps sp)(hm:mg x=some (.ref C))(O:OI K C qual st):yq P w K mg base cc k x C ps sp:=by
 obtain⟨f,fd,h1,h2⟩:=O.ex
 exact⟨hm,f,fd,h2,F f fd h1⟩
theorem FD.asked(F:FD P w K mg base cc k m qual st ps sp)(hm:mg x=some (.ref C))(O:OB K C m qual st):PB P w K mg base cc k x m ps sp:=by
 obtain⟨f,fd,h1,h2⟩:=O.ex
 obtain⟨h3,h4⟩:=F f fd h1
 exact⟨C,f,fd,hm,O.rd,h2,O.ga,h1.kp,h3,h4⟩
theorem cZ{f:Addr}{fd:FuncData}(h:mg x=some (.ref C))(F:gn K m qual st f fd)(a:W.findIn K (.ref C) m=some (some (.ref f)))(b:W.isFn K (.ref f)=true):OM K (aj mg x) m qual st:=by
 rw[aA h]
 exact⟨f,fd,F,a,b,F.kp⟩
theorem lZ{f:Addr}{fd:FuncData}(h:mg x=some (.ref C))(F:gn K "__init__" qual st f fd)(a:W.findIn K (.ref C) "__init__"=some (some (.ref f)))(b:W.isFn K (.ref f)=true)(c:W.makesIn K C=true)(d:W.keepIn K (.ref C)=true):OI K (aj mg x) qual st:=by
 rw[aA h]
 exact⟨f,fd,F,c,a,b,d⟩
theorem aiA{f:Addr}{fd:FuncData}(h:mg x=some (.ref C))(F:gn K m qual st f fd)(a:W.findCls K (.ref C) (.type "type") m=some (.val (.ref f)))(b:W.readsIn K C (.type "type")=true)(c:W.specialIn K (.ref C) "__getattribute__"=some (some (.builtin "type.__getattribute__"))):OB K (aj mg x) m qual st:=by
 rw[aA h]
 exact⟨b,c,f,fd,F,a⟩
theorem iy(h:mg x=some (.ref C))(a:W.plainGet K C Str.empty=true)(b:W.hasDictIn K C=true)(c:W.plainOver K C=true)(d:W.findIn K (.ref C) "__setattr__"=some (some (.builtin "object.__setattr__"))):oY K (aj mg x):=by
 rw[aA h]
 exact⟨a,b,c,d⟩
end
theorem gW{X:Cx}{σ:St}{H:Hp}{D:Ends}{elts:List Expr}{k:Nat}{tp pos:Pos}{value:Expr}(hs:swapsWithSole [.Tuple elts k tp] value pos.line X.env=pure false)(hw:swappedStores [.Tuple elts k tp] value X.env=pure none)
  (h:EV X value σ H λv H1=>EG X (.Tuple elts k tp) v σ H1 λσ' H'=>D.nx σ' H'):SX X (.Assign [.Tuple elts k tp] value pos) D σ H:=by
 intro pins s I
 refine Assign_Tuple (cU (h pins s I) λu s1 ⟨v,H1,I1,r1,q1⟩=>?_) hs hw
 exact cU (q1 pins s1 u I1 r1) λ_ s2 ⟨σ',H',I2,q2⟩=>⟨σ',H',I2,q2⟩
structure OT(K:W.Frag)(C:Addr):Prop where
 ty:∀(H:Hp) (a dx:Addr) (fs:List (Str×V)),H a=some (.ins C dx fs)->mR K H (.ref a) (.ref C)
section
variable{X:Cx}{σ:St}{H:Hp}{Q:VK}{D:Ends}{pos tpos:Pos}{o i value:Expr}
end
section
variable{prog:Program}{w:World}{A:Around}{E:Value->Shared->Prop}{s:Shared}
end
section
variable{X:Cx}{H:Hp}{Q:VK}{D:Ends}{σ σ':St}{e a b c elt tg:Expr}{scope:Scope}{pos spos py p p':Pos}{x y:Str}{j:Nat}
end
section
variable{X:Cx}{σ:St}{H:Hp}{Q:VK}{D:Ends}{pos pos' tpos apos cpos:Pos}{o i e f value:Expr}{y v:V}{a:Addr}{r:Option V}
end
end L2
namespace My
open PySem
abbrev SGs:Str:=Str.ofString "-0123456789abcdefghijklmnopqrstuvwxyz"
abbrev TSs:Str:=Str.ofString "abcdefghijklmnopqrstuvwxyz0123456789-"
def SG:List Nat:=SGs.cps.toList
def TS:List Nat:=TSs.cps.toList
theorem ahH:∀c∈SG,c∈TS:=by decide+kernel
def tb:List Nat->List Nat->Bool
 |[],[]=>false
 |[],_::_=>true
 |_::_,[]=>false
 |x::xs,y::ys=>if x=y then tb xs ys else decide (SG.idxOf x<SG.idxOf y)
end My
namespace L2
open PySem PySem.Spec PyProof.Rows
theorem Ow{α:Type}{xs:List α}{f:α->V}{i:Int}(d:α)(h0:0≤i)(h1:i<xs.length):qg (xs.map f) i=some (f (xs.getD i.toNat d)):=by
 have e:i=((i.toNat:Nat):Int):=by omega
 have hl:i.toNat<xs.length:=by omega
 have h2:(xs.map f)[i.toNat]? =some (f (xs.getD i.toNat d)):=by
  rw[List.getElem?_map,List.getElem?_eq_getElem hl]
  simp[hl]
 have :=bD h2
 rw[<-e]at this
 exact this
theorem xq{α:Type}{xs:List α}{i:Int}(h0:0≤i)(h1:i<xs.length):∃v,qg xs i=some v/\v∈xs:=by
 have hl:i.toNat<xs.length:=by omega
 have e:i=((i.toNat:Nat):Int):=by omega
 have :=bD (List.getElem?_eq_getElem hl)
 rw[<-e]at this
 exact⟨_,this,List.getElem_mem hl⟩
theorem yX:∀l:List Nat,((l.map λc=>(⟨#[c]⟩:Str)).map (·.length)).sum=l.length
 |[]=>rfl
 |c::r=>by
  rw[List.map_cons,List.map_cons,List.sum_cons,yX r,List.length_cons]
  show 1+r.length=_
  omega
theorem qF:∀l:List Nat,Str.join (Str.ofString "") (l.map λc=>⟨#[c]⟩)=⟨l.toArray⟩
 |[]=>rfl
 |[c]=>rfl
 |c::d::r=>by
  have ih:=qF (d::r)
  show(⟨#[c]⟩:Str)++Str.ofString ""++Str.join (Str.ofString "") ((d::r).map λc=>⟨#[c]⟩)=_
  rw[ih]
  have e0:(Str.ofString "")=⟨#[]⟩:=by decide+kernel
  rw[e0]
  show(⟨(#[c]++ #[])++(d::r).toArray⟩:Str)=⟨(c::d::r).toArray⟩
  simp
theorem bU{x y:Str}(h:x.cps.toList=y.cps.toList):x=y:=by
 obtain⟨⟨a⟩⟩:=x
 obtain⟨⟨b⟩⟩:=y
 simp only at h
 rw[h]
theorem aW(x y:Str):(x++y).cps.toList=x.cps.toList++y.cps.toList:=by
 show(x.cps++y.cps).toList=_
 simp
theorem len_list(z:Str):z.length=z.cps.toList.length:=by simp[Str.length]
theorem len_app(x y:Str):(x++y).length=x.length+y.length:=by rw[len_list,aW,List.length_append,len_list,len_list]
theorem ie(z:Str)(lo hi:Option Int):(bQ z lo hi).length≤z.length:=by
 unfold bQ Str.length
 simp
 omega
theorem pF(z:Str)(lo hi:Option Int):(bQ z lo hi).cps.toList=(z.cps.toList.drop (HT.jb z.length 0 lo)).take (HT.jb z.length z.length hi-HT.jb z.length 0 lo):=by
 unfold bQ
 simp
theorem lq(z:Str)(k:Nat):(bQ z (some (k:Int)) none).cps.toList=z.cps.toList.drop k:=by
 rw[pF,HT.ud,HT.yJ]
 have hl:=len_list z
 by_cases h:k≤z.length
 .rw[Nat.min_eq_left h,List.take_of_length_le (by rw[List.length_drop];omega)]
 .have h':z.length≤k:=by omega
  rw[Nat.min_eq_right h',List.drop_of_length_le (by omega),List.drop_of_length_le (by omega)]
  simp
theorem lL(z:Str)(k:Nat):(bQ z none (some (k:Int))).cps.toList=z.cps.toList.take k:=by
 rw[pF,HT.ud,HT.yJ,List.drop_zero,Nat.sub_zero]
 have hl:=len_list z
 by_cases h:k≤z.length
 .rw[Nat.min_eq_left h]
 .have h':z.length≤k:=by omega
  rw[Nat.min_eq_right h',List.take_of_length_le (by omega),List.take_of_length_le (by omega)]
theorem xM(z:Str)(c:Nat):Txt.startswith z ⟨#[c]⟩=decide (z.cps.toList[0]? =some c):=by
 rw[Bool.eq_iff_iff,decide_eq_true_eq, <-StrLaws.subAt_one]
 unfold Txt.startswith
 rw[Bool.and_eq_true,decide_eq_true_eq]
end L2
namespace Vl
open PySem L2 PyProof.Rows My NumText
def scalar:V->Bool
 | .non | .int _ | .str _=>true
 |_=>false
def afP:V->Bool
 | .int _=>true
 |_=>false
def isNum:V->Bool
 | .int i=>decide (-1000000000000000000≤i/\i≤1000000000000000000)
 |_=>false
def gR(z g:Str):Bool:=z.cps.toList.all λc=>decide (c∈g.cps.toList)
def vZ:V->Bool
 | .str z=>decide (z.length≤20)&&gR z TSs
 |_=>false
def isVal(kind:Str):V->Bool
 | .non=>true
 |v=>if kind="number" then isNum v else vZ v
def before:V->V->Bool
 |_,.non=>false
 | .non,_=>true
 | .int i,.int j=>decide (i<j)
 | .str x,.str y=>decide (x.cps.toList<y.cps.toList)
 |_,_=>false
def short:V->Prop
 | .str z=>z.length≤4000
 |_=>True
def alH:Sp:=λvs H Q _=>∃v,vs=[v]/\scalar v=true/\Q (.bl (afP v)) H
def JL:Sp:=λvs H Q _=>∃z g:Str,vs=[.str z,.str g]/\z.length≤4000/\∀H',aq H H'->Q (.bl (gR z g)) H'
def awS:Sp:=λvs H Q _=>∃v,vs=[v]/\scalar v=true/\Q (.bl (isNum v)) H
def aaP:Sp:=λvs H Q _=>∃v,vs=[v]/\scalar v=true/\short v/\∀H',aq H H'->Q (.bl (vZ v)) H'
def axs:Sp:=λvs H Q _=>∃(k:Str) (v:V),vs=[.str k,v]/\scalar v=true/\short v/\∀H',aq H H'->Q (.bl (isVal k v)) H'
def ai2:Sp:=λvs H Q _=>∃x y:V,vs=[x,y]/\(x= .non\/y= .non\/(∃i j,x= .int i/\y= .int j)\/∃i j,x= .str i/\y= .str j)/\Q (.bl (before x y)) H
def Bp(c:Nat):Bool:=decide (48≤c/\c≤57)
abbrev FGs:Str:=Str.ofString "0123456789"
theorem abj:∀c:Nat,c∈FGs.cps.toList↔(48≤c/\c≤57):=by
 intro c
 have e:FGs.cps.toList=[48,49,50,51,52,53,54,55,56,57]:=by decide+kernel
 rw[e]
 simp only[List.mem_cons,List.not_mem_nil,or_false]
 omega
theorem Q5(z:Str):gR z FGs=z.cps.toList.all Bp:=by
 unfold gR Bp
 congr 1
 funext c
 rw[decide_eq_decide]
 exact abj c
def fX(l:List Nat):Bool:=decide (l=[48])||(decide (l≠[])&&(decide (l[0]? ≠some 48)&&l.all Bp))
def Qy(l:List Nat):Bool:=if l[0]? =some 45 then decide (l.drop 1≠[48])&&fX (l.drop 1)else fX l
def lE(l:List Nat):Int:=if l[0]? =some 45 then -((digitsVal (l.drop 1):Nat):Int)else((digitsVal l:Nat):Int)
theorem pX{l:List Nat}(h:fX l=true):AllDigits l/\l≠[]:=by
 unfold fX at h
 rw[Bool.or_eq_true,Bool.and_eq_true,Bool.and_eq_true,decide_eq_true_eq,decide_eq_true_eq]at h
 rcases h with h |⟨h1,_,h2⟩
 .subst h
  exact⟨λc hc=>by simp at hc;omega,by simp⟩
 .exact⟨λc hc=>of_decide_eq_true (List.all_eq_true.mp h2 c hc),h1⟩
def gA(l:List Nat):Option Int:=if Qy l=true/\l.length≤20/\ -1000000000000000000≤lE l/\lE l≤1000000000000000000 then some (lE l)else none
def iV(z:Str):Option Str:=if z.cps.toList[0]? =some 39/\vZ (.str (bQ z (some 1) none))=true then some (bQ z (some 1) none)else none
def Yk:Option Int->Option V
 |some i=>some (.int i)
 |none=>none
def abo:Option Str->Option V
 |some i=>some (.str i)
 |none=>none
def jE(kind word:Str):Option V:=if word="?" then some .non else if kind="number" then Yk (gA word.cps.toList)else abo (iV word)
def wordOf:V->Str
 | .non=>"?"
 | .str z=>Str.ofString "'"++z
 | .int i=>Str.ofString (toString i)
 |_=>""
def avH:Sp:=λvs H Q _=>∃v,vs=[v]/\scalar v=true/\short v/\(∀i,v= .int i->i.natAbs.log2<1920)/\Q (.str (wordOf v)) H
def aaw:Sp:=λvs H Q _=>∃z,vs=[.str z]/\z.length≤4000/\∀H',aq H H'->Q (.bl (fX z.cps.toList)) H'
def azC:Sp:=λvs H Q _=>∃z,vs=[.str z]/\z.length≤4000/\∀H',aq H H'->Q (.bl (Qy z.cps.toList)) H'
def ur(c:Value)(r:Option V)(H:Hp)(Q:VK)(E:XK):Prop:=∀H',aq H H'->match r with
 |some v=>Q v H'
 |none=>E c (none,true) H'
def O5(c:Value):Sp:=λvs H Q E=>∃z,vs=[.str z]/\z.length≤4000/\ur c (Yk (gA z.cps.toList)) H Q E
def Ov(c:Value):Sp:=λvs H Q E=>∃z,vs=[.str z]/\z.length≤4000/\ur c (abo (iV z)) H Q E
def CG(c:Value):Sp:=λvs H Q E=>∃k z,vs=[.str k,.str z]/\z.length≤4000/\ur c (jE k z) H Q E
def okS(n:Nat)(z:Str):Prop:=z.length≤n/\∀c∈z.cps.toList,c<1114112
def dV:V->PyData
 | .bl b=>.bool b
 | .int i=>.int i
 | .str x=>.str x
 |_=>.none
def sca:V->Bool
 | .non | .int _ | .str _ | .bl _=>true
 |_=>false
theorem qm{i:Int}(h:i.natAbs<10^60):i.natAbs.log2<1920:=by
 by_cases h0:i.natAbs=0
 .rw[h0];decide
 .rw[Nat.log2_lt h0]
  refine Nat.lt_of_lt_of_le h ?_
  decide+kernel
theorem il(m:Nat):(Str.ofString (toString ((m:Nat):Int))).cps.toList=(Nat.toDigits 10 m).map Char.toNat:=PySem.W.KIN.signs_num m
theorem gb(m:Nat):∀c∈(Str.ofString (toString ((m:Nat):Int))).cps.toList,48≤c/\c≤57:=by
 rw[il]
 intro c hc
 obtain⟨d,hd,rfl⟩:=List.mem_map.mp hc
 have :=Nat.isDigit_of_mem_toDigits (b:=10) (n:=m) (by decide) (by decide) hd
 simp only[Char.isDigit,Bool.and_eq_true,decide_eq_true_eq]at this
 have h1:(48:UInt32).toNat≤d.val.toNat:=this.1
 have h2:d.val.toNat≤(57:UInt32).toNat:=this.2
 exact⟨h1,h2⟩
theorem jJ{m k:Nat}(hk:1≤k)(h:m<10^k):(Str.ofString (toString ((m:Nat):Int))).length≤k:=by
 rw[L2.len_list,il,List.length_map]
 exact PyProof.Rows.digits10_le hk h
theorem xf(m:Nat)(h:0<m):Str.ofString (toString (-((m:Nat):Int)))=Str.ofString "-"++Str.ofString (toString ((m:Nat):Int)):=by
 obtain⟨k,rfl⟩:∃k,m=k+1:=⟨m-1,by omega⟩
 have e:(-((k+1:Nat):Int))=Int.negSucc k:=rfl
 rw[e]
 apply bU
 rw[aW]
 rw[PyProof.Rows.signs_ofString,PyProof.Rows.signs_ofString,PyProof.Rows.signs_ofString]
 show(("-"++Nat.repr (k+1)).toList.map Char.toNat)="-".toList.map Char.toNat++(Nat.repr (k+1)).toList.map Char.toNat
 rw[String.toList_append,List.map_append]
end Vl
namespace Lw
open PySem L2 PyProof.Rows My NumText
def Nh(ns:List Int)(k:Int):Int:=if 0<ns.length then ns.getD (k % (ns.length:Int)).toNat 0 else 0
def bH(ns:List Int)(k m:Int):Int:=(Nh ns k % 1000003+31*k*k+1)*48271 % 999983*7919 % 524287 % m
theorem bh(ns:List Int)(k:Int){m:Int}(h:0<m):0≤bH ns k m:=Int.emod_nonneg _ (by omega)
theorem bj(ns:List Int)(k:Int){m:Int}(h:0<m):bH ns k m<m:=Int.emod_lt_of_pos _ h
def lX(K:PySem.W.Frag):Sp:=λvs H Q _=>∃(a:Addr) (ns:List Int) (k m:Int),vs=[.ref a,.int k,.int m]/\bf K H a (ns.map V.int)/\ns.length≤63/\0≤k/\k≤100000/\0<m/\Q (.int (bH ns k m)) H
def ac1(ns:List Int)(b:Int)(n:Nat):List Nat:=(List.range n).map λk:Nat=>SG.getD (bH ns (b+(k:Int)) 37).toNat 0
def aj6(ns:List Int)(b:Int)(n:Nat):Str:=⟨(ac1 ns b n).toArray⟩
def atl(K:PySem.W.Frag):Sp:=λvs H Q _=>∃(a:Addr) (ns:List Int) (b n:Int),vs=[.ref a,.int b,.int n]/\bf K H a (ns.map V.int)/\ns.length≤63/\0≤b/\b≤50000/\0≤n/\n≤1000/\∀H',aq H H'->Q (.str (aj6 ns b n.toNat)) H'
end Lw
namespace Vl
open PySem L2 PyProof.Rows My NumText
inductive d9 {α β:Type} (R:α->β->Prop):List α->List β->Prop
 |nil:d9 R [] []
 |cons {a:α} {b:β} {l:List α} {m:List β}:R a b->d9 R l m->d9 R (a::l) (b::m)
theorem d9.len{α β:Type}{R:α->β->Prop}:∀{l:List α} {m:List β},d9 R l m->l.length=m.length
 |_,_,.nil=>rfl
 |_,_,.cons _ t=>by rw[List.length_cons,List.length_cons,t.len]
theorem d9.imp{α β:Type}{R S:α->β->Prop}(h:∀a b,R a b->S a b):∀{l:List α} {m:List β},d9 R l m->d9 S l m
 |_,_,.nil=>.nil
 |_,_,.cons r t=>.cons (h _ _ r) (t.imp h)
theorem d9.get{α β:Type}{R:α->β->Prop}:∀{l:List α} {m:List β},d9 R l m->∀{i:Nat} {a:α},l[i]? =some a->∃b,m[i]? =some b/\R a b
 |_,_,.nil,i,a,e=>by simp at e
 |_,_,.cons r t,0,a,e=>by simp at e;subst e;exact⟨_,rfl,r⟩
 |_,_,.cons r t,i+1,a,e=>by simp at e;exact t.get e
theorem d9.get'{α β:Type}{R:α->β->Prop}:∀{l:List α} {m:List β},d9 R l m->∀{i:Nat} {b:β},m[i]? =some b->∃a,l[i]? =some a/\R a b
 |_,_,.nil,i,a,e=>by simp at e
 |_,_,.cons r t,0,a,e=>by simp at e;subst e;exact⟨_,rfl,r⟩
 |_,_,.cons r t,i+1,a,e=>by simp at e;exact t.get' e
theorem d9.app{α β:Type}{R:α->β->Prop}:∀{l l':List α} {m m':List β},d9 R l m->d9 R l' m'->d9 R (l++l') (m++m')
 |_,_,_,_,.nil,h=>h
 |_,_,_,_,.cons r t,h=>.cons r (t.app h)
abbrev bW:=Str×Str
def NB(H:Hp)(v:V)(c:bW):Prop:=∃t,v= .ref t/\H t=some (.tup [.str c.1,.str c.2])
theorem NB.same{H H':Hp}{v:V}{c:bW}(h:NB H v c)(s:aq H H'):NB H' v c:=by
 obtain⟨t,e,q⟩:=h
 exact⟨t,e,s _ _ q⟩
def gD(H:Hp)(a:Addr)(cs:List bW):Prop:=∃vs:List V,H a=some (.lst vs)/\d9 (NB H) vs cs
theorem gD.same{H H':Hp}{a:Addr}{cs:List bW}(h:gD H a cs)(s:aq H H'):gD H' a cs:=by
 obtain⟨vs,e,q⟩:=h
 exact⟨vs,s _ _ e,q.imp λa b r=>r.same s⟩
abbrev LTs:Str:=Str.ofString "abcdefghijklmnopqrstuvwxyz"
def isName(z:Str):Bool:=decide (1≤z.length/\z.length≤8)&&gR z LTs
def vD(k:Str):Bool:=decide (k="number"\/k="text")
def aY(cs:List bW):Bool:=decide (1≤cs.length/\cs.length≤6)&&(cs.all λc=>isName c.1&&vD c.2)&&decide ((cs.map Prod.fst).Nodup)
def alZ:Sp:=λvs H Q _=>∃z,vs=[.str z]/\z.length≤4000/\∀H',aq H H'->Q (.bl (isName z)) H'
def aeD(cs:List bW):Prop:=∀c∈cs,c.1.length≤4000/\c.2.length≤4000
def axX(c:Value):Sp:=λvs H Q E=>∃a cs,vs=[.ref a]/\gD H a cs/\cs.length≤4000/\aeD cs/\∀H',aq H H'->if aY cs=true then Q .non H' else E c (none,true) H'
def iC:List bW->Str->Nat->V
 |[],_,_=>.non
 |c::r,z,i=>if c.1=z then .int i else iC r z (i+1)
def xj:Sp:=λvs H Q _=>∃a cs z,vs=[.ref a,.str z]/\gD H a cs/\∀H',aq H H'->Q (iC cs z 0) H'
def Wj:V->Bool
 | .int i=>decide (0≤i/\i≤1000000000)
 |_=>false
def asY:Sp:=λvs H Q _=>∃v,vs=[v]/\scalar v=true/\Q (.bl (Wj v)) H
def Wa:List bW->List V->Bool
 |c::cs,v::vs=>isVal c.2 v&&Wa cs vs
 |_,_=>true
def akR(cs:List bW)(v:V)(xs:List V):Bool:=Wj v&&decide (xs.length=cs.length)&&Wa cs xs
def awD:Sp:=λvs H Q _=>∃a cs v b xs,vs=[.ref a,v,.ref b]/\gD H a cs/\cs.length≤4000/\scalar v=true/\H b=some (.lst xs)/\(∀x∈xs,scalar x=true/\short x)/\∀H',aq H H'->Q (.bl (akR cs v xs)) H'
def aza(c:bW):PyData:=.tuple [.str c.1,.str c.2]
def ayB(cs:List bW):Prop:=∀c∈cs,okS 4000 c.1/\okS 4000 c.2
theorem Qm(xs:List V)(k:Nat):yd xs (some (k:Int)) none=xs.drop k:=by
 unfold yd
 rw[HT.yJ,HT.ud]
 by_cases h:k≤xs.length
 .rw[show min k xs.length=k from Nat.min_eq_left h]
  exact List.take_of_length_le (by rw[List.length_drop];exact Nat.le_refl _)
 .rw[show min k xs.length=xs.length from Nat.min_eq_right (by omega),List.drop_eq_nil_of_le (Nat.le_refl _),List.drop_eq_nil_of_le (by omega)]
  simp
end Vl
namespace Vl
open PySem L2 PyProof.Rows My NumText
def aP:List Nat->Int
 |[]=>0
 |c::r=>((c:Int)+137*aP r) % 9973
theorem cA:∀l,0≤aP l/\aP l<9973
 |[]=>by decide
 |c::r=>⟨Int.emod_nonneg _ (by decide),Int.emod_lt_of_pos _ (by decide)⟩
theorem Z8(t p y m:Int):(t+p*(y % m)) % m=(t+p*y) % m:=by
 rw[Int.add_emod,Int.mul_emod,Int.emod_emod, <-Int.mul_emod, <-Int.add_emod]
theorem TJ(a b r m:Int):(a % m+b % m*r) % m=(a+b*r) % m:=by
 rw[Int.add_emod,Int.mul_emod,Int.emod_emod,Int.emod_emod, <-Int.mul_emod, <-Int.add_emod]
theorem JB{t p v:Int}{c:Nat}{r:List Nat}(h:(t+p*aP (c::r)) % 9973=v):((t+(c:Int)*p) % 9973+p*137 % 9973*aP r) % 9973=v:=by
 rw[TJ, <-h]
 show _=(t+p*(((c:Int)+137*aP r) % 9973)) % 9973
 rw[Z8]
 congr 1
 rw[Int.mul_add,Int.mul_comm (c:Int) p,Int.mul_assoc,Int.add_assoc]
def cj(n:Int):Str:=Txt.zfill (Str.ofString (toString n)) 4
def Xl(l:List Nat):Nat:=l.foldl (λa c=>a*10+(c-48)) 0
def uU(n:Nat):Bool:=decide ((cj n).length=4)&&((cj n).cps.toList.all Bp&&decide (Xl (cj n).cps.toList=n))
theorem Aq(l:List Nat):∀k:Nat,Xl (List.replicate k 48++l)=Xl l
 |0=>rfl
 |k+1=>by
  rw[List.replicate_succ]
  exact Aq l k
theorem Rh{n:Nat}(h:n<10000):(cj n).cps.toList=List.replicate (4-(Str.ofString (toString (n:Int))).length) 48++(Str.ofString (toString (n:Int))).cps.toList:=by
 have hd:=gb n
 have hl:=jJ (m:=n) (k:=4) (by decide) h
 have hne:(Str.ofString (toString (n:Int))).cps.toList≠[]:=by
  rw[il]
  simp[Nat.toDigits_ne_nil]
 unfold cj Txt.zfill
 generalize Str.ofString (toString (n:Int))=x at hd hl hne⊢
 have hx:=L2.len_list x
 split
 .rename_i h4
  have :4-x.length=0:=by omega
  rw[this]
  rfl
 .unfold zfilled
  obtain⟨c,r,e⟩:=List.exists_cons_of_ne_nil hne
  have h0:x.cps[0]? =some c:=by rw[<-Array.getElem?_toList,e];rfl
  have hc:=hd c (by rw[e];simp)
  have en:((4:Int).toNat-x.length)=4-x.length:=rfl
  rw[h0]
  split
  .rename_i e2;cases e2;omega
  .rename_i e2;cases e2;omega
  .unfold Builtin.Str.padded
   simp
theorem sX(n:Nat)(h:n<9973):uU n=true:=by
 have hd:=gb n
 have hl:=jJ (m:=n) (k:=4) (by decide) (by omega)
 have e:=Rh (n:=n) (by omega)
 have hx:=L2.len_list (Str.ofString (toString (n:Int)))
 unfold uU
 rw[L2.len_list,e,Aq,List.length_append,List.length_replicate,decide_eq_true (by omega),Bool.true_and,Bool.and_eq_true,List.all_eq_true,decide_eq_true_eq]
 refine⟨λc hc=>?_,?_⟩
 .rcases List.mem_append.mp hc with z |z
  .have :=List.eq_of_mem_replicate z
   subst this
   rfl
  .exact decide_eq_true (hd c z)
 .rw[il]
  exact PySem.W.KIN.val_back n
def Oh:Sp:=λvs H Q _=>∃z,vs=[.str z]/\z.length≤100000/\(∀c∈z.cps.toList,c<1114112)/\Q (.int (aP z.cps.toList)) H
def xR:Sp:=λvs H Q _=>∃z,vs=[.str z]/\z.length≤100000/\(∀c∈z.cps.toList,c<1114112)/\Q (.str (cj (aP z.cps.toList))) H
theorem aa8:∀(r:List Nat) (a:Nat),a*10^r.length≤r.foldl (λacc c=>acc*10+(c-48)) a
 |[],a=>by simp
 |c::r,a=>by
  have ih:=aa8 r (a*10+(c-48))
  rw[List.foldl_cons,List.length_cons,Nat.pow_succ]
  refine Nat.le_trans ?_ ih
  have h1:a*(10^r.length*10)=a*10*10^r.length:=by rw[Nat.mul_comm (10^r.length) 10,Nat.mul_assoc]
  rw[h1]
  exact Nat.mul_le_mul_right _ (Nat.le_add_right _ _)
theorem U9{l:List Nat}(h:fX l=true)(h1:l≠[48]):10^(l.length-1)≤digitsVal l:=by
 obtain⟨hd,hne⟩:=pX h
 cases l with
 |nil=>exact absurd rfl hne
 |cons c r=>
  have hc:=hd c List.mem_cons_self
  have hc2:c≠48:=by
   intro e
   subst e
   unfold fX at h
   rw[decide_eq_false h1,Bool.false_or]at h
   simp at h
  have :=aa8 r (0*10+(c-48))
  have h3:1*10^r.length≤(0*10+(c-48))*10^r.length:=Nat.mul_le_mul_right _ (by omega)
  unfold digitsVal
  rw[List.foldl_cons]
  show 10^r.length≤_
  omega
theorem DP{l:List Nat}{m:Int}{k:Nat}(h:fX l=true)(hm:((digitsVal l:Nat):Int)≤m)(hk:m<((10^k:Nat):Int))(h1:1≤k):l.length≤k:=by
 by_cases e:l=[48]
 .subst e
  exact h1
 .have h2:=U9 h e
  have h3:10^(l.length-1)<10^k:=by omega
  have h4:=(Nat.pow_lt_pow_iff_right (a:=10) (by decide)).mp h3
  omega
theorem HQ{l:List Nat}(h:fX l=true):digitsVal l=0↔l=[48]:=by
 constructor
 .intro e
  refine Classical.byContradiction λn=>?_
  have h2:=U9 h n
  have h3:0<10^(l.length-1):=Nat.pow_pos (by decide)
  omega
 .intro e
  subst e
  rfl
def wL(l:List Nat)(m:Int):Option Int:=if fX l=true/\((digitsVal l:Nat):Int)≤m then some ((digitsVal l:Nat):Int)else none
def RT:Option Int->V
 |none=>.non
 |some i=>.int i
def DG:Sp:=λvs H Q _=>∃(z:Str) (m:Int) (k:Nat),vs=[.str z,.int m]/\z.length≤4000/\0≤m/\m.natAbs<10^60/\(Str.ofString (toString m)).length=k/\m<((10^k:Nat):Int)/\1≤k/\k≤600/\∀H',aq H H'->Q (RT (wL z.cps.toList m)) H'
theorem p8{l:List Nat}(h0:¬l[0]? =some 45):gA l=wL l 1000000000000000000:=by
 unfold gA wL Qy lE
 rw[if_neg h0,if_neg h0]
 by_cases h:fX l=true/\((digitsVal l:Nat):Int)≤1000000000000000000
 .have :=DP (k:=19) h.1 h.2 (by decide) (by decide)
  rw[if_pos h,if_pos ⟨h.1,by omega,by omega,h.2⟩]
 .rw[if_neg h,if_neg λx=>h ⟨x.1,x.2.2.2⟩]
theorem zJ{l:List Nat}(h0:l[0]? =some 45):gA l=match wL (l.drop 1) 1000000000000000000 with
  |some i=>if i=0 then none else some (-i)
  |none=>none:=by
 unfold gA wL Qy lE
 rw[if_pos h0,if_pos h0]
 have hl:l.length=(l.drop 1).length+1:=by
  cases l with
  |nil=>simp at h0
  |cons c r=>simp
 rw[hl]
 generalize l.drop 1=r
 by_cases h:fX r=true/\((digitsVal r:Nat):Int)≤1000000000000000000
 .have h2:=DP (k:=19) h.1 h.2 (by decide) (by decide)
  have h3:=HQ h.1
  rw[if_pos h]
  show _=if((digitsVal r:Nat):Int)=0 then none else some (-((digitsVal r:Nat):Int))
  by_cases e:r=[48]
  .have hz:((digitsVal r:Nat):Int)=0:=by have :=h3.mpr e;omega
   rw[if_pos hz]
   refine if_neg λx=>?_
   rw[Bool.and_eq_true,decide_eq_true_eq]at x
   exact x.1.1 e
  .have hz:¬((digitsVal r:Nat):Int)=0:=λz=>e (h3.mp (by omega))
   rw[if_neg hz]
   exact if_pos ⟨by rw[decide_eq_true e,h.1];rfl,by omega,by omega,by omega⟩
 .rw[if_neg h]
  refine if_neg λx=>?_
  rw[Bool.and_eq_true]at x
  exact h ⟨x.1.2,by omega⟩
end Vl
namespace Vl
open PySem L2 PyProof.Rows My NumText
theorem Zi{n:Int}(h:n.natAbs<10^60):(Str.ofString (toString n)).length≤70:=by
 by_cases h0:0≤n
 .obtain⟨m,rfl⟩:=Int.eq_ofNat_of_zero_le h0
  have :=jJ (m:=m) (k:=60) (by decide) (by simpa using h)
  omega
 .have e:n= -((n.natAbs:Nat):Int):=by omega
  rw[e,xf n.natAbs (by omega),len_app]
  have :=jJ (m:=n.natAbs) (k:=60) (by decide) h
  have l1:(Str.ofString "-").length=1:=by decide+kernel
  omega
end Vl
namespace Vl
open PySem L2 PyProof.Rows My NumText
abbrev Ord:=Str×Bool
def Ho(H:Hp)(v:V)(o:Ord):Prop:=∃t,v= .ref t/\H t=some (.tup [.str o.1,.bl o.2])
theorem Ho.same{H H':Hp}{v:V}{o:Ord}(h:Ho H v o)(s:aq H H'):Ho H' v o:=by
 obtain⟨t,e,q⟩:=h
 exact⟨t,e,s _ _ q⟩
def tE(H:Hp)(a:Addr)(os:List Ord):Prop:=∃vs:List V,H a=some (.lst vs)/\d9 (Ho H) vs os
theorem tE.same{H H':Hp}{a:Addr}{os:List Ord}(h:tE H a os)(s:aq H H'):tE H' a os:=by
 obtain⟨vs,e,q⟩:=h
 exact⟨vs,s _ _ e,q.imp λa b r=>r.same s⟩
def Et{α β:Type}(f:α->Option β):List α->Option (List β)
 |[]=>some []
 |x::r=>match f x,Et f r with
  |some y,some ys=>some (y::ys)
  |_,_=>none
theorem Al{α β:Type}{f:α->Option β}:∀{l:List α} {x:α},x∈l->f x=none->Et f l=none
 |y::r,x,h,e=>by
  unfold Et
  rcases List.mem_cons.mp h with z |z
  .subst z;rw[e]
  .rw[Al z e]
   cases f y<;>rfl
 |[],x,h,_=>by simp at h
theorem Bu{α β:Type}{f:α->Option β}:∀{l:List α} {m:List β},l.length=m.length->(∀(i:Nat) x y,l[i]? =some x->m[i]? =some y->f x=some y)->Et f l=some m
 |[],[],_,_=>rfl
 |x::l,y::m,hl,h=>by
  have h1:=h 0 x y rfl rfl
  have h2:=Bu (l:=l) (m:=m) (by simpa using hl) λi x y e1 e2=>h (i+1) x y (by simpa using e1) (by simpa using e2)
  unfold Et
  rw[h1,h2]
 |[],_::_,hl,_=>by simp at hl
 |_::_,[],hl,_=>by simp at hl
theorem M5{α β:Type}{f:α->Option β}{R:V->β->Prop}:∀{ws:List α} {xs:List V},xs.length=ws.length->(∀(i:Nat) v,xs[i]? =some v->∃z,ws[i]? =some z/\∃b,f z=some b/\R v b)->∃bs,Et f ws=some bs/\d9 R xs bs
 |[],[],_,_=>⟨[],rfl,.nil⟩
 |w::ws,x::xs,hl,h=>by
  obtain⟨z,e1,b,e2,r⟩:=h 0 x rfl
  have e1':w=z:=by simpa using e1
  subst e1'
  obtain⟨bs,e3,t⟩:=M5 (ws:=ws) (xs:=xs) (by simpa using hl) λi v e=>by simpa using h (i+1) v (by simpa using e)
  refine⟨b::bs,?_,.cons r t⟩
  unfold Et
  rw[e2,e3]
 |[],_::_,hl,_=>by simp at hl
 |_::_,[],hl,_=>by simp at hl
def tK(cs:List bW)(z:Str):Option Ord:=
 if(z.cps.toList[0]? =some 43\/z.cps.toList[0]? =some 45)/\iC cs (bQ z (some 1) none) 0≠ .non then some (bQ z (some 1) none,decide (z.cps.toList[0]? =some 43))else none
def pD(cs:List bW)(z:Str):Option (List Ord):=
 if z="" then some []else if 4<(cN 32 z).length then none else match Et (tK cs) (cN 32 z)with
  |none=>none
  |some os=>if(os.map Prod.fst).Nodup then some os else none
def Hq(c:Value):Sp:=λvs H Q E=>∃a cs z,vs=[.ref a,.str z]/\gD H a cs/\z.length≤4000/\
 (∀H',aq H H'->tK cs z=none->E c (none,true) H')/\∀p o H',aq H H'->tK cs z=some o->H' p=some (.tup [.str o.1,.bl o.2])->Q (.ref p) H'
def Nx(c:Value):Sp:=λvs H Q E=>∃a cs z,vs=[.ref a,.str z]/\gD H a cs/\z.length≤4000/\
 (∀H',aq H H'->pD cs z=none->E c (none,true) H')/\∀p os H',aq H H'->pD cs z=some os->H p=none->tE H' p os->Q (.ref p) H'
def eO(o:Ord):Str:=(if o.2=true then Str.ofString "+" else Str.ofString "-")++o.1
def wJ(os:List Ord):Str:=Str.join " " (os.map eO)
def avA:Sp:=λvs H Q _=>∃a os,vs=[.ref a]/\tE H a os/\os.length≤4000/\(∀o∈os,o.1.length≤1000)/\∀H',aq H H'->Q (.str (wJ os)) H'
theorem Gv(c:Nat)(z:Str):(cN c z).length≤z.length+1:=by
 have h1:=uN c z.cps.toList
 unfold cN
 rw[List.length_map]
 have h2:z.cps.toList.length=z.length:=rfl
 omega
theorem Jd{c:Nat}{z y:Str}(h:y∈cN c z):y.length≤z.length:=by
 have key:∀(l:List Nat) p,p∈cutAt c l->p.length≤l.length:=by
  intro l
  induction l with
  |nil=>intro p hp;have :p=[]:=by simpa [cutAt]using hp
        subst this;simp
  |cons x r ih=>
   intro p hp
   unfold cutAt at hp
   split at hp
   .rcases List.mem_cons.mp hp with z |z
    .subst z;simp
    .have :=ih p z;simp;omega
   .split at hp
    .have :p=[x]:=by simpa using hp
     subst this;simp
    .rename_i a t e
     rw[e]at ih
     rcases List.mem_cons.mp hp with z |z
     .subst z
      have :=ih a (by simp)
      simp;omega
     .have :=ih p (by simp[z]);simp;omega
 unfold cN at h
 obtain⟨l,hl,rfl⟩:=List.mem_map.mp h
 have :=key _ l hl
 have h2:z.cps.toList.length=z.length:=rfl
 show l.toArray.size≤_
 simp
 omega
end Vl
namespace Vl
open PySem L2 PyProof.Rows My NumText
def bR:List bW->Str->Nat
 |[],_=>0
 |c::r,z=>if c.1=z then 0 else bR r z+1
theorem kW:∀{cs:List bW} {z:Str},(∃c∈cs,c.1=z)->bR cs z<cs.length
 |[],_,h=>by obtain⟨c,hc,_⟩:=h;simp at hc
 |d::r,z,h=>by
  unfold bR
  split
  .simp
  .rename_i hd
   have :=kW (cs:=r) (z:=z) (by
    obtain⟨c,hc,e⟩:=h
    rcases List.mem_cons.mp hc with x |x
    .subst x;exact absurd e hd
    .exact⟨c,x,e⟩)
   simp
   omega
theorem yZ:∀{cs:List bW} {z:Str} (i:Nat),(∃c∈cs,c.1=z)->iC cs z i= .int ((i+bR cs z:Nat):Int)
 |[],_,_,h=>by obtain⟨c,hc,_⟩:=h;simp at hc
 |d::r,z,i,h=>by
  unfold iC bR
  split
  .rfl
  .rename_i hd
   rw[yZ (i+1) (by
    obtain⟨c,hc,e⟩:=h
    rcases List.mem_cons.mp hc with x |x
    .subst x;exact absurd e hd
    .exact⟨c,x,e⟩)]
   congr 2
   omega
theorem yp:∀{cs:List bW} {z:Str},(∃c∈cs,c.1=z)->∃c,cs[bR cs z]? =some c/\c.1=z
 |[],_,h=>by obtain⟨c,hc,_⟩:=h;simp at hc
 |d::r,z,h=>by
  unfold bR
  split
  .rename_i e;exact⟨d,rfl,e⟩
  .rename_i hd
   obtain⟨c,h1,h2⟩:=yp (cs:=r) (z:=z) (by
    obtain⟨c,hc,e⟩:=h
    rcases List.mem_cons.mp hc with x |x
    .subst x;exact absurd e hd
    .exact⟨c,x,e⟩)
   exact⟨c,by simpa using h1,h2⟩
def atN(cs:List bW)(xs:List V)(z:Str):V:=(xs[bR cs z]?).getD .non
def Xf(cs:List bW)(os:List Ord)(xs:List V):List V:=os.map λo=>atN cs xs o.1
def inC(cs:List bW)(os:List Ord):Prop:=∀o∈os,∃c∈cs,c.1=o.1
def axy:Sp:=λvs H Q _=>∃a b n c cs os xs,vs=[.ref a,.ref b,.int n,.ref c]/\gD H a cs/\tE H b os/\H c=some (.lst xs)/\xs.length=cs.length/\cs.length≤4000/\os.length≤4000/\inC cs os/\
 ∀p l H',aq H H'->H p=none->H l=none->H' l=some (.lst (Xf cs os xs))->H' p=some (.tup [.ref l,.int n])->Q (.ref p) H'
def asm(x y:V):Prop:=x= .non\/y= .non\/(∃i j,x= .int i/\y= .int j)\/∃i j,x= .str i/\y= .str j
def Xr:List Ord->List V->List V->Int->Int->Bool
 |o::os,x::xs,y::ys,n,k=>if x=y then Xr os xs ys n k else decide (before x y=o.2)
 |_,_,_,n,k=>decide (n<k)
def aaS(H:Hp)(p:Addr)(xs:List V)(n:Int):Prop:=∃l,H p=some (.tup [.ref l,.int n])/\H l=some (.lst xs)
def alb:Sp:=λvs H Q _=>∃b p q os xs ys n k,vs=[.ref b,.ref p,.ref q]/\tE H b os/\aaS H p xs n/\aaS H q ys k/\xs.length=os.length/\ys.length=os.length/\(∀(i:Nat) x y,xs[i]? =some x->ys[i]? =some y->scalar x=true/\scalar y=true/\asm x y)/\
 ∀H',aq H H'->Q (.bl (Xr os xs ys n k)) H'
theorem T4{α:Type}{l:List α}{i:Nat}{x:α}(h:l[i]? =some x):l.drop i=x::l.drop (i+1):=by
 obtain⟨hi,e⟩:=List.getElem?_eq_some_iff.mp h
 rw[<-e]
 exact List.drop_eq_getElem_cons hi
end Vl
namespace Vl
open PySem L2 PyProof.Rows My NumText
theorem Dz(m:Nat):fX (Str.ofString (toString ((m:Nat):Int))).cps.toList=true/\digitsVal (Str.ofString (toString ((m:Nat):Int))).cps.toList=m:=by
 have hd:AllDigits (Str.ofString (toString ((m:Nat):Int))).cps.toList:=gb m
 have hv:digitsVal (Str.ofString (toString ((m:Nat):Int))).cps.toList=m:=by rw[il];exact PySem.W.KIN.val_back m
 refine⟨?_,hv⟩
 have hne:(Str.ofString (toString ((m:Nat):Int))).cps.toList≠[]:=by rw[il];simp[Nat.toDigits_ne_nil]
 have hall:=toDigits_all _ hd
 rw[hv]at hall
 have e:=il m
 generalize(Str.ofString (toString ((m:Nat):Int))).cps.toList=l at *
 have hl:l.length=(Nat.toDigits 10 m).length:=by rw[e,List.length_map]
 unfold fX
 rw[Bool.or_eq_true,Bool.and_eq_true,Bool.and_eq_true,decide_eq_true_eq,decide_eq_true_eq,decide_eq_true_eq]
 cases l with
 |nil=>exact absurd rfl hne
 |cons c r=>
  by_cases h0:c=48
  .subst h0
   left
   rw[List.dropWhile_cons,if_pos (by decide)]at hall
   cases q:r.dropWhile (· ==48)with
   |nil=>
    rw[q]at hall
    rw[hall]at hl
    have :r=[]:=by cases r with
     |nil=>rfl
     |cons _ _=>simp at hl
    rw[this]
   |cons d t=>
    rw[q]at hall
    rw[hall,List.length_map, <-q]at hl
    have :=(List.dropWhile_sublist (p:=λx:Nat=>x==48) (l:=r)).length_le
    rw[List.length_cons]at hl
    omega
  .right
   refine⟨by simp,by simpa using h0,?_⟩
   rw[List.all_eq_true]
   exact λx hx=>decide_eq_true (hd x hx)
theorem Hh{i:Int}(h1: -1000000000000000000≤i)(h2:i≤1000000000000000000):gA (Str.ofString (toString i)).cps.toList=some i:=by
 by_cases h0:0≤i
 .obtain⟨m,rfl⟩:=Int.eq_ofNat_of_zero_le h0
  obtain⟨a,b⟩:=Dz m
  have hd:=gb m
  have hn:¬(Str.ofString (toString ((m:Nat):Int))).cps.toList[0]? =some 45:=λe=>by
   have :=hd 45 (List.mem_of_getElem? e)
   omega
  have e:=p8 hn
  unfold wL at e
  rw[a,b,if_pos ⟨rfl,by omega⟩]at e
  exact e
 .obtain⟨m,hm,rfl⟩:∃m:Nat,0<m/\i= -((m:Nat):Int):=⟨i.natAbs,by omega,by omega⟩
  obtain⟨a,b⟩:=Dz m
  have hl:=jJ (m:=m) (k:=19) (by decide) (by omega)
  have e:(Str.ofString (toString (-((m:Nat):Int)))).cps.toList=45::(Str.ofString (toString ((m:Nat):Int))).cps.toList:=by
   rw[xf m hm,aW]
   have :(Str.ofString "-").cps.toList=[45]:=by decide+kernel
   rw[this]
   rfl
  have hz:=HQ a
  rw[b]at hz
  rw[L2.len_list]at hl
  rw[e]
  generalize(Str.ofString (toString ((m:Nat):Int))).cps.toList=l at a b hz hl⊢
  have hne:l≠[48]:=λq=>by have :=hz.mpr q;omega
  have w1:Qy (45::l)=true:=by
   unfold Qy
   rw[if_pos (show(45::l)[0]? =some 45 from rfl)]
   show(decide (l≠[48])&&fX l)=true
   rw[a,decide_eq_true hne]
   rfl
  have w2:lE (45::l)= -((m:Nat):Int):=by
   unfold lE
   rw[if_pos (show(45::l)[0]? =some 45 from rfl)]
   show -((digitsVal l:Nat):Int)=_
   rw[b]
  unfold gA
  rw[w1,w2,if_pos ⟨rfl,by rw[List.length_cons];omega,h1,h2⟩]
theorem gZ(i:Int):∀c∈(Str.ofString (toString i)).cps.toList,c=45\/(48≤c/\c≤57):=by
 intro c hc
 by_cases h0:0≤i
 .obtain⟨m,rfl⟩:=Int.eq_ofNat_of_zero_le h0
  exact .inr (gb m c hc)
 .obtain⟨m,hm,rfl⟩:∃m:Nat,0<m/\i= -((m:Nat):Int):=⟨i.natAbs,by omega,by omega⟩
  rw[xf m hm,aW]at hc
  rcases List.mem_append.mp hc with h |h
  .left
   have :(Str.ofString "-").cps.toList=[45]:=by decide+kernel
   rw[this]at h
   simpa using h
  .exact .inr (gb m c h)
theorem dF{i:Int}{k:Nat}(hk:1≤k)(h:i.natAbs<10^k):(Str.ofString (toString i)).length≤k+1:=by
 by_cases h0:0≤i
 .obtain⟨m,rfl⟩:=Int.eq_ofNat_of_zero_le h0
  have :=jJ (m:=m) (k:=k) hk (by simpa using h)
  omega
 .obtain⟨m,hm,rfl⟩:∃m:Nat,0<m/\i= -((m:Nat):Int):=⟨i.natAbs,by omega,by omega⟩
  have :=jJ (m:=m) (k:=k) hk (by simpa using h)
  have e:(Str.ofString "-").length=1:=by decide+kernel
  rw[xf m hm,len_app,e]
  omega
theorem Sd:(Str.ofString "?").cps.toList=[63]:=by decide+kernel
theorem xx:(Str.ofString "'").cps.toList=[39]:=by decide+kernel
theorem QM{i:Int}(h1: -1000000000000000000≤i)(h2:i≤1000000000000000000):jE "number" (wordOf (.int i))=some (.int i):=by
 have hn:¬wordOf (.int i)="?":=λe=>by
  have h:63∈(Str.ofString (toString i)).cps.toList:=by
   have e':Str.ofString (toString i)=Str.ofString "?":=e
   rw[e',Sd]
   simp
  have :=gZ i 63 h
  omega
 unfold jE
 rw[if_neg hn,if_pos rfl]
 show Yk (gA (Str.ofString (toString i)).cps.toList)=_
 rw[Hh h1 h2]
 rfl
theorem Vp{z:Str}(hl:z.length≤20)(h:∀c∈z.cps.toList,c∈SG):vZ (.str z)=true:=by
 show(decide (z.length≤20)&&gR z TSs)=true
 rw[decide_eq_true hl,Bool.true_and]
 unfold gR
 rw[List.all_eq_true]
 exact λc hc=>decide_eq_true (ahH c (h c hc))
theorem aca(z:Str):bQ (Str.ofString "'"++z) (some 1) none=z:=by
 apply bU
 have :=lq (Str.ofString "'"++z) 1
 rw[show((1:Nat):Int)=1 from rfl]at this
 rw[this,aW,xx]
 rfl
theorem Kp:¬(("text":Str)="number"):=by decide+kernel
theorem Ro{z:Str}(hl:z.length≤20)(h:∀c∈z.cps.toList,c∈SG):jE "text" (wordOf (.str z))=some (.str z):=by
 have e:wordOf (.str z)=Str.ofString "'"++z:=rfl
 have h0:(Str.ofString "'"++z).cps.toList[0]? =some 39:=by rw[aW,xx];rfl
 have hn:¬Str.ofString "'"++z="?":=λe=>by
  have e':Str.ofString "'"++z=Str.ofString "?":=e
  rw[e',Sd]at h0
  simp at h0
 rw[e]
 unfold jE
 rw[if_neg hn,if_neg Kp]
 unfold iV
 rw[aca,if_pos ⟨h0,Vp hl h⟩]
 rfl
theorem xT{ps:List Str}(h:ps≠[])(hf:∀p∈ps,32∉p.cps.toList):cN 32 (Str.join " " ps)=ps:=by
 unfold cN
 have e:(Str.join " " ps).cps.toList=km 32 (ps.map λp=>p.cps.toList):=jg 32 ps
 rw[e,lW (by simpa using h) λp hp=>?_,List.map_map]
 .have :((λl:List Nat=>(⟨l.toArray⟩:Str))∘λp:Str=>p.cps.toList)=id:=by
   funext p
   rfl
  rw[this,List.map_id]
 .obtain⟨q,hq,rfl⟩:=List.mem_map.mp hp
  exact hf q hq
theorem XQ(z:Str):Str.join " " (cN 32 z)=z:=by
 apply bU
 have e:(Str.join " " (cN 32 z)).cps.toList=km 32 ((cN 32 z).map λp=>p.cps.toList):=jg 32 _
 rw[e]
 unfold cN
 rw[List.map_map]
 have :((λp:Str=>p.cps.toList)∘λl:List Nat=>(⟨l.toArray⟩:Str))=id:=by
  funext p
  rfl
 rw[this,List.map_id,yH]
theorem ajC(a b:Str):Str.join " " [a,b]=a++Str.ofString " "++b:=rfl
theorem ajj(a b c:Str):Str.join " " [a,b,c]=a++Str.ofString " "++b++Str.ofString " "++c:=by
 show a++Str.ofString " "++(b++Str.ofString " "++c)=_
 apply bU
 simp only[aW,List.append_assoc]
end Vl
namespace L2
open PySem PySem.Spec PyProof.Rows PySem.W
section
variable{X:Cx}{σ:St}{H:Hp}{Q:VK}{a:Addr}
def aic{α:Type}(xs:List α)(k:Nat)(y:α):List α:=xs.take k++y::xs.drop k
def alp:V->List V->Hp->VK->Prop:=λx vs H Q=>∃l xs k y,x= .ref l/\vs=[.int (k:Nat),y]/\H l=some (.lst xs)/\k≤xs.length/\xs.length<sizeLine/\Q .non (upd H l (.lst (aic xs k y)))
end
end L2
namespace Vl
open PySem L2 PyProof.Rows My
section
variable{α β:Type}
def ayz(m:List (Int×α))(i:Int):Option α:=(m.find? λp=>decide (p.1=i)).map (·.2)
def azc(m:List (Int×α))(i:Int)(x:α):List (Int×α):=if(m.any λp=>decide (p.1=i))=true then m.map (λp=>if p.1=i then(p.1,x)else p)else m++[(i,x)]
def axl(m:List (Int×α))(i:Int):List (Int×α):=m.filter λp=>decide (p.1≠i)
abbrev PR(R:V->α->Prop)(kv:Key×V)(p:Int×α):Prop:=kv.1=Sum.inl p.1/\R kv.2 p.2
def DictAt(R:V->α->Prop)(H:Hp)(a:Addr)(m:List (Int×α)):Prop:=∃kvs,H a=some (.dK kvs)/\d9 (PR R) kvs m
def Out(S:List Addr)(H H':Hp):Prop:=∀b o,b∉S->H b=some o->H' b=some o
def TupAt(H:Hp)(v:V)(xs:List V):Prop:=∃t,v= .ref t/\H t=some (.tup xs)
def aaE(H:Hp)(v:V):Option (List V)->Prop
 |none=>v= .non
 |some xs=>TupAt H v xs
structure akr where
 at_:Int
 row:Int
 was:Option (List V)
 is:Option (List V)
def abV(H:Hp)(v:V)(d:akr):Prop:=∃t w u,v= .ref t/\H t=some (.tup [.int d.at_,.int d.row,w,u])/\aaE H w d.was/\aaE H u d.is
structure Bk where
 heads:List bW
 rows:List (Int×List V)
 touched:List (Int×Int)
 done:List akr
 known:Int
 now:Int
structure BA where
 b:Addr
 dx:Addr
 h:Addr
 r:Addr
 t:Addr
 d:Addr
def ai0(v:V)(i:Int):Prop:=v= .int i
structure amK(C:Addr)(H:Hp)(A:BA)(B:Bk):Prop where
 ins:H A.b=some (.ins C A.dx [("heads",.ref A.h),("rows",.ref A.r),("touched",.ref A.t),("done",.ref A.d),("known",.int B.known),("now",.int B.now)])
 own:H A.dx=some (.own A.b)
 heads:gD H A.h B.heads
 rows:DictAt (TupAt H) H A.r B.rows
 touched:DictAt ai0 H A.t B.touched
 done:∃xs,H A.d=some (.lst xs)/\d9 (abV H) xs B.done
 rt:A.r≠A.t
 hd:A.h≠A.d
def BA.fp(A:BA):List Addr:=[A.b,A.r,A.t,A.d]
section
variable{C:Addr}{H H':Hp}{A:BA}{B:Bk}
end
end
end Vl
namespace L2
open PySem PySem.Spec PyProof.Rows PySem.W
section
variable{prog:Program}{w:World}{A:Around}{E:Value->Shared->Prop}{s:Shared}
variable{I:Addr}{fp wr:List Addr}{G:Array GenState->Array GenState->Prop}{n:Nat}{P:Nat->Value->Prop}{St:Nat->Shared->Prop}
end
section
variable{X:Cx}{σ:St}{H:Hp}{Q:VK}{a:Expr}{p pos p' pos':Pos}
end
section
variable{X:Cx}{σ:St}{H:Hp}{Q:VK}{D:Ends}{o e f:Expr}{apos cpos pos:Pos}
theorem aab{tg:Expr}{body:List Stmt}(hp:PassesOwn (model X.prog X.w) X.A X.env X.xe)(hc:X.calm=true)(hs:∀x,foldedSetIterable e X.env x=pure x)
  (h:EV X e σ H λv H1=>∃q xs,v= .ref q/\fK X.K H1 q xs/\∃Pv:Nat->St->Hp->Prop,Pv 0 σ H1/\(∀i σ' H',i≤xs.length->Pv i σ' H'->fK X.K H' q xs)/\
   (∀i x σ' H',xs[i]? =some x->Pv i σ' H'->EG X tg x σ' H' λσ2 H2=>lB X body {D with nx:=Pv (i+1),ct:=Pv (i+1),bk:=D.nx} σ2 H2)/\∀σ' H',Pv xs.length σ' H'->D.nx σ' H'):
  SX X (.For tg e body [] pos) D σ H:=by
 refine u6 hp hc hs (acj (bC h λv H1 q=>?_))
 obtain⟨q,xs,rfl,hq,Pv,h0,hl,hst,hd⟩:=q
 exact⟨q,rfl,⟨xs,hq⟩,aap (g:=EG X tg) (tb:=lB X body) Pv h0 hl hst hd⟩
end
section
variable{X:Cx}{pins:List (Addr×Obj)}{σ:St}{H:Hp}{s:Shared}{d:Addr}
end
def Itd(ks:List Int):It:=⟨λi _=>i<ks.length,λi H x H'=>H'=H/\∃k,ks[i]? =some k/\x= .int k,λi _=>i=ks.length⟩
section
variable{X:Cx}{σ:St}{H:Hp}{a e:Expr}{tg:Expr}{pos:Pos}{R:It->Hp->Prop}{D:Ends}
end
section
variable{X:Cx}{H:Hp}{Q:VK}{e C:Addr}{D:Option Addr}{k:Bool}
theorem V2{p:Addr}{as:List V}{us:List Value}(ca:Br X.K C)(he:H e=some (xw e C D))(hd:∀E',D=some E'->∃fs,H E'=some (.xd fs))(hp:H p=some (.tup as))(hu:∀vs,Vals as vs->vs=us)(ek:W.kitAny X.K (.ref C) us=some k)(q:Q (.bl k) H):CL X (.builtin "isinstance") [.ref e,.ref p] H Q:=by
 refine gJ (r:=λxs H Q=>xs=[.ref e,.ref p]/\H e=some (xw e C D)/\(∀E',D=some E'->∃fs,H E'=some (.xd fs))/\H p=some (.tup as)/\Q (.bl k) H) ?_ ⟨rfl,he,hd,hp,q⟩
 intro pins s σ H xs us' Q I r h
 obtain⟨rfl,he,hd,hp,q⟩:=h
 obtain⟨u1,u2,rfl,r1,r2⟩:=vals2 r
 cases(show u1=Value.ref e from r1)
 cases(show u2=Value.ref p from r2)
 obtain⟨ox,od,J,_⟩:=I.inst he hd
 obtain⟨_,its,rv,ob,hob,hcl,hdt⟩:=I.hok p _ hp
 rw[hu its rv]at hdt
 obtain⟨n,hdt⟩:=hdt
 obtain⟨oc,odd,oda,osl⟩:=ob
 dsimp only at hcl hdt
 subst hcl hdt
 exact W.kia_tup (VH ca) I.kIn ⟨ox,od,J⟩ hob ek (λz=>nomatch z) λtk=>⟨.bl k,H,I.tok tk,rfl,q⟩
theorem uo:∀(as:List Addr) (vs:List Value),Vals (as.map V.ref) vs->vs=as.map Value.ref
 |[],_,.nil=>rfl
 |a::as,_,.cons r t=>by
  cases(show _=Value.ref a from r)
  rw[uo as _ t]
  rfl
end
section
variable{X:Cx}{σ σ':St}{H:Hp}{Q:VK}{a b tg elt:Expr}{scope:Scope}{p p' pos:Pos}
end
section
variable{X:Cx}{H:Hp}{Q:VK}
end
section
variable{X:Cx}{H:Hp}{Q:VK}
variable{σ:St}{a b tg:Expr}{p p' pos:Pos}{D:Ends}
end
section
variable{X:Cx}{σ:St}{H:Hp}{Q:VK}{pos:Pos}
end
end L2
namespace L2
open PySem PySem.Spec PyProof.Rows
def axT:Option Addr->Value
 |none=>.none
 |some b=>.ref b
section
variable{prog:Program}{w:World}{A:Around}{E:Value->Shared->Prop}{s:Shared}{env:Env}
end
section
variable{prog:Program}{w:World}{A:Around}{E:Value->Shared->Prop}{s:Shared}{env:Env}
variable{nm q:Str}{C N:Addr}{bs bm:List Value}{hdct:Bool}{sn:List Str}{sub:List Value}{ab:Bool}{col:Option Bool}{dd:Option Addr}{k0 k1 k2 k3 k5:Option Value}
end
section
variable{X:Cx}{Kx:St->XK}{D:Ends}{σ:St}{H:Hp}{rest:List ExceptHandler}{pos np ynp cpos rpos p0:Pos}{x y fld:Str}{cls c:Value}{d:Option Addr×Bool}{a:Expr}{as:List Expr}{cc:Bool}{k k' j0:Nat}
end
end L2
namespace L2
open PySem PySem.Spec PyProof.Rows PySem.Builtin PySem.Builtin.Str
def GF(p:Nat->Bool):Nat->Option Nat
 |0=>none
 |n+1=>if p n=true then some n else GF p n
theorem yS(p:Nat->Bool):∀n,(List.range n).foldl (λlast i=>if p i=true then some i else last) none=GF p n
 |0=>rfl
 |n+1=>by
  rw[List.range_succ,List.foldl_append,yS p n]
  rfl
theorem xG(p:Nat->Prop) [DecidablePred p]:∀(l:List Nat) (b:Option Nat),(forIn (m:=Id) l b λi s=>if p i then pure (ForInStep.yield (some i))else pure (ForInStep.yield s)).run=l.foldl (λlast i=>if p i then some i else last) b
 |[],b=>rfl
 |a::l,b=>by
  rw[List.forIn_cons,List.foldl_cons, <-xG p l]
  by_cases h:p a
  .simp only[if_pos h]
   rfl
  .simp only[if_neg h]
   rfl
theorem uf(x y:Str):lastOccurrence x y 0 x.length=GF (λi=>decide (i+y.length≤x.length)&&subAt x y i) (x.length+1):=by
 unfold lastOccurrence
 rw[<-yS]
 simp[List.range_eq_range']
 exact xG (λi=>i+y.length≤x.length/\subAt x y i=true) _ none
theorem yN{p:Nat->Bool}:∀{n:Nat},(∀i,i<n->p i=false)->GF p n=none
 |0,_=>rfl
 |n+1,h=>by
  show(if p n=true then _ else _)=_
  rw[if_neg (by rw[h n (by omega)];decide)]
  exact yN λi hi=>h i (by omega)
theorem yw{p:Nat->Bool}{k:Nat}:∀{n:Nat},k<n->p k=true->(∀i,k<i->i<n->p i=false)->GF p n=some k
 |n+1,hk,hp,h=>by
  show(if p n=true then _ else _)=_
  by_cases e:k=n
  .subst e
   rw[if_pos hp]
  .rw[if_neg (by rw[h n (by omega) (by omega)];decide)]
   exact yw (by omega) hp λi h1 h2=>h i h1 (by omega)
theorem Jz(x:Str)(c i:Nat):(decide (i+(⟨#[c]⟩:Str).length≤x.length)&&subAt x ⟨#[c]⟩ i)=decide (x.cps.toList[i]? =some c):=by
 rw[Bool.eq_iff_iff,Bool.and_eq_true,decide_eq_true_iff,decide_eq_true_iff]
 exact StrLaws.subAt_one x c i
theorem Gf{z:Str}{c:Nat}{b w:List Nat}(h:z.cps.toList=b++c::w)(hw:c∉w):Txt.rpartition z ⟨#[c]⟩=(⟨b.toArray⟩,⟨#[c]⟩,⟨w.toArray⟩):=by
 have hlen:z.length=b.length+1+w.length:=by
  have :z.cps.toList.length=z.length:=rfl
  rw[<-this,h,List.length_append,List.length_cons]
  omega
 have hl:lastOccurrence z ⟨#[c]⟩ 0 z.length=some b.length:=by
  rw[uf]
  refine yw (by omega) ?_ λi h1 h2=>?_
  .rw[Jz,h,decide_eq_true_iff,List.getElem?_append_right (Nat.le_refl _),Nat.sub_self]
   rfl
  .rw[Jz,h,decide_eq_false_iff_not,List.getElem?_append_right (by omega)]
   intro e
   obtain⟨j,hj⟩:∃j,i-b.length=j+1:=⟨i-b.length-1,by omega⟩
   rw[hj,List.getElem?_cons_succ]at e
   exact hw (List.mem_of_getElem? e)
 have ez:z=⟨(b++c::w).toArray⟩:=by
  obtain⟨⟨l⟩⟩:=z
  have :l=b++c::w:=h
  rw[this]
 have e1:strSub z 0 b.length=⟨b.toArray⟩:=by
  unfold strSub
  rw[ez]
  simp
 have e2:strSub z (b.length+(⟨#[c]⟩:Str).length) z.length=⟨w.toArray⟩:=by
  have l1:(⟨#[c]⟩:Str).length=1:=rfl
  rw[l1,hlen]
  unfold strSub
  rw[ez]
  simp[List.extract_eq_take_drop,List.drop_append]
  rw[List.drop_eq_nil_of_le (by omega),List.nil_append,List.take_length]
 have un:Txt.rpartition z ⟨#[c]⟩=(match lastOccurrence z ⟨#[c]⟩ 0 z.length with
  |some i=>(strSub z 0 i,⟨#[c]⟩,strSub z (i+(⟨#[c]⟩:Str).length) z.length)
  |none=>(Str.empty,Str.empty,z)):=rfl
 rw[un,hl]
 show(strSub z 0 b.length,_,strSub z (b.length+(⟨#[c]⟩:Str).length) z.length)=_
 rw[e1,e2]
theorem Tz{z:Str}{c:Nat}(h:c∉z.cps.toList):Txt.rpartition z ⟨#[c]⟩=(Str.empty,Str.empty,z):=by
 have hl:lastOccurrence z ⟨#[c]⟩ 0 z.length=none:=by
  rw[uf]
  refine yN λi hi=>?_
  rw[Jz,decide_eq_false_iff_not]
  exact λe=>h (List.mem_of_getElem? e)
 unfold Txt.rpartition
 rw[hl]
section
variable{X:Cx}{H:Hp}{Q:VK}{z:Str}
theorem O6{c:Nat}(hz:z.length≤100000)(g:∀p,H p=none->Q (.ref p) (upd H p (.tup [.str (Txt.rpartition z ⟨#[c]⟩).1,.str (Txt.rpartition z ⟨#[c]⟩).2.1,.str (Txt.rpartition z ⟨#[c]⟩).2.2]))):MT X "str.rpartition" (.str z) [.str ⟨#[c]⟩] H Q:=by
 refine n8 (r:=λx xs H Q=>∃z c,x= .str z/\xs=[.str ⟨#[c]⟩]/\z.length≤100000/\∀p,H p=none->Q (.ref p) (upd H p (.tup [.str (Txt.rpartition z ⟨#[c]⟩).1,.str (Txt.rpartition z ⟨#[c]⟩).2.1,.str (Txt.rpartition z ⟨#[c]⟩).2.2]))) ?_ ⟨z,c,rfl,rfl,hz,g⟩
 intro pins s σ H x xs v us Q I rx rs h
 obtain⟨z,c,rfl,rfl,hz,g⟩:=h
 obtain⟨t,rfl⟩:=rx
 obtain⟨u,rfl,ru⟩:=vals1 rs
 obtain⟨t',rfl⟩:=ru
 have hsz:sizeLine=16777216:=sizeLine_eq
 have fin:∀(a b c':Str) (ta tb tc:Tok) (tk:Nat),a=(Txt.rpartition z ⟨#[c]⟩).1->b=(Txt.rpartition z ⟨#[c]⟩).2.1->c'=(Txt.rpartition z ⟨#[c]⟩).2.2->EP X pins σ Q (.ref s.heap.objs.size) {s with toks:=tk,heap:=s.heap.push {cls:=.type "tuple",data:=.seq [Value.str a ta,.str b tb,.str c' tc].toArray}}:=λa b c' ta tb tc tk ea eb ec=>by
  subst ea eb ec
  refine⟨.ref s.heap.objs.size,_,I.laid (t':=tk) (o:=.tup [.str (Txt.rpartition z ⟨#[c]⟩).1,.str (Txt.rpartition z ⟨#[c]⟩).2.1,.str (Txt.rpartition z ⟨#[c]⟩).2.2]) (λb o q=>Heap.get?_push_of_some _ q) (Nat.le_refl _) ?_,rfl,g _ (I.hok.fresh (Nat.le_refl _))⟩
  exact⟨by show 3≤sizeLine;omega,_,.cons ⟨ta,rfl⟩ (.cons ⟨tb,rfl⟩ (.cons ⟨tc,rfl⟩ .nil)),IsTup.new _ _⟩
 refine call_meets F.slot_str_rpartition (typeIs_str _ _ _) F.entry_str_rpartition (F.args_str_rpartition_2 _ _) (meets_str_rpartition z ⟨#[c]⟩ t t' rfl (by omega)) ?_
 have h':=fin
 unfold Txt.rpartition at h'
 revert h'
 cases lastOccurrence z ⟨#[c]⟩ 0 z.length with
 |none=>intro h';exact h' _ _ _ _ _ _ _ rfl rfl rfl
 |some i=>intro h';exact h' _ _ _ _ _ _ _ rfl rfl rfl
end
end L2
namespace L2
open PySem PySem.Spec PyProof.Rows
def dj(keep:Nat->Bool)(val:Nat->V)(n:Nat):List V:=((List.range n).filter keep).map val
theorem yU(keep:Nat->Bool)(val:Nat->V)(n:Nat):dj keep val (n+1)=dj keep val n++(if keep n=true then [val n]else []):=by
 unfold dj
 rw[List.range_succ,List.filter_append,List.map_append]
 by_cases h:keep n=true
 .simp[h]
 .have h':keep n=false:=by simpa using h
  simp[h']
theorem lr(keep:Nat->Bool)(val:Nat->V)(n:Nat):(dj keep val n).length≤n:=by
 unfold dj
 rw[List.length_map]
 have :=List.length_filter_le keep (List.range n)
 rw[List.length_range]at this
 exact this
section
variable{X:Cx}{e c:Expr}{σ σ':St}{H:Hp}{Q:VK}{D:Ends}{pos spos py:Pos}{tg elt:Expr}{scope:Scope}{y:Str}{j:Nat}
def Nf(X:Cx)(N':List Str)(scope:Scope)(tg elt c:Expr)(σ':St)(H1:Hp)(Q:VK)(xs:List V):Prop:=
 ∃(Tp:St->Prop) (keep:Nat->Bool) (val:Nat->V),Tp σ'/\
  (∀(fp:List Addr) (E C:Addr) (s3:Shared) (H0:Hp) (i:Nat) (τ:St) (x:V) (H2:Hp),H1 E=none->xs[i]? =some x->Tp τ->aq H1 H2->
   EG (z9 X N' scope (bV scope X.env) C s3 H0 fp) tg x τ H2 λτ2 H3=>ET (z9 X N' scope (bV scope X.env) C s3 H0 fp) c τ2 H3 λk H4=>k=keep i/\Tp τ2/\aq H2 H4/\(k=true->EV (z9 X N' scope (bV scope X.env) C s3 H0 fp) elt τ2 H4 λv H5=>v=val i/\aq H4 H5))/\
  ∀(E:Addr) (H2:Hp),H1 E=none->H2 E=some (.lst (dj keep val xs.length))->aq H1 H2->Q (.ref E) H2
theorem aj5{N':List Str}{l:Addr}{xs:List V}(hn:xs.length≤sizeLine)(hl:bf X.K H l xs)(h:Nf X N' scope tg elt c σ' H Q xs):
  ∀(fp:List Addr) (E C:Addr) (s3:Shared),H E=none->mL X (z9 X N' scope (bV scope X.env) C s3 (upd H E (.lst [])) fp) tg elt [c] (Z0 X.K l) E σ' H (λH'=>Q (.ref E) H'):=by
 intro fp E C s3 hE
 obtain⟨Tp,keep,val,t0,step,fin⟩:=h
 refine⟨λi m τ H1=>m=xs.length-i/\i≤xs.length/\aq H H1/\Tp τ/\H1 E=some (.lst (dj keep val i)),⟨xs.length,by simp,Nat.zero_le _,aq.upd hE,t0,ao⟩,?_⟩
 rintro i m τ H1 ⟨rfl,hi,s1,hτ,eE⟩
 by_cases hlt:i<xs.length
 .refine .inr ⟨⟨xs,xs[i],aq.seq s1 hl,List.getElem?_eq_getElem hlt⟩,λτ' H'=>aq H H'/\Tp τ'/\H' E=some (.lst (dj keep val (i+1))),λτ' H' ⟨a,b,d⟩=>⟨xs.length-(i+1),by omega,rfl,hlt,a,b,d⟩,λx H2 yl=>?_⟩
  have hx:xs[i]? =some x:=yl.2 xs (aq.seq s1 hl)
  have hH:H2=H1:=yl.1
  subst hH
  intro pins s u I r
  refine cU (step fp E C s3 _ i τ x _ hE hx hτ s1 pins s u I r) λ_ s' ⟨τ2,H3,I3,q3⟩=>⟨τ2,H3,I3,Gp ?_⟩
  refine λpins s I=>cU (q3 pins s I) λk s' ⟨H4,I4,hk,t2,s2,q⟩=>⟨H4,I4,?_⟩
  subst hk
  have eK:=yU keep val i
  have hkl:=lr keep val i
  by_cases hkp:keep i=true
  .rw[if_pos hkp]
   rw[if_pos hkp]at eK
   refine bC (q hkp) λv H5 ⟨ev,s5⟩=>⟨dj keep val i,s5 _ _ (s2 _ _ eE),by omega,?_⟩
   subst ev
   refine⟨λb o e=>?_,t2,by rw[ao,eK]⟩
   rw[aB (au e hE)]
   exact s5 _ _ (s2 _ _ (s1 _ _ e))
  .rw[if_neg hkp]
   rw[if_neg hkp,List.append_nil]at eK
   exact⟨s1.trans s2,t2,by rw[eK];exact s2 _ _ eE⟩
 .have e:i=xs.length:=by omega
  subst e
  exact .inl ⟨⟨xs,aq.seq s1 hl,Nat.le_refl _⟩,fin E H1 hE eE s1⟩
theorem Tq(N':List Str)(hσ:fO N' X.N σ scope=σ')(hsw:swapsWith (.ListComp elt [⟨tg,e,[c],0⟩] scope pos) (some (.Name y py)) spos.line X.env=pure true)(hc:X.calm=true)(S:dh X.env scope)(hs:∀x,foldedSetIterable e X.env x=pure x)
  (hN:X.N.Nodup) (hi:nameAt X.N y=some j) (hx:X.env.scope.names.lookup y=some .local)
  (h:EV X e σ H λv H1=>∃l xs,v= .ref l/\bf X.K H1 l xs/\xs.length≤sizeLine/\Nf X N' scope tg elt c σ' H1 (λv H'=>D.nx (σ.set j (some v)) H') xs):
  SX X (.Assign [.Name y py] (.ListComp elt [⟨tg,e,[c],0⟩] scope pos) spos) D σ H:=by
 refine Ea (N':=N') hsw hc S hs hN hi hx (rW (bC h λv H1 q=>?_))
 obtain⟨l,xs,rfl,hl,hz,hw⟩:=q
 refine⟨l,rfl,⟨xs,hl⟩,?_⟩
 rw[hσ]
 exact aj5 (Q:=λv H'=>D.nx (σ.set j (some v)) H') hz hl hw
theorem Rt(hc:X.calm=true):pQ X (.builtin "min") (λxs H Q=>∃i j k,xs=[.int i,.int j,.int k]/\∀m,(m=i\/m=j\/m=k)->m≤i->m≤j->m≤k->Q (.int m) H):=by
 intro pins s σ H xs us Q I r h
 obtain⟨i,j,k,rfl,q⟩:=h
 obtain⟨u,w',y',rfl,⟨t,rfl⟩,⟨t',rfl⟩,⟨t'',rfl⟩⟩:=vals3 r
 refine min_three_ints (I.ok.hd hc) λh' tk kp=>?_
 split
 .split
  .exact⟨.int k,H,I.kept kp,⟨_,rfl⟩,q k (by omega) (by omega) (by omega) (by omega)⟩
  .exact⟨.int j,H,I.kept kp,⟨_,rfl⟩,q j (by omega) (by omega) (by omega) (by omega)⟩
 .split
  .exact⟨.int k,H,I.kept kp,⟨_,rfl⟩,q k (by omega) (by omega) (by omega) (by omega)⟩
  .exact⟨.int i,H,I.kept kp,⟨_,rfl⟩,q i (by omega) (by omega) (by omega) (by omega)⟩
theorem acr{i j k:Int}(hc:X.calm=true)(g:∀m,(m=i\/m=j\/m=k)->m≤i->m≤j->m≤k->Q (.int m) H):CL X (.builtin "min") [.int i,.int j,.int k] H Q:=gJ (Rt hc) ⟨i,j,k,rfl,g⟩
end
section
variable{X:Cx}{e c:Expr}{es:List Expr}{σ σ':St}{H:Hp}{Q:VK}{D:Ends}{p pos spos py:Pos}{tg elt:Expr}{scope:Scope}{y:Str}{j:Nat}
theorem Uw(hg:Gl X "range")(hm:X.mg "range"=none)(he:starEach (e::es) X.env=(false,eval e X.env)::starEach es X.env)(hpl:(backTo pos (starEach es X.env)).any (·.1)=false)(h:EA X (e::es) σ H λvs H1=>CL X (.type "range") vs H1 Q):EV X (.Call (.Name "range" p) (e::es) [] pos) σ H Q:=oJ hg hm boot_range (by decide) (by decide) he hpl h
theorem Td{a b:Int}(g:∀r,H r=none->Q (.ref r) (upd H r (.rng a b))):CL X (.type "range") [.int a,.int b] H Q:=by
 refine gJ (r:=λxs H Q=>∃a b,xs=[.int a,.int b]/\∀r,H r=none->Q (.ref r) (upd H r (.rng a b))) ?_ ⟨a,b,rfl,g⟩
 intro pins s σ H xs us Q I r h
 obtain⟨a,b,rfl,g⟩:=h
 obtain⟨u1,u2,rfl,⟨t,rfl⟩,⟨t',rfl⟩⟩:=vals2 r
 refine call_range_2 ⟨.ref s.heap.objs.size,_,I.laid (t':=s.toks+1) (o:=.rng a b) (λb o q=>Heap.get?_push_of_some _ q) (Nat.le_refl _) ⟨t,t',s.toks,Heap.get?_push_size _ rfl⟩,rfl,g _ (I.hok.fresh (Nat.le_refl _))⟩
def jA(a:Int)(n:Nat):List V:=(List.range n).map λi=>V.int (a+(i:Nat))
theorem Ru(a:Int):∀(n:Nat) (vs:List Value),vs.length=n->(∀(j:Nat) v,vs[j]? =some v->∃t,v= .int (a+(j:Nat)) t)->Vals (jA a n) vs:=by
 intro n
 induction n generalizing a with
 |zero=>intro vs h _;have :vs=[]:=by simpa using h
        subst this;exact .nil
 |succ n ih=>
  intro vs h k
  cases vs with
  |nil=>simp at h
  |cons v vs=>
   obtain⟨u,rfl⟩:=k 0 v rfl
   have er:jA a (n+1)=V.int (a+((0:Nat):Int))::jA (a+1) n:=by
    unfold jA
    rw[List.range_succ_eq_map,List.map_cons,List.map_map]
    congr 1
    refine List.map_congr_left λi _=>?_
    show V.int _=V.int _
    congr 1
    show a+((i+1:Nat):Int)=a+1+(i:Nat)
    omega
   rw[er]
   exact .cons ⟨u,rfl⟩ (ih (a+1) vs (by simpa using h) λj v e=>by
    obtain⟨t,rfl⟩:=k (j+1) v (by simpa using e)
    exact⟨t,by congr 1;omega⟩)
theorem Z9{r:Addr}{a b:Int}(hc:X.calm=true)(hr:H r=some (.rng a b))(h1: -(2^62)≤a)(h2:a<2^62)(h3: -(2^62)≤b)(h4:b<2^62)(hn:(b-a).toNat≤4000)(g:∀l,H l=none->Q (.ref l) (upd H l (.lst (jA a (b-a).toNat)))):CL X (.type "list") [.ref r] H Q:=by
 refine gJ (r:=λxs H Q=>∃r a b,xs=[.ref r]/\H r=some (.rng a b)/\(-(2^62)≤a/\a<2^62/\ -(2^62)≤b/\b<2^62)/\(b-a).toNat≤4000/\∀l,H l=none->Q (.ref l) (upd H l (.lst (jA a (b-a).toNat)))) ?_ ⟨r,a,b,rfl,hr,⟨h1,h2,h3,h4⟩,hn,g⟩
 intro pins s σ H xs us Q I rr h
 obtain⟨r,a,b,rfl,hr,⟨h1,h2,h3,h4⟩,hn,g⟩:=h
 obtain⟨u,rfl,rx⟩:=vals1 rr
 cases rx
 obtain⟨t,u,v,e⟩:=I.hok r _ hr
 have akq:Builtin.Range.rangeSize a b 1=((b-a).toNat:Nat):=by
  rw[rangeSize_one]
  split <;>omega
 have hsm:Builtin.Range.small a b 1=true:=by
  first
   |exact small_one h1 h2 h3 h4
   |(unfold Builtin.Range.small;simp;omega)
 have hsz:sizeLine=16777216:=sizeLine_eq
 refine call_list_range (I.ok.hd hc) e hsm akq (by omega) λh' tk acc c' kp eS it=>?_
 obtain⟨iz,ig⟩:=it
 have hv:Vals (jA a (b-a).toNat) acc.toList:=Ru a _ _ (by simpa using iz) λj v e=>by
  obtain⟨t,rfl⟩:=ig j v (by simpa using e)
  exact⟨t,by rw[Int.mul_one]⟩
 refine⟨.ref s.heap.objs.size,_,I.laid (t':=tk) kp (Nat.le_refl _) (show d7 X.prog X.w _ h' _ (.lst (jA a (b-a).toNat))from⟨by unfold jA;rw[List.length_map,List.length_range];omega,acc.toList,c',hv,by rw[Array.toArray_toList];exact eS⟩),rfl,g _ (I.hok.fresh (Nat.le_refl _))⟩
theorem abq{N':List Str}{J:It}{xs:List V}(hn:xs.length≤sizeLine)(go:∀i H2,aq H H2->i<xs.length->J.go i H2)(stop:∀H2,aq H H2->J.stop xs.length H2)(yl:∀i H2 x H3,i<xs.length->aq H H2->J.yld i H2 x H3->xs[i]? =some x/\H3=H2)(h:Nf X N' scope tg elt c σ' H Q xs):
  ∀(fp:List Addr) (E C:Addr) (s3:Shared),H E=none->mL X (z9 X N' scope (bV scope X.env) C s3 (upd H E (.lst [])) fp) tg elt [c] J E σ' H (λH'=>Q (.ref E) H'):=by
 intro fp E C s3 hE
 obtain⟨Tp,keep,val,t0,step,fin⟩:=h
 refine⟨λi m τ H1=>m=xs.length-i/\i≤xs.length/\aq H H1/\Tp τ/\H1 E=some (.lst (dj keep val i)),⟨xs.length,by simp,Nat.zero_le _,aq.upd hE,t0,ao⟩,?_⟩
 rintro i m τ H1 ⟨rfl,hi,s1,hτ,eE⟩
 by_cases hlt:i<xs.length
 .refine .inr ⟨go i H1 s1 hlt,λτ' H'=>aq H H'/\Tp τ'/\H' E=some (.lst (dj keep val (i+1))),λτ' H' ⟨a,b,d⟩=>⟨xs.length-(i+1),by omega,rfl,hlt,a,b,d⟩,λx H2 y=>?_⟩
  obtain⟨hx,hH⟩:=yl i H1 x H2 hlt s1 y
  subst hH
  intro pins s u I r
  refine cU (step fp E C s3 _ i τ x _ hE hx hτ s1 pins s u I r) λ_ s' ⟨τ2,H3,I3,q3⟩=>⟨τ2,H3,I3,Gp ?_⟩
  refine λpins s I=>cU (q3 pins s I) λk s' ⟨H4,I4,hk,t2,s2,q⟩=>⟨H4,I4,?_⟩
  subst hk
  have eK:=yU keep val i
  have hkl:=lr keep val i
  by_cases hkp:keep i=true
  .rw[if_pos hkp]
   rw[if_pos hkp]at eK
   refine bC (q hkp) λv H5 ⟨ev,s5⟩=>⟨dj keep val i,s5 _ _ (s2 _ _ eE),by omega,?_⟩
   subst ev
   refine⟨λb o e=>?_,t2,by rw[ao,eK]⟩
   rw[aB (au e hE)]
   exact s5 _ _ (s2 _ _ (s1 _ _ e))
  .rw[if_neg hkp]
   rw[if_neg hkp,List.append_nil]at eK
   exact⟨s1.trans s2,t2,by rw[eK];exact s2 _ _ eE⟩
 .have e:i=xs.length:=by omega
  subst e
  exact .inl ⟨stop H1 s1,fin E H1 hE eE s1⟩
def dI(z:Str):List V:=z.cps.toList.map λc=>V.str ⟨#[c]⟩
theorem Bd(N':List Str)(hσ:fO N' X.N σ scope=σ')(hsw:swapsWith (.ListComp elt [⟨tg,e,[c],0⟩] scope pos) (some (.Name y py)) spos.line X.env=pure true)(hc:X.calm=true)(S:dh X.env scope)(hs:∀x,foldedSetIterable e X.env x=pure x)
  (hN:X.N.Nodup) (hi:nameAt X.N y=some j) (hx:X.env.scope.names.lookup y=some .local)
  (h:EV X e σ H λv H1=>∃z:Str,v= .str z/\z.length≤sizeLine/\Nf X N' scope tg elt c σ' H1 (λv H'=>D.nx (σ.set j (some v)) H') (dI z)):
  SX X (.Assign [.Name y py] (.ListComp elt [⟨tg,e,[c],0⟩] scope pos) spos) D σ H:=by
 refine Ea (N':=N') hsw hc S hs hN hi hx (Jt (bC h λv H1 q=>?_))
 obtain⟨z,rfl,hz,hw⟩:=q
 refine⟨z,rfl,?_⟩
 rw[hσ]
 have hl:(dI z).length=z.cps.size:=by unfold dI;rw[List.length_map];rfl
 have hz':z.cps.size≤sizeLine:=hz
 refine abq (J:=Its z) (Q:=λv H'=>D.nx (σ.set j (some v)) H') (by omega) (λi H2 s hi=>?_) (λH2 s=>?_) (λi H2 x H3 hi s y=>?_) hw
 .show i<z.cps.size
  omega
 .show z.cps.size≤(dI z).length
  omega
 .obtain⟨e1,c,e2,e3⟩:=y
  refine⟨?_,e1⟩
  unfold dI
  rw[List.getElem?_map,Array.getElem?_toList,e2,e3]
  rfl
end
end L2
local macro_rules | `(tactic| walk_at "sc") => `(tactic| exact ⟨rfl, rfl, rfl, by decide +kernel, rfl, by decide +kernel, by decide +kernel⟩)
local macro_rules | `(tactic| walk_at "nm") => `(tactic| refine L2.aad (by rfl) (by first | exact Or.inl rfl | exact Or.inr (Or.inl rfl) | exact Or.inr (Or.inr rfl)) ?_ (by decide) (by decide))
local macro_rules | `(tactic| walk_at "gc") => `(tactic| refine L2.ahR (by assumption) (by rfl) ?_ (by decide))
local macro_rules | `(tactic| walk_at "ty") => `(tactic| first
 |((with_reducible show L2.EV _ (PySem.Expr.Name "str" _) _ _ _);refine L2.ty_str (by rfl) (by assumption) ?_)
 |((with_reducible show L2.EV _ (PySem.Expr.Name "list" _) _ _ _);refine L2.ty_list (by rfl) (by assumption) ?_)
 |((with_reducible show L2.EV _ (PySem.Expr.Name "tuple" _) _ _ _);refine L2.ty_tuple (by rfl) (by assumption) ?_)
 |((with_reducible show L2.EV _ (PySem.Expr.Name "int" _) _ _ _);refine L2.ty_int (by rfl) (by assumption) ?_)
 |((with_reducible show L2.EV _ (PySem.Expr.Name "set" _) _ _ _);refine L2.ty_set (by rfl) (by assumption) ?_)
 |((with_reducible show L2.EV _ (PySem.Expr.Name "bool" _) _ _ _);refine L2.ty_bool (by rfl) (by assumption) ?_)
 |((with_reducible show L2.EV _ (PySem.Expr.Name "dict" _) _ _ _);refine L2.ty_dict (by rfl) (by assumption) ?_))
local macro_rules | `(tactic| walk_at "cb") => `(tactic| first
 |((with_reducible show L2.EV _ (PySem.Expr.Call (PySem.Expr.Name "len" _) _ _ _) _ _ _);refine L2.afC (by rfl) (by assumption) (by rfl) (by rfl) ?_)
 |((with_reducible show L2.EV _ (PySem.Expr.Call (PySem.Expr.Name "isinstance" _) _ _ _) _ _ _);refine L2.zT (by rfl) (by assumption) (by rfl) (by rfl) ?_)
 |((with_reducible show L2.EV _ (PySem.Expr.Call (PySem.Expr.Name "all" _) _ _ _) _ _ _);refine L2.ad8 (by rfl) (by assumption) (by rfl) (by rfl) ?_)
 |((with_reducible show L2.EV _ (PySem.Expr.Call (PySem.Expr.Name "any" _) _ _ _) _ _ _);refine L2.av6 (by rfl) (by assumption) (by rfl) (by rfl) ?_)
 |((with_reducible show L2.EV _ (PySem.Expr.Call (PySem.Expr.Name "min" _) _ _ _) _ _ _);refine L2.ags (by rfl) (by assumption) (by rfl) (by rfl) ?_)
 |((with_reducible show L2.EV _ (PySem.Expr.Call (PySem.Expr.Name "max" _) _ _ _) _ _ _);refine L2.auJ (by rfl) (by assumption) (by rfl) (by rfl) ?_)
 |((with_reducible show L2.EV _ (PySem.Expr.Call (PySem.Expr.Name "abs" _) _ _ _) _ _ _);refine L2.alX (by rfl) (by assumption) (by rfl) (by rfl) ?_)
 |((with_reducible show L2.EV _ (PySem.Expr.Call (PySem.Expr.Name "sum" _) _ _ _) _ _ _);refine L2.amW (by rfl) (by assumption) (by rfl) (by rfl) ?_)
 |((with_reducible show L2.EV _ (PySem.Expr.Call (PySem.Expr.Name "sorted" _) _ _ _) _ _ _);refine L2.ag6 (by rfl) (by assumption) (by rfl) (by rfl) ?_)
 |((with_reducible show L2.EV _ (PySem.Expr.Call (PySem.Expr.Name "ord" _) _ _ _) _ _ _);refine L2.adS (by rfl) (by assumption) (by rfl) (by rfl) ?_)
 |((with_reducible show L2.EV _ (PySem.Expr.Call (PySem.Expr.Name "divmod" _) _ _ _) _ _ _);refine L2.ahb (by rfl) (by assumption) (by rfl) (by rfl) ?_))
local macro_rules | `(tactic| walk_at "ct") => `(tactic| first
 |((with_reducible show L2.EV _ (PySem.Expr.Call (PySem.Expr.Name "str" _) _ _ _) _ _ _);refine L2.acM (by rfl) (by assumption) (by rfl) (by rfl) ?_)
 |((with_reducible show L2.EV _ (PySem.Expr.Call (PySem.Expr.Name "list" _) _ _ _) _ _ _);refine L2.Y5 (by rfl) (by assumption) (by rfl) (by rfl) ?_)
 |((with_reducible show L2.EV _ (PySem.Expr.Call (PySem.Expr.Name "tuple" _) _ _ _) _ _ _);refine L2.aiI (by rfl) (by assumption) (by rfl) (by rfl) ?_)
 |((with_reducible show L2.EV _ (PySem.Expr.Call (PySem.Expr.Name "int" _) _ _ _) _ _ _);refine L2.adp (by rfl) (by assumption) (by rfl) (by rfl) ?_)
 |((with_reducible show L2.EV _ (PySem.Expr.Call (PySem.Expr.Name "set" _) _ _ _) _ _ _);refine L2.agT (by rfl) (by assumption) (by rfl) (by rfl) ?_)
 |((with_reducible show L2.EV _ (PySem.Expr.Call (PySem.Expr.Name "bool" _) _ _ _) _ _ _);refine L2.alg (by rfl) (by assumption) (by rfl) (by rfl) ?_)
 |((with_reducible show L2.EV _ (PySem.Expr.Call (PySem.Expr.Name "dict" _) _ _ _) _ _ _);refine L2.alE (by rfl) (by assumption) (by rfl) (by rfl) ?_))
local macro_rules | `(tactic| walk_at "xo") => `(tactic| first | exact L2.b8 | assumption | exact L2.Rw rfl)
local macro_rules | `(tactic| walk_at "po") => `(tactic| first | exact L2.Rb | assumption | exact PySem.PassesOwn.never)
local macro_rules | `(tactic| walk_at "cl") => `(tactic| first
 |refine L2.ZG (by assumption) (by assumption) (by first |decide |omega) (by decide) (by rfl) (by walk_at "xo") (by decide) (by rfl) (by rfl) ?_
 |refine L2.ajL (by assumption) (by assumption) (by first |decide |omega) (by decide) (by rfl) (by walk_at "xo") (by decide) ?_)
local macro_rules | `(tactic| walk_at "bm") => `(tactic| first
 |refine L2.ju PySem.F.plainAttrs_str PySem.F.slot_str_join PySem.F.type_str_join (by rfl) (by rfl) (by rfl) (by rfl) (by rfl) ?_
 |refine L2.ju PySem.F.plainAttrs_str PySem.F.slot_str_index PySem.F.type_str_index (by rfl) (by rfl) (by rfl) (by rfl) (by rfl) ?_
 |refine L2.ju PySem.F.plainAttrs_str PySem.F.slot_str_startswith PySem.F.type_str_startswith (by rfl) (by rfl) (by rfl) (by rfl) (by rfl) ?_)
local macro_rules | `(tactic| walk_at "e") => `(tactic| first
 |((with_reducible show L2.EV _ (PySem.Expr.Name _ _) _ _ _);first |(walk_at "ty") |(walk_at "nm") |(walk_at "gc"))
 |(with_reducible refine L2.ab0 ?_)
 |(with_reducible refine L2.Vw ?_)
 |(with_reducible refine L2.ajs ?_)
 |(with_reducible refine L2.afR ?_)
 |(with_reducible refine L2.abv ?_)
 |((with_reducible show L2.EV _ (PySem.Expr.Compare _ [_] [_] _) _ _ _);refine L2.ac3 (by first |exact L2.XF _ (by decide) (by decide) |rfl) ?_)
 |((with_reducible show L2.EV _ (PySem.Expr.Compare _ [_,_] [_,_] _) _ _ _);refine L2.akb (by with_unfolding_all rfl) ?_)
 |(with_reducible refine L2.acf ?_)
 |(with_reducible refine L2.abY ?_)
 |(with_reducible refine L2.aku ?_)
 |(with_reducible refine L2.alm ?_)
 |(with_reducible refine L2.ajk ?_)
 |(with_reducible refine L2.acF ?_)
 |(with_reducible refine L2.Wl ?_)
 |(with_reducible refine L2.abR ?_)
 |(with_reducible refine L2.ai6 ?_)
 |((with_reducible show L2.EV _ (PySem.Expr.Subscript _ _ _) _ _ _);refine L2.ajh (λ_ _=>by rfl) ?_)
 |((with_reducible show L2.EV _ (PySem.Expr.Call (PySem.Expr.Name _ _) _ _ _) _ _ _);first |(walk_at "cb") |(walk_at "ct") |(walk_at "cl"))
 |((with_reducible show L2.EV _ (PySem.Expr.Call (PySem.Expr.Attribute _ _ _) _ _ _) _ _ _);(walk_at "bm"))
 |(with_reducible refine L2.Ut ?_)
 |((with_reducible show L2.EJL _ (PySem.Expr.Constant _ _ _::_) _ _ _ _);refine L2.Gb (L2.Vw ⟨_,200,rfl,by decide+kernel,by omega,?_⟩))
 |((with_reducible show L2.EJL _ (PySem.Expr.FormattedValue _ _ _ _::_) _ _ _ _);refine L2.Gb ?_)
 |((with_reducible show L2.EJL _ [] _ _ _ _);refine L2.YL (by omega) ?_)
 |(with_reducible refine L2.j7 ?_)
 |((with_reducible show L2.EA _ (_::_) _ _ _);refine L2.iT (by rfl) ?_)
 |(with_reducible refine L2.Y8 ?_)
 |(with_reducible refine L2.Yp ?_)
 |((with_reducible show L2.ET _ (PySem.Expr.Compare _ [_] [_] _) _ _ _);refine L2.afT (by first |exact L2.XF _ (by decide) (by decide) |rfl) ?_)
 |((with_reducible show L2.ET _ (PySem.Expr.Compare _ [_,_] [_,_] _) _ _ _);refine L2.aj8 (by with_unfolding_all rfl) ?_)
 |(with_reducible refine L2.aeA ?_)
 |((with_reducible show L2.ET _ (PySem.Expr.BoolOp _ _ _) _ _ _);refine L2.alT ?_)
 |(with_reducible refine L2.Zx ?_)
 |(with_reducible refine L2.ab4 ?_)
 |(with_reducible refine L2.afV ?_)
 |(with_reducible refine L2.aiL ?_)
 |((with_reducible show L2.ET _ (PySem.Expr.Name _ _) _ _ _);refine L2.Cz (λ_=>by rfl) ?_)
 |((with_reducible show L2.ET _ (PySem.Expr.Call _ _ _ _) _ _ _);refine L2.Cz (λ_=>by rfl) ?_)
 |((with_reducible show L2.ET _ (PySem.Expr.Subscript _ _ _) _ _ _);refine L2.Cz (λ_=>by rfl) ?_)
 |((with_reducible show L2.ET _ (PySem.Expr.Constant _ _ _) _ _ _);refine L2.Cz (λ_=>by rfl) ?_))
local macro_rules | `(tactic| walk_at "o") => `(tactic| with_reducible first
 |refine L2.aiW ?_ |refine L2.akF ?_ |refine L2.avP ?_ |refine L2.arM ?_ |refine L2.apz ?_ |refine L2.avz ?_
 |refine L2.aib ?_ |refine L2.auR ?_ |refine L2.axh ?_ |refine L2.aj1 ?_ |refine L2.auE ?_ |refine L2.ahz ?_
 |refine L2.ahP ?_ |refine L2.al3 ?_ |refine L2.axO ?_ |refine L2.aw5 ?_)
local macro_rules | `(tactic| walk_at "o2") => `(tactic| first
 |((with_reducible show L2.OP _ (PySem.compareOp PySem.CmpOp.Eq) _ _ _ _);refine L2.ao3 (by rfl) ?_)
 |((with_reducible show L2.OP _ (PySem.compareOp PySem.CmpOp.NotEq) _ _ _ _);refine L2.anZ (by rfl) ?_)
 |((with_reducible show L2.OP _ (PySem.binaryOp PySem.Operator.Mod) (L2.V.int _) (L2.V.int _) _ _);refine L2.ajr (by first |decide |omega) ?_)
 |((with_reducible show L2.OP _ (PySem.binaryOp PySem.Operator.Mult) (L2.V.int _) (L2.V.int _) _ _);refine L2.ah3 (by first |exact Or.inr ⟨by decide,by decide⟩ |exact Or.inl ⟨by decide,by decide⟩ |exact Or.inl ⟨by omega,by omega⟩ |exact Or.inr ⟨by omega,by omega⟩) ?_)
 |((with_reducible show L2.OP _ (PySem.binaryOp PySem.Operator.Pow) (L2.V.int _) (L2.V.int _) _ _);refine L2.T8 ⟨by decide,by decide,by decide⟩ ?_)
 |((with_reducible show L2.CL _ (PySem.Value.builtin "len") [L2.V.ref _] _ _);refine L2.aaM (Or.inl (by assumption)) ?_)
 |((with_reducible show L2.CL _ (PySem.Value.builtin "len") [L2.V.str _] _ _);refine L2.adw (by omega) ?_)
 |((with_reducible show L2.CL _ (PySem.Value.builtin "ord") [L2.V.str _] _ _);refine L2.ais ?_)
 |((with_reducible show L2.CL _ (PySem.Value.builtin "isinstance") _ _ _);with_reducible first |refine L2.agF ?_ |refine L2.abd ?_ |refine L2.Mz ?_ |refine L2.aa9 ?_ |refine L2.YC ?_ |refine L2.aaH ?_ |refine L2.aa3 ?_ |refine L2.YT ?_ |refine L2.aaz ?_ |refine L2.Z2 ?_ |refine L2.XR ?_ |refine L2.Zy ?_ |refine L2.aey ?_ |refine L2.aar ?_ |refine L2.Jv ?_ |refine L2.aau ?_ |refine L2.ZQ ?_ |refine L2.aaB ?_ |refine L2.RC ?_ |refine L2.Qn ?_ |refine L2.wR ?_ |refine L2.QX ?_ |refine L2.Og ?_ |refine L2.Rf ?_))
local macro_rules | `(tactic| walk_at "t") => `(tactic| first
 |(with_reducible refine L2.anr ?_)
 |(with_reducible refine L2.avT ?_)
 |(with_reducible refine L2.aja ?_)
 |(with_reducible refine L2.axJ ?_)
 |(with_reducible first |refine L2.avr ?_ |refine L2.ahl ?_ |refine L2.awQ ?_ |refine L2.aw1 ?_ |refine L2.awG ?_ |refine L2.aAE ?_ |refine L2.axd ?_ |refine L2.awW ?_ |refine L2.awV ?_ |refine L2.axn ?_)
 |((with_reducible show ∃k,L2.V.bl _=L2.V.bl k/\_);refine⟨_,rfl,?_⟩)
 |((with_reducible show ∃k,L2.Y7 _ (L2.V.bl _) _ k/\_);refine⟨_,rfl,?_⟩)
 |((with_reducible show ∃i,L2.V.int _=L2.V.int i/\_);refine⟨_,rfl,?_⟩)
 |((with_reducible show L2.tyV _ _ (L2.V.str _) _/\_);refine⟨by rfl,?_⟩))
local macro_rules | `(tactic| walk_at "s") => `(tactic| first
 |(with_reducible refine L2.aN ?_)
 |(with_reducible refine L2.aF ?_)
 |(with_reducible refine L2.ak ?_)
 |(with_reducible refine L2.bz ?_)
 |(with_reducible refine L2.ak4 ?_)
 |(with_reducible refine L2.ak1 ?_)
 |(with_reducible refine L2.cB ?_)
 |((with_reducible show L2.SX _ (PySem.Stmt.Assign [PySem.Expr.Name _ _] _ _) _ _ _);refine L2.Wi (by assumption) (by rfl) (by first |exact Or.inl rfl |exact Or.inr rfl) (by rfl) (by first |exact Or.inl rfl |exact Or.inr rfl) ?_)
 |((with_reducible show L2.SX _ (PySem.Stmt.Expr _ _) _ _ _);refine L2.gB (by rfl) ?_))
local macro_rules | `(tactic| walk_at "go") => `(tactic| repeat' (first | (walk_at "e") | (walk_at "o") | (walk_at "o2") | (walk_at "t") | (walk_at "s")))
local macro_rules | `(tactic| walk_at "ex") => `(tactic| repeat' (first | (walk_at "e") | (walk_at "o") | (walk_at "o2") | (walk_at "t")))
local macro_rules | `(tactic| walk_at "A") => `(tactic| (refine L2.ak ?_; walk_at "s"; walk_at "ex"))
namespace K38
open PySem L2 PyProof.Rows
def top(i:Nat):Stmt:=PySem.Challenge.pw_turnleaf_k38_whole_bent_marks.main.body.getD i (.Pass ⟨0,0,0,0⟩)
abbrev tW:Stmt:=top 0
abbrev gh:Stmt:=top 5
abbrev dH:Stmt:=top 6
abbrev gm:Stmt:=top 33
abbrev cF:Stmt:=top 34
abbrev dg:Stmt:=top 35
abbrev bO:Stmt:=top 36
abbrev bu:Stmt:=top 37
abbrev bB:Stmt:=top 38
abbrev dG:Stmt:=top 39
abbrev cJ:Stmt:=top 40
abbrev gf:Stmt:=top 43
abbrev bN:Stmt:=top 48
abbrev bM:Stmt:=top 49
abbrev dq:Stmt:=top 77
abbrev cT:Stmt:=top 78
abbrev di:Stmt:=top 79
abbrev fB:Stmt:=top 80
abbrev eX:Stmt:=top 81
abbrev cD:Stmt:=top 82
abbrev bY:Stmt:=top 83
abbrev eZ:Stmt:=top 84
abbrev dJ:Stmt:=top 85
abbrev eQ:Stmt:=top 95
abbrev dN:Stmt:=top 96
abbrev fJ:Stmt:=top 97
abbrev fH:Stmt:=top 98
abbrev fj:Stmt:=top 99
abbrev fD:Stmt:=top 100
abbrev eV:Stmt:=top 102
abbrev b7:Stmt:=top 103
abbrev bZ:Stmt:=top 104
abbrev cI:Stmt:=top 105
abbrev cV:Stmt:=top 106
abbrev dO:Stmt:=top 107
abbrev fG:Stmt:=top 108
abbrev cY:Stmt:=top 109
abbrev dM:Stmt:=top 110
abbrev fu:Stmt:=top 111
abbrev cL:Stmt:=top 112
abbrev cP:Stmt:=top 113
abbrev cO:Stmt:=top 114
abbrev bJ:Stmt:=top 115
abbrev cR:Stmt:=top 116
abbrev yE:Stmt:=top 117
abbrev jc:Stmt:=inClass (top 17) 0
abbrev aQ:Stmt:=inClass (top 53) 0
abbrev cG:Stmt:=inClass (top 53) 1
abbrev aG:Stmt:=inClass (top 53) 2
abbrev aR:Stmt:=inClass (top 55) 0
abbrev dw:Stmt:=inClass (top 55) 1
abbrev aD:Stmt:=inClass (top 56) 0
abbrev aV:Stmt:=inClass (top 56) 1
abbrev bL:Stmt:=inClass (top 56) 2
abbrev c7:Stmt:=inClass (top 58) 0
abbrev dB:Stmt:=inClass (top 59) 0
abbrev cX:Stmt:=inClass (top 60) 0
abbrev aX:Stmt:=inClass (top 61) 0
abbrev dR:Stmt:=inClass (top 61) 1
abbrev aL:Stmt:=inClass (top 62) 0
abbrev du:Stmt:=inClass (top 63) 0
abbrev cQ:Stmt:=inClass (top 64) 0
structure Txt(K:W.Frag)(mg:Str->Option Value):Prop where
 ak5:∃f fd,gn K "_wall" "_wall" tW f fd/\mg "_wall"=some (.ref f)
 qK:∃f fd,gn K "check_of" "check_of" gh f fd/\mg "check_of"=some (.ref f)
 iK:∃f fd,gn K "check_word" "check_word" dH f fd/\mg "check_word"=some (.ref f)
 pA:∃f fd,gn K "made_of" "made_of" gm f fd/\mg "made_of"=some (.ref f)
 iB:∃f fd,gn K "is_text_value" "is_text_value" cF f fd/\mg "is_text_value"=some (.ref f)
 jX:∃f fd,gn K "are_figures" "are_figures" dg f fd/\mg "are_figures"=some (.ref f)
 gr:∃f fd,gn K "read_figures" "read_figures" bO f fd/\mg "read_figures"=some (.ref f)
 gk:∃f fd,gn K "read_number_word" "read_number_word" bu f fd/\mg "read_number_word"=some (.ref f)
 gM:∃f fd,gn K "read_text_word" "read_text_word" bB f fd/\mg "read_text_word"=some (.ref f)
 iZ:∃f fd,gn K "read_value" "read_value" dG f fd/\mg "read_value"=some (.ref f)
 jU:∃f fd,gn K "read_values" "read_values" cJ f fd/\mg "read_values"=some (.ref f)
 jn:∃f fd,gn K "place_of" "place_of" gf f fd/\mg "place_of"=some (.ref f)
 gC:∃f fd,gn K "read_order_word" "read_order_word" bN f fd/\mg "read_order_word"=some (.ref f)
 lD:∃f fd,gn K "read_order" "read_order" bM f fd/\mg "read_order"=some (.ref f)
 jd:∃f fd,gn K "word_at" "word_at" dq f fd/\mg "word_at"=some (.ref f)
 cM:∃f fd,gn K "text_between" "text_between" cT f fd/\mg "text_between"=some (.ref f)
 gY:∃f fd,gn K "read_column" "read_column" di f fd/\mg "read_column"=some (.ref f)
 oH:∃f fd,gn K "read_word" "read_word" fB f fd/\mg "read_word"=some (.ref f)
 oN:∃f fd,gn K "read_none" "read_none" eX f fd/\mg "read_none"=some (.ref f)
 iw:∃f fd,gn K "read_of_value" "read_of_value" cD f fd/\mg "read_of_value"=some (.ref f)
 vh:∃f fd,gn K "read_of_sieves" "read_of_sieves" bY f fd/\mg "read_of_sieves"=some (.ref f)
 Hv:∃f fd,gn K "read_part" "read_part" eZ f fd/\mg "read_part"=some (.ref f)
 Cy:∃f fd,gn K "read_sieve" "read_sieve" dJ f fd/\mg "read_sieve"=some (.ref f)
 m9:∃f fd,gn K "read_make" "read_make" eQ f fd/\mg "read_make"=some (.ref f)
 iQ:∃f fd,gn K "read_whole" "read_whole" dN f fd/\mg "read_whole"=some (.ref f)
 oK:∃f fd,gn K "read_side" "read_side" fJ f fd/\mg "read_side"=some (.ref f)
 rQ:∃f fd,gn K "read_cut" "read_cut" fH f fd/\mg "read_cut"=some (.ref f)
 nY:∃f fd,gn K "read_body" "read_body" fj f fd/\mg "read_body"=some (.ref f)
 ni:∃f fd,gn K "read_mark" "read_mark" fD f fd/\mg "read_mark"=some (.ref f)
 cH:∃f fd,gn K "_law_draw" "_law_draw" eV f fd/\mg "_law_draw"=some (.ref f)
 jj:∃f fd,gn K "_law_columns" "_law_columns" b7 f fd/\mg "_law_columns"=some (.ref f)
 iM:∃f fd,gn K "_law_value" "_law_value" bZ f fd/\mg "_law_value"=some (.ref f)
 j5:∃f fd,gn K "_law_values" "_law_values" cI f fd/\mg "_law_values"=some (.ref f)
 lU:∃f fd,gn K "_law_order" "_law_order" cV f fd/\mg "_law_order"=some (.ref f)
 qu:∃f fd,gn K "_law_key" "_law_key" dO f fd/\mg "_law_key"=some (.ref f)
 jP:∃f fd,gn K "_law_word" "_law_word" fG f fd/\mg "_law_word"=some (.ref f)
 m7:∃f fd,gn K "_law_look" "_law_look" cY f fd/\mg "_law_look"=some (.ref f)
 lK:∃f fd,gn K "_law_sieve" "_law_sieve" dM f fd/\mg "_law_sieve"=some (.ref f)
 nF:∃f fd,gn K "_law_mark" "_law_mark" fu f fd/\mg "_law_mark"=some (.ref f)
 nZ:∃f fd,gn K "_law_body" "_law_body" cL f fd/\mg "_law_body"=some (.ref f)
 ji:∃f fd,gn K "_law_checked" "_law_checked" cP f fd/\mg "_law_checked"=some (.ref f)
 jo:∃f fd,gn K "_law_refused" "_law_refused" cO f fd/\mg "_law_refused"=some (.ref f)
 j4:∃f fd,gn K "_law_turned" "_law_turned" bJ f fd/\mg "_law_turned"=some (.ref f)
 jx:∃f fd,gn K "_law_changed" "_law_changed" cR f fd/\mg "_law_changed"=some (.ref f)
 aiT:∃f fd,gn K "law" "law" yE f fd/\mg "law"=some (.ref f)
 aer:Gc mg "BASE" (.int 137)
 QF:Gc mg "REST_BY" (.int 9973)
 qw:Gc mg "FIGURES_OF_CHECK" (.int 4)
 V0:Gc mg "NUMBER" (.str "number")
 agv:Gc mg "TEXT" (.str "text")
 Rj:Gc mg "FIGURES" (.str "0123456789")
 Du:Gc mg "TEXT_SIGNS" (.str "abcdefghijklmnopqrstuvwxyz0123456789-")
 PL:Gc mg "LARGEST" (.int 1000000000000000000)
 QV:Gc mg "LONGEST" (.int 20)
 Gu:Gc mg "NONE_WORD" (.str "?")
 DX:Gc mg "TEXT_AHEAD" (.str "'")
 Aa:Gc mg "BELOW_AHEAD" (.str "-")
 zH:Gc mg "LARGEST_ROW" (.int 1000000000)
 wX:Gc mg "MOST_IN_ORDER" (.int 4)
 JD:Gc mg "UP_AHEAD" (.str "+")
 CK:Gc mg "DOWN_AHEAD" (.str "-")
 Yy:Gc mg "AHEAD" (.str "ahead")
 Xd:Gc mg "BEHIND" (.str "behind")
 CZ:Gc mg "MOST_WORDS" (.int 60)
 jT:Gc mg "MOST_WITHIN" (.int 20)
 aa5:Gc mg "ALL" (.str "all")
 Xv:Gc mg "NONE" (.str "none")
 abh:Gc mg "IS" (.str "is")
 Df:Gc mg "UNDER" (.str "under")
 Kr:Gc mg "OVER" (.str "over")
 Dj:Gc mg "HOLDS" (.str "holds")
 Ng:Gc mg "NOT" (.str "not")
 DQ:Gc mg "BOTH" (.str "both")
 W4:Gc mg "EITHER" (.str "either")
 VJ:Gc mg "LIVING" (.str "living")
 Yh:Gc mg "STILL" (.str "still")
 Ti:Gc mg "LATEST" (.int 5000)
 Z3:Gc mg "PARTS" (.int 5)
 Rr:Gc mg "PARTING" (.str "/")
 VR:Gc mg "STOP" (.str ".")
 Ed:Gc mg "AHEAD_SIGN" (.str "<")
 zY:Gc mg "BEHIND_SIGN" (.str ">")
 CN:mg "ValueError"=none
 air:mg "all"=none
 GC:mg "enumerate"=none
 aaV:mg "int"=none
 lM:mg "isinstance"=none
 jQ:mg "len"=none
 Uv:mg "list"=none
 akN:mg "min"=none
 abb:mg "ord"=none
 pB:mg "range"=none
 Mi:mg "reversed"=none
 ajU:mg "set"=none
 Ax:mg "str"=none
 aiG:mg "zip"=none
 GR:mg "LeafError"=some (.ref (aj mg "LeafError"))
 GD:mg "NoColumns"=some (.ref (aj mg "NoColumns"))
 Qq:mg "NoValue"=some (.ref (aj mg "NoValue"))
 QB:mg "NoOrder"=some (.ref (aj mg "NoOrder"))
 YK:mg "NoRow"=some (.ref (aj mg "NoRow"))
 TF:mg "NoMark"=some (.ref (aj mg "NoMark"))
 VL:mg "NoSize"=some (.ref (aj mg "NoSize"))
 Sv:mg "NoLine"=some (.ref (aj mg "NoLine"))
 Sh:mg "NoBook"=some (.ref (aj mg "NoBook"))
 Qf:mg "NoSieve"=some (.ref (aj mg "NoSieve"))
 RQ:mg "NoPage"=some (.ref (aj mg "NoPage"))
 aan:mg "Twice"=some (.ref (aj mg "Twice"))
 V3:mg "Absent"=some (.ref (aj mg "Absent"))
 abF:mg "Gone"=some (.ref (aj mg "Gone"))
 Yw:mg "Later"=some (.ref (aj mg "Later"))
 xm:mg "Sieve"=some (.ref (aj mg "Sieve"))
 K5:mg "AllSieve"=some (.ref (aj mg "AllSieve"))
 HR:mg "NoneSieve"=some (.ref (aj mg "NoneSieve"))
 YJ:mg "ValueSieve"=some (.ref (aj mg "ValueSieve"))
 Q0:mg "IsSieve"=some (.ref (aj mg "IsSieve"))
 CP:mg "UnderSieve"=some (.ref (aj mg "UnderSieve"))
 Gh:mg "OverSieve"=some (.ref (aj mg "OverSieve"))
 Ex:mg "HoldsSieve"=some (.ref (aj mg "HoldsSieve"))
 K4:mg "NotSieve"=some (.ref (aj mg "NotSieve"))
 aaK:mg "PairSieve"=some (.ref (aj mg "PairSieve"))
 G8:mg "BothSieve"=some (.ref (aj mg "BothSieve"))
 zu:mg "EitherSieve"=some (.ref (aj mg "EitherSieve"))
 Ba:Ux K mg "NoValue"
 Gd:Ux K mg "NoMark"
 oV:Ux K mg "NoOrder"
 nJ:Xc K mg "LeafError"
 Hd:XC K mg "LeafError" "NoColumns"
 Qt:XC K mg "LeafError" "NoValue"
 Qp:XC K mg "LeafError" "NoOrder"
 Zu:XC K mg "LeafError" "NoRow"
 gq:XC K mg "LeafError" "NoMark"
 V1:XC K mg "LeafError" "NoSize"
 Tg:XC K mg "LeafError" "NoLine"
 W7:XC K mg "LeafError" "NoBook"
 Qs:XC K mg "LeafError" "NoSieve"
 Um:XC K mg "LeafError" "NoPage"
 aaf:XC K mg "LeafError" "Twice"
 Su:XC K mg "LeafError" "Absent"
 af0:XC K mg "LeafError" "Gone"
 Zz:XC K mg "LeafError" "Later"
 pC:agU K mg "LeafError" "NoSieve" "NoSieve.__init__" "at" jc
 aha:W.findIn K (.ref (aj mg "NoSieve")) "at"=some none
 WN:[aj mg "LeafError",aj mg "NoColumns",aj mg "NoValue",aj mg "NoOrder",aj mg "NoRow",aj mg "NoMark",aj mg "NoSize",aj mg "NoLine",aj mg "NoBook",aj mg "NoSieve",aj mg "NoPage",aj mg "Twice",aj mg "Absent",aj mg "Gone",aj mg "Later"].Nodup
 alc:oY K (aj mg "Sieve")
 ahr:OI K (aj mg "Sieve") "Sieve.__init__" aQ
 Za:OM K (aj mg "Sieve") "lets" "Sieve.lets" cG
 X3:OM K (aj mg "Sieve") "shown" "Sieve.shown" aG
 X5:aU K (aj mg "Sieve") "text"
 qO:oY K (aj mg "AllSieve")
 HN:OI K (aj mg "AllSieve") "Sieve.__init__" aQ
 RG:OM K (aj mg "AllSieve") "lets" "Sieve.lets" cG
 vd:OM K (aj mg "AllSieve") "shown" "Sieve.shown" aG
 lu:aU K (aj mg "AllSieve") "text"
 oO:oY K (aj mg "NoneSieve")
 Ep:OI K (aj mg "NoneSieve") "NoneSieve.__init__" aR
 Rp:OM K (aj mg "NoneSieve") "lets" "NoneSieve.lets" dw
 rT:OM K (aj mg "NoneSieve") "shown" "Sieve.shown" aG
 jM:aU K (aj mg "NoneSieve") "text"
 qC:aU K (aj mg "NoneSieve") "place"
 Yg:oY K (aj mg "ValueSieve")
 XS:OI K (aj mg "ValueSieve") "ValueSieve.__init__" aD
 O3:OM K (aj mg "ValueSieve") "fits" "ValueSieve.fits" bL
 Ni:OM K (aj mg "ValueSieve") "lets" "ValueSieve.lets" aV
 Lq:OM K (aj mg "ValueSieve") "shown" "Sieve.shown" aG
 Js:aU K (aj mg "ValueSieve") "text"
 Il:aU K (aj mg "ValueSieve") "place"
 Ik:aU K (aj mg "ValueSieve") "value"
 vM:oY K (aj mg "IsSieve")
 KJ:OI K (aj mg "IsSieve") "ValueSieve.__init__" aD
 Ue:OM K (aj mg "IsSieve") "fits" "ValueSieve.fits" bL
 Vq:OM K (aj mg "IsSieve") "lets" "ValueSieve.lets" aV
 wY:OM K (aj mg "IsSieve") "shown" "Sieve.shown" aG
 mF:aU K (aj mg "IsSieve") "text"
 uy:aU K (aj mg "IsSieve") "place"
 uz:aU K (aj mg "IsSieve") "value"
 lH:oY K (aj mg "UnderSieve")
 Ab:OI K (aj mg "UnderSieve") "ValueSieve.__init__" aD
 N8:OM K (aj mg "UnderSieve") "fits" "UnderSieve.fits" c7
 Nv:OM K (aj mg "UnderSieve") "lets" "ValueSieve.lets" aV
 rM:OM K (aj mg "UnderSieve") "shown" "Sieve.shown" aG
 jw:aU K (aj mg "UnderSieve") "text"
 pL:aU K (aj mg "UnderSieve") "place"
 pK:aU K (aj mg "UnderSieve") "value"
 oA:oY K (aj mg "OverSieve")
 Dt:OI K (aj mg "OverSieve") "ValueSieve.__init__" aD
 Q9:OM K (aj mg "OverSieve") "fits" "OverSieve.fits" dB
 Qd:OM K (aj mg "OverSieve") "lets" "ValueSieve.lets" aV
 su:OM K (aj mg "OverSieve") "shown" "Sieve.shown" aG
 jD:aU K (aj mg "OverSieve") "text"
 qd:aU K (aj mg "OverSieve") "place"
 qU:aU K (aj mg "OverSieve") "value"
 lO:oY K (aj mg "HoldsSieve")
 zA:OI K (aj mg "HoldsSieve") "ValueSieve.__init__" aD
 NK:OM K (aj mg "HoldsSieve") "fits" "HoldsSieve.fits" cX
 O1:OM K (aj mg "HoldsSieve") "lets" "ValueSieve.lets" aV
 rK:OM K (aj mg "HoldsSieve") "shown" "Sieve.shown" aG
 jk:aU K (aj mg "HoldsSieve") "text"
 pM:aU K (aj mg "HoldsSieve") "place"
 pJ:aU K (aj mg "HoldsSieve") "value"
 rJ:oY K (aj mg "NotSieve")
 Hn:OI K (aj mg "NotSieve") "NotSieve.__init__" aX
 RM:OM K (aj mg "NotSieve") "lets" "NotSieve.lets" dR
 uV:OM K (aj mg "NotSieve") "shown" "Sieve.shown" aG
 kI:aU K (aj mg "NotSieve") "text"
 wW:aU K (aj mg "NotSieve") "one"
 aaD:oY K (aj mg "PairSieve")
 Zc:OI K (aj mg "PairSieve") "PairSieve.__init__" aL
 Qa:OM K (aj mg "PairSieve") "lets" "Sieve.lets" cG
 N5:OM K (aj mg "PairSieve") "shown" "Sieve.shown" aG
 NQ:aU K (aj mg "PairSieve") "text"
 Qi:aU K (aj mg "PairSieve") "one"
 Iv:aU K (aj mg "PairSieve") "other"
 nu:oY K (aj mg "BothSieve")
 DY:OI K (aj mg "BothSieve") "PairSieve.__init__" aL
 Px:OM K (aj mg "BothSieve") "lets" "BothSieve.lets" du
 tu:OM K (aj mg "BothSieve") "shown" "Sieve.shown" aG
 jK:aU K (aj mg "BothSieve") "text"
 vL:aU K (aj mg "BothSieve") "one"
 qJ:aU K (aj mg "BothSieve") "other"
 jR:oY K (aj mg "EitherSieve")
 xV:OI K (aj mg "EitherSieve") "PairSieve.__init__" aL
 Lp:OM K (aj mg "EitherSieve") "lets" "EitherSieve.lets" cQ
 pG:OM K (aj mg "EitherSieve") "shown" "Sieve.shown" aG
 iI:aU K (aj mg "EitherSieve") "text"
 qp:aU K (aj mg "EitherSieve") "one"
 m5:aU K (aj mg "EitherSieve") "other"
 d8:OB K (aj mg "Sieve") "__init__" "Sieve.__init__" aQ
abbrev gO:List Str:=["self","text"]
theorem tO:aK gO ["self","text"] (aa aQ):=by walk_at "sc"
abbrev aam:List Str:=["self","values"]
abbrev jW:List Str:=["self"]
theorem yK:aK jW ["self"] (aa aG):=by walk_at "sc"
abbrev eU:List Str:=["self","text","place"]
theorem mU:aK eU ["self","text","place"] (aa aR):=by walk_at "sc"
abbrev Qj:List Str:=["self","values"]
abbrev dW:List Str:=["self","text","place","value"]
theorem lR:aK dW ["self","text","place","value"] (aa aD):=by walk_at "sc"
abbrev Od:List Str:=["self","values"]
abbrev M9:List Str:=["self","value"]
abbrev Np:List Str:=["self","value"]
abbrev QR:List Str:=["self","value"]
abbrev Nt:List Str:=["self","value"]
abbrev fV:List Str:=["self","text","one"]
theorem nW:aK fV ["self","text","one"] (aa aX):=by walk_at "sc"
abbrev RJ:List Str:=["self","values"]
abbrev eF:List Str:=["self","text","one","other"]
theorem mX:aK eF ["self","text","one","other"] (aa aL):=by walk_at "sc"
abbrev Q3:List Str:=["self","values"]
abbrev Ju:List Str:=["self","values"]
abbrev QK:List Str:=["self","at"]
theorem LQ:aK QK ["self","at"] (aa jc):=by walk_at "sc"
abbrev ak3:List Str:=["k"]
abbrev yc:List Str:=["text","total","power","sign"]
theorem wz:aK yc ["text"] (aa gh):=by walk_at "sc"
abbrev tV:List Str:=["text"]
theorem zL:aK tV ["text"] (aa dH):=by walk_at "sc"
abbrev Am:List Str:=["text","signs"]
theorem Jr:aK Am ["text","signs"] (aa gm):=by walk_at "sc"
abbrev mD:List Str:=["value"]
theorem vo:aK mD ["value"] (aa cF):=by walk_at "sc"
abbrev pW:List Str:=["word"]
theorem zb:aK pW ["word"] (aa dg):=by walk_at "sc"
abbrev jm:List Str:=["word","most","number"]
theorem mJ:aK jm ["word","most"] (aa bO):=by walk_at "sc"
abbrev gj:List Str:=["word","below","number"]
theorem iG:aK gj ["word"] (aa bu):=by walk_at "sc"
abbrev gU:List Str:=["word"]
theorem jH:aK gU ["word"] (aa bB):=by walk_at "sc"
abbrev sH:List Str:=["kind","word"]
theorem zQ:aK sH ["kind","word"] (aa dG):=by walk_at "sc"
abbrev p7:List Str:=["kinds","words"]
theorem yL:aK p7 ["kinds","words"] (aa cJ):=by walk_at "sc"
abbrev yz:List Str:=["columns","name","place","column"]
theorem wk:aK yz ["columns","name"] (aa gf):=by walk_at "sc"
abbrev jL:List Str:=["columns","word","sign","name"]
theorem jl:aK jL ["columns","word"] (aa bN):=by walk_at "sc"
abbrev iY:List Str:=["columns","text","words","order","names"]
theorem pR:aK iY ["columns","text"] (aa bM):=by walk_at "sc"
abbrev oW:List Str:=["words","place"]
theorem MJ:aK oW ["words","place"] (aa dq):=by walk_at "sc"
abbrev nP:List Str:=["words","start","behind"]
theorem wU:aK nP ["words","start","behind"] (aa cT):=by walk_at "sc"
abbrev pU:List Str:=["columns","words","place","column"]
theorem oF:aK pU ["columns","words","place"] (aa di):=by walk_at "sc"
abbrev wC:List Str:=["kind","words","place","word","value"]
theorem tH:aK wC ["kind","words","place"] (aa fB):=by walk_at "sc"
abbrev wB:List Str:=["columns","words","start","column"]
theorem tG:aK wB ["columns","words","start"] (aa eX):=by walk_at "sc"
abbrev mq:List Str:=["columns","words","start","word","column","kind","value","text"]
theorem lA:aK mq ["columns","words","start"] (aa cD):=by walk_at "sc"
abbrev kh:List Str:=["columns","words","start","within","word","one","behind","other","text"]
theorem dY:aK kh ["columns","words","start","within"] (aa bY):=by walk_at "sc"
abbrev v7:List Str:=["columns","words","start","within","word"]
theorem lF:aK v7 ["columns","words","start","within"] (aa eZ):=by walk_at "sc"
abbrev tX:List Str:=["columns","text","words","sieve","behind"]
theorem pZ:aK tX ["columns","text"] (aa dJ):=by walk_at "sc"
abbrev v5:List Str:=["letter","make"]
theorem sO:aK v5 ["letter"] (aa eQ):=by walk_at "sc"
abbrev rZ:List Str:=["word","most","number"]
theorem pP:aK rZ ["word","most"] (aa dN):=by walk_at "sc"
abbrev wj:List Str:=["sign"]
theorem BV:aK wj ["sign"] (aa fJ):=by walk_at "sc"
abbrev yh:List Str:=["columns","order","text","side","words","row","kinds"]
theorem wG:aK yh ["columns","order","text"] (aa fH):=by walk_at "sc"
abbrev wI:List Str:=["columns","body","parts","make","moment","order","sieve"]
theorem tU:aK wI ["columns","body"] (aa fj):=by walk_at "sc"
abbrev wH:List Str:=["columns","text","body","stop","check"]
theorem lQ:aK wH ["columns","text"] (aa fD):=by walk_at "sc"
abbrev wA:List Str:=["_law_script","_law_k","_law_many","_law_cell","_law_seed"]
theorem sS:aK wA ["_law_script","_law_k","_law_many"] (aa eV):=by walk_at "sc"
abbrev m8:List Str:=["_law_script","_law_base","_law_most","_law_letters","_law_word_here","_law_way","_law_at","_law_columns_here","_law_k","_law_sign","_law_size","_law_name"]
theorem mj:aK m8 ["_law_script","_law_base","_law_most"] (aa b7):=by walk_at "sc"
abbrev lJ:List Str:=["_law_script","_law_k","_law_kind","_law_way","_law_cell","_law_far","_law_signs","_law_size"]
theorem qb:aK lJ ["_law_script","_law_k","_law_kind"] (aa bZ):=by walk_at "sc"
abbrev pY:List Str:=["_law_script","_law_k","_law_columns_here"]
theorem yf:aK pY ["_law_script","_law_k","_law_columns_here"] (aa cI):=by walk_at "sc"
abbrev ug:List Str:=["_law_script","_law_base","_law_columns_here","_law_order_here","_law_k","_law_names"]
theorem p6:aK ug ["_law_script","_law_base","_law_columns_here"] (aa cV):=by walk_at "sc"
abbrev zq:List Str:=["_law_columns_here","_law_order_here","_law_row","_law_values_here","_law_names"]
theorem vY:aK zq ["_law_columns_here","_law_order_here","_law_row","_law_values_here"] (aa dO):=by walk_at "sc"
abbrev vX:List Str:=["_law_value_here"]
theorem BW:aK vX ["_law_value_here"] (aa fG):=by walk_at "sc"
abbrev nO:List Str:=["_law_script","_law_base","_law_columns_here","_law_at","_law_name","_law_kind","_law_value_here","_law_looks","_law_many"]
theorem sV:aK nO ["_law_script","_law_base","_law_columns_here"] (aa cY):=by walk_at "sc"
abbrev uc:List Str:=["_law_script","_law_base","_law_columns_here","_law_text","_law_k","_law_way"]
theorem pO:aK uc ["_law_script","_law_base","_law_columns_here"] (aa dM):=by walk_at "sc"
abbrev v9:List Str:=["_law_script","_law_base","_law_columns_here","_law_order_here","_law_make","_law_moments","_law_moment","_law_numbers","_law_row","_law_key_here","_law_side"]
theorem tM:aK v9 ["_law_script","_law_base","_law_columns_here"] (aa fu):=by walk_at "sc"
abbrev ir:List Str:=["_law_mark_here","_law_make","_law_moment","_law_order_here","_law_sieve_here","_law_cut","_law_words","_law_name","_law_up","_law_body_here","_law_value_here"]
theorem tQ:aK ir ["_law_mark_here"] (aa cL):=by walk_at "sc"
abbrev ou:List Str:=["_law_body_here","_law_total","_law_sign"]
theorem mK:aK ou ["_law_body_here"] (aa cP):=by walk_at "sc"
abbrev oU:List Str:=["_law_columns_here","_law_text","_law_own","e"]
theorem mH:aK oU ["_law_columns_here","_law_text"] (aa cO):=by walk_at "sc"
abbrev jV:List Str:=["_law_script","_law_k","_law_text","_law_at","_law_some","_law_others","_law_near","_law_sign"]
theorem nA:aK jV ["_law_script","_law_k","_law_text","_law_at"] (aa bJ):=by walk_at "sc"
abbrev oM:List Str:=["_law_text","_law_at"]
theorem mO:aK oM ["_law_text","_law_at"] (aa cR):=by walk_at "sc"
abbrev ajb:List Str:=["_law_script","_law_columns_here","_law_mark_here","_law_text","_law_places","_law_k","_law_at"]
theorem W0:aK ajb ["_law_script"] (aa yE):=by walk_at "sc"
section
variable{P:Program}{w:World}{K:W.Frag}{mg:Str->Option Value}{base:Heap}
abbrev jY(P:Program)(w:World)(K:W.Frag)(mg:Str->Option Value)(base:Heap)(n:Nat)(nm:Str)(st:Stmt)(N ps:List Str):Prop:=∀{cc:Bool} {k:Nat} {sp:Sp} (len:∀vs H Q E,sp vs H Q E->vs.length=n) (body:∀(f:Addr) (cdv:Value) (A:Around) (outer:List Env) (s:Shared) (H:Hp) (vs:List V) (Q:VK) (E:XK),dU cc k (A.deeper (envOfC nm (aa st) s.heap.objs.size f cdv))->sp vs H Q E->lB (xu cc P w K mg base N nm (aa st) f cdv A outer s H E) (az st) {nx:=λ_ H'=>Q .non H',rt:=Q} (start N vs) H),Def P w K mg base cc (k+1) nm ps sp
theorem GX(T:Txt K mg):jY P w K mg base 1 "check_of" gh yc ["text"]:= @λ_ _ _ len body=>aZ T.qK wz (λ_ _ _ _ _ _ us hl=>by obtain⟨_,rfl⟩:=at1 hl;rfl) len body
theorem zW(T:Txt K mg):jY P w K mg base 1 "check_word" dH tV ["text"]:= @λ_ _ _ len body=>aZ T.iK zL (λ_ _ _ _ _ _ us hl=>by obtain⟨_,rfl⟩:=at1 hl;rfl) len body
theorem Kc(T:Txt K mg):jY P w K mg base 2 "made_of" gm Am ["text","signs"]:= @λ_ _ _ len body=>aZ T.pA Jr (λ_ _ _ _ _ _ us hl=>by obtain⟨_,_,rfl⟩:=at2 hl;rfl) len body
theorem uF(T:Txt K mg):jY P w K mg base 1 "is_text_value" cF mD ["value"]:= @λ_ _ _ len body=>aZ T.iB vo (λ_ _ _ _ _ _ us hl=>by obtain⟨_,rfl⟩:=at1 hl;rfl) len body
theorem yW(T:Txt K mg):jY P w K mg base 1 "are_figures" dg pW ["word"]:= @λ_ _ _ len body=>aZ T.jX zb (λ_ _ _ _ _ _ us hl=>by obtain⟨_,rfl⟩:=at1 hl;rfl) len body
theorem wV(T:Txt K mg):jY P w K mg base 2 "read_figures" bO jm ["word","most"]:= @λ_ _ _ len body=>aZ T.gr mJ (λ_ _ _ _ _ _ us hl=>by obtain⟨_,_,rfl⟩:=at2 hl;rfl) len body
theorem pH(T:Txt K mg):jY P w K mg base 1 "read_number_word" bu gj ["word"]:= @λ_ _ _ len body=>aZ T.gk iG (λ_ _ _ _ _ _ us hl=>by obtain⟨_,rfl⟩:=at1 hl;rfl) len body
theorem tD(T:Txt K mg):jY P w K mg base 1 "read_text_word" bB gU ["word"]:= @λ_ _ _ len body=>aZ T.gM jH (λ_ _ _ _ _ _ us hl=>by obtain⟨_,rfl⟩:=at1 hl;rfl) len body
theorem zG(T:Txt K mg):jY P w K mg base 2 "read_value" dG sH ["kind","word"]:= @λ_ _ _ len body=>aZ T.iZ zQ (λ_ _ _ _ _ _ us hl=>by obtain⟨_,_,rfl⟩:=at2 hl;rfl) len body
theorem yr(T:Txt K mg):jY P w K mg base 2 "read_values" cJ p7 ["kinds","words"]:= @λ_ _ _ len body=>aZ T.jU yL (λ_ _ _ _ _ _ us hl=>by obtain⟨_,_,rfl⟩:=at2 hl;rfl) len body
theorem Gm(T:Txt K mg):jY P w K mg base 2 "place_of" gf yz ["columns","name"]:= @λ_ _ _ len body=>aZ T.jn wk (λ_ _ _ _ _ _ us hl=>by obtain⟨_,_,rfl⟩:=at2 hl;rfl) len body
theorem qH(T:Txt K mg):jY P w K mg base 2 "read_order_word" bN jL ["columns","word"]:= @λ_ _ _ len body=>aZ T.gC jl (λ_ _ _ _ _ _ us hl=>by obtain⟨_,_,rfl⟩:=at2 hl;rfl) len body
theorem zN(T:Txt K mg):jY P w K mg base 2 "read_order" bM iY ["columns","text"]:= @λ_ _ _ len body=>aZ T.lD pR (λ_ _ _ _ _ _ us hl=>by obtain⟨_,_,rfl⟩:=at2 hl;rfl) len body
theorem Ir(T:Txt K mg):jY P w K mg base 2 "word_at" dq oW ["words","place"]:= @λ_ _ _ len body=>aZ T.jd MJ (λ_ _ _ _ _ _ us hl=>by obtain⟨_,_,rfl⟩:=at2 hl;rfl) len body
theorem wN(T:Txt K mg):jY P w K mg base 3 "text_between" cT nP ["words","start","behind"]:= @λ_ _ _ len body=>aZ T.cM wU (λ_ _ _ _ _ _ us hl=>by obtain⟨_,_,_,rfl⟩:=at3 hl;rfl) len body
theorem xU(T:Txt K mg):jY P w K mg base 3 "read_column" di pU ["columns","words","place"]:= @λ_ _ _ len body=>aZ T.gY oF (λ_ _ _ _ _ _ us hl=>by obtain⟨_,_,_,rfl⟩:=at3 hl;rfl) len body
theorem DR(T:Txt K mg):jY P w K mg base 3 "read_word" fB wC ["kind","words","place"]:= @λ_ _ _ len body=>aZ T.oH tH (λ_ _ _ _ _ _ us hl=>by obtain⟨_,_,_,rfl⟩:=at3 hl;rfl) len body
theorem Cv(T:Txt K mg):jY P w K mg base 3 "read_none" eX wB ["columns","words","start"]:= @λ_ _ _ len body=>aZ T.oN tG (λ_ _ _ _ _ _ us hl=>by obtain⟨_,_,_,rfl⟩:=at3 hl;rfl) len body
theorem vB(T:Txt K mg):jY P w K mg base 3 "read_of_value" cD mq ["columns","words","start"]:= @λ_ _ _ len body=>aZ T.iw lA (λ_ _ _ _ _ _ us hl=>by obtain⟨_,_,_,rfl⟩:=at3 hl;rfl) len body
theorem gG(T:Txt K mg):jY P w K mg base 4 "read_of_sieves" bY kh ["columns","words","start","within"]:= @λ_ _ _ len body=>aZ T.vh dY (λ_ _ _ _ _ _ us hl=>by obtain⟨_,_,_,_,rfl⟩:=at4 hl;rfl) len body
theorem tR(T:Txt K mg):jY P w K mg base 4 "read_part" eZ v7 ["columns","words","start","within"]:= @λ_ _ _ len body=>aZ T.Hv lF (λ_ _ _ _ _ _ us hl=>by obtain⟨_,_,_,_,rfl⟩:=at4 hl;rfl) len body
theorem zE(T:Txt K mg):jY P w K mg base 2 "read_sieve" dJ tX ["columns","text"]:= @λ_ _ _ len body=>aZ T.Cy pZ (λ_ _ _ _ _ _ us hl=>by obtain⟨_,_,rfl⟩:=at2 hl;rfl) len body
theorem Dg(T:Txt K mg):jY P w K mg base 1 "read_make" eQ v5 ["letter"]:= @λ_ _ _ len body=>aZ T.m9 sO (λ_ _ _ _ _ _ us hl=>by obtain⟨_,rfl⟩:=at1 hl;rfl) len body
theorem zZ(T:Txt K mg):jY P w K mg base 2 "read_whole" dN rZ ["word","most"]:= @λ_ _ _ len body=>aZ T.iQ pP (λ_ _ _ _ _ _ us hl=>by obtain⟨_,_,rfl⟩:=at2 hl;rfl) len body
theorem Dq(T:Txt K mg):jY P w K mg base 1 "read_side" fJ wj ["sign"]:= @λ_ _ _ len body=>aZ T.oK BV (λ_ _ _ _ _ _ us hl=>by obtain⟨_,rfl⟩:=at1 hl;rfl) len body
theorem Gg(T:Txt K mg):jY P w K mg base 3 "read_cut" fH yh ["columns","order","text"]:= @λ_ _ _ len body=>aZ T.rQ wG (λ_ _ _ _ _ _ us hl=>by obtain⟨_,_,_,rfl⟩:=at3 hl;rfl) len body
theorem CT(T:Txt K mg):jY P w K mg base 2 "read_body" fj wI ["columns","body"]:= @λ_ _ _ len body=>aZ T.nY tU (λ_ _ _ _ _ _ us hl=>by obtain⟨_,_,rfl⟩:=at2 hl;rfl) len body
theorem sE(T:Txt K mg):jY P w K mg base 2 "read_mark" fD wH ["columns","text"]:= @λ_ _ _ len body=>aZ T.ni lQ (λ_ _ _ _ _ _ us hl=>by obtain⟨_,_,rfl⟩:=at2 hl;rfl) len body
theorem Ej(T:Txt K mg):jY P w K mg base 3 "_law_draw" eV wA ["_law_script","_law_k","_law_many"]:= @λ_ _ _ len body=>aZ T.cH sS (λ_ _ _ _ _ _ us hl=>by obtain⟨_,_,_,rfl⟩:=at3 hl;rfl) len body
theorem wZ(T:Txt K mg):jY P w K mg base 3 "_law_columns" b7 m8 ["_law_script","_law_base","_law_most"]:= @λ_ _ _ len body=>aZ T.jj mj (λ_ _ _ _ _ _ us hl=>by obtain⟨_,_,_,rfl⟩:=at3 hl;rfl) len body
theorem zR(T:Txt K mg):jY P w K mg base 3 "_law_value" bZ lJ ["_law_script","_law_k","_law_kind"]:= @λ_ _ _ len body=>aZ T.iM qb (λ_ _ _ _ _ _ us hl=>by obtain⟨_,_,_,rfl⟩:=at3 hl;rfl) len body
theorem xP(T:Txt K mg):jY P w K mg base 3 "_law_values" cI pY ["_law_script","_law_k","_law_columns_here"]:= @λ_ _ _ len body=>aZ T.j5 yf (λ_ _ _ _ _ _ us hl=>by obtain⟨_,_,_,rfl⟩:=at3 hl;rfl) len body
theorem zX(T:Txt K mg):jY P w K mg base 3 "_law_order" cV ug ["_law_script","_law_base","_law_columns_here"]:= @λ_ _ _ len body=>aZ T.lU p6 (λ_ _ _ _ _ _ us hl=>by obtain⟨_,_,_,rfl⟩:=at3 hl;rfl) len body
theorem Hc(T:Txt K mg):jY P w K mg base 4 "_law_key" dO zq ["_law_columns_here","_law_order_here","_law_row","_law_values_here"]:= @λ_ _ _ len body=>aZ T.qu vY (λ_ _ _ _ _ _ us hl=>by obtain⟨_,_,_,_,rfl⟩:=at4 hl;rfl) len body
theorem Eh(T:Txt K mg):jY P w K mg base 1 "_law_word" fG vX ["_law_value_here"]:= @λ_ _ _ len body=>aZ T.jP BW (λ_ _ _ _ _ _ us hl=>by obtain⟨_,rfl⟩:=at1 hl;rfl) len body
theorem Cq(T:Txt K mg):jY P w K mg base 3 "_law_look" cY nO ["_law_script","_law_base","_law_columns_here"]:= @λ_ _ _ len body=>aZ T.m7 sV (λ_ _ _ _ _ _ us hl=>by obtain⟨_,_,_,rfl⟩:=at3 hl;rfl) len body
theorem zU(T:Txt K mg):jY P w K mg base 3 "_law_sieve" dM uc ["_law_script","_law_base","_law_columns_here"]:= @λ_ _ _ len body=>aZ T.lK pO (λ_ _ _ _ _ _ us hl=>by obtain⟨_,_,_,rfl⟩:=at3 hl;rfl) len body
theorem CV(T:Txt K mg):jY P w K mg base 3 "_law_mark" fu v9 ["_law_script","_law_base","_law_columns_here"]:= @λ_ _ _ len body=>aZ T.nF tM (λ_ _ _ _ _ _ us hl=>by obtain⟨_,_,_,rfl⟩:=at3 hl;rfl) len body
theorem Dy(T:Txt K mg):jY P w K mg base 1 "_law_body" cL ir ["_law_mark_here"]:= @λ_ _ _ len body=>aZ T.nZ tQ (λ_ _ _ _ _ _ us hl=>by obtain⟨_,rfl⟩:=at1 hl;rfl) len body
theorem w6(T:Txt K mg):jY P w K mg base 1 "_law_checked" cP ou ["_law_body_here"]:= @λ_ _ _ len body=>aZ T.ji mK (λ_ _ _ _ _ _ us hl=>by obtain⟨_,rfl⟩:=at1 hl;rfl) len body
theorem wM(T:Txt K mg):jY P w K mg base 2 "_law_refused" cO oU ["_law_columns_here","_law_text"]:= @λ_ _ _ len body=>aZ T.jo mH (λ_ _ _ _ _ _ us hl=>by obtain⟨_,_,rfl⟩:=at2 hl;rfl) len body
theorem xW(T:Txt K mg):jY P w K mg base 4 "_law_turned" bJ jV ["_law_script","_law_k","_law_text","_law_at"]:= @λ_ _ _ len body=>aZ T.j4 nA (λ_ _ _ _ _ _ us hl=>by obtain⟨_,_,_,_,rfl⟩:=at4 hl;rfl) len body
theorem wK(T:Txt K mg):jY P w K mg base 2 "_law_changed" cR oM ["_law_text","_law_at"]:= @λ_ _ _ len body=>aZ T.jx mO (λ_ _ _ _ _ _ us hl=>by obtain⟨_,_,rfl⟩:=at2 hl;rfl) len body
theorem rY{cc:Bool}{k:Nat}{sp:Sp}(len:∀vs H Q E,sp vs H Q E->vs.length=2)(body:∀(f:Addr) (cdv:Value) (A:Around) (outer:List Env) (s:Shared) (H:Hp) (vs:List V) (Q:VK) (E:XK),dU cc k (A.deeper (envOfC "Sieve.__init__" (aa aQ) s.heap.objs.size f cdv))->sp vs H Q E->lB (xu cc P w K mg base gO "Sieve.__init__" (aa aQ) f cdv A outer s H E) (az aQ) {nx:=λ_ H'=>Q .non H',rt:=Q} (start gO vs) H):FD P w K mg base cc (k+1) "__init__" "Sieve.__init__" aQ ["self","text"] sp:=Ai tO (λ_ _ _ _ _ _ us hl=>by obtain⟨_,_,rfl⟩:=at2 hl;rfl) len body
theorem ym{cc:Bool}{k:Nat}{sp:Sp}(len:∀vs H Q E,sp vs H Q E->vs.length=1)(body:∀(f:Addr) (cdv:Value) (A:Around) (outer:List Env) (s:Shared) (H:Hp) (vs:List V) (Q:VK) (E:XK),dU cc k (A.deeper (envOfC "Sieve.shown" (aa aG) s.heap.objs.size f cdv))->sp vs H Q E->lB (xu cc P w K mg base jW "Sieve.shown" (aa aG) f cdv A outer s H E) (az aG) {nx:=λ_ H'=>Q .non H',rt:=Q} (start jW vs) H):FD P w K mg base cc (k+1) "shown" "Sieve.shown" aG ["self"] sp:=Ai yK (λ_ _ _ _ _ _ us hl=>by obtain⟨_,rfl⟩:=at1 hl;rfl) len body
theorem mY{cc:Bool}{k:Nat}{sp:Sp}(len:∀vs H Q E,sp vs H Q E->vs.length=3)(body:∀(f:Addr) (cdv:Value) (A:Around) (outer:List Env) (s:Shared) (H:Hp) (vs:List V) (Q:VK) (E:XK),dU cc k (A.deeper (envOfC "NoneSieve.__init__" (aa aR) s.heap.objs.size f cdv))->sp vs H Q E->lB (xu cc P w K mg base eU "NoneSieve.__init__" (aa aR) f cdv A outer s H E) (az aR) {nx:=λ_ H'=>Q .non H',rt:=Q} (start eU vs) H):FD P w K mg base cc (k+1) "__init__" "NoneSieve.__init__" aR ["self","text","place"] sp:=Ai mU (λ_ _ _ _ _ _ us hl=>by obtain⟨_,_,_,rfl⟩:=at3 hl;rfl) len body
theorem lN{cc:Bool}{k:Nat}{sp:Sp}(len:∀vs H Q E,sp vs H Q E->vs.length=4)(body:∀(f:Addr) (cdv:Value) (A:Around) (outer:List Env) (s:Shared) (H:Hp) (vs:List V) (Q:VK) (E:XK),dU cc k (A.deeper (envOfC "ValueSieve.__init__" (aa aD) s.heap.objs.size f cdv))->sp vs H Q E->lB (xu cc P w K mg base dW "ValueSieve.__init__" (aa aD) f cdv A outer s H E) (az aD) {nx:=λ_ H'=>Q .non H',rt:=Q} (start dW vs) H):FD P w K mg base cc (k+1) "__init__" "ValueSieve.__init__" aD ["self","text","place","value"] sp:=Ai lR (λ_ _ _ _ _ _ us hl=>by obtain⟨_,_,_,_,rfl⟩:=at4 hl;rfl) len body
theorem oR{cc:Bool}{k:Nat}{sp:Sp}(len:∀vs H Q E,sp vs H Q E->vs.length=3)(body:∀(f:Addr) (cdv:Value) (A:Around) (outer:List Env) (s:Shared) (H:Hp) (vs:List V) (Q:VK) (E:XK),dU cc k (A.deeper (envOfC "NotSieve.__init__" (aa aX) s.heap.objs.size f cdv))->sp vs H Q E->lB (xu cc P w K mg base fV "NotSieve.__init__" (aa aX) f cdv A outer s H E) (az aX) {nx:=λ_ H'=>Q .non H',rt:=Q} (start fV vs) H):FD P w K mg base cc (k+1) "__init__" "NotSieve.__init__" aX ["self","text","one"] sp:=Ai nW (λ_ _ _ _ _ _ us hl=>by obtain⟨_,_,_,rfl⟩:=at3 hl;rfl) len body
theorem mW{cc:Bool}{k:Nat}{sp:Sp}(len:∀vs H Q E,sp vs H Q E->vs.length=4)(body:∀(f:Addr) (cdv:Value) (A:Around) (outer:List Env) (s:Shared) (H:Hp) (vs:List V) (Q:VK) (E:XK),dU cc k (A.deeper (envOfC "PairSieve.__init__" (aa aL) s.heap.objs.size f cdv))->sp vs H Q E->lB (xu cc P w K mg base eF "PairSieve.__init__" (aa aL) f cdv A outer s H E) (az aL) {nx:=λ_ H'=>Q .non H',rt:=Q} (start eF vs) H):FD P w K mg base cc (k+1) "__init__" "PairSieve.__init__" aL ["self","text","one","other"] sp:=Ai mX (λ_ _ _ _ _ _ us hl=>by obtain⟨_,_,_,_,rfl⟩:=at4 hl;rfl) len body
theorem Ac(T:Txt K mg){cc:Bool}:abM P w K mg base cc 1 "NoSieve" "at":=by
 refine ZC T.pC LQ (λ_ _ _ _ _ _ us hl=>by obtain⟨_,_,rfl⟩:=at2 hl;rfl) rfl (λf cdv A outer s H vs Q E hi hr h=>?_)
 obtain⟨e,n,rfl,hn,he,q⟩:=h
 have hsz:sizeLine=16777216:=sizeLine_eq
 refine ak (gB (by rfl) ?_)
 refine ZP (pl:=_) T.nJ.toXBase (by rfl) (by decide) (by rfl) (by rfl) (by rfl) ?_
 walk_at "go"
 refine Y4 ?_
 walk_at "e"
 refine⟨n,rfl,Vl.qm hn,_,70,rfl,Vl.Zi hn,by omega,?_⟩
 walk_at "go"
 intro zz
 refine j7 (aeH hi he ?_)
 refine aF (Yb T.pC.sa T.pC.xc T.pC.tk (by rfl) ?_)
 walk_at "e"
 walk_at "e"
 refine⟨e,rfl,he,λD hD hDe=>q D _ hDe hD (λb o hb r=>?_) ao ?_⟩
 .rw[aB hb,aB (au r hD)]
  exact r
 .rw[aB hDe,ao]
end
end K38
namespace K38
open PySem L2 PyProof.Rows My Vl Lw
section
variable{P:Program}{w:World}{K:W.Frag}{mg:Str->Option Value}{base:Heap}
def oG(K:W.Frag)(mg:Str->Option Value):Sp:=λvs H Q E=>∃(a:Addr) (ws:List Str) (p:Nat),vs=[.ref a,.int p]/\bf K H a (ws.map V.str)/\ws.length≤4000/\p≤100000/\
 (¬(p<ws.length/\p<60)->∀e H',aq H H'->H' e=some (.xd [("at",.int p)])->E (.ref (aj mg "NoSieve")) (some e,true) H')/\∀z,ws[p]? =some z->p<60->Q (.str z) H
theorem jd(T:Txt K mg):Def P w K mg base true 3 "word_at" ["words","place"] (oG K mg):=by
 refine Ir T (λvs H Q E h=>by obtain⟨a,ws,p,rfl,_⟩:=h;rfl) (λf cdv A outer s H vs Q E hr h=>?_)
 obtain⟨a,ws,p,rfl,hS,hl,hp,bad,q⟩:=h
 have n1:=T.jQ
 have g1:=T.CZ
 have zM:(ws.map V.str).length=ws.length:=List.length_map ..
 have rest:¬(p<ws.length/\p<60)->lB (xu true P w K mg base oW "word_at" (aa dq) f cdv A outer s H E) [W3 (adD (W3 (az dq) 0)) 0] {nx:=λσ' H'=>lB (xu true P w K mg base oW "word_at" (aa dq) f cdv A outer s H E) ((az dq).drop 1) {nx:=λ_ H'=>Q .non H',rt:=Q} σ' H',rt:=Q} [some (.ref a),some (.int p)] H:=by
  intro hb
  refine aF (Bh (Ac T (cc:=true)) hr (by decide) (λ_=>rfl) b8 (by rfl) (by rfl) (by decide) (by rfl) (by rfl) ?_)
  walk_at "go"
  exact⟨p,rfl,by omega,λe H' sm he=>bad hb e H' sm he⟩
 refine ak ?_
 walk_at "go"
 rw[zM]
 refine fY (λh=>?_) (λh=>?_)
 .exact rest (by omega)
 .walk_at "go"
  refine fY (λh2=>?_) (λh2=>?_)
  .exact rest (by omega)
  .walk_at "go"
   have hlt:p<ws.length:=by omega
   have hg:ws[p]? =some ws[p]:=List.getElem?_eq_getElem hlt
   refine bw hS (bD (by rw[List.getElem?_map,hg];rfl)) ?_
   exact q _ hg (by omega)
def kY(ws:List Str)(s b:Nat):Str:=Str.join " " ((ws.drop s).take (b-s))
def uO(K:W.Frag):Sp:=λvs H Q _=>∃(a:Addr) (ws:List Str) (s b:Nat),vs=[.ref a,.int s,.int b]/\bf K H a (ws.map V.str)/\ws.length≤4000/\(∀z∈ws,z.length≤1000)/\s≤b/\b≤ws.length/\∀H',aq H H'->Q (.str (kY ws s b)) H'
theorem Pn:∀{l:List Str},(∀z∈l,z.length≤1000)->(l.map (·.length)).sum≤l.length*1000
 |[],_=>by simp
 |z::l,h=>by
  have h1:=Pn (l:=l) λy hy=>h y (by simp[hy])
  have h2:=h z (by simp)
  simp only[List.map_cons,List.sum_cons,List.length_cons]
  omega
theorem cM(T:Txt K mg):Def P w K mg base true 1 "text_between" ["words","start","behind"] (uO K):=by
 refine wN T (λvs H Q E h=>by obtain⟨a,ws,s,b,rfl,_⟩:=h;rfl) (λf cdv A outer s H vs Q E hr h=>?_)
 obtain⟨a,ws,i,j,rfl,hS,hl,hz,hij,hj,q⟩:=h
 have lb:(Str.ofString " ").length=1:=by decide+kernel
 have hsz:sizeLine=16777216:=sizeLine_eq
 refine aF (bz ?_)
 walk_at "go"
 refine Vz hS λp hp=>?_
 have e:yd (ws.map V.str) (some (i:Int)) (some (j:Int))=((ws.drop i).take (j-i)).map V.str:=by
  unfold yd
  have zM:(ws.map V.str).length=ws.length:=List.length_map ..
  have e1:HT.jb (ws.map V.str).length 0 (some (i:Int))=i:=by
   rw[zM]
   unfold HT.jb
   split
   .rename_i h;cases h
   .rename_i h
    cases h
    rw[if_neg (by omega)]
    omega
  have e2:HT.jb (ws.map V.str).length (ws.map V.str).length (some (j:Int))=j:=by
   rw[zM]
   unfold HT.jb
   split
   .rename_i h;cases h
   .rename_i h
    cases h
    rw[if_neg (by omega)]
    omega
  rw[e1,e2, <-List.map_drop, <-List.map_take]
 rw[e]
 have sm:aq H (upd H p (.lst (((ws.drop i).take (j-i)).map V.str))):=aq.upd hp
 have ep:(upd H p (.lst (((ws.drop i).take (j-i)).map V.str))) p=some (.lst (((ws.drop i).take (j-i)).map V.str)):=ao
 generalize upd H p (.lst (((ws.drop i).take (j-i)).map V.str))=H2 at sm ep⊢
 walk_at "go"
 refine Dc (bf.of ep) ?_ (q H2 sm)
 have h1:=Pn (l:=(ws.drop i).take (j-i)) λz h=>hz z (List.mem_of_mem_drop (List.mem_of_mem_take h))
 have h2:((ws.drop i).take (j-i)).length≤4000:=by
  rw[List.length_take,List.length_drop]
  omega
 rw[lb]
 omega
theorem GJ{cs:List bW}{z:Str}:∀{i:Nat} {c:bW} (j:Nat),cs[i]? =some c->(∀k c,k<i->cs[k]? =some c->¬c.1=z)->c.1=z->iC cs z j= .int ((j+i:Nat):Int):=by
 induction cs with
 |nil=>intro i c j e;simp at e
 |cons d r ih=>
  intro i c j e h hz
  unfold iC
  cases i with
  |zero=>
   simp at e
   subst e
   rw[if_pos hz]
   rfl
  |succ i=>
   rw[if_neg (h 0 d (by omega) rfl)]
   rw[ih (j+1) (by simpa using e) (λk c hk e'=>h (k+1) c (by omega) (by simpa using e')) hz]
   congr 2
   omega
theorem wy{cs:List bW}{z:Str}:∀(j:Nat),(∀c∈cs,¬c.1=z)->iC cs z j= .non:=by
 induction cs with
 |nil=>intro j h;rfl
 |cons d r ih=>
  intro j h
  unfold iC
  rw[if_neg (h d (by simp)),ih (j+1) λc hc=>h c (by simp[hc])]
theorem jn(T:Txt K mg):Def P w K mg base true 1 "place_of" ["columns","name"] xj:=by
 refine Gm T (λvs H Q E h=>by obtain⟨a,cs,z,rfl,_⟩:=h;rfl) (λf cdv A outer s H vs Q E hr h=>?_)
 obtain⟨a,cs,z,rfl,⟨vs,ha,hvs⟩,q⟩:=h
 have n1:=T.GC
 have nd:=wk.nd
 refine ak ?_
 refine ZM (by walk_at "po") (by rfl) (by rfl) n1 (by rfl) ?_
 walk_at "go"
 refine⟨a,vs,rfl,ha,λi σ H'=>(∃o1 o2,σ=[some (.ref a),some (.str z),o1,o2])/\aq H H'/\∀k c,k<i->cs[k]? =some c->¬c.1=z,⟨⟨none,none,rfl⟩,aq.refl _,λk c hk=>by omega⟩,λi σ H' hi hP=>.inl (.inl (hP.2.1 _ _ ha)),λi x T' σ H' hx hP hT=>?_,λσ H' hP=>?_⟩
 .obtain⟨⟨o1,o2,rfl⟩,sm,hn⟩:=hP
  obtain⟨c,hc,t,rfl,ht⟩:=hvs.get hx
  have gw:=sm.trans (aq.upd (o:=.tup [.int i,.ref t]) hT)
  have eT:(upd H' T' (.tup [.int i,.ref t])) T'=some (.tup [.int i,.ref t]):=ao
  generalize upd H' T' (.tup [.int i,.ref t])=H2 at gw eT⊢
  refine fW (by rfl) (by rfl) (by rfl) (fK.of eT) (by rfl) (aO (by rfl) (aM nd (by rfl) (.inl rfl) (.inl rfl) (aO (by rfl) (aM nd (by rfl) (.inl rfl) (.inl rfl) (dm ?_)))))
  refine aF ?_
  walk_at "go"
  refine iH (fK.of (gw _ _ ht)) (show qg [V.str c.1,V.str c.2] 0=some (V.str c.1)from rfl) ?_
  walk_at "go"
  refine fY (λh=>?_) (λh=>?_)
  .have hz:c.1=z:=by injection h
   walk_at "go"
   have :=GJ 0 hc hn hz
   rw[Nat.zero_add]at this
   rw[<-this]
   exact q H2 gw
  .have hz:¬c.1=z:=λe=>h (by rw[e])
   walk_at "go"
   refine⟨⟨_,_,rfl⟩,gw,λk d hk hd=>?_⟩
   by_cases e:k=i
   .subst e
    rw[hc]at hd
    cases hd
    exact hz
   .exact hn k d (by omega) hd
 .obtain⟨⟨o1,o2,rfl⟩,sm,hn⟩:=hP
  refine aF ?_
  walk_at "go"
  have :=wy (cs:=cs) (z:=z) 0 λc hc=>by
   obtain⟨k,hk,e⟩:=List.getElem_of_mem hc
   exact hn k c (by rw[hvs.len];exact hk) (by rw[<-e];exact List.getElem?_eq_getElem hk)
  rw[<-this]
  exact q H' sm
def kZ(cs:List bW)(ws:List Str)(p:Nat):Option Nat:=if p<60 then match ws[p]? with
 |none=>none
 |some z=>if cs.any (λc=>decide (c.1=z))=true then some (bR cs z)else none
 else none
def Cw(K:W.Frag)(mg:Str->Option Value):Sp:=λvs H Q E=>∃(b:Addr) (cs:List bW) (a:Addr) (ws:List Str) (p:Nat),vs=[.ref b,.ref a,.int p]/\gD H b cs/\bf K H a (ws.map V.str)/\ws.length≤4000/\p≤100000/\
 (kZ cs ws p=none->∀e H',aq H H'->H' e=some (.xd [("at",.int p)])->E (.ref (aj mg "NoSieve")) (some e,true) H')/\∀i H',aq H H'->kZ cs ws p=some i->Q (.int (i:Nat)) H'
theorem gY(T:Txt K mg):Def P w K mg base true 4 "read_column" ["columns","words","place"] (Cw K mg):=by
 refine xU T (λvs H Q E h=>by obtain⟨b,cs,a,ws,p,rfl,_⟩:=h;rfl) (λf cdv A outer s H vs Q E hr h=>?_)
 obtain⟨b,cs,a,ws,p,rfl,hC,hS,hl,hp,bad,q⟩:=h
 have nd:=oF.nd
 have D1:Def P w K mg base true 1 "place_of" ["columns","name"] xj:=jn T
 have D2:Def P w K mg base true 3 "word_at" ["words","place"] (oG K mg):=jd T
 refine ak ?_
 walk_at "go"
 refine⟨a,ws,p,rfl,hS,hl,hp,λhb e H' sm he=>bad ?_ e H' sm he,λz hz h60=>?_⟩
 .unfold kZ
  by_cases h60:p<60
  .rw[if_pos h60,List.getElem?_eq_none (by omega)]
  .rw[if_neg h60]
 .walk_at "go"
  refine⟨b,cs,z,rfl,hC,λH2 sm=>?_⟩
  by_cases hin:∃c∈cs,c.1=z
  .have e:kZ cs ws p=some (bR cs z):=by
    unfold kZ
    rw[if_pos h60,hz]
    exact if_pos (by rw[List.any_eq_true];obtain⟨c,hc,e⟩:=hin;exact⟨c,hc,decide_eq_true e⟩)
   rw[yZ 0 hin,Nat.zero_add]
   walk_at "go"
   exact q _ H2 sm e
  .have e:kZ cs ws p=none:=by
    unfold kZ
    rw[if_pos h60,hz]
    exact if_neg (by rw[List.any_eq_true];rintro⟨c,hc,e⟩;exact hin ⟨c,hc,of_decide_eq_true e⟩)
   rw[wy 0 λc hc e=>hin ⟨c,hc,e⟩]
   refine ak ?_
   walk_at "go"
   refine Bh (Ac T (cc:=true)) hr (by decide) (λ_=>rfl) b8 (by rfl) (by rfl) (by decide) (by rfl) (by rfl) ?_
   walk_at "go"
   exact⟨p,rfl,by omega,λe' H' sm' he=>bad e e' H' (sm.trans sm') he⟩
def Bg(K:W.Frag):Sp:=λvs H Q _=>∃(a C dx:Addr) (fs:List (Str×V)) (z:Str),vs=[.ref a,.str z]/\H a=some (.ins C dx fs)/\oY K C/\aU K C "text"/\fs.length<900/\Q .non (upd H a (.ins C dx (fU "text" (.str z) fs)))
theorem gH{cc:Bool}:FD P w K mg base cc 1 "__init__" "Sieve.__init__" aQ ["self","text"] (Bg K):=by
 refine rY (λvs H Q E h=>by obtain⟨a,C,dx,fs,z,rfl,_⟩:=h;rfl) (λf cdv A outer s H vs Q E hr h=>?_)
 obtain⟨a,C,dx,fs,z,rfl,ha,hc,hn,hl,q⟩:=h
 refine aF (lY (by rfl) ?_)
 walk_at "e"
 walk_at "e"
 exact⟨a,C,dx,fs,rfl,ha,hc,hn,by omega,q⟩
def aaT(K:W.Frag):Sp:=λvs H Q _=>∃(a C dx:Addr) (fs:List (Str×V)) (z:Str) (p:V),vs=[.ref a,.str z,p]/\H a=some (.ins C dx fs)/\oY K C/\aU K C "text"/\aU K C "place"/\fs.length<800/\
 Q .non (upd (upd H a (.ins C dx (fU "text" (.str z) fs))) a (.ins C dx (fU "place" p (fU "text" (.str z) fs))))
theorem vg(T:Txt K mg){cc:Bool}:FD P w K mg base cc 2 "__init__" "NoneSieve.__init__" aR ["self","text","place"] (aaT K):=by
 refine mY (λvs H Q E h=>by obtain⟨a,C,dx,fs,z,p,rfl,_⟩:=h;rfl) (λf cdv A outer s H vs Q E hr h=>?_)
 obtain⟨a,C,dx,fs,z,p,rfl,ha,hc,hn,hn2,hl,q⟩:=h
 have B:PB P w K mg base cc 1 "Sieve" "__init__" ["self","text"] (Bg K):=gH.asked T.xm T.d8
 have hz:=dC "text" (V.str z) fs
 refine ak (gB (by rfl) ?_)
 refine sr (pl:=_) B hr (by decide) id b8 (by rfl) (by decide) (by rfl) (by rfl) (by rfl) ?_
 walk_at "go"
 refine⟨a,C,dx,fs,z,rfl,ha,hc,hn,by omega,?_⟩
 refine aF (lY (by rfl) ?_)
 walk_at "e"
 walk_at "e"
 exact⟨a,C,dx,_,rfl,ao,hc,hn2,by omega,q⟩
def Hi(K:W.Frag):Sp:=λvs H Q _=>∃(a C dx:Addr) (fs:List (Str×V)) (z:Str) (p v:V),vs=[.ref a,.str z,p,v]/\H a=some (.ins C dx fs)/\oY K C/\aU K C "text"/\aU K C "place"/\aU K C "value"/\fs.length<800/\
 ∀H',H' a=some (.ins C dx (fU "value" v (fU "place" p (fU "text" (.str z) fs))))->(∀b o,b≠a->H b=some o->H' b=some o)->Q .non H'
theorem dX(T:Txt K mg){cc:Bool}:FD P w K mg base cc 2 "__init__" "ValueSieve.__init__" aD ["self","text","place","value"] (Hi K):=by
 refine lN (λvs H Q E h=>by obtain⟨a,C,dx,fs,z,p,v,rfl,_⟩:=h;rfl) (λf cdv A outer s H vs Q E hr h=>?_)
 obtain⟨a,C,dx,fs,z,p,v,rfl,ha,hc,hn,hn2,hn3,hl,q⟩:=h
 have B:PB P w K mg base cc 1 "Sieve" "__init__" ["self","text"] (Bg K):=gH.asked T.xm T.d8
 have hz:=dC "text" (V.str z) fs
 have hz2:=dC "place" p (fU "text" (V.str z) fs)
 refine ak (gB (by rfl) ?_)
 refine sr (pl:=_) B hr (by decide) id b8 (by rfl) (by decide) (by rfl) (by rfl) (by rfl) ?_
 walk_at "go"
 refine⟨a,C,dx,fs,z,rfl,ha,hc,hn,by omega,?_⟩
 refine ak (lY (by rfl) ?_)
 walk_at "e"
 walk_at "e"
 refine⟨a,C,dx,_,rfl,ao,hc,hn2,by omega,?_⟩
 refine aF (lY (by rfl) ?_)
 walk_at "e"
 walk_at "e"
 refine⟨a,C,dx,_,rfl,ao,hc,hn3,by omega,q _ ao λb o hb e=>?_⟩
 rw[aB hb,aB hb,aB hb]
 exact e
inductive Lk |is |under |over |holds
abbrev F3(z:Str)(p:Nat)(v:V):List (Str×V):=[("text",.str z),("place",.int p),("value",v)]
theorem pA(T:Txt K mg):Def P w K mg base true 1 "made_of" ["text","signs"] JL:=by
 refine Kc T (λvs H Q E h=>by obtain⟨z,g,rfl,_⟩:=h;rfl) (λf cdv A outer s H vs Q E hr h=>?_)
 obtain⟨z,g,rfl,hz,q⟩:=h
 have n1:=T.air
 refine aF (bz ?_)
 walk_at "e"
 walk_at "e"
 refine Wc ["sign","signs"] (σ':=[none,some (.str g)]) (by rfl) (by rfl) (cC (aa gm) (by rfl) (by rfl) (by decide+kernel)) (by decide+kernel) (by rfl) (by rfl) (by intro _;rfl) ?_
 walk_at "e"
 refine⟨z,rfl,?_,λi v=>∃c,z.cps.toList[i]? =some c/\v= .bl (decide (c∈g.cps.toList)),λfp E' C s3 H0 i c H2 hc sm=>?_,λE' H2 xs hE hl hx e2 sm=>?_⟩
 .have :z.cps.size=z.length:=rfl
  have h2:sizeLine=16777216:=sizeLine_eq
  omega
 .walk_at "go"
  exact⟨⟨c,hc,by rw[StrLaws.found_one]⟩,aq.refl _⟩
 .have ex:=eY (ys:=z.cps.toList) (λc=>V.bl (decide (c∈g.cps.toList))) (by rw[hl];simp) hx
  have ex2:xs=(z.cps.toList.map λc=>decide (c∈g.cps.toList)).map V.bl:=by rw[ex,List.map_map];rfl
  subst ex2
  walk_at "go"
  refine ajN (by rfl) (bf.of e2) ?_
  have e3:(z.cps.toList.map λc=>decide (c∈g.cps.toList)).all id=gR z g:=by rw[List.all_map];rfl
  rw[e3]
  exact q _ sm
theorem iB(T:Txt K mg):Def P w K mg base true 2 "is_text_value" ["value"] aaP:=by
 refine uF T (λvs H Q E h=>by obtain⟨z,rfl,_⟩:=h;rfl) (λf cdv A outer s H vs Q E hr h=>?_)
 obtain⟨v,rfl,hs,hz,q⟩:=h
 have g1:=T.QV
 have g2:=T.Du
 have n1:=T.lM
 have n2:=T.Ax
 have n3:=T.jQ
 have D1:Def P w K mg base true 1 "made_of" ["text","signs"] JL:=pA T
 have hsz:sizeLine=16777216:=sizeLine_eq
 refine aF (bz ?_)
 cases v with
 |int i=>
  walk_at "go"
  exact q H (aq.refl _)
 |non=>
  walk_at "go"
  exact q H (aq.refl _)
 |str z=>
  have hz':z.length≤4000:=hz
  walk_at "go"
  refine fY (λh=>?_) (λh=>?_)
  .walk_at "go"
   refine⟨z,_,rfl,hz',λH' sm=>?_⟩
   have e:vZ (.str z)=gR z TSs:=by
    have h':z.length≤20:=by omega
    unfold vZ
    simp[h']
   rw[e]at q
   exact q H' sm
  .have e:vZ (.str z)=false:=by
    have h':¬z.length≤20:=by omega
    unfold vZ
    simp[h']
   rw[e]at q
   exact q H (aq.refl _)
 |_=>cases hs
theorem jX(T:Txt K mg):Def P w K mg base true 2 "are_figures" ["word"] aaw:=by
 refine yW T (λvs H Q E h=>by obtain⟨v,rfl,_⟩:=h;rfl) (λf cdv A outer s H vs Q E hr h=>?_)
 obtain⟨z,rfl,hz,q⟩:=h
 have g1:=T.Rj
 have D1:Def P w K mg base true 1 "made_of" ["text","signs"] JL:=pA T
 have hsz:sizeLine=16777216:=sizeLine_eq
 have e0:(Str.ofString "0").cps.toList=[48]:=by decide+kernel
 have e1:(Str.ofString "").cps.toList=[]:=by decide+kernel
 unfold fX at q
 refine aF (bz ?_)
 walk_at "go"
 refine fY (λh=>?_) (λh=>?_)
 .have h':z.cps.toList=[48]:=by cases h;exact e0
  rw[h']at q
  exact q H (aq.refl _)
 .have h':¬z.cps.toList=[48]:=λh2=>h (by rw[bU (h2.trans e0.symm)])
  rw[decide_eq_false h',Bool.false_or]at q
  walk_at "go"
  refine ifN (λh2=>?_) (λh2=>?_)
  .have h2':z.cps.toList≠[]:=λh3=>h2 (by rw[bU (h3.trans e1.symm)])
   rw[decide_eq_true h2',Bool.true_and]at q
   obtain⟨c,r,hc⟩:=List.exists_cons_of_ne_nil h2'
   have hc0:z.cps.toList[0]? =some c:=by rw[hc];rfl
   walk_at "go"
   refine mQ (by omega) (bD (j:=0) hc0) ?_
   walk_at "go"
   rw[hc0]at q
   refine ifN (λh3=>?_) (λh3=>?_)
   .have h3':some c≠some 48:=λh4=>h3 (by cases h4;exact congrArg V.str (bU e0.symm))
    rw[decide_eq_true h3',Bool.true_and]at q
    walk_at "go"
    refine⟨z,_,rfl,hz,λH' sm=>?_⟩
    rw[Q5]
    exact q H' sm
   .have h3':¬(some c≠some 48):=λh4=>h4 (by
     have :=congrArg (λv:V=>match v with | .str x=>x.cps.toList |_=>[]) h3
     have h5:[c]=(Str.ofString "0").cps.toList:=this
     rw[e0]at h5
     cases h5
     rfl)
    rw[decide_eq_false h3',Bool.false_and]at q
    exact q H (aq.refl _)
  .have h2':¬z.cps.toList≠[]:=λh3=>h3 (by cases h2;exact e1)
   rw[decide_eq_false h2',Bool.false_and]at q
   exact q H (aq.refl _)
theorem gr(T:Txt K mg):Def P w K mg base true 3 "read_figures" ["word","most"] DG:=by
 refine wV T (λvs H Q E h=>by obtain⟨z,m,k,rfl,_⟩:=h;rfl) (λf cdv A outer s H vs Q E hr h=>?_)
 obtain⟨z,m,k,rfl,hz,m0,m1,hk,hmk,k1,k2,q⟩:=h
 have n1:=T.jQ
 have n2:=T.Ax
 have n3:=T.aaV
 have nd:=mJ.nd
 have D1:Def P w K mg base true 2 "are_figures" ["word"] aaw:=jX T
 have hsz:sizeLine=16777216:=sizeLine_eq
 have hl:=L2.len_list z
 have out:∀(H1:Hp) (o:Option V),aq H H1->wL z.cps.toList m=none->lB (xu true P w K mg base jm "read_figures" (aa bO) f cdv A outer s H E) ((az bO).drop 1) {nx:=λ_ H'=>Q .non H',rt:=Q} [some (.str z),some (.int m),o] H1:=by
  intro H1 o sm e
  have q1:=q H1 sm
  rw[e]at q1
  refine aF ?_
  walk_at "go"
  exact q1
 refine ak ?_
 walk_at "go"
 refine⟨z,rfl,hz,λH1 iu=>?_⟩
 walk_at "go"
 refine ifB (λh1=>?_) (λh1=>?_)
 .walk_at "go"
  refine vy (qm m1) ?_
  walk_at "go"
  rw[hk]
  refine fY (λh2=>?_) (λh2=>?_)
  .walk_at "go"
   obtain⟨hd,hne⟩:=pX h1
   refine adG (intText_digits hd hne (by omega)) (by omega) ?_
   walk_at "go"
   refine fY (λh3=>?_) (λh3=>?_)
   .have q1:=q H1 iu
    have e:wL z.cps.toList m=some _:=if_pos ⟨h1,h3⟩
    rw[e]at q1
    walk_at "go"
    exact q1
   .exact aN (out H1 _ iu (if_neg λx=>h3 x.2))
  .refine aN (out H1 _ iu (if_neg λx=>h2 ?_))
   have :=DP x.1 x.2 hmk k1
   omega
 .exact aN (out H1 _ iu (if_neg λx=>by rw[h1]at x;exact Bool.false_ne_true x.1))
theorem gk(T:Txt K mg):Def P w K mg base true 4 "read_number_word" ["word"] (O5 (.ref (aj mg "NoValue"))):=by
 refine pH T (λvs H Q E h=>by obtain⟨v,rfl,_⟩:=h;rfl) (λf cdv A outer s H vs Q E hr h=>?_)
 obtain⟨z,rfl,hz,q⟩:=h
 have g1:=T.Aa
 have g2:=T.PL
 have nd:=iG.nd
 have D1:Def P w K mg base true 3 "read_figures" ["word","most"] DG:=gr T
 have hsz:sizeLine=16777216:=sizeLine_eq
 have lm:(Str.ofString (toString (1000000000000000000:Int))).length=19:=by decide+kernel
 have rz:gA z.cps.toList=none->∀H1,aq H H1->∀o1 o2 D,SX (xu true P w K mg base gj "read_number_word" (aa bu) f cdv A outer s H E) (W3 (adD (W3 (az bu) 2)) 0) D [some (.str z),o1,o2] H1:=by
  intro hn H1 sm o1 o2 D
  refine ik b8 (by rfl) T.Ba (by rfl) (by decide) (by rfl) (by rfl) ?_
  walk_at "go"
  refine xg ?_
  walk_at "e"
  refine⟨z,rfl,by omega,_,4000,rfl,hz,by omega,?_⟩
  walk_at "go"
  intro zz
  walk_at "go"
  have q1:=q H1 sm
  rw[hn]at q1
  exact⟨by rw[hsz];simp,q1⟩
 refine ak ?_
 walk_at "go"
 refine Hr ?_
 rw[show Txt.startswith z "-"=decide (z.cps.toList[0]? =some 45)from xM z 45]
 walk_at "go"
 refine fY (λh0=>?_) (λh0=>?_)
 .rw[decide_eq_true h0]
  walk_at "go"
  refine iJ (by omega) ?_
  walk_at "go"
  have hcl:=ie z (some 1) none
  refine⟨_,_,19,rfl,by omega,by decide,by decide,lm,by decide,by decide,by decide,λH1 iu=>?_⟩
  rw[show(bQ z (some 1) none).cps.toList=z.cps.toList.drop 1 from lq z 1]
  have er:=zJ h0
  cases e:wL (z.cps.toList.drop 1) 1000000000000000000 with
  |none=>
   rw[e]at er
   simp only[RT]
   walk_at "go"
   exact rz er H1 iu _ _ _
  |some i=>
   rw[e]at er
   dsimp only at er
   simp only[RT]
   walk_at "go"
   refine fY (λh1=>?_) (λh1=>?_)
   .have h2:i=0:=by injection h1
    rw[if_pos h2]at er
    exact aF (rz er H1 iu _ _ _)
   .have h2:¬i=0:=λe=>h1 (by rw[e])
    rw[if_neg h2]at er
    have q1:=q H1 iu
    rw[er]at q1
    refine aN ?_
    walk_at "go"
    exact q1
 .rw[decide_eq_false h0]
  walk_at "go"
  refine⟨_,_,19,rfl,by omega,by decide,by decide,lm,by decide,by decide,by decide,λH1 iu=>?_⟩
  have er:=p8 h0
  cases e:wL z.cps.toList 1000000000000000000 with
  |none=>
   rw[e]at er
   simp only[RT]
   walk_at "go"
   exact rz er H1 iu _ _ _
  |some i=>
   rw[e]at er
   simp only[RT]
   have q1:=q H1 iu
   rw[er]at q1
   walk_at "go"
   exact q1
theorem gM(T:Txt K mg):Def P w K mg base true 3 "read_text_word" ["word"] (Ov (.ref (aj mg "NoValue"))):=by
 refine tD T (λvs H Q E h=>by obtain⟨v,rfl,_⟩:=h;rfl) (λf cdv A outer s H vs Q E hr h=>?_)
 obtain⟨z,rfl,hz,q⟩:=h
 have g1:=T.DX
 have nd:=jH.nd
 have D1:Def P w K mg base true 2 "is_text_value" ["value"] aaP:=iB T
 have hsz:sizeLine=16777216:=sizeLine_eq
 have e1:Str.ofString "'"=⟨#[39]⟩:=by decide+kernel
 have lc:=ie z (some 1) none
 have rz:iV z=none->∀H1,aq H H1->lB (xu true P w K mg base gU "read_text_word" (aa bB) f cdv A outer s H E) ((az bB).drop 1) {nx:=λ_ H'=>Q .non H',rt:=Q} [some (.str z)] H1:=by
  intro hn H1 sm
  refine aF (ik b8 (by rfl) T.Ba (by rfl) (by decide) (by rfl) (by rfl) ?_)
  walk_at "go"
  refine xg ?_
  walk_at "e"
  refine⟨z,rfl,by omega,_,4000,rfl,hz,by omega,?_⟩
  walk_at "go"
  intro zz
  walk_at "go"
  have q1:=q H1 sm
  rw[hn]at q1
  exact⟨by rw[hsz];simp,q1⟩
 refine ak ?_
 walk_at "go"
 refine Hr ?_
 walk_at "go"
 rw[e1,xM]
 refine fY (λh1=>?_) (λh1=>?_)
 .walk_at "go"
  refine iJ (by omega) ?_
  walk_at "go"
  refine⟨_,rfl,rfl,(show(bQ z (some 1) none).length≤4000 by omega),λH1 iu=>?_⟩
  walk_at "go"
  refine ifB (λh2=>?_) (λh2=>?_)
  .walk_at "go"
   refine iJ (by omega) ?_
   have q1:=q H1 iu
   have er:iV z=some (bQ z (some 1) none):=by
    unfold iV
    rw[if_pos ⟨h1,h2⟩]
   rw[er]at q1
   exact q1
  .refine aN (rz ?_ H1 iu)
   unfold iV
   rw[if_neg λh4=>by rw[h2]at h4;exact Bool.false_ne_true h4.2]
 .refine aN (rz ?_ H (aq.refl _))
  unfold iV
  rw[if_neg λh4=>h1 h4.1]
theorem iZ(T:Txt K mg):Def P w K mg base true 5 "read_value" ["kind","word"] (CG (.ref (aj mg "NoValue"))):=by
 refine zG T (λvs H Q E h=>by obtain⟨k,z,rfl,_⟩:=h;rfl) (λf cdv A outer s H vs Q E hr h=>?_)
 obtain⟨k,z,rfl,hz,q⟩:=h
 have g1:=T.Gu
 have g2:=T.V0
 have D1:Def P w K mg base true 4 "read_number_word" ["word"] (O5 (.ref (aj mg "NoValue"))):=gk T
 have D2:Def P w K mg base true 3 "read_text_word" ["word"] (Ov (.ref (aj mg "NoValue"))):=gM T
 refine ak ?_
 walk_at "go"
 refine fY (λh1=>?_) (λh1=>?_)
 .have h2:z="?":=by cases h1;rfl
  have q1:=q H (aq.refl _)
  have er:jE k z=some .non:=by unfold jE;rw[if_pos h2]
  rw[er]at q1
  walk_at "go"
  exact q1
 .have h2:¬z="?":=λe=>h1 (by rw[e])
  have er:jE k z=if k="number" then Yk (gA z.cps.toList)else abo (iV z):=by unfold jE;rw[if_neg h2]
  rw[er]at q
  walk_at "go"
  refine fY (λh3=>?_) (λh3=>?_)
  .have h4:k="number":=by cases h3;rfl
   rw[if_pos h4]at q
   walk_at "go"
   exact⟨z,rfl,hz,q⟩
  .have h4:¬k="number":=λe=>h3 (by rw[e])
   rw[if_neg h4]at q
   walk_at "go"
   exact⟨z,rfl,hz,q⟩
def Nz(K:W.Frag):Sp:=λvs H Q _=>∃(kd:Str) (a:Addr) (ws:List Str) (p:Nat) (z:Str) (v:V),vs=[.str kd,.ref a,.int p]/\bf K H a (ws.map V.str)/\ws.length≤4000/\ws[p]? =some z/\p<60/\z.length≤4000/\jE kd z=some v/\¬v= .non/\∀H',aq H H'->Q v H'
theorem oH(T:Txt K mg):Def P w K mg base true 6 "read_word" ["kind","words","place"] (Nz K):=by
 refine DR T (λvs H Q E h=>by obtain⟨kd,a,ws,p,z,v,rfl,_⟩:=h;rfl) (λf cdv A outer s H vs Q E hr h=>?_)
 obtain⟨kd,a,ws,p,z,v,rfl,hS,hl,hz,hp,hzl,hv,hne,q⟩:=h
 have nd:=tH.nd
 have D1:Def P w K mg base true 3 "word_at" ["words","place"] (oG K mg):=jd T
 have D2:Def P w K mg base true 5 "read_value" ["kind","word"] (CG (.ref (aj mg "NoValue"))):=iZ T
 have hlt:=(List.getElem?_eq_some_iff.mp hz).1
 refine ak ?_
 walk_at "go"
 refine⟨a,ws,p,rfl,hS,hl,by omega,λhb=>absurd ⟨hlt,hp⟩ hb,λz' hz' _=>?_⟩
 rw[hz]at hz'
 cases hz'
 refine ak ?_
 refine Ml (λ_ _ _ _=>False) rfl rfl (λF pn xo po=>?_) (λσ c d H' hK=>hK.elim)
 refine aF ?_
 walk_at "go"
 refine⟨kd,z,rfl,hzl,λH' sm=>?_⟩
 rw[hv]
 refine aN ?_
 refine ak ?_
 walk_at "go"
 rw[decide_eq_false hne]
 walk_at "go"
 exact q H' sm
inductive PN |all |none (p:Nat) |look (l:Lk) (p:Nat) (v:V)
def ajo(mg:Str->Option Value):Lk->Addr
 | .is=>aj mg "IsSieve"
 | .under=>aj mg "UnderSieve"
 | .over=>aj mg "OverSieve"
 | .holds=>aj mg "HoldsSieve"
def Bs(mg:Str->Option Value)(H:Hp)(a:Addr):PN->Str->Prop
 | .all,z=>∃dx,H a=some (.ins (aj mg "AllSieve") dx [("text",.str z)])
 | .none p,z=>∃dx,H a=some (.ins (aj mg "NoneSieve") dx [("text",.str z),("place",.int p)])
 | .look l p v,z=>∃dx,H a=some (.ins (ajo mg l) dx (F3 z p v))
theorem Bs.same{mg:Str->Option Value}{H H':Hp}{a:Addr}{s:PN}{z:Str}(h:Bs mg H a s z)(e:aq H H'):Bs mg H' a s z:=by
 cases s<;>obtain⟨dx,h⟩:=h<;>exact⟨dx,e _ _ h⟩
def Io(mg:Str->Option Value)(H:Hp)(p:Addr)(s:PN)(z:Str)(n:Nat):Prop:=∃t,H p=some (.tup [.ref t,.int n])/\Bs mg H t s z
def Pa(K:W.Frag)(mg:Str->Option Value):Sp:=λvs H Q _=>∃(b:Addr) (cs:List bW) (a:Addr) (ws:List Str) (s i:Nat),vs=[.ref b,.ref a,.int s]/\gD H b cs/\bf K H a (ws.map V.str)/\ws.length≤4000/\(∀z∈ws,z.length≤1000)/\s+2≤ws.length/\kZ cs ws (s+1)=some i/\
 ∀p H',aq H H'->Io mg H' p (.none i) (kY ws s (s+2)) (s+2)->Q (.ref p) H'
theorem oN(T:Txt K mg):Def P w K mg base true 5 "read_none" ["columns","words","start"] (Pa K mg):=by
 refine Cv T (λvs H Q E h=>by obtain⟨b,cs,a,ws,s,i,rfl,_⟩:=h;rfl) (λf cdv A outer s H vs Q E hr h=>?_)
 obtain⟨b,cs,a,ws,s0,i,rfl,hC,hS,hl,hz,hs2,hi,q⟩:=h
 have nd:=tG.nd
 have hsz:sizeLine=16777216:=sizeLine_eq
 have D1:Def P w K mg base true 4 "read_column" ["columns","words","place"] (Cw K mg):=gY T
 have D2:Def P w K mg base true 1 "text_between" ["words","start","behind"] (uO K):=cM T
 have M:yq P w K mg base true 2 "NoneSieve" (aj mg "NoneSieve") ["self","text","place"] (aaT K):=(vg T).make T.HR T.Ep
 refine ak ?_
 walk_at "go"
 refine⟨b,cs,a,ws,s0+1,by simp,hC,hS,hl,by omega,λe=>(by rw[hi]at e;cases e),λi' H2 gw e=>?_⟩
 rw[hi]at e
 cases e
 walk_at "go"
 refine iW M hr (by decide) (λ_=>rfl) b8 (by rfl) (by decide) (by rfl) (by rfl) ?_
 walk_at "go"
 refine⟨a,ws,s0,s0+2,by simp,gw.seq hS,hl,hz,by omega,hs2,λH3 sm3=>?_⟩
 walk_at "go"
 intro y dx hy hdx hne
 refine⟨y,_,dx,[],kY ws s0 (s0+2),_,rfl,ao,T.oO,T.jM,T.qC,by simp,rfl,?_⟩
 walk_at "go"
 refine⟨by show 2≤sizeLine;omega,λp hp=>?_⟩
 generalize hG:upd (upd (upd (upd H3 dx (.own y)) y (.ins (aj mg "NoneSieve") dx [])) y _) y _=G at hp⊢
 have Fy:aq H3 G:=λc o e=>by
  rw[<-hG,aB (au e hy),aB (au e hy),aB (au e hy),aB (au e hdx)]
  exact e
 have ey:G y=some (.ins (aj mg "NoneSieve") dx [("text",.str (kY ws s0 (s0+2))),("place",.int i)]):=by
  rw[<-hG]
  exact ao
 have qM:aq G (upd G p (.tup [.ref y,.int (s0+2)])):=aq.upd hp
 exact q p _ (((gw.trans sm3).trans Fy).trans qM) ⟨y,ao,dx,qM _ _ ey⟩
def pN:Lk->Str
 | .is=>"is"
 | .under=>"under"
 | .over=>"over"
 | .holds=>"holds"
def Ub(K:W.Frag)(mg:Str->Option Value):Sp:=λvs H Q _=>∃(l:Lk) (b:Addr) (cs:List bW) (a:Addr) (ws:List Str) (s i:Nat) (c:bW) (z:Str) (v:V),vs=[.ref b,.ref a,.int s]/\gD H b cs/\bf K H a (ws.map V.str)/\ws.length≤4000/\(∀z∈ws,z.length≤1000)/\s+3≤ws.length/\s+2<60/\
 ws[s]? =some (pN l)/\kZ cs ws (s+1)=some i/\cs[i]? =some c/\(l= .holds->c.2="text")/\ws[s+2]? =some z/\jE c.2 z=some v/\¬v= .non/\
 ∀p H',aq H H'->Io mg H' p (.look l i v) (kY ws s (s+3)) (s+3)->Q (.ref p) H'
theorem iw(T:Txt K mg):Def P w K mg base true 7 "read_of_value" ["columns","words","start"] (Ub K mg):=by
 refine vB T (λvs H Q E h=>by obtain⟨l,b,cs,a,ws,s,i,c,z,v,rfl,_⟩:=h;rfl) (λf cdv A outer s H vs Q E hr h=>?_)
 obtain⟨l,b,cs,a,ws,s0,i,c,z,v,rfl,hC,hS,hl,hz,hs3,za,hw,hi,hc,hh,hzz,hv,hne,q⟩:=h
 have nd:=lA.nd
 have hsz:sizeLine=16777216:=sizeLine_eq
 have g1:=T.Dj
 have g2:=T.agv
 have g3:=T.abh
 have g4:=T.Df
 have g5:=T.Kr
 have D1:Def P w K mg base true 4 "read_column" ["columns","words","place"] (Cw K mg):=gY T
 have D2:Def P w K mg base true 1 "text_between" ["words","start","behind"] (uO K):=cM T
 have D3:Def P w K mg base true 6 "read_word" ["kind","words","place"] (Nz K):=oH T
 refine ak ?_
 walk_at "go"
 refine bw hS (bD (by rw[List.getElem?_map,hw];rfl)) ?_
 walk_at "go"
 refine⟨b,cs,a,ws,s0+1,by simp,hC,hS,hl,by omega,λe=>(by rw[hi]at e;cases e),λi' H2 gw e=>?_⟩
 rw[hi]at e
 cases e
 obtain⟨vs,hb,hvs⟩:=hC.same gw
 obtain⟨cv,gc,t,rfl,ht⟩:=hvs.get' hc
 refine ak ?_
 walk_at "go"
 refine bw (bf.of hb) (bD gc) ?_
 walk_at "go"
 refine iH (fK.of ht) (show qg [V.str c.1,V.str c.2] 1=some (V.str c.2)from rfl) ?_
 cases l with
 |is=>
  have M:yq P w K mg base true 2 "IsSieve" (aj mg "IsSieve") ["self","text","place","value"] (Hi K):=(dX T).make T.Q0 T.KJ
  refine ak ?_
  walk_at "go"
  refine fY (λh=>absurd h (by decide+kernel)) (λ_=>?_)
  refine aN ?_
  refine ak ?_
  walk_at "go"
  refine⟨c.2,a,ws,s0+2,z,v,by simp,gw.seq hS,hl,hzz,za,by have :=hz z (List.mem_of_getElem? hzz);omega,hv,hne,λH3 sm3=>?_⟩
  walk_at "go"
  refine⟨a,ws,s0,s0+3,by simp,(gw.trans sm3).seq hS,hl,hz,by omega,hs3,λH4 sW=>?_⟩
  refine ak ?_
  walk_at "go"
  refine fY (λ_=>?_) (λh=>absurd rfl h)
  walk_at "go"
  refine iW M hr (by decide) (λ_=>rfl) b8 (by rfl) (by decide) (by rfl) (by rfl) ?_
  walk_at "go"
  intro y dx hy hdx hne'
  refine⟨y,_,dx,[],kY ws s0 (s0+3),_,v,rfl,ao,T.vM,T.mF,T.uy,T.uz,by simp,λG eG hG=>⟨rfl,?_⟩⟩
  walk_at "go"
  refine⟨by show 2≤sizeLine;omega,λp hp=>?_⟩
  have Fy:aq H4 G:=λc o e=>hG c o (au e hy) (by rw[aB (au e hy),aB (au e hdx)];exact e)
  have qM:aq G (upd G p (.tup [.ref y,.int (s0+3)])):=aq.upd hp
  exact q p _ ((((gw.trans sm3).trans sW).trans Fy).trans qM) ⟨y,ao,dx,qM _ _ eG⟩
 |under=>
  have M:yq P w K mg base true 2 "UnderSieve" (aj mg "UnderSieve") ["self","text","place","value"] (Hi K):=(dX T).make T.CP T.Ab
  refine ak ?_
  walk_at "go"
  refine fY (λh=>absurd h (by decide+kernel)) (λ_=>?_)
  refine aN ?_
  refine ak ?_
  walk_at "go"
  refine⟨c.2,a,ws,s0+2,z,v,by simp,gw.seq hS,hl,hzz,za,by have :=hz z (List.mem_of_getElem? hzz);omega,hv,hne,λH3 sm3=>?_⟩
  walk_at "go"
  refine⟨a,ws,s0,s0+3,by simp,(gw.trans sm3).seq hS,hl,hz,by omega,hs3,λH4 sW=>?_⟩
  refine ak ?_
  walk_at "go"
  refine fY (λh=>absurd h (by decide+kernel)) (λ_=>?_)
  refine aN ?_
  refine ak ?_
  walk_at "go"
  refine fY (λ_=>?_) (λh=>absurd rfl h)
  walk_at "go"
  refine iW M hr (by decide) (λ_=>rfl) b8 (by rfl) (by decide) (by rfl) (by rfl) ?_
  walk_at "go"
  intro y dx hy hdx hne'
  refine⟨y,_,dx,[],kY ws s0 (s0+3),_,v,rfl,ao,T.lH,T.jw,T.pL,T.pK,by simp,λG eG hG=>⟨rfl,?_⟩⟩
  walk_at "go"
  refine⟨by show 2≤sizeLine;omega,λp hp=>?_⟩
  have Fy:aq H4 G:=λc o e=>hG c o (au e hy) (by rw[aB (au e hy),aB (au e hdx)];exact e)
  have qM:aq G (upd G p (.tup [.ref y,.int (s0+3)])):=aq.upd hp
  exact q p _ ((((gw.trans sm3).trans sW).trans Fy).trans qM) ⟨y,ao,dx,qM _ _ eG⟩
 |over=>
  have M:yq P w K mg base true 2 "OverSieve" (aj mg "OverSieve") ["self","text","place","value"] (Hi K):=(dX T).make T.Gh T.Dt
  refine ak ?_
  walk_at "go"
  refine fY (λh=>absurd h (by decide+kernel)) (λ_=>?_)
  refine aN ?_
  refine ak ?_
  walk_at "go"
  refine⟨c.2,a,ws,s0+2,z,v,by simp,gw.seq hS,hl,hzz,za,by have :=hz z (List.mem_of_getElem? hzz);omega,hv,hne,λH3 sm3=>?_⟩
  walk_at "go"
  refine⟨a,ws,s0,s0+3,by simp,(gw.trans sm3).seq hS,hl,hz,by omega,hs3,λH4 sW=>?_⟩
  refine ak ?_
  walk_at "go"
  refine fY (λh=>absurd h (by decide+kernel)) (λ_=>?_)
  refine aN ?_
  refine ak ?_
  walk_at "go"
  refine fY (λh=>absurd h (by decide+kernel)) (λ_=>?_)
  refine aN ?_
  refine ak ?_
  walk_at "go"
  refine fY (λ_=>?_) (λh=>absurd rfl h)
  walk_at "go"
  refine iW M hr (by decide) (λ_=>rfl) b8 (by rfl) (by decide) (by rfl) (by rfl) ?_
  walk_at "go"
  intro y dx hy hdx hne'
  refine⟨y,_,dx,[],kY ws s0 (s0+3),_,v,rfl,ao,T.oA,T.jD,T.qd,T.qU,by simp,λG eG hG=>⟨rfl,?_⟩⟩
  walk_at "go"
  refine⟨by show 2≤sizeLine;omega,λp hp=>?_⟩
  have Fy:aq H4 G:=λc o e=>hG c o (au e hy) (by rw[aB (au e hy),aB (au e hdx)];exact e)
  have qM:aq G (upd G p (.tup [.ref y,.int (s0+3)])):=aq.upd hp
  exact q p _ ((((gw.trans sm3).trans sW).trans Fy).trans qM) ⟨y,ao,dx,qM _ _ eG⟩
 |holds=>
  have M:yq P w K mg base true 2 "HoldsSieve" (aj mg "HoldsSieve") ["self","text","place","value"] (Hi K):=(dX T).make T.Ex T.zA
  refine ak ?_
  walk_at "go"
  refine fY (λ_=>?_) (λh=>absurd rfl h)
  rw[hh rfl]
  walk_at "go"
  rw[decide_eq_true rfl]
  walk_at "t"
  refine aN ?_
  refine ak ?_
  walk_at "go"
  refine⟨"text",a,ws,s0+2,z,v,by simp,gw.seq hS,hl,hzz,za,by have :=hz z (List.mem_of_getElem? hzz);omega,by rw[<-hh rfl];exact hv,hne,λH3 sm3=>?_⟩
  walk_at "go"
  refine⟨a,ws,s0,s0+3,by simp,(gw.trans sm3).seq hS,hl,hz,by omega,hs3,λH4 sW=>?_⟩
  refine ak ?_
  walk_at "go"
  refine fY (λh=>absurd h (by decide+kernel)) (λ_=>?_)
  refine aN ?_
  refine ak ?_
  walk_at "go"
  refine fY (λh=>absurd h (by decide+kernel)) (λ_=>?_)
  refine aN ?_
  refine ak ?_
  walk_at "go"
  refine fY (λh=>absurd h (by decide+kernel)) (λ_=>?_)
  walk_at "go"
  refine iW M hr (by decide) (λ_=>rfl) b8 (by rfl) (by decide) (by rfl) (by rfl) ?_
  walk_at "go"
  intro y dx hy hdx hne'
  refine⟨y,_,dx,[],kY ws s0 (s0+3),_,v,rfl,ao,T.lO,T.jk,T.pM,T.pJ,by simp,λG eG hG=>⟨rfl,?_⟩⟩
  walk_at "go"
  refine⟨by show 2≤sizeLine;omega,λp hp=>?_⟩
  have Fy:aq H4 G:=λc o e=>hG c o (au e hy) (by rw[aB (au e hy),aB (au e hdx)];exact e)
  have qM:aq G (upd G p (.tup [.ref y,.int (s0+3)])):=aq.upd hp
  exact q p _ ((((gw.trans sm3).trans sW).trans Fy).trans qM) ⟨y,ao,dx,qM _ _ eG⟩
def uZ(cs:List bW)(ws:List Str)(s:Nat):PN->Nat->Prop
 | .all,n=>ws[s]? =some "all"/\n=s+1
 | .none i,n=>ws[s]? =some "none"/\s+2≤ws.length/\kZ cs ws (s+1)=some i/\n=s+2
 | .look l i v,n=>s+3≤ws.length/\s+2<60/\ws[s]? =some (pN l)/\kZ cs ws (s+1)=some i/\(∃c z,cs[i]? =some c/\(l= .holds->c.2="text")/\ws[s+2]? =some z/\jE c.2 z=some v)/\(¬v= .non)/\n=s+3
theorem R8{ws:List Str}{s:Nat}{z:Str}(h:ws[s]? =some z):kY ws s (s+1)=z:=by
 unfold kY
 have e:(ws.drop s).take (s+1-s)=[z]:=by
  rw[show s+1-s=1 by omega,T4 h]
  rfl
 rw[e]
 exact join_one _ z
def YH(K:W.Frag)(mg:Str->Option Value):Sp:=λvs H Q _=>∃(b:Addr) (cs:List bW) (a:Addr) (ws:List Str) (s n:Nat) (k:Int) (sv:PN),vs=[.ref b,.ref a,.int s,.int k]/\gD H b cs/\bf K H a (ws.map V.str)/\ws.length≤4000/\(∀z∈ws,z.length≤1000)/\s<60/\uZ cs ws s sv n/\
 ∀p H',aq H H'->Io mg H' p sv (kY ws s n) n->Q (.ref p) H'
theorem CQ(T:Txt K mg):Def P w K mg base true 8 "read_part" ["columns","words","start","within"] (YH K mg):=by
 refine tR T (λvs H Q E h=>by obtain⟨b,cs,a,ws,s,n,k,sv,rfl,_⟩:=h;rfl) (λf cdv A outer s H vs Q E hr h=>?_)
 obtain⟨b,cs,a,ws,s0,n,k,sv,rfl,hC,hS,hl,hz,za,hrd,q⟩:=h
 have nd:=lF.nd
 have hsz:sizeLine=16777216:=sizeLine_eq
 have g1:=T.Dj
 have g2:=T.aa5
 have g3:=T.abh
 have g4:=T.Df
 have g5:=T.Kr
 have g6:=T.Xv
 have D1:Def P w K mg base true 3 "word_at" ["words","place"] (oG K mg):=jd T
 have D2:Def P w K mg base true 5 "read_none" ["columns","words","start"] (Pa K mg):=oN T
 have D3:Def P w K mg base true 7 "read_of_value" ["columns","words","start"] (Ub K mg):=iw T
 have M:yq P w K mg base true 1 "AllSieve" (aj mg "AllSieve") ["self","text"] (Bg K):=gH.make T.K5 T.HN
 have hw:∃z,ws[s0]? =some z:=by
  cases sv with
  |all=>exact⟨_,hrd.1⟩
  |none i=>exact⟨_,hrd.1⟩
  |look l i v=>exact⟨_,hrd.2.2.1⟩
 obtain⟨z0,hw⟩:=hw
 have hlt:=(List.getElem?_eq_some_iff.mp hw).1
 refine ak ?_
 walk_at "go"
 refine⟨a,ws,s0,rfl,hS,hl,by omega,λhb=>absurd ⟨hlt,za⟩ hb,λz' hz' _=>?_⟩
 rw[hw]at hz'
 cases hz'
 refine ak ?_
 walk_at "go"
 cases sv with
 |all=>
  obtain⟨h1,rfl⟩:=hrd
  rw[hw]at h1
  cases h1
  refine fY (λ_=>?_) (λh=>absurd rfl h)
  walk_at "go"
  refine iW M hr (by decide) (λ_=>rfl) b8 (by rfl) (by decide) (by rfl) (by rfl) ?_
  walk_at "go"
  intro y dx hy hdx hne
  refine⟨y,_,dx,[],_,rfl,ao,T.qO,T.lu,by simp,rfl,?_⟩
  walk_at "go"
  refine⟨by show 2≤sizeLine;omega,λp hp=>?_⟩
  generalize hG:upd (upd (upd H dx (.own y)) y (.ins (aj mg "AllSieve") dx [])) y _=G at hp⊢
  have Fy:aq H G:=λc o e=>by
   rw[<-hG,aB (au e hy),aB (au e hy),aB (au e hdx)]
   exact e
  have ey:G y=some (.ins (aj mg "AllSieve") dx [("text",.str "all")]):=by
   rw[<-hG]
   exact ao
  have qM:aq G (upd G p (.tup [.ref y,.int (s0+1)])):=aq.upd hp
  refine q p _ (Fy.trans qM) ⟨y,ao,dx,?_⟩
  rw[R8 hw]
  exact qM _ _ ey
 |none i=>
  obtain⟨h1,h2,h3,rfl⟩:=hrd
  rw[hw]at h1
  cases h1
  refine fY (λh=>absurd h (by decide+kernel)) (λ_=>?_)
  refine aN ?_
  refine ak ?_
  walk_at "go"
  refine fY (λ_=>?_) (λh=>absurd rfl h)
  walk_at "go"
  exact⟨b,cs,a,ws,s0,i,rfl,hC,hS,hl,hz,h2,h3,λp H' sm hp=>q p H' sm hp⟩
 |look l i v=>
  obtain⟨h1,h2,h3,h4,⟨c,z,h5,h6,h7,h8⟩,h9,rfl⟩:=hrd
  rw[hw]at h3
  cases h3
  have e1:¬V.str (pN l)=V.str (Str.ofString "all"):=by cases l<;>decide+kernel
  have e2:¬V.str (pN l)=V.str (Str.ofString "none"):=by cases l<;>decide+kernel
  have e3:QH (V.str (pN l)) [V.str (Str.ofString "is"),V.str (Str.ofString "under"),V.str (Str.ofString "over"),V.str (Str.ofString "holds")]=true:=by cases l<;>decide+kernel
  refine fY (λh=>absurd h e1) (λ_=>?_)
  refine aN ?_
  refine ak ?_
  walk_at "go"
  refine fY (λh=>absurd h e2) (λ_=>?_)
  refine aN ?_
  refine ak ?_
  walk_at "go"
  refine⟨by show 4≤sizeLine;omega,λtp htp=>?_⟩
  refine UG (fK.of ao) (by rfl) (by rfl) ?_
  rw[e3]
  have Ey:aq H (upd H tp (.tup [.str "is",.str "under",.str "over",.str "holds"])):=aq.upd htp
  generalize upd H tp (.tup [.str "is",.str "under",.str "over",.str "holds"])=H2 at Ey⊢
  walk_at "go"
  exact⟨l,b,cs,a,ws,s0,i,c,z,v,rfl,hC.same Ey,Ey.seq hS,hl,hz,h1,h2,hw,h4,h5,h6,h7,h8,h9,λp H' sm hp=>q p H' (Ey.trans sm) hp⟩
theorem cH(T:Txt K mg):Def P w K mg base true 1 "_law_draw" ["_law_script","_law_k","_law_many"] (lX K):=by
 refine Ej T (λvs H Q E h=>by obtain⟨a,ns,k,m,rfl,_⟩:=h;rfl) (λf cdv A outer s H vs Q E hr h=>?_)
 obtain⟨a,ns,k,m,rfl,hS,hl,hk0,hk1,hm,q⟩:=h
 have n1:=T.jQ
 have nd:=sS.nd
 have zM:(ns.map V.int).length=ns.length:=List.length_map ..
 refine ak ?_
 walk_at "go"
 rw[zM]
 have fin:∀c:Int,c=Nh ns k->Q (.int ((c % 1000003+31*k*k+1)*48271 % 999983*7919 % 524287 % m)) H:=λc e=>by rw[e];exact q
 refine fY (λh=>?_) (λh=>?_)
 .walk_at "go"
  rw[zM]
  walk_at "go"
  refine bw hS (Ow 0 (Int.emod_nonneg _ (by omega)) (Int.emod_lt_of_pos _ (by omega))) ?_
  walk_at "go"
  exact fin _ (by unfold Nh;rw[if_pos (by omega)])
 .walk_at "go"
  exact fin _ (by unfold Nh;rw[if_neg (by omega)])
def wrt(x:V):Prop:=scalar x=true/\short x/\∀i,x= .int i->i.natAbs<10^60
theorem qK(T:Txt K mg):Def P w K mg base true 1 "check_of" ["text"] Oh:=by
 refine GX T (λvs H Q E h=>by obtain⟨z,rfl,_⟩:=h;rfl) (λf cdv A outer s H vs Q E hr h=>?_)
 obtain⟨z,rfl,hz,hc,q⟩:=h
 have g1:=T.aer
 have g2:=T.QF
 have n1:=T.abb
 have nd:=wz.nd
 refine ak ?_
 walk_at "go"
 refine aak (by walk_at "po") (by rfl) (by intro _;rfl) ?_
 walk_at "e"
 refine⟨z,rfl,λi σ H'=>H'=H/\∃t p o,σ=[some (.str z),some (.int t),some (.int p),o]/\0≤t/\t<9973/\0≤p/\p<9973/\(t+p*aP (z.cps.toList.drop i)) % 9973=aP z.cps.toList,⟨rfl,0,1,none,rfl,by decide,by decide,by decide,by decide,?_⟩,λi c σ H' hi hP=>?_,λσ H' hP=>?_⟩
 .have :=cA z.cps.toList
  rw[List.drop_zero,Int.zero_add,Int.one_mul]
  exact Int.emod_eq_of_lt this.1 this.2
 .obtain⟨rfl,t,p,o,rfl,t0,t1,p0,p1,e⟩:=hP
  have hcb:=hc c (List.mem_of_getElem? hi)
  have hd:z.cps.toList.drop i=c::z.cps.toList.drop (i+1):=by
   obtain⟨h1,h2⟩:=List.getElem?_eq_some_iff.mp hi
   rw[List.drop_eq_getElem_cons h1,h2]
  rw[hd]at e
  refine aM nd (by rfl) (.inl rfl) (.inl rfl) ?_
  refine ak ?_
  walk_at "go"
  exact⟨rfl,_,_,_,rfl,Int.emod_nonneg _ (by decide),Int.emod_lt_of_pos _ (by decide),Int.emod_nonneg _ (by decide),Int.emod_lt_of_pos _ (by decide),JB e⟩
 .obtain⟨rfl,t,p,o,rfl,t0,t1,p0,p1,e⟩:=hP
  rw[List.drop_length]at e
  have e2:t=aP z.cps.toList:=by
   rw[<-e]
   show t=(t+p*0) % 9973
   rw[Int.mul_zero,Int.add_zero,Int.emod_eq_of_lt t0 t1]
  walk_at "go"
  rw[e2]
  exact q
theorem iK(T:Txt K mg):Def P w K mg base true 2 "check_word" ["text"] xR:=by
 refine zW T (λvs H Q E h=>by obtain⟨z,rfl,_⟩:=h;rfl) (λf cdv A outer s H vs Q E hr h=>?_)
 obtain⟨z,rfl,hz,hc,q⟩:=h
 have g1:=T.qw
 have n1:=T.Ax
 have D1:Def P w K mg base true 1 "check_of" ["text"] Oh:=qK T
 refine aF (bz ?_)
 refine ju F.plainAttrs_str F.slot_str_zfill F.type_str_zfill (by rfl) (by rfl) (by rfl) (by rfl) (by rfl) ?_
 walk_at "go"
 refine⟨z,rfl,hz,hc,?_⟩
 have hb:=cA z.cps.toList
 walk_at "go"
 refine vy (qm ?_) ?_
 .have :(aP z.cps.toList).natAbs<9973:=by omega
  exact Nat.lt_of_lt_of_le this (by decide+kernel)
 .walk_at "go"
  refine ZW (by decide) (by decide) ?_
  exact q
def aaR(K:W.Frag):Sp:=λvs H Q _=>∃(a C dx:Addr) (fs:List (Str×V)) (z:Str) (p:V),vs=[.ref a,.str z,p]/\H a=some (.ins C dx fs)/\oY K C/\aU K C "text"/\aU K C "one"/\fs.length<800/\
 Q .non (upd (upd H a (.ins C dx (fU "text" (.str z) fs))) a (.ins C dx (fU "one" p (fU "text" (.str z) fs))))
theorem wO(T:Txt K mg){cc:Bool}:FD P w K mg base cc 2 "__init__" "NotSieve.__init__" aX ["self","text","one"] (aaR K):=by
 refine oR (λvs H Q E h=>by obtain⟨a,C,dx,fs,z,p,rfl,_⟩:=h;rfl) (λf cdv A outer s H vs Q E hr h=>?_)
 obtain⟨a,C,dx,fs,z,p,rfl,ha,hc,hn,hn2,hl,q⟩:=h
 have B:PB P w K mg base cc 1 "Sieve" "__init__" ["self","text"] (Bg K):=gH.asked T.xm T.d8
 have hz:=dC "text" (V.str z) fs
 refine ak (gB (by rfl) ?_)
 refine sr (pl:=_) B hr (by decide) id b8 (by rfl) (by decide) (by rfl) (by rfl) (by rfl) ?_
 walk_at "go"
 refine⟨a,C,dx,fs,z,rfl,ha,hc,hn,by omega,?_⟩
 refine aF (lY (by rfl) ?_)
 walk_at "e"
 walk_at "e"
 exact⟨a,C,dx,_,rfl,ao,hc,hn2,by omega,q⟩
def Xj(K:W.Frag):Sp:=λvs H Q _=>∃(a C dx:Addr) (fs:List (Str×V)) (z:Str) (p v:V),vs=[.ref a,.str z,p,v]/\H a=some (.ins C dx fs)/\oY K C/\aU K C "text"/\aU K C "one"/\aU K C "other"/\fs.length<800/\
 ∀H',H' a=some (.ins C dx (fU "other" v (fU "one" p (fU "text" (.str z) fs))))->(∀b o,b≠a->H b=some o->H' b=some o)->Q .non H'
theorem j9(T:Txt K mg){cc:Bool}:FD P w K mg base cc 2 "__init__" "PairSieve.__init__" aL ["self","text","one","other"] (Xj K):=by
 refine mW (λvs H Q E h=>by obtain⟨a,C,dx,fs,z,p,v,rfl,_⟩:=h;rfl) (λf cdv A outer s H vs Q E hr h=>?_)
 obtain⟨a,C,dx,fs,z,p,v,rfl,ha,hc,hn,hn2,hn3,hl,q⟩:=h
 have B:PB P w K mg base cc 1 "Sieve" "__init__" ["self","text"] (Bg K):=gH.asked T.xm T.d8
 have hz:=dC "text" (V.str z) fs
 have hz2:=dC "one" p (fU "text" (V.str z) fs)
 refine ak (gB (by rfl) ?_)
 refine sr (pl:=_) B hr (by decide) id b8 (by rfl) (by decide) (by rfl) (by rfl) (by rfl) ?_
 walk_at "go"
 refine⟨a,C,dx,fs,z,rfl,ha,hc,hn,by omega,?_⟩
 refine ak (lY (by rfl) ?_)
 walk_at "e"
 walk_at "e"
 refine⟨a,C,dx,_,rfl,ao,hc,hn2,by omega,?_⟩
 refine aF (lY (by rfl) ?_)
 walk_at "e"
 walk_at "e"
 refine⟨a,C,dx,_,rfl,ao,hc,hn3,by omega,q _ ao λb o hb e=>?_⟩
 rw[aB hb,aB hb,aB hb]
 exact e
inductive Tr
 |one (s:PN)
 |nt (t:Tr)
 |bo (t u:Tr)
 |ei (t u:Tr)
def Tr.dep:Tr->Nat
 | .one _=>0
 | .nt t=>t.dep+1
 | .bo t u=>max t.dep u.dep+1
 | .ei t u=>max t.dep u.dep+1
def Reads(cs:List bW)(ws:List Str):Tr->Nat->Nat->Prop
 | .one sv,s,e=>s<60/\uZ cs ws s sv e
 | .nt t,s,e=>s<60/\ws[s]? =some "not"/\Reads cs ws t (s+1) e
 | .bo t u,s,e=>s<60/\ws[s]? =some "both"/\∃m,Reads cs ws t (s+1) m/\Reads cs ws u m e
 | .ei t u,s,e=>s<60/\ws[s]? =some "either"/\∃m,Reads cs ws t (s+1) m/\Reads cs ws u m e
theorem uZ.le{cs:List bW}{ws:List Str}{s e:Nat}:∀{sv:PN},uZ cs ws s sv e->s<e/\e≤ws.length
 | .all,h=>by
   obtain⟨h1,rfl⟩:=h
   have :=(List.getElem?_eq_some_iff.mp h1).1
   omega
 | .none i,h=>by
   obtain⟨_,h2,_,rfl⟩:=h
   omega
 | .look l i v,h=>by
   obtain⟨h1,_,_,_,_,_,rfl⟩:=h
   omega
theorem Reads.le{cs:List bW}{ws:List Str}:∀{t:Tr} {s e:Nat},Reads cs ws t s e->s<e/\e≤ws.length
 | .one sv,s,e,h=>uZ.le h.2
 | .nt t,s,e,h=>by have :=Reads.le (t:=t) h.2.2;omega
 | .bo t u,s,e,h=>by
   obtain⟨_,_,m,h1,h2⟩:=h
   have :=Reads.le (t:=t) h1
   have :=Reads.le (t:=u) h2
   omega
 | .ei t u,s,e,h=>by
   obtain⟨_,_,m,h1,h2⟩:=h
   have :=Reads.le (t:=t) h1
   have :=Reads.le (t:=u) h2
   omega
def mZ(mg:Str->Option Value)(H:Hp):Tr->Addr->Str->Prop
 | .one s,a,z=>Bs mg H a s z
 | .nt t,a,z=>∃dx b y,H a=some (.ins (aj mg "NotSieve") dx [("text",.str z),("one",.ref b)])/\mZ mg H t b y
 | .bo t u,a,z=>∃dx b c y x,H a=some (.ins (aj mg "BothSieve") dx [("text",.str z),("one",.ref b),("other",.ref c)])/\mZ mg H t b y/\mZ mg H u c x
 | .ei t u,a,z=>∃dx b c y x,H a=some (.ins (aj mg "EitherSieve") dx [("text",.str z),("one",.ref b),("other",.ref c)])/\mZ mg H t b y/\mZ mg H u c x
theorem mZ.same{mg:Str->Option Value}{H H':Hp}(e:aq H H'):∀{t:Tr} {a:Addr} {z:Str},mZ mg H t a z->mZ mg H' t a z
 | .one s,a,z,h=>Bs.same h e
 | .nt t,a,z,h=>by
   obtain⟨dx,b,y,h1,h2⟩:=h
   exact⟨dx,b,y,e _ _ h1,mZ.same e h2⟩
 | .bo t u,a,z,h=>by
   obtain⟨dx,b,c,y,x,h1,h2,h3⟩:=h
   exact⟨dx,b,c,y,x,e _ _ h1,mZ.same e h2,mZ.same e h3⟩
 | .ei t u,a,z,h=>by
   obtain⟨dx,b,c,y,x,h1,h2,h3⟩:=h
   exact⟨dx,b,c,y,x,e _ _ h1,mZ.same e h2,mZ.same e h3⟩
theorem aae{k:Nat}{x:Str}{ps:List Str}{sp sp':Sp}(F:Def P w K mg base true k x ps sp)(h:∀vs H Q E,sp' vs H Q E->sp vs H Q E):Def P w K mg base true k x ps sp':=by
 obtain⟨f,fd,h1,h2,h3,h4⟩:=F.ex
 exact⟨f,fd,h1,h2,h3,⟨λvs H Q E z=>h4.len vs H Q E (h vs H Q E z),λA outer s H args us vs Q E hr e0 bt r z=>h4.run A outer s H args us vs Q E hr e0 bt r (h vs H Q E z)⟩⟩
def iU(K:W.Frag)(mg:Str->Option Value)(t:Tr):Sp:=λvs H Q _=>∃(b:Addr) (cs:List bW) (a:Addr) (ws:List Str) (s e:Nat) (k:Int),vs=[.ref b,.ref a,.int s,.int k]/\gD H b cs/\bf K H a (ws.map V.str)/\ws.length≤4000/\(∀z∈ws,z.length≤1000)/\0≤k/\k+t.dep≤20/\Reads cs ws t s e/\
 ∀p v H',aq H H'->H' p=some (.tup [.ref v,.int e])->mZ mg H' t v (kY ws s e)->Q (.ref p) H'
def aai(K:W.Frag)(mg:Str->Option Value)(t:Tr):Sp:=λvs H Q _=>∃(b:Addr) (cs:List bW) (a:Addr) (ws:List Str) (s e:Nat) (k:Int),vs=[.ref b,.ref a,.int s,.int k]/\gD H b cs/\bf K H a (ws.map V.str)/\ws.length≤4000/\(∀z∈ws,z.length≤1000)/\1≤k/\k+t.dep≤21/\k≤20/\Reads cs ws t s e/\
 ∀p v H',aq H H'->H' p=some (.tup [.ref v,.int e])->mZ mg H' t v (kY ws s e)->Q (.ref p) H'
theorem ah9(T:Txt K mg)(sv:PN):Def P w K mg base true 8 "read_part" ["columns","words","start","within"] (iU K mg (.one sv)):=aae (CQ T) λvs H Q E h=>by
 obtain⟨b,cs,a,ws,s,e,k,rfl,hC,hS,hl,hz,hk0,hk,hr,q⟩:=h
 refine⟨b,cs,a,ws,s,e,k,sv,rfl,hC,hS,hl,hz,hr.1,hr.2,λp H' sm hp=>?_⟩
 obtain⟨v,h1,h2⟩:=hp
 exact q p v H' sm h1 h2
def Sx:Tr->Option Str
 | .one _=>none
 | .nt _=>some "not"
 | .bo _ _=>some "both"
 | .ei _ _=>some "either"
theorem Yt{cs:List bW}{ws:List Str}{t:Tr}{s e:Nat}{z:Str}(h:Reads cs ws t s e)(hw:Sx t=some z):s<60/\ws[s]? =some z:=by
 cases t with
 |one _=>cases hw
 |nt t=>cases hw;exact⟨h.1,h.2.1⟩
 |bo t u=>cases hw;exact⟨h.1,h.2.1⟩
 |ei t u=>cases hw;exact⟨h.1,h.2.1⟩
theorem xn{t:Tr}{z:Str}(hw:Sx t=some z):z="not"\/z="both"\/z="either":=by
 cases t with
 |one _=>cases hw
 |nt t=>cases hw;exact .inl rfl
 |bo t u=>cases hw;exact .inr (.inl rfl)
 |ei t u=>cases hw;exact .inr (.inr rfl)
theorem adt(T:Txt K mg){t:Tr}{z:Str}{lv:Nat}(hw:Sx t=some z)(h3:3≤lv)(D:Def P w K mg base true lv "read_of_sieves" ["columns","words","start","within"] (aai K mg t)):Def P w K mg base true (lv+1) "read_part" ["columns","words","start","within"] (iU K mg t):=by
 refine tR T (λvs H Q E h=>by obtain⟨b,cs,a,ws,s,e,k,rfl,_⟩:=h;rfl) (λf cdv A outer s H vs Q E hr h=>?_)
 obtain⟨b,cs,a,ws,s0,e,k,rfl,hC,hS,hl,hz,hk0,hk,hrd,q⟩:=h
 have nd:=lF.nd
 have hsz:sizeLine=16777216:=sizeLine_eq
 have g1:=T.Dj
 have g2:=T.aa5
 have g3:=T.abh
 have g4:=T.Df
 have g5:=T.Kr
 have g6:=T.Xv
 have g7:=T.Ng
 have g8:=T.DQ
 have g9:=T.W4
 have D1:Def P w K mg base true 3 "word_at" ["words","place"] (oG K mg):=jd T
 obtain⟨za,hws⟩:=Yt hrd hw
 have hlt:=(List.getElem?_eq_some_iff.mp hws).1
 have aAF:1≤t.dep:=by
  cases t with
  |one _=>cases hw
  |nt t=>show 1≤t.dep+1;omega
  |bo t u=>show 1≤max t.dep u.dep+1;omega
  |ei t u=>show 1≤max t.dep u.dep+1;omega
 have e1:¬V.str z=V.str (Str.ofString "all"):=by rcases xn hw with rfl |rfl |rfl<;>decide+kernel
 have e2:¬V.str z=V.str (Str.ofString "none"):=by rcases xn hw with rfl |rfl |rfl<;>decide+kernel
 have e3:QH (V.str z) [V.str (Str.ofString "is"),V.str (Str.ofString "under"),V.str (Str.ofString "over"),V.str (Str.ofString "holds")]=false:=by rcases xn hw with rfl |rfl |rfl<;>decide+kernel
 have e4:QH (V.str z) [V.str (Str.ofString "not"),V.str (Str.ofString "both"),V.str (Str.ofString "either")]=true:=by rcases xn hw with rfl |rfl |rfl<;>decide+kernel
 walk_at "A"
 refine⟨a,ws,s0,rfl,hS,hl,by omega,λhb=>absurd ⟨hlt,za⟩ hb,λz' hz' _=>?_⟩
 rw[hws]at hz'
 cases hz'
 refine ak (cB ?_)
 walk_at "ex"
 refine fY (λh=>absurd h e1) (λ_=>?_)
 refine aN (ak (cB ?_))
 walk_at "ex"
 refine fY (λh=>absurd h e2) (λ_=>?_)
 refine aN (ak (cB ?_))
 walk_at "ex"
 refine⟨by show 4≤sizeLine;omega,λtp htp=>?_⟩
 refine UG (fK.of ao) (by rfl) (by rfl) ?_
 rw[e3]
 have Ey:aq H (upd H tp (.tup [.str "is",.str "under",.str "over",.str "holds"])):=aq.upd htp
 generalize upd H tp (.tup [.str "is",.str "under",.str "over",.str "holds"])=H2 at Ey⊢
 walk_at "ex"
 refine aN (ak (cB ?_))
 walk_at "ex"
 refine⟨by show 3≤sizeLine;omega,λtq htq=>?_⟩
 refine UG (fK.of ao) (by rfl) (by rfl) ?_
 rw[e4]
 have smq:aq H2 (upd H2 tq (.tup [.str "not",.str "both",.str "either"])):=aq.upd htq
 generalize upd H2 tq (.tup [.str "not",.str "both",.str "either"])=H3 at smq⊢
 walk_at "ex"
 have sm3:=Ey.trans smq
 refine aF (bz ?_)
 walk_at "ex"
 exact⟨b,cs,a,ws,s0,e,k+1,rfl,hC.same sm3,sm3.seq hS,hl,hz,by omega,by omega,by omega,hrd,λp v H' sm hp hv=>q p v H' (sm3.trans sm) hp hv⟩
theorem ajE(T:Txt K mg){t:Tr}{lv l1:Nat}(D1:Def P w K mg base true l1 "read_part" ["columns","words","start","within"] (iU K mg t))(h1:l1≤lv)(h3:3≤lv):Def P w K mg base true (lv+1) "read_of_sieves" ["columns","words","start","within"] (aai K mg (.nt t)):=by
 refine gG T (λvs H Q E h=>by obtain⟨b,cs,a,ws,s,e,k,rfl,_⟩:=h;rfl) (λf cdv A outer s H vs Q E hr h=>?_)
 obtain⟨b,cs,a,ws,s0,e,k,rfl,hC,hS,hl,hz,hk0,hk,aj7,hrd,q⟩:=h
 have nd:=dY.nd
 have hsz:sizeLine=16777216:=sizeLine_eq
 have g1:=T.jT
 have g2:=T.Ng
 have g3:=T.DQ
 have DB:Def P w K mg base true 1 "text_between" ["words","start","behind"] (uO K):=cM T
 have hle:=hrd.le
 have hd:k+(t.dep+1:Nat)≤21:=hk
 obtain⟨za,hws,hrt⟩:=hrd
 have aij:=hrt.le
 have sw:bf K H a (ws.map V.str):=hS
 have e1:(s0:Int)+1=((s0+1:Nat):Int):=by omega
 refine ak (cB ?_)
 walk_at "ex"
 refine fY (λh=>absurd h (by omega)) (λ_=>?_)
 refine aN (ak ?_)
 walk_at "s"
 walk_at "ex"
 refine bw sw (v:=.str (Str.ofString "not")) (bD (by rw[List.getElem?_map,hws];rfl)) ?_
 refine ak (gW (by rfl) (by rfl) ?_)
 walk_at "ex"
 rw[e1]
 refine⟨b,cs,a,ws,s0+1,_,k,rfl,hC,hS,hl,hz,by omega,by omega,hrt,λp1 v1 H1 iu hp1 hv1=>?_⟩
 refine fW (by rfl) (by rfl) (by rfl) (fK.of hp1) (by rfl) (aO (by rfl) (aM nd (by rfl) (.inl rfl) (.inl rfl) (aO (by rfl) (aM nd (by rfl) (.inl rfl) (.inl rfl) (dm ?_)))))
 refine ak (cB ?_)
 walk_at "ex"
 refine fY (λ_=>?_) (λh=>absurd rfl h)
 refine aF (bz ?_)
 have M:yq P w K mg base true 2 "NotSieve" (aj mg "NotSieve") ["self","text","one"] (aaR K):=(wO T).make T.K4 T.Hn
 walk_at "ex"
 refine iW M hr (by omega) (λ_=>rfl) b8 (by rfl) (by decide) (by rfl) (by rfl) ?_
 walk_at "ex"
 refine⟨a,ws,s0,e,rfl,iu.seq hS,hl,hz,by omega,by omega,λH2 gw=>?_⟩
 walk_at "ex"
 intro y dx hy hdx hne
 refine⟨y,_,dx,[],_,_,rfl,ao,T.rJ,T.kI,T.wW,by simp,rfl,?_⟩
 walk_at "ex"
 refine⟨by show 2≤sizeLine;omega,λp hp=>?_⟩
 generalize hG:upd (upd (upd (upd H2 dx (.own y)) y (.ins (aj mg "NotSieve") dx [])) y _) y _=G at hp⊢
 have Fy:aq H2 G:=λc o e=>by
  rw[<-hG,aB (au e hy),aB (au e hy),aB (au e hy),aB (au e hdx)]
  exact e
 have ey:G y=some (.ins (aj mg "NotSieve") dx [("text",.str (kY ws s0 e)),("one",.ref v1)]):=by
  rw[<-hG]
  exact ao
 have qM:aq G (upd G p (.tup [.ref y,.int e])):=aq.upd hp
 exact q p y _ (((iu.trans gw).trans Fy).trans qM) ao ⟨dx,v1,_,qM _ _ ey,((hv1.same gw).same Fy).same qM⟩
theorem ajI(T:Txt K mg){t u:Tr}{lv l1 l2:Nat}(D1:Def P w K mg base true l1 "read_part" ["columns","words","start","within"] (iU K mg t))(h1:l1≤lv)(D2:True->Def P w K mg base true l2 "read_part" ["columns","words","start","within"] (iU K mg u))(h2:l2≤lv)(h3:3≤lv):Def P w K mg base true (lv+1) "read_of_sieves" ["columns","words","start","within"] (aai K mg (.bo t u)):=by
 refine gG T (λvs H Q E h=>by obtain⟨b,cs,a,ws,s,e,k,rfl,_⟩:=h;rfl) (λf cdv A outer s H vs Q E hr h=>?_)
 obtain⟨b,cs,a,ws,s0,e,k,rfl,hC,hS,hl,hz,hk0,hk,aj7,hrd,q⟩:=h
 have nd:=dY.nd
 have hsz:sizeLine=16777216:=sizeLine_eq
 have g1:=T.jT
 have g2:=T.Ng
 have g3:=T.DQ
 have DB:Def P w K mg base true 1 "text_between" ["words","start","behind"] (uO K):=cM T
 have hle:=hrd.le
 have hd:k+(max t.dep u.dep+1:Nat)≤21:=hk
 obtain⟨za,hws,m,hrt,hru⟩:=hrd
 have anV:=hru.le
 have aij:=hrt.le
 have sw:bf K H a (ws.map V.str):=hS
 have e1:(s0:Int)+1=((s0+1:Nat):Int):=by omega
 refine ak (cB ?_)
 walk_at "ex"
 refine fY (λh=>absurd h (by omega)) (λ_=>?_)
 refine aN (ak ?_)
 walk_at "s"
 walk_at "ex"
 refine bw sw (v:=.str (Str.ofString "both")) (bD (by rw[List.getElem?_map,hws];rfl)) ?_
 refine ak (gW (by rfl) (by rfl) ?_)
 walk_at "ex"
 rw[e1]
 refine⟨b,cs,a,ws,s0+1,_,k,rfl,hC,hS,hl,hz,by omega,by omega,hrt,λp1 v1 H1 iu hp1 hv1=>?_⟩
 refine fW (by rfl) (by rfl) (by rfl) (fK.of hp1) (by rfl) (aO (by rfl) (aM nd (by rfl) (.inl rfl) (.inl rfl) (aO (by rfl) (aM nd (by rfl) (.inl rfl) (.inl rfl) (dm ?_)))))
 refine ak (cB ?_)
 walk_at "ex"
 refine fY (λh=>absurd h (by decide+kernel)) (λ_=>?_)
 clear D1
 have D2:=D2 trivial
 refine aN (ak (gW (by rfl) (by rfl) ?_))
 walk_at "ex"
 refine⟨b,cs,a,ws,m,e,k,rfl,hC.same iu,iu.seq hS,hl,hz,by omega,by omega,hru,λp2 v2 H2 gw hp2 hv2=>?_⟩
 refine fW (by rfl) (by rfl) (by rfl) (fK.of hp2) (by rfl) (aO (by rfl) (aM nd (by rfl) (.inl rfl) (.inl rfl) (aO (by rfl) (aM nd (by rfl) (.inl rfl) (.inl rfl) (dm ?_)))))
 have Ei:=iu.trans gw
 walk_at "A"
 refine⟨a,ws,s0,e,rfl,Ei.seq hS,hl,hz,by omega,by omega,λH3 sm3=>?_⟩
 have M:yq P w K mg base true 2 "BothSieve" (aj mg "BothSieve") ["self","text","one","other"] (Xj K):=(j9 T).make T.G8 T.DY
 refine ak (cB ?_)
 walk_at "ex"
 refine fY (λ_=>?_) (λh=>absurd rfl h)
 refine aF (bz ?_)
 walk_at "ex"
 refine iW M hr (by omega) (λ_=>rfl) b8 (by rfl) (by decide) (by rfl) (by rfl) ?_
 walk_at "ex"
 intro y dx hy hdx hne
 refine⟨y,_,dx,[],_,_,_,rfl,ao,T.nu,T.jK,T.vL,T.qJ,by simp,λG ey keep=>⟨rfl,?_⟩⟩
 walk_at "ex"
 refine⟨by show 2≤sizeLine;omega,λp hp=>?_⟩
 have Fy:aq H3 G:=λc o e=>keep _ _ (au e hy) (by rw[aB (au e hy),aB (au e hdx)];exact e)
 have ey:G y=some (.ins (aj mg "BothSieve") dx [("text",.str (kY ws s0 e)),("one",.ref v1),("other",.ref v2)]):=ey
 have qM:aq G (upd G p (.tup [.ref y,.int e])):=aq.upd hp
 have smx:=(sm3.trans Fy).trans qM
 exact q p y _ (Ei.trans smx) ao ⟨dx,v1,v2,_,_,qM _ _ ey,(hv1.same gw).same smx,hv2.same smx⟩
theorem ajq(T:Txt K mg){t u:Tr}{lv l1 l2:Nat}(D1:Def P w K mg base true l1 "read_part" ["columns","words","start","within"] (iU K mg t))(h1:l1≤lv)(D2:True->Def P w K mg base true l2 "read_part" ["columns","words","start","within"] (iU K mg u))(h2:l2≤lv)(h3:3≤lv):Def P w K mg base true (lv+1) "read_of_sieves" ["columns","words","start","within"] (aai K mg (.ei t u)):=by
 refine gG T (λvs H Q E h=>by obtain⟨b,cs,a,ws,s,e,k,rfl,_⟩:=h;rfl) (λf cdv A outer s H vs Q E hr h=>?_)
 obtain⟨b,cs,a,ws,s0,e,k,rfl,hC,hS,hl,hz,hk0,hk,aj7,hrd,q⟩:=h
 have nd:=dY.nd
 have hsz:sizeLine=16777216:=sizeLine_eq
 have g1:=T.jT
 have g2:=T.Ng
 have g3:=T.DQ
 have DB:Def P w K mg base true 1 "text_between" ["words","start","behind"] (uO K):=cM T
 have hle:=hrd.le
 have hd:k+(max t.dep u.dep+1:Nat)≤21:=hk
 obtain⟨za,hws,m,hrt,hru⟩:=hrd
 have anV:=hru.le
 have aij:=hrt.le
 have sw:bf K H a (ws.map V.str):=hS
 have e1:(s0:Int)+1=((s0+1:Nat):Int):=by omega
 refine ak (cB ?_)
 walk_at "ex"
 refine fY (λh=>absurd h (by omega)) (λ_=>?_)
 refine aN (ak ?_)
 walk_at "s"
 walk_at "ex"
 refine bw sw (v:=.str (Str.ofString "either")) (bD (by rw[List.getElem?_map,hws];rfl)) ?_
 refine ak (gW (by rfl) (by rfl) ?_)
 walk_at "ex"
 rw[e1]
 refine⟨b,cs,a,ws,s0+1,_,k,rfl,hC,hS,hl,hz,by omega,by omega,hrt,λp1 v1 H1 iu hp1 hv1=>?_⟩
 refine fW (by rfl) (by rfl) (by rfl) (fK.of hp1) (by rfl) (aO (by rfl) (aM nd (by rfl) (.inl rfl) (.inl rfl) (aO (by rfl) (aM nd (by rfl) (.inl rfl) (.inl rfl) (dm ?_)))))
 refine ak (cB ?_)
 walk_at "ex"
 refine fY (λh=>absurd h (by decide+kernel)) (λ_=>?_)
 clear D1
 have D2:=D2 trivial
 refine aN (ak (gW (by rfl) (by rfl) ?_))
 walk_at "ex"
 refine⟨b,cs,a,ws,m,e,k,rfl,hC.same iu,iu.seq hS,hl,hz,by omega,by omega,hru,λp2 v2 H2 gw hp2 hv2=>?_⟩
 refine fW (by rfl) (by rfl) (by rfl) (fK.of hp2) (by rfl) (aO (by rfl) (aM nd (by rfl) (.inl rfl) (.inl rfl) (aO (by rfl) (aM nd (by rfl) (.inl rfl) (.inl rfl) (dm ?_)))))
 have Ei:=iu.trans gw
 walk_at "A"
 refine⟨a,ws,s0,e,rfl,Ei.seq hS,hl,hz,by omega,by omega,λH3 sm3=>?_⟩
 have M:yq P w K mg base true 2 "EitherSieve" (aj mg "EitherSieve") ["self","text","one","other"] (Xj K):=(j9 T).make T.zu T.xV
 refine ak (cB ?_)
 walk_at "ex"
 refine fY (λh=>absurd h (by decide+kernel)) (λ_=>?_)
 refine aN (aF (bz ?_))
 walk_at "ex"
 refine iW M hr (by omega) (λ_=>rfl) b8 (by rfl) (by decide) (by rfl) (by rfl) ?_
 walk_at "ex"
 intro y dx hy hdx hne
 refine⟨y,_,dx,[],_,_,_,rfl,ao,T.jR,T.iI,T.qp,T.m5,by simp,λG ey keep=>⟨rfl,?_⟩⟩
 walk_at "ex"
 refine⟨by show 2≤sizeLine;omega,λp hp=>?_⟩
 have Fy:aq H3 G:=λc o e=>keep _ _ (au e hy) (by rw[aB (au e hy),aB (au e hdx)];exact e)
 have ey:G y=some (.ins (aj mg "EitherSieve") dx [("text",.str (kY ws s0 e)),("one",.ref v1),("other",.ref v2)]):=ey
 have qM:aq G (upd G p (.tup [.ref y,.int e])):=aq.upd hp
 have smx:=(sm3.trans Fy).trans qM
 exact q p y _ (Ei.trans smx) ao ⟨dx,v1,v2,_,_,qM _ _ ey,(hv1.same gw).same smx,hv2.same smx⟩
theorem vC(T:Txt K mg):∀t:Tr,Def P w K mg base true (8+2*t.dep) "read_part" ["columns","words","start","within"] (iU K mg t)
 | .one sv=>ah9 T sv
 | .nt t=>by
   have h:=adt T (z:="not") (lv:=8+2*t.dep+1) rfl (by omega) (ajE T (lv:=8+2*t.dep) (vC T t) (Nat.le_refl _) (by omega))
   have e:8+2*(Tr.nt t).dep=8+2*t.dep+1+1:=by show 8+2*(t.dep+1)=_;omega
   rw[e]
   exact h
 | .bo t u=>by
   have h:=adt T (z:="both") (lv:=8+2*max t.dep u.dep+1) rfl (by omega) (ajI T (lv:=8+2*max t.dep u.dep) (vC T t) (by omega) (λ_=>vC T u) (by omega) (by omega))
   have e:8+2*(Tr.bo t u).dep=8+2*max t.dep u.dep+1+1:=by show 8+2*(max t.dep u.dep+1)=_;omega
   rw[e]
   exact h
 | .ei t u=>by
   have h:=adt T (z:="either") (lv:=8+2*max t.dep u.dep+1) rfl (by omega) (ajq T (lv:=8+2*max t.dep u.dep) (vC T t) (by omega) (λ_=>vC T u) (by omega) (by omega))
   have e:8+2*(Tr.ei t u).dep=8+2*max t.dep u.dep+1+1:=by show 8+2*(max t.dep u.dep+1)=_;omega
   rw[e]
   exact h
def Bq(mg:Str->Option Value)(t:Tr):Sp:=λvs H Q _=>∃(b:Addr) (cs:List bW) (z:Str),vs=[.ref b,.str z]/\gD H b cs/\z.length≤3000/\(∀y∈cN 32 z,y.length≤1000)/\t.dep≤20/\Reads cs (cN 32 z) t 0 (cN 32 z).length/\∀v H',aq H H'->mZ mg H' t v (kY (cN 32 z) 0 (cN 32 z).length)->Q (.ref v) H'
theorem zF(T:Txt K mg)(t:Tr):Def P w K mg base true (9+2*t.dep) "read_sieve" ["columns","text"] (Bq mg t):=by
 have e9:9+2*t.dep=(8+2*t.dep)+1:=by omega
 rw[e9]
 refine zE T (λvs H Q E h=>by obtain⟨b,cs,z,rfl,_⟩:=h;rfl) (λf cdv A outer s H vs Q E hr h=>?_)
 obtain⟨b,cs,z,rfl,hC,hz,hzs,hdp,hrd,q⟩:=h
 have nd:=pZ.nd
 have n1:=T.jQ
 have hsz:sizeLine=16777216:=sizeLine_eq
 have D1:Def P w K mg base true (8+2*t.dep) "read_part" ["columns","words","start","within"] (iU K mg t):=vC T t
 have hcl:=Gv 32 z
 refine ak ?_
 walk_at "s"
 refine ju F.plainAttrs_str F.slot_str_split F.type_str_split (by rfl) (by rfl) (by rfl) (by rfl) (by rfl) ?_
 walk_at "go"
 refine m_split (c:=32) (by omega) λp hp=>?_
 have iu:aq H (upd H p (.lst ((cN 32 z).map V.str))):=aq.upd hp
 have ep:(upd H p (.lst ((cN 32 z).map V.str))) p=some (.lst ((cN 32 z).map V.str)):=ao
 generalize upd H p (.lst ((cN 32 z).map V.str))=H1 at iu ep⊢
 refine ak (gW (by rfl) (by rfl) ?_)
 walk_at "ex"
 refine⟨b,cs,p,cN 32 z,0,_,0,rfl,hC.same iu,bf.of ep,by omega,hzs,by decide,by omega,hrd,λpr v H2 gw hpt hsv=>?_⟩
 refine fW (by rfl) (by rfl) (by rfl) (fK.of hpt) (by rfl) (aO (by rfl) (aM nd (by rfl) (.inl rfl) (.inl rfl) (aO (by rfl) (aM nd (by rfl) (.inl rfl) (.inl rfl) (dm ?_)))))
 have SP2:bf K H2 p ((cN 32 z).map V.str):=bf.of (gw _ _ ep)
 have zM:((cN 32 z).map V.str).length=(cN 32 z).length:=List.length_map ..
 refine ak ?_
 walk_at "go"
 rw[zM]
 refine fY (λh=>absurd h (by omega)) (λ_=>?_)
 walk_at "go"
 exact q v H2 (iu.trans gw) hsv
theorem gC(T:Txt K mg):Def P w K mg base true 2 "read_order_word" ["columns","word"] (Hq (.ref (aj mg "NoOrder"))):=by
 refine qH T (λvs H Q E h=>by obtain⟨a,cs,z,rfl,_⟩:=h;rfl) (λf cdv A outer s H vs Q E hr h=>?_)
 obtain⟨a,cs,z,rfl,hC,hz,qe,q⟩:=h
 have g1:=T.JD
 have g2:=T.CK
 have nd:=jl.nd
 have D1:Def P w K mg base true 1 "place_of" ["columns","name"] xj:=jn T
 have hsz:sizeLine=16777216:=sizeLine_eq
 have hcl:=ie z (some 1) none
 have e1:(Str.ofString "+").cps.toList=[43]:=by decide+kernel
 have e2:(Str.ofString "-").cps.toList=[45]:=by decide+kernel
 have es:(bQ z none (some 1)).cps.toList=z.cps.toList.take 1:=lL z 1
 have key:∀c:Nat,z.cps.toList.take 1=[c]↔z.cps.toList[0]? =some c:=λc=>by
  cases z.cps.toList with
  |nil=>simp
  |cons x r=>simp
 have k1:V.str (bQ z none (some 1))=V.str "+"↔z.cps.toList[0]? =some 43:=by
  rw[<-key]
  constructor
  .intro h
   have h2:bQ z none (some 1)=Str.ofString "+":=by injection h
   rw[<-es,h2,e1]
  .intro h
   have h2:bQ z none (some 1)=Str.ofString "+":=bU (by rw[es,h,e1])
   rw[h2]
 have k2:V.str (bQ z none (some 1))=V.str "-"↔z.cps.toList[0]? =some 45:=by
  rw[<-key]
  constructor
  .intro h
   have h2:bQ z none (some 1)=Str.ofString "-":=by injection h
   rw[<-es,h2,e2]
  .intro h
   have h2:bQ z none (some 1)=Str.ofString "-":=bU (by rw[es,h,e2])
   rw[h2]
 refine ak ?_
 walk_at "go"
 refine iJ (by omega) ?_
 walk_at "go"
 refine iJ (by omega) ?_
 walk_at "go"
 refine⟨by show 2≤sizeLine;omega,λp hp=>?_⟩
 have RB:aq H (upd H p (.tup [.str "+",.str "-"])):=aq.upd hp
 have ep:(upd H p (.tup [.str "+",.str "-"])) p=some (.tup [.str "+",.str "-"]):=ao
 generalize upd H p (.tup [.str "+",.str "-"])=H0 at RB ep⊢
 refine abE (fK.of ep) (by rfl) (by rfl) ?_
 have ei:QH (V.str (bQ z none (some 1))) [.str "+",.str "-"]=decide (z.cps.toList[0]? =some 43\/z.cps.toList[0]? =some 45):=by
  have e3:∀y:Str,Ql (V.str y) (V.str (bQ z none (some 1)))=decide (V.str (bQ z none (some 1))=V.str y):=λy=>by
   rw[Bool.eq_iff_iff,decide_eq_true_eq]
   constructor
   .intro h
    have :V.str y=V.str (bQ z none (some 1)):=by simpa [Ql]using h
    exact this.symm
   .intro h
    rw[h]
    simp[Ql]
  rw[Bool.eq_iff_iff,decide_eq_true_eq, <-k1, <-k2]
  show((Ql _ _||(Ql _ _||false))=true)↔_
  rw[e3,e3,Bool.or_false,Bool.or_eq_true,decide_eq_true_eq,decide_eq_true_eq]
 rw[ei]
 walk_at "go"
 refine ifN (λh=>?_) (λh=>?_)
 .refine aF (ik b8 (by rfl) T.oV (by rfl) (by decide) (by rfl) (by rfl) ?_)
  walk_at "go"
  refine xg ?_
  walk_at "e"
  refine⟨z,rfl,by omega,_,4000,rfl,hz,by omega,?_⟩
  walk_at "go"
  intro zz
  walk_at "go"
  exact⟨by rw[hsz];simp,qe H0 RB (if_neg λx=>h x.1)⟩
 .refine aN ?_
  walk_at "go"
  refine⟨a,cs,_,rfl,hC.same RB,λH1 iu=>?_⟩
  have gw:=RB.trans iu
  walk_at "go"
  refine fY (λh2=>?_) (λh2=>?_)
  .refine aF (ik b8 (by rfl) T.oV (by rfl) (by decide) (by rfl) (by rfl) ?_)
   walk_at "go"
   refine xg ?_
   walk_at "e"
   refine⟨_,rfl,by omega,_,4000,rfl,by omega,by omega,?_⟩
   walk_at "go"
   intro zz
   walk_at "go"
   exact⟨by rw[hsz];simp,qe H1 gw (if_neg λx=>x.2 h2)⟩
  .refine aN ?_
   walk_at "go"
   refine⟨by show 2≤sizeLine;omega,λt ht=>?_⟩
   refine q t _ _ (gw.trans (aq.upd ht)) (if_pos ⟨h,h2⟩) ?_
   rw[ao]
   have e4:decide (V.str (bQ z none (some 1))=V.str (Str.ofString "+"))=decide (z.cps.toList[0]? =some 43):=decide_eq_decide.mpr k1
   rw[e4]
theorem lD(T:Txt K mg):Def P w K mg base true 3 "read_order" ["columns","text"] (Nx (.ref (aj mg "NoOrder"))):=by
 refine zN T (λvs H Q E h=>by obtain⟨a,cs,z,rfl,_⟩:=h;rfl) (λf cdv A outer s H vs Q E hr h=>?_)
 obtain⟨a,cs,z,rfl,hC,hz,qe,q⟩:=h
 have g1:=T.wX
 have n1:=T.jQ
 have n2:=T.ajU
 have nd:=pR.nd
 have nd1:(["word","columns"]:List Str).Nodup:=by decide+kernel
 have X4:(["name","up"]:List Str).Nodup:=by decide+kernel
 have D1:Def P w K mg base true 2 "read_order_word" ["columns","word"] (Hq (.ref (aj mg "NoOrder"))):=gC T
 have hsz:sizeLine=16777216:=sizeLine_eq
 unfold pD at qe q
 refine ak ?_
 walk_at "go"
 refine fY (λh=>?_) (λh=>?_)
 .have h':z="":=by injection h
  walk_at "go"
  refine⟨by show 0≤sizeLine;omega,λp hp=>?_⟩
  exact q p [] _ (aq.upd hp) (if_pos h') hp ⟨[],ao,.nil⟩
 .have h':¬z="":=λe=>h (by rw[e])
  rw[if_neg h']at qe q
  refine aN ?_
  refine ak ?_
  walk_at "s"
  refine ju PySem.F.plainAttrs_str PySem.F.slot_str_split PySem.F.type_str_split (by rfl) (by rfl) (by rfl) (by rfl) (by rfl) ?_
  walk_at "go"
  refine m_split (c:=32) (by omega) λp1 hp1=>?_
  have hwl:=Gv 32 z
  have hws:=λy=> @Jd 32 z y
  generalize cN 32 z=ws at qe q hwl hws⊢
  have iu:aq H (upd H p1 (.lst (ws.map V.str))):=aq.upd hp1
  have ep1:(upd H p1 (.lst (ws.map V.str))) p1=some (.lst (ws.map V.str)):=ao
  generalize upd H p1 (.lst (ws.map V.str))=H1 at iu ep1⊢
  have zM:(ws.map V.str).length=ws.length:=List.length_map ..
  have S1:bf K H1 p1 (ws.map V.str):=bf.of ep1
  walk_at "go"
  rw[zM]
  refine fY (λh2=>?_) (λh2=>?_)
  .refine aF (ik b8 (by rfl) T.oV (by rfl) (by decide) (by rfl) (by rfl) ?_)
   walk_at "go"
   exact⟨by rw[hsz];simp,qe H1 iu (if_pos (by omega))⟩
  .rw[if_neg (by omega)]at qe q
   refine aN ?_
   refine ak ?_
   refine PX ["word","columns"] (σ':=[none,some (.ref a)]) (by rfl) b8 rfl rfl (by rfl) (by rfl) (cC (aa bM) (by rfl) (by rfl) (by decide+kernel)) (by intro _;rfl) nd (by rfl) (by rfl) ?_
   walk_at "go"
   refine⟨p1,_,rfl,S1,by rw[zM];omega,λτ=>∃o,τ=[o,some (.ref a)],λE' i v H'=>∃y,ws[i]? =some y/\∃o,tK cs y=some o/\∃t,v= .ref t/\t≠E'/\H' t=some (.tup [.str o.1,.bl o.2]),⟨none,rfl⟩,λE' i v H2 H3 ys _ hk hp=>?_,λfp E' C s3 H0 F i τ x H2 H3 xo hE hi hτ gw hys hG=>?_,λE' H2 xs hE hl hx e2 gw=>?_⟩
   .obtain⟨y,a1,o,a2,t,a3,a4,a5⟩:=hp
    exact⟨y,a1,o,a2,t,a3,a4,hk t _ a4 a5⟩
   .obtain⟨o,rfl⟩:=hτ
    obtain⟨hx,rfl⟩:=hG
    rw[List.getElem?_map]at hx
    obtain⟨y,ey,rfl⟩:=Option.map_eq_some_iff.mp hx
    have hyl:=hws y (List.mem_of_getElem? ey)
    refine aM nd1 (by rfl) (.inl rfl) (.inr rfl) ?_
    walk_at "go"
    have sm3:=iu.trans gw
    refine⟨a,cs,y,rfl,hC.same sm3,by omega,λH' sW e=>?_,λt o H' sW e et=>?_⟩
    .exact qe H' (sm3.trans sW) (by rw[Al (List.mem_of_getElem? ey) e])
    .obtain⟨ys,hy1,_⟩:=hys
     refine⟨⟨_,rfl⟩,⟨y,ey,o,e,t,rfl,λz=>?_,et⟩,sW⟩
     rw[z,sW _ _ hy1]at et
     cases et
   .obtain⟨os,eo,ha⟩:=M5 (f:=tK cs) (R:=Ho H2) (ws:=ws) (xs:=xs) (by rw[hl,zM]) λi v e=>by
     obtain⟨y,a1,o,a2,t,a3,a4,a5⟩:=hx i v e
     exact⟨y,a1,o,a2,t,a3,a5⟩
    rw[eo]at qe q
    have hol:=ha.len
    have sm3:=iu.trans gw
    have hEn:H E'=none:=by
     cases e:H E' with
     |none=>rfl
     |some u=>rw[iu _ _ e]at hE;cases hE
    refine ak ?_
    refine Hz ["name","up"] (σ':=[none,none]) (by rfl) (by rfl) (by rfl) (cC (aa bM) (by rfl) (by rfl) (by decide+kernel)) (by intro _;rfl) nd (by rfl) (by rfl) ?_
    walk_at "go"
    refine⟨E',xs,rfl,bf.of e2,by rw[hl,zM];omega,λτ=>∃o1 o2,τ=[o1,o2],λE2 i u H'=>∃c,os[i]? =some c/\u= .str c.1,⟨none,none,rfl⟩,λE2 i u H2 H3 ys _ _ p=>p,λfp E2 C s3 H0 i τ x H4 H3 Ig hi hτ sW hys hG=>?_,λE2 H4 ys Ig hl2 hx2 e4 sW=>?_⟩
    .obtain⟨o1,o2,rfl⟩:=hτ
     obtain⟨PJ,rfl⟩:=hG
     obtain⟨c,hc,t,rfl,ht⟩:=ha.get PJ
     refine fW (by rfl) (by rfl) (by rfl) (fK.of (sW _ _ ht)) (by rfl) (aO (by rfl) (aM X4 (by rfl) (.inl rfl) (.inr rfl) (aO (by rfl) (aM X4 (by rfl) (.inl rfl) (.inr rfl) (dm ?_)))))
     walk_at "go"
     exact⟨⟨_,_,rfl⟩,⟨c,hc,rfl⟩,aq.refl _⟩
    .have ey:=eY (ys:=os) (λc=>V.str c.1) (by rw[hl2,hol]) hx2
     have RL:ys=(os.map Prod.fst).map V.str:=by rw[ey,List.map_map];rfl
     subst RL
     have hnl:(os.map Prod.fst).length≤4000:=by simp;omega
     refine ak ?_
     walk_at "go"
     refine ac6 (by rfl) (bf.of e4) hnl λS hS=>?_
     walk_at "go"
     refine aet ao hnl ?_
     walk_at "go"
     refine aaM (.inl (bf.of ((aq.upd hS) _ _ e4))) ?_
     walk_at "go"
     have Q6:aq H2 (upd H4 S (xN (xu true P w K mg base iY "read_order" (aa bM) f cdv A outer s H E) S (os.map Prod.fst))):=sW.trans (aq.upd hS)
     have aav:=yQ _ (os.map Prod.fst) rfl
     generalize upd H4 S (xN (xu true P w K mg base iY "read_order" (aa bM) f cdv A outer s H E) S (os.map Prod.fst))=H5 at Q6⊢
     rw[List.length_map (f:=V.str)]
     refine ifN (λh3=>?_) (λh3=>?_)
     .have h4:¬(os.map Prod.fst).Nodup:=λz=>h3 (by rw[aav.mpr z])
      refine aF (ik b8 (by rfl) T.oV (by rfl) (by decide) (by rfl) (by rfl) ?_)
      walk_at "go"
      exact⟨by rw[hsz];simp,qe H5 (sm3.trans Q6) (if_neg h4)⟩
     .have h4:(os.map Prod.fst).Nodup:=aav.mp (by injection h3 with h5;omega)
      refine aN ?_
      walk_at "go"
      exact q E' os H5 (sm3.trans Q6) (if_pos h4) hEn ⟨xs,Q6 _ _ e2,ha.imp λu c r=>r.same Q6⟩
def mV(kd:Str)(v:V):Prop:=v= .non\/(kd="number"/\∃i,v= .int i/\ -1000000000000000000≤i/\i≤1000000000000000000)\/(¬kd="number"/\∃z,v= .str z/\z.length≤20/\∀c∈z.cps.toList,c∈SG)
theorem mV.sc{kd:Str}{v:V}(h:mV kd v):scalar v=true:=by
 rcases h with rfl |⟨_,i,rfl,_⟩ |⟨_,z,rfl,_⟩<;>rfl
abbrev SG1:Str:=Str.ofString "ab-abcdefghijklmnopqrstuvwxyz0123456789-"
theorem Oj:SG1.length=40:=by decide+kernel
theorem agx:∀c∈SG1.cps.toList,c∈SG:=by decide+kernel
def yj(K:W.Frag):Sp:=λvs H Q _=>∃(a:Addr) (ns:List Int) (k:Int) (kd:Str),vs=[.ref a,.int k,.str kd]/\bf K H a (ns.map V.int)/\ns.length≤63/\0≤k/\k≤50000/\∀v H',aq H H'->mV kd v->Q v H'
theorem iM(T:Txt K mg):Def P w K mg base true 2 "_law_value" ["_law_script","_law_k","_law_kind"] (yj K):=by
 refine zR T (λvs H Q E h=>by obtain⟨a,ns,k,kd,rfl,_⟩:=h;rfl) (λf cdv A outer s H vs Q E hr h=>?_)
 obtain⟨a,ns,k,kd,rfl,hS,hl,hk0,hk1,q⟩:=h
 have nd:=qb.nd
 have n1:=T.jQ
 have n2:=T.pB
 have hsz:sizeLine=16777216:=sizeLine_eq
 have zM:(ns.map V.int).length=ns.length:=List.length_map ..
 have D1:Def P w K mg base true 1 "_law_draw" ["_law_script","_law_k","_law_many"] (lX K):=cH T
 refine ak ?_
 walk_at "go"
 refine⟨a,ns,k,8,rfl,hS,hl,by omega,by omega,by decide,?_⟩
 have w0:=bh ns k (m:=8) (by decide)
 have w1:=bj ns k (m:=8) (by decide)
 obtain⟨way,ew⟩:=Int.eq_ofNat_of_zero_le w0
 rw[ew]at w1⊢
 walk_at "go"
 refine fY (λh0=>?_) (λh0=>?_)
 .walk_at "go"
  exact q _ _ (aq.refl _) (.inl rfl)
 .have aAA:1≤way:=by
   rcases Nat.eq_zero_or_pos way with e |e
   .exact absurd (by rw[e];rfl) h0
   .exact e
  walk_at "go"
  refine fY (λh=>?_) (λh=>?_)
  .have hn:kd="number":=by injection h
   have num:∀(cell:Int) (D:Ends),D.rt=Q->lB (xu true P w K mg base lJ "_law_value" (aa bZ) f cdv A outer s H E) ((adD (W3 (az bZ) 2)).drop 1) D [some (.ref a),some (.int k),some (.str kd),some (.int way),some (.int cell),none,none,none] H:=by
    intro cell D hD
    have c0:=Int.emod_nonneg cell (b:=2*1000000000000000000+1) (by decide)
    have c1:=Int.emod_lt_of_pos cell (b:=2*1000000000000000000+1) (by decide)
    refine ak ?_
    walk_at "go"
    generalize cell % (2*1000000000000000000+1)=z at c0 c1⊢
    refine⟨by show 7≤sizeLine;omega,λp hp=>?_⟩
    walk_at "go"
    obtain⟨v,e1,e2⟩:=xq (xs:=[V.int 0,V.int 1,V.int (-1),V.int 10,V.int (z-1000000000000000000),V.int 1000000000000000000,V.int (0-1000000000000000000)]) (i:=(way:Int)-1) (by omega) (by show _<(7:Int);omega)
    refine bw (bf.of ao) e1 ?_
    have hv:∃i,v= .int i/\ -1000000000000000000≤i/\i≤1000000000000000000:=by
     simp only[List.mem_cons,List.not_mem_nil,or_false]at e2
     rcases e2 with rfl |rfl |rfl |rfl |rfl |rfl |rfl<;>exact⟨_,rfl,by omega,by omega⟩
    show D.rt _ _
    rw[hD]
    exact q _ _ (aq.upd hp) (.inr (.inl ⟨hn,hv⟩))
   walk_at "go"
   rw[zM]
   refine fY (λh3=>?_) (λh3=>?_)
   .walk_at "go"
    rw[zM]
    walk_at "go"
    refine bw hS (Ow 0 (Int.emod_nonneg _ (by omega)) (Int.emod_lt_of_pos _ (by omega))) ?_
    exact num _ _ rfl
   .walk_at "ex"
    exact num _ _ rfl
  .have hn:¬kd="number":=λe=>h (by rw[e])
   walk_at "go"
   refine⟨by show 7≤sizeLine;omega,λp hp=>?_⟩
   have qM:=aq.upd (H:=H) (o:=.lst [V.int 0,V.int 1,V.int 1,V.int 2,V.int 3,V.int 5,V.int 20]) hp
   walk_at "go"
   obtain⟨v,e1,e2⟩:=xq (xs:=[V.int 0,V.int 1,V.int 1,V.int 2,V.int 3,V.int 5,V.int 20]) (i:=(way:Int)-1) (by omega) (by show _<(7:Int);omega)
   refine bw (bf.of ao) e1 ?_
   obtain⟨sz,rfl,azO⟩:∃sz:Nat,v= .int sz/\sz≤20:=by
    simp only[List.mem_cons,List.not_mem_nil,or_false]at e2
    rcases e2 with rfl |rfl |rfl |rfl |rfl |rfl |rfl
    .exact⟨0,rfl,by decide⟩
    .exact⟨1,rfl,by decide⟩
    .exact⟨1,rfl,by decide⟩
    .exact⟨2,rfl,by decide⟩
    .exact⟨3,rfl,by decide⟩
    .exact⟨5,rfl,by decide⟩
    .exact⟨20,rfl,by decide⟩
   generalize upd H p _=H1 at qM⊢
   have awZ:(way:Int) / 4=0\/(way:Int) / 4=1:=by omega
   walk_at "go"
   refine Gs ["_law_j","_law_k","_law_script","_law_signs","_law_way"] (σ':=[none,some (.int k),some (.ref a),some (.str SG1),some (.int way)]) (by rfl) (by rfl) (cC (aa bZ) (by rfl) (by rfl) (by decide+kernel)) (by decide+kernel) (by rfl) (by rfl) (by rfl) n2 (by rfl) ?_
   walk_at "e"
   refine⟨sz,rfl,by omega,by omega,λi v=>∃c,c∈SG/\v= .str ⟨#[c]⟩,λfp E' C s3 H0 i H2 hi sm=>?_,λE' H2 xs hE hl2 hx e2 iu=>?_⟩
   .have hi':i<sz:=by simpa using hi
    walk_at "go"
    refine⟨by show 2≤sizeLine;omega,λy hy=>?_⟩
    have smy:=aq.upd (H:=H2) (o:=.lst [V.int 3,V.int 40]) hy
    walk_at "go"
    obtain⟨v,g1,g2⟩:=xq (xs:=[V.int 3,V.int 40]) (i:=(way:Int) / 4) (by omega) (by show _<(2:Int);omega)
    refine ad5 ⟨by omega,by omega⟩ ?_
    refine bw (bf.of ao) g1 ?_
    obtain⟨mm,rfl,hm1,hm2⟩:∃mm:Int,v= .int mm/\0<mm/\mm≤40:=by
     simp only[List.mem_cons,List.not_mem_nil,or_false]at g2
     rcases g2 with rfl |rfl
     .exact⟨3,rfl,by decide,by decide⟩
     .exact⟨40,rfl,by decide,by decide⟩
    generalize upd H2 y _=H3 at smy⊢
    walk_at "go"
    refine⟨a,ns,k+7*i+1,mm,rfl,((qM.trans sm).trans smy).seq hS,hl,by omega,by omega,hm1,?_⟩
    have d0:=bh ns (k+7*i+1) (m:=mm) hm1
    have d1:=bj ns (k+7*i+1) (m:=mm) hm1
    obtain⟨d,ed⟩:=Int.eq_ofNat_of_zero_le d0
    rw[ed]at d1⊢
    have awu:=L2.len_list SG1
    have hg:SG1.cps.toList[d]? =some (SG1.cps.toList.getD d 0):=by
     rw[List.getD_eq_getElem?_getD,List.getElem?_eq_getElem (by rw[<-awu,Oj];omega)]
     rfl
    refine mQ (by rw[Oj];omega) (bD hg) ⟨⟨_,agx _ (List.mem_of_getElem? hg),rfl⟩,smy⟩
   .have PJ:∃cs:List Nat,xs=(cs.map λc=>(⟨#[c]⟩:Str)).map V.str/\∀c∈cs,c∈SG:=by
     have :∀(xs:List V),(∀v∈xs,∃c,c∈SG/\v= .str ⟨#[c]⟩)->∃cs:List Nat,xs=(cs.map λc=>(⟨#[c]⟩:Str)).map V.str/\∀c∈cs,c∈SG:=by
      intro xs
      induction xs with
      |nil=>exact λ_=>⟨[],rfl,λc hc=>by simp at hc⟩
      |cons v r ih=>
       intro h
       obtain⟨c,hc,rfl⟩:=h v (List.mem_cons_self ..)
       obtain⟨cs,rfl,h2⟩:=ih λv hv=>h v (List.mem_cons_of_mem _ hv)
       exact⟨c::cs,rfl,λx hx=>(List.mem_cons.mp hx).elim (λe=>e▸hc) (h2 x)⟩
     refine this xs λv hv=>?_
     obtain⟨i,hi,e⟩:=List.getElem_of_mem hv
     exact hx i v (by rw[List.getElem?_eq_getElem hi,e])
    obtain⟨cs,rfl,hcs⟩:=PJ
    have hcl:cs.length=sz:=by simpa using hl2
    walk_at "go"
    refine Dc (bf.of e2) ?_ ?_
    .have e0:(Str.ofString "").length=0:=by decide+kernel
     rw[yX,List.length_map,e0]
     omega
    rw[qF]
    refine q _ _ (qM.trans iu) (.inr (.inr ⟨hn,_,rfl,?_,?_⟩))
    .rw[L2.len_list]
     show cs.length≤20
     omega
    .intro c hc
     exact hcs c (by simpa using hc)
theorem _root_.Vl.d9.ZK{α β:Type}{R:α->β->Prop}:∀{l:List α} {m:List β},d9 R l m->∀b∈m,∃a,a∈l/\R a b
 |_,_,.nil,b,hb=>by simp at hb
 |_,_,.cons (a:=a) r t,b,hb=>by
  rcases List.mem_cons.mp hb with e |e
  .subst e;exact⟨a,by simp,r⟩
  .obtain⟨a',h1,h2⟩:=t.ZK b e
   exact⟨a',by simp[h1],h2⟩
theorem mV.word{kd:Str}{v:V}(h:mV kd v)(hk:kd="number"\/kd="text"):jE kd (wordOf v)=some v/\(wordOf v).length≤21/\32∉(wordOf v).cps.toList/\¬wordOf v=Str.ofString "*"/\(∀c∈(wordOf v).cps.toList,c<1114112):=by
 rcases h with rfl |⟨hn,i,rfl,h1,h2⟩ |⟨hn,z,rfl,hl,hz⟩
 .refine⟨?_,by decide+kernel,by decide+kernel,by decide+kernel,by decide+kernel⟩
  unfold jE
  rw[if_pos (show wordOf .non=Str.ofString "?" from rfl)]
 .subst hn
  have hf:=gZ i
  refine⟨QM h1 h2,?_,λh=>?_,λh=>?_,λc hc=>?_⟩
  .have :=dF (i:=i) (k:=19) (by decide) (by omega)
   show(Str.ofString (toString i)).length≤21
   omega
  .have :=hf 32 h
   omega
  .have h':Str.ofString (toString i)=Str.ofString "*":=h
   have e:(Str.ofString "*").cps.toList=[42]:=by decide+kernel
   have :=hf 42 (by rw[h',e];simp)
   omega
  .have :=hf c hc
   omega
 .have hk':kd="text":=hk.resolve_left hn
  subst hk'
  have e1:(Str.ofString "'").length=1:=by decide+kernel
  have e3:=len_app (Str.ofString "'") z
  have hsg:∀c∈SG,¬c=32/\c<1114112:=by decide+kernel
  have hmem:∀c∈(Str.ofString "'"++z).cps.toList,c=39\/c∈SG:=λc hc=>by
   rw[aW,xx]at hc
   rcases List.mem_append.mp hc with h |h
   .exact .inl (by simpa using h)
   .exact .inr (hz c h)
  refine⟨Ro hl hz,by show(Str.ofString "'"++z).length≤21;omega,λh=>?_,λh=>?_,λc hc=>?_⟩
  .rcases hmem 32 h with e |e
   .omega
   .exact(hsg 32 e).1 rfl
  .have h':Str.ofString "'"++z=Str.ofString "*":=h
   have e:(Str.ofString "*").cps.toList=[42]:=by decide+kernel
   have h0:(Str.ofString "'"++z).cps.toList[0]? =some 39:=by rw[aW,xx];rfl
   rw[h',e]at h0
   simp at h0
  .rcases hmem c hc with e |e
   .omega
   .exact(hsg c e).2
theorem Jw{cs:List bW}{c:bW}:∀(i:Nat),c∈cs->iC cs c.1 i≠ .non:=by
 induction cs with
 |nil=>intro i h;simp at h
 |cons d r ih=>
  intro i h
  unfold iC
  by_cases e:d.1=c.1
  .rw[if_pos e]
   intro z
   cases z
  .rw[if_neg e]
   rcases List.mem_cons.mp h with z |z
   .subst z;exact absurd rfl e
   .exact ih (i+1) z
theorem Aw:(Str.ofString "+").cps.toList=[43]/\(Str.ofString "-").cps.toList=[45]/\(Str.ofString " ").cps.toList=[32]/\(Str.ofString "").cps.toList=[]:=by decide+kernel
theorem apV{x:Nat}{n:Str}:bQ (⟨#[x]⟩++n) (some 1) none=n:=by
 apply bU
 rw[show(bQ (⟨#[x]⟩++n) (some 1) none).cps.toList=(⟨#[x]⟩++n:Str).cps.toList.drop 1 from lq _ 1,aW]
 rfl
theorem KQ{cs:List bW}{o:Ord}{c:bW}(hc:c∈cs)(e:c.1=o.1):tK cs (eO o)=some o:=by
 obtain⟨n,up⟩:=o
 have hp:iC cs n 0≠ .non:=by rw[<-show c.1=n from e];exact Jw 0 hc
 have key:∀x:Nat,(x=43\/x=45)->tK cs (⟨#[x]⟩++n)=some (n,decide (x=43)):=λx hx=>by
  unfold tK
  rw[apV]
  have h0:(⟨#[x]⟩++n:Str).cps.toList[0]? =some x:=by rw[aW];rfl
  rw[h0,if_pos ⟨by rcases hx with z |z<;>simp[z],hp⟩]
  simp
 unfold eO
 cases up with
 |true=>exact key 43 (.inl rfl)
 |false=>exact key 45 (.inr rfl)
theorem Q7{o:Ord}(h:32∉o.1.cps.toList):32∉(eO o).cps.toList:=by
 unfold eO
 rw[aW]
 obtain⟨e1,e2,_⟩:=Aw
 split
 .rw[e1];simpa using h
 .rw[e2];simpa using h
theorem J1:∀{ps:List Str},Str.join " " ps=""->ps=[]\/ps=[Str.ofString ""]
 |[],_=>.inl rfl
 |[p],h=>.inr (by rw[show p="" from h])
 |p::q::r,h=>by
  have e:(Str.join " " (p::q::r)).cps.toList=km 32 ((p::q::r).map λp=>p.cps.toList):=jg 32 _
  rw[h]at e
  have e2:([]:List Nat)=p.cps.toList++32::km 32 ((q::r).map λp=>p.cps.toList):=e
  have :=congrArg List.length e2
  simp at this
theorem Rq{cs:List bW}{os:List Ord}(hl:os.length≤4)(hn:(os.map Prod.fst).Nodup)(hc:∀o∈os,∃c∈cs,c.1=o.1)(hf:∀o∈os,32∉o.1.cps.toList):pD cs (wJ os)=some os:=by
 unfold pD wJ
 by_cases h0:os=[]
 .subst h0
  exact if_pos (by decide+kernel)
 .have h1:os.map eO≠[]:=by simpa using h0
  have hw:∀p∈os.map eO,32∉p.cps.toList:=λp hp=>by
   obtain⟨o,ho,rfl⟩:=List.mem_map.mp hp
   exact Q7 (hf o ho)
  have hne:os.map eO≠[Str.ofString ""]:=λe=>by
   have :Str.ofString ""∈os.map eO:=by rw[e];simp
   obtain⟨o,ho,e2⟩:=List.mem_map.mp this
   have e3:=congrArg (λz:Str=>z.cps.toList.length) e2
   have e4:(eO o).cps.toList.length=1+o.1.cps.toList.length:=by
    unfold eO
    rw[aW,List.length_append]
    obtain⟨l1,l2,_⟩:=Aw
    split
    .rw[l1];rfl
    .rw[l2];rfl
   have e5:(Str.ofString "").cps.toList.length=0:=by decide+kernel
   have e3':(eO o).cps.toList.length=(Str.ofString "").cps.toList.length:=e3
   rw[e4,e5]at e3'
   omega
  rw[if_neg (λz=>(J1 z).elim h1 hne),xT h1 hw,List.length_map,if_neg (by omega)]
  have hm:Et (tK cs) (os.map eO)=some os:=by
   refine Bu (by simp) λi x y e1 e2=>?_
   rw[List.getElem?_map,e2]at e1
   have e1':eO y=x:=Option.some.inj e1
   obtain⟨c,hcm,ec⟩:=hc y (List.mem_of_getElem? e2)
   rw[<-e1']
   exact KQ hcm ec
  rw[hm]
  show(if(os.map Prod.fst).Nodup then some os else none)=some os
  rw[if_pos hn]
structure Cut where
 ahead:Bool
 row:Nat
 xs:List V
structure Mk where
 living:Bool
 moment:Nat
 os:List Ord
 sieve:Str
 cut:Cut
def jN(b:Bool):Str:=if b=true then Str.ofString "ahead" else Str.ofString "behind"
def jt(b:Bool):Str:=if b=true then Str.ofString "<" else Str.ofString ">"
def j8(b:Bool):Str:=if b=true then Str.ofString "living" else Str.ofString "still"
def dZ(b:Bool):Str:=if b=true then Str.ofString "l" else Str.ofString "s"
def Hw(H:Hp)(c:Addr)(C:Cut):Prop:=∃k v,H c=some (.tup [.str (jN C.ahead),.ref k])/\H k=some (.tup [.ref v,.int C.row])/\H v=some (.lst C.xs)
theorem Hw.same{H H':Hp}{c:Addr}{C:Cut}(h:Hw H c C)(s:aq H H'):Hw H' c C:=by
 obtain⟨k,v,h1,h2,h3⟩:=h
 exact⟨k,v,s _ _ h1,s _ _ h2,s _ _ h3⟩
def yD(H:Hp)(p:Addr)(M:Mk):Prop:=∃o c,H p=some (.tup [.str (j8 M.living),.int M.moment,.ref o,.str M.sieve,.ref c])/\tE H o M.os/\Hw H c M.cut
theorem yD.same{H H':Hp}{p:Addr}{M:Mk}(h:yD H p M)(s:aq H H'):yD H' p M:=by
 obtain⟨o,c,h1,h2,h3⟩:=h
 exact⟨o,c,s _ _ h1,h2.same s,h3.same s⟩
def nG(C:Cut):List Str:=Str.ofString (toString (C.row:Int))::C.xs.map wordOf
def lg(C:Cut):Str:=jt C.ahead++Str.join " " (nG C)
def jh(M:Mk):List Str:=[dZ M.living,Str.ofString (toString (M.moment:Int)),wJ M.os,M.sieve,lg M.cut]
def bK(M:Mk):Str:=Str.join "/" (jh M)
def iD(M:Mk):Str:=bK M++Str.ofString "."++cj (aP (bK M).cps.toList)
def plainS(z:Str):Prop:=∀c∈z.cps.toList,32≤c/\c≤122/\c≠46/\c≠47
theorem plainS.app{a b:Str}(h:plainS a)(g:plainS b):plainS (a++b):=λc hc=>by
 rw[aW]at hc
 rcases List.mem_append.mp hc with hc |hc
 .exact h c hc
 .exact g c hc
theorem plainS.join:∀{ps:List Str},(∀p∈ps,plainS p)->plainS (Str.join " " ps)
 |[],_=>by
  intro c hc
  have :c∈([]:List Nat):=hc
  simp at this
 |[p],h=>h p (by simp)
 |p::q::r,h=>by
  have hb:plainS (Str.ofString " "):=by unfold plainS;decide+kernel
  exact((h p (by simp)).app hb).app (plainS.join λx hx=>h x (by simp[hx]))
theorem S9:∀c∈SG,32≤c/\c≤122/\c≠46/\c≠47:=by decide+kernel
theorem uW(i:Int):plainS (Str.ofString (toString i)):=λc hc=>by
 have :=gZ i c hc
 omega
theorem mV.plain{kd:Str}{v:V}(h:mV kd v):plainS (wordOf v):=by
 rcases h with rfl |⟨hn,i,rfl,h1,h2⟩ |⟨hn,z,rfl,hl,hz⟩
 .unfold plainS
  decide+kernel
 .exact uW i
 .refine plainS.app (a:=Str.ofString "'") ?_ λc hc=>S9 c (hz c hc)
  unfold plainS
  decide+kernel
theorem qI{z:Str}(h:isName z=true):plainS z:=by
 unfold isName at h
 rw[Bool.and_eq_true]at h
 intro c hc
 have h2:=h.2
 unfold gR at h2
 rw[List.all_eq_true]at h2
 have h3:=of_decide_eq_true (h2 c hc)
 have key:∀c∈LTs.cps.toList,32≤c/\c≤122/\c≠46/\c≠47:=by decide+kernel
 exact key c h3
theorem yC{ps:List Str}(h:ps≠[])(hf:∀p∈ps,47∉p.cps.toList):cN 47 (Str.join "/" ps)=ps:=by
 unfold cN
 have e:(Str.join "/" ps).cps.toList=km 47 (ps.map λp=>p.cps.toList):=jg 47 ps
 rw[e,lW (by simpa using h) λp hp=>?_,List.map_map]
 .have :((λl:List Nat=>(⟨l.toArray⟩:Str))∘λp:Str=>p.cps.toList)=id:=by
   funext p
   rfl
  rw[this,List.map_id]
 .obtain⟨q,hq,rfl⟩:=List.mem_map.mp hp
  exact hf q hq
def jC(cs:List bW)(z:Str):Str:=match cs[bR cs z]? with
 |some c=>c.2
 |none=>Str.ofString ""
structure fM(cs:List bW)(M:Mk):Prop where
 moment:M.moment≤5000
 len:M.os.length≤4
 names:∀o∈M.os,o.1∈cs.map Prod.fst
 nodup:(M.os.map Prod.fst).Nodup
 row:M.cut.row≤1000000000
 vals:d9 (λ(o:Ord) x=>mV (jC cs o.1) x) M.os M.cut.xs
 plain:plainS M.sieve
 short:M.sieve.length≤2800
 words:∀y∈cN 32 M.sieve,y.length≤1000
 reads:∃t:Tr,t.dep≤20/\Reads cs (cN 32 M.sieve) t 0 (cN 32 M.sieve).length
theorem G5(b:Bool):plainS (dZ b):=by cases b<;>(unfold plainS;decide+kernel)
theorem Mw(b:Bool):plainS (jt b):=by cases b<;>(unfold plainS;decide+kernel)
theorem Lj{o:Ord}(h:plainS o.1):plainS (eO o):=by
 unfold eO
 refine plainS.app ?_ h
 have h1:plainS (Str.ofString "+"):=by unfold plainS;decide+kernel
 have h2:plainS (Str.ofString "-"):=by unfold plainS;decide+kernel
 split
 .exact h1
 .exact h2
theorem Q4{cs:List bW}{M:Mk}(h:fM cs M):∀p∈nG M.cut,plainS p:=λp hp=>by
 rcases List.mem_cons.mp hp with rfl |hp
 .exact uW _
 .obtain⟨x,hx,rfl⟩:=List.mem_map.mp hp
  obtain⟨o,_,hv⟩:=h.vals.ZK x hx
  exact hv.plain
theorem nq{cs:List bW}(hc:aY cs=true){M:Mk}(h:fM cs M):∀p∈jh M,plainS p:=λp hp=>by
 have hp':p=dZ M.living\/p=Str.ofString (toString (M.moment:Int))\/p=wJ M.os\/p=M.sieve\/p=lg M.cut:=by simpa [jh]using hp
 rcases hp' with rfl |rfl |rfl |rfl |rfl
 .exact G5 _
 .exact uW _
 .refine plainS.join λq hq=>?_
  obtain⟨o,ho,rfl⟩:=List.mem_map.mp hq
  refine Lj (qI ?_)
  obtain⟨c,hcm,e⟩:=List.mem_map.mp (h.names o ho)
  unfold aY at hc
  simp only[Bool.and_eq_true,List.all_eq_true]at hc
  rw[<-e]
  exact(hc.1.2 c hcm).1
 .exact h.plain
 .exact(Mw _).app (plainS.join (Q4 h))
theorem WR{cs:List bW}(hc:aY cs=true){M:Mk}(h:fM cs M):cN 47 (bK M)=jh M:=
 yC (by simp[jh]) λp hp hm=>(nq hc h p hp 47 hm).2.2.2 rfl
theorem oX(n:Int)(h0:0≤n)(h1:n<9973):46∉(cj n).cps.toList/\(cj n).length=4:=by
 obtain⟨m,rfl⟩:=Int.eq_ofNat_of_zero_le h0
 have :=sX (n:=m) (by omega)
 unfold uU at this
 simp only[Bool.and_eq_true,decide_eq_true_eq,List.all_eq_true]at this
 refine⟨λhm=>?_,this.1⟩
 have :=this.2.1 46 hm
 unfold Bp at this
 simp at this
theorem qW(M:Mk):Txt.rpartition (iD M) ⟨#[46]⟩=(bK M,⟨#[46]⟩,cj (aP (bK M).cps.toList)):=by
 have hb:=cA (bK M).cps.toList
 have hf:=oX (aP (bK M).cps.toList) (by omega) (by omega)
 have e:(iD M).cps.toList=(bK M).cps.toList++46::(cj (aP (bK M).cps.toList)).cps.toList:=by
  unfold iD
  rw[aW,aW,show(Str.ofString ".").cps.toList=[46]from by decide+kernel,List.append_assoc]
  rfl
 have eta:∀z:Str,(⟨z.cps.toList.toArray⟩:Str)=z:=λz=>by
  obtain⟨⟨l⟩⟩:=z
  rfl
 rw[Gf e hf.1,eta,eta]
theorem HX:∀ps:List Str,(Str.join "/" ps).length≤(ps.map (·.length)).sum+ps.length
 |[]=>by show(0:Nat)≤_;omega
 |[p]=>by
  show p.length≤_
  simp
 |p::q::r=>by
  have ih:=HX (q::r)
  have lb:(Str.ofString "/").length=1:=by decide+kernel
  show(p++Str.ofString "/"++Str.join "/" (q::r)).length≤_
  rw[len_app,len_app,lb]
  simp only[List.map_cons,List.sum_cons,List.length_cons]at ih⊢
  omega
theorem nM:∀ps:List Str,(Str.join " " ps).length≤(ps.map (·.length)).sum+ps.length
 |[]=>by show(0:Nat)≤_;omega
 |[p]=>by
  show p.length≤_
  simp
 |p::q::r=>by
  have ih:=nM (q::r)
  have lb:(Str.ofString " ").length=1:=by decide+kernel
  show(p++Str.ofString " "++Str.join " " (q::r)).length≤_
  rw[len_app,len_app,lb]
  simp only[List.map_cons,List.sum_cons,List.length_cons]at ih⊢
  omega
theorem SN(ps:List Str)(n:Nat)(h:∀p∈ps,p.length≤n):(ps.map (·.length)).sum≤ps.length*n:=by
 induction ps with
 |nil=>simp
 |cons p ps ih=>
  have h1:=ih λx hx=>h x (by simp[hx])
  have h2:=h p (by simp)
  simp only[List.map_cons,List.sum_cons,List.length_cons,Nat.succ_mul]
  omega
theorem Gw{cs:List bW}(hc:aY cs=true){z:Str}(hz:z∈cs.map Prod.fst):jC cs z="number"\/jC cs z="text":=by
 obtain⟨c,hcm,e⟩:=List.mem_map.mp hz
 have hp:bR cs z<cs.length:=kW ⟨c,hcm,e⟩
 unfold jC
 rw[List.getElem?_eq_getElem hp]
 unfold aY at hc
 simp only[Bool.and_eq_true,List.all_eq_true]at hc
 have h2:=(hc.1.2 cs[bR cs z] (List.getElem_mem hp)).2
 unfold vD at h2
 exact of_decide_eq_true h2
theorem fM.O2{cs:List bW}(hc:aY cs=true){M:Mk}(h:fM cs M):∀x∈M.cut.xs,wrt x/\(wordOf x).length≤21/\32∉(wordOf x).cps.toList:=λx hx=>by
 obtain⟨o,ho,hv⟩:=h.vals.ZK x hx
 have hw:=hv.word (Gw hc (h.names o ho))
 refine⟨⟨hv.sc,?_,λi e=>?_⟩,hw.2.1,hw.2.2.1⟩
 .rcases hv with rfl |⟨_,i,rfl,_⟩ |⟨_,z,rfl,hl,_⟩
  .trivial
  .trivial
  .show z.length≤4000
   omega
 .subst e
  rcases hv with e |⟨_,j,e,h1,h2⟩ |⟨_,z,e,_⟩
  .cases e
  .cases e
   have :(10:Nat)^60>1000000000000000000:=by decide
   omega
  .cases e
theorem fM.xsl{cs:List bW}{M:Mk}(h:fM cs M):M.cut.xs.length≤4:=by
 have :=h.vals.len
 have :=h.len
 omega
theorem GK{cs:List bW}(hc:aY cs=true){M:Mk}(h:fM cs M):(∀p∈nG M.cut,p.length≤21)/\(nG M.cut).length≤5:=by
 refine⟨λp hp=>?_,?_⟩
 .rcases List.mem_cons.mp hp with rfl |hp
  .have :=dF (i:=(M.cut.row:Int)) (k:=10) (by decide) (by have :=h.row;have :(10:Nat)^10>1000000000:=by decide
                                                          omega)
   omega
  .obtain⟨x,hx,rfl⟩:=List.mem_map.mp hp
   exact(h.O2 hc x hx).2.1
 .have :=h.xsl
  show(M.cut.xs.map wordOf).length+1≤5
  rw[List.length_map]
  omega
theorem Af{cs:List bW}(hc:aY cs=true){M:Mk}(h:fM cs M):(lg M.cut).length≤200:=by
 obtain⟨h1,h2⟩:=GK hc h
 have h3:=SN _ 21 h1
 have h4:=nM (nG M.cut)
 have h5:(jt M.cut.ahead).length=1:=by cases M.cut.ahead<;>decide+kernel
 unfold lg
 rw[len_app]
 omega
theorem gP{z:Str}(h:isName z=true):z.length≤8:=by
 unfold isName at h
 rw[Bool.and_eq_true]at h
 exact(of_decide_eq_true h.1).2
theorem lC{cs:List bW}(hc:aY cs=true){z:Str}(hz:z∈cs.map Prod.fst):isName z=true:=by
 obtain⟨c,hcm,e⟩:=List.mem_map.mp hz
 unfold aY at hc
 simp only[Bool.and_eq_true,List.all_eq_true]at hc
 rw[<-e]
 exact(hc.1.2 c hcm).1
theorem yg{cs:List bW}(hc:aY cs=true){M:Mk}(h:fM cs M):(wJ M.os).length≤100:=by
 have h1:=SN (M.os.map eO) 9 λp hp=>by
  obtain⟨o,ho,rfl⟩:=List.mem_map.mp hp
  have :=gP (lC hc (h.names o ho))
  have l1:(Str.ofString "+").length=1:=by decide+kernel
  have l2:(Str.ofString "-").length=1:=by decide+kernel
  unfold eO
  rw[len_app]
  split <;>omega
 have h2:=nM (M.os.map eO)
 have h3:=h.len
 rw[List.length_map]at h1 h2
 unfold wJ
 omega
theorem yR{cs:List bW}(hc:aY cs=true){M:Mk}(h:fM cs M):((jh M).map (·.length)).sum≤3200/\(bK M).length≤3300:=by
 have h1:(dZ M.living).length=1:=by cases M.living<;>decide+kernel
 have h2:=dF (i:=(M.moment:Int)) (k:=4) (by decide) (by have :=h.moment;have :(10:Nat)^4>5000:=by decide
                                                        omega)
 have h3:=yg hc h
 have h4:=h.short
 have h5:=Af hc h
 have e:((jh M).map (·.length)).sum=(dZ M.living).length+((Str.ofString (toString (M.moment:Int))).length+((wJ M.os).length+(M.sieve.length+((lg M.cut).length+0)))):=rfl
 have h6:=HX (jh M)
 have e2:(jh M).length=5:=rfl
 unfold bK
 omega
theorem xH{cs:List bW}(hc:aY cs=true){M:Mk}(h:fM cs M):∀c∈(bK M).cps.toList,c<1114112:=by
 have key:∀ps:List Str,(∀p∈ps,plainS p)->∀c∈(Str.join "/" ps).cps.toList,c<1114112:=by
  intro ps
  induction ps with
  |nil=>intro _ c hc;have :c∈([]:List Nat):=hc;simp at this
  |cons p r ih=>
   intro hp c hcm
   cases r with
   |nil=>have :=hp p (by simp) c hcm;omega
   |cons q r=>
    have e:(Str.join "/" (p::q::r)).cps.toList=(p++Str.ofString "/"++Str.join "/" (q::r)).cps.toList:=rfl
    rw[e,aW,aW]at hcm
    rcases List.mem_append.mp hcm with hcm |hcm
    .rcases List.mem_append.mp hcm with hcm |hcm
     .have :=hp p (by simp) c hcm;omega
     .have :∀c∈(Str.ofString "/").cps.toList,c<1114112:=by decide+kernel
      exact this c hcm
    .exact ih (λx hx=>hp x (by simp[hx])) c hcm
 exact key _ (nq hc h)
def DK(K:W.Frag):Sp:=λvs H Q _=>∃(a C dx:Addr) (fs:List (Str×V)) (v:V),vs=[.ref a]/\H a=some (.ins C dx fs)/\oY K C/\aU K C "text"/\fs.lookup (Str.ofString "text")=some v/\Q v H
theorem iR{cc:Bool}:FD P w K mg base cc 1 "shown" "Sieve.shown" aG ["self"] (DK K):=by
 refine ym (λvs H Q E h=>by obtain⟨a,C,dx,fs,v,rfl,_⟩:=h;rfl) (λf cdv A outer s H vs Q E hr h=>?_)
 obtain⟨a,C,dx,fs,v,rfl,ha,hc,hn,hl,q⟩:=h
 refine aF (bz ?_)
 refine aex (by rfl) ?_
 walk_at "e"
 exact⟨a,C,dx,fs,v,rfl,ha,hc,hn,hl,q⟩
def QQ(mg:Str->Option Value):Tr->Addr
 | .one .all=>aj mg "AllSieve"
 | .one (.none _)=>aj mg "NoneSieve"
 | .one (.look l _ _)=>ajo mg l
 | .nt _=>aj mg "NotSieve"
 | .bo _ _=>aj mg "BothSieve"
 | .ei _ _=>aj mg "EitherSieve"
theorem mZ.txt{mg:Str->Option Value}{H:Hp}:∀{t:Tr} {a:Addr} {z:Str},mZ mg H t a z->∃dx fs,H a=some (.ins (QQ mg t) dx fs)/\fs.lookup (Str.ofString "text")=some (.str z)/\fs.lookup (Str.ofString "shown")=none
 | .one .all,a,z,h=>by obtain⟨dx,h⟩:=h;exact⟨dx,_,h,rfl,rfl⟩
 | .one (.none p),a,z,h=>by obtain⟨dx,h⟩:=h;exact⟨dx,_,h,rfl,rfl⟩
 | .one (.look l p v),a,z,h=>by obtain⟨dx,h⟩:=h;exact⟨dx,_,h,rfl,rfl⟩
 | .nt t,a,z,h=>by obtain⟨dx,b,y,h,_⟩:=h;exact⟨dx,_,h,rfl,rfl⟩
 | .bo t u,a,z,h=>by obtain⟨dx,b,c,y,x,h,_⟩:=h;exact⟨dx,_,h,rfl,rfl⟩
 | .ei t u,a,z,h=>by obtain⟨dx,b,c,y,x,h,_⟩:=h;exact⟨dx,_,h,rfl,rfl⟩
theorem aag(T:Txt K mg):∀t:Tr,aew P w K mg base true 1 (QQ mg t) "shown" ["self"] (DK K)/\oY K (QQ mg t)/\aU K (QQ mg t) "text"
 | .one .all=>⟨iR.meth T.qO T.vd,T.qO,T.lu⟩
 | .one (.none _)=>⟨iR.meth T.oO T.rT,T.oO,T.jM⟩
 | .one (.look .is _ _)=>⟨iR.meth T.vM T.wY,T.vM,T.mF⟩
 | .one (.look .under _ _)=>⟨iR.meth T.lH T.rM,T.lH,T.jw⟩
 | .one (.look .over _ _)=>⟨iR.meth T.oA T.su,T.oA,T.jD⟩
 | .one (.look .holds _ _)=>⟨iR.meth T.lO T.rK,T.lO,T.jk⟩
 | .nt _=>⟨iR.meth T.rJ T.uV,T.rJ,T.kI⟩
 | .bo _ _=>⟨iR.meth T.nu T.tu,T.nu,T.jK⟩
 | .ei _ _=>⟨iR.meth T.jR T.pG,T.jR,T.iI⟩
def tY(K:W.Frag):Sp:=λvs H Q _=>∃(p q:Addr) (cs:List bW) (xs:List V),vs=[.ref p,.ref q]/\H p=some (.lst ((cs.map Prod.snd).map V.str))/\H q=some (.lst ((xs.map wordOf).map V.str))/\cs.length≤1000/\(∀c∈cs,c.2="number"\/c.2="text")/\d9 (λc x=>mV c.2 x) cs xs/\
 ∀r H',aq H H'->H r=none->H' r=some (.lst xs)->Q (.ref r) H'
theorem jU(T:Txt K mg):Def P w K mg base true 6 "read_values" ["kinds","words"] (tY K):=by
 refine yr T (λvs H Q E h=>by obtain⟨p,q,cs,xs,rfl,_⟩:=h;rfl) (λf cdv A outer s H vs Q E hr h=>?_)
 obtain⟨p,q',cs,xs,rfl,hp,hq,hcl,hk,hall,q⟩:=h
 have n1:=T.jQ
 have n2:=T.aiG
 have X4:(["kind","word"]:List Str).Nodup:=by decide+kernel
 have hsz:sizeLine=16777216:=sizeLine_eq
 have D1:Def P w K mg base true 5 "read_value" ["kind","word"] (CG (.ref (aj mg "NoValue"))):=iZ T
 have hl:=hall.len
 have l1:((cs.map Prod.snd).map V.str).length=cs.length:=by rw[List.length_map,List.length_map]
 have l2:((xs.map wordOf).map V.str).length=xs.length:=by rw[List.length_map,List.length_map]
 have SP:bf K H p ((cs.map Prod.snd).map V.str):=bf.of hp
 have SQ:bf K H q' ((xs.map wordOf).map V.str):=bf.of hq
 refine ak ?_
 walk_at "go"
 rw[l1,l2, <-hl]
 rw[decide_eq_true (rfl:V.int ((cs.length:Nat):Int)=V.int ((cs.length:Nat):Int))]
 walk_at "t"
 refine aN ?_
 refine aF (bz ?_)
 refine Ui ["kind","word"] (σ':=[none,none]) (by rfl) (by rfl) (cC (aa cJ) (by rfl) (by rfl) (by decide+kernel)) (by rfl) n2 (by rfl) (by rfl) ?_
 walk_at "e"
 walk_at "e"
 refine⟨p,q',_,_,rfl,rfl,hp,hq,by rw[l1];omega,λτ=>∃o1 o2,τ=[o1,o2],λE2 i u H'=>∃x,xs[i]? =some x/\u=x,⟨none,none,rfl⟩,λE2 i u H2 H3 ys _ _ p=>p,λfp E2 C s3 H0 i τ x H5 H6 Ig hi hτ Q6 hys hG=>?_,λE2 H5 ys Ig hl2 hx2 e5 Q6=>?_⟩
 .obtain⟨o1,o2,rfl⟩:=hτ
  obtain⟨t,y,z,rfl,htn,rfl,hy,hz⟩:=hG
  rw[List.getElem?_map,List.getElem?_map]at hy hz
  obtain⟨c,hc,rfl⟩:∃c,cs[i]? =some c/\V.str c.2=y:=by
   cases e:cs[i]? with
   |none=>rw[e]at hy;cases hy
   |some c=>rw[e]at hy;exact⟨c,rfl,Option.some.inj hy⟩
  obtain⟨x,hx,hv⟩:=hall.get hc
  rw[hx]at hz
  have hz':z= .str (wordOf x):=(Option.some.inj hz).symm
  subst hz'
  have hw:=hv.word (hk c (List.mem_of_getElem? hc))
  have Ey:aq H5 (upd H5 t (.tup [.str c.2,.str (wordOf x)])):=aq.upd htn
  refine fW (by rfl) (by rfl) (by rfl) (fK.of ao) (by rfl) (aO (by rfl) (aM X4 (by rfl) (.inl rfl) (.inr rfl) (aO (by rfl) (aM X4 (by rfl) (.inl rfl) (.inr rfl) (dm ?_)))))
  generalize upd H5 t (.tup [.str c.2,.str (wordOf x)])=H7 at Ey⊢
  walk_at "go"
  refine⟨c.2,wordOf x,rfl,by omega,λH8 sm8=>?_⟩
  rw[hw.1]
  exact⟨⟨_,_,rfl⟩,⟨x,hx,rfl⟩,Ey.trans sm8⟩
 .have hyl:ys.length=xs.length:=by rw[hl2,l1,l2];omega
  have ey:=eY (ys:=xs) (λx=>x) hyl hx2
  rw[List.map_id']at ey
  subst ey
  exact q E2 H5 Q6 Ig e5
theorem ZD{i:Nat}{m:Int}(h:(i:Int)≤m):wL (Str.ofString (toString (i:Int))).cps.toList m=some (i:Int):=by
 obtain⟨a,b⟩:=Dz i
 unfold wL
 rw[a,b,if_pos ⟨rfl,h⟩]
def Ay:Sp:=λvs H Q _=>∃b:Bool,vs=[.str (dZ b)]/\∀H',aq H H'->Q (.str (j8 b)) H'
theorem m9(T:Txt K mg):Def P w K mg base true 1 "read_make" ["letter"] Ay:=by
 refine Dg T (λvs H Q E h=>by obtain⟨b,rfl,_⟩:=h;rfl) (λf cdv A outer s H vs Q E hr h=>?_)
 obtain⟨b,rfl,q⟩:=h
 have nd:=sO.nd
 have g1:=T.VJ
 have g2:=T.Yh
 have hsz:sizeLine=16777216:=sizeLine_eq
 refine ak (aab (by walk_at "po") (by rfl) (by intro _;rfl) ?_)
 walk_at "ex"
 refine⟨by show 2≤sizeLine;omega,λt ht=>?_⟩
 have st:aq H (upd H t (.tup [.str (Str.ofString "living"),.str (Str.ofString "still")])):=aq.upd ht
 have et:(upd H t (.tup [.str (Str.ofString "living"),.str (Str.ofString "still")])) t=some (.tup [.str (Str.ofString "living"),.str (Str.ofString "still")]):=ao
 refine⟨t,_,rfl,fK.of et,λi σ H'=>(∃o,σ=[some (.str (dZ b)),o])/\H'=upd H t (.tup [.str (Str.ofString "living"),.str (Str.ofString "still")])/\(1≤i->b=false)/\i<2,⟨⟨none,rfl⟩,rfl,λh=>absurd h (by omega),by omega⟩,λi σ' H' hi hP=>?_,λi x σ' H' hx hP=>?_,λσ' H' hP=>?_⟩
 .obtain⟨_,rfl,_⟩:=hP
  exact fK.of et
 .obtain⟨⟨o,rfl⟩,rfl,hb,hi2⟩:=hP
  refine aM nd (by rfl) (.inl rfl) (.inl rfl) ?_
  match i,hi2,hx with
  |0,_,hx=>
   have hx':x= .str (Str.ofString "living"):=(Option.some.inj hx).symm
   subst hx'
   refine aF (cB ?_)
   walk_at "ex"
   refine mQ (n:=108) (by rw[hsz];decide+kernel) (by decide+kernel) ?_
   walk_at "ex"
   cases b with
   |true=>
    refine fY (λ_=>?_) (λh=>absurd (by decide+kernel) h)
    refine aF (bz ?_)
    walk_at "ex"
    exact q _ st
   |false=>
    refine fY (λh=>absurd h (by decide+kernel)) (λ_=>?_)
    exact aN ⟨⟨_,rfl⟩,rfl,λ_=>rfl,by omega⟩
  |1,_,hx=>
   have hx':x= .str (Str.ofString "still"):=(Option.some.inj hx).symm
   subst hx'
   have hb:=hb (by omega)
   subst hb
   refine aF (cB ?_)
   walk_at "ex"
   refine mQ (n:=115) (by rw[hsz];decide+kernel) (by decide+kernel) ?_
   walk_at "ex"
   refine fY (λ_=>?_) (λh=>absurd (by decide+kernel) h)
   refine aF (bz ?_)
   walk_at "ex"
   exact q _ st
 .obtain⟨_,_,_,h⟩:=hP
  exact absurd h (by show ¬2<2;omega)
def qz:Sp:=λvs H Q _=>∃(i:Nat) (m:Int),vs=[.str (Str.ofString (toString (i:Int))),.int m]/\(m=5000\/m=1000000000)/\(i:Int)≤m/\∀H',aq H H'->Q (.int (i:Int)) H'
theorem iQ(T:Txt K mg):Def P w K mg base true 4 "read_whole" ["word","most"] qz:=by
 refine zZ T (λvs H Q E h=>by obtain⟨i,m,rfl,_⟩:=h;rfl) (λf cdv A outer s H vs Q E hr h=>?_)
 obtain⟨i,m,rfl,hm,him,q⟩:=h
 have nd:=pP.nd
 have D1:Def P w K mg base true 3 "read_figures" ["word","most"] DG:=gr T
 have hp:(10:Nat)^60>1000000000:=by decide
 have hl:=dF (i:=(i:Int)) (k:=10) (by decide) (by have :(10:Nat)^10>1000000000:=by decide
                                                  omega)
 obtain⟨k,hk,hmk,k1,k2⟩:∃k,(Str.ofString (toString m)).length=k/\m<((10^k:Nat):Int)/\1≤k/\k≤600:=by
  rcases hm with rfl |rfl
  .exact⟨4,by decide+kernel,by decide,by omega,by omega⟩
  .exact⟨10,by decide+kernel,by decide,by omega,by omega⟩
 walk_at "A"
 refine⟨_,m,k,rfl,by omega,by omega,by omega,hk,hmk,k1,k2,λH1 iu=>?_⟩
 rw[ZD him]
 refine ak (cB ?_)
 walk_at "ex"
 refine aN (aF (bz ?_))
 walk_at "ex"
 exact q H1 iu
def Ag:Sp:=λvs H Q _=>∃b:Bool,vs=[.str (jt b)]/\Q (.str (jN b)) H
theorem oK(T:Txt K mg):Def P w K mg base true 1 "read_side" ["sign"] Ag:=by
 refine Dq T (λvs H Q E h=>by obtain⟨b,rfl,_⟩:=h;rfl) (λf cdv A outer s H vs Q E hr h=>?_)
 obtain⟨b,rfl,q⟩:=h
 have g1:=T.Ed
 have g2:=T.zY
 have g3:=T.Yy
 have g4:=T.Xd
 refine ak (cB ?_)
 walk_at "ex"
 cases b with
 |true=>
  refine fY (λ_=>?_) (λh=>absurd rfl h)
  refine aF (bz ?_)
  walk_at "ex"
  exact q
 |false=>
  refine fY (λh=>absurd h (by decide+kernel)) (λ_=>?_)
  refine aN (ak (cB ?_))
  walk_at "ex"
  refine fY (λ_=>?_) (λh=>absurd rfl h)
  refine aF (bz ?_)
  walk_at "ex"
  exact q
theorem Vx{cs:List bW}{z:Str}(h:∃c∈cs,c.1=z):∃c,cs[bR cs z]? =some c/\c.2=jC cs z:=by
 have hp:=kW h
 refine⟨cs[bR cs z],List.getElem?_eq_getElem hp,?_⟩
 unfold jC
 rw[List.getElem?_eq_getElem hp]
theorem fM.aks{cs:List bW}{M:Mk}(h:fM cs M):∀o∈M.os,∃c∈cs,c.1=o.1:=λo ho=>by
 obtain⟨c,hc,e⟩:=List.mem_map.mp (h.names o ho)
 exact⟨c,hc,e⟩
theorem Gr(C:Cut):∃n,jt C.ahead=⟨#[n]⟩/\(lg C).cps.toList=n::(Str.join " " (nG C)).cps.toList:=by
 unfold lg
 cases C.ahead
 .exact⟨62,by decide+kernel,by rw[aW,show(jt false).cps.toList=[62]from by decide+kernel];rfl⟩
 .exact⟨60,by decide+kernel,by rw[aW,show(jt true).cps.toList=[60]from by decide+kernel];rfl⟩
theorem Zq{cs:List bW}(hc:aY cs=true){M:Mk}(h:fM cs M):cN 32 (Str.join " " (nG M.cut))=nG M.cut:=by
 refine xT (by simp[nG]) λp hp=>?_
 rcases List.mem_cons.mp hp with rfl |hp
 .intro hm
  have :=gZ (M.cut.row:Int) 32 hm
  omega
 .obtain⟨x,hx,rfl⟩:=List.mem_map.mp hp
  exact(h.O2 hc x hx).2.2
def kcs(cs:List bW)(os:List Ord):List bW:=os.map λo=>(o.1,jC cs o.1)
theorem Ou{cs:List bW}:∀{os:List Ord} {xs:List V},d9 (λ(o:Ord) x=>mV (jC cs o.1) x) os xs->d9 (λ(c:bW) x=>mV c.2 x) (kcs cs os) xs
 |_,_,.nil=>.nil
 |_,_,.cons r t=>.cons r (Ou t)
def HY:Sp:=λvs H Q _=>∃(a b:Addr) (M:Mk) (cs:List bW),vs=[.ref a,.ref b,.str (lg M.cut)]/\gD H a cs/\tE H b M.os/\aY cs=true/\fM cs M/\∀p H',aq H H'->H p=none->Hw H' p M.cut->(∀k v,H' p=some (.tup [.str (jN M.cut.ahead),.ref k])->H' k=some (.tup [.ref v,.int M.cut.row])->H v=none)->Q (.ref p) H'
theorem rQ(T:Txt K mg):Def P w K mg base true 7 "read_cut" ["columns","order","text"] HY:=by
 refine Gg T (λvs H Q E h=>by obtain⟨a,b,M,cs,rfl,_⟩:=h;rfl) (λf cdv A outer s H vs Q E hr h=>?_)
 obtain⟨a,b,M,cs,rfl,hC,⟨ws,hb,hws⟩,hc,hM,q⟩:=h
 have nd:=wG.nd
 have g1:=T.zH
 have hsz:sizeLine=16777216:=sizeLine_eq
 have nd3:(["name","up","columns"]:List Str).Nodup:=by decide+kernel
 have D1:Def P w K mg base true 1 "read_side" ["sign"] Ag:=oK T
 have D2:Def P w K mg base true 4 "read_whole" ["word","most"] qz:=iQ T
 have D3:Def P w K mg base true 6 "read_values" ["kinds","words"] (tY K):=jU T
 have D4:Def P w K mg base true 1 "place_of" ["columns","name"] xj:=jn T
 have hlen:=Af hc hM
 obtain⟨n,en,ecs⟩:=Gr M.cut
 have eS:bQ (lg M.cut) none (some 1)=jt M.cut.ahead:=by
  apply bU
  rw[show bQ (lg M.cut) none (some 1)=bQ (lg M.cut) none (some ((1:Nat):Int))from rfl,lL,ecs,en]
  rfl
 have eR:bQ (lg M.cut) (some 1) none=Str.join " " (nG M.cut):=by
  apply bU
  have :=lq (lg M.cut) 1
  rw[show((1:Nat):Int)=1 from rfl]at this
  rw[this,ecs]
  rfl
 have hwl:=hws.len
 have ay8:=hM.len
 walk_at "A"
 refine iJ (by omega) ?_
 rw[eS]
 walk_at "ex"
 refine⟨M.cut.ahead,rfl,?_⟩
 refine ak ?_
 walk_at "s"
 refine ju F.plainAttrs_str F.slot_str_split F.type_str_split (by rfl) (by rfl) (by rfl) (by rfl) (by rfl) ?_
 walk_at "ex"
 refine iJ (by omega) ?_
 rw[eR]
 walk_at "ex"
 obtain⟨kl1,kl2⟩:=GK hc hM
 have ayN:=SN _ 21 kl1
 have kj:=nM (nG M.cut)
 refine m_split (c:=32) (by omega) λl1 h1=>?_
 rw[Zq hc hM]
 have s1:aq H (upd H l1 (.lst ((nG M.cut).map V.str))):=aq.upd h1
 have e1:(upd H l1 (.lst ((nG M.cut).map V.str))) l1=some (.lst ((nG M.cut).map V.str)):=ao
 generalize upd H l1 (.lst ((nG M.cut).map V.str))=H1 at s1 e1⊢
 walk_at "A"
 refine bw (bf.of e1) (show qg ((nG M.cut).map V.str) ((0:Nat):Int)=some (V.str (Str.ofString (toString (M.cut.row:Int))))from bD rfl) ?_
 walk_at "ex"
 refine⟨M.cut.row,1000000000,rfl,.inr rfl,by have :=hM.row;omega,λH2 s2=>?_⟩
 have s12:=s1.trans s2
 refine ak ?_
 refine Hz ["name","up","columns"] (σ':=[none,none,some (.ref a)]) (by rfl) (by rfl) (by rfl) (cC (aa fH) (by rfl) (by rfl) (by decide+kernel)) (by intro _;rfl) nd (by rfl) (by rfl) ?_
 walk_at "e"
 refine⟨b,ws,rfl,bf.of (s12 _ _ hb),by omega,λτ=>∃o1 o2,τ=[o1,o2,some (.ref a)],λE2 i u H'=>∃o,M.os[i]? =some o/\u= .str (jC cs o.1),⟨none,none,rfl⟩,λE2 i u H2 H3 ys _ _ p=>p,λfp E2 C s3 H0 i τ x H4 H3 Ig hi hτ sW hys hG=>?_,λE2 H4 ys Ig hl2 hx2 e4 sW=>?_⟩
 .obtain⟨o1,o2,rfl⟩:=hτ
  obtain⟨PJ,rfl⟩:=hG
  obtain⟨o,ho,t,rfl,ht⟩:=hws.get PJ
  refine fW (by rfl) (by rfl) (by rfl) (fK.of (sW _ _ (s12 _ _ ht))) (by rfl) (aO (by rfl) (aM nd3 (by rfl) (.inl rfl) (.inr rfl) (aO (by rfl) (aM nd3 (by rfl) (.inl rfl) (.inr rfl) (dm ?_)))))
  walk_at "ex"
  have hC4:=(hC.same s12).same sW
  refine⟨a,cs,o.1,rfl,hC4,λH5 Q6=>?_⟩
  have hio:=hM.aks o (List.mem_of_getElem? ho)
  rw[yZ 0 hio,Nat.zero_add]
  obtain⟨c,hg,hk⟩:=Vx hio
  obtain⟨vs,ea,avs⟩:=hC4.same Q6
  obtain⟨cv,gc,tc,rfl,htc⟩:=avs.get' hg
  refine bw (bf.of ea) (bD gc) ?_
  walk_at "ex"
  refine iH (fK.of htc) (show qg [V.str c.1,V.str c.2] 1=some (V.str c.2)from rfl) ?_
  exact⟨⟨_,_,rfl⟩,⟨o,ho,by rw[hk]⟩,Q6⟩
 .have ey:=eY (ys:=M.os) (λo=>V.str (jC cs o.1)) (by rw[hl2,hwl]) hx2
  have RL:ys=((kcs cs M.os).map Prod.snd).map V.str:=by rw[ey];unfold kcs;rw[List.map_map,List.map_map];rfl
  subst RL
  have s14:=s12.trans sW
  have e14:=sW _ _ (s2 _ _ e1)
  refine aF (bz ?_)
  walk_at "ex"
  refine Vz (bf.of e14) λl2 h2=>?_
  have ana:yd ((nG M.cut).map V.str) (some 1) none=(M.cut.xs.map wordOf).map V.str:=by
   rw[show(some (1:Int))=some ((1:Nat):Int)from rfl,Qm]
   rfl
  rw[ana]
  have s5:aq H4 (upd H4 l2 (.lst ((M.cut.xs.map wordOf).map V.str))):=aq.upd h2
  have e5:(upd H4 l2 (.lst ((M.cut.xs.map wordOf).map V.str))) l2=some (.lst ((M.cut.xs.map wordOf).map V.str)):=ao
  generalize upd H4 l2 (.lst ((M.cut.xs.map wordOf).map V.str))=H5 at s5 e5⊢
  walk_at "ex"
  refine⟨E2,l2,kcs cs M.os,M.cut.xs,rfl,s5 _ _ e4,e5,by unfold kcs;rw[List.length_map];omega,λc hcm=>?_,Ou hM.vals,λv H6 s6 hv ev=>?_⟩
  .obtain⟨o,ho,rfl⟩:=List.mem_map.mp hcm
   exact Gw hc (hM.names o ho)
  walk_at "ex"
  refine⟨by show 2≤sizeLine;omega,λk hk=>?_⟩
  have s7:aq H6 (upd H6 k (.tup [.ref v,.int M.cut.row])):=aq.upd hk
  have e7:(upd H6 k (.tup [.ref v,.int M.cut.row])) k=some (.tup [.ref v,.int M.cut.row]):=ao
  generalize upd H6 k (.tup [.ref v,.int M.cut.row])=H7 at s7 e7⊢
  walk_at "ex"
  refine⟨by show 2≤sizeLine;omega,λp hp=>?_⟩
  have s8:aq H7 (upd H7 p (.tup [.str (jN M.cut.ahead),.ref k])):=aq.upd hp
  have s06:=s14.trans (s5.trans s6)
  have hv0:H v=none:=(s14.trans s5).free hv
  refine q p _ (s06.trans (s7.trans s8)) ((s06.trans s7).free hp) ⟨k,v,ao,s8 _ _ e7,s8 _ _ (s7 _ _ ev)⟩ λk' v' z1 z2=>?_
  rw[ao]at z1
  injection z1 with z1
  injection z1 with z1
  injection z1 with _ z1
  injection z1 with z1 _
  injection z1 with z1
  subst z1
  rw[s8 _ _ e7]at z2
  injection z2 with z2
  injection z2 with z2
  injection z2 with z2 _
  injection z2 with z2
  subst z2
  exact hv0
def Be:Sp:=λvs H Q _=>∃(a:Addr) (M:Mk) (cs:List bW),vs=[.ref a,.str (bK M)]/\gD H a cs/\aY cs=true/\fM cs M/\∀p o c k v H',aq H H'->H' p=some (.tup [.str (j8 M.living),.int M.moment,.ref o,.str M.sieve,.ref c])->H o=none->tE H' o M.os->H' c=some (.tup [.str (jN M.cut.ahead),.ref k])->H' k=some (.tup [.ref v,.int M.cut.row])->H v=none->H' v=some (.lst M.cut.xs)->o≠v->Q (.ref p) H'
theorem nY(T:Txt K mg):Def P w K mg base true 51 "read_body" ["columns","body"] Be:=by
 refine CT T (λvs H Q E h=>by obtain⟨a,M,cs,rfl,_⟩:=h;rfl) (λf cdv A outer s H vs Q E hr h=>?_)
 obtain⟨a,M,cs,rfl,hC,hc,hM,q⟩:=h
 have nd:=tU.nd
 have g1:=T.Rr
 have g2:=T.Z3
 have g3:=T.Ti
 have n1:=T.jQ
 have hsz:sizeLine=16777216:=sizeLine_eq
 obtain⟨t,hdp,hrd⟩:=hM.reads
 have D1:Def P w K mg base true 1 "read_make" ["letter"] Ay:=m9 T
 have D2:Def P w K mg base true 4 "read_whole" ["word","most"] qz:=iQ T
 have D3:Def P w K mg base true 3 "read_order" ["columns","text"] (Nx (.ref (aj mg "NoOrder"))):=lD T
 have D4:Def P w K mg base true (9+2*t.dep) "read_sieve" ["columns","text"] (Bq mg t):=zF T t
 have D5:Def P w K mg base true 7 "read_cut" ["columns","order","text"] HY:=rQ T
 obtain⟨M2,kc,na⟩:=aag (P:=P) (w:=w) (base:=base) T t
 obtain⟨b1,b2⟩:=yR hc hM
 refine ak ?_
 walk_at "s"
 refine ju F.plainAttrs_str F.slot_str_split F.type_str_split (by rfl) (by rfl) (by rfl) (by rfl) (by rfl) ?_
 walk_at "ex"
 refine m_split (c:=47) (by omega) λl1 h1=>?_
 rw[WR hc hM]
 have s1:aq H (upd H l1 (.lst ((jh M).map V.str))):=aq.upd h1
 have e1:(upd H l1 (.lst ((jh M).map V.str))) l1=some (.lst ((jh M).map V.str)):=ao
 generalize upd H l1 (.lst ((jh M).map V.str))=H1 at s1 e1⊢
 have sq1:bf K H1 l1 ((jh M).map V.str):=bf.of e1
 refine ak (cB ?_)
 walk_at "ex"
 refine ifN (λh=>absurd rfl h) (λ_=>?_)
 refine aN (ak ?_)
 walk_at "s"
 walk_at "ex"
 refine bw sq1 (i:=0) rfl ?_
 walk_at "ex"
 refine⟨M.living,rfl,λH2 s2=>?_⟩
 walk_at "A"
 refine bw (s2.seq sq1) (i:=1) rfl ?_
 walk_at "ex"
 refine⟨M.moment,5000,rfl,.inl rfl,by have :=hM.moment;omega,λH3 s3=>?_⟩
 have s23:=s2.trans s3
 walk_at "A"
 refine bw (s23.seq sq1) (i:=2) rfl ?_
 walk_at "ex"
 have hro:pD cs (wJ M.os)=some M.os:=Rq hM.len hM.nodup hM.aks λo ho hm=>by
  have hn:=lC hc (hM.names o ho)
  unfold isName gR at hn
  rw[Bool.and_eq_true,List.all_eq_true]at hn
  exact absurd (of_decide_eq_true (hn.2 32 hm)) (by decide+kernel)
 refine⟨a,cs,wJ M.os,rfl,hC.same (s1.trans s23),(by have :=yg hc hM;omega),(λH' sm e=>by rw[hro]at e;cases e),λo os H4 s4 eo ho hO=>?_⟩
 rw[hro]at eo
 cases eo
 have s24:=s23.trans s4
 have ho0:H o=none:=(s1.trans s23).free ho
 walk_at "A"
 refine bw (s24.seq sq1) (i:=3) rfl ?_
 walk_at "ex"
 refine⟨a,cs,M.sieve,rfl,hC.same (s1.trans s24),(by have :=hM.short;omega),hM.words,hdp,hrd,λsv H5 s5 hsv=>?_⟩
 have s25:=s24.trans s5
 have ebt:kY (cN 32 M.sieve) 0 (cN 32 M.sieve).length=M.sieve:=by
  unfold kY
  rw[List.drop_zero,Nat.sub_zero,List.take_length,XQ]
 rw[ebt]at hsv
 obtain⟨dx,fs,es,et,esh⟩:=hsv.txt
 refine aF (bz ?_)
 walk_at "ex"
 refine RZ (pl:=_) hr b8 (by rfl) ?_
 walk_at "e"
 refine⟨sv,QQ mg t,dx,_,true,1,_,DK K,rfl,es,esh,M2,by decide,id,sv,QQ mg t,dx,fs,_,rfl,es,kc,na,et,?_⟩
 walk_at "ex"
 refine bw (s25.seq sq1) (i:=4) rfl ?_
 walk_at "ex"
 refine⟨a,o,M,cs,rfl,hC.same (s1.trans s25),hO.same s5,hc,hM,λc H6 s6 hc0 aah hv=>?_⟩
 walk_at "ex"
 refine⟨by show 5≤sizeLine;omega,λp hp=>?_⟩
 obtain⟨k,v,z1,z2,z3⟩:=aah
 have s7:aq H6 (upd H6 p (.tup [.str (j8 M.living),.int M.moment,.ref o,.str M.sieve,.ref c])):=aq.upd hp
 have s05:=s1.trans s25
 have hv5:=hv k v z1 z2
 obtain⟨ws,eo,_⟩:=hO.same s5
 refine q p o c k v _ (s05.trans (s6.trans s7)) ao ho0 ((hO.same s5).same (s6.trans s7)) (s7 _ _ z1) (s7 _ _ z2) (s05.free hv5) (s7 _ _ z3) λe=>?_
 rw[<-e,eo]at hv5
 cases hv5
def Ak:Sp:=λvs H Q _=>∃(a:Addr) (M:Mk) (cs:List bW),vs=[.ref a,.str (iD M)]/\gD H a cs/\aY cs=true/\fM cs M/\∀p o c k v H',aq H H'->H' p=some (.tup [.str (j8 M.living),.int M.moment,.ref o,.str M.sieve,.ref c])->H o=none->tE H' o M.os->H' c=some (.tup [.str (jN M.cut.ahead),.ref k])->H' k=some (.tup [.ref v,.int M.cut.row])->H v=none->H' v=some (.lst M.cut.xs)->o≠v->Q (.ref p) H'
theorem ni(T:Txt K mg):Def P w K mg base true 52 "read_mark" ["columns","text"] Ak:=by
 refine sE T (λvs H Q E h=>by obtain⟨a,M,cs,rfl,_⟩:=h;rfl) (λf cdv A outer s H vs Q E hr h=>?_)
 obtain⟨a,M,cs,rfl,hC,hc,hM,q⟩:=h
 have nd:=lQ.nd
 have g1:=T.VR
 have hsz:sizeLine=16777216:=sizeLine_eq
 have D1:Def P w K mg base true 51 "read_body" ["columns","body"] Be:=nY T
 have D2:Def P w K mg base true 2 "check_word" ["text"] xR:=iK T
 obtain⟨b1,b2⟩:=yR hc hM
 have hb:=cA (bK M).cps.toList
 have hf:=oX (aP (bK M).cps.toList) (by omega) (by omega)
 have lp:(Str.ofString ".").length=1:=by decide+kernel
 refine ak (gW (by rfl) (by rfl) ?_)
 refine ju PySem.F.plainAttrs_str PySem.F.slot_str_rpartition PySem.F.type_str_rpartition (by rfl) (by rfl) (by rfl) (by rfl) (by rfl) ?_
 walk_at "ex"
 refine O6 (c:=46) (by unfold iD;rw[len_app,len_app];omega) λt ht=>?_
 have p1:(Txt.rpartition (iD M) ⟨#[46]⟩).1=bK M:=by rw[qW]
 have p2:(Txt.rpartition (iD M) ⟨#[46]⟩).2.1=⟨#[46]⟩:=by rw[qW]
 have p3:(Txt.rpartition (iD M) ⟨#[46]⟩).2.2=cj (aP (bK M).cps.toList):=by rw[qW]
 rw[p1,p2,p3]
 refine fW (by rfl) (by rfl) (by rfl) (fK.of ao) (by rfl) (aO (by rfl) (aM nd (by rfl) (.inl rfl) (.inl rfl) (aO (by rfl) (aM nd (by rfl) (.inl rfl) (.inl rfl) (aO (by rfl) (aM nd (by rfl) (.inl rfl) (.inl rfl) (dm ?_)))))))
 have s1:aq H (upd H t (.tup [.str (bK M),.str ⟨#[46]⟩,.str (cj (aP (bK M).cps.toList))])):=aq.upd ht
 generalize upd H t (.tup [.str (bK M),.str ⟨#[46]⟩,.str (cj (aP (bK M).cps.toList))])=H1 at s1⊢
 refine ak (cB ?_)
 walk_at "ex"
 refine fY (λh=>absurd h (by decide+kernel)) (λ_=>?_)
 walk_at "ex"
 refine⟨bK M,rfl,by omega,xH hc hM,?_⟩
 generalize cj (aP (bK M).cps.toList)=fz
 walk_at "ex"
 refine ifN (λh=>absurd rfl h) (λ_=>?_)
 refine aN (aF ?_)
 refine Ml (λ_ _ _ _=>False) rfl rfl (λF pn xo po=>?_) (λσ c d H' hK=>hK.elim)
 refine aF (bz ?_)
 walk_at "ex"
 exact⟨a,M,cs,rfl,hC.same s1,hc,hM,λp o c k v H' sm z1 z2 z3 z4 z5 z6 z7 z8=>q p o c k v H' (s1.trans sm) z1 (s1.free z2) z3 z4 z5 (s1.free z6) z7 z8⟩
theorem HF{α:Type} [BEq α] [LawfulBEq α]:∀{l m:List α},l.Nodup->(∀x∈l,x∈m)->l.length≤m.length
 |[],m,_,_=>Nat.zero_le _
 |a::r,m,h,s=>by
  have h':=List.nodup_cons.mp h
  have ha:=s a (List.mem_cons_self ..)
  have hle:=HF (l:=r) (m:=m.erase a) h'.2 λx hx=>(List.mem_erase_of_ne (λe=>h'.1 (by subst e;exact hx))).mpr (s x (List.mem_cons_of_mem _ hx))
  rw[List.length_erase_of_mem ha]at hle
  have :=List.length_pos_of_mem ha
  rw[List.length_cons]
  omega
def okO(cs:List bW)(os:List Ord):Prop:=os.length≤4/\(os.map Prod.fst).Nodup/\∀o∈os,o.1∈cs.map Prod.fst
def kO(cs:List bW)(os:List Ord)(i:Nat):Bool:=match cs[i]? with
 |some c=>decide (c.1∉os.map Prod.fst)
 |none=>false
def jq(cs:List bW)(i:Nat):V:=match cs[i]? with
 |some c=>.str c.1
 |none=>.non
theorem OJ{z:Str}:∀{ys:List Str},(!QH (V.str z) (ys.map V.str))=decide (z∉ys)
 |[]=>by simp[QH]
 |y::ys=>by
  have ih:=OJ (z:=z) (ys:=ys)
  have e:QH (V.str z) ((y::ys).map V.str)=((y==z)||QH (V.str z) (ys.map V.str)):=rfl
  rw[e]
  by_cases h:y=z
  .subst h
   simp
  .have h1:(y==z)=false:=by simpa using h
   rw[h1,Bool.false_or,ih]
   have h2:z≠y:=λe=>h e.symm
   simp[h2]
theorem Rz{cs:List bW}{os:List Ord}(hn:(cs.map Prod.fst).Nodup)(ho:(os.map Prod.fst).Nodup)(hlt:os.length<cs.length):0<(dj (kO cs os) (jq cs) cs.length).length:=by
 have ex:∃c∈cs,c.1∉os.map Prod.fst:=by
  refine Classical.byContradiction λh=>?_
  have hall:∀z∈cs.map Prod.fst,z∈os.map Prod.fst:=λz hz=>by
   obtain⟨c,hc,rfl⟩:=List.mem_map.mp hz
   exact Classical.byContradiction λhh=>h ⟨c,hc,hh⟩
  have :=HF hn hall
  rw[List.length_map,List.length_map]at this
  omega
 obtain⟨c,hc,hno⟩:=ex
 obtain⟨i,hi,e⟩:=List.getElem_of_mem hc
 have hm:i∈(List.range cs.length).filter (kO cs os):=by
  rw[List.mem_filter]
  refine⟨List.mem_range.mpr hi,?_⟩
  unfold kO
  rw[List.getElem?_eq_getElem hi,e]
  exact decide_eq_true hno
 unfold dj
 rw[List.length_map]
 exact List.length_pos_of_mem hm
theorem Wg{cs:List bW}{os:List Ord}{k:Nat}{v:V}(h:(dj (kO cs os) (jq cs) cs.length)[k]? =some v):∃c∈cs,v= .str c.1/\c.1∉os.map Prod.fst:=by
 unfold dj at h
 rw[List.getElem?_map]at h
 cases e:((List.range cs.length).filter (kO cs os))[k]? with
 |none=>rw[e]at h;cases h
 |some i=>
  rw[e]at h
  have hm:=List.mem_of_getElem? e
  rw[List.mem_filter]at hm
  have hi:=List.mem_range.mp hm.1
  have h2:=hm.2
  unfold kO at h2
  rw[List.getElem?_eq_getElem hi]at h2
  refine⟨cs[i],List.getElem_mem hi,?_,of_decide_eq_true h2⟩
  have h3:jq cs i=v:=Option.some.inj h
  rw[<-h3]
  unfold jq
  rw[List.getElem?_eq_getElem hi]
def Hf(K:W.Frag):Sp:=λvs H Q _=>∃(a:Addr) (ns:List Int) (b:Int) (c:Addr) (cs:List bW),vs=[.ref a,.int b,.ref c]/\bf K H a (ns.map V.int)/\ns.length≤63/\0≤b/\b≤40000/\gD H c cs/\aY cs=true/\∀p os H',aq H H'->H p=none->tE H' p os->okO cs os->Q (.ref p) H'
theorem lU(T:Txt K mg):Def P w K mg base true 2 "_law_order" ["_law_script","_law_base","_law_columns_here"] (Hf K):=by
 refine zX T (λvs H Q E h=>by obtain⟨a,ns,b,c,cs,rfl,_⟩:=h;rfl) (λf cdv A outer s H vs Q E hr h=>?_)
 obtain⟨a,ns,b,c,cs,rfl,hS,hl,hb0,hb1,⟨vs,hc,hvs⟩,hok,q⟩:=h
 have nd:=p6.nd
 have n1:=T.pB
 have n2:=T.jQ
 have n3:=T.akN
 have hsz:sizeLine=16777216:=sizeLine_eq
 have nd1:(["_law_one","_law_order_here"]:List Str).Nodup:=by decide+kernel
 have X4:(["_law_two"]:List Str).Nodup:=by decide+kernel
 have D1:Def P w K mg base true 1 "_law_draw" ["_law_script","_law_k","_law_many"] (lX K):=cH T
 have hvl:=hvs.len
 have hok':=hok
 unfold aY at hok'
 simp only[Bool.and_eq_true,decide_eq_true_eq]at hok'
 obtain⟨⟨⟨c1,c6⟩,_⟩,hcn⟩:=hok'
 have sqc:bf K H c vs:=bf.of hc
 walk_at "A"
 refine⟨by show 0≤sizeLine;omega,λp hp=>?_⟩
 have RB:aq H (upd H p (.lst [])):=aq.upd hp
 have ep:(upd H p (.lst [])) p=some (.lst []):=ao
 generalize upd H p (.lst [])=H0 at RB ep⊢
 have aAj:=RB.seq sqc
 refine ak ?_
 refine um (by walk_at "po") (by rfl) (by rfl) n1 (by rfl) ?_
 walk_at "ex"
 refine⟨a,ns,b,5,rfl,RB.seq hS,hl,by omega,by omega,by decide,?_⟩
 have d0:=bh ns b (m:=5) (by decide)
 have d1:=bj ns b (m:=5) (by decide)
 generalize bH ns b 5=dn at d0 d1⊢
 walk_at "ex"
 refine acr (by rfl) λm hm0 hm1 hm2 hm3=>?_
 have m0:0≤m:=by omega
 walk_at "ex"
 refine⟨by omega,by omega,λi σ H'=>(∃o1 o2,σ=[some (.ref a),some (.int b),some (.ref c),some (.ref p),o1,o2])/\aq H H'/\∃os:List Ord,tE H' p os/\os.length=i/\(os.map Prod.fst).Nodup/\∀o∈os,o.1∈cs.map Prod.fst,
  ⟨⟨none,none,rfl⟩,RB,[],⟨[],ep,.nil⟩,rfl,.nil,by simp⟩,λi σ H' hi hP=>?_,λσ H' hP=>?_⟩
 .obtain⟨⟨o1,o2,rfl⟩,sm,os,⟨ws,hp',hws⟩,hol,hon,hin⟩:=hP
  have hwl:=hws.len
  have hi':(i:Int)<m:=by omega
  have hS':=sm.seq hS
  have hilt:os.length<cs.length:=by omega
  have hle:=Rz hcn hon hilt
  refine aM nd (by rfl) (.inl rfl) (.inl rfl) ?_
  refine ak ?_
  refine Tq ["_law_one","_law_order_here"] (σ':=[none,some (.ref p)]) (by rfl) (by rfl) (by rfl) (cC (aa cV) (by rfl) (by rfl) (by decide+kernel)) (by intro _;rfl) nd (by rfl) (by rfl) ?_
  walk_at "ex"
  refine⟨c,vs,rfl,sm.seq sqc,by omega,λτ=>∃o1,τ=[o1,some (.ref p)],kO cs os,jq cs,⟨none,rfl⟩,λfp E2 C s3 H0' j τ x H2 Ig hx hτ gw=>?_,λL H2 hL eL gw=>?_⟩
  .obtain⟨o1,rfl⟩:=hτ
   obtain⟨cc,hcc,t,rfl,ht⟩:=hvs.get hx
   have ht2:=gw _ _ (sm _ _ ht)
   refine aM nd1 (by rfl) (.inl rfl) (.inr rfl) ?_
   walk_at "ex"
   refine iH (fK.of ht2) (show qg [V.str cc.1,V.str cc.2] 0=some (V.str cc.1)from rfl) ?_
   refine yx ["_law_two"] (σ':=[none]) (by rfl) (by rfl) (cC _ (by rfl) (by rfl) (by rfl)) (by intro _;rfl) ?_
   walk_at "ex"
   refine⟨p,ws,rfl,bf.of (gw _ _ hp'),by omega,λτ=>∃o1,τ=[o1],λE3 i u H'=>∃o,os[i]? =some o/\u= .str o.1,⟨none,rfl⟩,λE3 i u H2 H3 ys _ _ p=>p,λfp3 E3 C3 s33 H03 i3 τ3 x3 H43 H33 hE3 hi3 hτ3 Zk aAM hG3=>?_,λE3 H43 ys3 hE3 hl3 PJ e43 Zk=>?_⟩
   .obtain⟨o1,rfl⟩:=hτ3
    obtain⟨hx4,rfl⟩:=hG3
    obtain⟨oo,hoo,t3,rfl,ht3⟩:=hws.get hx4
    refine aM X4 (by rfl) (.inl rfl) (.inr rfl) ?_
    walk_at "ex"
    refine iH (fK.of (Zk _ _ (gw _ _ ht3))) (show qg [V.str oo.1,V.bl oo.2] 0=some (V.str oo.1)from rfl) ?_
    exact⟨⟨_,rfl⟩,⟨oo,hoo,rfl⟩,aq.refl _⟩
   .have ey:=eY (ys:=os) (λo=>V.str o.1) (by rw[hl3,hwl]) PJ
    have RL:ys3=(os.map Prod.fst).map V.str:=by rw[ey,List.map_map];rfl
    subst RL
    refine aeW (bf.of e43) (by rfl) (by rw[List.all_map];exact List.all_eq_true.mpr λ_ _=>rfl) ?_
    refine⟨_,rfl,?_⟩
    refine⟨?_,⟨_,rfl⟩,Zk,λhk=>?_⟩
    .unfold kO
     rw[hcc,OJ]
    .walk_at "ex"
     refine iH (fK.of (Zk _ _ ht2)) (show qg [V.str cc.1,V.str cc.2] 0=some (V.str cc.1)from rfl) ?_
     refine⟨?_,aq.refl _⟩
     unfold jq
     rw[hcc]
  .have Ei:=sm.trans gw
   have hp2:=gw _ _ hp'
   have sqL:bf K H2 L (dj (kO cs os) (jq cs) vs.length):=bf.of eL
   rw[hvl]at sqL
   have hkl:=lr (kO cs os) (jq cs) cs.length
   refine aF (gB (by rfl) (ju F.plainAttrs_list F.slot_list_append F.type_list_append (by rfl) (by rfl) (by rfl) (by rfl) (by rfl) ?_))
   walk_at "e"
   refine⟨.inl ⟨rfl,_,bf.of hp2⟩,?_⟩
   walk_at "ex"
   refine⟨a,ns,_,_,rfl,Ei.seq hS,hl,by omega,by omega,by omega,?_⟩
   have k0:=bh ns (b+1+(i:Int)) (m:=((dj (kO cs os) (jq cs) cs.length).length:Int)) (by omega)
   have k1:=bj ns (b+1+(i:Int)) (m:=((dj (kO cs os) (jq cs) cs.length).length:Int)) (by omega)
   obtain⟨k,ek⟩:=Int.eq_ofNat_of_zero_le k0
   rw[ek]at k1⊢
   have hk:k<(dj (kO cs os) (jq cs) cs.length).length:=by omega
   obtain⟨cc,hcc,ecc,hno⟩:=Wg (List.getElem?_eq_getElem hk)
   refine bw sqL (bD (by rw[List.getElem?_eq_getElem hk,ecc])) ?_
   walk_at "ex"
   refine⟨a,ns,_,2,rfl,Ei.seq hS,hl,by omega,by omega,by decide,?_⟩
   walk_at "ex"
   refine⟨by show 2≤sizeLine;omega,λtp htp=>?_⟩
   generalize decide (V.int (bH ns (b+6+(i:Int)) 2)=V.int 0)=up at htp⊢
   have Ey:aq H2 (upd H2 tp (.tup [.str cc.1,.bl up])):=aq.upd htp
   have etp:(upd H2 tp (.tup [.str cc.1,.bl up])) tp=some (.tup [.str cc.1,.bl up]):=ao
   generalize upd H2 tp (.tup [.str cc.1,.bl up])=H5 at Ey etp⊢
   walk_at "ex"
   have ep5:H5 p=some (.lst ws):=Ey _ _ hp2
   refine n8 gK ⟨p,ws,_,rfl,rfl,ep5,by omega,?_⟩
   refine⟨⟨_,_,rfl⟩,λd o e=>?_,os++[(cc.1,up)],⟨ws++[.ref tp],ao,d9.app (hws.imp λu c x=>?_) (.cons ?_ .nil)⟩,by simp[hol],?_,λo ho=>?_⟩
   .rw[aB (au e hp)]
    exact Ey _ _ (Ei _ _ e)
   .obtain⟨tq,rfl,hq⟩:=x
    have hne:tq≠p:=λe=>by subst e;rw[hp']at hq;cases hq
    exact⟨tq,rfl,by rw[aB hne];exact Ey _ _ (gw _ _ hq)⟩
   .have hne:tp≠p:=λe=>by subst e;rw[ep5]at etp;cases etp
    exact⟨tp,rfl,by rw[aB hne];exact etp⟩
   .rw[List.map_append]
    refine List.nodup_append.mpr ⟨hon,by simp,λx hx y hy=>?_⟩
    have :y=cc.1:=by simpa using hy
    subst this
    exact λe=>hno (e▸hx)
   .rcases List.mem_append.mp ho with ho |ho
    .exact hin o ho
    .have :o=(cc.1,up):=by simpa using ho
     subst this
     exact List.mem_map.mpr ⟨cc,hcc,rfl⟩
 .obtain⟨⟨o1,o2,rfl⟩,sm,os,hO,hol,hon,hin⟩:=hP
  refine aF (bz ?_)
  walk_at "ex"
  have hol':os.length=m.toNat:=by simpa using hol
  exact q p os H' sm hp hO ⟨by omega,hon,hin⟩
theorem Oq:LTs.cps.toList=List.range' 97 26:=by decide+kernel
theorem afo(c:Nat):c∈LTs.cps.toList↔97≤c/\c≤122:=by
 rw[Oq,List.mem_range'_1]
 omega
theorem Vv{k:Nat}(h:k<26):LTs.cps.toList[k]? =some (97+k):=by
 rw[Oq,List.getElem?_range' h]
 simp
theorem Qk{z:Str}(h1:1≤z.length)(h8:z.length≤8)(h:∀c∈z.cps.toList,97≤c/\c≤122):isName z=true:=by
 unfold isName gR
 rw[Bool.and_eq_true,decide_eq_true_eq,List.all_eq_true]
 exact⟨⟨h1,h8⟩,λc hc=>decide_eq_true ((afo c).mpr (h c hc))⟩
def Cr(W:Str)(at_ first size way j:Nat):Str:=
 if way=0 then bQ W none (some (at_:Int))++⟨#[97+(first+j) % 26]⟩++bQ W (some ((at_+1:Nat):Int)) none else
 if way=1 then bQ W none (some ((j+1:Nat):Int))else(⟨#[97+(first+j) % 26]⟩:Str)++bQ W none (some (size:Int))
theorem Oe{W:Str}{at_ first size j:Nat}(hW:W.length=8)(ha:at_<8):(Cr W at_ first size 0 j).cps.toList=W.cps.toList.take at_++(97+(first+j) % 26)::W.cps.toList.drop (at_+1):=by
 have hl:=L2.len_list W
 unfold Cr
 rw[if_pos rfl,aW,aW,lL,pF,List.append_assoc]
 show _++([_]++_)=_
 rw[HT.ud,Nat.min_eq_left (by omega)]
 congr 1
 show(97+(first+j) % 26)::List.take (W.length-(at_+1)) _=_
 rw[List.take_of_length_le (by rw[List.length_drop];omega)]
theorem M4{W:Str}{at_ first size j:Nat}:(Cr W at_ first size 1 j).cps.toList=W.cps.toList.take (j+1):=by
 unfold Cr
 rw[if_neg (by decide),if_pos rfl,lL]
theorem Nm{W:Str}{at_ first size way j:Nat}(h0:way≠0)(h1:way≠1):(Cr W at_ first size way j).cps.toList=(97+(first+j) % 26)::W.cps.toList.take size:=by
 unfold Cr
 rw[if_neg h0,if_neg h1,aW,lL]
 rfl
theorem Y0{W:Str}{at_ first size way j:Nat}(hW:W.length=8)(ha:at_<8)(hs:size<8)(hj:j<6):1≤(Cr W at_ first size way j).length/\(Cr W at_ first size way j).length≤8:=by
 have hl:=L2.len_list W
 rw[L2.len_list (Cr W at_ first size way j)]
 by_cases h0:way=0
 .subst h0
  rw[Oe hW ha,List.length_append,List.length_cons,List.length_take,List.length_drop]
  omega
 .by_cases h1:way=1
  .subst h1
   rw[M4,List.length_take]
   omega
  .rw[Nm h0 h1,List.length_cons,List.length_take]
   omega
theorem adl{W:Str}{at_ first size way j:Nat}(hW:W.length=8)(ha:at_<8)(hw:∀c∈W.cps.toList,97≤c/\c≤122):∀c∈(Cr W at_ first size way j).cps.toList,97≤c/\c≤122:=by
 intro c hc
 have hm:=Nat.mod_lt (first+j) (show 0<26 by decide)
 by_cases h0:way=0
 .subst h0
  rw[Oe hW ha]at hc
  rcases List.mem_append.mp hc with h |h
  .exact hw c (List.mem_of_mem_take h)
  .rcases List.mem_cons.mp h with h |h
   .omega
   .exact hw c (List.mem_of_mem_drop h)
 .by_cases h1:way=1
  .subst h1
   rw[M4]at hc
   exact hw c (List.mem_of_mem_take hc)
  .rw[Nm h0 h1]at hc
   rcases List.mem_cons.mp hc with h |h
   .omega
   .exact hw c (List.mem_of_mem_take h)
theorem YG{W:Str}{at_ first s1 s2 way i j:Nat}(hW:W.length=8)(ha:at_<8)(hi:i<6)(hj:j<6)(e:Cr W at_ first s1 way i=Cr W at_ first s2 way j):i=j:=by
 have hl:=L2.len_list W
 have e':=congrArg (λz:Str=>z.cps.toList) e
 by_cases h0:way=0
 .subst h0
  rw[Oe hW ha,Oe hW ha]at e'
  have h1:=(List.append_inj e' rfl).2
  injection h1 with h2 _
  omega
 .by_cases h1:way=1
  .subst h1
   rw[M4,M4]at e'
   have :=congrArg List.length e'
   rw[List.length_take,List.length_take]at this
   omega
  .rw[Nm h0 h1,Nm h0 h1]at e'
   injection e' with h2 _
   omega
theorem Ra{cs:List bW}(h1:1≤cs.length)(h6:cs.length≤6)(hn:(cs.map Prod.fst).Nodup)(h:∀c∈cs,isName c.1=true/\(c.2="number"\/c.2="text")):aY cs=true:=by
 unfold aY vD
 rw[Bool.and_eq_true,Bool.and_eq_true,decide_eq_true_eq,decide_eq_true_eq,List.all_eq_true]
 exact⟨⟨⟨h1,h6⟩,λc hc=>by rw[(h c hc).1,decide_eq_true (h c hc).2];rfl⟩,hn⟩
theorem Rc{α β:Type}{R:α->β->Prop}{l:List α}{m:List β}{a:α}{b:β}(h:d9 R l m)(r:R a b):d9 R (l++[a]) (m++[b]):=by
 induction h with
 |nil=>exact .cons r .nil
 |cons h _ ih=>exact .cons h ih
theorem Rn{α β:Type}{R S:α->β->Prop}{l:List α}{m:List β}(h:d9 R l m)(f:∀a b,R a b->S a b):d9 S l m:=by
 induction h with
 |nil=>exact .nil
 |cons h _ ih=>exact .cons (f _ _ h) ih
def Pj(K:W.Frag):Sp:=λvs H Q _=>∃(a:Addr) (ns:List Int) (b m:Int),vs=[.ref a,.int b,.int m]/\bf K H a (ns.map V.int)/\ns.length≤63/\0≤b/\b≤40000/\1≤m/\m≤6/\∀p cs H',aq H H'->H p=none->gD H' p cs->aY cs=true->Q (.ref p) H'
def La(W:Str)(at_ first way:Nat)(H:Hp)(p:Addr)(j:Nat):Prop:=∃cs:List bW,gD H p cs/\cs.length=j/\(∀(i:Nat) c,cs[i]? =some c->(∃sz,sz<8/\c.1=Cr W at_ first sz way i)/\(c.2="number"\/c.2="text"))
theorem La.ok{W:Str}{at_ first way:Nat}{H:Hp}{p:Addr}{j:Nat}(hW:W.length=8)(ha:at_<8)(hw:∀c∈W.cps.toList,97≤c/\c≤122)(h1:1≤j)(h6:j≤6)(h:La W at_ first way H p j):∃cs,gD H p cs/\aY cs=true:=by
 obtain⟨cs,hC,hl,hg⟩:=h
 refine⟨cs,hC,Ra (by omega) (by omega) ?_ λc hc=>?_⟩
 .unfold List.Nodup
  rw[List.pairwise_iff_getElem]
  intro i k hi hk hik e
  rw[List.length_map]at hi hk
  rw[List.getElem_map,List.getElem_map]at e
  obtain⟨⟨s1,_,e1⟩,_⟩:=hg i _ (List.getElem?_eq_getElem hi)
  obtain⟨⟨s2,_,e2⟩,_⟩:=hg k _ (List.getElem?_eq_getElem hk)
  rw[e1,e2]at e
  have :=YG hW ha (by omega) (by omega) e
  omega
 .obtain⟨i,hi,e⟩:=List.getElem_of_mem hc
  obtain⟨⟨sz,hs,e1⟩,hk⟩:=hg i c (by rw[List.getElem?_eq_getElem hi,e])
  have :=Y0 (first:=first) (way:=way) hW ha hs (show i<6 by omega)
  rw[<-e1]at this
  refine⟨Qk this.1 this.2 ?_,hk⟩
  rw[e1]
  exact adl hW ha hw
theorem jj(T:Txt K mg):Def P w K mg base true 2 "_law_columns" ["_law_script","_law_base","_law_most"] (Pj K):=by
 refine wZ T (λvs H Q E h=>by obtain⟨a,ns,b,m,rfl,_⟩:=h;rfl) (λf cdv A outer s H vs Q E hr h=>?_)
 obtain⟨a,ns,b,m,rfl,hS,hl,hb0,hb1,hm0,hm1,q⟩:=h
 have nd:=mj.nd
 have n1:=T.pB
 have hsz:sizeLine=16777216:=sizeLine_eq
 have D1:Def P w K mg base true 1 "_law_draw" ["_law_script","_law_k","_law_many"] (lX K):=cH T
 have azE:LTs.length=26:=by decide+kernel
 refine ak ?_
 walk_at "go"
 refine Gs ["_law_k","_law_base","_law_letters","_law_script"] (σ':=[none,some (.int b),some (.str LTs),some (.ref a)]) (by rfl) (by rfl) (cC (aa b7) (by rfl) (by rfl) (by decide+kernel)) (by decide+kernel) (by rfl) (by rfl) (by rfl) n1 (by rfl) ?_
 walk_at "e"
 refine⟨8,rfl,by omega,by omega,λi v=>v= .str ⟨#[97+(bH ns (b+(i:Int)) 26).toNat]⟩,λfp E' C s3 H0 i H2 hi sm=>?_,λE' H1 xs hE hl2 hx e2 iu=>?_⟩
 .walk_at "go"
  have hi8:i<8:=by simpa using hi
  refine⟨a,ns,b+i,26,rfl,sm.seq hS,hl,by omega,by omega,by decide,?_⟩
  have h1:=bh ns (b+i) (m:=26) (by decide)
  have h2:=bj ns (b+i) (m:=26) (by decide)
  refine mQ (by omega) (n:=97+(bH ns (b+(i:Int)) 26).toNat) ?_ ⟨rfl,aq.refl _⟩
  have e:bH ns (b+(i:Int)) 26=(((bH ns (b+(i:Int)) 26).toNat:Nat):Int):=by omega
  have h3:=bD (Vv (k:=(bH ns (b+(i:Int)) 26).toNat) (by omega))
  rw[<-e]at h3
  exact h3
 .have ex:=eY (ys:=List.range 8) (λi:Nat=>V.str ⟨#[97+(bH ns (b+(i:Int)) 26).toNat]⟩) (by rw[hl2,List.length_range];rfl) (λi v e=>⟨i,?_,hx i v e⟩)
  .have ex2:xs=(((List.range 8).map λi:Nat=>97+(bH ns (b+(i:Int)) 26).toNat).map λc=>(⟨#[c]⟩:Str)).map V.str:=by
    rw[ex,List.map_map,List.map_map]
    rfl
   subst ex2
   walk_at "go"
   refine Dc (bf.of e2) ?_ ?_
   .have e0:(Str.ofString "").length=0:=by decide+kernel
    rw[yX,List.length_map,List.length_map,List.length_range,e0]
    omega
   rw[qF]
   have hwl:(⟨((List.range 8).map λi:Nat=>97+(bH ns (b+(i:Int)) 26).toNat).toArray⟩:Str).length=8:=by rw[L2.len_list];simp
   have hwc:∀c∈(⟨((List.range 8).map λi:Nat=>97+(bH ns (b+(i:Int)) 26).toNat).toArray⟩:Str).cps.toList,97≤c/\c≤122:=λc hc=>by
    have hc':c∈(List.range 8).map λi:Nat=>97+(bH ns (b+(i:Int)) 26).toNat:=by simpa using hc
    obtain⟨i,_,rfl⟩:=List.mem_map.mp hc'
    have h1:=bh ns (b+i) (m:=26) (by decide)
    have h2:=bj ns (b+i) (m:=26) (by decide)
    omega
   generalize(⟨((List.range 8).map λi:Nat=>97+(bH ns (b+(i:Int)) 26).toNat).toArray⟩:Str)=W at hwl hwc⊢
   refine ak ?_
   walk_at "go"
   refine⟨a,ns,b+10,3,rfl,iu.seq hS,hl,by omega,by omega,by decide,?_⟩
   have w0:=bh ns (b+10) (m:=3) (by decide)
   have w1:=bj ns (b+10) (m:=3) (by decide)
   obtain⟨way,ew⟩:=Int.eq_ofNat_of_zero_le w0
   rw[ew]at w1⊢
   walk_at "go"
   refine⟨a,ns,b+11,8,rfl,iu.seq hS,hl,by omega,by omega,by decide,?_⟩
   have a0:=bh ns (b+11) (m:=8) (by decide)
   have a1:=bj ns (b+11) (m:=8) (by decide)
   obtain⟨at_,ea⟩:=Int.eq_ofNat_of_zero_le a0
   rw[ea]at a1⊢
   walk_at "go"
   refine⟨by show 0≤sizeLine;omega,λp hp=>?_⟩
   have pn:H p=none:=iu.free hp
   have RB:aq H (upd H1 p (.lst [])):=iu.trans (aq.upd hp)
   have ep:(upd H1 p (.lst [])) p=some (.lst []):=ao
   generalize upd H1 p (.lst [])=H2 at RB ep⊢
   have f0:=bh ns (b+13) (m:=26) (by decide)
   have f1:=bj ns (b+13) (m:=26) (by decide)
   obtain⟨fi,ef⟩:=Int.eq_ofNat_of_zero_le f0
   have hat:at_<8:=by omega
   refine ak ?_
   refine um (by walk_at "po") (by rfl) (by rfl) n1 (by rfl) ?_
   walk_at "go"
   refine⟨a,ns,b+12,m,rfl,RB.seq hS,hl,by omega,by omega,by omega,?_⟩
   have g0:=bh ns (b+12) (m:=m) (by omega)
   have g1:=bj ns (b+12) (m:=m) (by omega)
   generalize bH ns (b+12) m=g at g0 g1⊢
   walk_at "go"
   refine⟨by omega,by omega,λi σ H'=>(∃o8 o9 o10 o11,σ=[some (.ref a),some (.int b),some (.int m),some (.str LTs),some (.str W),some (.int way),some (.int at_),some (.ref p),o8,o9,o10,o11])/\aq H H'/\La W at_ fi way H' p i,
    ⟨⟨none,none,none,none,rfl⟩,RB,⟨[],⟨[],ep,.nil⟩,rfl,λi c e=>by simp at e⟩⟩,λi σ H' hi hP=>?_,λσ H' hP=>?_⟩
   .obtain⟨⟨o8,o9,o10,o11,rfl⟩,sm,hC⟩:=hP
    have hi6:i<6:=by have :(i:Int)<1+g:=by omega
                     omega
    refine aM nd (by rfl) (.inl rfl) (.inl rfl) ?_
    walk_at "go"
    refine⟨a,ns,b+13,26,rfl,sm.seq hS,hl,by omega,by omega,by decide,?_⟩
    rw[ef]
    walk_at "go"
    rw[show((fi:Int)+(i:Int)) % 26=(((fi+i) % 26:Nat):Int)by omega]
    refine mQ (by omega) (bD (Vv (Nat.mod_lt _ (by decide)))) ?_
    walk_at "go"
    refine⟨a,ns,b+20+i,8,rfl,sm.seq hS,hl,by omega,by omega,by decide,?_⟩
    have s0:=bh ns (b+20+i) (m:=8) (by decide)
    have s1:=bj ns (b+20+i) (m:=8) (by decide)
    obtain⟨sz,es⟩:=Int.eq_ofNat_of_zero_le s0
    rw[es]at s1⊢
    have l1:=ie W none (some (at_:Int))
    have l2:=ie W (some ((at_:Int)+1)) none
    have l3:=ie W none (some (sz:Int))
    have ls:(⟨#[97+(fi+i) % 26]⟩:Str).length=1:=rfl
    have l4:=len_app (bQ W none (some (at_:Int))) ⟨#[97+(fi+i) % 26]⟩
    walk_at "go"
    refine iJ (by omega) ?_
    walk_at "go"
    refine bA (by omega) ?_
    walk_at "go"
    refine iJ (by omega) ?_
    refine bA (by omega) ?_
    walk_at "go"
    refine iJ (by omega) ?_
    walk_at "go"
    refine iJ (by omega) ?_
    refine bA (by omega) ?_
    walk_at "go"
    refine⟨by show 3≤sizeLine;omega,λk hk=>?_⟩
    walk_at "go"
    have hg3:qg [V.str (bQ W none (some (at_:Int))++⟨#[97+(fi+i) % 26]⟩++bQ W (some ((at_:Int)+1)) none),V.str (bQ W none (some ((i:Int)+1))),V.str ((⟨#[97+(fi+i) % 26]⟩:Str)++bQ W none (some (sz:Int)))] (way:Int)=some (V.str (Cr W at_ fi sz way i)):=by
     have hw3:way<3:=by omega
     match way,hw3 with
     |0,_=>rfl
     |1,_=>rfl
     |2,_=>rfl
    refine bw (bf.of ao) hg3 ?_
    have smk:=aq.upd (H:=H') (o:=.lst [V.str (bQ W none (some (at_:Int))++⟨#[97+(fi+i) % 26]⟩++bQ W (some ((at_:Int)+1)) none),V.str (bQ W none (some ((i:Int)+1))),V.str ((⟨#[97+(fi+i) % 26]⟩:Str)++bQ W none (some (sz:Int)))]) hk
    generalize upd H' k _=H3 at smk⊢
    obtain⟨cs,⟨vs,hp',hvs⟩,hcl,hcg⟩:=hC
    refine aF (gB (by rfl) (ju F.plainAttrs_list F.slot_list_append F.type_list_append (by rfl) (by rfl) (by rfl) (by rfl) (by rfl) ?_))
    walk_at "go"
    refine⟨.inl ⟨rfl,_,bf.of (smk _ _ hp')⟩,?_⟩
    walk_at "go"
    refine⟨by show 2≤sizeLine;omega,λy hy=>?_⟩
    have smy:aq H3 (upd H3 y (.lst [.str "number",.str "text"])):=aq.upd hy
    have ey:(upd H3 y (.lst [.str "number",.str "text"])) y=some (.lst [.str "number",.str "text"]):=ao
    generalize upd H3 y (.lst [.str "number",.str "text"])=H5 at smy ey⊢
    walk_at "go"
    refine⟨a,ns,b+30+i,2,rfl,((sm.trans smk).trans smy).seq hS,hl,by omega,by omega,by decide,?_⟩
    have k0:=bh ns (b+30+i) (m:=2) (by decide)
    have k1:=bj ns (b+30+i) (m:=2) (by decide)
    obtain⟨kd,e1,e2⟩:=xq (xs:=[V.str "number",V.str "text"]) k0 (by show _<(2:Int);omega)
    refine bw (bf.of ey) e1 ?_
    obtain⟨kk,rfl,hkk⟩:∃kk:Str,kd= .str kk/\(kk="number"\/kk="text"):=by
     rcases List.mem_cons.mp e2 with e |e
     .exact⟨_,e,.inl rfl⟩
     .exact⟨"text",by simpa using e,.inr rfl⟩
    walk_at "go"
    refine⟨by show 2≤sizeLine;omega,λt ht=>?_⟩
    have Ey:aq H5 (upd H5 t (.tup [.str (Cr W at_ fi sz way i),.str kk])):=aq.upd ht
    have et:(upd H5 t (.tup [.str (Cr W at_ fi sz way i),.str kk])) t=some (.tup [.str (Cr W at_ fi sz way i),.str kk]):=ao
    generalize upd H5 t (.tup [.str (Cr W at_ fi sz way i),.str kk])=H6 at Ey et⊢
    have s6:aq H' H6:=(smk.trans smy).trans Ey
    have hvl:=hvs.len
    refine j7 (n8 gK ⟨p,_,_,rfl,rfl,s6 _ _ hp',by rw[hvl];omega,?_⟩)
    have tp:t≠p:=λe=>by rw[e,(smk.trans smy) _ _ hp']at ht;cases ht
    have up:∀b' o,H6 b'=some o->b'≠p->(upd H6 p (.lst (vs++[.ref t]))) b'=some o:=λb' o e hne=>by rw[aB hne];exact e
    refine⟨⟨_,_,_,_,rfl⟩,λb' o e=>?_,cs++[(Cr W at_ fi sz way i,kk)],⟨vs++[.ref t],ao,Rc (Rn hvs λx c hx=>?_) ⟨t,rfl,up _ _ et tp⟩⟩,by rw[List.length_append,List.length_singleton,hcl],λj c e=>?_⟩
    .rw[aB (au e pn)]
     exact s6 _ _ (sm _ _ e)
    .obtain⟨u,rfl,hu⟩:=hx
     have hup:u≠p:=λz=>by rw[z,hp']at hu;cases hu
     exact⟨u,rfl,up _ _ (s6 _ _ hu) hup⟩
    .by_cases hj:j<cs.length
     .rw[List.getElem?_append_left hj]at e
      exact hcg j c e
     .have hj2:=(List.getElem?_eq_some_iff.mp e).1
      rw[List.length_append,List.length_singleton]at hj2
      have ej:j=cs.length:=by omega
      subst ej
      rw[List.getElem?_concat_length]at e
      cases e
      rw[hcl]
      exact⟨⟨sz,by omega,rfl⟩,hkk⟩
   .obtain⟨⟨o8,o9,o10,o11,rfl⟩,sm,hC⟩:=hP
    obtain⟨cs,hC',hok⟩:=hC.ok hwl hat hwc (by omega) (by omega)
    walk_at "go"
    exact q p cs _ sm pn hC' hok
  .have :i<xs.length:=(List.getElem?_eq_some_iff.mp e).1
   rw[List.getElem?_range (by simp at hl2;omega)]
def Aj(K:W.Frag):Sp:=λvs H Q _=>∃(a:Addr) (ns:List Int) (k:Int) (b:Addr) (cs:List bW),vs=[.ref a,.int k,.ref b]/\bf K H a (ns.map V.int)/\ns.length≤63/\0≤k/\k≤40000/\gD H b cs/\cs.length≤6/\∀p xs H',aq H H'->H p=none->H' p=some (.lst xs)->d9 (λc x=>mV c.2 x) cs xs->Q (.ref p) H'
theorem vW{α β:Type}{R:α->β->Prop}:∀{l:List α} {m:List β},m.length=l.length->(∀(i:Nat) b,m[i]? =some b->∃a,l[i]? =some a/\R a b)->d9 R l m
 |[],[],_,_=>.nil
 |[],_::_,h,_=>by simp at h
 |_::_,[],h,_=>by simp at h
 |a::l,b::m,h,g=>by
  obtain⟨a',e,r⟩:=g 0 b rfl
  have :a=a':=by simpa using e
  subst this
  exact .cons r (vW (by simpa using h) λi x e=>by simpa using g (i+1) x (by simpa using e))
theorem j5(T:Txt K mg):Def P w K mg base true 3 "_law_values" ["_law_script","_law_k","_law_columns_here"] (Aj K):=by
 refine xP T (λvs H Q E h=>by obtain⟨a,ns,k,b,cs,rfl,_⟩:=h;rfl) (λf cdv A outer s H vs Q E hr h=>?_)
 obtain⟨a,ns,k,b,cs,rfl,hS,hl,hk0,hk1,hC,hc6,q⟩:=h
 have n1:=T.pB
 have n2:=T.jQ
 have hsz:sizeLine=16777216:=sizeLine_eq
 have D1:Def P w K mg base true 2 "_law_value" ["_law_script","_law_k","_law_kind"] (yj K):=iM T
 have ndc:(["_law_j","_law_columns_here","_law_k","_law_script"]:List Str).Nodup:=by decide+kernel
 obtain⟨vs,hb,hvs⟩:=id hC
 have hvl:=hvs.len
 have SB:bf K H b vs:=bf.of hb
 refine aF (bz ?_)
 refine Ri ["_law_j","_law_columns_here","_law_k","_law_script"] (σ':=[none,some (.ref b),some (.int k),some (.ref a)]) (by rfl) (by rfl) (cC (aa cI) (by rfl) (by rfl) (by decide+kernel)) (by rfl) n1 (by rfl) ?_
 walk_at "go"
 refine⟨by omega,by omega,λτ=>∃o1,τ=[o1,some (.ref b),some (.int k),some (.ref a)],λE2 i u H'=>∃c,cs[i]? =some c/\mV c.2 u,⟨none,rfl⟩,λE2 i u H2 H3 ys _ _ p=>p,λfp E2 C s3 H0 i τ x H4 H3 Ig hi hτ sW hys hG=>?_,λL H1 ys hL hl2 hx2 e1 iu=>?_⟩
 .obtain⟨o1,rfl⟩:=hτ
  obtain⟨rfl,rfl⟩:=hG
  have hil:i<vs.length:=by simpa using hi
  have hg:vs[i]? =some vs[i]:=List.getElem?_eq_getElem hil
  obtain⟨c,hc,t,ev,ht⟩:=hvs.get hg
  refine aM ndc (by rfl) (.inl rfl) (.inr rfl) ?_
  walk_at "go"
  refine bw (sW.seq SB) (bD hg) ?_
  rw[ev]
  walk_at "go"
  refine iH (fK.of (sW _ _ ht)) (show qg [V.str c.1,V.str c.2] 1=some (V.str c.2)from rfl) ?_
  walk_at "go"
  refine⟨a,ns,_,c.2,rfl,sW.seq hS,hl,by omega,by omega,λv H5 Q6 hv=>?_⟩
  exact⟨⟨_,rfl⟩,⟨c,hc,hv⟩,Q6⟩
 .exact q L ys H1 iu hL e1 (vW (by rw[hl2, <-hvl];simp) hx2)
def mC(nm:Nat->Str):PN->List Str
 | .all=>["all"]
 | .none p=>["none",nm p]
 | .look l p v=>[pN l,nm p,wordOf v]
def wT(nm:Nat->Str):Tr->List Str
 | .one s=>mC nm s
 | .nt t=>"not"::wT nm t
 | .bo t u=>"both"::(wT nm t++wT nm u)
 | .ei t u=>"either"::(wT nm t++wT nm u)
def eN(cs:List bW)(p:Nat):Str:=match cs[p]? with
 |some c=>c.1
 |none=>Str.ofString ""
def JV(cs:List bW):PN->Prop
 | .all=>True
 | .none p=>p<cs.length
 | .look l p v=>∃c,cs[p]? =some c/\mV c.2 v/\v≠ .non/\(l= .holds->c.2="text")
def n6(cs:List bW):Tr->Prop
 | .one s=>JV cs s
 | .nt t=>n6 cs t
 | .bo t u=>n6 cs t/\n6 cs u
 | .ei t u=>n6 cs t/\n6 cs u
def AtW(nm:Nat->Str)(ws:List Str)(t:Tr)(s:Nat):Prop:=∃post,ws.drop s=wT nm t++post
theorem drop_cons{α:Type}{ws r:List α}{s:Nat}{x:α}(h:ws.drop s=x::r):ws[s]? =some x/\ws.drop (s+1)=r:=by
 have hs:s<ws.length:=by
  have h2:(ws.drop s).length=(x::r).length:=by rw[h]
  rw[List.length_drop,List.length_cons]at h2
  omega
 rw[List.drop_eq_getElem_cons hs]at h
 injection h with h1 h2
 exact⟨by rw[List.getElem?_eq_getElem hs,h1],h2⟩
theorem G9{α:Type}{ws a r:List α}{s:Nat}(h:ws.drop s=a++r):ws.drop (s+a.length)=r:=by
 rw[<-List.drop_drop,h]
 simp
theorem Ih{α:Type}{ws a r:List α}{s:Nat}(h:ws.drop s=a++r)(ha:a≠[]):s+a.length≤ws.length:=by
 have h2:(ws.drop s).length=(a++r).length:=by rw[h]
 rw[List.length_drop,List.length_append]at h2
 have :0<a.length:=List.length_pos_iff.mpr ha
 omega
theorem sY(nm:Nat->Str)(s:PN):mC nm s≠[]:=by cases s<;>simp[mC]
theorem Hj(nm:Nat->Str)(t:Tr):wT nm t≠[]:=by
 cases t with
 |one s=>exact sY nm s
 |nt t=>simp[wT]
 |bo t u=>simp[wT]
 |ei t u=>simp[wT]
theorem BL:∀{cs:List bW} {p:Nat} {c:bW},(cs.map Prod.fst).Nodup->cs[p]? =some c->bR cs c.1=p
 |d::r,0,c,hn,e=>by
  have :d=c:=by simpa using e
  subst this
  show(if d.1=d.1 then 0 else bR r d.1+1)=0
  rw[if_pos rfl]
 |d::r,p+1,c,hn,e=>by
  have e':r[p]? =some c:=by simpa using e
  have hn':=List.nodup_cons.mp hn
  have hne:¬d.1=c.1:=λz=>hn'.1 (by rw[z];exact List.mem_map.mpr ⟨c,List.mem_of_getElem? e',rfl⟩)
  show(if d.1=c.1 then 0 else bR r c.1+1)=p+1
  rw[if_neg hne,BL hn'.2 e']
theorem uA{cs:List bW}{p:Nat}{c:bW}(e:cs[p]? =some c):eN cs p=c.1:=by
 unfold eN
 rw[e]
theorem ahE{cs:List bW}(hn:(cs.map Prod.fst).Nodup){ws:List Str}{p s:Nat}{c:bW}(hp:cs[p]? =some c)(hs:s<60)(e:ws[s]? =some c.1):kZ cs ws s=some p:=by
 unfold kZ
 rw[if_pos hs,e]
 show(if cs.any (λd=>decide (d.1=c.1))=true then some (bR cs c.1)else none)=some p
 rw[if_pos (by rw[List.any_eq_true];exact⟨c,List.mem_of_getElem? hp,decide_eq_true rfl⟩),BL hn hp]
theorem HJ{cs:List bW}(hok:aY cs=true){ws post:List Str}{s:Nat}:∀{sv:PN},ws.drop s=mC (eN cs) sv++post->s+(mC (eN cs) sv).length≤60->JV cs sv->uZ cs ws s sv (s+(mC (eN cs) sv).length)
 | .all,e,hl,_=>⟨(drop_cons (r:=post) e).1,rfl⟩
 | .none p,e,hl,hg=>by
   have hn:(cs.map Prod.fst).Nodup:=by
    unfold aY at hok
    simp only[Bool.and_eq_true,decide_eq_true_eq]at hok
    exact hok.2
   obtain⟨e1,e2⟩:=drop_cons (r:=[eN cs p]++post) e
   obtain⟨e3,_⟩:=drop_cons (r:=post) e2
   have hln:=Ih e (sY (eN cs) (.none p))
   have hl':s+2≤60:=hl
   have hp:cs[p]? =some cs[p]:=List.getElem?_eq_getElem hg
   rw[uA hp]at e3
   exact⟨e1,hln,ahE hn hp (by omega) e3,rfl⟩
 | .look l p v,e,hl,hg=>by
   have hn:(cs.map Prod.fst).Nodup:=by
    unfold aY at hok
    simp only[Bool.and_eq_true,decide_eq_true_eq]at hok
    exact hok.2
   obtain⟨c,hc,hv,hne,hh⟩:=hg
   obtain⟨e1,e2⟩:=drop_cons (r:=[eN cs p,wordOf v]++post) e
   obtain⟨e3,e4⟩:=drop_cons (r:=[wordOf v]++post) e2
   obtain⟨e5,_⟩:=drop_cons (r:=post) e4
   have hln:=Ih e (sY (eN cs) (.look l p v))
   have hl':s+3≤60:=hl
   rw[uA hc]at e3
   have hk:c.2="number"\/c.2="text":=by
    unfold aY at hok
    simp only[Bool.and_eq_true,List.all_eq_true]at hok
    have :=(hok.1.2 c (List.mem_of_getElem? hc)).2
    unfold vD at this
    exact of_decide_eq_true this
   exact⟨hln,by omega,e1,ahE hn hc (by omega) e3,⟨c,_,hc,hh,e5,(hv.word hk).1⟩,hne,rfl⟩
theorem jf{cs:List bW}(hok:aY cs=true){ws:List Str}:∀{t:Tr} {s:Nat},AtW (eN cs) ws t s->s+(wT (eN cs) t).length≤60->n6 cs t->Reads cs ws t s (s+(wT (eN cs) t).length)
 | .one sv,s,e,hl,hg=>by
   obtain⟨post,e⟩:=e
   have hp:0<(mC (eN cs) sv).length:=List.length_pos_iff.mpr (sY (eN cs) sv)
   have hl':s+(mC (eN cs) sv).length≤60:=hl
   exact⟨by omega,HJ hok e hl hg⟩
 | .nt t,s,e,hl,hg=>by
   obtain⟨post,e⟩:=e
   obtain⟨e1,e2⟩:=drop_cons (r:=wT (eN cs) t++post) e
   have hl':s+((wT (eN cs) t).length+1)≤60:=hl
   refine⟨by omega,e1,?_⟩
   have :=jf hok (t:=t) ⟨post,e2⟩ (by omega) hg
   have e3:s+(wT (eN cs) (.nt t)).length=s+1+(wT (eN cs) t).length:=by show s+((wT (eN cs) t).length+1)=_;omega
   rw[e3]
   exact this
 | .bo t u,s,e,hl,hg=>by
   obtain⟨post,e⟩:=e
   obtain⟨e1,e2⟩:=drop_cons (r:=(wT (eN cs) t++wT (eN cs) u)++post) e
   rw[List.append_assoc]at e2
   have e4:=G9 e2
   have hl2:(wT (eN cs) (.bo t u)).length=(wT (eN cs) t).length+(wT (eN cs) u).length+1:=by show((wT (eN cs) t++wT (eN cs) u).length+1)=_;rw[List.length_append]
   rw[hl2]at hl⊢
   refine⟨by omega,e1,s+1+(wT (eN cs) t).length,jf hok (t:=t) ⟨_,e2⟩ (by omega) hg.1,?_⟩
   have :=jf hok (t:=u) ⟨_,e4⟩ (by omega) hg.2
   rw[show s+((wT (eN cs) t).length+(wT (eN cs) u).length+1)=s+1+(wT (eN cs) t).length+(wT (eN cs) u).length by omega]
   exact this
 | .ei t u,s,e,hl,hg=>by
   obtain⟨post,e⟩:=e
   obtain⟨e1,e2⟩:=drop_cons (r:=(wT (eN cs) t++wT (eN cs) u)++post) e
   rw[List.append_assoc]at e2
   have e4:=G9 e2
   have hl2:(wT (eN cs) (.ei t u)).length=(wT (eN cs) t).length+(wT (eN cs) u).length+1:=by show((wT (eN cs) t++wT (eN cs) u).length+1)=_;rw[List.length_append]
   rw[hl2]at hl⊢
   refine⟨by omega,e1,s+1+(wT (eN cs) t).length,jf hok (t:=t) ⟨_,e2⟩ (by omega) hg.1,?_⟩
   have :=jf hok (t:=u) ⟨_,e4⟩ (by omega) hg.2
   rw[show s+((wT (eN cs) t).length+(wT (eN cs) u).length+1)=s+1+(wT (eN cs) t).length+(wT (eN cs) u).length by omega]
   exact this
theorem Hk{a b:List Str}(ha:a≠[])(hb:b≠[]):Str.join " " (a++b)=Str.join " " a++Str.ofString " "++Str.join " " b:=by
 match a,ha with
 |[x],_=>
  match b,hb with
  |y::r,_=>rfl
 |x::y::r,_=>
  have ih:=Hk (a:=y::r) (b:=b) (by simp) hb
  show x++Str.ofString " "++Str.join " " (y::r++b)=(x++Str.ofString " "++Str.join " " (y::r))++Str.ofString " "++Str.join " " b
  rw[ih]
  apply bU
  simp only[aW,List.append_assoc]
theorem join_cons{x:Str}{b:List Str}(hb:b≠[]):Str.join " " (x::b)=x++Str.ofString " "++Str.join " " b:=by
 match b,hb with
 |y::r,_=>rfl
theorem Ph{z:Str}(h:isName z=true):32∉z.cps.toList:=λhm=>by
 unfold isName gR at h
 rw[Bool.and_eq_true,List.all_eq_true]at h
 exact absurd (of_decide_eq_true (h.2 32 hm)) (by decide+kernel)
theorem JS{cs:List bW}(hok:aY cs=true):∀{sv:PN},JV cs sv->∀z∈mC (eN cs) sv,z.length≤21/\32∉z.cps.toList/\plainS z
 | .all,_,z,hz=>by
   have :z=Str.ofString "all":=by simpa [mC]using hz
   subst this
   exact⟨by decide+kernel,by decide+kernel,by unfold plainS;decide+kernel⟩
 | .none p,hg,z,hz=>by
   have hz':z=Str.ofString "none"\/z=eN cs p:=by simpa [mC]using hz
   rcases hz' with rfl |rfl
   .exact⟨by decide+kernel,by decide+kernel,by unfold plainS;decide+kernel⟩
   .have hp:cs[p]? =some cs[p]:=List.getElem?_eq_getElem hg
    rw[uA hp]
    have hn:=lC hok (List.mem_map.mpr ⟨cs[p],List.getElem_mem hg,rfl⟩)
    exact⟨by have :=gP hn;omega,λh=>by have :=(Ph hn);exact this h,qI hn⟩
 | .look l p v,hg,z,hz=>by
   obtain⟨c,hc,hv,hne,hh⟩:=hg
   have hz':z=pN l\/z=eN cs p\/z=wordOf v:=by simpa [mC]using hz
   have hn:=lC hok (List.mem_map.mpr ⟨c,List.mem_of_getElem? hc,rfl⟩)
   have hk:c.2="number"\/c.2="text":=by
    unfold aY at hok
    simp only[Bool.and_eq_true,List.all_eq_true]at hok
    have :=(hok.1.2 c (List.mem_of_getElem? hc)).2
    unfold vD at this
    exact of_decide_eq_true this
   rcases hz' with rfl |rfl |rfl
   .cases l<;>exact⟨by decide+kernel,by decide+kernel,by unfold plainS;decide+kernel⟩
   .rw[uA hc]
    exact⟨by have :=gP hn;omega,Ph hn,qI hn⟩
   .have hw:=hv.word hk
    exact⟨hw.2.1,hw.2.2.1,hv.plain⟩
theorem jy{cs:List bW}(hok:aY cs=true):∀{t:Tr},n6 cs t->∀z∈wT (eN cs) t,z.length≤21/\32∉z.cps.toList/\plainS z
 | .one s,hg,z,hz=>JS hok hg z hz
 | .nt t,hg,z,hz=>by
   rcases List.mem_cons.mp hz with rfl |hz
   .exact⟨by decide+kernel,by decide+kernel,by unfold plainS;decide+kernel⟩
   .exact jy hok (t:=t) hg z hz
 | .bo t u,hg,z,hz=>by
   rcases List.mem_cons.mp hz with rfl |hz
   .exact⟨by decide+kernel,by decide+kernel,by unfold plainS;decide+kernel⟩
   .rcases List.mem_append.mp hz with hz |hz
    .exact jy hok hg.1 z hz
    .exact jy hok hg.2 z hz
 | .ei t u,hg,z,hz=>by
   rcases List.mem_cons.mp hz with rfl |hz
   .exact⟨by decide+kernel,by decide+kernel,by unfold plainS;decide+kernel⟩
   .rcases List.mem_append.mp hz with hz |hz
    .exact jy hok hg.1 z hz
    .exact jy hok hg.2 z hz
def dD(cs:List bW)(z:Str)(n d:Nat):Prop:=∃t,n6 cs t/\t.dep≤d/\z=Str.join " " (wT (eN cs) t)/\(wT (eN cs) t).length≤n
theorem dD.len{cs:List bW}(hok:aY cs=true){z:Str}{n d:Nat}(h:dD cs z n d):z.length≤22*n:=by
 obtain⟨t,hg,_,rfl,hl⟩:=h
 have h1:=SN (wT (eN cs) t) 21 λp hp=>(jy hok hg p hp).1
 have h2:=nM (wT (eN cs) t)
 omega
theorem dD.good{cs:List bW}(hok:aY cs=true){z:Str}{n d:Nat}(h:dD cs z n d)(hn:n≤60)(hd:d≤20):plainS z/\z.length≤2800/\(∀y∈cN 32 z,y.length≤1000)/\∃t:Tr,t.dep≤20/\Reads cs (cN 32 z) t 0 (cN 32 z).length:=by
 have hlen:=h.len hok
 obtain⟨t,hg,hdp,rfl,hl⟩:=h
 have hw:=jy hok hg
 have aah:cN 32 (Str.join " " (wT (eN cs) t))=wT (eN cs) t:=xT (Hj (eN cs) t) λz hz=>(hw z hz).2.1
 refine⟨plainS.join λp hp=>(hw p hp).2.2,by omega,by rw[aah];exact λy hy=>by have :=(hw y hy).1;omega,t,by omega,?_⟩
 rw[aah]
 have :=jf hok (ws:=wT (eN cs) t) (t:=t) (s:=0) ⟨[],by simp⟩ (by omega) hg
 rw[Nat.zero_add]at this
 exact this
theorem dD.nt{cs:List bW}{z:Str}{n d:Nat}(h:dD cs z n d):dD cs (Str.ofString "not"++Str.ofString " "++z) (n+1) (d+1):=by
 obtain⟨t,hg,hdp,rfl,hl⟩:=h
 exact⟨.nt t,hg,by show t.dep+1≤d+1;omega,(join_cons (Hj (eN cs) t)).symm,by show(wT (eN cs) t).length+1≤n+1;omega⟩
theorem dD.two{cs:List bW}{x z y:Str}{n m d e k:Nat}(hx:x=Str.ofString "both"\/x=Str.ofString "either")(h:dD cs z n d)(g:dD cs y m e)(hd:d≤k)(he:e≤k):dD cs (x++Str.ofString " "++z++Str.ofString " "++y) (n+m+1) (k+1):=by
 obtain⟨t,hg,hdp,rfl,hl⟩:=h
 obtain⟨u,hgu,hdu,rfl,hlu⟩:=g
 have hne:wT (eN cs) t++wT (eN cs) u≠[]:=λz=>Hj (eN cs) t (List.append_eq_nil_iff.mp z).1
 have ej:Str.join " " (x::(wT (eN cs) t++wT (eN cs) u))=x++Str.ofString " "++Str.join " " (wT (eN cs) t)++Str.ofString " "++Str.join " " (wT (eN cs) u):=by
  rw[join_cons hne,Hk (Hj (eN cs) t) (Hj (eN cs) u)]
  apply bU
  simp only[aW,List.append_assoc]
 have hlen:(x::(wT (eN cs) t++wT (eN cs) u)).length≤n+m+1:=by rw[List.length_cons,List.length_append];omega
 rcases hx with rfl |rfl
 .exact⟨.bo t u,⟨hg,hgu⟩,by show max t.dep u.dep+1≤k+1;omega,ej.symm,hlen⟩
 .exact⟨.ei t u,⟨hg,hgu⟩,by show max t.dep u.dep+1≤k+1;omega,ej.symm,hlen⟩
theorem Ae:∀{cs:List bW} {z:Str} {m:Nat} {c:bW},m<bR cs z->cs[m]? =some c->¬c.1=z
 |[],_,_,_,h,_=>by simp[bR]at h
 |d::r,z,m,c,h,e=>by
  unfold bR at h
  split at h
  .omega
  .rename_i hd
   cases m with
   |zero=>simp at e;subst e;exact hd
   |succ m=>exact Ae (cs:=r) (m:=m) (by omega) (by simpa using e)
theorem R1{cs:List bW}{z:Str}(h:∃c∈cs,c.1=z):(cs.map Prod.fst)[bR cs z]? =some z:=by
 obtain⟨c,e1,e2⟩:=yp h
 rw[List.getElem?_map,e1, <-e2]
 rfl
theorem UW{cs:List bW}{z:Str}{m:Nat}{y:Str}(h:m<bR cs z)(e:(cs.map Prod.fst)[m]? =some y):¬y=z:=by
 rw[List.getElem?_map]at e
 cases e2:cs[m]? with
 |none=>rw[e2]at e;cases e
 |some c=>
  rw[e2]at e
  have e3:c.1=y:=by simpa using e
  rw[<-e3]
  exact Ae h e2
def R0(K:W.Frag):Sp:=λvs H Q _=>∃(a b v:Addr) (n:Int) (cs:List bW) (os:List Ord) (xs:List V),vs=[.ref a,.ref b,.int n,.ref v]/\gD H a cs/\tE H b os/\H v=some (.lst xs)/\xs.length=cs.length/\cs.length≤1000/\os.length≤1000/\(∀o∈os,∃c∈cs,c.1=o.1)/\
 ∀p k H',aq H H'->H p=none->H k=none->H' p=some (.tup [.ref k,.int n])->H' k=some (.lst (Xf cs os xs))->Q (.ref p) H'
theorem qu(T:Txt K mg):Def P w K mg base true 1 "_law_key" ["_law_columns_here","_law_order_here","_law_row","_law_values_here"] (R0 K):=by
 refine Hc T (λvs H Q E h=>by obtain⟨a,b,v,n,cs,os,xs,rfl,_⟩:=h;rfl) (λf cdv A outer s H vs Q E hr h=>?_)
 obtain⟨a,b,v,n,cs,os,xs,rfl,⟨vs,ha,hvs⟩,⟨ws,hb,hws⟩,hv,hxl,hcl,hol,hin,q⟩:=h
 have nd:=vY.nd
 have hsz:sizeLine=16777216:=sizeLine_eq
 have nd1:(["_law_one"]:List Str).Nodup:=by decide+kernel
 have nd3:(["_law_one","_law_names","_law_values_here"]:List Str).Nodup:=by decide+kernel
 have hvl:=hvs.len
 have hwl:=hws.len
 refine ak ?_
 walk_at "s"
 refine yx ["_law_one"] (σ':=[none]) (by rfl) (by rfl) (cC (aa dO) (by rfl) (by rfl) (by decide+kernel)) (by intro _;rfl) ?_
 walk_at "e"
 refine⟨a,vs,rfl,bf.of ha,by omega,λτ=>∃o1,τ=[o1],λE2 i u H'=>∃c,cs[i]? =some c/\u= .str c.1,⟨none,rfl⟩,λE2 i u H2 H3 ys _ _ p=>p,λfp E2 C s3 H0 i τ x H4 H3 Ig hi hτ sW hys hG=>?_,λL H1 ys hL hl2 hx2 e1 iu=>?_⟩
 .obtain⟨o1,rfl⟩:=hτ
  obtain⟨PJ,rfl⟩:=hG
  obtain⟨c,hc,t,rfl,ht⟩:=hvs.get PJ
  refine aM nd1 (by rfl) (.inl rfl) (.inr rfl) ?_
  walk_at "ex"
  refine iH (fK.of (sW _ _ ht)) (show qg [V.str c.1,V.str c.2] 0=some (V.str c.1)from rfl) ?_
  exact⟨⟨_,rfl⟩,⟨c,hc,rfl⟩,aq.refl _⟩
 have ey:=eY (ys:=cs) (λc=>V.str c.1) (by rw[hl2,hvl]) hx2
 have RL:ys=(cs.map Prod.fst).map V.str:=by rw[ey,List.map_map];rfl
 subst RL
 refine aF (bz ?_)
 refine Wl (iT (by rfl) ?_)
 refine yx ["_law_one","_law_names","_law_values_here"] (σ':=[none,some (.ref L),some (.ref v)]) (by rfl) (by rfl) (cC (aa dO) (by rfl) (by rfl) (by decide+kernel)) (by intro _;rfl) ?_
 walk_at "e"
 refine⟨b,ws,rfl,bf.of (iu _ _ hb),by omega,λτ=>∃o1,τ=[o1,some (.ref L),some (.ref v)],λE2 i u H'=>∃o,os[i]? =some o/\u=atN cs xs o.1,⟨none,rfl⟩,λE2 i u H2 H3 ys _ _ p=>p,λfp E2 C s3 H0 i τ x H7 H8 Ig hi hτ sm7 hys hG=>?_,λD H7 ys hD hl3 PJ e7 sm7=>?_⟩
 .obtain⟨o1,rfl⟩:=hτ
  obtain⟨PJ,rfl⟩:=hG
  obtain⟨o,ho,tp,rfl,htp⟩:=hws.get PJ
  have hio:=hin o (List.mem_of_getElem? ho)
  have hlt:=kW hio
  have g1:xs[bR cs o.1]? =some (atN cs xs o.1):=by
   have e:xs[bR cs o.1]? =some (xs[bR cs o.1]'(by omega)):=List.getElem?_eq_getElem _
   unfold atN
   rw[e]
   rfl
  have Va:=iu.trans sm7
  have eL7:=sm7 _ _ e1
  refine aM nd3 (by rfl) (.inl rfl) (.inr rfl) ?_
  walk_at "e"
  walk_at "e"
  refine ju F.plainAttrs_list F.slot_list_index F.type_list_index (by rfl) (by rfl) (by rfl) (by rfl) (by rfl) ?_
  walk_at "e"
  refine⟨.inl ⟨rfl,_,bf.of eL7⟩,?_⟩
  walk_at "ex"
  refine iH (fK.of (Va _ _ htp)) (show qg [V.str o.1,V.bl o.2] 0=some (V.str o.1)from rfl) ?_
  walk_at "ex"
  refine Wr (bf.of eL7) (R1 hio) (λm y h e=>UW h e) ?_
  refine bw (bf.of (Va _ _ hv)) (bD g1) ?_
  exact⟨⟨_,rfl⟩,⟨o,ho,rfl⟩,aq.refl _⟩
 have ey:=eY (ys:=os) (λo=>atN cs xs o.1) (by rw[hl3,hwl]) PJ
 have RL:ys=Xf cs os xs:=ey
 subst RL
 have Va:=iu.trans sm7
 walk_at "ex"
 refine⟨by show 2≤sizeLine;omega,λp hp=>?_⟩
 have s8:aq H7 (upd H7 p (.tup [.ref D,.int n])):=aq.upd hp
 exact q p D _ (Va.trans s8) (Va.free hp) (iu.free hD) ao (s8 _ _ e7)
theorem Ht{cs:List bW}{xs:List V}(hx:d9 (λ(c:bW) x=>mV c.2 x) cs xs):∀{os:List Ord},(∀o∈os,∃c∈cs,c.1=o.1)->d9 (λ(o:Ord) x=>mV (jC cs o.1) x) os (Xf cs os xs)
 |[],_=>.nil
 |o::os,h=>by
  refine .cons ?_ (Ht hx λx hx=>h x (by simp[hx]))
  have hlt:=kW (h o (by simp))
  obtain⟨x,e1,e2⟩:=hx.get (List.getElem?_eq_getElem hlt)
  have ek:jC cs o.1=cs[bR cs o.1].2:=by
   unfold jC
   rw[List.getElem?_eq_getElem hlt]
  show mV (jC cs o.1) (atN cs xs o.1)
  rw[ek]
  unfold atN
  rw[e1]
  exact e2
def El:Sp:=λvs H Q _=>∃(v:V) (kd:Str),vs=[v]/\mV kd v/\Q (.str (wordOf v)) H
theorem jP(T:Txt K mg):Def P w K mg base true 1 "_law_word" ["_law_value_here"] El:=by
 refine Eh T (λvs H Q E h=>by obtain⟨v,kd,rfl,_⟩:=h;rfl) (λf cdv A outer s H vs Q E hr h=>?_)
 obtain⟨v,kd,rfl,hv,q⟩:=h
 have n1:=T.lM
 have n2:=T.Ax
 have hsz:sizeLine=16777216:=sizeLine_eq
 have la:(Str.ofString "'").length=1:=by decide+kernel
 refine ak (cB ?_)
 walk_at "ex"
 rcases hv with rfl |⟨_,i,rfl,h1,h2⟩ |⟨_,z,rfl,hl,_⟩
 .refine fY (λ_=>?_) (λh=>absurd rfl h)
  refine aF (bz ?_)
  walk_at "ex"
  exact q
 .refine fY (λh=>nomatch h) (λ_=>?_)
  refine aN (ak (cB ?_))
  walk_at "ex"
  refine aN (aF (bz ?_))
  walk_at "ex"
  refine vy (qm ?_) ?_
  .have :(10:Nat)^60>1000000000000000000:=by decide
   omega
  exact q
 .refine fY (λh=>nomatch h) (λ_=>?_)
  refine aN (ak (cB ?_))
  walk_at "ex"
  refine aF (bz ?_)
  walk_at "ex"
  refine bA (by omega) ?_
  exact q
theorem Ek:Str.ofString "none "=Str.ofString "none"++Str.ofString " "/\Str.ofString "not "=Str.ofString "not"++Str.ofString " "/\Str.ofString "both "=Str.ofString "both"++Str.ofString " "/\Str.ofString "either "=Str.ofString "either"++Str.ofString " ":=by decide+kernel
def M6(K:W.Frag):Sp:=λvs H Q _=>∃(a c:Addr) (ns:List Int) (b:Int) (cs:List bW),vs=[.ref a,.int b,.ref c]/\bf K H a (ns.map V.int)/\ns.length≤63/\0≤b/\b≤30000/\gD H c cs/\aY cs=true/\∀z H',aq H H'->dD cs z 3 0->Q (.str z) H'
theorem Om{cs:List bW}(h:aY cs=true):1≤cs.length/\cs.length≤6:=by
 unfold aY at h
 simp only[Bool.and_eq_true,decide_eq_true_eq]at h
 exact h.1.1
theorem Wu{cs:List bW}(h:aY cs=true){c:bW}(hc:c∈cs):c.2="number"\/c.2="text":=by
 unfold aY at h
 simp only[Bool.and_eq_true,List.all_eq_true]at h
 have :=(h.1.2 c hc).2
 unfold vD at this
 exact of_decide_eq_true this
theorem m7(T:Txt K mg):Def P w K mg base true 3 "_law_look" ["_law_script","_law_base","_law_columns_here"] (M6 K):=by
 refine Cq T (λvs H Q E h=>by obtain⟨a,c,ns,b,cs,rfl,_⟩:=h;rfl) (λf cdv A outer s H vs Q E hr h=>?_)
 obtain⟨a,c,ns,b,cs,rfl,hS,hl,hb0,hb1,⟨vs,hc,hvs⟩,hok,q⟩:=h
 have nd:=sV.nd
 have n1:=T.jQ
 have hsz:sizeLine=16777216:=sizeLine_eq
 have D1:Def P w K mg base true 1 "_law_draw" ["_law_script","_law_k","_law_many"] (lX K):=cH T
 have D2:Def P w K mg base true 2 "_law_value" ["_law_script","_law_k","_law_kind"] (yj K):=iM T
 have D3:Def P w K mg base true 1 "_law_word" ["_law_value_here"] El:=jP T
 have hvl:=hvs.len
 obtain⟨c1,c6⟩:=Om hok
 have sqc:bf K H c vs:=bf.of hc
 walk_at "A"
 refine⟨a,ns,b,_,rfl,hS,hl,by omega,by omega,by omega,?_⟩
 have a0:=bh ns b (m:=(vs.length:Int)) (by omega)
 have a1:=bj ns b (m:=(vs.length:Int)) (by omega)
 obtain⟨p,ep⟩:=Int.eq_ofNat_of_zero_le a0
 rw[ep]at a1⊢
 have hp:p<cs.length:=by omega
 have hcp:cs[p]? =some cs[p]:=List.getElem?_eq_getElem hp
 obtain⟨cv,gc,t,rfl,ht⟩:=hvs.get' hcp
 have hcm:cs[p]∈cs:=List.getElem_mem hp
 have hkd:=Wu hok hcm
 have hnm:=lC hok (List.mem_map.mpr ⟨cs[p],hcm,rfl⟩)
 have hnl:=gP hnm
 refine ak (gW (by rfl) (by rfl) ?_)
 walk_at "ex"
 refine bw sqc (bD gc) ?_
 refine fW (by rfl) (by rfl) (by rfl) (fK.of ht) (by rfl) (aO (by rfl) (aM nd (by rfl) (.inl rfl) (.inl rfl) (aO (by rfl) (aM nd (by rfl) (.inl rfl) (.inl rfl) (dm ?_)))))
 generalize hcc:cs[p]=cc at *
 walk_at "A"
 refine⟨a,ns,b+1,cc.2,rfl,hS,hl,by omega,by omega,λv H1 s1 hv=>?_⟩
 refine ak (cB ?_)
 walk_at "ex"
 refine fY (λ_=>?_) (λhne=>?_)
 .refine aF (bz ?_)
  walk_at "ex"
  have ln:(Str.ofString "none ").length=5:=by decide+kernel
  refine bA (by omega) ?_
  walk_at "ex"
  refine⟨by show 2≤sizeLine;omega,λl hl2=>?_⟩
  have s2:aq H1 (upd H1 l (.lst [.str (Str.ofString "all"),.str (Str.ofString "none "++cc.1)])):=aq.upd hl2
  have e2:(upd H1 l (.lst [.str (Str.ofString "all"),.str (Str.ofString "none "++cc.1)])) l=some (.lst [.str (Str.ofString "all"),.str (Str.ofString "none "++cc.1)]):=ao
  generalize upd H1 l (.lst [.str (Str.ofString "all"),.str (Str.ofString "none "++cc.1)])=H2 at s2 e2⊢
  walk_at "ex"
  refine⟨a,ns,b+2,2,rfl,(s1.trans s2).seq hS,hl,by omega,by omega,by decide,?_⟩
  have d0:=bh ns (b+2) (m:=2) (by decide)
  have d1:=bj ns (b+2) (m:=2) (by decide)
  generalize bH ns (b+2) 2=dv at d0 d1⊢
  have hd:dv=0\/dv=1:=by omega
  rcases hd with rfl |rfl
  .exact bw (bf.of e2) (i:=0) rfl (q _ H2 (s1.trans s2) ⟨.one .all,trivial,Nat.le_refl _,rfl,by show 1≤3;omega⟩)
  .refine bw (bf.of e2) (i:=1) rfl (q _ H2 (s1.trans s2) ⟨.one (.none p),hp,Nat.le_refl _,?_,by show 2≤3;omega⟩)
   show Str.ofString "none "++cc.1=Str.join " " [Str.ofString "none",eN cs p]
   rw[ajC,uA hcp,Ek.1]
 have hne:v≠ .non:=λe=>hne (by rw[e])
 have hwl:=(hv.word hkd).2.1
 have lb:(Str.ofString " ").length=1:=by decide+kernel
 have fin:∀(l0:Addr) (G:Hp) (many:Int),aq H1 G->G l0=some (.lst [.str (Str.ofString "is"),.str (Str.ofString "under"),.str (Str.ofString "over"),.str (Str.ofString "holds")])->((many=4/\cc.2="text")\/many=3)->
   lB (xu true P w K mg base nO "_law_look" (aa cY) f cdv A outer s H E) ((az cY).drop 7) {nx:=λ_ H'=>Q .non H',rt:=Q} [some (.ref a),some (.int b),some (.ref c),some (.int p),some (.str cc.1),some (.str cc.2),some v,some (.ref l0),some (.int many)] G:=by
  intro l0 G many sG eG hm
  refine aF (bz ?_)
  walk_at "ex"
  refine⟨a,ns,b+2,many,rfl,(s1.trans sG).seq hS,hl,by omega,by omega,by omega,?_⟩
  have d0:=bh ns (b+2) (m:=many) (by omega)
  have d1:=bj ns (b+2) (m:=many) (by omega)
  generalize bH ns (b+2) many=dv at d0 d1⊢
  obtain⟨l,el,hh,ll⟩:∃l:Lk,qg [V.str (Str.ofString "is"),.str (Str.ofString "under"),.str (Str.ofString "over"),.str (Str.ofString "holds")] dv=some (.str (pN l))/\(l= .holds->cc.2="text")/\(pN l).length≤5:=by
   have hd:dv=0\/dv=1\/dv=2\/(dv=3/\cc.2="text"):=by
    rcases hm with⟨h1,h2⟩ |h1
    .by_cases h3:dv=3
     .exact .inr (.inr (.inr ⟨h3,h2⟩))
     .omega
    .omega
   rcases hd with rfl |rfl |rfl |⟨rfl,h⟩
   .exact⟨.is,rfl,λz=>(by cases z),by decide+kernel⟩
   .exact⟨.under,rfl,λz=>(by cases z),by decide+kernel⟩
   .exact⟨.over,rfl,λz=>(by cases z),by decide+kernel⟩
   .exact⟨.holds,rfl,λ_=>h,by decide+kernel⟩
  refine bw (bf.of eG) el ?_
  walk_at "ex"
  refine bA (by omega) ?_
  walk_at "ex"
  refine bA (by rw[len_app];omega) ?_
  walk_at "ex"
  refine bA (by rw[len_app,len_app];omega) ?_
  walk_at "ex"
  refine⟨v,cc.2,rfl,hv,?_⟩
  refine bA (by rw[len_app,len_app,len_app];omega) ?_
  refine q _ G (s1.trans sG) ⟨.one (.look l p v),⟨cc,hcp,hv,hne,hh⟩,Nat.le_refl _,?_,Nat.le_refl _⟩
  show _=Str.join " " [pN l,eN cs p,wordOf v]
  rw[ajj,uA hcp]
 refine aN (ak ?_)
 refine L2.Wi (i:=7) (x:="_law_looks") nd (by rfl) (Or.inl rfl) (by rfl) (Or.inl rfl) ?_
 walk_at "ex"
 refine⟨by show 4≤sizeLine;omega,λl0 h0=>?_⟩
 have s2:aq H1 (upd H1 l0 (.lst [.str (Str.ofString "is"),.str (Str.ofString "under"),.str (Str.ofString "over"),.str (Str.ofString "holds")])):=aq.upd h0
 have e2:(upd H1 l0 (.lst [.str (Str.ofString "is"),.str (Str.ofString "under"),.str (Str.ofString "over"),.str (Str.ofString "holds")])) l0=some (.lst [.str (Str.ofString "is"),.str (Str.ofString "under"),.str (Str.ofString "over"),.str (Str.ofString "holds")]):=ao
 generalize upd H1 l0 (.lst [.str (Str.ofString "is"),.str (Str.ofString "under"),.str (Str.ofString "over"),.str (Str.ofString "holds")])=H2 at s2 e2⊢
 walk_at "A"
 refine ak (cB ?_)
 walk_at "ex"
 refine fY (λ_=>?_) (λh=>?_)
 .refine aF ?_
  walk_at "s"
  walk_at "ex"
  exact fin l0 H2 3 s2 e2 (.inr rfl)
 .have ht:cc.2="text":=hkd.resolve_left λe=>h (by rw[e])
  exact aN (fin l0 H2 4 s2 e2 (.inl ⟨rfl,ht⟩))
def G4(K:W.Frag)(n d lo:Nat):Sp:=λvs H Q _=>∃(a c:Addr) (ns:List Int) (b:Int) (cs:List bW),vs=[.ref a,.int b,.ref c]/\bf K H a (ns.map V.int)/\ns.length≤63/\0≤b/\b≤lo/\gD H c cs/\aY cs=true/\∀z H',aq H H'->dD cs z n d->Q (.str z) H'
theorem dD.mono{cs:List bW}{z:Str}{n m d e:Nat}(h:dD cs z n d)(hn:n≤m)(hd:d≤e):dD cs z m e:=by
 obtain⟨t,h1,h2,h3,h4⟩:=h
 exact⟨t,h1,by omega,h3,by omega⟩
theorem lK(T:Txt K mg):Def P w K mg base true 4 "_law_sieve" ["_law_script","_law_base","_law_columns_here"] (G4 K 15 3 20000):=by
 refine zU T (λvs H Q E h=>by obtain⟨a,c,ns,b,cs,rfl,_⟩:=h;rfl) (λf cdv A outer s H vs Q E hr h=>?_)
 obtain⟨a,c,ns,b,cs,rfl,hS,hl,hb0,hb1,hC,hok,q⟩:=h
 have nd:=pO.nd
 have n1:=T.pB
 have hsz:sizeLine=16777216:=sizeLine_eq
 have D1:Def P w K mg base true 1 "_law_draw" ["_law_script","_law_k","_law_many"] (lX K):=cH T
 have D2:Def P w K mg base true 3 "_law_look" ["_law_script","_law_base","_law_columns_here"] (M6 K):=m7 T
 have lb:(Str.ofString " ").length=1:=by decide+kernel
 have ln:(Str.ofString "not ").length=4:=by decide+kernel
 have lbo:(Str.ofString "both ").length=5:=by decide+kernel
 have le:(Str.ofString "either ").length=7:=by decide+kernel
 walk_at "A"
 refine⟨a,c,ns,b,cs,rfl,hS,hl,by omega,by omega,hC,hok,λz0 H1 s1 hz0=>?_⟩
 refine ak ?_
 refine um (by walk_at "po") (by rfl) (by rfl) n1 (by rfl) ?_
 walk_at "ex"
 refine⟨a,ns,b+60,4,rfl,s1.seq hS,hl,by omega,by omega,by decide,?_⟩
 have d0:=bh ns (b+60) (m:=4) (by decide)
 have d1:=bj ns (b+60) (m:=4) (by decide)
 generalize bH ns (b+60) 4=dn at d0 d1⊢
 refine⟨_,rfl,by omega,by omega,λi σ H'=>(∃z o4 o5,σ=[some (.ref a),some (.int b),some (.ref c),some (.str z),o4,o5]/\dD cs z (3+4*i) i)/\aq H H',⟨⟨z0,none,none,rfl,hz0⟩,s1⟩,λi σ H' hi hP=>?_,λσ H' hP=>?_⟩
 .obtain⟨⟨z,o4,o5,rfl,hz⟩,sm⟩:=hP
  have hi3:i<3:=by omega
  have hzl:=hz.len hok
  refine aM nd (by rfl) (.inl rfl) (.inl rfl) ?_
  walk_at "A"
  refine⟨a,ns,_,3,rfl,sm.seq hS,hl,by omega,by omega,by decide,?_⟩
  generalize bH ns (b+61+(i:Int)) 3=way
  refine aF (cB ?_)
  walk_at "ex"
  refine fY (λ_=>?_) (λ_=>?_)
  .refine aF ?_
   walk_at "s"
   walk_at "ex"
   refine bA (by omega) ?_
   refine⟨⟨_,_,_,rfl,?_⟩,sm⟩
   rw[Ek.2.1]
   exact hz.nt.mono (by omega) (by omega)
  refine aF (cB ?_)
  walk_at "ex"
  refine fY (λ_=>?_) (λ_=>?_)
  .refine aF ?_
   walk_at "s"
   walk_at "ex"
   refine bA (by omega) ?_
   walk_at "ex"
   refine bA (by rw[len_app];omega) ?_
   walk_at "ex"
   refine⟨a,c,ns,_,cs,rfl,sm.seq hS,hl,by omega,by omega,hC.same sm,hok,λy H2 s2 hy=>?_⟩
   have hyl:=hy.len hok
   refine bA (by rw[len_app,len_app];omega) ?_
   refine⟨⟨_,_,_,rfl,?_⟩,sm.trans s2⟩
   rw[Ek.2.2.1]
   exact(dD.two (k:=i) (.inl rfl) hz hy (by omega) (by omega)).mono (by omega) (by omega)
  .refine aF ?_
   walk_at "s"
   walk_at "ex"
   refine⟨a,c,ns,_,cs,rfl,sm.seq hS,hl,by omega,by omega,hC.same sm,hok,λy H2 s2 hy=>?_⟩
   have hyl:=hy.len hok
   refine bA (by omega) ?_
   walk_at "ex"
   refine bA (by rw[len_app];omega) ?_
   walk_at "ex"
   refine bA (by rw[len_app,len_app];omega) ?_
   refine⟨⟨_,_,_,rfl,?_⟩,sm.trans s2⟩
   rw[Ek.2.2.2]
   exact(dD.two (k:=i) (.inr rfl) hy hz (by omega) (by omega)).mono (by omega) (by omega)
 .obtain⟨⟨z,o4,o5,rfl,hz⟩,sm⟩:=hP
  have hd:dn.toNat≤3:=by omega
  refine aF (bz ?_)
  walk_at "ex"
  exact q z H' sm (hz.mono (by omega) (by omega))
def Nr(K:W.Frag):Sp:=λvs H Q _=>∃(a c:Addr) (ns:List Int) (b:Int) (cs:List bW),vs=[.ref a,.int b,.ref c]/\bf K H a (ns.map V.int)/\ns.length≤63/\0≤b/\b≤10000/\gD H c cs/\aY cs=true/\∀p M H',aq H H'->yD H' p M->fM cs M->Q (.ref p) H'
theorem nF(T:Txt K mg):Def P w K mg base true 5 "_law_mark" ["_law_script","_law_base","_law_columns_here"] (Nr K):=by
 refine CV T (λvs H Q E h=>by obtain⟨a,c,ns,b,cs,rfl,_⟩:=h;rfl) (λf cdv A outer s H vs Q E hr h=>?_)
 obtain⟨a,c,ns,b,cs,rfl,hS,hl,hb0,hb1,hC,hok,q⟩:=h
 have nd:=tM.nd
 have hsz:sizeLine=16777216:=sizeLine_eq
 have D1:Def P w K mg base true 1 "_law_draw" ["_law_script","_law_k","_law_many"] (lX K):=cH T
 have D2:Def P w K mg base true 2 "_law_order" ["_law_script","_law_base","_law_columns_here"] (Hf K):=lU T
 have D3:Def P w K mg base true 1 "_law_key" ["_law_columns_here","_law_order_here","_law_row","_law_values_here"] (R0 K):=qu T
 have D4:Def P w K mg base true 3 "_law_values" ["_law_script","_law_k","_law_columns_here"] (Aj K):=j5 T
 have D5:Def P w K mg base true 4 "_law_sieve" ["_law_script","_law_base","_law_columns_here"] (G4 K 15 3 20000):=lK T
 obtain⟨c1,c6⟩:=Om hok
 walk_at "A"
 refine⟨a,ns,b,c,cs,rfl,hS,hl,by omega,by omega,hC,hok,λo os H1 s1 ho hO hoo=>?_⟩
 obtain⟨o4,onn,oin⟩:=hoo
 have ajH:∀o∈os,∃c∈cs,c.1=o.1:=λo ho=>by
  obtain⟨c,hc,e⟩:=List.mem_map.mp (oin o ho)
  exact⟨c,hc,e⟩
 walk_at "A"
 refine⟨by show 2≤sizeLine;omega,λl1 h1=>?_⟩
 have s2:aq H1 (upd H1 l1 (.lst [.str (Str.ofString "living"),.str (Str.ofString "still")])):=aq.upd h1
 have e2:(upd H1 l1 (.lst [.str (Str.ofString "living"),.str (Str.ofString "still")])) l1=some (.lst [.str (Str.ofString "living"),.str (Str.ofString "still")]):=ao
 generalize upd H1 l1 (.lst [.str (Str.ofString "living"),.str (Str.ofString "still")])=H2 at s2 e2⊢
 have s02:=s1.trans s2
 walk_at "ex"
 refine⟨a,ns,_,2,rfl,s02.seq hS,hl,by omega,by omega,by decide,?_⟩
 obtain⟨lv,elv⟩:∃lv:Bool,qg [V.str (Str.ofString "living"),.str (Str.ofString "still")] (bH ns (b+12) 2)=some (.str (j8 lv)):=by
  have d0:=bh ns (b+12) (m:=2) (by decide)
  have d1:=bj ns (b+12) (m:=2) (by decide)
  have hd:bH ns (b+12) 2=0\/bH ns (b+12) 2=1:=by omega
  rcases hd with e |e<;>rw[e]
  .exact⟨true,rfl⟩
  .exact⟨false,rfl⟩
 refine bw (bf.of e2) elv ?_
 walk_at "A"
 refine⟨a,ns,_,5001,rfl,s02.seq hS,hl,by omega,by omega,by decide,?_⟩
 have m0:=bh ns (b+13) (m:=5001) (by decide)
 have m1:=bj ns (b+13) (m:=5001) (by decide)
 generalize bH ns (b+13) 5001=mA at m0 m1⊢
 walk_at "ex"
 refine⟨a,ns,_,10,rfl,s02.seq hS,hl,by omega,by omega,by decide,?_⟩
 have m2:=bh ns (b+14) (m:=10) (by decide)
 have m3:=bj ns (b+14) (m:=10) (by decide)
 generalize bH ns (b+14) 10=mB at m2 m3⊢
 walk_at "ex"
 refine⟨by show 4≤sizeLine;omega,λl2 h2=>?_⟩
 have s3:aq H2 (upd H2 l2 (.lst [.int 0,.int 5000,.int mA,.int mB])):=aq.upd h2
 have e3:(upd H2 l2 (.lst [.int 0,.int 5000,.int mA,.int mB])) l2=some (.lst [.int 0,.int 5000,.int mA,.int mB]):=ao
 generalize upd H2 l2 (.lst [.int 0,.int 5000,.int mA,.int mB])=H3 at s3 e3⊢
 have s03:=s02.trans s3
 walk_at "A"
 refine⟨a,ns,_,4,rfl,s03.seq hS,hl,by omega,by omega,by decide,?_⟩
 obtain⟨mo,emo,hmo⟩:∃mo:Nat,qg [V.int 0,.int 5000,.int mA,.int mB] (bH ns (b+15) 4)=some (.int (mo:Int))/\mo≤5000:=by
  have d0:=bh ns (b+15) (m:=4) (by decide)
  have d1:=bj ns (b+15) (m:=4) (by decide)
  have hd:bH ns (b+15) 4=0\/bH ns (b+15) 4=1\/bH ns (b+15) 4=2\/bH ns (b+15) 4=3:=by omega
  rcases hd with e |e |e |e<;>rw[e]
  .exact⟨0,rfl,by omega⟩
  .exact⟨5000,rfl,by omega⟩
  .exact⟨mA.toNat,by rw[show((mA.toNat:Nat):Int)=mA from by omega];rfl,by omega⟩
  .exact⟨mB.toNat,by rw[show((mB.toNat:Nat):Int)=mB from by omega];rfl,by omega⟩
 refine bw (bf.of e3) emo ?_
 walk_at "A"
 refine⟨a,ns,_,500000,rfl,s03.seq hS,hl,by omega,by omega,by decide,?_⟩
 have r0:=bh ns (b+16) (m:=500000) (by decide)
 have r1:=bj ns (b+16) (m:=500000) (by decide)
 generalize bH ns (b+16) 500000=rA at r0 r1⊢
 walk_at "ex"
 refine⟨a,ns,_,30,rfl,s03.seq hS,hl,by omega,by omega,by decide,?_⟩
 have r2:=bh ns (b+17) (m:=30) (by decide)
 have r3:=bj ns (b+17) (m:=30) (by decide)
 generalize bH ns (b+17) 30=rB at r2 r3⊢
 walk_at "ex"
 refine⟨by show 4≤sizeLine;omega,λl3 h3=>?_⟩
 have s4:aq H3 (upd H3 l3 (.lst [.int 0,.int 1000000000,.int rA,.int rB])):=aq.upd h3
 have e4:(upd H3 l3 (.lst [.int 0,.int 1000000000,.int rA,.int rB])) l3=some (.lst [.int 0,.int 1000000000,.int rA,.int rB]):=ao
 change lB _ _ _ _ (upd H3 l3 (.lst [.int 0,.int 1000000000,.int rA,.int rB]))
 generalize upd H3 l3 (.lst [.int 0,.int 1000000000,.int rA,.int rB])=H4 at s4 e4⊢
 have s04:=s03.trans s4
 walk_at "A"
 refine⟨a,ns,_,4,rfl,s04.seq hS,hl,by omega,by omega,by decide,?_⟩
 obtain⟨rw',erw,hrw⟩:∃rr:Nat,qg [V.int 0,.int 1000000000,.int rA,.int rB] (bH ns (b+18) 4)=some (.int (rr:Int))/\rr≤1000000000:=by
  have d0:=bh ns (b+18) (m:=4) (by decide)
  have d1:=bj ns (b+18) (m:=4) (by decide)
  have hd:bH ns (b+18) 4=0\/bH ns (b+18) 4=1\/bH ns (b+18) 4=2\/bH ns (b+18) 4=3:=by omega
  rcases hd with e |e |e |e<;>rw[e]
  .exact⟨0,rfl,by omega⟩
  .exact⟨1000000000,rfl,by omega⟩
  .exact⟨rA.toNat,by rw[show((rA.toNat:Nat):Int)=rA from by omega];rfl,by omega⟩
  .exact⟨rB.toNat,by rw[show((rB.toNat:Nat):Int)=rB from by omega];rfl,by omega⟩
 refine bw (bf.of e4) erw ?_
 walk_at "A"
 refine⟨a,ns,_,c,cs,rfl,s04.seq hS,hl,by omega,by omega,hC.same s04,by omega,λv xs H5 s5 hv ev hxs=>?_⟩
 have s05:=s04.trans s5
 have s15:=(s2.trans (s3.trans s4)).trans s5
 walk_at "ex"
 refine⟨c,o,v,(rw':Int),cs,os,xs,rfl,hC.same s05,hO.same s15,ev,hxs.len.symm,by omega,by omega,ajH,λk kv H6 s6 hk hkv ek ekv=>?_⟩
 have s06:=s05.trans s6
 walk_at "A"
 refine⟨by show 2≤sizeLine;omega,λl4 h4=>?_⟩
 have s7:aq H6 (upd H6 l4 (.lst [.str (Str.ofString "ahead"),.str (Str.ofString "behind")])):=aq.upd h4
 have e7:(upd H6 l4 (.lst [.str (Str.ofString "ahead"),.str (Str.ofString "behind")])) l4=some (.lst [.str (Str.ofString "ahead"),.str (Str.ofString "behind")]):=ao
 generalize upd H6 l4 (.lst [.str (Str.ofString "ahead"),.str (Str.ofString "behind")])=H7 at s7 e7⊢
 have s07:=s06.trans s7
 walk_at "ex"
 refine⟨a,ns,_,2,rfl,s07.seq hS,hl,by omega,by omega,by decide,?_⟩
 obtain⟨sd,esd⟩:∃sd:Bool,qg [V.str (Str.ofString "ahead"),.str (Str.ofString "behind")] (bH ns (b+19) 2)=some (.str (jN sd)):=by
  have d0:=bh ns (b+19) (m:=2) (by decide)
  have d1:=bj ns (b+19) (m:=2) (by decide)
  have hd:bH ns (b+19) 2=0\/bH ns (b+19) 2=1:=by omega
  rcases hd with e |e<;>rw[e]
  .exact⟨true,rfl⟩
  .exact⟨false,rfl⟩
 refine bw (bf.of e7) esd ?_
 refine aF (bz ?_)
 walk_at "ex"
 refine⟨a,c,ns,_,cs,rfl,s07.seq hS,hl,by omega,by omega,hC.same s07,hok,λz H8 s8 hz=>?_⟩
 obtain⟨z1,z2,z3,z4⟩:=hz.good hok (by omega) (by omega)
 have s78:=s7.trans s8
 walk_at "ex"
 refine⟨by show 2≤sizeLine;omega,λcu hcu=>?_⟩
 have s9:aq H8 (upd H8 cu (.tup [.str (jN sd),.ref k])):=aq.upd hcu
 have e9:(upd H8 cu (.tup [.str (jN sd),.ref k])) cu=some (.tup [.str (jN sd),.ref k]):=ao
 generalize upd H8 cu (.tup [.str (jN sd),.ref k])=H9 at s9 e9⊢
 walk_at "ex"
 refine⟨by show 5≤sizeLine;omega,λp hp=>?_⟩
 have s10:aq H9 (upd H9 p (.tup [.str (j8 lv),.int (mo:Int),.ref o,.str z,.ref cu])):=aq.upd hp
 have s6x:=s78.trans (s9.trans s10)
 refine q p ⟨lv,mo,os,z,⟨sd,rw',Xf cs os xs⟩⟩ _ (s06.trans s6x) ⟨o,cu,ao,hO.same (s15.trans (s6.trans s6x)),k,kv,s10 _ _ e9,s6x _ _ ek,s6x _ _ ekv⟩ ⟨hmo,o4,oin,onn,hrw,Ht hxs ajH,z1,z2,z3,z4⟩
theorem Yq{l m:List Nat}{n:Nat}(hl:∀c∈l,48≤c/\c≤57)(hm:∀c∈m,48≤c/\c≤57)(ll:l.length≤5)(lm:m.length=4)(vl:Xl l=10000+n)(vm:Xl m=n)(hn:n<9973):l.drop 1=m:=by
 match m,lm with
 |[p,q,r,s],_=>
  have hp:=hm p (by simp)
  have hq:=hm q (by simp)
  have hr:=hm r (by simp)
  have hs:=hm s (by simp)
  have vm':(((0*10+(p-48))*10+(q-48))*10+(r-48))*10+(s-48)=n:=vm
  match l,ll with
  |[],_=>have :0=10000+n:=vl;omega
  |[a],_=>
   have ha:=hl a (by simp)
   have :0*10+(a-48)=10000+n:=vl
   omega
  |[a,b],_=>
   have ha:=hl a (by simp)
   have hb:=hl b (by simp)
   have :(0*10+(a-48))*10+(b-48)=10000+n:=vl
   omega
  |[a,b,c],_=>
   have ha:=hl a (by simp)
   have hb:=hl b (by simp)
   have hc:=hl c (by simp)
   have :((0*10+(a-48))*10+(b-48))*10+(c-48)=10000+n:=vl
   omega
  |[a,b,c,d],_=>
   have ha:=hl a (by simp)
   have hb:=hl b (by simp)
   have hc:=hl c (by simp)
   have hd:=hl d (by simp)
   have :(((0*10+(a-48))*10+(b-48))*10+(c-48))*10+(d-48)=10000+n:=vl
   omega
  |[a,b,c,d,e],_=>
   have ha:=hl a (by simp)
   have hb:=hl b (by simp)
   have hc:=hl c (by simp)
   have hd:=hl d (by simp)
   have he:=hl e (by simp)
   have :((((0*10+(a-48))*10+(b-48))*10+(c-48))*10+(d-48))*10+(e-48)=10000+n:=vl
   have e1:b=p:=by omega
   have e2:c=q:=by omega
   have e3:d=r:=by omega
   have e4:e=s:=by omega
   rw[e1,e2,e3,e4]
   rfl
theorem Tt{n:Nat}(h:n<9973):bQ (Str.ofString (toString ((10000+n:Nat):Int))) (some 1) none=cj n:=by
 apply bU
 have e0:=lq (Str.ofString (toString ((10000+n:Nat):Int))) 1
 rw[show((1:Nat):Int)=1 from rfl]at e0
 rw[e0]
 have h4:=sX n h
 unfold uU at h4
 simp only[Bool.and_eq_true,decide_eq_true_eq,List.all_eq_true]at h4
 have hl:=jJ (m:=10000+n) (k:=5) (by decide) (by omega)
 have hx:=L2.len_list (Str.ofString (toString ((10000+n:Nat):Int)))
 have hy:=L2.len_list (cj n)
 refine Yq (n:=n) (gb (10000+n)) (λc hc=>of_decide_eq_true (h4.2.1 c hc)) (by omega) (by omega) ?_ h4.2.2 h
 rw[il]
 exact W.KIN.val_back (10000+n)
def By:Sp:=λvs H Q _=>∃z,vs=[.str z]/\z.length≤100000/\(∀c∈z.cps.toList,c<1114112)/\∀H',aq H H'->Q (.str (z++Str.ofString "."++cj (aP z.cps.toList))) H'
theorem ji(T:Txt K mg):Def P w K mg base true 1 "_law_checked" ["_law_body_here"] By:=by
 refine w6 T (λvs H Q E h=>by obtain⟨z,rfl,_⟩:=h;rfl) (λf cdv A outer s H vs Q E hr h=>?_)
 obtain⟨z,rfl,hz,hc,q⟩:=h
 have n1:=T.abb
 have n2:=T.Mi
 have n3:=T.Uv
 have n4:=T.Ax
 have nd:=mK.nd
 have hsz:sizeLine=16777216:=sizeLine_eq
 have lp:(Str.ofString ".").length=1:=by decide+kernel
 walk_at "A"
 refine ak ?_
 refine Zt (by walk_at "po") (by rfl) (by rfl) n2 (by rfl) ?_
 walk_at "ex"
 refine Zg (by rfl) hz λp hp=>?_
 have sm:aq H (upd H p (.lst (z.cps.toList.map λc=>V.str ⟨#[c]⟩))):=aq.upd hp
 have ep:(upd H p (.lst (z.cps.toList.map λc=>V.str ⟨#[c]⟩))) p=some (.lst (z.cps.toList.map λc=>V.str ⟨#[c]⟩)):=ao
 generalize upd H p (.lst (z.cps.toList.map λc=>V.str ⟨#[c]⟩))=H1 at sm ep⊢
 have zM:(z.cps.toList.map λc=>V.str ⟨#[c]⟩).length=z.cps.toList.length:=List.length_map ..
 refine⟨p,_,rfl,bf.of ep,λi σ H'=>H'=H1/\∃t o,σ=[some (.str z),some (.int t),o]/\t=aP (z.cps.toList.drop (z.cps.toList.length-i)),⟨rfl,0,none,rfl,?_⟩,λi σ H' hi hP=>?_,λi x σ H' hlt hi hP=>?_,λσ H' hP=>?_⟩
 .rw[Nat.sub_zero,List.drop_length]
  rfl
 .rw[hP.1]
  exact bf.of ep
 .obtain⟨rfl,t,o,rfl,e⟩:=hP
  rw[zM]at hlt
  rw[zM,List.getElem?_map]at hi
  have h1:z.cps.toList.length-1-i<z.cps.toList.length:=by omega
  rw[List.getElem?_eq_getElem h1]at hi
  have hx:x= .str ⟨#[z.cps.toList[z.cps.toList.length-1-i]]⟩:=by
   have :=Option.some.inj hi
   exact this.symm
  subst hx
  have hcb:=hc _ (List.getElem_mem h1)
  have hd:z.cps.toList.drop (z.cps.toList.length-(i+1))=z.cps.toList[z.cps.toList.length-1-i]::z.cps.toList.drop (z.cps.toList.length-i):=by
   have e1:z.cps.toList.length-(i+1)=z.cps.toList.length-1-i:=by omega
   have e2:z.cps.toList.length-i=z.cps.toList.length-1-i+1:=by omega
   rw[e1,e2,List.drop_eq_getElem_cons h1]
  have hb:=cA (z.cps.toList.drop (z.cps.toList.length-i))
  rw[<-e]at hb
  generalize z.cps.toList[z.cps.toList.length-1-i]=c at hcb hd⊢
  refine aM nd (by rfl) (.inl rfl) (.inl rfl) ?_
  refine aF ?_
  walk_at "s"
  walk_at "ex"
  refine⟨rfl,_,_,rfl,?_⟩
  rw[hd]
  show _=((c:Int)+137*aP _) % 9973
  rw[<-e,Int.mul_comm,Int.add_comm]
 .obtain⟨rfl,t,o,rfl,e⟩:=hP
  rw[zM,Nat.sub_self,List.drop_zero]at e
  have hb:=cA z.cps.toList
  rw[<-e]at hb
  obtain⟨n,rfl⟩:=Int.eq_ofNat_of_zero_le hb.1
  have hn:n<9973:=by omega
  rw[<-e]at q
  generalize aP z.cps.toList=cz at e q
  refine aF (bz ?_)
  walk_at "ex"
  refine bA (by omega) ?_
  walk_at "ex"
  refine vy (qm ?_) ?_
  .have :(10:Nat)^60>20000:=by decide
   omega
  walk_at "ex"
  have hl5:=dF (i:=10000+(n:Int)) (k:=5) (by decide) (by omega)
  refine iJ (by omega) ?_
  have e4:=Tt hn
  rw[show(((10000+n:Nat):Int))=10000+(n:Int)from by omega]at e4
  rw[e4]
  have h4:=oX (n:Int) (by omega) (by omega)
  refine bA (by rw[len_app];omega) ?_
  exact q _ sm
def Im:List V->Str
 |[]=>Str.ofString ""
 |x::r=>Str.ofString " "++wordOf x++Im r
theorem zf:(Str.ofString "").cps.toList=[]:=by decide+kernel
theorem HW(y:V):∀xs:List V,Im (xs++[y])=Im xs++Str.ofString " "++wordOf y
 |[]=>by
  show Str.ofString " "++wordOf y++Str.ofString ""=Str.ofString ""++Str.ofString " "++wordOf y
  apply bU
  simp[aW,zf]
 |x::r=>by
  show Str.ofString " "++wordOf x++Im (r++[y])=(Str.ofString " "++wordOf x++Im r)++Str.ofString " "++wordOf y
  rw[HW y r]
  apply bU
  simp only[aW,List.append_assoc]
theorem O9(a:Str):∀xs:List V,Str.join " " (a::xs.map wordOf)=a++Im xs
 |[]=>by
  show a=a++Str.ofString ""
  apply bU
  simp[aW,zf]
 |x::r=>by
  show a++Str.ofString " "++Str.join " " (wordOf x::r.map wordOf)=a++(Str.ofString " "++wordOf x++Im r)
  rw[O9 (wordOf x) r]
  apply bU
  simp only[aW,List.append_assoc]
theorem Z5(M:Mk):bK M=dZ M.living++Str.ofString "/"++Str.ofString (toString (M.moment:Int))++Str.ofString "/"++wJ M.os++Str.ofString "/"++M.sieve++Str.ofString "/"++jt M.cut.ahead++Str.ofString (toString (M.cut.row:Int))++Im M.cut.xs:=by
 have e:bK M=dZ M.living++Str.ofString "/"++(Str.ofString (toString (M.moment:Int))++Str.ofString "/"++(wJ M.os++Str.ofString "/"++(M.sieve++Str.ofString "/"++(jt M.cut.ahead++Str.join " " (Str.ofString (toString (M.cut.row:Int))::M.cut.xs.map wordOf))))):=rfl
 rw[e,O9]
 apply bU
 simp only[aW,List.append_assoc]
def Pq:Sp:=λvs H Q _=>∃(p:Addr) (M:Mk) (cs:List bW),vs=[.ref p]/\yD H p M/\aY cs=true/\fM cs M/\∀H',aq H H'->Q (.str (bK M)) H'
theorem nZ(T:Txt K mg):Def P w K mg base true 2 "_law_body" ["_law_mark_here"] Pq:=by
 refine Dy T (λvs H Q E h=>by obtain⟨p,M,cs,rfl,_⟩:=h;rfl) (λf cdv A outer s H vs Q E hr h=>?_)
 obtain⟨p,M,cs,rfl,⟨o,c,ep,⟨ws,eo,hws⟩,k,v,ec,ek,ev⟩,hc,hM,q⟩:=h
 have nd:=tQ.nd
 have n1:=T.aaV
 have n2:=T.Ax
 have hsz:sizeLine=16777216:=sizeLine_eq
 have ls:(Str.ofString "/").length=1:=by decide+kernel
 have lb:(Str.ofString " ").length=1:=by decide+kernel
 have lpl:(Str.ofString "+").length=1:=by decide+kernel
 have lmi:(Str.ofString "-").length=1:=by decide+kernel
 have D1:Def P w K mg base true 1 "_law_word" ["_law_value_here"] El:=jP T
 have hwl:=hws.len
 have hol:=hM.len
 have hot:=yg hc hM
 have hsl:=hM.short
 have hxl:=hM.xsl
 have hll:(dZ M.living).length=1:=by cases M.living<;>decide+kernel
 have hgl:(jt M.cut.ahead).length=1:=by cases M.cut.ahead<;>decide+kernel
 have hml:=dF (i:=(M.moment:Int)) (k:=4) (by decide) (by have :=hM.moment;have :(10:Nat)^4>5000:=by decide
                                                         omega)
 have hrl:=dF (i:=(M.cut.row:Int)) (k:=10) (by decide) (by have :=hM.row;have :(10:Nat)^10>1000000000:=by decide
                                                           omega)
 refine ak (gW (by rfl) (by rfl) ?_)
 walk_at "ex"
 refine fW (by rfl) (by rfl) (by rfl) (fK.of ep) (by rfl) (aO (by rfl) (aM nd (by rfl) (.inl rfl) (.inl rfl) (aO (by rfl) (aM nd (by rfl) (.inl rfl) (.inl rfl) (aO (by rfl) (aM nd (by rfl) (.inl rfl) (.inl rfl) (aO (by rfl) (aM nd (by rfl) (.inl rfl) (.inl rfl) (aO (by rfl) (aM nd (by rfl) (.inl rfl) (.inl rfl) (dm ?_)))))))))))
 walk_at "A"
 refine⟨by show 0≤sizeLine;omega,λwl aeo=>?_⟩
 have s1:aq H (upd H wl (.lst [])):=aq.upd aeo
 have e1:(upd H wl (.lst [])) wl=some (.lst []):=ao
 generalize upd H wl (.lst [])=H1 at s1 e1⊢
 refine ak (Oc (by walk_at "po") (by rfl) (by intro _;rfl) ?_)
 walk_at "ex"
 refine⟨o,ws,rfl,bf.of (s1 _ _ eo),λi σ H'=>(∃o7 o8,σ=[some (.ref p),some (.str (j8 M.living)),some (.int M.moment),some (.ref o),some (.str M.sieve),some (.ref c),some (.ref wl),o7,o8,none,none])/\aq H H'/\H' wl=some (.lst (((M.os.take i).map eO).map V.str)),⟨⟨none,none,rfl⟩,s1,e1⟩,λi σ' H' hi hP=>bf.of (hP.2.1 _ _ eo),λi x σ' H' hx hP=>?_,λσ' H' hP=>?_⟩
 .obtain⟨⟨o7,o8,rfl⟩,sm,ewl⟩:=hP
  obtain⟨oo,hoo,t,rfl,ht⟩:=hws.get hx
  have hnl:=gP (lC hc (hM.names oo (List.mem_of_getElem? hoo)))
  have hit:i<M.os.length:=(List.getElem?_eq_some_iff.mp hoo).1
  refine fW (by rfl) (by rfl) (by rfl) (fK.of (sm _ _ ht)) (by rfl) (aO (by rfl) (aM nd (by rfl) (.inl rfl) (.inl rfl) (aO (by rfl) (aM nd (by rfl) (.inl rfl) (.inl rfl) (dm ?_)))))
  refine aF (gB (by rfl) (ju F.plainAttrs_list F.slot_list_append F.type_list_append (by rfl) (by rfl) (by rfl) (by rfl) (by rfl) ?_))
  walk_at "e"
  refine⟨.inl ⟨rfl,_,bf.of ewl⟩,?_⟩
  walk_at "ex"
  refine⟨by show 2≤sizeLine;omega,λy hy=>?_⟩
  have sy:aq H' (upd H' y (.lst [.str (Str.ofString "-"),.str (Str.ofString "+")])):=aq.upd hy
  have ey:(upd H' y (.lst [.str (Str.ofString "-"),.str (Str.ofString "+")])) y=some (.lst [.str (Str.ofString "-"),.str (Str.ofString "+")]):=ao
  generalize upd H' y (.lst [.str (Str.ofString "-"),.str (Str.ofString "+")])=H2 at sy ey⊢
  walk_at "ex"
  refine gJ uJ (.inr ⟨_,rfl,?_⟩)
  have fin:∀sg:Str,sg.length=1->sg++oo.1=eO oo->OP (xu true P w K mg base ir "_law_body" (aa cL) f cdv A outer s H E) (binaryOp .Add) (.str sg) (.str oo.1) H2 (λv H3=>v= .str (eO oo)/\H3=H2):=λsg h1 h2=>bA (by omega) ⟨by rw[h2],rfl⟩
  have key:∀(sg:Str) (Q2:VK),sg.length=1->sg++oo.1=eO oo->Q2 (.str (eO oo)) H2->OP (xu true P w K mg base ir "_law_body" (aa cL) f cdv A outer s H E) (binaryOp .Add) (.str sg) (.str oo.1) H2 Q2:=λsg Q2 h1 h2 hq=>bA (by omega) (by rw[h2];exact hq)
  have htk:((M.os.take (i+1)).map eO).map V.str=((M.os.take i).map eO).map V.str++[.str (eO oo)]:=by
   rw[List.take_add_one,hoo,List.map_append,List.map_append]
   rfl
  have aAm:EA (xu true P w K mg base ir "_law_body" (aa cL) f cdv A outer s H E) [] [some (.ref p),some (.str (j8 M.living)),some (.int M.moment),some (.ref o),some (.str M.sieve),some (.ref c),some (.ref wl),some (.str oo.1),some (.bl oo.2),none,none] H2 (λvs H3=>vs=[]/\H3=H2):=j7 ⟨rfl,rfl⟩
  have hlt:(((M.os.take i).map eO).map V.str).length≤4:=by rw[List.length_map,List.length_map,List.length_take];omega
  obtain⟨nm,up⟩:=oo
  cases up with
  |true=>
   refine bw (bf.of ey) (i:=1) rfl ?_
   walk_at "ex"
   refine key _ _ lpl rfl ?_
   walk_at "ex"
   refine n8 gK ⟨wl,_,_,rfl,rfl,sy _ _ ewl,by omega,?_⟩
   refine⟨⟨_,_,rfl⟩,λb u e=>?_,by rw[ao,htk]⟩
   rw[aB (au e aeo)]
   exact sy _ _ (sm _ _ e)
  |false=>
   refine bw (bf.of ey) (i:=0) rfl ?_
   walk_at "ex"
   refine key _ _ lmi rfl ?_
   walk_at "ex"
   refine n8 gK ⟨wl,_,_,rfl,rfl,sy _ _ ewl,by omega,?_⟩
   refine⟨⟨_,_,rfl⟩,λb u e=>?_,by rw[ao,htk]⟩
   rw[aB (au e aeo)]
   exact sy _ _ (sm _ _ e)
 obtain⟨⟨o7,o8,rfl⟩,sm,ewl⟩:=hP
 rw[hwl,List.take_length]at ewl
 walk_at "A"
 refine⟨by show 2≤sizeLine;omega,λy hy=>?_⟩
 have sy:aq H' (upd H' y (.lst [.str (Str.ofString "s"),.str (Str.ofString "l")])):=aq.upd hy
 have ey:(upd H' y (.lst [.str (Str.ofString "s"),.str (Str.ofString "l")])) y=some (.lst [.str (Str.ofString "s"),.str (Str.ofString "l")]):=ao
 generalize upd H' y (.lst [.str (Str.ofString "s"),.str (Str.ofString "l")])=H2 at sy ey⊢
 walk_at "ex"
 refine gJ uJ (.inr ⟨_,rfl,?_⟩)
 have el:qg [V.str (Str.ofString "s"),.str (Str.ofString "l")] (if decide (V.str (j8 M.living)=V.str (Str.ofString "living"))=true then 1 else 0)=some (.str (dZ M.living)):=by
  cases M.living
  .rw[decide_eq_false (show ¬V.str (j8 false)=V.str (Str.ofString "living")from by decide+kernel)]
   rfl
  .rw[decide_eq_true (show V.str (j8 true)=V.str (Str.ofString "living")from rfl)]
   rfl
 refine bw (bf.of ey) el ?_
 walk_at "ex"
 refine bA (by omega) ?_
 walk_at "ex"
 refine vy (qm ?_) ?_
 .have :=hM.moment
  have :(10:Nat)^60>5000:=by decide
  omega
 walk_at "ex"
 refine bA (by rw[len_app];omega) ?_
 walk_at "ex"
 refine bA (by rw[len_app,len_app];omega) ?_
 have gw:=sm.trans sy
 walk_at "A"
 have hsum:=SN (M.os.map eO) 9 λq hq=>by
  obtain⟨o,ho,rfl⟩:=List.mem_map.mp hq
  have :=gP (lC hc (hM.names o ho))
  unfold eO
  rw[len_app]
  split <;>omega
 rw[List.length_map]at hsum
 refine Dc (ys:=M.os.map eO) (bf.of (sy _ _ ewl)) (by rw[lb,List.length_map];omega) ?_
 have aAz:(Str.join " " (M.os.map eO)).length≤100:=hot
 walk_at "ex"
 refine bA (by rw[len_app,len_app,len_app];omega) ?_
 walk_at "ex"
 refine bA (by rw[len_app,len_app,len_app,len_app];omega) ?_
 walk_at "ex"
 refine bA (by rw[len_app,len_app,len_app,len_app,len_app];omega) ?_
 walk_at "ex"
 refine bA (by rw[len_app,len_app,len_app,len_app,len_app,len_app];omega) ?_
 walk_at "A"
 refine⟨by show 2≤sizeLine;omega,λy2 hy2=>?_⟩
 have sy2:aq H2 (upd H2 y2 (.lst [.str (Str.ofString ">"),.str (Str.ofString "<")])):=aq.upd hy2
 have RL:(upd H2 y2 (.lst [.str (Str.ofString ">"),.str (Str.ofString "<")])) y2=some (.lst [.str (Str.ofString ">"),.str (Str.ofString "<")]):=ao
 generalize upd H2 y2 (.lst [.str (Str.ofString ">"),.str (Str.ofString "<")])=H3 at sy2 RL⊢
 have sm3:=gw.trans sy2
 walk_at "ex"
 refine iH (fK.of (sm3 _ _ ec)) (i:=0) rfl ?_
 walk_at "ex"
 refine gJ uJ (.inr ⟨_,rfl,?_⟩)
 have es:qg [V.str (Str.ofString ">"),.str (Str.ofString "<")] (if decide (V.str (jN M.cut.ahead)=V.str (Str.ofString "ahead"))=true then 1 else 0)=some (.str (jt M.cut.ahead)):=by
  cases M.cut.ahead
  .rw[decide_eq_false (show ¬V.str (jN false)=V.str (Str.ofString "ahead")from by decide+kernel)]
   rfl
  .rw[decide_eq_true (show V.str (jN true)=V.str (Str.ofString "ahead")from rfl)]
   rfl
 refine bw (bf.of RL) es ?_
 refine bA (by rw[len_app,len_app,len_app,len_app,len_app,len_app,len_app];omega) ?_
 walk_at "ex"
 refine iH (fK.of (sm3 _ _ ec)) (i:=1) rfl ?_
 walk_at "ex"
 refine iH (fK.of (sm3 _ _ ek)) (i:=1) rfl ?_
 walk_at "ex"
 refine vy (qm ?_) ?_
 .have :=hM.row
  have :(10:Nat)^60>1000000000:=by decide
  omega
 refine bA (by rw[len_app,len_app,len_app,len_app,len_app,len_app,len_app,len_app];omega) ?_
 have hB:((dZ M.living++Str.ofString "/"++Str.ofString (toString (M.moment:Int))++Str.ofString "/"++Str.join " " (M.os.map eO)++Str.ofString "/"++M.sieve++Str.ofString "/"++jt M.cut.ahead++Str.ofString (toString (M.cut.row:Int))):Str).length≤3200:=by
  rw[len_app,len_app,len_app,len_app,len_app,len_app,len_app,len_app,len_app]
  omega
 have hBe:bK M=(dZ M.living++Str.ofString "/"++Str.ofString (toString (M.moment:Int))++Str.ofString "/"++Str.join " " (M.os.map eO)++Str.ofString "/"++M.sieve++Str.ofString "/"++jt M.cut.ahead++Str.ofString (toString (M.cut.row:Int)))++Im M.cut.xs:=Z5 M
 generalize(dZ M.living++Str.ofString "/"++Str.ofString (toString (M.moment:Int))++Str.ofString "/"++Str.join " " (M.os.map eO)++Str.ofString "/"++M.sieve++Str.ofString "/"++jt M.cut.ahead++Str.ofString (toString (M.cut.row:Int)):Str)=B at hB hBe⊢
 refine ak (Oc (by walk_at "po") (by rfl) (by intro _;rfl) ?_)
 walk_at "ex"
 refine iH (fK.of (sm3 _ _ ec)) (i:=1) rfl ?_
 walk_at "ex"
 refine iH (fK.of (sm3 _ _ ek)) (i:=0) rfl ?_
 refine⟨v,M.cut.xs,rfl,bf.of (sm3 _ _ ev),λi σ G=>(∃o10,σ=[some (.ref p),some (.str (j8 M.living)),some (.int M.moment),some (.ref o),some (.str M.sieve),some (.ref c),some (.ref wl),o7,o8,some (.str (B++Im (M.cut.xs.take i))),o10])/\G=H3,⟨⟨none,by
  have e:B++Im (M.cut.xs.take 0)=B:=by
   apply bU
   show(B++Str.ofString "").cps.toList=_
   rw[aW,zf,List.append_nil]
  rw[e]
  rfl⟩,rfl⟩,λi σ' G hi hP=>by rw[hP.2];exact bf.of (sm3 _ _ ev),λi x σ' G hx hP=>?_,λσ' G hP=>?_⟩
 .obtain⟨⟨o10,rfl⟩,rfl⟩:=hP
  have hxm:=List.mem_of_getElem? hx
  obtain⟨oo,hoo,hv⟩:=hM.vals.ZK x hxm
  have hw1:=(hM.O2 hc x hxm).2.1
  have htl:∀ys:List V,(∀y∈ys,(wordOf y).length≤21)->(Im ys).length≤22*ys.length:=by
   intro ys
   induction ys with
   |nil=>intro _;show(Str.ofString "").length≤0;decide+kernel
   |cons y ys ih=>
    intro h
    have :=ih λz hz=>h z (by simp[hz])
    have :=h y (by simp)
    show(Str.ofString " "++wordOf y++Im ys).length≤22*(ys.length+1)
    rw[len_app,len_app]
    omega
  have h1:=htl (M.cut.xs.take i) λy hy=>(hM.O2 hc y (List.mem_of_mem_take hy)).2.1
  have h2:(M.cut.xs.take i).length≤4:=by rw[List.length_take];omega
  refine aM nd (by rfl) (.inl rfl) (.inl rfl) ?_
  refine aF ?_
  walk_at "s"
  walk_at "ex"
  refine bA (by rw[len_app];omega) ?_
  walk_at "ex"
  refine⟨x,_,rfl,hv,?_⟩
  refine bA (by rw[len_app,len_app];omega) ?_
  refine⟨⟨some x,?_⟩,rfl⟩
  have e:B++Im (M.cut.xs.take (i+1))=B++Im (M.cut.xs.take i)++Str.ofString " "++wordOf x:=by
   rw[List.take_add_one,hx]
   show B++Im (M.cut.xs.take i++[x])=_
   rw[HW]
   apply bU
   simp only[aW,List.append_assoc]
  rw[e]
  rfl
 .obtain⟨⟨o10,rfl⟩,rfl⟩:=hP
  rw[List.take_length, <-hBe]
  refine aF (bz ?_)
  walk_at "ex"
  exact q _ sm3
def Pr(z:Str):Prop:=46∉z.cps.toList\/∃b w,z.cps.toList=b++46::w/\46∉w/\w≠(cj (aP b)).cps.toList
theorem Ad(s:List Nat){x y:Nat}(hx:x<9973)(hy:y<9973):∀p:List Nat,aP (p++x::s)=aP (p++y::s)->x=y
 |[],h=>by
  have e:((x:Int)+137*aP s) % 9973=((y:Int)+137*aP s) % 9973:=h
  omega
 |c::p,h=>by
  have e:((c:Int)+137*aP (p++x::s)) % 9973=((c:Int)+137*aP (p++y::s)) % 9973:=h
  have h1:=cA (p++x::s)
  have h2:=cA (p++y::s)
  exact Ad s hx hy p (by omega)
theorem Av(s:List Nat){x y:Nat}(hx:x<9973)(hy:y<9973):∀p:List Nat,aP (p++x::y::s)=aP (p++y::x::s)->x=y
 |[],h=>by
  have e:((x:Int)+137*(((y:Int)+137*aP s) % 9973)) % 9973=((y:Int)+137*(((x:Int)+137*aP s) % 9973)) % 9973:=h
  omega
 |c::p,h=>by
  have e:((c:Int)+137*aP (p++x::y::s)) % 9973=((c:Int)+137*aP (p++y::x::s)) % 9973:=h
  have h1:=cA (p++x::y::s)
  have h2:=cA (p++y::x::s)
  exact Av s hx hy p (by omega)
theorem G7{a b:List Nat}(h:(cj (aP a)).cps.toList=(cj (aP b)).cps.toList):aP a=aP b:=by
 have ha:=cA a
 have hb:=cA b
 obtain⟨m,em⟩:=Int.eq_ofNat_of_zero_le ha.1
 obtain⟨n,en⟩:=Int.eq_ofNat_of_zero_le hb.1
 rw[em,en]at h⊢
 have h1:=sX (n:=m) (by omega)
 have h2:=sX (n:=n) (by omega)
 unfold uU at h1 h2
 simp only[Bool.and_eq_true,decide_eq_true_eq]at h1 h2
 have e1:=h1.2.2
 have e2:=h2.2.2
 rw[h,e2]at e1
 rw[e1]
theorem je(b:List Nat):46∉(cj (aP b)).cps.toList/\(cj (aP b)).cps.toList.length=4:=by
 have hb:=cA b
 have hf:=oX (aP b) (by omega) (by omega)
 exact⟨hf.1,hf.2⟩
theorem Bj:∀l:List Nat,46∉l\/∃b w,l=b++46::w/\46∉w
 |[]=>.inl (by simp)
 |c::l=>by
  rcases Bj l with h |⟨b,w,e,h⟩
  .by_cases hc:c=46
   .subst hc
    exact .inr ⟨[],l,rfl,h⟩
   .refine .inl λhm=>?_
    rcases List.mem_cons.1 hm with e |e
    .exact hc e.symm
    .exact h e
  .exact .inr ⟨c::b,w,by rw[e];rfl,h⟩
theorem vJ{z:Str}{l t:List Nat}(e:z.cps.toList=l++t)(ht:46∉t)(h5:5≤t.length):Pr z:=by
 rcases Bj l with h |⟨b,w,el,h⟩
 .refine .inl λhm=>?_
  rw[e]at hm
  rcases List.mem_append.1 hm with q |q
  .exact h q
  .exact ht q
 .refine .inr ⟨b,w++t,by rw[e,el];simp,λhm=>?_,λq=>?_⟩
  .rcases List.mem_append.1 hm with q |q
   .exact h q
   .exact ht q
  .have :=congrArg List.length q
   rw[(je b).2,List.length_append]at this
   omega
theorem G6{z:Str}{B p s:List Nat}{a x:Nat}(e0:B++46::(cj (aP B)).cps.toList=p++a::s)(e:z.cps.toList=p++x::s)(hx:x<9973)(hB:∀c∈B,c<9973)(ne:x≠a):Pr z:=by
 obtain⟨f1,f2⟩:=je B
 rcases List.append_eq_append_iff.1 e0 with⟨as,e1,e2⟩ |⟨bs,e1,e2⟩
 .cases as with
  |nil=>
   obtain⟨rfl,rfl⟩:=List.cons.inj e2
   refine vJ e (λhm=>?_) (by simp[f2])
   rcases List.mem_cons.1 hm with q |q
   .exact ne q.symm
   .exact f1 q
  |cons c as=>
   obtain⟨rfl,e3⟩:=List.cons.inj e2
   have e3:(cj (aP B)).cps.toList=as++a::s:=e3
   rw[e1]at e
   by_cases hc:x=46
   .subst hc
    refine .inr ⟨B++46::as,s,by rw[e],λhm=>f1 (by rw[e3];simp[hm]),λq=>?_⟩
    have :=congrArg List.length q
    have h3:=congrArg List.length e3
    rw[(je _).2]at this
    rw[f2,List.length_append,List.length_cons]at h3
    omega
   .refine .inr ⟨B,as++x::s,by rw[e];simp,λhm=>?_,λq=>?_⟩
    .rcases List.mem_append.1 hm with q |q
     .exact f1 (by rw[e3];simp[q])
     .rcases List.mem_cons.1 q with q |q
      .exact hc q.symm
      .exact f1 (by rw[e3];simp[q])
    .rw[e3]at q
     exact ne (List.cons.inj (List.append_cancel_left q)).1
 .cases bs with
  |nil=>
   obtain⟨rfl,rfl⟩:=List.cons.inj e2
   refine vJ e (λhm=>?_) (by simp[f2])
   rcases List.mem_cons.1 hm with q |q
   .exact ne q.symm
   .exact f1 q
  |cons c bs=>
   obtain⟨rfl,rfl⟩:=List.cons.inj e2
   refine .inr ⟨p++x::bs,_,by rw[e];simp,f1,λq=>ne ?_⟩
   have :=G7 q
   rw[e1]at this
   exact(Ad bs (hB a (by rw[e1];simp)) hx p this).symm
theorem Ci{z:Str}{B p s:List Nat}{a c:Nat}(e0:B++46::(cj (aP B)).cps.toList=p++a::c::s)(e:z.cps.toList=p++c::a::s)(hB:∀c∈B,c<9973)(ne:a≠c):Pr z:=by
 obtain⟨f1,f2⟩:=je B
 have nil:B=p->a=46->(cj (aP B)).cps.toList=c::s->Pr z:=λh1 h2 h3=>by
  refine .inr ⟨p++[c],s,by rw[e,h2];simp,λhm=>f1 (by rw[h3];simp[hm]),λq=>?_⟩
  have :=congrArg List.length q
  have h4:=congrArg List.length h3
  rw[(je _).2]at this
  rw[f2,List.length_cons]at h4
  omega
 rcases List.append_eq_append_iff.1 e0 with⟨as,e1,e2⟩ |⟨bs,e1,e2⟩
 .cases as with
  |nil=>
   obtain⟨h1,h2⟩:=List.cons.inj e2
   exact nil (by rw[e1];simp) h1.symm h2
  |cons d as=>
   obtain⟨rfl,e3⟩:=List.cons.inj e2
   have e3:(cj (aP B)).cps.toList=as++a::c::s:=e3
   rw[e1]at e
   refine .inr ⟨B,as++c::a::s,by rw[e];simp,λhm=>f1 ?_,λq=>?_⟩
   .rw[e3]
    simp only[List.mem_append,List.mem_cons]at hm⊢
    rcases hm with h |h |h |h
    .exact .inl h
    .exact .inr (.inr (.inl h))
    .exact .inr (.inl h)
    .exact .inr (.inr (.inr h))
   .rw[e3]at q
    exact ne (List.cons.inj (List.append_cancel_left q)).1.symm
 .cases bs with
  |nil=>
   obtain⟨h1,h2⟩:=List.cons.inj e2
   exact nil (by rw[e1];simp) h1 h2.symm
  |cons d bs=>
   obtain⟨rfl,e3⟩:=List.cons.inj e2
   cases bs with
   |nil=>
    obtain⟨rfl,rfl⟩:=List.cons.inj e3
    refine vJ (l:=p++[46]) (t:=a::(cj (aP B)).cps.toList) (by rw[e];simp) (λhm=>?_) (by simp[f2])
    rcases List.mem_cons.1 hm with q |q
    .exact ne q.symm
    .exact f1 q
   |cons d bs=>
    obtain⟨rfl,rfl⟩:=List.cons.inj e3
    refine .inr ⟨p++c::a::bs,_,by rw[e];simp,f1,λq=>ne ?_⟩
    have :=G7 q
    rw[e1]at this
    exact Av bs (hB a (by rw[e1];simp)) (hB c (by rw[e1];simp)) p this
theorem Ha{L:List Addr}(h:L.Nodup)(is js:List Nat)(hd:∀i∈is,i∉js):∀x∈is.filterMap (λi=>L[i]?),x∉js.filterMap (λi=>L[i]?):=by
 intro x hx hy
 obtain⟨i,hi,ei⟩:=List.mem_filterMap.mp hx
 obtain⟨j,hj,ej⟩:=List.mem_filterMap.mp hy
 have hil:=(List.getElem?_eq_some_iff.mp ei).1
 have hjl:=(List.getElem?_eq_some_iff.mp ej).1
 have e1:=(List.getElem?_eq_some_iff.mp ei).2
 have e2:=(List.getElem?_eq_some_iff.mp ej).2
 have hij:i=j:=by
  have hp:=List.pairwise_iff_getElem.mp h
  rcases Nat.lt_trichotomy i j with z |z |z
  .exact absurd (e1.trans e2.symm) (hp i j hil hjl z)
  .exact z
  .exact absurd (e2.trans e1.symm) (hp j i hjl hil z)
 subst hij
 exact hd i hi hj
def Bv(mg:Str->Option Value):Sp:=λvs H Q E=>∃(a:Addr) (z:Str),vs=[.ref a,.str z]/\z.length≤100000/\(∀c∈z.cps.toList,c<1114112)/\Pr z/\∀H',aq H H'->E (.ref (aj mg "NoMark")) (none,true) H'
theorem zV(T:Txt K mg):Def P w K mg base true 3 "read_mark" ["columns","text"] (Bv mg):=by
 refine sE T (λvs H Q E h=>by obtain⟨a,z,rfl,_⟩:=h;rfl) (λf cdv A outer s H vs Q E hr h=>?_)
 obtain⟨a,z,rfl,hz,hcd,hB,q⟩:=h
 have nd:=lQ.nd
 have g1:=T.VR
 have hsz:sizeLine=16777216:=sizeLine_eq
 have D2:Def P w K mg base true 2 "check_word" ["text"] xR:=iK T
 refine ak (gW (by rfl) (by rfl) ?_)
 refine ju F.plainAttrs_str F.slot_str_rpartition F.type_str_rpartition (by rfl) (by rfl) (by rfl) (by rfl) (by rfl) ?_
 walk_at "ex"
 refine O6 (c:=46) (by omega) λt ht=>?_
 rcases hB with hB |⟨b,w,eb,hw,ne⟩
 .rw[Tz hB]
  show EG _ _ _ _ (upd H t (.tup [.str Str.empty,.str Str.empty,.str z])) _
  refine fW (by rfl) (by rfl) (by rfl) (fK.of ao) (by rfl) (aO (by rfl) (aM nd (by rfl) (.inl rfl) (.inl rfl) (aO (by rfl) (aM nd (by rfl) (.inl rfl) (.inl rfl) (aO (by rfl) (aM nd (by rfl) (.inl rfl) (.inl rfl) (dm ?_)))))))
  have s1:aq H (upd H t (.tup [.str Str.empty,.str Str.empty,.str z])):=aq.upd ht
  generalize upd H t (.tup [.str Str.empty,.str Str.empty,.str z])=H1 at s1⊢
  refine ak (cB ?_)
  walk_at "ex"
  refine fY (λ_=>?_) (λh=>absurd (by decide+kernel) h)
  refine aF (ik b8 (by rfl) T.Gd (by rfl) (by decide) (by rfl) (by rfl) ?_)
  walk_at "go"
  exact⟨by rw[hsz];simp,q H1 s1⟩
 .rw[Gf eb hw]
  have lz:=L2.len_list z
  have lb:b.length≤100000:=by
   have :=congrArg List.length eb
   rw[List.length_append]at this
   omega
  show EG _ _ _ _ (upd H t (.tup [.str ⟨b.toArray⟩,.str ⟨#[46]⟩,.str ⟨w.toArray⟩])) _
  refine fW (by rfl) (by rfl) (by rfl) (fK.of ao) (by rfl) (aO (by rfl) (aM nd (by rfl) (.inl rfl) (.inl rfl) (aO (by rfl) (aM nd (by rfl) (.inl rfl) (.inl rfl) (aO (by rfl) (aM nd (by rfl) (.inl rfl) (.inl rfl) (dm ?_)))))))
  have s1:aq H (upd H t (.tup [.str ⟨b.toArray⟩,.str ⟨#[46]⟩,.str ⟨w.toArray⟩])):=aq.upd ht
  generalize upd H t (.tup [.str ⟨b.toArray⟩,.str ⟨#[46]⟩,.str ⟨w.toArray⟩])=H1 at s1⊢
  refine ak (cB ?_)
  walk_at "ex"
  refine fY (λh=>absurd h (by decide+kernel)) (λ_=>?_)
  walk_at "ex"
  refine⟨⟨b.toArray⟩,rfl,by show b.toArray.size≤_;simp;omega,λc hc=>hcd c (by rw[eb];exact List.mem_append_left _ (by simpa using hc)),?_⟩
  have ne2:(⟨w.toArray⟩:Str)≠cj (aP (⟨b.toArray⟩:Str).cps.toList):=λh=>ne (by rw[<-show(⟨b.toArray⟩:Str).cps.toList=b from rfl, <-h])
  generalize cj (aP (⟨b.toArray⟩:Str).cps.toList)=fz at ne2⊢
  walk_at "ex"
  refine ifN (λ_=>?_) (λh=>absurd (V.str.inj h) ne2)
  refine aF (ik b8 (by rfl) T.Gd (by rfl) (by decide) (by rfl) (by rfl) ?_)
  walk_at "go"
  exact⟨by rw[hsz];simp,q H1 s1⟩
theorem Qz{H0 H' Hu H2:Hp}{e:Addr}{o:HO}(s:aq H0 H')(he:H' e=none)(eu:Hu=upd H' e o)(s2:aq Hu H2):aq H0 (kJ H2 e):=by
 intro b u r
 have hbe:b≠e:=au (s _ _ r) he
 rw[fZ hbe]
 refine s2 _ _ ?_
 rw[eu,aB hbe]
 exact s _ _ r
theorem IV{Lx x:Str}(h:XC K mg Lx x):∀(ys:List Str),(∀y∈ys,XC K mg Lx y/\aj mg x≠aj mg y/\aj mg Lx≠aj mg y)->W.kitAny K (.ref (aj mg x)) ((ys.map (aj mg)).map Value.ref)=some false
 |[],_=>rfl
 |y::ys,hy=>by
  obtain⟨h1,h2,h3⟩:=hy y (List.mem_cons_self ..)
  show W.kitAny K _ (Value.ref (aj mg y)::(ys.map (aj mg)).map Value.ref)=_
  unfold W.kitAny
  rw[Pz h h1 h2 h3]
  exact IV h ys λz hz=>hy z (List.mem_cons_of_mem _ hz)
theorem XM(T:Txt K mg):∀x∈[aj mg "LeafError"],x∉[aj mg "NoColumns",aj mg "NoValue",aj mg "NoOrder",aj mg "NoRow",aj mg "NoSize",aj mg "NoLine",aj mg "NoBook",aj mg "NoSieve",aj mg "NoPage",aj mg "Twice",aj mg "Absent",aj mg "Gone",aj mg "Later"]:=Ha T.WN [0] [1,2,3,4,6,7,8,9,10,11,12,13,14] (by decide)
theorem Oi(T:Txt K mg):∀x∈[aj mg "NoMark"],x∉[aj mg "NoColumns",aj mg "NoValue",aj mg "NoOrder",aj mg "NoRow",aj mg "NoSize",aj mg "NoLine",aj mg "NoBook",aj mg "NoSieve",aj mg "NoPage",aj mg "Twice",aj mg "Absent",aj mg "Gone",aj mg "Later"]:=Ha T.WN [5] [1,2,3,4,6,7,8,9,10,11,12,13,14] (by decide)
theorem aiu(T:Txt K mg):W.kitAny K (.ref (aj mg "NoMark")) (((["Absent","Gone","Later","NoBook","NoColumns","NoLine","NoOrder","NoPage","NoRow","NoSieve","NoSize"]:List Str).map (aj mg)).map Value.ref)=some false:=by
 have h1:=Oi T _ (List.mem_singleton.mpr rfl)
 have h0:=XM T _ (List.mem_singleton.mpr rfl)
 simp only[List.mem_cons,List.not_mem_nil,or_false,not_or]at h1 h0
 obtain⟨yM,Hg,HB,TQ,NZ,M3,Nq,G3,Ny,Vr,O4,aay,Uh⟩:=h1
 obtain⟨xO,HS,Gz,T5,Oa,Ob,M7,Ge,N7,Vn,O8,aa4,Up⟩:=h0
 refine IV T.gq _ λy hy=>?_
 simp only[List.mem_cons,List.not_mem_nil,or_false]at hy
 rcases hy with rfl |rfl |rfl |rfl |rfl |rfl |rfl |rfl |rfl |rfl |rfl
 .exact⟨T.Su,O4,O8⟩
 .exact⟨T.af0,aay,aa4⟩
 .exact⟨T.Zz,Uh,Up⟩
 .exact⟨T.W7,Nq,M7⟩
 .exact⟨T.Hd,yM,xO⟩
 .exact⟨T.Tg,M3,Ob⟩
 .exact⟨T.Qp,HB,Gz⟩
 .exact⟨T.Um,Ny,N7⟩
 .exact⟨T.Zu,TQ,T5⟩
 .exact⟨T.Qs,G3,Ge⟩
 .exact⟨T.V1,NZ,Oa⟩
theorem aeK(T:Txt K mg):W.kitAny K (.ref (aj mg "NoMark")) (((["NoValue","Twice"]:List Str).map (aj mg)).map Value.ref)=some false:=by
 have h1:=Oi T _ (List.mem_singleton.mpr rfl)
 have h0:=XM T _ (List.mem_singleton.mpr rfl)
 simp only[List.mem_cons,List.not_mem_nil,or_false,not_or]at h1 h0
 obtain⟨yM,Hg,HB,TQ,NZ,M3,Nq,G3,Ny,Vr,O4,aay,Uh⟩:=h1
 obtain⟨xO,HS,Gz,T5,Oa,Ob,M7,Ge,N7,Vn,O8,aa4,Up⟩:=h0
 refine IV T.gq _ λy hy=>?_
 simp only[List.mem_cons,List.not_mem_nil,or_false]at hy
 rcases hy with rfl |rfl
 .exact⟨T.Qt,Hg,HS⟩
 .exact⟨T.aaf,Vr,Vn⟩
def vV:Sp:=λvs H Q _=>∃(a:Addr) (z:Str),vs=[.ref a,.str z]/\z.length≤100000/\(∀c∈z.cps.toList,c<1114112)/\Pr z/\∀H',aq H H'->Q (.bl true) H'
theorem jo(T:Txt K mg):Def P w K mg base true 4 "_law_refused" ["_law_columns_here","_law_text"] vV:=by
 refine wM T (λvs H Q E h=>by obtain⟨a,z,rfl,_⟩:=h;rfl) (λf cdv A outer s H vs Q E hr h=>?_)
 obtain⟨a,z,rfl,hz,hcd,hB,q⟩:=h
 have nd:=mH.nd
 have n1:=T.lM
 have n2:=T.CN
 have hsz:sizeLine=16777216:=sizeLine_eq
 have D1:Def P w K mg base true 3 "read_mark" ["columns","text"] (Bv mg):=zV T
 have ad3:Gc mg "LeafError" (.ref (aj mg "LeafError")):=⟨_,T.GR,rfl⟩
 have afL:Gc mg "NoColumns" (.ref (aj mg "NoColumns")):=⟨_,T.GD,rfl⟩
 have akT:Gc mg "NoValue" (.ref (aj mg "NoValue")):=⟨_,T.Qq,rfl⟩
 have akJ:Gc mg "NoOrder" (.ref (aj mg "NoOrder")):=⟨_,T.QB,rfl⟩
 have auq:Gc mg "NoRow" (.ref (aj mg "NoRow")):=⟨_,T.YK,rfl⟩
 have alF:Gc mg "NoMark" (.ref (aj mg "NoMark")):=⟨_,T.TF,rfl⟩
 have alh:Gc mg "NoSize" (.ref (aj mg "NoSize")):=⟨_,T.VL,rfl⟩
 have alj:Gc mg "NoLine" (.ref (aj mg "NoLine")):=⟨_,T.Sv,rfl⟩
 have alB:Gc mg "NoBook" (.ref (aj mg "NoBook")):=⟨_,T.Sh,rfl⟩
 have akE:Gc mg "NoSieve" (.ref (aj mg "NoSieve")):=⟨_,T.Qf,rfl⟩
 have alq:Gc mg "NoPage" (.ref (aj mg "NoPage")):=⟨_,T.RQ,rfl⟩
 have apK:Gc mg "Twice" (.ref (aj mg "Twice")):=⟨_,T.aan,rfl⟩
 have alo:Gc mg "Absent" (.ref (aj mg "Absent")):=⟨_,T.V3,rfl⟩
 have aw9:Gc mg "Gone" (.ref (aj mg "Gone")):=⟨_,T.abF,rfl⟩
 have aqO:Gc mg "Later" (.ref (aj mg "Later")):=⟨_,T.Yw,rfl⟩
 walk_at "A"
 refine ak ?_
 refine Ml (λσ c d H'=>σ=[some (.ref a),some (.str z),some (.bl false),none]/\c= .ref (aj mg "NoMark")/\aq H H'/\d.1=none) rfl rfl (λF pn xo po=>?_) (λσ c d H' hK=>?_)
 .refine aF (gB (by rfl) ?_)
  walk_at "ex"
  exact⟨a,z,rfl,hz,hcd,hB,λH' sm=>⟨rfl,rfl,sm,rfl⟩⟩
 .obtain⟨rfl,rfl,sm,hd⟩:=hK
  refine ajy nd (by rfl) (by rfl) (by rfl) T.nJ.at_ (by decide) (ZS T.gq T.nJ) (λe pn he=>?_)
  rw[hd]
  have hue:(upd H' e (xw e (aj mg "NoMark") none)) e=some (xw e (aj mg "NoMark") none):=ao
  generalize eu:upd H' e (xw e (aj mg "NoMark") none)=Hu at hue⊢
  have Ig:∀{Hx:Hp} E2,(none:Option Addr)=some E2->∃fs,Hx E2=some (.xd fs):=λE2 z=>nomatch z
  walk_at "A"
  refine aaX T.gq.attr hue Ig (λu z=>z) (Xm T.gq) ?_
  walk_at "ex"
  refine ajD (by rfl) n2 ?_
  walk_at "ex"
  refine aaX T.gq.attr hue Ig (u:=.type "ValueError") (λu z=>z) (ac9 T.gq) ?_
  walk_at "ex"
  refine ak (cB ?_)
  walk_at "ex"
  refine⟨by show 11≤sizeLine;omega,λp1 hp1=>?_⟩
  have s1:aq Hu (upd Hu p1 (.tup [V.ref (aj mg "Absent"),V.ref (aj mg "Gone"),V.ref (aj mg "Later"),V.ref (aj mg "NoBook"),V.ref (aj mg "NoColumns"),V.ref (aj mg "NoLine"),V.ref (aj mg "NoOrder"),V.ref (aj mg "NoPage"),V.ref (aj mg "NoRow"),V.ref (aj mg "NoSieve"),V.ref (aj mg "NoSize")])):=aq.upd hp1
  have e1:(upd Hu p1 (.tup [V.ref (aj mg "Absent"),V.ref (aj mg "Gone"),V.ref (aj mg "Later"),V.ref (aj mg "NoBook"),V.ref (aj mg "NoColumns"),V.ref (aj mg "NoLine"),V.ref (aj mg "NoOrder"),V.ref (aj mg "NoPage"),V.ref (aj mg "NoRow"),V.ref (aj mg "NoSieve"),V.ref (aj mg "NoSize")])) p1=some (.tup [V.ref (aj mg "Absent"),V.ref (aj mg "Gone"),V.ref (aj mg "Later"),V.ref (aj mg "NoBook"),V.ref (aj mg "NoColumns"),V.ref (aj mg "NoLine"),V.ref (aj mg "NoOrder"),V.ref (aj mg "NoPage"),V.ref (aj mg "NoRow"),V.ref (aj mg "NoSieve"),V.ref (aj mg "NoSize")]):=ao
  generalize upd Hu p1 (.tup [V.ref (aj mg "Absent"),V.ref (aj mg "Gone"),V.ref (aj mg "Later"),V.ref (aj mg "NoBook"),V.ref (aj mg "NoColumns"),V.ref (aj mg "NoLine"),V.ref (aj mg "NoOrder"),V.ref (aj mg "NoPage"),V.ref (aj mg "NoRow"),V.ref (aj mg "NoSieve"),V.ref (aj mg "NoSize")])=H1 at s1 e1⊢
  walk_at "ex"
  refine V2 T.gq.attr (s1 _ _ hue) Ig e1 (uo ((["Absent","Gone","Later","NoBook","NoColumns","NoLine","NoOrder","NoPage","NoRow","NoSieve","NoSize"]:List Str).map (aj mg))) (aiu T) ?_
  walk_at "ex"
  refine aN (aF (cB ?_))
  walk_at "ex"
  refine⟨by show 2≤sizeLine;omega,λp2 hp2=>?_⟩
  have s2:aq H1 (upd H1 p2 (.tup [V.ref (aj mg "NoValue"),V.ref (aj mg "Twice")])):=aq.upd hp2
  have e2:(upd H1 p2 (.tup [V.ref (aj mg "NoValue"),V.ref (aj mg "Twice")])) p2=some (.tup [V.ref (aj mg "NoValue"),V.ref (aj mg "Twice")]):=ao
  generalize upd H1 p2 (.tup [V.ref (aj mg "NoValue"),V.ref (aj mg "Twice")])=H2 at s2 e2⊢
  walk_at "ex"
  refine V2 T.gq.attr (s2 _ _ (s1 _ _ hue)) Ig e2 (uo ((["NoValue","Twice"]:List Str).map (aj mg))) (aeK T) ?_
  walk_at "ex"
  refine aN ?_
  refine⟨s2 _ _ (s1 _ _ hue),?_⟩
  refine aF (bz ?_)
  walk_at "ex"
  exact q _ (Qz sm he eu.symm (s1.trans s2))
abbrev nH:Str:=Str.ofString " !\"#$&'()*+,-./0123456789:;<=>?@ABCDEFGHIJKLMNOPQRSTUVWXYZ[\\]^_`abcdefghijklmnopqrstuvwxyz{|}~"
abbrev pI:Str:=Str.ofString "0123456789./<> +-'?"
def jO(z:Str)(c:Nat)(i:Nat):Bool:=decide (z.cps.toList[i]? ≠some c)
def u9(z:Str)(i:Nat):V:=match z.cps.toList[i]? with
 |some x=>.str ⟨#[x]⟩
 |none=>.non
theorem v8{z:Str}{c n:Nat}{v:V}(hn:n=z.length)(h:v∈dj (jO z c) (u9 z) n):∃x∈z.cps.toList,x≠c/\v= .str ⟨#[x]⟩:=by
 subst hn
 unfold dj at h
 obtain⟨i,hi,rfl⟩:=List.mem_map.mp h
 obtain⟨h1,h2⟩:=List.mem_filter.mp hi
 have hl:i<z.cps.toList.length:=by rw[<-L2.len_list];exact List.mem_range.mp h1
 have e:=List.getElem?_eq_getElem hl
 unfold jO at h2
 rw[e,decide_eq_true_eq]at h2
 refine⟨z.cps.toList[i],List.getElem_mem hl,λq=>h2 (by rw[q]),?_⟩
 unfold u9
 rw[e]
theorem Ao{z:Str}{c n p q:Nat}(hn:n=z.length)(e0:z.cps.toList[0]? =some p)(e1:z.cps.toList[1]? =some q)(ne:p≠q):0<(dj (jO z c) (u9 z) n).length:=by
 subst hn
 have hl:1<z.length:=by
  have :=(List.getElem?_eq_some_iff.mp e1).1
  rw[<-L2.len_list]at this
  exact this
 unfold dj
 rw[List.length_map]
 refine List.length_pos_of_mem (a:=if p=c then 1 else 0) (List.mem_filter.mpr ⟨?_,?_⟩)
 .rw[List.mem_range]
  split <;>omega
 .unfold jO
  rw[decide_eq_true_eq]
  split
  .rename_i h
   rw[e1]
   intro y
   have :=Option.some.inj y
   omega
  .rename_i h
   rw[e0]
   intro y
   exact h (Option.some.inj y)
theorem Ot{S:Str}{j d c:Nat}(ed:S.cps.toList[j]? =some d):(!decide (V.str ⟨#[d]⟩=V.str ⟨#[c]⟩))=jO S c j:=by
 unfold jO
 rw[ed]
 by_cases h:d=c
 .subst h
  simp
 .rw[decide_eq_true (show some d≠some c from λy=>h (Option.some.inj y)),decide_eq_false λy=>h ?_]
  .rfl
  .have e:=V.str.inj y
   have e2:(⟨#[d]⟩:Str).cps.toList=(⟨#[c]⟩:Str).cps.toList:=by rw[e]
   exact(List.cons.inj e2).1
theorem val_eq{S:Str}{j d:Nat}(ed:S.cps.toList[j]? =some d):V.str ⟨#[d]⟩=u9 S j:=by
 unfold u9
 rw[ed]
theorem Z6:∀x∈nH.cps.toList,x<127:=by decide+kernel
theorem Y9:∀x∈pI.cps.toList,x<127:=by decide+kernel
def Hy(K:W.Frag):Sp:=λvs H Q _=>∃(a:Addr) (ns:List Int) (k:Int) (z:Str) (i:Nat),vs=[.ref a,.int k,.str z,.int i]/\bf K H a (ns.map V.int)/\ns.length≤63/\0≤k/\k≤10000/\i<z.length/\z.length≤100000/\∀(c x:Nat) (p s:List Nat) (z':Str) H',aq H H'->z.cps.toList=p++c::s->z'.cps.toList=p++x::s->x<127->x≠c->Q (.str z') H'
theorem yo{z:Str}{i:Nat}(hi:i<z.length):∃c,z.cps.toList[i]? =some c/\z.cps.toList=z.cps.toList.take i++c::z.cps.toList.drop (i+1):=by
 have hl:i<z.cps.toList.length:=by rw[<-L2.len_list];exact hi
 refine⟨z.cps.toList[i],List.getElem?_eq_getElem hl,?_⟩
 rw[<-List.drop_eq_getElem_cons hl,List.take_append_drop]
theorem HD{z:Str}{k:Nat}(hk:k≤z.length):(bQ z (some (k:Int)) none).cps.toList=z.cps.toList.drop k:=by
 have hl:=L2.len_list z
 rw[pF,HT.ud,Nat.min_eq_left (by omega)]
 show List.take (z.length-k) _=_
 rw[List.take_of_length_le (by rw[List.length_drop];omega)]
theorem j4(T:Txt K mg):Def P w K mg base true 2 "_law_turned" ["_law_script","_law_k","_law_text","_law_at"] (Hy K):=by
 refine xW T (λvs H Q E h=>by obtain⟨a,ns,k,z,i,rfl,_⟩:=h;rfl) (λf cdv A outer s H vs Q E hr h=>?_)
 obtain⟨a,ns,k,z,i,rfl,hS,hl,hk0,hk1,hi,hz,q⟩:=h
 have nd:=nA.nd
 have n1:=T.jQ
 have hsz:sizeLine=16777216:=sizeLine_eq
 have D1:Def P w K mg base true 1 "_law_draw" ["_law_script","_law_k","_law_many"] (lX K):=cH T
 have X4:(["_law_sign","_law_text","_law_at"]:List Str).Nodup:=by decide+kernel
 obtain⟨c,ec,ez⟩:=yo hi
 walk_at "A"
 refine ak ?_
 refine Bd ["_law_sign","_law_text","_law_at"] (σ':=[none,some (.str z),some (.int i)]) (by rfl) (by rfl) (by rfl) (cC (aa bJ) (by rfl) (by rfl) (by decide+kernel)) (by intro _;rfl) nd (by rfl) (by rfl) ?_
 walk_at "ex"
 refine⟨nH,rfl,by decide+kernel,λτ=>∃o1,τ=[o1,some (.str z),some (.int i)],jO nH c,u9 nH,⟨none,rfl⟩,λfp E2 C s3 H0' j τ x H2 Ig hx hτ gw=>?_,λL H2 hL eL gw=>?_⟩
 .obtain⟨o1,rfl⟩:=hτ
  unfold dI at hx
  rw[List.getElem?_map]at hx
  obtain⟨d,ed,rfl⟩:=Option.map_eq_some_iff.mp hx
  refine aM X4 (by rfl) (.inl rfl) (.inr rfl) ?_
  walk_at "ex"
  refine mQ (by omega) (bD ec) ?_
  walk_at "ex"
  refine⟨Ot ed,⟨_,rfl⟩,aq.refl _,λ_=>?_⟩
  walk_at "ex"
  exact⟨val_eq ed,aq.refl _⟩
 have l1:(dI nH).length=nH.length:=by unfold dI;rw[List.length_map, <-L2.len_list]
 have l2:(dI pI).length=pI.length:=by unfold dI;rw[List.length_map, <-L2.len_list]
 have p1:=Ao (c:=c) l1 (p:=32) (q:=33) (by decide+kernel) (by decide+kernel) (by decide)
 have p2:=Ao (c:=c) l2 (p:=48) (q:=49) (by decide+kernel) (by decide+kernel) (by decide)
 have k1:∀v∈dj (jO nH c) (u9 nH) (dI nH).length,∃x,x<127/\x≠c/\v= .str ⟨#[x]⟩:=λv hv=>by
  obtain⟨x,hx,hne,e⟩:=v8 l1 hv
  exact⟨x,Z6 x hx,hne,e⟩
 have k2:∀v∈dj (jO pI c) (u9 pI) (dI pI).length,∃x,x<127/\x≠c/\v= .str ⟨#[x]⟩:=λv hv=>by
  obtain⟨x,hx,hne,e⟩:=v8 l2 hv
  exact⟨x,Y9 x hx,hne,e⟩
 have c1:=lr (jO nH c) (u9 nH) (dI nH).length
 have c2:=lr (jO pI c) (u9 pI) (dI pI).length
 have b1:(dI nH).length≤1000:=by rw[l1];decide+kernel
 have b2:(dI pI).length≤1000:=by rw[l2];decide+kernel
 generalize dj (jO nH c) (u9 nH) (dI nH).length=ys1 at p1 k1 c1 eL
 refine ak ?_
 refine Bd ["_law_sign","_law_text","_law_at"] (σ':=[none,some (.str z),some (.int i)]) (by rfl) (by rfl) (by rfl) (cC (aa bJ) (by rfl) (by rfl) (by decide+kernel)) (by intro _;rfl) nd (by rfl) (by rfl) ?_
 walk_at "ex"
 refine⟨pI,rfl,by decide+kernel,λτ=>∃o1,τ=[o1,some (.str z),some (.int i)],jO pI c,u9 pI,⟨none,rfl⟩,λfp E2 C s3 H0' j τ x H4 Ig hx hτ sW=>?_,λL2 H3 hL2 eL2 sm3=>?_⟩
 .obtain⟨o1,rfl⟩:=hτ
  unfold dI at hx
  rw[List.getElem?_map]at hx
  obtain⟨d,ed,rfl⟩:=Option.map_eq_some_iff.mp hx
  refine aM X4 (by rfl) (.inl rfl) (.inr rfl) ?_
  walk_at "ex"
  refine mQ (by omega) (bD ec) ?_
  walk_at "ex"
  refine⟨Ot ed,⟨_,rfl⟩,aq.refl _,λ_=>?_⟩
  walk_at "ex"
  exact⟨val_eq ed,aq.refl _⟩
 generalize dj (jO pI c) (u9 pI) (dI pI).length=ys2 at p2 k2 c2 eL2
 have sq1:bf K H3 L ys1:=bf.of (sm3 _ _ eL)
 have sq2:bf K H3 L2 ys2:=bf.of eL2
 have ajV:=gw.trans sm3
 have hS3:=ajV.seq hS
 have drawn:∀(ys:List V) (kk:Int),0<ys.length->(∀v∈ys,∃x,x<127/\x≠c/\v=V.str ⟨#[x]⟩)->∃x,x<127/\x≠c/\qg ys (bH ns kk (ys.length:Int))=some (V.str ⟨#[x]⟩):=λys kk hp hk=>by
  have d0:=bh ns kk (m:=(ys.length:Int)) (by omega)
  have d1:=bj ns kk (m:=(ys.length:Int)) (by omega)
  obtain⟨n,en⟩:=Int.eq_ofNat_of_zero_le d0
  rw[en]at d1⊢
  have hn:n<ys.length:=by omega
  obtain⟨x,h1,h2,h3⟩:=hk _ (List.getElem_mem hn)
  exact⟨x,h1,h2,bD (by rw[List.getElem?_eq_getElem hn,h3])⟩
 walk_at "A"
 refine⟨a,ns,_,_,rfl,hS3,hl,by omega,by omega,by omega,?_⟩
 obtain⟨x1,hx1,hy1,ex1⟩:=drawn ys1 k p1 k1
 refine bw sq1 ex1 ?_
 have fin:∀x,x<127->x≠c->lB (xu true P w K mg base jV "_law_turned" (aa bJ) f cdv A outer s H E) ((az bJ).drop 5) {nx:=λ_ H'=>Q .non H',rt:=Q} [some (.ref a),some (.int k),some (.str z),some (.int i),some (.str nH),some (.ref L),some (.ref L2),some (.str ⟨#[x]⟩)] H3:=λx hx hne=>by
  refine aF (bz ?_)
  walk_at "ex"
  refine iJ (by omega) ?_
  have z1:=ie z none (some (i:Int))
  have z2:=ie z (some ((i:Int)+1)) none
  have ls:(⟨#[x]⟩:Str).length=1:=rfl
  walk_at "ex"
  refine bA (by omega) ?_
  walk_at "ex"
  refine iJ (by omega) ?_
  refine bA (by rw[len_app];omega) ?_
  walk_at "ex"
  refine q c x (z.cps.toList.take i) (z.cps.toList.drop (i+1)) _ H3 ajV ez ?_ hx hne
  rw[aW,aW,lL,show((i:Int)+1)=((i+1:Nat):Int)from rfl,HD (show i+1≤z.length from hi),List.append_assoc]
  rfl
 refine ak (cB ?_)
 walk_at "ex"
 refine⟨a,ns,_,2,rfl,hS3,hl,by omega,by omega,by decide,?_⟩
 walk_at "ex"
 refine fY (λ_=>?_) (λ_=>?_)
 .refine aF ?_
  walk_at "s"
  walk_at "ex"
  refine⟨a,ns,_,_,rfl,hS3,hl,by omega,by omega,by omega,?_⟩
  obtain⟨x2,hx2,hy2,ex2⟩:=drawn ys2 (k+2) p2 k2
  refine bw sq2 ex2 ?_
  exact fin x2 hx2 hy2
 .exact aN (fin x1 hx1 hy1)
def wF:Sp:=λvs H Q _=>∃(z:Str) (i:Nat),vs=[.str z,.int i]/\i+1<z.length/\z.length≤100000/\∀(a c:Nat) (p s:List Nat) (z':Str) H',aq H H'->z.cps.toList=p++a::c::s->z.cps.toList[i]? =some a->z.cps.toList[i+1]? =some c->z'.cps.toList=p++c::a::s->Q (.str z') H'
theorem jx(T:Txt K mg):Def P w K mg base true 1 "_law_changed" ["_law_text","_law_at"] wF:=by
 refine wK T (λvs H Q E h=>by obtain⟨z,i,rfl,_⟩:=h;rfl) (λf cdv A outer s H vs Q E hr h=>?_)
 obtain⟨z,i,rfl,hi,hz,q⟩:=h
 have nd:=mO.nd
 have hsz:sizeLine=16777216:=sizeLine_eq
 obtain⟨a,ea,e1⟩:=yo (show i<z.length by omega)
 obtain⟨c,ec,e2⟩:=yo hi
 have hl:=L2.len_list z
 have e3:z.cps.toList.drop (i+1)=c::z.cps.toList.drop (i+2):=by
  have h1:i+1<z.cps.toList.length:=by omega
  rw[List.drop_eq_getElem_cons h1]
  rw[List.getElem?_eq_getElem h1]at ec
  rw[Option.some.inj ec]
 rw[e3]at e1
 have z1:=ie z none (some (i:Int))
 have z2:=ie z (some ((i:Int)+2)) none
 have ls:∀x:Nat,(⟨#[x]⟩:Str).length=1:=λ_=>rfl
 refine aF (bz ?_)
 walk_at "ex"
 refine iJ (by omega) ?_
 walk_at "ex"
 refine mQ (by omega) (bD (j:=i+1) ec) ?_
 refine bA (by rw[ls];omega) ?_
 walk_at "ex"
 refine mQ (by omega) (bD ea) ?_
 refine bA (by rw[len_app,ls,ls];omega) ?_
 walk_at "ex"
 refine iJ (by omega) ?_
 refine bA (by rw[len_app,len_app,ls,ls];omega) ?_
 walk_at "ex"
 refine q a c (z.cps.toList.take i) (z.cps.toList.drop (i+2)) _ H (aq.refl _) e1 ea ec ?_
 rw[aW,aW,aW,lL,show((i:Int)+2)=((i+2:Nat):Int)from rfl,HD (show i+2≤z.length from hi),List.append_assoc,List.append_assoc]
 rfl
theorem my(M:Mk):(iD M).cps.toList=(bK M).cps.toList++46::(cj (aP (bK M).cps.toList)).cps.toList/\(iD M).length=(bK M).length+5:=by
 have e:(iD M).cps.toList=(bK M).cps.toList++46::(cj (aP (bK M).cps.toList)).cps.toList:=by
  unfold iD
  rw[aW,aW,show(Str.ofString ".").cps.toList=[46]from by decide+kernel,List.append_assoc]
  rfl
 refine⟨e,?_⟩
 have h:=congrArg List.length e
 have h1:=L2.len_list (iD M)
 have h2:=L2.len_list (bK M)
 have h3:=(je (bK M).cps.toList).2
 rw[List.length_append,List.length_cons,h3]at h
 omega
theorem zc{cs:List bW}(hc:aY cs=true){M:Mk}(h:fM cs M):∀c∈(bK M).cps.toList,c<9973:=by
 have key:∀ps:List Str,(∀p∈ps,plainS p)->∀c∈(Str.join "/" ps).cps.toList,c<9973:=by
  intro ps
  induction ps with
  |nil=>intro _ c hc;have :c∈([]:List Nat):=hc;simp at this
  |cons p r ih=>
   intro hp c hcm
   cases r with
   |nil=>have :=hp p (by simp) c hcm;omega
   |cons q r=>
    have e:(Str.join "/" (p::q::r)).cps.toList=(p++Str.ofString "/"++Str.join "/" (q::r)).cps.toList:=rfl
    rw[e,aW,aW]at hcm
    rcases List.mem_append.mp hcm with hcm |hcm
    .rcases List.mem_append.mp hcm with hcm |hcm
     .have :=hp p (by simp) c hcm;omega
     .have :∀c∈(Str.ofString "/").cps.toList,c<9973:=by decide+kernel
      exact this c hcm
    .exact ih (λx hx=>hp x (by simp[hx])) c hcm
 exact key _ (nq hc h)
theorem RP(M:Mk):1≤(bK M).length:=by
 have lb:(Str.ofString "/").length=1:=by decide+kernel
 unfold bK jh
 show 1≤(_++Str.ofString "/"++_:Str).length
 rw[len_app,len_app,lb]
 omega
theorem IK{cs:List bW}(hc:aY cs=true){M:Mk}(h:fM cs M):∀c∈(iD M).cps.toList,c<9973:=by
 intro c hm
 rw[(my M).1]at hm
 rcases List.mem_append.mp hm with q |q
 .exact zc hc h c q
 .rcases List.mem_cons.mp q with q |q
  .omega
  .have hb:=cA (bK M).cps.toList
   obtain⟨m,em⟩:=Int.eq_ofNat_of_zero_le hb.1
   have hk:=sX (n:=m) (by omega)
   unfold uU at hk
   simp only[Bool.and_eq_true,decide_eq_true_eq,List.all_eq_true]at hk
   rw[em]at q
   have :=hk.2.1 c q
   unfold Bp at this
   simp at this
   omega
theorem abf(T:Txt K mg){f:Addr}{fd:FuncData}(F:gn K "law" "law" yE f fd):uT P w K mg base (Dk P w) true 70 f fd ["_law_script"] (aaC K):=by
 refine OD F W0 (λvs H Q E h=>by obtain⟨a,ns,rfl,_⟩:=h;rfl) (λcdv A outer s H vs Q E hr h=>?_)
 obtain⟨a,ns,rfl,hS,hl,q⟩:=h
 have nd:=W0.nd
 have n1:=T.pB
 have n2:=T.jQ
 have n3:=T.Uv
 have hsz:sizeLine=16777216:=sizeLine_eq
 have D0:Def P w K mg base true 1 "_law_draw" ["_law_script","_law_k","_law_many"] (lX K):=cH T
 have D1:Def P w K mg base true 2 "_law_columns" ["_law_script","_law_base","_law_most"] (Pj K):=jj T
 have D2:Def P w K mg base true 5 "_law_mark" ["_law_script","_law_base","_law_columns_here"] (Nr K):=nF T
 have D3:Def P w K mg base true 2 "_law_body" ["_law_mark_here"] Pq:=nZ T
 have D4:Def P w K mg base true 1 "_law_checked" ["_law_body_here"] By:=ji T
 have D5:Def P w K mg base true 4 "_law_refused" ["_law_columns_here","_law_text"] vV:=jo T
 have D6:Def P w K mg base true 2 "_law_turned" ["_law_script","_law_k","_law_text","_law_at"] (Hy K):=j4 T
 have D7:Def P w K mg base true 1 "_law_changed" ["_law_text","_law_at"] wF:=jx T
 have D8:Def P w K mg base true 52 "read_mark" ["columns","text"] Ak:=ni T
 walk_at "A"
 refine⟨a,ns,300,6,rfl,hS,hl,by decide,by decide,by decide,by decide,λc cs H1 s1 _ hC hok=>?_⟩
 walk_at "A"
 refine⟨a,c,ns,1000,cs,rfl,s1.seq hS,hl,by decide,by decide,hC,hok,λpm M H2 s2 hm hg=>?_⟩
 walk_at "A"
 refine⟨pm,M,cs,rfl,hm,hok,hg,λH3 s3=>?_⟩
 walk_at "ex"
 have bl:=(yR hok hg).2
 have bc:=xH hok hg
 refine⟨bK M,rfl,by omega,bc,λH4 s4=>?_⟩
 rw[show bK M++Str.ofString "."++cj (aP (bK M).cps.toList)=iD M from rfl]
 obtain⟨mf,mt⟩:=my M
 have hbs:=zc hok hg
 have hbp:=RP M
 have hmc:=IK hok hg
 have hC4:=((hC.same s2).same s3).same s4
 have hm4:=(hm.same s3).same s4
 have hS4:=s4.seq (s3.seq (s2.seq (s1.seq hS)))
 generalize hT:iD M=tx at mf mt hmc⊢
 have hx0:6≤tx.length:=by omega
 have hx1:tx.length≤4000:=by omega
 walk_at "A"
 refine⟨by show 1≤sizeLine;omega,λl0 hl0=>?_⟩
 have s5:aq H4 (upd H4 l0 (.lst [.int 0])):=aq.upd hl0
 have e5:(upd H4 l0 (.lst [.int 0])) l0=some (.lst [.int 0]):=ao
 generalize upd H4 l0 (.lst [.int 0])=H5 at s5 e5⊢
 walk_at "ex"
 refine Uw (by rfl) n1 (by rfl) (by rfl) ?_
 walk_at "ex"
 refine Td λrg hrg=>?_
 have s6:aq H5 (upd H5 rg (.rng ((tx.length:Int)-6) (tx.length:Int))):=aq.upd hrg
 have e6:(upd H5 rg (.rng ((tx.length:Int)-6) (tx.length:Int))) rg=some (.rng ((tx.length:Int)-6) (tx.length:Int)):=ao
 generalize upd H5 rg (.rng ((tx.length:Int)-6) (tx.length:Int))=H6 at s6 e6⊢
 walk_at "ex"
 refine Z9 (by rfl) e6 (by omega) (by omega) (by omega) (by omega) (by omega) λl1 hl1=>?_
 have hn6:((tx.length:Int)-((tx.length:Int)-6)).toNat=6:=by omega
 rw[hn6]at *
 have s7:aq H6 (upd H6 l1 (.lst (jA ((tx.length:Int)-6) 6))):=aq.upd hl1
 have e7:(upd H6 l1 (.lst (jA ((tx.length:Int)-6) 6))) l1=some (.lst (jA ((tx.length:Int)-6) 6)):=ao
 generalize upd H6 l1 (.lst (jA ((tx.length:Int)-6) 6))=H7 at s7 e7⊢
 refine agM (s7 _ _ (s6 _ _ e5)) e7 (by unfold jA;simp;omega) λp hp=>?_
 have s47:=(s5.trans s6).trans s7
 have hp4:H4 p=none:=s47.free hp
 have s8:aq H4 (upd H7 p (.lst ([.int 0]++jA ((tx.length:Int)-6) 6))):=s47.trans (aq.upd hp)
 have e8:(upd H7 p (.lst ([.int 0]++jA ((tx.length:Int)-6) 6))) p=some (.lst ([.int 0]++jA ((tx.length:Int)-6) 6)):=ao
 have g8:∀x∈([V.int 0]++jA ((tx.length:Int)-6) 6),∃i:Nat,i<tx.length/\x= .int i:=λx hx=>by
  rcases List.mem_append.mp hx with h |h
  .rw[List.mem_singleton.mp h]
   exact⟨0,by omega,rfl⟩
  .unfold jA at h
   obtain⟨j,hj,rfl⟩:=List.mem_map.mp h
   have :=List.mem_range.mp hj
   exact⟨tx.length-6+j,by omega,by congr 1;omega⟩
 have l8:([V.int 0]++jA ((tx.length:Int)-6) 6).length=7:=by unfold jA;simp
 generalize([V.int 0]++jA ((tx.length:Int)-6) 6)=x8 at s8 e8 g8 l8⊢
 generalize upd H7 p (.lst x8)=H8 at s8 e8⊢
 refine ak ?_
 refine um (by walk_at "po") (by rfl) (by rfl) n1 (by rfl) ?_
 walk_at "go"
 refine⟨by omega,by omega,λi σ H'=>(∃o5 o6,σ=[some (.ref a),some (.ref c),some (.ref pm),some (.str tx),some (.ref p),o5,o6])/\aq H4 H'/\∃xs:List V,H' p=some (.lst xs)/\xs.length=7+i/\∀x∈xs,∃i:Nat,i<tx.length/\x= .int i,⟨⟨_,_,rfl⟩,s8,x8,e8,l8,g8⟩,λi σ H' hi hP=>?_,λσ H' hP=>?_⟩
 .obtain⟨⟨o5,o6,rfl⟩,sm,xs,hx,hxl,hxg⟩:=hP
  have hi4:i<40:=by simpa using hi
  refine aM nd (by rfl) (.inl rfl) (.inl rfl) ?_
  refine aF (gB (by rfl) (ju PySem.F.plainAttrs_list PySem.F.slot_list_append PySem.F.type_list_append (by rfl) (by rfl) (by rfl) (by rfl) (by rfl) ?_))
  walk_at "e"
  refine⟨.inl ⟨rfl,_,bf.of hx⟩,?_⟩
  walk_at "ex"
  refine⟨a,ns,_,_,rfl,sm.seq hS4,hl,by omega,by omega,by omega,?_⟩
  have d0:=bh ns (2000+(i:Int)) (m:=(tx.length:Int)) (by omega)
  have d1:=bj ns (2000+(i:Int)) (m:=(tx.length:Int)) (by omega)
  obtain⟨n,en⟩:=Int.eq_ofNat_of_zero_le d0
  rw[en]at d1⊢
  walk_at "ex"
  refine n8 gK ⟨p,xs,_,rfl,rfl,hx,by omega,?_⟩
  refine⟨⟨_,_,rfl⟩,λb o e=>?_,xs++[.int n],ao,by simp;omega,λx hm=>?_⟩
  .rw[aB (au e hp4)]
   exact sm _ _ e
  .rcases List.mem_append.mp hm with h |h
   .exact hxg x h
   .exact⟨n,by omega,List.mem_singleton.mp h⟩
 obtain⟨⟨o5,o6,rfl⟩,sm,xs,hx,hxl,hxg⟩:=hP
 have sqx:bf K H' p xs:=bf.of hx
 have ayq:xs.length=47:=by simpa using hxl
 refine ak ?_
 refine um (by walk_at "po") (by rfl) (by rfl) n1 (by rfl) ?_
 walk_at "go"
 refine⟨by omega,by omega,λi σ H2=>(∃o5 o6,σ=[some (.ref a),some (.ref c),some (.ref pm),some (.str tx),some (.ref p),o5,o6])/\aq H' H2,⟨⟨_,_,rfl⟩,aq.refl _⟩,λi σ H2 hi hP=>?_,λσ H2 hP=>?_⟩
 .obtain⟨⟨o7,o8,rfl⟩,gw⟩:=hP
  have hi4:i<xs.length:=by simpa using hi
  refine aM nd (by rfl) (.inl rfl) (.inl rfl) ?_
  walk_at "A"
  obtain⟨at_,hat,eat⟩:=hxg _ (List.getElem_mem hi4)
  refine bw (gw.seq sqx) (bD (by rw[List.getElem?_eq_getElem hi4,eat])) ?_
  refine ak (cB ?_)
  walk_at "ex"
  refine⟨a,ns,_,tx,at_,rfl,gw.seq (sm.seq hS4),hl,by omega,by omega,hat,by omega,λcc x pp ss z' H9 s9 ez ez' hxx hne=>?_⟩
  have llt:=L2.len_list tx
  have llz:=L2.len_list z'
  have lez:=congrArg List.length ez
  have atj:=congrArg List.length ez'
  rw[List.length_append,List.length_cons]at lez atj
  walk_at "ex"
  refine⟨c,z',rfl,by omega,λd hd=>?_,G6 (mf.symm.trans ez) ez' (by omega) hbs hne,λH10 s10=>?_⟩
  .rw[ez']at hd
   have hmem:∀y,y∈pp\/y∈ss->y<9973:=λy hy=>hmc y (by
    rw[ez]
    rcases hy with h |h
    .exact List.mem_append_left _ h
    .exact List.mem_append_right _ (List.mem_cons_of_mem _ h))
   rcases List.mem_append.mp hd with h |h
   .have :=hmem d (.inl h);omega
   .rcases List.mem_cons.mp h with h |h
    .omega
    .have :=hmem d (.inr h);omega
  walk_at "ex"
  have agL:=(gw.trans s9).trans s10
  refine aN (aF (cB ?_))
  walk_at "ex"
  refine fY (λh1=>?_) (λh1=>?_)
  .have h2:at_+1<tx.length:=by omega
   obtain⟨ca,ea,_⟩:=yo hat
   obtain⟨cb,eb,_⟩:=yo h2
   walk_at "ex"
   refine mQ (by omega) (bD ea) ?_
   walk_at "ex"
   refine mQ (by omega) (bD (j:=at_+1) eb) ?_
   walk_at "ex"
   refine ifN (λau8=>?_) (λ_=>?_)
   .walk_at "ex"
    refine⟨tx,at_,rfl,h2,by omega,λa2 c2 pq sq z2 H11 s11 fz ea2 ec2 fz2=>?_⟩
    have azu:=L2.len_list z2
    have lfz:=congrArg List.length fz
    have as8:=congrArg List.length fz2
    rw[List.length_append,List.length_cons,List.length_cons]at lfz as8
    have hac:a2≠c2:=λe=>au8 (by
     rw[ea]at ea2
     rw[eb]at ec2
     rw[Option.some.inj ea2,Option.some.inj ec2,e])
    walk_at "ex"
    refine⟨c,z2,rfl,by omega,λd hd=>?_,Ci (mf.symm.trans fz) fz2 hbs hac,λH12 s12=>?_⟩
    .rw[fz2]at hd
     have :d∈tx.cps.toList:=by
      rw[fz]
      simp only[List.mem_append,List.mem_cons]at hd⊢
      rcases hd with h |h |h |h
      .exact .inl h
      .exact .inr (.inr (.inl h))
      .exact .inr (.inl h)
      .exact .inr (.inr (.inr h))
     have :=hmc d this
     omega
    walk_at "ex"
    exact aN ⟨⟨_,_,rfl⟩,(agL.trans s11).trans s12⟩
   .exact aN ⟨⟨_,_,rfl⟩,agL⟩
  .exact aN ⟨⟨_,_,rfl⟩,agL⟩
 .obtain⟨⟨o7,o8,rfl⟩,gw⟩:=hP
  have smm:=sm.trans gw
  refine aF (bz ?_)
  walk_at "ex"
  refine⟨c,M,cs,by rw[hT],hC4.same smm,hok,hg,λfp o cc k v H7 s7 ef ho hO ecc ek hv ev hov=>?_⟩
  walk_at "ex"
  refine iH (fK.of ef) (i:=0) rfl ?_
  walk_at "ex"
  obtain⟨o',c',em,_⟩:=(hm4.same smm).same s7
  refine iH (fK.of em) (i:=0) rfl ?_
  walk_at "ex"
  rw[decide_eq_true rfl]
  exact q _
end
end K38
namespace PySem.W.Fast
def tw2297988987420232221:Unit:=()
def tw12750631035605966535:Unit:=()
def tw4899997585145603577:Unit:=()
def tw4431850233576205028:Unit:=()
def tw10570571253282042655:Unit:=()
def tw12644307410058704438:Unit:=()
def tw1373654759747980423:Unit:=()
def tw8049888229937000918:Unit:=()
def tw18286866564213856415:Unit:=()
def tw17265412320112283945:Unit:=()
def tw965649754530352676:Unit:=()
def tw16447699117774955035:Unit:=()
def tw6886834882996921966:Unit:=()
def tw898495598858670504:Unit:=()
def tw554138353896264330:Unit:=()
def tw469449124431143660:Unit:=()
def tw15149787717580229913:Unit:=()
def tw4069856925754347842:Unit:=()
def tw13748148579978005735:Unit:=()
def tw6594876095402521067:Unit:=()
def tw4008642666865606457:Unit:=()
def tw15574906506276009740:Unit:=()
def tw16378044325688616788:Unit:=()
def tw18078491163281768759:Unit:=()
def tw404121456811726041:Unit:=()
def tw861538161706038863:Unit:=()
def tw14473198279952117627:Unit:=()
def tw3484181756594905610:Unit:=()
def tw5777353379872903146:Unit:=()
def tw11144011642195405548:Unit:=()
def tw13007465041569268702:Unit:=()
def tw3865922127193288931:Unit:=()
def tw17308869496623552965:Unit:=()
def tw15021280914804168953:Unit:=()
def tw4589116996194704415:Unit:=()
def tw10732819461648313717:Unit:=()
def tw13296385744474136957:Unit:=()
def tw15937606789081617749:Unit:=()
def tw13320319872878993184:Unit:=()
def tw15133286608253809235:Unit:=()
def tw2927970486010014155:Unit:=()
def tw6824086094350958739:Unit:=()
def tw2800583764492876677:Unit:=()
def tw7092400241082727727:Unit:=()
def tw11708285565301215750:Unit:=()
def tw15263739793997977924:Unit:=()
def tw16517190551493936530:Unit:=()
def tw2426400233900612650:Unit:=()
def tw14581678327166886358:Unit:=()
def tw9833247945221887306:Unit:=()
def tw814741509785213463:Unit:=()
def tw4840068294975611238:Unit:=()
def tw16982898111938152231:Unit:=()
def tw10487473819897407288:Unit:=()
def tw15433992152552125559:Unit:=()
def tw13384148868372231770:Unit:=()
def tw14429531335727445190:Unit:=()
def tw5038196257807843768:Unit:=()
def tw711109486758805528:Unit:=()
def tw9673488950460880097:Unit:=()
def tw3957333052255220535:Unit:=()
def tw3275771486520384283:Unit:=()
def tw12554947681096040490:Unit:=()
def tw481361656922630285:Unit:=()
def tw6290937039560844018:Unit:=()
def tw1064546301912670186:Unit:=()
def tw15797263212204404873:Unit:=()
def tw10255933470372186028:Unit:=()
def tw7846921219456995737:Unit:=()
def tw9700350908073412368:Unit:=()
def tw206294627320990598:Unit:=()
def tw3651979943617712140:Unit:=()
def tw2436913918906719648:Unit:=()
def tw1172158837565232860:Unit:=()
def tw16920176600574607178:Unit:=()
def tw17018120517218959324:Unit:=()
def tw53662008903573252:Unit:=()
def tw3431769977813037952:Unit:=()
def tw1120483691247680831:Unit:=()
def tw12347191166381681042:Unit:=()
def tw16969702045066106766:Unit:=()
def tw13165275466961529825:Unit:=()
def tw16277719857448719683:Unit:=()
def tw7297026744886869268:Unit:=()
def tw2263731428626394389:Unit:=()
def tw2663968895560622303:Unit:=()
def tw17682400239759315178:Unit:=()
def tw3514809747666029432:Unit:=()
def tw17877494423234561555:Unit:=()
def tw16729022346273052120:Unit:=()
def tw11529139457734902437:Unit:=()
def tw6722606149331341736:Unit:=()
def tw17561500951821900463:Unit:=()
def tw16825638659055731057:Unit:=()
def tw8246616217843396810:Unit:=()
def tw16471644818701573875:Unit:=()
def tw11707611153711057903:Unit:=()
def tw10596762725570213386:Unit:=()
def tw1975286010277327455:Unit:=()
def tw5140518022371219821:Unit:=()
def tw3100350851670092963:Unit:=()
def tw7032171313207988463:Unit:=()
def tw17079042571224671104:Unit:=()
def tw3603730255341907913:Unit:=()
def tw12550329437732517225:Unit:=()
def tw12587542114382909011:Unit:=()
def tw15598464899458463618:Unit:=()
def tw14122478854212959032:Unit:=()
def tw2937255819229591404:Unit:=()
def tw11126421422590427180:Unit:=()
def tw11201107203792936793:Unit:=()
def tw10926016054324320202:Unit:=()
def tw6092065253686221133:Unit:=()
def tw5087813086176608887:Unit:=()
def tw18019893987492600264:Unit:=()
def tw2619016008023668957:Unit:=()
def tw6910374215134387905:Unit:=()
def tw17652152193675351983:Unit:=()
def tw14918993568997368321:Unit:=()
def tw7700953773103216617:Unit:=()
def tw9150635187155494840:Unit:=()
def tw17531926899074500617:Unit:=()
def tw6467076720685687246:Unit:=()
def tw4176103780888685482:Unit:=()
def tw4223072623228540345:Unit:=()
def tw12935078699401959610:Unit:=()
def tw2722094804455821146:Unit:=()
def tw8929016899593865390:Unit:=()
def tw3008633608470997785:Unit:=()
def tw8371286504173886773:Unit:=()
def tw527557198364103120:Unit:=()
def tw4301936828811869835:Unit:=()
def tw16380520722548179021:Unit:=()
def tw6350915545526916343:Unit:=()
def tw18026075982733506058:Unit:=()
def tw9653348442750144138:Unit:=()
def tw5213708237020726677:Unit:=()
def tw9911159365579686605:Unit:=()
def tw2915766807625056375:Unit:=()
def tw15241589175320629570:Unit:=()
def tw3020779664582988887:Unit:=()
def tw16567681882512668592:Unit:=()
def tw907172569997503391:Unit:=()
def tw4290413953259729590:Unit:=()
def tw9519291556502886272:Unit:=()
def tw11373194593373218973:Unit:=()
def tw8211655682394823191:Unit:=()
def tw9745077583691549007:Unit:=()
def tw2519029441648475327:Unit:=()
def tw2348350872484838470:Unit:=()
def tw13039581398568814915:Unit:=()
def tw11497784446394555312:Unit:=()
def tw16855108237521799714:Unit:=()
def tw3942849158684677500:Unit:=()
def tw10810125950847044576:Unit:=()
def tw15624356842949692292:Unit:=()
def tw2570028003924517254:Unit:=()
def tw1874893829276825901:Unit:=()
def tw8387483222532639914:Unit:=()
def tw16219919479323642551:Unit:=()
def tw5150497301566136356:Unit:=()
def tw8576420013286566308:Unit:=()
def tw1294773371881370547:Unit:=()
def tw2453977909462614303:Unit:=()
def tw5016205615088634224:Unit:=()
def tw6212179529101373324:Unit:=()
def tw8978228103177059989:Unit:=()
def tw9186242908652377580:Unit:=()
def tw14004030202572930135:Unit:=()
def tw334693198284339207:Unit:=()
def tw18198214175457135218:Unit:=()
def tw10916551102026911775:Unit:=()
def tw7311096279815698881:Unit:=()
def tw4311954543222197363:Unit:=()
def tw16334048446584738611:Unit:=()
def tw13588036476387503837:Unit:=()
def tw12128693601508667951:Unit:=()
def tw14450961561111477771:Unit:=()
def tw18233477625643639326:Unit:=()
def tw13878476574219560509:Unit:=()
def tw12689782301753908840:Unit:=()
def tw971557192464761484:Unit:=()
def tw9695398897035271917:Unit:=()
def tw10499843992859410583:Unit:=()
def tw11588418213582370600:Unit:=()
def tw17622673099682825556:Unit:=()
def tw4738132228417287998:Unit:=()
def tw14924932857146303684:Unit:=()
def tw9457876572355194887:Unit:=()
def tw12860567689287534649:Unit:=()
def tw14660160315482278911:Unit:=()
def tw1737723624125501465:Unit:=()
def tw3407566970141160437:Unit:=()
def tw13557653518360255996:Unit:=()
def tw9159469188560258910:Unit:=()
def tw14157585337522134623:Unit:=()
def tw6797469671034723728:Unit:=()
def tw10515292833438553280:Unit:=()
def tw4259131609449947479:Unit:=()
def tw352232630029345524:Unit:=()
def tw13277006729708096729:Unit:=()
def tw17422069683042363455:Unit:=()
def tw447333212804741763:Unit:=()
def tw1635356005255806909:Unit:=()
def tw7418321297335139958:Unit:=()
def tw15168225453561337652:Unit:=()
def tw5610042764811837474:Unit:=()
def tw2081245825771974634:Unit:=()
def tw11516126776601937682:Unit:=()
def tw16694429120196565499:Unit:=()
def tw13964741575931177925:Unit:=()
def tw15713204662989946793:Unit:=()
def tw1775649757818449693:Unit:=()
def tw10212612569903072274:Unit:=()
def tw15290911662385323812:Unit:=()
def tw10442141279973351390:Unit:=()
def tw4233340437895002675:Unit:=()
def tw1873976962346603373:Unit:=()
def tw11719465326512765855:Unit:=()
def tw11795183055599511033:Unit:=()
def tw18389587373884467774:Unit:=()
def tw9625185998257559342:Unit:=()
def tw8963646519832538660:Unit:=()
def tw2377998654167974530:Unit:=()
def tw4370677724593355053:Unit:=()
def tw2888964351823699862:Unit:=()
def tw8236848218766933304:Unit:=()
def tw9377280484082650003:Unit:=()
def tw17024845165580359603:Unit:=()
def tw4690579760762361478:Unit:=()
def tw12478520389664951584:Unit:=()
def tw16630382828832613914:Unit:=()
def tw1518067018698044414:Unit:=()
def tw11285960100109716734:Unit:=()
def tw11992465717864268202:Unit:=()
def tw2622510225461859886:Unit:=()
def tw11682311875566989162:Unit:=()
def tw17377037899914407031:Unit:=()
def tw13549174056338293029:Unit:=()
def tw5527540583345812581:Unit:=()
def tw16530876623957420847:Unit:=()
def tw8207104768233598339:Unit:=()
def tw5338145552977022927:Unit:=()
def tw7073253880916685641:Unit:=()
def tw11564183974911459922:Unit:=()
def tw14519972169798070922:Unit:=()
def tw5437936735184924283:Unit:=()
def tw4181865190413452009:Unit:=()
def tw12039229057274315824:Unit:=()
def tw1884199982020159875:Unit:=()
def tw9927798402593439349:Unit:=()
def tw1562943985159352091:Unit:=()
def tw7423360455200811696:Unit:=()
def tw13817729212090174473:Unit:=()
def tw8537736440899972890:Unit:=()
def tw14229263692937058389:Unit:=()
def tw14977451935387014610:Unit:=()
def tw3248640035639686509:Unit:=()
def tw1380902587767023586:Unit:=()
def tw17621200989955326599:Unit:=()
def tw16104672566569126473:Unit:=()
def tw883800059495714942:Unit:=()
def tw14768308248804417676:Unit:=()
def tw1701606130168911985:Unit:=()
def tw3034443886226058097:Unit:=()
def tw17461743425685964333:Unit:=()
def tw2061191159832095867:Unit:=()
def tw4643660454527279274:Unit:=()
def tw988123751606990084:Unit:=()
def tw7608832778032687108:Unit:=()
def tw3353724456606265354:Unit:=()
def tw9390710958548146045:Unit:=()
def tw6934326963598132254:Unit:=()
def tw3167100143536720019:Unit:=()
def tw16033047584515262522:Unit:=()
def tw17850387430602984556:Unit:=()
def tw7026954499763532778:Unit:=()
def tw12550256603589027549:Unit:=()
def tw6556119633951162610:Unit:=()
def tw9524895970228574031:Unit:=()
def tw13405535145660889730:Unit:=()
def tw17541172401457331115:Unit:=()
def tw5043279343655461956:Unit:=()
def tw1117459445084649839:Unit:=()
def tw7380532233537488741:Unit:=()
def tw10292362289745413142:Unit:=()
def tw9596519688888089740:Unit:=()
def tw12712327045845752182:Unit:=()
def tw15728099918772284432:Unit:=()
def tw7136103731363782336:Unit:=()
def tw14230882658908550291:Unit:=()
def tw3073652224444892837:Unit:=()
def tw2246374413519444737:Unit:=()
def tw7121185590895889493:Unit:=()
def tw10068629811114870194:Unit:=()
def tw8140219789516078001:Unit:=()
def tw9105326129601174202:Unit:=()
def tw11848382009139655482:Unit:=()
def tw5556846339933412221:Unit:=()
def tw12909076305861740417:Unit:=()
def tw3044449361044505247:Unit:=()
def tw4746764489273638857:Unit:=()
def tw9601902503645963948:Unit:=()
def tw16281185149139651381:Unit:=()
def tw14709616216108144747:Unit:=()
def tw6585998920165845911:Unit:=()
def tw6674965973614051382:Unit:=()
def tw13252440124710406707:Unit:=()
def tw10102851831554262093:Unit:=()
def tw3483377364362897139:Unit:=()
def tw14108995749869263903:Unit:=()
def tw17186361516148374143:Unit:=()
def tw8823924770429330851:Unit:=()
def tw12584015397738695918:Unit:=()
def tw10035192492970890794:Unit:=()
def tw12879861298642105652:Unit:=()
def tw16586873297928245795:Unit:=()
def tw12726554590510536661:Unit:=()
def tw14214772226687036892:Unit:=()
def tw16743139948405406438:Unit:=()
def tw12511674370333041999:Unit:=()
def tw6784509110713738504:Unit:=()
def tw2085962031550208885:Unit:=()
def tw6594107355553924140:Unit:=()
def tw2375217055568223089:Unit:=()
def tw11642387397464151529:Unit:=()
def tw16095945293507634532:Unit:=()
def tw11613424293395117649:Unit:=()
def tw762017066777797105:Unit:=()
def tw18204997509346042964:Unit:=()
def tw17219942397313669063:Unit:=()
def tw9986639897716565377:Unit:=()
def tw13020270610679965998:Unit:=()
def tw2575109283438341872:Unit:=()
def tw17558608675787339187:Unit:=()
def tw8287258051760929151:Unit:=()
def tw4272859328043732447:Unit:=()
def tw18054092528291554117:Unit:=()
def tw16753716019667511083:Unit:=()
def tw15828002454920688580:Unit:=()
def tw4623811048885766505:Unit:=()
def tw16682552126173201722:Unit:=()
def tw2616895205873161256:Unit:=()
def tw4279819573561462069:Unit:=()
def tw17559890561277649210:Unit:=()
def tw15234513208603959821:Unit:=()
def tw5141980520665049953:Unit:=()
def tw5284080737823373432:Unit:=()
def tw17710139890286475837:Unit:=()
def tw10349416095952266561:Unit:=()
def tw3983303653342821423:Unit:=()
def tw5856071511140412832:Unit:=()
def tw6800540950983446330:Unit:=()
def tw15454005451513503503:Unit:=()
def tw7759510532212656371:Unit:=()
def tw6569133443599285838:Unit:=()
def tw7332698090238717467:Unit:=()
def tw8115455458866071565:Unit:=()
def tw5017105039928075743:Unit:=()
def tw13119432708104188753:Unit:=()
def tw3246439546529592062:Unit:=()
def tw7977530511583924123:Unit:=()
def tw4670524543811788102:Unit:=()
def tw11441553781850509160:Unit:=()
def tw2235696920331855012:Unit:=()
def tw12712517108825942913:Unit:=()
def tw2278334652992765008:Unit:=()
def tw7110099676219579248:Unit:=()
def tw17441918564979355637:Unit:=()
def tw6777962609322175875:Unit:=()
def tw3624375457039194328:Unit:=()
def tw2070440814535186832:Unit:=()
def tw10698848730815551712:Unit:=()
def tw2771677315399392365:Unit:=()
def tw5519952257980430872:Unit:=()
def tw6604884534288780369:Unit:=()
def tw10954833189092643286:Unit:=()
def tw3114223352700128786:Unit:=()
def tw6850276105187824698:Unit:=()
def tw16307424763200542010:Unit:=()
def tw15061330649193234808:Unit:=()
def tw14350309616768689752:Unit:=()
def tw18244288863801895674:Unit:=()
def tw5101923270864479354:Unit:=()
def tw4557105299308404218:Unit:=()
def tw11789976092553937326:Unit:=()
def tw16891365194413780569:Unit:=()
def tw17826556644721197249:Unit:=()
def tw17635071803914854311:Unit:=()
def tw2802421491965933328:Unit:=()
def tw319968980738885069:Unit:=()
def tw12031076657251239872:Unit:=()
def tw12204585344171278869:Unit:=()
def tw7002973880465730049:Unit:=()
def tw16593756258971065015:Unit:=()
def tw10310331922582511832:Unit:=()
def tw4344927480291197224:Unit:=()
def tw689176390529965245:Unit:=()
def tw15366564632207122244:Unit:=()
def tw4553539364419842089:Unit:=()
def tw10881062375073049065:Unit:=()
def tw11464725122332386506:Unit:=()
def tw6791150955745552999:Unit:=()
def tw6389105627471845633:Unit:=()
def tw16121214210116094800:Unit:=()
def tw10788825370536027798:Unit:=()
def tw6482524371889807806:Unit:=()
def tw7397607195528408230:Unit:=()
def tw1265813034238058425:Unit:=()
def tw7468315712787808099:Unit:=()
def tw6747615209631283250:Unit:=()
def tw3759192983546517186:Unit:=()
def tw11501780414585119717:Unit:=()
def tw4481313144838144224:Unit:=()
def tw12771007257904497298:Unit:=()
def tw17026696008948323466:Unit:=()
def tw11932901465923132470:Unit:=()
def tw2707924345425876484:Unit:=()
def tw6554902472947683796:Unit:=()
def tw8054269181473487081:Unit:=()
def tw5734308431623311269:Unit:=()
def tw11853619408683613055:Unit:=()
def tw3348757615776520400:Unit:=()
def tw1294691762169033331:Unit:=()
def tw2282430150142918864:Unit:=()
def tw17699323316665193652:Unit:=()
def tw16910010977971654151:Unit:=()
def tw12219335801968236399:Unit:=()
def tw9622563497751826242:Unit:=()
def tw15451030095396644383:Unit:=()
def tw16750419727296615661:Unit:=()
def tw9396827872893764499:Unit:=()
def tw8129986611451921233:Unit:=()
def tw10674013024126884237:Unit:=()
def tw2859776237053710853:Unit:=()
def tw15669500091854452996:Unit:=()
def tw16886548333288821956:Unit:=()
def tw11235334614298801574:Unit:=()
def tw17911625589051733825:Unit:=()
def tw4990841610986781787:Unit:=()
def tw15711283473297713241:Unit:=()
def tw14442126093637040520:Unit:=()
def tw4401994832520374534:Unit:=()
def tw2599419433848625817:Unit:=()
def tw7216143326922817140:Unit:=()
def tw7728474584870540872:Unit:=()
def tw12500131457878705148:Unit:=()
def tw1031327592933845049:Unit:=()
def tw448645213492864903:Unit:=()
def tw9805469516367114960:Unit:=()
def tw8791077413261715162:Unit:=()
def tw2996911289954732798:Unit:=()
def tw12301559006440261417:Unit:=()
def tw14539184257344359275:Unit:=()
def tw10645007515133798938:Unit:=()
def tw15396084689030786023:Unit:=()
def tw8804378460948032680:Unit:=()
def tw13701931367034502633:Unit:=()
def tw12165735468765954711:Unit:=()
def tw3020462724040800407:Unit:=()
def tw10726223962628425236:Unit:=()
def tw4574165051848192747:Unit:=()
def tw16690655820553500331:Unit:=()
def tw6737797098439767831:Unit:=()
def tw15256388322282625946:Unit:=()
def tw9224806731624234167:Unit:=()
def tw16048316756967852424:Unit:=()
def tw6194701301083867566:Unit:=()
def tw13499705115385624773:Unit:=()
def tw1748585363116356749:Unit:=()
def tw15724213290200387242:Unit:=()
def tw8033980044410153664:Unit:=()
def tw10493554367913462189:Unit:=()
def tw8268769862796890444:Unit:=()
def tw3726018412697271511:Unit:=()
def tw13861332792432410682:Unit:=()
def tw17858484102005149631:Unit:=()
def tw17357116995316835919:Unit:=()
def tw17206180599289113539:Unit:=()
def tw7288170818644036932:Unit:=()
def tw7716325515630680560:Unit:=()
def tw2698264626074379280:Unit:=()
def tw16373064626796700621:Unit:=()
def tw17719985398059291721:Unit:=()
def tw7961039754633962169:Unit:=()
def tw16383179323868162136:Unit:=()
def tw18169596702870505735:Unit:=()
def tw4325237315250836909:Unit:=()
def tw16182106789886934851:Unit:=()
def tw3455603737236453823:Unit:=()
def tw12086903601178189909:Unit:=()
def tw12951243215032373258:Unit:=()
def tw12260292767342169195:Unit:=()
def tw6415955861025777956:Unit:=()
def tw16992273816138658587:Unit:=()
def tw4393222834936564706:Unit:=()
def tw15508753372115176233:Unit:=()
def tw1665958995521840287:Unit:=()
def tw925883064989909682:Unit:=()
def tw9750826882249162401:Unit:=()
def tw2851529664202921387:Unit:=()
def tw3483322729394236294:Unit:=()
def tw12824393193204242759:Unit:=()
def tw13732508972002849278:Unit:=()
def tw17213757439393952956:Unit:=()
def tw12721968084649393480:Unit:=()
def tw152498472645483664:Unit:=()
def tw16484546423666949110:Unit:=()
def tw6487427278485859970:Unit:=()
def tw10804084365242294154:Unit:=()
def tw13676443108242395884:Unit:=()
def tw6349078160403524519:Unit:=()
def tw15648498652645475749:Unit:=()
def tw8646645710078542315:Unit:=()
def tw5604900575183851954:Unit:=()
def tw16055445241656896470:Unit:=()
def tw7657509468281424684:Unit:=()
def tw864257169410052538:Unit:=()
end PySem.W.Fast
namespace K38
open PySem L2 PyProof.Rows
theorem afW{K:W.Frag}{h:Heap}{mg:Str->Option Value}(X:K.In h)(G:h.Ns mainGlobals mg){f0 f1 f2 f3 f4 f5 f6 f7 f8 f9 f10 f11 f12 f13 f14 f15 f16 f17 f18 f19 f20 f21 f22 f23 f24 f25 f26 f27 f28 f29 f30 f31 f32 f33 f34 f35 f36 f37 f38 f39 f40 f41 f42 f43 f44 C0 C1 C2 C3 C4 C5 C6 C7 C8 C9 C10 C11 C12 C13 C14 C15 C16 C17 C18 C19 C20 C21 C22 C23 C24 C25 C26 fi0 fo0 fo1 Lf fo3 fo4 fo5 fo6 fo7 fo8 fo9 YF Zj Yc QJ YZ Zd:Addr}{od0 an0 od1 an1 od2 an2 od3 an3 od4 an4 od5 an5 od6 an6 od7 an7 od8 an8 od9 an9 alQ arN avC avS avp auk apb anj ars ash apc avj arl aoR asT aww aos anO amE apT apM anb alU avh amQ auG ara arv awe aqW auB aoI aqH amS apE awr asM awa anM alW awp atB amT al8 ath avN ar9 ang aqe aoZ arV aud asI anA awf avm arX aqP anQ ao5 apg asx awk atz ar3 asl al7 asw anq ao6 amh aqh apu arH apG aoQ am4 auo aqx amd apC am7 avy aqI asG aus aqo anm atr ao9 arL avO ahK aiq ahG aif ajT aiR aj9 ajP ajG ahm akv aiQ:Option Addr}{sl0 sl1 sl2 sl3 sl4 sl5 sl6 sl7 sl8 sl9 arc aoh apR asf aqj auO ar6 ao1 aqK aqS aqZ atu auK am0 aqg arI auL aqu atH aty alS awt asH anv amG aqb ar8 aqf atX auP ap6 aow aui avb asr atO aor asZ aqL aoK ari alN ar5 ato arB anx aiD ahC aik aio aip ah4:Array (Option Value)}{oc0 kV0 dc0 pm0 cd0 ct0 oc1 kV1 dc1 pm1 cd1 ct1 oc2 kV2 dc2 pm2 cd2 ct2 oc3 kV3 dc3 pm3 cd3 ct3 oc4 kV4 dc4 pm4 cd4 ct4 Ym kV5 dc5 pm5 cd5 ct5 oc6 kV6 dc6 pm6 cd6 ct6 oc7 kV7 dc7 pm7 cd7 ct7 oc8 kV8 dc8 pm8 cd8 ct8 oc9 kV9 dc9 pm9 cd9 ct9 XJ amq ap8 aox aju atQ Ws aoz arT amx aix atZ Wm atp aoY at9 akd auT Ku atR asL amI ajv au0 W9 awm au4 amf ajJ apU R7 amD apw av4 ahT aof awj av7 aml anz akB amB amZ aoc aua avt ahL apn awn aoF asC amC akf arO atb avn avW amF ahV aqQ al6 arQ atf auv ahn atV ano anS alP aqE aim amX atF amb auV awv ah1 arY apI anJ ank amA aie asF apP awq aoH aqs ah5 avK at3 amg ao4 asD ajQ anD aoN arU atU aoa ah2 auS apW arx avD aov ahQ as9 anw aue aum at8 akP arR asa aqN atc am1 ahB auC asu atJ avw aoB aiH awl am2 arj au3 art aj0 asU aod aoT avX aoC akC awo asQ apQ asn apO akx asi avL atA ao2 at5 ahM avl amR apy as3 amj aiz aqX aoO aoP am6 aqm ajB aoJ arE al4 apd awd ai5 amt ant ap2 as5 as6 ajM alR asq apJ aou aoM akm apB aoy anT ar4 aru aiJ amM aup au7 apv asd akp aoL atE amV apL asW ajY auU anp asA atn aqT ah8 amw arF ao0 ao8 apf akH apF anc aqD amn au2 ahs aqi aro atq amU aqV ake apm ava av9 anG auZ akt amu aoj amo asy amY akc atY arz anE am8 aqR ahw aoW arC aqC ap9 atv akQ ane asp apZ amJ avx akI anh asR arb arW asS ai1 atD auN av8 arw ams akU awi aoD av2 avI al2 ahu aso auz aot alO apS ah6 asb ahY aii aiU aka aaW ajd ai4 aiZ ajn ahF aax ajX aiy aih ajt aiw aaO ah0 aiV akD aj3 ait aas ai8 ai7 akM aj4 ahU aaq aiP aki akh ajc aiv aat aiK:Value}{t0 t1 t2 t3 t4 t5 t6 t7 t8 t9 t10 t11 t12 t13 t14 t15 t16 t17 t18 t19 t20 t21 t22 t23 t24 t25 t26 t27 t28 t29 t30 t31 t32 t33 t34 t35 t36:Tok}
  (aq0:W.nsIn K mainGlobals "_wall"=some (some (.ref f0)))
  (lq0:K.lookup f0=some ⟨oc0,od0,.func (W.fnOf "_wall" "_wall" (aJ tW) (az tW) (aa tW) .none kV0 dc0 pm0 an0 cd0 ct0),sl0⟩)
  (cq0:W.codeIn K cd0 "_wall"=true)
  (kq0:W.keepIn K (.ref f0)=true)
  (aq1:W.nsIn K mainGlobals "check_of"=some (some (.ref f1)))
  (lq1:K.lookup f1=some ⟨oc1,od1,.func (W.fnOf "check_of" "check_of" (aJ gh) (az gh) (aa gh) .none kV1 dc1 pm1 an1 cd1 ct1),sl1⟩)
  (cq1:W.codeIn K cd1 "check_of"=true)
  (kq1:W.keepIn K (.ref f1)=true)
  (aq2:W.nsIn K mainGlobals "check_word"=some (some (.ref f2)))
  (lq2:K.lookup f2=some ⟨oc2,od2,.func (W.fnOf "check_word" "check_word" (aJ dH) (az dH) (aa dH) .none kV2 dc2 pm2 an2 cd2 ct2),sl2⟩)
  (cq2:W.codeIn K cd2 "check_word"=true)
  (kq2:W.keepIn K (.ref f2)=true)
  (aq3:W.nsIn K mainGlobals "made_of"=some (some (.ref f3)))
  (lq3:K.lookup f3=some ⟨oc3,od3,.func (W.fnOf "made_of" "made_of" (aJ gm) (az gm) (aa gm) .none kV3 dc3 pm3 an3 cd3 ct3),sl3⟩)
  (cq3:W.codeIn K cd3 "made_of"=true)
  (kq3:W.keepIn K (.ref f3)=true)
  (aq4:W.nsIn K mainGlobals "is_text_value"=some (some (.ref f4)))
  (lq4:K.lookup f4=some ⟨oc4,od4,.func (W.fnOf "is_text_value" "is_text_value" (aJ cF) (az cF) (aa cF) .none kV4 dc4 pm4 an4 cd4 ct4),sl4⟩)
  (cq4:W.codeIn K cd4 "is_text_value"=true)
  (kq4:W.keepIn K (.ref f4)=true)
  (aq5:W.nsIn K mainGlobals "are_figures"=some (some (.ref f5)))
  (lq5:K.lookup f5=some ⟨Ym,od5,.func (W.fnOf "are_figures" "are_figures" (aJ dg) (az dg) (aa dg) .none kV5 dc5 pm5 an5 cd5 ct5),sl5⟩)
  (cq5:W.codeIn K cd5 "are_figures"=true)
  (kq5:W.keepIn K (.ref f5)=true)
  (aq6:W.nsIn K mainGlobals "read_figures"=some (some (.ref f6)))
  (lq6:K.lookup f6=some ⟨oc6,od6,.func (W.fnOf "read_figures" "read_figures" (aJ bO) (az bO) (aa bO) .none kV6 dc6 pm6 an6 cd6 ct6),sl6⟩)
  (cq6:W.codeIn K cd6 "read_figures"=true)
  (kq6:W.keepIn K (.ref f6)=true)
  (aq7:W.nsIn K mainGlobals "read_number_word"=some (some (.ref f7)))
  (lq7:K.lookup f7=some ⟨oc7,od7,.func (W.fnOf "read_number_word" "read_number_word" (aJ bu) (az bu) (aa bu) .none kV7 dc7 pm7 an7 cd7 ct7),sl7⟩)
  (cq7:W.codeIn K cd7 "read_number_word"=true)
  (kq7:W.keepIn K (.ref f7)=true)
  (aq8:W.nsIn K mainGlobals "read_text_word"=some (some (.ref f8)))
  (lq8:K.lookup f8=some ⟨oc8,od8,.func (W.fnOf "read_text_word" "read_text_word" (aJ bB) (az bB) (aa bB) .none kV8 dc8 pm8 an8 cd8 ct8),sl8⟩)
  (cq8:W.codeIn K cd8 "read_text_word"=true)
  (kq8:W.keepIn K (.ref f8)=true)
  (aq9:W.nsIn K mainGlobals "read_value"=some (some (.ref f9)))
  (lq9:K.lookup f9=some ⟨oc9,od9,.func (W.fnOf "read_value" "read_value" (aJ dG) (az dG) (aa dG) .none kV9 dc9 pm9 an9 cd9 ct9),sl9⟩)
  (cq9:W.codeIn K cd9 "read_value"=true)
  (kq9:W.keepIn K (.ref f9)=true)
  (af3:W.nsIn K mainGlobals "read_values"=some (some (.ref f10)))
  (aee:K.lookup f10=some ⟨XJ,alQ,.func (W.fnOf "read_values" "read_values" (aJ cJ) (az cJ) (aa cJ) .none amq ap8 aox arN aju atQ),arc⟩)
  (afN:W.codeIn K aju "read_values"=true)
  (afY:W.keepIn K (.ref f10)=true)
  (adX:W.nsIn K mainGlobals "place_of"=some (some (.ref f11)))
  (af4:K.lookup f11=some ⟨Ws,avC,.func (W.fnOf "place_of" "place_of" (aJ gf) (az gf) (aa gf) .none aoz arT amx avS aix atZ),aoh⟩)
  (agi:W.codeIn K aix "place_of"=true)
  (adA:W.keepIn K (.ref f11)=true)
  (aeI:W.nsIn K mainGlobals "read_order_word"=some (some (.ref f12)))
  (af5:K.lookup f12=some ⟨Wm,avp,.func (W.fnOf "read_order_word" "read_order_word" (aJ bN) (az bN) (aa bN) .none atp aoY at9 auk akd auT),apR⟩)
  (ad9:W.codeIn K akd "read_order_word"=true)
  (abC:W.keepIn K (.ref f12)=true)
  (afv:W.nsIn K mainGlobals "read_order"=some (some (.ref f13)))
  (afi:K.lookup f13=some ⟨Ku,apb,.func (W.fnOf "read_order" "read_order" (aJ bM) (az bM) (aa bM) .none atR asL amI anj ajv au0),asf⟩)
  (abD:W.codeIn K ajv "read_order"=true)
  (adi:W.keepIn K (.ref f13)=true)
  (ae9:W.nsIn K mainGlobals "word_at"=some (some (.ref f14)))
  (adR:K.lookup f14=some ⟨W9,ars,.func (W.fnOf "word_at" "word_at" (aJ dq) (az dq) (aa dq) .none awm au4 amf ash ajJ apU),aqj⟩)
  (adN:W.codeIn K ajJ "word_at"=true)
  (ae5:W.keepIn K (.ref f14)=true)
  (abi:W.nsIn K mainGlobals "text_between"=some (some (.ref f15)))
  (ado:K.lookup f15=some ⟨R7,apc,.func (W.fnOf "text_between" "text_between" (aJ cT) (az cT) (aa cT) .none amD apw av4 avj ahT aof),auO⟩)
  (abH:W.codeIn K ahT "text_between"=true)
  (aeX:W.keepIn K (.ref f15)=true)
  (afX:W.nsIn K mainGlobals "read_column"=some (some (.ref f16)))
  (acT:K.lookup f16=some ⟨awj,arl,.func (W.fnOf "read_column" "read_column" (aJ di) (az di) (aa di) .none av7 aml anz aoR akB amB),ar6⟩)
  (agy:W.codeIn K akB "read_column"=true)
  (afF:W.keepIn K (.ref f16)=true)
  (af9:W.nsIn K mainGlobals "read_word"=some (some (.ref f17)))
  (ack:K.lookup f17=some ⟨amZ,asT,.func (W.fnOf "read_word" "read_word" (aJ fB) (az fB) (aa fB) .none aoc aua avt aww ahL apn),ao1⟩)
  (ac2:W.codeIn K ahL "read_word"=true)
  (acu:W.keepIn K (.ref f17)=true)
  (aei:W.nsIn K mainGlobals "read_none"=some (some (.ref f18)))
  (abL:K.lookup f18=some ⟨awn,aos,.func (W.fnOf "read_none" "read_none" (aJ eX) (az eX) (aa eX) .none aoF asC amC anO akf arO),aqK⟩)
  (af8:W.codeIn K akf "read_none"=true)
  (acp:W.keepIn K (.ref f18)=true)
  (acd:W.nsIn K mainGlobals "read_of_value"=some (some (.ref f19)))
  (abk:K.lookup f19=some ⟨atb,amE,.func (W.fnOf "read_of_value" "read_of_value" (aJ cD) (az cD) (aa cD) .none avn avW amF apT ahV aqQ),aqS⟩)
  (aeC:W.codeIn K ahV "read_of_value"=true)
  (aev:W.keepIn K (.ref f19)=true)
  (ae1:W.nsIn K mainGlobals "read_of_sieves"=some (some (.ref f20)))
  (adm:K.lookup f20=some ⟨al6,apM,.func (W.fnOf "read_of_sieves" "read_of_sieves" (aJ bY) (az bY) (aa bY) .none arQ atf auv anb ahn atV),aqZ⟩)
  (agH:W.codeIn K ahn "read_of_sieves"=true)
  (acB:W.keepIn K (.ref f20)=true)
  (agP:W.nsIn K mainGlobals "read_part"=some (some (.ref f21)))
  (ade:K.lookup f21=some ⟨ano,alU,.func (W.fnOf "read_part" "read_part" (aJ eZ) (az eZ) (aa eZ) .none anS alP aqE avh aim amX),atu⟩)
  (aeP:W.codeIn K aim "read_part"=true)
  (ae2:W.keepIn K (.ref f21)=true)
  (acD:W.nsIn K mainGlobals "read_sieve"=some (some (.ref f22)))
  (ad0:K.lookup f22=some ⟨atF,amQ,.func (W.fnOf "read_sieve" "read_sieve" (aJ dJ) (az dJ) (aa dJ) .none amb auV awv auG ah1 arY),auK⟩)
  (afj:W.codeIn K ah1 "read_sieve"=true)
  (aem:W.keepIn K (.ref f22)=true)
  (agQ:W.nsIn K mainGlobals "read_make"=some (some (.ref f23)))
  (afE:K.lookup f23=some ⟨apI,ara,.func (W.fnOf "read_make" "read_make" (aJ eQ) (az eQ) (aa eQ) .none anJ ank amA arv aie asF),am0⟩)
  (aea:W.codeIn K aie "read_make"=true)
  (adO:W.keepIn K (.ref f23)=true)
  (agf:W.nsIn K mainGlobals "read_whole"=some (some (.ref f24)))
  (afM:K.lookup f24=some ⟨apP,awe,.func (W.fnOf "read_whole" "read_whole" (aJ dN) (az dN) (aa dN) .none awq aoH aqs aqW ah5 avK),aqg⟩)
  (afx:W.codeIn K ah5 "read_whole"=true)
  (acU:W.keepIn K (.ref f24)=true)
  (abt:W.nsIn K mainGlobals "read_side"=some (some (.ref f25)))
  (abT:K.lookup f25=some ⟨at3,auB,.func (W.fnOf "read_side" "read_side" (aJ fJ) (az fJ) (aa fJ) .none amg ao4 asD aoI ajQ anD),arI⟩)
  (agW:W.codeIn K ajQ "read_side"=true)
  (afp:W.keepIn K (.ref f25)=true)
  (af1:W.nsIn K mainGlobals "read_cut"=some (some (.ref f26)))
  (ae4:K.lookup f26=some ⟨aoN,aqH,.func (W.fnOf "read_cut" "read_cut" (aJ fH) (az fH) (aa fH) .none arU atU aoa amS ah2 auS),auL⟩)
  (acs:W.codeIn K ah2 "read_cut"=true)
  (agl:W.keepIn K (.ref f26)=true)
  (acK:W.nsIn K mainGlobals "read_body"=some (some (.ref f27)))
  (aeE:K.lookup f27=some ⟨apW,apE,.func (W.fnOf "read_body" "read_body" (aJ fj) (az fj) (aa fj) .none arx avD aov awr ahQ as9),aqu⟩)
  (agm:W.codeIn K ahQ "read_body"=true)
  (ady:W.keepIn K (.ref f27)=true)
  (agZ:W.nsIn K mainGlobals "read_mark"=some (some (.ref f28)))
  (acy:K.lookup f28=some ⟨anw,asM,.func (W.fnOf "read_mark" "read_mark" (aJ fD) (az fD) (aa fD) .none aue aum at8 awa akP arR),atH⟩)
  (adu:W.codeIn K akP "read_mark"=true)
  (abU:W.keepIn K (.ref f28)=true)
  (adq:W.nsIn K mainGlobals "_law_draw"=some (some (.ref f29)))
  (ael:K.lookup f29=some ⟨asa,anM,.func (W.fnOf "_law_draw" "_law_draw" (aJ eV) (az eV) (aa eV) .none aqN atc am1 alW ahB auC),aty⟩)
  (ach:W.codeIn K ahB "_law_draw"=true)
  (aec:W.keepIn K (.ref f29)=true)
  (ab1:W.nsIn K mainGlobals "_law_columns"=some (some (.ref f30)))
  (agJ:K.lookup f30=some ⟨asu,awp,.func (W.fnOf "_law_columns" "_law_columns" (aJ b7) (az b7) (aa b7) .none atJ avw aoB atB aiH awl),alS⟩)
  (ab7:W.codeIn K aiH "_law_columns"=true)
  (afn:W.keepIn K (.ref f30)=true)
  (agk:W.nsIn K mainGlobals "_law_value"=some (some (.ref f31)))
  (adJ:K.lookup f31=some ⟨am2,amT,.func (W.fnOf "_law_value" "_law_value" (aJ bZ) (az bZ) (aa bZ) .none arj au3 art al8 aj0 asU),awt⟩)
  (abN:W.codeIn K aj0 "_law_value"=true)
  (afu:W.keepIn K (.ref f31)=true)
  (ab6:W.nsIn K mainGlobals "_law_values"=some (some (.ref f32)))
  (agE:K.lookup f32=some ⟨aod,ath,.func (W.fnOf "_law_values" "_law_values" (aJ cI) (az cI) (aa cI) .none aoT avX aoC avN akC awo),asH⟩)
  (afk:W.codeIn K akC "_law_values"=true)
  (acQ:W.keepIn K (.ref f32)=true)
  (agw:W.nsIn K mainGlobals "_law_order"=some (some (.ref f33)))
  (adE:K.lookup f33=some ⟨asQ,ar9,.func (W.fnOf "_law_order" "_law_order" (aJ cV) (az cV) (aa cV) .none apQ asn apO ang akx asi),anv⟩)
  (acq:W.codeIn K akx "_law_order"=true)
  (abr:W.keepIn K (.ref f33)=true)
  (aeY:W.nsIn K mainGlobals "_law_key"=some (some (.ref f34)))
  (agg:K.lookup f34=some ⟨avL,aqe,.func (W.fnOf "_law_key" "_law_key" (aJ dO) (az dO) (aa dO) .none atA ao2 at5 aoZ ahM avl),amG⟩)
  (agG:W.codeIn K ahM "_law_key"=true)
  (adU:W.keepIn K (.ref f34)=true)
  (adI:W.nsIn K mainGlobals "_law_word"=some (some (.ref f35)))
  (ago:K.lookup f35=some ⟨amR,arV,.func (W.fnOf "_law_word" "_law_word" (aJ fG) (az fG) (aa fG) .none apy as3 amj aud aiz aqX),aqb⟩)
  (aeM:W.codeIn K aiz "_law_word"=true)
  (ada:W.keepIn K (.ref f35)=true)
  (adY:W.nsIn K mainGlobals "_law_look"=some (some (.ref f36)))
  (acg:K.lookup f36=some ⟨aoO,asI,.func (W.fnOf "_law_look" "_law_look" (aJ cY) (az cY) (aa cY) .none aoP am6 aqm anA ajB aoJ),ar8⟩)
  (ab5:W.codeIn K ajB "_law_look"=true)
  (adC:W.keepIn K (.ref f36)=true)
  (af6:W.nsIn K mainGlobals "_law_sieve"=some (some (.ref f37)))
  (acG:K.lookup f37=some ⟨arE,awf,.func (W.fnOf "_law_sieve" "_law_sieve" (aJ dM) (az dM) (aa dM) .none al4 apd awd avm ai5 amt),aqf⟩)
  (ad1:W.codeIn K ai5 "_law_sieve"=true)
  (acS:W.keepIn K (.ref f37)=true)
  (afK:W.nsIn K mainGlobals "_law_mark"=some (some (.ref f38)))
  (aeQ:K.lookup f38=some ⟨ant,arX,.func (W.fnOf "_law_mark" "_law_mark" (aJ fu) (az fu) (aa fu) .none ap2 as5 as6 aqP ajM alR),atX⟩)
  (adf:W.codeIn K ajM "_law_mark"=true)
  (afq:W.keepIn K (.ref f38)=true)
  (aeq:W.nsIn K mainGlobals "_law_body"=some (some (.ref f39)))
  (ad2:K.lookup f39=some ⟨asq,anQ,.func (W.fnOf "_law_body" "_law_body" (aJ cL) (az cL) (aa cL) .none apJ aou aoM ao5 akm apB),auP⟩)
  (ae0:W.codeIn K akm "_law_body"=true)
  (acW:W.keepIn K (.ref f39)=true)
  (agd:W.nsIn K mainGlobals "_law_checked"=some (some (.ref f40)))
  (ae3:K.lookup f40=some ⟨aoy,apg,.func (W.fnOf "_law_checked" "_law_checked" (aJ cP) (az cP) (aa cP) .none anT ar4 aru asx aiJ amM),ap6⟩)
  (aga:W.codeIn K aiJ "_law_checked"=true)
  (agz:W.keepIn K (.ref f40)=true)
  (adL:W.nsIn K mainGlobals "_law_refused"=some (some (.ref f41)))
  (ab9:K.lookup f41=some ⟨aup,awk,.func (W.fnOf "_law_refused" "_law_refused" (aJ cO) (az cO) (aa cO) .none au7 apv asd atz akp aoL),aow⟩)
  (acR:W.codeIn K akp "_law_refused"=true)
  (afS:W.keepIn K (.ref f41)=true)
  (af7:W.nsIn K mainGlobals "_law_turned"=some (some (.ref f42)))
  (agV:K.lookup f42=some ⟨atE,ar3,.func (W.fnOf "_law_turned" "_law_turned" (aJ bJ) (az bJ) (aa bJ) .none amV apL asW asl ajY auU),aui⟩)
  (acw:W.codeIn K ajY "_law_turned"=true)
  (afz:W.keepIn K (.ref f42)=true)
  (abQ:W.nsIn K mainGlobals "_law_changed"=some (some (.ref f43)))
  (aep:K.lookup f43=some ⟨anp,al7,.func (W.fnOf "_law_changed" "_law_changed" (aJ cR) (az cR) (aa cR) .none asA atn aqT asw ah8 amw),avb⟩)
  (abP:W.codeIn K ah8 "_law_changed"=true)
  (abG:W.keepIn K (.ref f43)=true)
  (aeN:W.nsIn K mainGlobals "law"=some (some (.ref f44)))
  (abK:K.lookup f44=some ⟨arF,anq,.func (W.fnOf "law" "law" (aJ yE) (az yE) (aa yE) .none ao0 ao8 apf ao6 akH apF),asr⟩)
  (aes:W.codeIn K akH "law"=true)
  (age:W.keepIn K (.ref f44)=true)
  (gq0:W.nsIn K mainGlobals "BASE"=some (some (.int 137 t0)))
  (gq1:W.nsIn K mainGlobals "REST_BY"=some (some (.int 9973 t1)))
  (gq2:W.nsIn K mainGlobals "FIGURES_OF_CHECK"=some (some (.int 4 t2)))
  (gq3:W.nsIn K mainGlobals "NUMBER"=some (some (.str "number" t3)))
  (gq4:W.nsIn K mainGlobals "TEXT"=some (some (.str "text" t4)))
  (gq5:W.nsIn K mainGlobals "FIGURES"=some (some (.str "0123456789" t5)))
  (gq6:W.nsIn K mainGlobals "TEXT_SIGNS"=some (some (.str "abcdefghijklmnopqrstuvwxyz0123456789-" t6)))
  (gq7:W.nsIn K mainGlobals "LARGEST"=some (some (.int 1000000000000000000 t7)))
  (gq8:W.nsIn K mainGlobals "LONGEST"=some (some (.int 20 t8)))
  (gq9:W.nsIn K mainGlobals "NONE_WORD"=some (some (.str "?" t9)))
  (afD:W.nsIn K mainGlobals "TEXT_AHEAD"=some (some (.str "'" t10)))
  (aeG:W.nsIn K mainGlobals "BELOW_AHEAD"=some (some (.str "-" t11)))
  (aeg:W.nsIn K mainGlobals "LARGEST_ROW"=some (some (.int 1000000000 t12)))
  (agK:W.nsIn K mainGlobals "MOST_IN_ORDER"=some (some (.int 4 t13)))
  (acH:W.nsIn K mainGlobals "UP_AHEAD"=some (some (.str "+" t14)))
  (aeU:W.nsIn K mainGlobals "DOWN_AHEAD"=some (some (.str "-" t15)))
  (abm:W.nsIn K mainGlobals "AHEAD"=some (some (.str "ahead" t16)))
  (adP:W.nsIn K mainGlobals "BEHIND"=some (some (.str "behind" t17)))
  (aeR:W.nsIn K mainGlobals "MOST_WORDS"=some (some (.int 60 t18)))
  (ag0:W.nsIn K mainGlobals "MOST_WITHIN"=some (some (.int 20 t19)))
  (agS:W.nsIn K mainGlobals "ALL"=some (some (.str "all" t20)))
  (agX:W.nsIn K mainGlobals "NONE"=some (some (.str "none" t21)))
  (agj:W.nsIn K mainGlobals "IS"=some (some (.str "is" t22)))
  (ad4:W.nsIn K mainGlobals "UNDER"=some (some (.str "under" t23)))
  (ag2:W.nsIn K mainGlobals "OVER"=some (some (.str "over" t24)))
  (adz:W.nsIn K mainGlobals "HOLDS"=some (some (.str "holds" t25)))
  (acA:W.nsIn K mainGlobals "NOT"=some (some (.str "not" t26)))
  (aek:W.nsIn K mainGlobals "BOTH"=some (some (.str "both" t27)))
  (af2:W.nsIn K mainGlobals "EITHER"=some (some (.str "either" t28)))
  (abZ:W.nsIn K mainGlobals "LIVING"=some (some (.str "living" t29)))
  (agC:W.nsIn K mainGlobals "STILL"=some (some (.str "still" t30)))
  (ace:W.nsIn K mainGlobals "LATEST"=some (some (.int 5000 t31)))
  (aeZ:W.nsIn K mainGlobals "PARTS"=some (some (.int 5 t32)))
  (aeS:W.nsIn K mainGlobals "PARTING"=some (some (.str "/" t33)))
  (aef:W.nsIn K mainGlobals "STOP"=some (some (.str "." t34)))
  (aeL:W.nsIn K mainGlobals "AHEAD_SIGN"=some (some (.str "<" t35)))
  (aez:W.nsIn K mainGlobals "BEHIND_SIGN"=some (some (.str ">" t36)))
  (zq0:W.nsIn K mainGlobals "ValueError"=some none)
  (zq1:W.nsIn K mainGlobals "all"=some none)
  (zq2:W.nsIn K mainGlobals "enumerate"=some none)
  (zq3:W.nsIn K mainGlobals "int"=some none)
  (zq4:W.nsIn K mainGlobals "isinstance"=some none)
  (zq5:W.nsIn K mainGlobals "len"=some none)
  (zq6:W.nsIn K mainGlobals "list"=some none)
  (zq7:W.nsIn K mainGlobals "min"=some none)
  (zq8:W.nsIn K mainGlobals "ord"=some none)
  (zq9:W.nsIn K mainGlobals "range"=some none)
  (ac0:W.nsIn K mainGlobals "reversed"=some none)
  (aed:W.nsIn K mainGlobals "set"=some none)
  (abB:W.nsIn K mainGlobals "str"=some none)
  (afH:W.nsIn K mainGlobals "zip"=some none)
  (Bw:W.nsIn K mainGlobals "LeafError"=some (some (.ref C0)))
  (xq1:W.nsIn K mainGlobals "NoColumns"=some (some (.ref C1)))
  (xq2:W.nsIn K mainGlobals "NoValue"=some (some (.ref C2)))
  (xq3:W.nsIn K mainGlobals "NoOrder"=some (some (.ref C3)))
  (xq4:W.nsIn K mainGlobals "NoRow"=some (some (.ref C4)))
  (xq5:W.nsIn K mainGlobals "NoMark"=some (some (.ref C5)))
  (xq6:W.nsIn K mainGlobals "NoSize"=some (some (.ref C6)))
  (xq7:W.nsIn K mainGlobals "NoLine"=some (some (.ref C7)))
  (xq8:W.nsIn K mainGlobals "NoBook"=some (some (.ref C8)))
  (xq9:W.nsIn K mainGlobals "NoSieve"=some (some (.ref C9)))
  (Vj:W.nsIn K mainGlobals "NoPage"=some (some (.ref C10)))
  (Te:W.nsIn K mainGlobals "Twice"=some (some (.ref C11)))
  (XD:W.nsIn K mainGlobals "Absent"=some (some (.ref C12)))
  (Wx:W.nsIn K mainGlobals "Gone"=some (some (.ref C13)))
  (T9:W.nsIn K mainGlobals "Later"=some (some (.ref C14)))
  (Cp:W.nsIn K mainGlobals "Sieve"=some (some (.ref C15)))
  (GZ:W.nsIn K mainGlobals "AllSieve"=some (some (.ref C16)))
  (Ds:W.nsIn K mainGlobals "NoneSieve"=some (some (.ref C17)))
  (xX:W.nsIn K mainGlobals "ValueSieve"=some (some (.ref C18)))
  (zp:W.nsIn K mainGlobals "IsSieve"=some (some (.ref C19)))
  (zr:W.nsIn K mainGlobals "UnderSieve"=some (some (.ref C20)))
  (xY:W.nsIn K mainGlobals "OverSieve"=some (some (.ref C21)))
  (xJ:W.nsIn K mainGlobals "HoldsSieve"=some (some (.ref C22)))
  (Cd:W.nsIn K mainGlobals "NotSieve"=some (some (.ref C23)))
  (zK:W.nsIn K mainGlobals "PairSieve"=some (some (.ref C24)))
  (zP:W.nsIn K mainGlobals "BothSieve"=some (some (.ref C25)))
  (zx:W.nsIn K mainGlobals "EitherSieve"=some (some (.ref C26)))
  (yq0:W.excIn K C2 Ii "ValueError.__new__"=true)
  (yq1:W.excIn K C5 Ii "ValueError.__new__"=true)
  (yq2:W.excIn K C3 Ii "ValueError.__new__"=true)
  (bt0:W.readsIn K C0 (.type "type")=true)
  (bt1:W.findCls K (.ref C0) (.type "type") "__init__"=some (.val (.builtin "ValueError.__init__")))
  (bt2:W.specialIn K (.ref C0) "__getattribute__"=some (some (.builtin "type.__getattribute__")))
  (bt3:W.typeIn K (.ref C0)=some (.type "type"))
  (bt4:W.mroIn K C0 (.type "BaseException")=some true)
  (wr0:j6 K C1 C0=true)
  (Xq:W.typeIn K (.ref C1)=some (.type "type"))
  (VB:W.hasDictIn K C1=true)
  (T3:W.findIn K (.ref C1) "__getattribute__"=some (some (.builtin "BaseException.__getattribute__")))
  (UT:W.findIn K (.ref C1) "__getattr__"=some none)
  (Xo:W.findIn K (.ref C1) "__class__"=some (some (.builtin "object.__class__")))
  (Ur:W.specialIn K (.builtin "object.__class__") "__get__"=some (some (.builtin "getset_descriptor.__get__")))
  (Xx:W.takesIn K (.builtin "object.__class__")=some true)
  (R3:W.mroIn K C1 (.type "object")=some true)
  (WL:W.mroIn K C1 (.type "BaseException")=some true)
  (wr1:j6 K C2 C0=true)
  (Tu:W.typeIn K (.ref C2)=some (.type "type"))
  (Vi:W.hasDictIn K C2=true)
  (Tw:W.findIn K (.ref C2) "__getattribute__"=some (some (.builtin "BaseException.__getattribute__")))
  (U3:W.findIn K (.ref C2) "__getattr__"=some none)
  (R5:W.findIn K (.ref C2) "__class__"=some (some (.builtin "object.__class__")))
  (VF:W.specialIn K (.builtin "object.__class__") "__get__"=some (some (.builtin "getset_descriptor.__get__")))
  (Us:W.takesIn K (.builtin "object.__class__")=some true)
  (Sq:W.mroIn K C2 (.type "object")=some true)
  (V5:W.mroIn K C2 (.type "BaseException")=some true)
  (wr2:j6 K C3 C0=true)
  (Sg:W.typeIn K (.ref C3)=some (.type "type"))
  (WK:W.hasDictIn K C3=true)
  (Vt:W.findIn K (.ref C3) "__getattribute__"=some (some (.builtin "BaseException.__getattribute__")))
  (RX:W.findIn K (.ref C3) "__getattr__"=some none)
  (Ss:W.findIn K (.ref C3) "__class__"=some (some (.builtin "object.__class__")))
  (Wk:W.specialIn K (.builtin "object.__class__") "__get__"=some (some (.builtin "getset_descriptor.__get__")))
  (Vb:W.takesIn K (.builtin "object.__class__")=some true)
  (Xn:W.mroIn K C3 (.type "object")=some true)
  (Ug:W.mroIn K C3 (.type "BaseException")=some true)
  (wr3:j6 K C4 C0=true)
  (Vu:W.typeIn K (.ref C4)=some (.type "type"))
  (U7:W.hasDictIn K C4=true)
  (UJ:W.findIn K (.ref C4) "__getattribute__"=some (some (.builtin "BaseException.__getattribute__")))
  (Ud:W.findIn K (.ref C4) "__getattr__"=some none)
  (W6:W.findIn K (.ref C4) "__class__"=some (some (.builtin "object.__class__")))
  (Vh:W.specialIn K (.builtin "object.__class__") "__get__"=some (some (.builtin "getset_descriptor.__get__")))
  (R6:W.takesIn K (.builtin "object.__class__")=some true)
  (WM:W.mroIn K C4 (.type "object")=some true)
  (XN:W.mroIn K C4 (.type "BaseException")=some true)
  (wr4:j6 K C5 C0=true)
  (Uz:W.typeIn K (.ref C5)=some (.type "type"))
  (VG:W.hasDictIn K C5=true)
  (Xy:W.findIn K (.ref C5) "__getattribute__"=some (some (.builtin "BaseException.__getattribute__")))
  (W2:W.findIn K (.ref C5) "__getattr__"=some none)
  (UL:W.findIn K (.ref C5) "__class__"=some (some (.builtin "object.__class__")))
  (Xa:W.specialIn K (.builtin "object.__class__") "__get__"=some (some (.builtin "getset_descriptor.__get__")))
  (WD:W.takesIn K (.builtin "object.__class__")=some true)
  (V6:W.mroIn K C5 (.type "object")=some true)
  (Xp:W.mroIn K C5 (.type "BaseException")=some true)
  (wr5:j6 K C6 C0=true)
  (RV:W.typeIn K (.ref C6)=some (.type "type"))
  (Wo:W.hasDictIn K C6=true)
  (VN:W.findIn K (.ref C6) "__getattribute__"=some (some (.builtin "BaseException.__getattribute__")))
  (Xe:W.findIn K (.ref C6) "__getattr__"=some none)
  (SM:W.findIn K (.ref C6) "__class__"=some (some (.builtin "object.__class__")))
  (Uu:W.specialIn K (.builtin "object.__class__") "__get__"=some (some (.builtin "getset_descriptor.__get__")))
  (WY:W.takesIn K (.builtin "object.__class__")=some true)
  (VM:W.mroIn K C6 (.type "object")=some true)
  (Wd:W.mroIn K C6 (.type "BaseException")=some true)
  (wr6:j6 K C7 C0=true)
  (Th:W.typeIn K (.ref C7)=some (.type "type"))
  (Vs:W.hasDictIn K C7=true)
  (SJ:W.findIn K (.ref C7) "__getattribute__"=some (some (.builtin "BaseException.__getattribute__")))
  (Xk:W.findIn K (.ref C7) "__getattr__"=some none)
  (Uy:W.findIn K (.ref C7) "__class__"=some (some (.builtin "object.__class__")))
  (Uc:W.specialIn K (.builtin "object.__class__") "__get__"=some (some (.builtin "getset_descriptor.__get__")))
  (S6:W.takesIn K (.builtin "object.__class__")=some true)
  (Tn:W.mroIn K C7 (.type "object")=some true)
  (R9:W.mroIn K C7 (.type "BaseException")=some true)
  (wr7:j6 K C8 C0=true)
  (Wz:W.typeIn K (.ref C8)=some (.type "type"))
  (Vc:W.hasDictIn K C8=true)
  (Tc:W.findIn K (.ref C8) "__getattribute__"=some (some (.builtin "BaseException.__getattribute__")))
  (V7:W.findIn K (.ref C8) "__getattr__"=some none)
  (Uo:W.findIn K (.ref C8) "__class__"=some (some (.builtin "object.__class__")))
  (Wh:W.specialIn K (.builtin "object.__class__") "__get__"=some (some (.builtin "getset_descriptor.__get__")))
  (Ve:W.takesIn K (.builtin "object.__class__")=some true)
  (V4:W.mroIn K C8 (.type "object")=some true)
  (Wy:W.mroIn K C8 (.type "BaseException")=some true)
  (wr8:j6 K C9 C0=true)
  (T7:W.typeIn K (.ref C9)=some (.type "type"))
  (V9:W.hasDictIn K C9=true)
  (S8:W.findIn K (.ref C9) "__getattribute__"=some (some (.builtin "BaseException.__getattribute__")))
  (Xb:W.findIn K (.ref C9) "__getattr__"=some none)
  (Ua:W.findIn K (.ref C9) "__class__"=some (some (.builtin "object.__class__")))
  (U6:W.specialIn K (.builtin "object.__class__") "__get__"=some (some (.builtin "getset_descriptor.__get__")))
  (VD:W.takesIn K (.builtin "object.__class__")=some true)
  (Ul:W.mroIn K C9 (.type "object")=some true)
  (Sw:W.mroIn K C9 (.type "BaseException")=some true)
  (wr9:j6 K C10 C0=true)
  (Xu:W.typeIn K (.ref C10)=some (.type "type"))
  (S7:W.hasDictIn K C10=true)
  (W8:W.findIn K (.ref C10) "__getattribute__"=some (some (.builtin "BaseException.__getattribute__")))
  (WW:W.findIn K (.ref C10) "__getattr__"=some none)
  (Wf:W.findIn K (.ref C10) "__class__"=some (some (.builtin "object.__class__")))
  (TV:W.specialIn K (.builtin "object.__class__") "__get__"=some (some (.builtin "getset_descriptor.__get__")))
  (WX:W.takesIn K (.builtin "object.__class__")=some true)
  (Wn:W.mroIn K C10 (.type "object")=some true)
  (Uj:W.mroIn K C10 (.type "BaseException")=some true)
  (aby:j6 K C11 C0=true)
  (Ka:W.typeIn K (.ref C11)=some (.type "type"))
  (Lg:W.hasDictIn K C11=true)
  (LR:W.findIn K (.ref C11) "__getattribute__"=some (some (.builtin "BaseException.__getattribute__")))
  (Jb:W.findIn K (.ref C11) "__getattr__"=some none)
  (Jc:W.findIn K (.ref C11) "__class__"=some (some (.builtin "object.__class__")))
  (LK:W.specialIn K (.builtin "object.__class__") "__get__"=some (some (.builtin "getset_descriptor.__get__")))
  (J6:W.takesIn K (.builtin "object.__class__")=some true)
  (Jp:W.mroIn K C11 (.type "object")=some true)
  (KY:W.mroIn K C11 (.type "BaseException")=some true)
  (ac4:j6 K C12 C0=true)
  (JM:W.typeIn K (.ref C12)=some (.type "type"))
  (Ld:W.hasDictIn K C12=true)
  (Mt:W.findIn K (.ref C12) "__getattribute__"=some (some (.builtin "BaseException.__getattribute__")))
  (JX:W.findIn K (.ref C12) "__getattr__"=some none)
  (Ly:W.findIn K (.ref C12) "__class__"=some (some (.builtin "object.__class__")))
  (JZ:W.specialIn K (.builtin "object.__class__") "__get__"=some (some (.builtin "getset_descriptor.__get__")))
  (Mv:W.takesIn K (.builtin "object.__class__")=some true)
  (Mj:W.mroIn K C12 (.type "object")=some true)
  (K1:W.mroIn K C12 (.type "BaseException")=some true)
  (acn:j6 K C13 C0=true)
  (Jo:W.typeIn K (.ref C13)=some (.type "type"))
  (Ln:W.hasDictIn K C13=true)
  (KH:W.findIn K (.ref C13) "__getattribute__"=some (some (.builtin "BaseException.__getattribute__")))
  (Jh:W.findIn K (.ref C13) "__getattr__"=some none)
  (Iu:W.findIn K (.ref C13) "__class__"=some (some (.builtin "object.__class__")))
  (Jj:W.specialIn K (.builtin "object.__class__") "__get__"=some (some (.builtin "getset_descriptor.__get__")))
  (Ky:W.takesIn K (.builtin "object.__class__")=some true)
  (Jx:W.mroIn K C13 (.type "object")=some true)
  (JQ:W.mroIn K C13 (.type "BaseException")=some true)
  (agb:j6 K C14 C0=true)
  (KC:W.typeIn K (.ref C14)=some (.type "type"))
  (Le:W.hasDictIn K C14=true)
  (Mf:W.findIn K (.ref C14) "__getattribute__"=some (some (.builtin "BaseException.__getattribute__")))
  (Kl:W.findIn K (.ref C14) "__getattr__"=some none)
  (Mu:W.findIn K (.ref C14) "__class__"=some (some (.builtin "object.__class__")))
  (JH:W.specialIn K (.builtin "object.__class__") "__get__"=some (some (.builtin "getset_descriptor.__get__")))
  (Lr:W.takesIn K (.builtin "object.__class__")=some true)
  (Je:W.mroIn K C14 (.type "object")=some true)
  (JN:W.mroIn K C14 (.type "BaseException")=some true)
  (ia0:W.findIn K (.ref C9) "__init__"=some (some (.ref fi0)))
  (il0:K.lookup fi0=some ⟨anc,amh,.func (W.fnOf "__init__" "NoSieve.__init__" (aJ jc) (az jc) (aa jc) .none aqD amn au2 aqh ahs aqi),atO⟩)
  (ic0:W.codeIn K ahs "NoSieve.__init__"=true)
  (ik0:W.keepIn K (.ref fi0)=true)
  (wi0:wu K C9 fi0=true)
  (if0:W.isFn K (.ref fi0)=true)
  (is0:W.findIn K (.ref C9) "__setattr__"=some (some (.builtin "object.__setattr__")))
  (it0:W.takerIn K C9 "at"=some none)
  (id0:W.findIn K (.ref C9) "at"=some none)
  (dd0:[C0,C1,C2,C3,C4,C5,C6,C7,C8,C9,C10,C11,C12,C13,C14].Nodup)
  (oa0:W.findIn K (.ref C15) "__init__"=some (some (.ref fo0)))
  (ol0:K.lookup fo0=some ⟨aro,apu,.func (W.fnOf "__init__" "Sieve.__init__" (aJ aQ) (az aQ) (aa aQ) .none atq amU aqV arH ake apm),aor⟩)
  (oc0:W.codeIn K ake "Sieve.__init__"=true)
  (ok0:W.keepIn K (.ref fo0)=true)
  (of0:W.isFn K (.ref fo0)=true)
  (oa1:W.findIn K (.ref C15) "lets"=some (some (.ref fo1)))
  (ol1:K.lookup fo1=some ⟨ava,apG,.func (W.fnOf "lets" "Sieve.lets" (aJ cG) (az cG) (aa cG) .none av9 anG auZ aoQ akt amu),asZ⟩)
  (oc1:W.codeIn K akt "Sieve.lets"=true)
  (ok1:W.keepIn K (.ref fo1)=true)
  (of1:W.isFn K (.ref fo1)=true)
  (oa2:W.findIn K (.ref C15) "shown"=some (some (.ref Lf)))
  (ol2:K.lookup Lf=some ⟨aoj,am4,.func (W.fnOf "shown" "Sieve.shown" (aJ aG) (az aG) (aa aG) .none amo asy amY auo akc atY),aqL⟩)
  (oc2:W.codeIn K akc "Sieve.shown"=true)
  (ok2:W.keepIn K (.ref Lf)=true)
  (of2:W.isFn K (.ref Lf)=true)
  (oa3:W.findIn K (.ref C17) "__init__"=some (some (.ref fo3)))
  (ol3:K.lookup fo3=some ⟨arz,aqx,.func (W.fnOf "__init__" "NoneSieve.__init__" (aJ aR) (az aR) (aa aR) .none anE am8 aqR amd ahw aoW),aoK⟩)
  (oc3:W.codeIn K ahw "NoneSieve.__init__"=true)
  (ok3:W.keepIn K (.ref fo3)=true)
  (of3:W.isFn K (.ref fo3)=true)
  (oa4:W.findIn K (.ref C17) "lets"=some (some (.ref fo4)))
  (ol4:K.lookup fo4=some ⟨arC,apC,.func (W.fnOf "lets" "NoneSieve.lets" (aJ dw) (az dw) (aa dw) .none aqC ap9 atv am7 akQ ane),ari⟩)
  (oc4:W.codeIn K akQ "NoneSieve.lets"=true)
  (ok4:W.keepIn K (.ref fo4)=true)
  (of4:W.isFn K (.ref fo4)=true)
  (oa5:W.findIn K (.ref C18) "__init__"=some (some (.ref fo5)))
  (ol5:K.lookup fo5=some ⟨asp,avy,.func (W.fnOf "__init__" "ValueSieve.__init__" (aJ aD) (az aD) (aa aD) .none apZ amJ avx aqI akI anh),alN⟩)
  (Ym:W.codeIn K akI "ValueSieve.__init__"=true)
  (ok5:W.keepIn K (.ref fo5)=true)
  (of5:W.isFn K (.ref fo5)=true)
  (oa6:W.findIn K (.ref C18) "lets"=some (some (.ref fo6)))
  (ol6:K.lookup fo6=some ⟨asR,asG,.func (W.fnOf "lets" "ValueSieve.lets" (aJ aV) (az aV) (aa aV) .none arb arW asS aus ai1 atD),ar5⟩)
  (oc6:W.codeIn K ai1 "ValueSieve.lets"=true)
  (ok6:W.keepIn K (.ref fo6)=true)
  (of6:W.isFn K (.ref fo6)=true)
  (oa7:W.findIn K (.ref C18) "fits"=some (some (.ref fo7)))
  (ol7:K.lookup fo7=some ⟨auN,aqo,.func (W.fnOf "fits" "ValueSieve.fits" (aJ bL) (az bL) (aa bL) .none av8 arw ams anm akU awi),ato⟩)
  (oc7:W.codeIn K akU "ValueSieve.fits"=true)
  (ok7:W.keepIn K (.ref fo7)=true)
  (of7:W.isFn K (.ref fo7)=true)
  (oa8:W.findIn K (.ref C20) "fits"=some (some (.ref fo8)))
  (ol8:K.lookup fo8=some ⟨aoD,atr,.func (W.fnOf "fits" "UnderSieve.fits" (aJ c7) (az c7) (aa c7) .none av2 avI al2 ao9 ahu aso),arB⟩)
  (oc8:W.codeIn K ahu "UnderSieve.fits"=true)
  (ok8:W.keepIn K (.ref fo8)=true)
  (of8:W.isFn K (.ref fo8)=true)
  (oa9:W.findIn K (.ref C21) "fits"=some (some (.ref fo9)))
  (ol9:K.lookup fo9=some ⟨auz,arL,.func (W.fnOf "fits" "OverSieve.fits" (aJ dB) (az dB) (aa dB) .none aot alO apS avO ah6 asb),anx⟩)
  (oc9:W.codeIn K ah6 "OverSieve.fits"=true)
  (ok9:W.keepIn K (.ref fo9)=true)
  (of9:W.isFn K (.ref fo9)=true)
  (acC:W.findIn K (.ref C22) "fits"=some (some (.ref YF)))
  (ac5:K.lookup YF=some ⟨ahY,ahK,.func (W.fnOf "fits" "HoldsSieve.fits" (aJ cX) (az cX) (aa cX) .none aii aiU aka aiq aaW ajd),aiD⟩)
  (XJ:W.codeIn K aaW "HoldsSieve.fits"=true)
  (abw:W.keepIn K (.ref YF)=true)
  (adh:W.isFn K (.ref YF)=true)
  (acO:W.findIn K (.ref C23) "__init__"=some (some (.ref Zj)))
  (abx:K.lookup Zj=some ⟨ai4,ahG,.func (W.fnOf "__init__" "NotSieve.__init__" (aJ aX) (az aX) (aa aX) .none aiZ ajn ahF aif aax ajX),ahC⟩)
  (Ws:W.codeIn K aax "NotSieve.__init__"=true)
  (acZ:W.keepIn K (.ref Zj)=true)
  (ad7:W.isFn K (.ref Zj)=true)
  (abX:W.findIn K (.ref C23) "lets"=some (some (.ref Yc)))
  (afG:K.lookup Yc=some ⟨aiy,ajT,.func (W.fnOf "lets" "NotSieve.lets" (aJ dR) (az dR) (aa dR) .none aih ajt aiw aiR aaO ah0),aik⟩)
  (Wm:W.codeIn K aaO "NotSieve.lets"=true)
  (ag1:W.keepIn K (.ref Yc)=true)
  (agc:W.isFn K (.ref Yc)=true)
  (agO:W.findIn K (.ref C24) "__init__"=some (some (.ref QJ)))
  (Tv:K.lookup QJ=some ⟨aiV,aj9,.func (W.fnOf "__init__" "PairSieve.__init__" (aJ aL) (az aL) (aa aL) .none akD aj3 ait ajP aas ai8),aio⟩)
  (Ku:W.codeIn K aas "PairSieve.__init__"=true)
  (R4:W.keepIn K (.ref QJ)=true)
  (Uq:W.isFn K (.ref QJ)=true)
  (aeJ:W.findIn K (.ref C25) "lets"=some (some (.ref YZ)))
  (acY:K.lookup YZ=some ⟨ai7,ajG,.func (W.fnOf "lets" "BothSieve.lets" (aJ du) (az du) (aa du) .none akM aj4 ahU ahm aaq aiP),aip⟩)
  (W9:W.codeIn K aaq "BothSieve.lets"=true)
  (adb:W.keepIn K (.ref YZ)=true)
  (afw:W.isFn K (.ref YZ)=true)
  (afm:W.findIn K (.ref C26) "lets"=some (some (.ref Zd)))
  (agr:K.lookup Zd=some ⟨aki,akv,.func (W.fnOf "lets" "EitherSieve.lets" (aJ cQ) (az cQ) (aa cQ) .none akh ajc aiv aiQ aat aiK),ah4⟩)
  (R7:W.codeIn K aat "EitherSieve.lets"=true)
  (agq:W.keepIn K (.ref Zd)=true)
  (adZ:W.isFn K (.ref Zd)=true)
  (Ip:W.plainGet K C15 Str.empty=true)
  (Ja:W.hasDictIn K C15=true)
  (MN:W.plainOver K C15=true)
  (K7:W.findIn K (.ref C15) "__setattr__"=some (some (.builtin "object.__setattr__")))
  (agn:W.makesIn K C15=true)
  (aco:W.keepIn K (.ref C15)=true)
  (vP:W.findIn K (.ref C15) "text"=some none)
  (Ma:W.plainGet K C16 Str.empty=true)
  (JT:W.hasDictIn K C16=true)
  (Km:W.plainOver K C16=true)
  (JK:W.findIn K (.ref C16) "__setattr__"=some (some (.builtin "object.__setattr__")))
  (uP:W.findIn K (.ref C16) "__init__"=some (some (.ref fo0)))
  (agR:W.makesIn K C16=true)
  (ab3:W.keepIn K (.ref C16)=true)
  (uX:W.findIn K (.ref C16) "lets"=some (some (.ref fo1)))
  (rF:W.findIn K (.ref C16) "shown"=some (some (.ref Lf)))
  (uE:W.findIn K (.ref C16) "text"=some none)
  (Iw:W.plainGet K C17 Str.empty=true)
  (Lz:W.hasDictIn K C17=true)
  (Mp:W.plainOver K C17=true)
  (Mq:W.findIn K (.ref C17) "__setattr__"=some (some (.builtin "object.__setattr__")))
  (agY:W.makesIn K C17=true)
  (abS:W.keepIn K (.ref C17)=true)
  (rE:W.findIn K (.ref C17) "shown"=some (some (.ref Lf)))
  (vq:W.findIn K (.ref C17) "text"=some none)
  (qG:W.findIn K (.ref C17) "place"=some none)
  (Kf:W.plainGet K C18 Str.empty=true)
  (JP:W.hasDictIn K C18=true)
  (JC:W.plainOver K C18=true)
  (Ks:W.findIn K (.ref C18) "__setattr__"=some (some (.builtin "object.__setattr__")))
  (aft:W.makesIn K C18=true)
  (afb:W.keepIn K (.ref C18)=true)
  (qX:W.findIn K (.ref C18) "shown"=some (some (.ref Lf)))
  (uC:W.findIn K (.ref C18) "text"=some none)
  (qi:W.findIn K (.ref C18) "place"=some none)
  (rm:W.findIn K (.ref C18) "value"=some none)
  (Lb:W.plainGet K C19 Str.empty=true)
  (IW:W.hasDictIn K C19=true)
  (Mm:W.plainOver K C19=true)
  (KD:W.findIn K (.ref C19) "__setattr__"=some (some (.builtin "object.__setattr__")))
  (uG:W.findIn K (.ref C19) "__init__"=some (some (.ref fo5)))
  (acV:W.makesIn K C19=true)
  (agu:W.keepIn K (.ref C19)=true)
  (vN:W.findIn K (.ref C19) "fits"=some (some (.ref fo7)))
  (uB:W.findIn K (.ref C19) "lets"=some (some (.ref fo6)))
  (rN:W.findIn K (.ref C19) "shown"=some (some (.ref Lf)))
  (vQ:W.findIn K (.ref C19) "text"=some none)
  (rR:W.findIn K (.ref C19) "place"=some none)
  (ql:W.findIn K (.ref C19) "value"=some none)
  (Ke:W.plainGet K C20 Str.empty=true)
  (Jq:W.hasDictIn K C20=true)
  (Ko:W.plainOver K C20=true)
  (J7:W.findIn K (.ref C20) "__setattr__"=some (some (.builtin "object.__setattr__")))
  (uH:W.findIn K (.ref C20) "__init__"=some (some (.ref fo5)))
  (agN:W.makesIn K C20=true)
  (aeV:W.keepIn K (.ref C20)=true)
  (uq:W.findIn K (.ref C20) "lets"=some (some (.ref fo6)))
  (qN:W.findIn K (.ref C20) "shown"=some (some (.ref Lf)))
  (uM:W.findIn K (.ref C20) "text"=some none)
  (qR:W.findIn K (.ref C20) "place"=some none)
  (rG:W.findIn K (.ref C20) "value"=some none)
  (Ji:W.plainGet K C21 Str.empty=true)
  (Mr:W.hasDictIn K C21=true)
  (Jk:W.plainOver K C21=true)
  (Mh:W.findIn K (.ref C21) "__setattr__"=some (some (.builtin "object.__setattr__")))
  (vR:W.findIn K (.ref C21) "__init__"=some (some (.ref fo5)))
  (aeh:W.makesIn K C21=true)
  (afs:W.keepIn K (.ref C21)=true)
  (uK:W.findIn K (.ref C21) "lets"=some (some (.ref fo6)))
  (qy:W.findIn K (.ref C21) "shown"=some (some (.ref Lf)))
  (vH:W.findIn K (.ref C21) "text"=some none)
  (qL:W.findIn K (.ref C21) "place"=some none)
  (rP:W.findIn K (.ref C21) "value"=some none)
  (KZ:W.plainGet K C22 Str.empty=true)
  (Iz:W.hasDictIn K C22=true)
  (LC:W.plainOver K C22=true)
  (JG:W.findIn K (.ref C22) "__setattr__"=some (some (.builtin "object.__setattr__")))
  (uQ:W.findIn K (.ref C22) "__init__"=some (some (.ref fo5)))
  (afA:W.makesIn K C22=true)
  (ae8:W.keepIn K (.ref C22)=true)
  (vA:W.findIn K (.ref C22) "lets"=some (some (.ref fo6)))
  (rn:W.findIn K (.ref C22) "shown"=some (some (.ref Lf)))
  (vU:W.findIn K (.ref C22) "text"=some none)
  (rO:W.findIn K (.ref C22) "place"=some none)
  (rC:W.findIn K (.ref C22) "value"=some none)
  (J4:W.plainGet K C23 Str.empty=true)
  (Mg:W.hasDictIn K C23=true)
  (J9:W.plainOver K C23=true)
  (J0:W.findIn K (.ref C23) "__setattr__"=some (some (.builtin "object.__setattr__")))
  (afa:W.makesIn K C23=true)
  (aeF:W.keepIn K (.ref C23)=true)
  (qZ:W.findIn K (.ref C23) "shown"=some (some (.ref Lf)))
  (uv:W.findIn K (.ref C23) "text"=some none)
  (yP:W.findIn K (.ref C23) "one"=some none)
  (Jl:W.plainGet K C24 Str.empty=true)
  (Jg:W.hasDictIn K C24=true)
  (KR:W.plainOver K C24=true)
  (Ms:W.findIn K (.ref C24) "__setattr__"=some (some (.builtin "object.__setattr__")))
  (adH:W.makesIn K C24=true)
  (abl:W.keepIn K (.ref C24)=true)
  (uD:W.findIn K (.ref C24) "lets"=some (some (.ref fo1)))
  (qx:W.findIn K (.ref C24) "shown"=some (some (.ref Lf)))
  (uw:W.findIn K (.ref C24) "text"=some none)
  (zm:W.findIn K (.ref C24) "one"=some none)
  (qT:W.findIn K (.ref C24) "other"=some none)
  (MK:W.plainGet K C25 Str.empty=true)
  (JF:W.hasDictIn K C25=true)
  (Ls:W.plainOver K C25=true)
  (Jy:W.findIn K (.ref C25) "__setattr__"=some (some (.builtin "object.__setattr__")))
  (vf:W.findIn K (.ref C25) "__init__"=some (some (.ref QJ)))
  (afU:W.makesIn K C25=true)
  (afd:W.keepIn K (.ref C25)=true)
  (qY:W.findIn K (.ref C25) "shown"=some (some (.ref Lf)))
  (vO:W.findIn K (.ref C25) "text"=some none)
  (ye:W.findIn K (.ref C25) "one"=some none)
  (qt:W.findIn K (.ref C25) "other"=some none)
  (JR:W.plainGet K C26 Str.empty=true)
  (Kd:W.hasDictIn K C26=true)
  (K3:W.plainOver K C26=true)
  (Kq:W.findIn K (.ref C26) "__setattr__"=some (some (.builtin "object.__setattr__")))
  (vz:W.findIn K (.ref C26) "__init__"=some (some (.ref QJ)))
  (abO:W.makesIn K C26=true)
  (adW:W.keepIn K (.ref C26)=true)
  (rH:W.findIn K (.ref C26) "shown"=some (some (.ref Lf)))
  (uR:W.findIn K (.ref C26) "text"=some none)
  (xK:W.findIn K (.ref C26) "one"=some none)
  (rD:W.findIn K (.ref C26) "other"=some none)
  (nU:W.findCls K (.ref C15) (.type "type") "__init__"=some (.val (.ref fo0)))
  (nR:W.readsIn K C15 (.type "type")=true)
  (oE:W.specialIn K (.ref C15) "__getattribute__"=some (some (.builtin "type.__getattribute__")))
  :Txt K mg:=
 have m {n:Str} {v:Value} (e:W.nsIn K mainGlobals n=some (some v)):mg n=some v:=W.mg_of X G e
 ⟨⟨_,_,aH (st:=tW) lq0 cq0 kq0,m aq0⟩,
  ⟨_,_,aH (st:=gh) lq1 cq1 kq1,m aq1⟩,
  ⟨_,_,aH (st:=dH) lq2 cq2 kq2,m aq2⟩,
  ⟨_,_,aH (st:=gm) lq3 cq3 kq3,m aq3⟩,
  ⟨_,_,aH (st:=cF) lq4 cq4 kq4,m aq4⟩,
  ⟨_,_,aH (st:=dg) lq5 cq5 kq5,m aq5⟩,
  ⟨_,_,aH (st:=bO) lq6 cq6 kq6,m aq6⟩,
  ⟨_,_,aH (st:=bu) lq7 cq7 kq7,m aq7⟩,
  ⟨_,_,aH (st:=bB) lq8 cq8 kq8,m aq8⟩,
  ⟨_,_,aH (st:=dG) lq9 cq9 kq9,m aq9⟩,
  ⟨_,_,aH (st:=cJ) aee afN afY,m af3⟩,
  ⟨_,_,aH (st:=gf) af4 agi adA,m adX⟩,
  ⟨_,_,aH (st:=bN) af5 ad9 abC,m aeI⟩,
  ⟨_,_,aH (st:=bM) afi abD adi,m afv⟩,
  ⟨_,_,aH (st:=dq) adR adN ae5,m ae9⟩,
  ⟨_,_,aH (st:=cT) ado abH aeX,m abi⟩,
  ⟨_,_,aH (st:=di) acT agy afF,m afX⟩,
  ⟨_,_,aH (st:=fB) ack ac2 acu,m af9⟩,
  ⟨_,_,aH (st:=eX) abL af8 acp,m aei⟩,
  ⟨_,_,aH (st:=cD) abk aeC aev,m acd⟩,
  ⟨_,_,aH (st:=bY) adm agH acB,m ae1⟩,
  ⟨_,_,aH (st:=eZ) ade aeP ae2,m agP⟩,
  ⟨_,_,aH (st:=dJ) ad0 afj aem,m acD⟩,
  ⟨_,_,aH (st:=eQ) afE aea adO,m agQ⟩,
  ⟨_,_,aH (st:=dN) afM afx acU,m agf⟩,
  ⟨_,_,aH (st:=fJ) abT agW afp,m abt⟩,
  ⟨_,_,aH (st:=fH) ae4 acs agl,m af1⟩,
  ⟨_,_,aH (st:=fj) aeE agm ady,m acK⟩,
  ⟨_,_,aH (st:=fD) acy adu abU,m agZ⟩,
  ⟨_,_,aH (st:=eV) ael ach aec,m adq⟩,
  ⟨_,_,aH (st:=b7) agJ ab7 afn,m ab1⟩,
  ⟨_,_,aH (st:=bZ) adJ abN afu,m agk⟩,
  ⟨_,_,aH (st:=cI) agE afk acQ,m ab6⟩,
  ⟨_,_,aH (st:=cV) adE acq abr,m agw⟩,
  ⟨_,_,aH (st:=dO) agg agG adU,m aeY⟩,
  ⟨_,_,aH (st:=fG) ago aeM ada,m adI⟩,
  ⟨_,_,aH (st:=cY) acg ab5 adC,m adY⟩,
  ⟨_,_,aH (st:=dM) acG ad1 acS,m af6⟩,
  ⟨_,_,aH (st:=fu) aeQ adf afq,m afK⟩,
  ⟨_,_,aH (st:=cL) ad2 ae0 acW,m aeq⟩,
  ⟨_,_,aH (st:=cP) ae3 aga agz,m agd⟩,
  ⟨_,_,aH (st:=cO) ab9 acR afS,m adL⟩,
  ⟨_,_,aH (st:=bJ) agV acw afz,m af7⟩,
  ⟨_,_,aH (st:=cR) aep abP abG,m abQ⟩,
  ⟨_,_,aH (st:=yE) abK aes age,m aeN⟩,
  ⟨_,m gq0,_,rfl⟩,
  ⟨_,m gq1,_,rfl⟩,
  ⟨_,m gq2,_,rfl⟩,
  ⟨_,m gq3,_,rfl⟩,
  ⟨_,m gq4,_,rfl⟩,
  ⟨_,m gq5,_,rfl⟩,
  ⟨_,m gq6,_,rfl⟩,
  ⟨_,m gq7,_,rfl⟩,
  ⟨_,m gq8,_,rfl⟩,
  ⟨_,m gq9,_,rfl⟩,
  ⟨_,m afD,_,rfl⟩,
  ⟨_,m aeG,_,rfl⟩,
  ⟨_,m aeg,_,rfl⟩,
  ⟨_,m agK,_,rfl⟩,
  ⟨_,m acH,_,rfl⟩,
  ⟨_,m aeU,_,rfl⟩,
  ⟨_,m abm,_,rfl⟩,
  ⟨_,m adP,_,rfl⟩,
  ⟨_,m aeR,_,rfl⟩,
  ⟨_,m ag0,_,rfl⟩,
  ⟨_,m agS,_,rfl⟩,
  ⟨_,m agX,_,rfl⟩,
  ⟨_,m agj,_,rfl⟩,
  ⟨_,m ad4,_,rfl⟩,
  ⟨_,m ag2,_,rfl⟩,
  ⟨_,m adz,_,rfl⟩,
  ⟨_,m acA,_,rfl⟩,
  ⟨_,m aek,_,rfl⟩,
  ⟨_,m af2,_,rfl⟩,
  ⟨_,m abZ,_,rfl⟩,
  ⟨_,m agC,_,rfl⟩,
  ⟨_,m ace,_,rfl⟩,
  ⟨_,m aeZ,_,rfl⟩,
  ⟨_,m aeS,_,rfl⟩,
  ⟨_,m aef,_,rfl⟩,
  ⟨_,m aeL,_,rfl⟩,
  ⟨_,m aez,_,rfl⟩,
  W.mg_none_of X G zq0,
  W.mg_none_of X G zq1,
  W.mg_none_of X G zq2,
  W.mg_none_of X G zq3,
  W.mg_none_of X G zq4,
  W.mg_none_of X G zq5,
  W.mg_none_of X G zq6,
  W.mg_none_of X G zq7,
  W.mg_none_of X G zq8,
  W.mg_none_of X G zq9,
  W.mg_none_of X G ac0,
  W.mg_none_of X G aed,
  W.mg_none_of X G abB,
  W.mg_none_of X G afH,
  (by have e:=m Bw;rw[aA e];exact e),
  (by have e:=m xq1;rw[aA e];exact e),
  (by have e:=m xq2;rw[aA e];exact e),
  (by have e:=m xq3;rw[aA e];exact e),
  (by have e:=m xq4;rw[aA e];exact e),
  (by have e:=m xq5;rw[aA e];exact e),
  (by have e:=m xq6;rw[aA e];exact e),
  (by have e:=m xq7;rw[aA e];exact e),
  (by have e:=m xq8;rw[aA e];exact e),
  (by have e:=m xq9;rw[aA e];exact e),
  (by have e:=m Vj;rw[aA e];exact e),
  (by have e:=m Te;rw[aA e];exact e),
  (by have e:=m XD;rw[aA e];exact e),
  (by have e:=m Wx;rw[aA e];exact e),
  (by have e:=m T9;rw[aA e];exact e),
  (by have e:=m Cp;rw[aA e];exact e),
  (by have e:=m GZ;rw[aA e];exact e),
  (by have e:=m Ds;rw[aA e];exact e),
  (by have e:=m xX;rw[aA e];exact e),
  (by have e:=m zp;rw[aA e];exact e),
  (by have e:=m zr;rw[aA e];exact e),
  (by have e:=m xY;rw[aA e];exact e),
  (by have e:=m xJ;rw[aA e];exact e),
  (by have e:=m Cd;rw[aA e];exact e),
  (by have e:=m zK;rw[aA e];exact e),
  (by have e:=m zP;rw[aA e];exact e),
  (by have e:=m zx;rw[aA e];exact e),
  Ew (m xq2) yq0,
  Ew (m xq5) yq1,
  Ew (m xq3) yq2,
  ZJ (m Bw) bt0 bt1 bt2 bt3 bt4,
  jF (m xq1) (m Bw) wr0 Xq VB T3 UT Xo Ur Xx R3 WL,
  jF (m xq2) (m Bw) wr1 Tu Vi Tw U3 R5 VF Us Sq V5,
  jF (m xq3) (m Bw) wr2 Sg WK Vt RX Ss Wk Vb Xn Ug,
  jF (m xq4) (m Bw) wr3 Vu U7 UJ Ud W6 Vh R6 WM XN,
  jF (m xq5) (m Bw) wr4 Uz VG Xy W2 UL Xa WD V6 Xp,
  jF (m xq6) (m Bw) wr5 RV Wo VN Xe SM Uu WY VM Wd,
  jF (m xq7) (m Bw) wr6 Th Vs SJ Xk Uy Uc S6 Tn R9,
  jF (m xq8) (m Bw) wr7 Wz Vc Tc V7 Uo Wh Ve V4 Wy,
  jF (m xq9) (m Bw) wr8 T7 V9 S8 Xb Ua U6 VD Ul Sw,
  jF (m Vj) (m Bw) wr9 Xu S7 W8 WW Wf TV WX Wn Uj,
  jF (m Te) (m Bw) aby Ka Lg LR Jb Jc LK J6 Jp KY,
  jF (m XD) (m Bw) ac4 JM Ld Mt JX Ly JZ Mv Mj K1,
  jF (m Wx) (m Bw) acn Jo Ln KH Jh Iu Jj Ky Jx JQ,
  jF (m T9) (m Bw) agb KC Le Mf Kl Mu JH Lr Je JN,
  Z4 (m xq9) (m Bw) (aH (st:=jc) il0 ic0 ik0) wi0 if0 is0 it0 wr8,
  (by rw[aA (m xq9)];exact id0),
  (by rw[aA (m Bw),aA (m xq1),aA (m xq2),aA (m xq3),aA (m xq4),aA (m xq5),aA (m xq6),aA (m xq7),aA (m xq8),aA (m xq9),aA (m Vj),aA (m Te),aA (m XD),aA (m Wx),aA (m T9)];exact dd0),
  iy (m Cp) Ip Ja MN K7,
  lZ (m Cp) (aH (st:=aQ) ol0 oc0 ok0) oa0 of0 agn aco,
  cZ (m Cp) (aH (st:=cG) ol1 oc1 ok1) oa1 of1,
  cZ (m Cp) (aH (st:=aG) ol2 oc2 ok2) oa2 of2,
  (by rw[aA (m Cp)];exact vP),
  iy (m GZ) Ma JT Km JK,
  lZ (m GZ) (aH (st:=aQ) ol0 oc0 ok0) uP of0 agR ab3,
  cZ (m GZ) (aH (st:=cG) ol1 oc1 ok1) uX of1,
  cZ (m GZ) (aH (st:=aG) ol2 oc2 ok2) rF of2,
  (by rw[aA (m GZ)];exact uE),
  iy (m Ds) Iw Lz Mp Mq,
  lZ (m Ds) (aH (st:=aR) ol3 oc3 ok3) oa3 of3 agY abS,
  cZ (m Ds) (aH (st:=dw) ol4 oc4 ok4) oa4 of4,
  cZ (m Ds) (aH (st:=aG) ol2 oc2 ok2) rE of2,
  (by rw[aA (m Ds)];exact vq),
  (by rw[aA (m Ds)];exact qG),
  iy (m xX) Kf JP JC Ks,
  lZ (m xX) (aH (st:=aD) ol5 Ym ok5) oa5 of5 aft afb,
  cZ (m xX) (aH (st:=bL) ol7 oc7 ok7) oa7 of7,
  cZ (m xX) (aH (st:=aV) ol6 oc6 ok6) oa6 of6,
  cZ (m xX) (aH (st:=aG) ol2 oc2 ok2) qX of2,
  (by rw[aA (m xX)];exact uC),
  (by rw[aA (m xX)];exact qi),
  (by rw[aA (m xX)];exact rm),
  iy (m zp) Lb IW Mm KD,
  lZ (m zp) (aH (st:=aD) ol5 Ym ok5) uG of5 acV agu,
  cZ (m zp) (aH (st:=bL) ol7 oc7 ok7) vN of7,
  cZ (m zp) (aH (st:=aV) ol6 oc6 ok6) uB of6,
  cZ (m zp) (aH (st:=aG) ol2 oc2 ok2) rN of2,
  (by rw[aA (m zp)];exact vQ),
  (by rw[aA (m zp)];exact rR),
  (by rw[aA (m zp)];exact ql),
  iy (m zr) Ke Jq Ko J7,
  lZ (m zr) (aH (st:=aD) ol5 Ym ok5) uH of5 agN aeV,
  cZ (m zr) (aH (st:=c7) ol8 oc8 ok8) oa8 of8,
  cZ (m zr) (aH (st:=aV) ol6 oc6 ok6) uq of6,
  cZ (m zr) (aH (st:=aG) ol2 oc2 ok2) qN of2,
  (by rw[aA (m zr)];exact uM),
  (by rw[aA (m zr)];exact qR),
  (by rw[aA (m zr)];exact rG),
  iy (m xY) Ji Mr Jk Mh,
  lZ (m xY) (aH (st:=aD) ol5 Ym ok5) vR of5 aeh afs,
  cZ (m xY) (aH (st:=dB) ol9 oc9 ok9) oa9 of9,
  cZ (m xY) (aH (st:=aV) ol6 oc6 ok6) uK of6,
  cZ (m xY) (aH (st:=aG) ol2 oc2 ok2) qy of2,
  (by rw[aA (m xY)];exact vH),
  (by rw[aA (m xY)];exact qL),
  (by rw[aA (m xY)];exact rP),
  iy (m xJ) KZ Iz LC JG,
  lZ (m xJ) (aH (st:=aD) ol5 Ym ok5) uQ of5 afA ae8,
  cZ (m xJ) (aH (st:=cX) ac5 XJ abw) acC adh,
  cZ (m xJ) (aH (st:=aV) ol6 oc6 ok6) vA of6,
  cZ (m xJ) (aH (st:=aG) ol2 oc2 ok2) rn of2,
  (by rw[aA (m xJ)];exact vU),
  (by rw[aA (m xJ)];exact rO),
  (by rw[aA (m xJ)];exact rC),
  iy (m Cd) J4 Mg J9 J0,
  lZ (m Cd) (aH (st:=aX) abx Ws acZ) acO ad7 afa aeF,
  cZ (m Cd) (aH (st:=dR) afG Wm ag1) abX agc,
  cZ (m Cd) (aH (st:=aG) ol2 oc2 ok2) qZ of2,
  (by rw[aA (m Cd)];exact uv),
  (by rw[aA (m Cd)];exact yP),
  iy (m zK) Jl Jg KR Ms,
  lZ (m zK) (aH (st:=aL) Tv Ku R4) agO Uq adH abl,
  cZ (m zK) (aH (st:=cG) ol1 oc1 ok1) uD of1,
  cZ (m zK) (aH (st:=aG) ol2 oc2 ok2) qx of2,
  (by rw[aA (m zK)];exact uw),
  (by rw[aA (m zK)];exact zm),
  (by rw[aA (m zK)];exact qT),
  iy (m zP) MK JF Ls Jy,
  lZ (m zP) (aH (st:=aL) Tv Ku R4) vf Uq afU afd,
  cZ (m zP) (aH (st:=du) acY W9 adb) aeJ afw,
  cZ (m zP) (aH (st:=aG) ol2 oc2 ok2) qY of2,
  (by rw[aA (m zP)];exact vO),
  (by rw[aA (m zP)];exact ye),
  (by rw[aA (m zP)];exact qt),
  iy (m zx) JR Kd K3 Kq,
  lZ (m zx) (aH (st:=aL) Tv Ku R4) vz Uq abO adW,
  cZ (m zx) (aH (st:=cQ) agr R7 agq) afm adZ,
  cZ (m zx) (aH (st:=aG) ol2 oc2 ok2) rH of2,
  (by rw[aA (m zx)];exact uR),
  (by rw[aA (m zx)];exact xK),
  (by rw[aA (m zx)];exact rD),
  aiA (m Cp) (aH (st:=aQ) ol0 oc0 ok0) nU nR oE⟩
end K38
open PySem PySem.W PyProof.Rows
set_option maxRecDepth 100000 in
set_option maxHeartbeats 0 in
theorem PySem.Challenge.cw_turnleaf_k38_whole_bent_marks_holds : PySem.Challenge.rw_turnleaf_k38_whole_bent_marks.Holds := by
 w_on;o_law;k_head;(case hw=>w_witness2)
 k_fill
 refine L2.Zm (l:=PySem.Challenge.rw_turnleaf_k38_whole_bent_marks) (n:=63) (k:=70) (x:="_law_script") (CX:=λw=>L2.Dk PySem.Challenge.rw_turnleaf_k38_whole_bent_marks.prog w) (cc:=true) (sp:=λw=>L2.aaC _) rfl (by decide) rfl ⟨λ_=>rfl,by decide,by decide⟩ (λw h Y=>PySem.W.kIn_of Y) ?F (λ_ _ a ns hl _ hS=>⟨a,ns,rfl,hS,hl,λ_=>rfl⟩) (λ_ _ _ _ _ z=>L2.Dk.never z)
 case F=>
  intro w mg fa h KX G hmg
  have T:K38.Txt (L2.KOf KX) mg:=by
   dsimp only[L2.KOf]
   refine' K38.afW KX G ?aq0 ?lq0 ?cq0 ?kq0 ?aq1 ?lq1 ?cq1 ?kq1 ?aq2 ?lq2 ?cq2 ?kq2 ?aq3 ?lq3 ?cq3 ?kq3 ?aq4 ?lq4 ?cq4 ?kq4 ?aq5 ?lq5 ?cq5 ?kq5 ?aq6 ?lq6 ?cq6 ?kq6 ?aq7 ?lq7 ?cq7 ?kq7 ?aq8 ?lq8 ?cq8 ?kq8 ?aq9 ?lq9 ?cq9 ?kq9 ?af3 ?aee ?afN ?afY ?adX ?af4 ?agi ?adA ?aeI ?af5 ?ad9 ?abC ?afv ?afi ?abD ?adi ?ae9 ?adR ?adN ?ae5 ?abi ?ado ?abH ?aeX ?afX ?acT ?agy ?afF ?af9 ?ack ?ac2 ?acu ?aei ?abL ?af8 ?acp ?acd ?abk ?aeC ?aev ?ae1 ?adm ?agH ?acB ?agP ?ade ?aeP ?ae2 ?acD ?ad0 ?afj ?aem ?agQ ?afE ?aea ?adO ?agf ?afM ?afx ?acU ?abt ?abT ?agW ?afp ?af1 ?ae4 ?acs ?agl ?acK ?aeE ?agm ?ady ?agZ ?acy ?adu ?abU ?adq ?ael ?ach ?aec ?ab1 ?agJ ?ab7 ?afn ?agk ?adJ ?abN ?afu ?ab6 ?agE ?afk ?acQ ?agw ?adE ?acq ?abr ?aeY ?agg ?agG ?adU ?adI ?ago ?aeM ?ada ?adY ?acg ?ab5 ?adC ?af6 ?acG ?ad1 ?acS ?afK ?aeQ ?adf ?afq ?aeq ?ad2 ?ae0 ?acW ?agd ?ae3 ?aga ?agz ?adL ?ab9 ?acR ?afS ?af7 ?agV ?acw ?afz ?abQ ?aep ?abP ?abG ?aeN ?abK ?aes ?age ?gq0 ?gq1 ?gq2 ?gq3 ?gq4 ?gq5 ?gq6 ?gq7 ?gq8 ?gq9 ?afD ?aeG ?aeg ?agK ?acH ?aeU ?abm ?adP ?aeR ?ag0 ?agS ?agX ?agj ?ad4 ?ag2 ?adz ?acA ?aek ?af2 ?abZ ?agC ?ace ?aeZ ?aeS ?aef ?aeL ?aez ?zq0 ?zq1 ?zq2 ?zq3 ?zq4 ?zq5 ?zq6 ?zq7 ?zq8 ?zq9 ?ac0 ?aed ?abB ?afH ?Bw ?xq1 ?xq2 ?xq3 ?xq4 ?xq5 ?xq6 ?xq7 ?xq8 ?xq9 ?Vj ?Te ?XD ?Wx ?T9 ?Cp ?GZ ?Ds ?xX ?zp ?zr ?xY ?xJ ?Cd ?zK ?zP ?zx ?yq0 ?yq1 ?yq2 ?bt0 ?bt1 ?bt2 ?bt3 ?bt4 ?wr0 ?Xq ?VB ?T3 ?UT ?Xo ?Ur ?Xx ?R3 ?WL ?wr1 ?Tu ?Vi ?Tw ?U3 ?R5 ?VF ?Us ?Sq ?V5 ?wr2 ?Sg ?WK ?Vt ?RX ?Ss ?Wk ?Vb ?Xn ?Ug ?wr3 ?Vu ?U7 ?UJ ?Ud ?W6 ?Vh ?R6 ?WM ?XN ?wr4 ?Uz ?VG ?Xy ?W2 ?UL ?Xa ?WD ?V6 ?Xp ?wr5 ?RV ?Wo ?VN ?Xe ?SM ?Uu ?WY ?VM ?Wd ?wr6 ?Th ?Vs ?SJ ?Xk ?Uy ?Uc ?S6 ?Tn ?R9 ?wr7 ?Wz ?Vc ?Tc ?V7 ?Uo ?Wh ?Ve ?V4 ?Wy ?wr8 ?T7 ?V9 ?S8 ?Xb ?Ua ?U6 ?VD ?Ul ?Sw ?wr9 ?Xu ?S7 ?W8 ?WW ?Wf ?TV ?WX ?Wn ?Uj ?aby ?Ka ?Lg ?LR ?Jb ?Jc ?LK ?J6 ?Jp ?KY ?ac4 ?JM ?Ld ?Mt ?JX ?Ly ?JZ ?Mv ?Mj ?K1 ?acn ?Jo ?Ln ?KH ?Jh ?Iu ?Jj ?Ky ?Jx ?JQ ?agb ?KC ?Le ?Mf ?Kl ?Mu ?JH ?Lr ?Je ?JN ?ia0 ?il0 ?ic0 ?ik0 ?wi0 ?if0 ?is0 ?it0 ?id0 ?dd0 ?oa0 ?ol0 ?oc0 ?ok0 ?of0 ?oa1 ?ol1 ?oc1 ?ok1 ?of1 ?oa2 ?ol2 ?oc2 ?ok2 ?of2 ?oa3 ?ol3 ?oc3 ?ok3 ?of3 ?oa4 ?ol4 ?oc4 ?ok4 ?of4 ?oa5 ?ol5 ?Ym ?ok5 ?of5 ?oa6 ?ol6 ?oc6 ?ok6 ?of6 ?oa7 ?ol7 ?oc7 ?ok7 ?of7 ?oa8 ?ol8 ?oc8 ?ok8 ?of8 ?oa9 ?ol9 ?oc9 ?ok9 ?of9 ?acC ?ac5 ?XJ ?abw ?adh ?acO ?abx ?Ws ?acZ ?ad7 ?abX ?afG ?Wm ?ag1 ?agc ?agO ?Tv ?Ku ?R4 ?Uq ?aeJ ?acY ?W9 ?adb ?afw ?afm ?agr ?R7 ?agq ?adZ ?Ip ?Ja ?MN ?K7 ?agn ?aco ?vP ?Ma ?JT ?Km ?JK ?uP ?agR ?ab3 ?uX ?rF ?uE ?Iw ?Lz ?Mp ?Mq ?agY ?abS ?rE ?vq ?qG ?Kf ?JP ?JC ?Ks ?aft ?afb ?qX ?uC ?qi ?rm ?Lb ?IW ?Mm ?KD ?uG ?acV ?agu ?vN ?uB ?rN ?vQ ?rR ?ql ?Ke ?Jq ?Ko ?J7 ?uH ?agN ?aeV ?uq ?qN ?uM ?qR ?rG ?Ji ?Mr ?Jk ?Mh ?vR ?aeh ?afs ?uK ?qy ?vH ?qL ?rP ?KZ ?Iz ?LC ?JG ?uQ ?afA ?ae8 ?vA ?rn ?vU ?rO ?rC ?J4 ?Mg ?J9 ?J0 ?afa ?aeF ?qZ ?uv ?yP ?Jl ?Jg ?KR ?Ms ?adH ?abl ?uD ?qx ?uw ?zm ?qT ?MK ?JF ?Ls ?Jy ?vf ?afU ?afd ?qY ?vO ?ye ?qt ?JR ?Kd ?K3 ?Kq ?vz ?abO ?adW ?rH ?uR ?xK ?rD ?nU ?nR ?oE
   case aq0 |lq0 |cq0 |kq0 |aq1 |lq1 |cq1 |kq1 |aq2 |lq2 |cq2 |kq2 |aq3 |lq3 |cq3 |kq3 |aq4 |lq4 |cq4 |kq4 |aq5 |lq5 |cq5 |kq5 |aq6 |lq6 |cq6 |kq6 |aq7 |lq7 |cq7 |kq7 |aq8 |lq8 |cq8 |kq8 |aq9 |lq9 |cq9 |kq9 |af3 |aee |afN |afY |adX |af4 |agi |adA |aeI |af5 |ad9 |abC |afv |afi |abD |adi |ae9 |adR |adN |ae5 |abi |ado |abH |aeX |afX |acT |agy |afF |af9 |ack |ac2 |acu |aei |abL |af8 |acp |acd |abk |aeC |aev |ae1 |adm |agH |acB |agP |ade |aeP |ae2 |acD |ad0 |afj |aem |agQ |afE |aea |adO |agf |afM |afx |acU |abt |abT |agW |afp |af1 |ae4 |acs |agl |acK |aeE |agm |ady |agZ |acy |adu |abU |adq |ael |ach |aec |ab1 |agJ |ab7 |afn |agk |adJ |abN |afu |ab6 |agE |afk |acQ |agw |adE |acq |abr |aeY |agg |agG |adU |adI |ago |aeM |ada |adY |acg |ab5 |adC |af6 |acG |ad1 |acS |afK |aeQ |adf |afq |aeq |ad2 |ae0 |acW |agd |ae3 |aga |agz |adL |ab9 |acR |afS |af7 |agV |acw |afz |abQ |aep |abP |abG |aeN |abK |aes |age |gq0 |gq1 |gq2 |gq3 |gq4 |gq5 |gq6 |gq7 |gq8 |gq9 |afD |aeG |aeg |agK |acH |aeU |abm |adP |aeR |ag0 |agS |agX |agj |ad4 |ag2 |adz |acA |aek |af2 |abZ |agC |ace |aeZ |aeS |aef |aeL |aez |zq0 |zq1 |zq2 |zq3 |zq4 |zq5 |zq6 |zq7 |zq8 |zq9 |ac0 |aed |abB |afH |Bw |xq1 |xq2 |xq3 |xq4 |xq5 |xq6 |xq7 |xq8 |xq9 |Vj |Te |XD |Wx |T9 |Cp |GZ |Ds |xX |zp |zr |xY |xJ |Cd |zK |zP |zx=>k_is
   (case yq0=>k_exc)
   (case yq1=>k_exc)
   (case yq2=>k_exc)
   case bt0 |bt1 |bt2 |bt3 |bt4=>k_is
   (case wr0=>kernel_rfl)
   case Xq |VB |T3 |UT |Xo |Ur |Xx |R3 |WL=>k_is
   (case wr1=>kernel_rfl)
   case Tu |Vi |Tw |U3 |R5 |VF |Us |Sq |V5=>k_is
   (case wr2=>kernel_rfl)
   case Sg |WK |Vt |RX |Ss |Wk |Vb |Xn |Ug=>k_is
   (case wr3=>kernel_rfl)
   case Vu |U7 |UJ |Ud |W6 |Vh |R6 |WM |XN=>k_is
   (case wr4=>kernel_rfl)
   case Uz |VG |Xy |W2 |UL |Xa |WD |V6 |Xp=>k_is
   (case wr5=>kernel_rfl)
   case RV |Wo |VN |Xe |SM |Uu |WY |VM |Wd=>k_is
   (case wr6=>kernel_rfl)
   case Th |Vs |SJ |Xk |Uy |Uc |S6 |Tn |R9=>k_is
   (case wr7=>kernel_rfl)
   case Wz |Vc |Tc |V7 |Uo |Wh |Ve |V4 |Wy=>k_is
   (case wr8=>kernel_rfl)
   case T7 |V9 |S8 |Xb |Ua |U6 |VD |Ul |Sw=>k_is
   (case wr9=>kernel_rfl)
   case Xu |S7 |W8 |WW |Wf |TV |WX |Wn |Uj=>k_is
   (case aby=>kernel_rfl)
   case Ka |Lg |LR |Jb |Jc |LK |J6 |Jp |KY=>k_is
   (case ac4=>kernel_rfl)
   case JM |Ld |Mt |JX |Ly |JZ |Mv |Mj |K1=>k_is
   (case acn=>kernel_rfl)
   case Jo |Ln |KH |Jh |Iu |Jj |Ky |Jx |JQ=>k_is
   (case agb=>kernel_rfl)
   case KC |Le |Mf |Kl |Mu |JH |Lr |Je |JN |ia0 |il0 |ic0 |ik0=>k_is
   (case wi0=>kernel_rfl)
   case if0 |is0 |it0 |id0=>k_is
   (case dd0=>decide)
   case oa0 |ol0 |oc0 |ok0 |of0 |oa1 |ol1 |oc1 |ok1 |of1 |oa2 |ol2 |oc2 |ok2 |of2 |oa3 |ol3 |oc3 |ok3 |of3 |oa4 |ol4 |oc4 |ok4 |of4 |oa5 |ol5 |Ym |ok5 |of5 |oa6 |ol6 |oc6 |ok6 |of6 |oa7 |ol7 |oc7 |ok7 |of7 |oa8 |ol8 |oc8 |ok8 |of8 |oa9 |ol9 |oc9 |ok9 |of9 |acC |ac5 |XJ |abw |adh |acO |abx |Ws |acZ |ad7 |abX |afG |Wm |ag1 |agc |agO |Tv |Ku |R4 |Uq |aeJ |acY |W9 |adb |afw |afm |agr |R7 |agq |adZ |Ip |Ja |MN |K7 |agn |aco |vP |Ma |JT |Km |JK |uP |agR |ab3 |uX |rF |uE |Iw |Lz |Mp |Mq |agY |abS |rE |vq |qG |Kf |JP |JC |Ks |aft |afb |qX |uC |qi |rm |Lb |IW |Mm |KD |uG |acV |agu |vN |uB |rN |vQ |rR |ql |Ke |Jq |Ko |J7 |uH |agN |aeV |uq |qN |uM |qR |rG |Ji |Mr |Jk |Mh |vR |aeh |afs |uK |qy |vH |qL |rP |KZ |Iz |LC |JG |uQ |afA |ae8 |vA |rn |vU |rO |rC |J4 |Mg |J9 |J0 |afa |aeF |qZ |uv |yP |Jl |Jg |KR |Ms |adH |abl |uD |qx |uw |zm |qT |MK |JF |Ls |Jy |vf |afU |afd |qY |vO |ye |qt |JR |Kd |K3 |Kq |vz |abO |adW |rH |uR |xK |rD |nU |nR |oE=>k_is
  obtain⟨f,fd,F,hm⟩:=T.aiT
  have e0:=hmg.symm.trans hm
  cases e0
  obtain⟨oc,od,kV,doc,pm,an,cdv,ct,osl,rfl,lk,hcd⟩:=id F.ex
  exact⟨_,λs u=>.of_eq rfl,λbase kb nb=>K38.abf T F⟩
#print axioms PySem.Challenge.cw_turnleaf_k38_whole_bent_marks_holds
