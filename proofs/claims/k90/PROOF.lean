import PyProof.Rows.All
import Wide.All
import OpenK.AllK
import Wide.FinOn
import Lean
import PyProof.EqAt
import PyProof.EqKinds
import PyProof.TupleCall
import PySem.Challenge.RW_standtogether_k90_texts_of_parties_and_t
set_option Elab.async false
set_option linter.all false
set_option maxRecDepth 100000
set_option maxHeartbeats 4000000
section
namespace L2
open PySem PySem.Spec PyProof.Rows
abbrev Key:=Sum Int Str
def zpV:Key->Value->Bool
 |.inl k,v=>Value.isInt k v
 |.inr x,v=>Value.isStrOf x v
def keyH(w:World):Key->Int
 |.inl k=>hashInt k
 |.inr x=>hashStr w x
theorem zbs:∀{k:Key}{v:Value},zpV k v=true->(∃ i t,k=Sum.inl i/\v=Value.int i t)\/(∃ x t,k=Sum.inr x/\v=Value.str x t)
 |.inl i,v,h=>by
  obtain ⟨t,e⟩:=Value.isInt_shape (k:=i) (v:=v) h
  exact .inl ⟨i,t,rfl,e⟩
 |.inr x,v,h=>by
  obtain ⟨t,e⟩:=Value.isStrOf_shape (x:=x) (v:=v) h
  exact .inr ⟨x,t,rfl,e⟩
theorem zgX(x:Str)(t:Tok):zpV (.inr x) (.str x t)=true:=by simp[zpV,Value.isStrOf]
theorem zs5(a b:Int):decide ((Sum.inl a:Key)=Sum.inl b)=(a == b):=by
 by_cases e:a=b
 ·subst e;simp
 ·have h:¬ (Sum.inl a:Key)=Sum.inl b:=fun q=>e (Sum.inl.inj q)
  rw[decide_eq_false h]
  exact (beq_eq_false_iff_ne.mpr e).symm
theorem zsO(a b:Str):decide ((Sum.inr a:Key)=Sum.inr b)=decide (a=b):=by
 by_cases e:a=b
 ·subst e;simp
 ·have h:¬ (Sum.inr a:Key)=Sum.inr b:=fun q=>e (Sum.inr.inj q)
  rw[decide_eq_false h,decide_eq_false e]
theorem zsn(a:Int)(b:Str):decide ((Sum.inl a:Key)=Sum.inr b)=false:=decide_eq_false (fun q=>nomatch q)
theorem zsS(a:Str)(b:Int):decide ((Sum.inr a:Key)=Sum.inl b)=false:=decide_eq_false (fun q=>nomatch q)
def zio(prog:Program)(w:World):PySem.KeyKind prog w Key where
 is:=zpV
 hash:=keyH w
 inj:=fun v a b ha hb=>by
  rcases zbs ha with ⟨i,t,rfl,rfl⟩|⟨x,t,rfl,rfl⟩
  ·rcases zbs hb with ⟨j,u,rfl,e⟩|⟨y,u,rfl,e⟩
   ·injection e with e1 _;rw[e1]
   ·exact nomatch e
  ·rcases zbs hb with ⟨j,u,rfl,e⟩|⟨y,u,rfl,e⟩
   ·exact nomatch e
   ·injection e with e1 _;rw[e1]
 byValue:=fun k v h=>by
  rcases zbs h with ⟨i,t,rfl,rfl⟩|⟨x,t,rfl,rfl⟩ <;> rfl
 pyHash:=fun hv h=>by
  rcases zbs hv with ⟨i,t,rfl,rfl⟩|⟨x,t,rfl,rfl⟩
  ·exact wpAny_pyHash_int h
  ·exact wpAny_pyHash_str h
 eqBool:=fun hu hv h=>by
  rcases zbs hu with ⟨i,t,rfl,rfl⟩|⟨x,t,rfl,rfl⟩
  ·rcases zbs hv with ⟨j,u,rfl,rfl⟩|⟨y,u,rfl,rfl⟩
   ·rw[zs5] at h;exact wpAny_eqBool_int h
   ·rw[zsn] at h;exact SeqAt.EqAt.int_str i t y u _ _ _ _ h
  ·rcases zbs hv with ⟨j,u,rfl,rfl⟩|⟨y,u,rfl,rfl⟩
   ·rw[zsS] at h;exact SeqAt.EqAt.str_int x t j u _ _ _ _ h
   ·rw[zsO] at h;exact wpAny_eqBool_str h
 «strs» := fun k x t v h=>by
  rcases zbs h with ⟨i,u,rfl,e⟩|⟨y,u,rfl,e⟩
  ·exact nomatch e
  ·injection e with e1 _
   subst e1
   cases v <;> rfl
end L2
namespace L2
open PySem PySem.Spec PyProof.Rows
inductive V where
 |non|bl (b:Bool)|int (i:Int)|str (x:Str)|byt (b:Array UInt8)|flt (b:UInt64)|ref (a:Addr)|ty (n:String)
 deriving DecidableEq
def zcj:V->Value->Prop
 |.non,u=>u=Value.none
 |.bl b,u=>u=Value.bool b
 |.int i,u=>∃ t,u=Value.int i t
 |.str x,u=>∃ t,u=Value.str x t
 |.byt b,u=>∃ t,u=Value.bytes b t
 |.flt b,u=>∃ t,u=Value.float b t
 |.ref a,u=>u=Value.ref a
 |.ty n,u=>u=Value.type n
abbrev zbe:List V->List Value->Prop:=Paired zcj
theorem zbe.length{xs:List V}{us:List Value}(r:zbe xs us):xs.length=us.length:=Paired.length r
theorem zbe.get:∀{xs:List V}{us:List Value}{i:Nat}{x:V},zbe xs us->xs[i]? = some x->∃ u,us[i]? = some u/\zcj x u
 |_,_,_,_,.nil,e=>by simp at e
 |_,_,0,_,.cons r _,e=>by simp at e;subst e;exact ⟨_,rfl,r⟩
 |_,_,i+1,x,.cons _ t,e=>by
  obtain ⟨u,h1,h2⟩:=zbe.get (i:=i) (x:=x) t (by simpa using e)
  exact ⟨u,by simpa using h1,h2⟩
theorem zbe.set{x:V}{u:Value}(r:zcj x u):∀{xs:List V}{us:List Value}(i:Nat),zbe xs us->zbe (xs.set i x) (us.set i u)
 |_,_,_,.nil=>.nil
 |_,_,0,.cons _ t=>.cons r t
 |_,_,i+1,.cons q t=>.cons q (zbe.set r i t)
theorem zbe.append:∀{xs ys:List V}{us ws:List Value},zbe xs us->zbe ys ws->zbe (xs++ys) (us++ws)
 |_,_,_,_,.nil,s=>s
 |_,_,_,_,.cons r t,s=>.cons r (zbe.append t s)
theorem zbe.take:∀{xs:List V}{us:List Value}(n:Nat),zbe xs us->zbe (xs.take n) (us.take n)
 |_,_,0,_=>.nil
 |_,_,_+1,.nil=>.nil
 |_,_,n+1,.cons r t=>.cons r (zbe.take n t)
theorem zbe.drop:∀{xs:List V}{us:List Value}(n:Nat),zbe xs us->zbe (xs.drop n) (us.drop n)
 |_,_,0,r=>r
 |_,_,_+1,.nil=>.nil
 |_,_,n+1,.cons _ t=>zbe.drop n t
def RelO:Option V->Option Value->Prop
 |some v,some u=>zcj v u
 |none,none=>True
 |_,_=>False
def KV{κ:Type}:List (κ×V)->List (κ×Value)->Prop:=Paired fun (p:κ×V) (q:κ×Value)=>p.1=q.1/\zcj p.2 q.2
def kV:Key->V
 |.inl i=>.int i
 |.inr x=>.str x
inductive HO where
  |lst (xs:List V)
  |tup (xs:List V)
  |dK (kvs:List (Key×V))|dT (kvs:List (List Key×V))
  |set (S:Int->Bool) (n:Nat)
  |ins (C dx:Addr) (fs:List (Str×V))
  |own (x:Addr)
  |xd (fs:List (Str×V))
  |met (f x:Addr)
  |rng (lo hi:Int)
  |frz (o:Obj) (u:HO)
  |tbl (ps:Array Value)
  |ext (φ : Heap->Prop)
abbrev Hp:=Addr->Option HO
def upd(H:Hp)(a:Addr)(o:HO):Hp:=fun b=>if b=a then some o else H b
theorem zaj{H:Hp}{a:Addr}{o:HO}:upd H a o a=some o:=by unfold upd;rw[if_pos rfl]
theorem zaf{H:Hp}{a b:Addr}{o:HO}(h:b≠a):upd H a o b=H b:=by unfold upd;rw[if_neg h]
theorem zah{H:Hp}{a b:Addr}{o:HO}(h:H a=some o)(h':H b=none):a≠b:=by
 intro e;subst e;rw[h] at h';cases h'
section
variable(P:Program)(w:World)
def zc4(H:Hp)(h:Heap)(a:Addr):HO->Prop
 |.lst xs=>xs.length<=sizeLine/\∃(its:List Value)(n:Nat),zbe xs its/\h.get? a=some { cls:=.type "list",data:=.seq its.toArray n }
 |.tup xs=>xs.length<=sizeLine/\∃ its:List Value,zbe xs its/\∃ n,h.get? a=some { cls:=.type "tuple",data:=.seq its.toArray n }
 |.dK kvs=>kvs.length<=sizeLine/\(a == sysModules)=false/\∃ vs,KV kvs vs/\h.DictOf (zio P w) a vs
 |.dT kvs=>kvs.length<=sizeLine/\(a == sysModules)=false/\∃ xs:List (List Key×Addr×Value),
   Paired (fun (p:List Key×V) (q:List Key×Addr×Value)=>p.1=q.1/\H q.2.1=some (.tup (p.1.map kV))/\zcj p.2 q.2.2) kvs xs /\
   ∃ o es ep,h.get? a=some o/\o.ExactDict/\o.data=.dict es ep/\es.toList=xs.map (entryOfKey (tupleKind (zio P w)))/\(xs.map (·.1)).Nodup
 |.set S n=>h.SetOf (intKind P w) a S n
 |.ins C dx fs=>H dx=some (.own a)/\fs.length<=1000/\dx≠a/\h.get? a=some (W.instObj C dx) /\
   ∃ mA,h.Ns1 dx mA/\(∀ f,RelO (fs.lookup f) (mA f))/\PySem.Within mA (fs.map (·.1))
 |.own _=>∃ o,h.get? a=some o
 |.xd fs=>∃ mA,h.Ns1 a mA/\∀ f,RelO (fs.lookup f) (mA f)
 |.rng lo hi=>∃ t u v,h.get? a=some { cls:=.type "range",data:=.fields #[.int lo t,.int hi u,.int 1 v] }
 |.frz o u=>h.get? a=some o/\zc4 H h a u
 |.tbl ps=>h.get? a=some { cls:=.none,data:=.fields ps }
 |.met f x=>h.get? a=some (W.methodObj (.ref f) (.ref x))
 |.ext φ => φ h/\(∃ o,h.get? a=some o)/\∀ h1 h2:Heap,φ h1->(∀ o,h1.get? a=some o->h2.get? a=some o)->φ h2
def HOk(H:Hp)(h:Heap):Prop:=∀ a o,H a=some o->zc4 P w H h a o
end
section
variable{P:Program}{w:World}{H H':Hp}{h h':Heap}{a:Addr}{o:HO}
theorem zc4.lt(x:zc4 P w H h a o):a<h.objs.size:=by
 cases o with
 |lst xs=>obtain ⟨_,_,_,_,e⟩:=x;exact Heap.lt_size e
 |tup xs=>obtain ⟨_,_,_,_,e⟩:=x;exact Heap.lt_size e
 |dK kvs=>obtain ⟨_,_,_,_,o,_,_,e,_⟩:=x;exact Heap.lt_size e
 |dT kvs=>obtain ⟨_,_,_,_,o,_,_,e,_⟩:=x;exact Heap.lt_size e
 |set S n=>obtain ⟨o,_,_,_,e,_⟩:=x;exact Heap.lt_size e
 |ins C dx fs=>obtain ⟨_,_,_,e,_⟩:=x;exact Heap.lt_size e
 |own y=>obtain ⟨_,e⟩:=x;exact Heap.lt_size e
 |xd fs=>obtain ⟨_,⟨_,_,_,e,_⟩,_⟩:=x;exact Heap.lt_size e
 |rng lo hi=>obtain ⟨_,_,_,e⟩:=x;exact Heap.lt_size e
 |frz ob u=>obtain ⟨e,_⟩:=x;exact Heap.lt_size e
 |tbl ps=>exact Heap.lt_size (show h.get? a=some _ from x)
 |met f y=>exact Heap.lt_size (show h.get? a=some _ from x)
 |ext φ => obtain ⟨_,⟨_,e⟩,_⟩:=x;exact Heap.lt_size e
theorem Paired.mapP{α β:Type}{F G:α->β->Prop}:∀{l₁:List α}{l₂:List β},Paired F l₁ l₂->(∀ a b,F a b->G a b)->Paired G l₁ l₂
 |_,_,.nil,_=>.nil
 |_,_,.cons r t,f=>.cons (f _ _ r) (Paired.mapP t f)
theorem zc4.stay(x:zc4 P w H h a o)(k:∀ b u,(b=a\/H b=some (.own a))->h.get? b=some u->h'.get? b=some u)
  (ho:∀ b,H b=some (.own a)->H' b=some (.own a)) (ht:∀ b xs,H b=some (.tup xs)->H' b=some (.tup xs)):zc4 P w H' h' a o:=by
 induction o with
 |lst xs=>obtain ⟨z,its,n,r,e⟩:=x;exact ⟨z,its,n,r,k _ _ (.inl rfl) e⟩
 |tup xs=>obtain ⟨z,its,r,n,e⟩:=x;exact ⟨z,its,r,n,k _ _ (.inl rfl) e⟩
 |dK kvs=>obtain ⟨z,y,vs,r,ob,es,ep,e,c⟩:=x;exact ⟨z,y,vs,r,ob,es,ep,k _ _ (.inl rfl) e,c⟩
 |dT kvs =>
  obtain ⟨z,y,xs,r,ob,es,ep,e,c⟩:=x
  exact ⟨z,y,xs,Paired.mapP r fun p q z=>⟨z.1,ht _ _ z.2.1,z.2.2⟩,ob,es,ep,k _ _ (.inl rfl) e,c⟩
 |set S n=>obtain ⟨ob,es,ep,t,e,c⟩:=x;exact ⟨ob,es,ep,t,k _ _ (.inl rfl) e,c⟩
 |ins C dx fs =>
  obtain ⟨d,z,ne,e,mA,⟨od,es,ep,e2,c⟩,r⟩:=x
  exact ⟨ho _ d,z,ne,k _ _ (.inl rfl) e,mA,⟨od,es,ep,k _ _ (.inr d) e2,c⟩,r⟩
 |own y=>obtain ⟨ob,e⟩:=x;exact ⟨ob,k _ _ (.inl rfl) e⟩
 |xd fs=>obtain ⟨mA,⟨od,es,ep,e,c⟩,r⟩:=x;exact ⟨mA,⟨od,es,ep,k _ _ (.inl rfl) e,c⟩,r⟩
 |rng lo hi=>obtain ⟨t,u,v,e⟩:=x;exact ⟨t,u,v,k _ _ (.inl rfl) e⟩
 |frz ob u ih=>obtain ⟨e,q⟩:=x;exact ⟨k _ _ (.inl rfl) e,ih q⟩
 |tbl ps =>
  have e:h.get? a=some { cls:=.none,data:=.fields ps }:=x
  show h'.get? a=some { cls:=.none,data:=.fields ps }
  exact k a _ (.inl rfl) e
 |met f y =>
  have e:h.get? a=some (W.methodObj (.ref f) (.ref y)):=x
  show h'.get? a=some (W.methodObj (.ref f) (.ref y))
  exact k a _ (.inl rfl) e
 |ext φ => obtain ⟨p,⟨o,e⟩,st⟩:=x;exact ⟨st _ _ p fun o q=>k _ _ (.inl rfl) q,⟨o,k _ _ (.inl rfl) e⟩,st⟩
theorem HOk.lt(x:HOk P w H h)(e:H a=some o):a<h.objs.size:=(x a o e).lt
theorem HOk.fresh(x:HOk P w H h)(e:h.objs.size<=a):H a=none:=by
 cases q:H a with
 |none=>rfl
 |some u=>exact absurd (Nat.lt_of_lt_of_le (x.lt q) e) (Nat.lt_irrefl _)
theorem HOk.kept(x:HOk P w H h)(k:∀ b u,h.get? b=some u->h'.get? b=some u):HOk P w H h':=fun a o e =>
 (x a o e).stay (fun b u _ q=>k b u q) (fun _ q=>q) fun _ _ q=>q
theorem HOk.laid(x:HOk P w H h)(k:∀ b u,h.get? b=some u->h'.get? b=some u)(hp:h.objs.size<=a)(new:zc4 P w (upd H a o) h' a o):HOk P w (upd H a o) h':=fun b u e=>by
 have hn:=x.fresh hp
 by_cases hb:b=a
 ·subst hb;rw[zaj] at e;cases e;exact new
 ·rw[zaf hb] at e
  exact (x b u e).stay (fun c v _ q=>k c v q) (fun c q=>by rw[zaf (zah q hn)];exact q) fun c xs q=>by rw[zaf (zah q hn)];exact q
end
def Rd(H:Hp)(a:Addr)(u:HO):Prop:=H a=some u\/∃ o,H a=some (.frz o u)
theorem Rd.of{H:Hp}{a:Addr}{u:HO}(h:H a=some u):Rd H a u:=.inl h
theorem Rd.ok{P:Program}{w:World}{H:Hp}{h:Heap}{a:Addr}{u:HO}(r:Rd H a u)(x:HOk P w H h):zc4 P w H h a u:=by
 rcases r with r|⟨o,r⟩
 ·exact x a u r
 ·obtain ⟨_,q⟩:=x a _ r
  exact q
def Mut:Option HO->Prop
 |some (.lst _)=>True
 |some (.dK _)=>True
 |some (.dT _)=>True
 |some (.set _ _)=>True
 |some (.ins _ _ _)=>True
 |some (.ext _)=>True
 |_=>False
section
variable{P:Program}{w:World}{H:Hp}{h h':Heap}{x e:Addr}{o':HO}
theorem HOk.write(ok:HOk P w H h)(mu:Mut (H x))(he:e=x\/H e=some (.own x))(k:∀ b u,b≠e->h.get? b=some u->h'.get? b=some u)(heo:∃ u,h'.get? e=some u)
  (new:zc4 P w (upd H x o') h' x o'):HOk P w (upd H x o') h':=fun b u q=>by
 have nown:∀ c y,H c=some (.own y)->c≠x:=fun c y r z=>by subst z;rw[r] at mu;exact mu
 have ntup:∀ c xs,H c=some (.tup xs)->c≠x:=fun c xs r z=>by subst z;rw[r] at mu;exact mu
 by_cases hb:b=x
 ·subst hb;rw[zaj] at q;cases q;exact new
 ·rw[zaf hb] at q
  by_cases hbe:b=e
  ·have q':H b=some (.own x):=by
    rcases he with z|z
    ·exact absurd (hbe.trans z) hb
    ·rw[hbe];exact z
   rw[q] at q';cases q'
   obtain ⟨v,hv⟩:=heo
   exact ⟨v,by rw[hbe];exact hv⟩
  ·refine (ok b u q).stay (fun c v hc r=>k c v ?_ r) (fun c r=>by rw[zaf (nown c b r)];exact r) fun c xs r=>by rw[zaf (ntup c xs r)];exact r
   rcases hc with rfl|hc
   ·exact hbe
   ·rintro rfl
    rcases he with z|z
    ·exact nown c b hc z
    ·rw[hc] at z;cases z;exact hb rfl
end
structure Un(fs ex:List Addr)(H H':Hp)(h h':Heap):Prop where
 keep:∀ b o,h.get? b=some o->H b=none->b∉fs->b∉ex->h'.get? b=some o
 slot:∀ b o,h.get? b=some o->H b=none->b∈fs->b∉ex->∃ sl,h'.get? b=some { o with slots:=sl }
 free:∀ b o,h.get? b=some o->H b=none->b∉ex->H' b=none
 there:∀ b o,h.get? b=some o->b∉ex->∃ o',h'.get? b=some o'
 tups:∀ b xs,H b=some (.tup xs)->H' b=some (.tup xs)
 frzs:∀ b o u,H b=some (.frz o u)->H' b=some (.frz o u)
 tbls:∀ b ps,H b=some (.tbl ps)->∃ more,H' b=some (.tbl (ps++more))
section
variable{fs fs' ex ex':List Addr}{H H1 H2:Hp}{h h1 h2 h':Heap}{a x e:Addr}{o:HO}
theorem Un.any(u:Un fs ex H H1 h h1){b:Addr}{ob:Obj}(q:h.get? b=some ob)(n:H b=none)(hx:b∉ex):∃ sl,h1.get? b=some { ob with slots:=sl }:=by
 by_cases hb:b∈fs
 ·exact u.slot b ob q n hb hx
 ·exact ⟨ob.slots,u.keep b ob q n hb hx⟩
theorem Un.trans(a:Un fs ex H H1 h h1)(b:Un fs ex H1 H2 h1 h2):Un fs ex H H2 h h2 where
 keep:=fun c ob q n hc hx=>b.keep c ob (a.keep c ob q n hc hx) (a.free c ob q n hx) hc hx
 slot:=fun c ob q n hc hx=>by
  obtain ⟨sl,e1⟩:=a.slot c ob q n hc hx
  obtain ⟨sl',e2⟩:=b.slot c _ e1 (a.free c ob q n hx) hc hx
  exact ⟨sl',e2⟩
 free:=fun c ob q n hx=>by
  obtain ⟨o',e1⟩:=a.there c ob q hx
  exact b.free c o' e1 (a.free c ob q n hx) hx
 there:=fun c ob q hx=>by
  obtain ⟨o',e1⟩:=a.there c ob q hx
  exact b.there c o' e1 hx
 tups:=fun c xs q=>b.tups c xs (a.tups c xs q)
 frzs:=fun c ob xs q=>b.frzs c ob xs (a.frzs c ob xs q)
 tbls:=fun c ps q=>by
  obtain ⟨m1,e1⟩:=a.tbls c ps q
  obtain ⟨m2,e2⟩:=b.tbls c _ e1
  exact ⟨m1++m2,by rw[e2,Array.append_assoc]⟩
theorem Un.kept(k:∀ b u,h.get? b=some u->h'.get? b=some u):Un fs ex H H h h' :=
 ⟨fun b ob q _ _ _=>k b ob q,fun b ob q _ _ _=>⟨ob.slots,k b ob q⟩,fun _ _ _ n _=>n,fun b ob q _=>⟨ob,k b ob q⟩,fun _ _ q=>q,fun _ _ _ q=>q,fun _ ps q=>⟨#[],by rw[q];simp⟩⟩
theorem Un.refl:Un fs ex H H h h:=Un.kept fun _ _ q=>q
theorem Un.laid(k:∀ b u,h.get? b=some u->h'.get? b=some u)(hp:h.objs.size<=a)(hn:H a=none):Un fs ex H (upd H a o) h h' where
 keep:=fun b u q _ _ _=>k b u q
 slot:=fun b u q _ _ _=>⟨u.slots,k b u q⟩
 free:=fun b u q n _=>by rw[zaf (Nat.ne_of_lt (Nat.lt_of_lt_of_le (Heap.lt_size q) hp))];exact n
 there:=fun b u q _=>⟨u,k b u q⟩
 tups:=fun b xs q=>by rw[zaf (zah q hn)];exact q
 frzs:=fun b u xs q=>by rw[zaf (zah q hn)];exact q
 tbls:=fun b ps q=>⟨#[],by rw[zaf (zah q hn),q];simp⟩
theorem Un.write(mu:Mut (H x))(he:e=x\/H e=some (.own x))(k:∀ b u,b≠e->h.get? b=some u->h'.get? b=some u)(heo:∃ u,h'.get? e=some u):Un fs ex H (upd H x o) h h':=by
 have hx:∀ b,H b=none->b≠x:=fun b n z=>by subst z;rw[n] at mu;exact mu
 have hb:∀ b,H b=none->b≠e:=fun b n z=>by
  subst z
  rcases he with r|r
  ·exact hx b n r
  ·rw[n] at r;cases r
 have hm:∀ b u,H b=some u->¬ Mut (some u)->b≠x:=fun b u q nm z=>by subst z;rw[q] at mu;exact nm mu
 refine ⟨fun b u q n _ _=>k b u (hb b n) q,fun b u q n _ _=>⟨u.slots,k b u (hb b n) q⟩,fun b u q n _=>by rw[zaf (hx b n)];exact n,fun b u q _=>?_,
  fun b xs q=>by rw[zaf (hm b _ q fun z=>z)];exact q,fun b u xs q=>by rw[zaf (hm b _ q fun z=>z)];exact q,fun b ps q=>⟨#[],by rw[zaf (hm b _ q fun z=>z),q];simp⟩⟩
 by_cases hbe:b=e
 ·subst hbe;exact heo
 ·exact ⟨u,k b u hbe q⟩
theorem Un.mono(u:Un fs ex H H1 h h1)(hs:∀ b∈fs,b∈fs')(hx:∀ b∈ex,b∈ex'):Un fs' ex' H H1 h h1 :=
 ⟨fun b ob q n hb he=>u.keep b ob q n (fun z=>hb (hs b z)) fun z=>he (hx b z),fun _ _ q n _ he=>u.any q n fun z=>he (hx _ z),fun b ob q n he=>u.free b ob q n fun z=>he (hx b z),fun b ob q he=>u.there b ob q fun z=>he (hx b z),u.tups,u.frzs,u.tbls⟩
end
def trk(h:Heap)(H:Hp):List Addr:=(List.range h.objs.size).filter fun a=>(H a).isSome
def zoL(h:Heap)(H:Hp):Heap:=W.hideAll h (trk h H)
theorem znr(h:Heap)(H:Hp):(zoL h H).objs.size=h.objs.size:=W.hideAll_size _ _
theorem zpZ{h:Heap}{H:Hp}{b:Addr}{o:Obj}(e:h.get? b=some o)(n:H b=none):(zoL h H).get? b=some o :=
 W.hideAll_get _ e fun hm=>by
  have q:(H b).isSome=true:=(List.mem_filter.mp hm).2
  rw[n] at q;simp at q
theorem zqE{h:Heap}{H:Hp}{b:Addr}{o:Obj}(e:(zoL h H).get? b=some o):h.get? b=some o/\H b=none:=by
 have e':h.get? b=some o:=W.of_hideAll (trk h H) e
 refine ⟨e',?_⟩
 cases q:H b with
 |none=>rfl
 |some x =>
  have hm:b∈trk h H:=List.mem_filter.mpr ⟨List.mem_range.mpr (Heap.lt_size e'),by simp[q]⟩
  have z:(zoL h H).get? b=none:=W.hideAll_none (trk h H) hm
  rw[z] at e;cases e
def zrd(g h:Heap)(L:Addr):List (Addr×Obj):=(List.range h.objs.size).filterMap fun a=>if a=L\/(g.get? a).isSome=true then none else (h.get? a).map fun o=>(a,o)
def zbr(g h:Heap)(L d:Addr):List (Addr×Obj):=(zrd g h L).filter fun p=>decide (p.1≠d)
end L2
namespace L2
open PySem PySem.Spec PyProof.Rows
structure Mod(K:W.Frag)(mg:Str->Option Value)(base:Heap):Prop where
 kin:K.In base
 glob:base.Ns mainGlobals mg
 blt:∃ mb,base.Ns builtinsNs mb/\∀ x:Str,x≠"__name__"->mb x=bootBuiltins x
 nolimit:base.NoLimit
structure Cx where
 prog:Program
 w:World
 K:W.Frag
 mg:Str->Option Value
 base:Heap
 A:Around
 N:List Str
 s₀:Shared
 H₀:Hp
 env:Env
 outer:List Env
 stack:List Env
 ex:List Addr
 fn:Str->Bool
 calm:Bool
 pn:List (Addr×Obj)
 xe:Value->Shared->Prop
def frs(l:List Env):List Addr:=l.filterMap (·.frame)
abbrev Cx.fs(X:Cx):List Addr:=frs X.outer
def Vis(sc:Scope)(x:Str):Prop:=sc.names.lookup x=some .local\/sc.names.lookup x=some .cell\/sc.names.lookup x=some .free
def Loc(sc:Scope)(x:Str):Prop:=sc.names.lookup x=some .local\/sc.names.lookup x=some .cell
def Look(env:Env)(h:Heap)(m:Str->Option Value)(x:Str)(u:Value):Prop :=
 (env.kindOf x=some .local/\m x=some u)\/((env.kindOf x=some .cell\/env.kindOf x=some .free)/\∃ c,env.cells.lookup x=some c/\h.IsCell c (some u))
structure Cx.Ok(X:Cx):Prop where
 mod:Mod X.K X.mg X.base
 kind:X.env.scope.kind=.function
 glob:X.env.globals=mainGlobals
 blt:X.env.builtins=builtinsNs
 above:X.s₀.heap.objs.size<=X.env.locals
 inj:∀ x y c,X.env.cells.lookup x=some c->X.env.cells.lookup y=some c->x=y
 has:∀ x,(X.env.kindOf x=some .cell\/X.env.kindOf x=some .free)->∃ c,X.env.cells.lookup x=some c
 cab:∀ x c,X.fn x=true->X.env.cells.lookup x=some c->X.s₀.heap.objs.size<=c
 hd:X.calm=true->X.A.handled=none
 frames:X.A.frames=some X.stack
 stk:X.stack=X.outer\/(X.stack=X.env::X.outer/\X.env.frame=some X.env.locals)
 exf:∀ b∈X.ex,b≠X.env.locals/\∀ x c,X.env.cells.lookup x=some c->c≠b
 bs:∀ b o,X.base.get? b=some o->X.s₀.heap.get? b=some o/\X.H₀ b=none
 bsz:X.base.objs.size<=X.s₀.heap.objs.size
 noex:∀ b o,X.base.get? b=some o->b∉X.ex
 exfs:∀ b∈X.ex,b∉X.fs
 funs:X.s₀.heap.FunFrames X.base X.outer
 frf:∀ b∈X.fs,X.H₀ b=none
structure Inv(X:Cx)(pins:List (Addr×Obj))(σ:List (Option V))(H:Hp)(s:Shared):Prop where
 ok:X.Ok
 os:s.os=X.s₀.os
 bare:AllBare s.gens
 base:Un X.fs X.ex X.H₀ H X.s₀.heap s.heap
 loc:∃ m,s.heap.Ns X.env.locals m/\∀(i:Nat)(x:Str)(v:V),X.N[i]? = some x->σ[i]? = some (some v)->Vis X.env.scope x->∃ u,zcj v u/\Look X.env s.heap m x u
 cell:∀ x c,X.env.cells.lookup x=some c->∃ v,s.heap.IsCell c v
 free:H X.env.locals=none
 freeC:∀ x c,X.env.cells.lookup x=some c->H c=none
 pin:∀ p∈X.pn++pins,s.heap.get? p.1=some p.2/\H p.1=none/\p.1≠X.env.locals/\p.1∉X.fs/\∀ v,p.2.data≠.cell v
 hok:HOk X.prog X.w H s.heap
 len:σ.length=X.N.length
section
variable{X:Cx}{pins:List (Addr×Obj)}{σ:List (Option V)}{H H':Hp}{s:Shared}{h':Heap}
theorem Cx.Ok.nofr(ok:X.Ok){b:Addr}{o:Obj}(e:X.base.get? b=some o):b∉X.fs:=fun hb=>by
 have:=(ok.funs.mem hb).1
 rw[e] at this;cases this
theorem Inv.bs(I:Inv X pins σ H s):∀ b o,X.base.get? b=some o->s.heap.get? b=some o/\H b=none:=fun b o e =>
 ⟨I.base.keep b o (I.ok.bs b o e).1 (I.ok.bs b o e).2 (I.ok.nofr e) (I.ok.noex b o e),I.base.free b o (I.ok.bs b o e).1 (I.ok.bs b o e).2 (I.ok.noex b o e)⟩
theorem Inv.bk(I:Inv X pins σ H s):∀ b o,X.base.get? b=some o->s.heap.get? b=some o:=fun b o e=>(I.bs b o e).1
theorem Inv.mod(I:Inv X pins σ H s):Mod X.K X.mg X.base:=I.ok.mod
theorem Inv.kIn(I:Inv X pins σ H s):X.K.In s.heap:=I.ok.mod.kin.keeps I.bk
theorem Inv.nolimit(I:Inv X pins σ H s):s.heap.NoLimit:=I.ok.mod.nolimit.keeps I.bk
theorem Inv.fr(I:Inv X pins σ H s):∃ m,Fr X.base X.env.locals s.heap m :=
 let ⟨m,hn,_⟩:=I.loc
 ⟨m,hn,I.bk,Nat.le_trans I.ok.bsz I.ok.above⟩
theorem Inv.lt(I:Inv X pins σ H s):X.env.locals<s.heap.objs.size:=let ⟨_,hn,_⟩:=I.loc;hn.lt
theorem Inv.sz(I:Inv X pins σ H s):X.s₀.heap.objs.size<=s.heap.objs.size:=Nat.le_trans I.ok.above (Nat.le_of_lt I.lt)
theorem Inv.nofs(I:Inv X pins σ H s){a:Addr}(h:s.heap.objs.size<=a):a∉X.fs:=fun hb=>by
 obtain ⟨_,o,ho,_⟩:=I.ok.funs.mem hb
 exact absurd (Nat.lt_of_lt_of_le (Heap.lt_size ho) (Nat.le_trans I.sz h)) (Nat.lt_irrefl _)
theorem Inv.cne(I:Inv X pins σ H s):∀ x c,X.env.cells.lookup x=some c->c≠X.env.locals:=fun x c e z=>by
 obtain ⟨v,o,ho,hd⟩:=I.cell x c e
 obtain ⟨m,⟨o',es,ep,ho',hd',_⟩,_⟩:=I.loc
 rw[z,ho'] at ho;cases ho;rw[hd'] at hd;cases hd
theorem Inv.funs(I:Inv X pins σ H s):s.heap.FunFrames X.base X.outer:=by
 have all:∀(l:List Env),(∀ b∈frs l,b∈X.fs)->X.s₀.heap.FunFrames X.base l->s.heap.FunFrames X.base l:=by
  intro l
  induction l with
  |nil=>intro _ _;trivial
  |cons env r ih =>
   intro hs hl
   obtain ⟨hk,⟨L,o,hf,hn,ho,hd⟩,hr⟩:=hl
   have hL:L∈X.fs:=hs L (by unfold frs;rw[List.filterMap_cons,hf];exact List.mem_cons_self)
   obtain ⟨sl,e⟩:=I.base.slot L o ho (I.ok.frf L hL) hL fun z=>I.ok.exfs L z hL
   exact ⟨hk,⟨L,_,hf,hn,e,hd⟩,ih (fun b hb=>hs b (by unfold frs;rw[List.filterMap_cons,hf];exact List.mem_cons_of_mem _ hb)) hr⟩
 exact all X.outer (fun _ hb=>hb) I.ok.funs
theorem Inv.stack(I:Inv X pins σ H s):s.heap.FunFrames X.base X.stack:=by
 rcases I.ok.stk with e|⟨e,hf⟩
 ·rw[e];exact I.funs
 ·rw[e]
  obtain ⟨m,hn,_⟩:=I.loc
  refine .cons (by rw[I.ok.kind];decide) hf hn ?_ I.funs
  exact Heap.get?_none_of_le (Nat.le_trans I.ok.bsz I.ok.above)
theorem Inv.stkSub(I:Inv X pins σ H s):∀ b∈frs X.stack,b∈X.env.locals::X.fs:=fun b hb=>by
 rcases I.ok.stk with e|⟨e,hf⟩
 ·rw[e] at hb;exact List.mem_cons_of_mem _ hb
 ·rw[e] at hb
  unfold frs at hb
  rw[List.filterMap_cons,hf] at hb
  exact hb
theorem Inv.stkFree(I:Inv X pins σ H s):∀ b∈frs X.stack,H b=none:=fun b hb=>by
 rcases List.mem_cons.mp (I.stkSub b hb) with e|hb
 ·rw[e];exact I.free
 ·obtain ⟨_,o,ho,_⟩:=I.ok.funs.mem hb
  exact I.base.free b o ho (I.ok.frf b hb) fun z=>I.ok.exfs b z hb
theorem Inv.step{g':Array GenState}{t':Nat}{d':Drawn}{ch:List Addr}(I:Inv X pins σ H s)
  (hch:∀ b∈ch,(b∈X.ex\/X.s₀.heap.objs.size<=b)/\b≠X.env.locals/\(∀ x c,X.env.cells.lookup x=some c->c≠b)/\∀ p∈X.pn++pins,p.1≠b)
  (keep:∀ b o,b≠X.env.locals->b∉X.fs->b∉ch->s.heap.get? b=some o->H b=none->h'.get? b=some o)
  (slot:∀ b o,b≠X.env.locals->b∈X.fs->b∉ch->s.heap.get? b=some o->H b=none->∃ sl,h'.get? b=some { o with slots:=sl }) (free:∀ b o,b∉ch->s.heap.get? b=some o->H b=none->H' b=none)
  (there:∀ b o,b∉ch->s.heap.get? b=some o->∃ o',h'.get? b=some o')
  (tups:∀ b xs,H b=some (.tup xs)->H' b=some (.tup xs)) (frzs:∀ b o u,H b=some (.frz o u)->H' b=some (.frz o u)) (tbls:∀ b ps,H b=some (.tbl ps)->∃ more,H' b=some (.tbl (ps++more)))
  (ns:∀ m,s.heap.Ns X.env.locals m->h'.Ns X.env.locals m) (hok:HOk X.prog X.w H' h') (hg:AllBare g') :
  Inv X pins σ H' { s with heap:=h',gens:=g',drawn:=d',toks:=t' }:=by
 have neL:∀ b o,X.s₀.heap.get? b=some o->b≠X.env.locals:=fun b o e=>Nat.ne_of_lt (Nat.lt_of_lt_of_le (Heap.lt_size e) I.ok.above)
 have neC:∀ b o,X.s₀.heap.get? b=some o->b∉X.ex->b∉ch:=fun b o e hx hb=>by
  rcases (hch b hb).1 with z|z
  ·exact hx z
  ·exact absurd (Nat.lt_of_lt_of_le (Heap.lt_size e) z) (Nat.lt_irrefl _)
 have cellK:∀ x c,X.env.cells.lookup x=some c->∀ v,s.heap.IsCell c v->h'.IsCell c v:=fun x c e v ⟨o,ho,hd⟩=>by
  have nch:c∉ch:=fun z=>(hch c z).2.2.1 x c e rfl
  by_cases hc:c∈X.fs
  ·obtain ⟨sl,q⟩:=slot c o (I.cne x c e) hc nch ho (I.freeC x c e)
   exact ⟨_,q,hd⟩
  ·exact ⟨o,keep c o (I.cne x c e) hc nch ho (I.freeC x c e),hd⟩
 refine ⟨I.ok,I.os,hg,⟨fun b o e n hb hx=>?_,fun b o e n hb hx=>?_,fun b o e n hx=>?_,fun b o e hx=>?_,fun b xs e=>tups b xs (I.base.tups b xs e),fun b o xs e=>frzs b o xs (I.base.frzs b o xs e),fun b ps e=>?_⟩,?_,fun x c e=>?_,?_,fun x c e=>?_,fun p hp=>?_,hok,I.len⟩
 ·exact keep b o (neL b o e) hb (neC b o e hx) (I.base.keep b o e n hb hx) (I.base.free b o e n hx)
 ·obtain ⟨sl,e1⟩:=I.base.slot b o e n hb hx
  obtain ⟨sl',e2⟩:=slot b _ (neL b o e) hb (neC b o e hx) e1 (I.base.free b o e n hx)
  exact ⟨sl',e2⟩
 ·obtain ⟨o',e1⟩:=I.base.there b o e hx
  exact free b o' (neC b o e hx) e1 (I.base.free b o e n hx)
 ·obtain ⟨o',e1⟩:=I.base.there b o e hx
  exact there b o' (neC b o e hx) e1
 ·obtain ⟨m1,e1⟩:=I.base.tbls b ps e
  obtain ⟨m2,e2⟩:=tbls b _ e1
  exact ⟨m1++m2,by rw[e2,Array.append_assoc]⟩
 ·obtain ⟨m,hn,hl⟩:=I.loc
  refine ⟨m,ns m hn,fun i x v e1 e2 e3=>?_⟩
  obtain ⟨u,r,l⟩:=hl i x v e1 e2 e3
  refine ⟨u,r,?_⟩
  rcases l with l|⟨k,c,e,z⟩
  ·exact .inl l
  ·exact .inr ⟨k,c,e,cellK x c e _ z⟩
 ·obtain ⟨v,z⟩:=I.cell x c e
  exact ⟨v,cellK x c e v z⟩
 ·obtain ⟨m,⟨o,_,_,ho,_⟩,_⟩:=I.loc
  exact free _ o (fun z=>(hch _ z).2.1 rfl) ho I.free
 ·obtain ⟨v,o,ho,hd⟩:=I.cell x c e
  exact free c o (fun z=>(hch c z).2.2.1 x c e rfl) ho (I.freeC x c e)
 ·obtain ⟨e,n,ne,nf,d⟩:=I.pin p hp
  have nch:p.1∉ch:=fun z=>(hch p.1 z).2.2.2 p hp rfl
  exact ⟨keep p.1 p.2 ne nf nch e n,free p.1 p.2 nch e n,ne,nf,d⟩
theorem Inv.un{t':Nat}(I:Inv X pins σ H s)(u:Un X.fs [] H H' s.heap h')(hok:HOk X.prog X.w H' h'):Inv X pins σ H' { s with heap:=h',toks:=t' }:=by
 obtain ⟨m,⟨o,es,ep,ho,r⟩,_⟩:=id I.loc
 obtain ⟨sl,hL⟩:=u.any ho I.free (by simp)
 exact I.step (g':=s.gens) (d':=s.drawn) (ch:=[]) (fun _ z=>nomatch z) (fun b o _ hb _ e n=>u.keep b o e n hb (by simp)) (fun b o _ hb _ e n=>u.slot b o e n hb (by simp)) (fun b o _ e n=>u.free b o e n (by simp)) (fun b o _ e=>u.there b o e (by simp)) u.tups u.frzs u.tbls (fun m' hm=>by
  obtain ⟨o',es',ep',ho',r'⟩:=hm
  rw[ho] at ho';cases ho'
  exact ⟨_,es',ep',hL,r'⟩) hok I.bare
theorem Inv.call{g':Array GenState}{t':Nat}{d':Drawn}{ch:List Addr}(I:Inv X pins σ H s)(u:Un (frs X.stack) ch H H' s.heap h')(hok:HOk X.prog X.w H' h')(hg:AllBare g')
  (hch:∀ b∈ch,(b∈X.ex\/X.s₀.heap.objs.size<=b)/\b≠X.env.locals/\(∀ x c,X.env.cells.lookup x=some c->c≠b)/\∀ p∈X.pn++pins,p.1≠b) :
  Inv X pins σ H' { s with heap:=h',gens:=g',drawn:=d',toks:=t' }:=by
 obtain ⟨m,⟨o,es,ep,ho,r⟩,_⟩:=id I.loc
 obtain ⟨sl,hL⟩:=u.any ho I.free fun z=>(hch _ z).2.1 rfl
 exact I.step (ch:=ch) hch (fun b o hL hb hc e n=>u.keep b o e n (fun z=>(List.mem_cons.mp (I.stkSub b z)).elim hL hb) hc) (fun b o _ _ hc e n=>u.any e n hc) (fun b o hc e n=>u.free b o e n hc) (fun b o hc e=>u.there b o e hc) u.tups u.frzs u.tbls (fun m' hm=>by
  obtain ⟨o',es',ep',ho',r'⟩:=hm
  rw[ho] at ho';cases ho'
  exact ⟨_,es',ep',hL,r'⟩) hok hg
theorem Inv.turned{t':Nat}{it:Addr}(I:Inv X pins σ H s)(k:∀ b o,b≠it->s.heap.get? b=some o->h'.get? b=some o)(hn:H it=none)(hL:it≠X.env.locals)
  (h1:it∈X.ex\/X.s₀.heap.objs.size<=it) (h2:∀ x c,X.env.cells.lookup x=some c->c≠it) (h3:∀ p∈X.pn++pins,p.1≠it):Inv X pins σ H { s with heap:=h',toks:=t' }:=by
 have nit:∀ b u,H b=some u->b≠it:=fun b u e z=>by rw[z,hn] at e;cases e
 refine I.step (g':=s.gens) (d':=s.drawn) (ch:=[it]) (fun b hb=>?_) (fun b o _ _ hc e _=>k b o (fun z=>hc (by simp[z])) e) (fun b o _ _ hc e _=>⟨o.slots,k b o (fun z=>hc (by simp[z])) e⟩) (fun _ _ _ _ n=>n)
  (fun b o hc e=>⟨o,k b o (fun z=>hc (by simp[z])) e⟩) (fun _ _ e=>e) (fun _ _ _ e=>e) (fun b ps e=>⟨#[],by rw[e];simp⟩) (fun m hm=>?_) (fun b u e=>?_) I.bare
 ·have e:b=it:=by simpa using hb
  subst e
  exact ⟨h1,hL,h2,h3⟩
 ·obtain ⟨o,es,ep,ho,r⟩:=hm
  exact ⟨o,es,ep,k _ o (Ne.symm hL) ho,r⟩
 ·refine (I.hok b u e).stay (fun c v hc q=>k c v ?_ q) (fun _ q=>q) fun _ _ q=>q
  rcases hc with z|z
  ·rw[z];exact nit b u e
  ·exact nit c _ z
theorem Inv.tok(I:Inv X pins σ H s)(t:Nat):Inv X pins σ H { s with toks:=t }:=I.un (h':=s.heap) (t':=t) Un.refl I.hok
theorem Inv.kept{t':Nat}(I:Inv X pins σ H s)(k:∀ b u,s.heap.get? b=some u->h'.get? b=some u):Inv X pins σ H { s with heap:=h',toks:=t' }:=I.un (Un.kept k) (I.hok.kept k)
theorem Inv.laid{a:Addr}{o:HO}{t':Nat}(I:Inv X pins σ H s)(k:∀ b u,s.heap.get? b=some u->h'.get? b=some u)(hp:s.heap.objs.size<=a)(new:zc4 X.prog X.w (upd H a o) h' a o) :
  Inv X pins σ (upd H a o) { s with heap:=h',toks:=t' }:=I.un (Un.laid k hp (I.hok.fresh hp)) (I.hok.laid k hp new)
theorem Inv.write{x e:Addr}{o:HO}{t':Nat}(I:Inv X pins σ H s)(mu:Mut (H x))(he:e=x\/H e=some (.own x))(k:∀ b u,b≠e->s.heap.get? b=some u->h'.get? b=some u)(heo:∃ u,h'.get? e=some u)
  (new:zc4 X.prog X.w (upd H x o) h' x o):Inv X pins σ (upd H x o) { s with heap:=h',toks:=t' }:=I.un (Un.write mu he k heo) (I.hok.write mu he k heo new)
theorem Inv.weak{σ':List (Option V)}(I:Inv X pins σ H s)(hl:σ'.length = σ.length)(w:∀(i:Nat) v,σ'[i]? = some (some v)->σ[i]? = some (some v)):Inv X pins σ' H s :=
 ⟨I.ok,I.os,I.bare,I.base,let ⟨m,hn,hl'⟩:=I.loc;⟨m,hn,fun i x v e1 e2 e3=>hl' i x v e1 (w i v e2) e3⟩,I.cell,I.free,I.freeC,I.pin,I.hok,hl.trans I.len⟩
theorem Inv.pins_of{pins':List (Addr×Obj)}(I:Inv X pins σ H s)(h:∀ p∈pins',s.heap.get? p.1=some p.2/\H p.1=none/\p.1≠X.env.locals/\p.1∉X.fs/\∀ v,p.2.data≠.cell v):Inv X pins' σ H s :=
 ⟨I.ok,I.os,I.bare,I.base,I.loc,I.cell,I.free,I.freeC,fun p hp=>(List.mem_append.mp hp).elim (fun z=>I.pin p (List.mem_append_left _ z)) (h p),I.hok,I.len⟩
theorem ziw{N:List Str}(hN:N.Nodup){i j:Nat}{x:Str}(a:N[i]? = some x)(b:N[j]? = some x):i=j:=by
 obtain ⟨h1,e1⟩:=List.getElem?_eq_some_iff.mp a
 obtain ⟨h2,e2⟩:=List.getElem?_eq_some_iff.mp b
 exact (List.getElem_inj hN).mp (e1.trans e2.symm)
theorem zhr{M:Model}{A:Around}{E:Value->Shared->Prop}{i:Nat}{x:Str}{v:V}{u:Value}{Q:Unit->Shared->Prop}(I:Inv X pins σ H s)(hN:X.N.Nodup)(hi:X.N[i]? = some x)(hx:Loc X.env.scope x)(r:zcj v u)
  (h:∀ s',Inv X pins (σ.set i (some v)) H s'->(∃ a,Heap.SameBut a s.heap s'.heap/\(a=X.env.locals\/X.env.cells.lookup x=some a))->Q () s') (hf:X.fn x=true\/X.env.scope.names.lookup x=some .local:=by first|exact .inl rfl|exact .inr rfl|assumption):wpAny M A (storeName X.env x u) Q E s:=by
 obtain ⟨m,hn,hl⟩:=id I.loc
 have hcls:(X.env.scope.kind == .class || (X.env.scope.kind == .module && X.env.locals != X.env.globals))=false:=by rw[I.ok.kind];rfl
 have hiσ:i < σ.length:=by rw[I.len];exact (List.getElem?_eq_some_iff.mp hi).1
 have cne:=I.cne
 have tracked:∀{a:Addr}{h':Heap},(∃ o,s.heap.get? a=some o/\H a=none)->Heap.SameBut a s.heap h'->HOk X.prog X.w H h':=fun {a h'} ha hs b ob e=>by
  obtain ⟨_,_,hfree⟩:=ha
  refine (I.hok b ob e).stay (fun c w' hc q=>(hs.2 c ?_).trans q) (fun _ q=>q) fun _ _ q=>q
  rintro rfl
  rcases hc with rfl|hc
  ·rw[hfree] at e;cases e
  ·rw[hfree] at hc;cases hc
 rcases hx with hk|hk
 ·refine wpAny_storeName_local hk hn (fun h' hn' hs=>?_) hcls
  obtain ⟨oL,_,_,hoL,_⟩:=id hn
  refine h _ ⟨I.ok,I.os,I.bare,⟨fun b o e n hb hx=>?_,fun b o e n hb hx=>?_,I.base.free,fun b o e hx=>?_,I.base.tups,I.base.frzs,I.base.tbls⟩,⟨_,hn',fun j y v' e1 e2 e3=>?_⟩,fun y c e=>?_,I.free,I.freeC,fun p hp=>?_,tracked ⟨oL,hoL,I.free⟩ hs,by simpa using I.len⟩ ⟨_,hs,.inl rfl⟩
  ·exact (hs.2 b (Nat.ne_of_lt (Nat.lt_of_lt_of_le (Heap.lt_size e) I.ok.above))).trans (I.base.keep b o e n hb hx)
  ·obtain ⟨sl,e1⟩:=I.base.slot b o e n hb hx
   exact ⟨sl,(hs.2 b (Nat.ne_of_lt (Nat.lt_of_lt_of_le (Heap.lt_size e) I.ok.above))).trans e1⟩
  ·obtain ⟨o',e1⟩:=I.base.there b o e hx
   exact ⟨o',(hs.2 b (Nat.ne_of_lt (Nat.lt_of_lt_of_le (Heap.lt_size e) I.ok.above))).trans e1⟩
  ·by_cases hj:j=i
   ·subst hj
    rw[hi] at e1;cases e1
    rw[List.getElem?_set_self hiσ] at e2
    cases e2
    exact ⟨u,r,.inl ⟨hk,by simp⟩⟩
   ·rw[List.getElem?_set_ne (Ne.symm hj)] at e2
    obtain ⟨u',r',q⟩:=hl j y v' e1 e2 e3
    refine ⟨u',r',?_⟩
    rcases q with ⟨k,e⟩|⟨k,c,e,z⟩
    ·refine .inl ⟨k,?_⟩
     have:y≠x:=fun e=>hj (ziw hN e1 (e ▸ hi))
     simp[this,e]
    ·exact .inr ⟨k,c,e,z.sameBut hs (cne y c e)⟩
  ·obtain ⟨w',z⟩:=I.cell y c e
   exact ⟨w',z.sameBut hs (cne y c e)⟩
  ·obtain ⟨e,n,ne,nf,d⟩:=I.pin p hp
   exact ⟨(hs.2 p.1 ne).trans e,n,ne,nf,d⟩
 ·have hfn:X.fn x=true:=by
   rcases hf with z|z
   ·exact z
   ·rw[z] at hk;cases hk
  obtain ⟨c,hc⟩:=I.ok.has x (.inl hk)
  obtain ⟨w',z⟩:=I.cell x c hc
  refine wpAny_storeName_cell I.ok.kind hk hc z (fun h' hc' hs=>?_)
  obtain ⟨oc,hoc,hocd⟩:=id z
  refine h { s with heap:=h' } ⟨I.ok,I.os,I.bare,⟨fun b o e n hb hx=>?_,fun b o e n hb hx=>?_,I.base.free,fun b o e hx=>?_,I.base.tups,I.base.frzs,I.base.tbls⟩,⟨m,hn.sameBut hs (Ne.symm (cne x c hc)),fun j y v' e1 e2 e3=>?_⟩,fun y c' e=>?_,I.free,I.freeC,fun p hp=>?_,tracked ⟨oc,hoc,I.freeC x c hc⟩ hs,by simpa using I.len⟩ ⟨c,hs,.inr hc⟩
  ·exact (hs.2 b (Nat.ne_of_lt (Nat.lt_of_lt_of_le (Heap.lt_size e) (I.ok.cab x c hfn hc)))).trans (I.base.keep b o e n hb hx)
  ·obtain ⟨sl,e1⟩:=I.base.slot b o e n hb hx
   exact ⟨sl,(hs.2 b (Nat.ne_of_lt (Nat.lt_of_lt_of_le (Heap.lt_size e) (I.ok.cab x c hfn hc)))).trans e1⟩
  ·obtain ⟨o',e1⟩:=I.base.there b o e hx
   exact ⟨o',(hs.2 b (Nat.ne_of_lt (Nat.lt_of_lt_of_le (Heap.lt_size e) (I.ok.cab x c hfn hc)))).trans e1⟩
  ·by_cases hj:j=i
   ·subst hj
    rw[hi] at e1;cases e1
    rw[List.getElem?_set_self hiσ] at e2
    cases e2
    exact ⟨u,r,.inr ⟨.inl hk,c,hc,hc'⟩⟩
   ·rw[List.getElem?_set_ne (Ne.symm hj)] at e2
    obtain ⟨u',r',q⟩:=hl j y v' e1 e2 e3
    refine ⟨u',r',?_⟩
    rcases q with q|⟨k,c',e,z'⟩
    ·exact .inl q
    ·refine .inr ⟨k,c',e,z'.sameBut hs ?_⟩
     rintro rfl
     exact hj (ziw hN e1 (I.ok.inj _ _ _ e hc ▸ hi))
  ·by_cases hcc:c'=c
   ·subst hcc;exact ⟨_,hc'⟩
   ·obtain ⟨w2,z2⟩:=I.cell y c' e
    exact ⟨w2,z2.sameBut hs hcc⟩
  ·obtain ⟨e,n,ne,nf,d⟩:=I.pin p hp
   refine ⟨(hs.2 p.1 ?_).trans e,n,ne,nf,d⟩
   intro q
   rw[q,hoc] at e
   have q':oc=p.2:=Option.some.inj e
   exact d w' (by rw[<- q'];exact hocd)
theorem ziB{M:Model}{A:Around}{E:Value->Shared->Prop}{i:Nat}{x:Str}{v:V}{u:Value}{Q:Unit->Shared->Prop}(I:Inv X pins σ H s)(hN:X.N.Nodup)(hi:X.N[i]? = some x)(hx:Loc X.env.scope x)(r:zcj v u)
  (h:∀ s',Inv X pins (σ.set i (some v)) H s'->Q () s') (hf:X.fn x=true\/X.env.scope.names.lookup x=some .local:=by first|exact .inl rfl|exact .inr rfl|assumption):wpAny M A (storeName X.env x u) Q E s :=
 zhr I hN hi hx r (fun s' I' _=>h s' I') hf
theorem Inv.call'{s':Shared}{ch:List Addr}(I:Inv X pins σ H s)(ho:s'.os=s.os)(u:Un (frs X.stack) ch H H' s.heap s'.heap)(hok:HOk X.prog X.w H' s'.heap)(hg:AllBare s'.gens)
  (hch:∀ b∈ch,(b∈X.ex\/X.s₀.heap.objs.size<=b)/\b≠X.env.locals/\(∀ x c,X.env.cells.lookup x=some c->c≠b)/\∀ p∈X.pn++pins,p.1≠b):Inv X pins σ H' s':=by
 obtain ⟨h',g',d',t',o'⟩:=s'
 have e:o'=s.os:=ho
 subst e
 exact I.call (g':=g') (t':=t') (d':=d') u hok hg hch
end
abbrev XK:=Value->Option Addr->Hp->Prop
abbrev St:=List (Option V)
abbrev VK:=V->Hp->Prop
abbrev TE:=St->Hp->VK->Prop
abbrev TT:=St->Hp->(Bool->Hp->Prop)->Prop
abbrev TA:=St->Hp->(List V->Hp->Prop)->Prop
structure zqg where
 nx:St->Hp->Prop
 rt:VK
 bk:St->Hp->Prop:=fun _ _=>False
 ct:St->Hp->Prop:=fun _ _=>False
abbrev TS:=zqg->St->Hp->Prop
def EP(X:Cx)(pins:List (Addr×Obj))(σ:St)(Q:VK)(u:Value)(s':Shared):Prop:=∃ v H',Inv X pins σ H' s'/\zcj v u/\Q v H'
def TP(X:Cx)(pins:List (Addr×Obj))(σ:St)(Q:Bool->Hp->Prop)(b:Bool)(s':Shared):Prop:=∃ H',Inv X pins σ H' s'/\Q b H'
def AP(X:Cx)(pins:List (Addr×Obj))(σ:St)(Q:List V->Hp->Prop)(us:List Value)(s':Shared):Prop:=∃ vs H',Inv X pins σ H' s'/\zbe vs us/\Q vs H'
def SP(X:Cx)(pins:List (Addr×Obj))(D:zqg)(f:Flow)(s':Shared):Prop :=
 match f with
 |.next=>∃ σ' H',Inv X pins σ' H' s'/\D.nx σ' H'
 |.brk=>∃ σ' H',Inv X pins σ' H' s'/\D.bk σ' H'
 |.cont=>∃ σ' H',Inv X pins σ' H' s'/\D.ct σ' H'
 |.ret u=>∃ v σ' H',Inv X pins σ' H' s'/\zcj v u/\D.rt v H'
def PE(X:Cx)(e:Expr)(t:TE):Prop :=
 ∀(pins:List (Addr×Obj))(s:Shared)(σ:St)(H:Hp)(Q:VK),Inv X pins σ H s->t σ H Q->wpAny (model X.prog X.w) X.A (eval e X.env) (EP X pins σ Q) X.xe s
def PT(X:Cx)(e:Expr)(t:TT):Prop :=
 ∀(pins:List (Addr×Obj))(s:Shared)(σ:St)(H:Hp)(Q:Bool->Hp->Prop),Inv X pins σ H s->t σ H Q->wpAny (model X.prog X.w) X.A (isTrue e X.env (eval e X.env)) (TP X pins σ Q) X.xe s
def PW(X:Cx)(e:Expr)(t:TT):Prop :=
 ∀(whole:Sem Value)(pins:List (Addr×Obj))(s:Shared)(σ:St)(H:Hp)(Q:Bool->Hp->Prop),Inv X pins σ H s->t σ H Q->wpAny (model X.prog X.w) X.A (isTrue e X.env whole) (TP X pins σ Q) X.xe s
theorem PW.pt{X:Cx}{e:Expr}{t:TT}(h:PW X e t):PT X e t:=h _
def PA(X:Cx)(es:List Expr)(t:TA):Prop :=
 ∀(pos:Pos)(pins:List (Addr×Obj))(s:Shared)(σ:St)(H:Hp)(Q:List V->Hp->Prop),Inv X pins σ H s->t σ H Q->wpAny (model X.prog X.w) X.A (spliced (backTo pos (starEach es X.env))) (AP X pins σ Q) X.xe s
def PS(X:Cx)(st:Stmt)(t:TS):Prop :=
 ∀(pins:List (Addr×Obj))(s:Shared)(σ:St)(H:Hp)(D:zqg),Inv X pins σ H s->t D σ H->wpAny (model X.prog X.w) X.A (exec st X.env) (SP X pins D) X.xe s
def PSs(X:Cx)(st:List Stmt)(t:TS):Prop :=
 ∀(pins:List (Addr×Obj))(s:Shared)(σ:St)(H:Hp)(D:zqg),Inv X pins σ H s->t D σ H->wpAny (model X.prog X.w) X.A (execs st X.env) (SP X pins D) X.xe s
theorem thn{α:Type}{t:Sem α}{Q Q':α->Shared->Prop}{M:Model}{A:Around}{E:Value->Shared->Prop}{s:Shared}(h:wpAny M A t Q E s)(hQ:∀ a s,Q a s->Q' a s):wpAny M A t Q' E s:=wpAny_mono h hQ fun _ _ x=>x
end L2
namespace L2
open PySem PySem.Spec PyProof.Rows
section
variable{X:Cx}
def zuv(i:Nat):TE:=fun σ H Q=>∃ v,σ[i]? = some (some v)/\Q v H
def tC(v:V):TE:=fun _ H Q=>Q v H
theorem zbw{i:Nat}{x:Str}{pos:Pos}(hN:X.N[i]? = some x)(hv:Vis X.env.scope x)(hd:(x == ("__debug__" : Str))=false:=by decide)(hcd:(x == ("__classdict__" : Str))=false:=by decide):PE X (.Name x pos) (zuv i):=by
 intro pins s σ H Q I h
 obtain ⟨v,e,h⟩:=h
 obtain ⟨m,hn,hl⟩:=I.loc
 obtain ⟨u,r,l⟩:=hl i x v hN e hv
 have fin:EP X pins σ Q u s:=⟨v,H,I,r,h⟩
 rcases l with ⟨hk,hm⟩|⟨hk,c,hc,hcell⟩
 ·exact wpAny_Name (wpAny_loadName_local I.ok.kind hk hn hm fin) hd
 ·rcases hk with hk|hk
  ·exact wpAny_Name (wpAny_loadName_cell I.ok.kind hk hc hcell fin) hd
  ·exact wpAny_Name (wpAny_loadName_free I.ok.kind hk hc hcell fin hcd) hd
theorem zld{i j pos}:PE X (.Constant (.int i) j pos) (tC (.int i)):=fun _ _ _ H _ I h=>wpAny_Constant_int ⟨.int i,H,I.tok _,⟨_,rfl⟩,h⟩
theorem zuI{b j pos}:PE X (.Constant (.bool b) j pos) (tC (.bl b)):=fun _ _ _ H _ I h=>Constant_bool ⟨.bl b,H,I,rfl,h⟩
theorem ztr{j pos}:PE X (.Constant .none j pos) (tC .non):=fun _ _ _ H _ I h=>Constant_none ⟨.non,H,I,rfl,h⟩
theorem ztk{x j pos}:PE X (.Constant (.str x) j pos) (tC (.str x)):=fun _ _ _ H _ I h=>Calls.Constant_str ⟨.str x,H,I.tok _,⟨_,rfl⟩,h⟩
def Gl(X:Cx)(x:Str):Prop:=X.env.kindOf x=some .globalImplicit
theorem zgS{E:Value->Shared->Prop}{pins:List (Addr×Obj)}{s:Shared}{σ:St}{H:Hp}{x:Str}{u:Value}{pos:Pos}{Q:Value->Shared->Prop}(I:Inv X pins σ H s)(hg:Gl X x)(hm:X.mg x=some u)(h:Q u s)
  (hd:(x == ("__debug__" : Str))=false:=by decide):wpAny (model X.prog X.w) X.A (eval (.Name x pos) X.env) Q E s :=
 Calls.Name_function_global I.ok.kind hg (Calls.loadGlobal_global (by rw[I.ok.glob];exact I.mod.glob.keeps I.bk) hm h) hd
theorem zhR{E:Value->Shared->Prop}{pins:List (Addr×Obj)}{s:Shared}{σ:St}{H:Hp}{x:Str}{u:Value}{pos:Pos}{Q:Value->Shared->Prop}(I:Inv X pins σ H s)(hg:Gl X x)(hm:X.mg x=none)(hv:bootBuiltins x=some u)(h:Q u s)
  (hn:x≠"__name__":=by decide) (hd:(x == ("__debug__" : Str))=false:=by decide):wpAny (model X.prog X.w) X.A (eval (.Name x pos) X.env) Q E s:=by
 obtain ⟨mb,h1,h2⟩:=I.mod.blt
 exact Calls.Name_function_global I.ok.kind hg (Calls.loadGlobal_builtin (by rw[I.ok.glob];exact I.mod.glob.keeps I.bk) hm (by rw[I.ok.blt];exact h1.keeps I.bk) ((h2 x hn).trans hv) h) hd
theorem zgV{x:Str}{v:V}{u:Value}{pos:Pos}(hg:Gl X x)(hm:X.mg x=some u)(r:zcj v u)(hd:(x == ("__debug__" : Str))=false:=by decide):PE X (.Name x pos) (tC v) :=
 fun _ _ _ H _ I h=>zgS I hg hm ⟨v,H,I,r,h⟩ hd
theorem ziI{x:Str}{v:V}{u:Value}{pos:Pos}(hg:Gl X x)(hm:X.mg x=none)(hv:bootBuiltins x=some u)(r:zcj v u)(hn:x≠"__name__":=by decide)(hd:(x == ("__debug__" : Str))=false:=by decide):PE X (.Name x pos) (tC v) :=
 fun _ _ _ H _ I h=>zhR I hg hm hv ⟨v,H,I,r,h⟩ hn hd
variable{a b:Expr}{ta tb:TE}{pos:Pos}
def tB(t:TE):TT:=fun σ H Q=>t σ H fun x H1=>∃ c,x=.bl c/\Q c H1
theorem ztM{e:Expr}{t:TE}(h:PE X e t)(he:∀ whole,isTrue e X.env whole=(do let v <- whole;standAt e.pos;holding [v] (truthy v)):=by intro _;rfl):PT X e (tB t):=by
 intro pins s σ H Q I hw
 refine isTrue_plain (thn (h pins s σ H _ I hw) fun v s1 ⟨x,H1,I1,r1,q1⟩=>?_) (he _)
 obtain ⟨d,rfl,q⟩:=q1
 cases r1
 exact wpAny_truthy_bool ⟨H1,I1,q⟩
variable{tA tB':TT}{zbr:List Expr}
def tAnd(t u:TT):TT:=fun σ H Q=>t σ H fun c H1=>if c=true then u σ H1 Q else Q false H1
def tOr(t u:TT):TT:=fun σ H Q=>t σ H fun c H1=>if c=true then Q true H1 else u σ H1 Q
def tNot(t:TT):TT:=fun σ H Q=>t σ H fun c H1=>Q (!c) H1
theorem zrI(ha:PT X a tA):PW X (.BoolOp .And [a] pos) tA:=by
 intro wh pins s σ H Q I h
 refine isTrue_and (thn (ha pins s σ H Q I h) fun c s1 e=>?_)
 cases c with
 |true=>exact isTrue_and_nil e
 |false=>exact e
theorem ztj(ha:PT X a tA):PW X (.BoolOp .Or [a] pos) tA:=by
 intro wh pins s σ H Q I h
 refine isTrue_or (thn (ha pins s σ H Q I h) fun c s1 e=>?_)
 cases c with
 |false=>exact isTrue_or_nil e
 |true=>exact e
theorem ztL(ha:PT X a tA)(hb:PW X (.BoolOp .And (b::zbr) pos) tB'):PW X (.BoolOp .And (a::b::zbr) pos) (tAnd tA tB'):=by
 intro wh pins s σ H Q I h
 refine isTrue_and (thn (ha pins s σ H _ I h) fun c s1 ⟨H1,I1,q1⟩=>?_)
 cases c with
 |true=>exact hb wh pins s1 σ H1 Q I1 q1
 |false=>exact ⟨H1,I1,q1⟩
theorem zun(ha:PT X a tA)(hb:PW X (.BoolOp .Or (b::zbr) pos) tB'):PW X (.BoolOp .Or (a::b::zbr) pos) (tOr tA tB'):=by
 intro wh pins s σ H Q I h
 refine isTrue_or (thn (ha pins s σ H _ I h) fun c s1 ⟨H1,I1,q1⟩=>?_)
 cases c with
 |true=>exact ⟨H1,I1,q1⟩
 |false=>exact hb wh pins s1 σ H1 Q I1 q1
theorem ztf(ha:PT X a tA):PT X (.UnaryOp .Not a pos) (tNot tA):=by
 intro pins s σ H Q I h
 exact isTrue_not (ha pins s σ H (fun c H1=>Q (!c) H1) I h)
def zu3(ta tb:TE):TE:=fun σ H Q=>ta σ H fun x H1=>∃ c,x=.bl c/\if c=true then tb σ H1 Q else Q (.bl false) H1
def zuo(ta:TE):TE:=fun σ H Q=>ta σ H fun x H1=>∃ c,x=.bl c/\Q (.bl (!c)) H1
theorem ztn{op}{t:TE}(h:PE X a t):PE X (.BoolOp op [a] pos) t:=fun pins s σ H Q I hw=>BoolOp_one (h pins s σ H Q I hw)
theorem zst(ha:PE X a ta)(hb:PE X (.BoolOp .And (b::zbr) pos) tb):PE X (.BoolOp .And (a::b::zbr) pos) (zu3 ta tb):=by
 intro pins s σ H Q I h
 refine BoolOp_and (thn (ha pins s σ H _ I h) fun v s1 ⟨x,H1,I1,r1,q1⟩=>?_)
 obtain ⟨c,rfl,q1⟩:=q1
 cases r1
 refine wpAny_truthy_bool ?_
 cases c with
 |true=>exact hb pins s1 σ H1 Q I1 q1
 |false=>exact ⟨.bl false,H1,I1,rfl,q1⟩
theorem ztv(ha:PE X a ta):PE X (.UnaryOp .Not a pos) (zuo ta):=by
 intro pins s σ H Q I h
 refine UnaryOp_ (thn (ha pins s σ H _ I h) fun v s1 ⟨x,H1,I1,r1,q1⟩=>?_)
 obtain ⟨c,rfl,q1⟩:=q1
 cases r1
 exact not_of (wpAny_truthy_bool ⟨.bl (!c),H1,I1,rfl,q1⟩)
def tIf(t:TT)(ta tb:TE):TE:=fun σ H Q=>t σ H fun c H1=>if c=true then ta σ H1 Q else tb σ H1 Q
theorem zpS{c:Expr}(hc:PT X c tA)(ha:PE X a ta)(hb:PE X b tb):PE X (.IfExp c a b pos) (tIf tA ta tb):=by
 intro pins s σ H Q I h
 refine wpAny_IfExp (thn (hc pins s σ H _ I h) fun d s1 ⟨H1,I1,q1⟩=>?_)
 cases d with
 |true=>exact ha pins s1 σ H1 Q I1 q1
 |false=>exact hb pins s1 σ H1 Q I1 q1
end
end L2
namespace L2
open PySem PySem.Spec PyProof.Rows
def SqL(K:W.Frag)(H:Hp)(a:Addr)(xs:List V):Prop :=
 Rd H a (.lst xs) \/
  ∃(o:Obj)(its:Array Value)(n:Nat),K.lookup a=some o/\o.cls=.type "list"/\o.dict=none/\o.data=.seq its n/\its.size<=sizeLine/\zbe xs its.toList
def SqT(K:W.Frag)(H:Hp)(a:Addr)(xs:List V):Prop :=
 Rd H a (.tup xs) \/
  ∃(o:Obj)(its:Array Value)(n:Nat),K.lookup a=some o/\o.cls=.type "tuple"/\o.data=.seq its n/\its.size<=sizeLine/\zbe xs its.toList
def absV:Value->Option V
 |.none=>some .non
 |.bool b=>some (.bl b)
 |.int i _=>some (.int i)
 |.str x _=>some (.str x)
 |.bytes b _=>some (.byt b)
 |.float b _=>some (.flt b)
 |.ref a=>some (.ref a)
 |.type n=>some (.ty n)
 |_=>none
theorem zcj.abs{x:V}{u:Value}(r:zcj x u):absV u=some x:=by
 cases x with
 |non=>cases r;rfl
 |bl _=>cases r;rfl
 |int _=>obtain ⟨t,rfl⟩:=r;rfl
 |str _=>obtain ⟨t,rfl⟩:=r;rfl
 |byt _=>obtain ⟨t,rfl⟩:=r;rfl
 |flt _=>obtain ⟨t,rfl⟩:=r;rfl
 |ref _=>cases r;rfl
 |ty _=>cases r;rfl
theorem zcj.inj{x y:V}{u:Value}(r:zcj x u)(q:zcj y u):x=y:=Option.some.inj (r.abs.symm.trans q.abs)
theorem zbe.inj:∀{xs ys:List V}{us:List Value},zbe xs us->zbe ys us->xs=ys
 |_,_,_,.nil,.nil=>rfl
 |_,_,_,.cons r t,.cons r' t'=>by rw[r.inj r',zbe.inj t t']
section
variable{X:Cx}{pins:List (Addr×Obj)}{σ:St}{H:Hp}{s:Shared}{a:Addr}{xs ys:List V}
theorem SqL.of{K:W.Frag}(h:H a=some (.lst xs)):SqL K H a xs:=.inl (.inl h)
theorem SqT.of{K:W.Frag}(h:H a=some (.tup xs)):SqT K H a xs:=.inl (.inl h)
theorem Inv.list(I:Inv X pins σ H s)(h:SqL X.K H a xs):∃ its:List Value,zbe xs its/\PlainL s.heap a its.toArray/\xs.length<=sizeLine:=by
 rcases h with h|⟨o,its,n,hk,hc,hd,hs,hz,r⟩
 ·obtain ⟨z,its,n,r,e⟩:=h.ok I.hok
  exact ⟨its,r,⟨_,n,e,rfl,rfl,rfl⟩,z⟩
 ·refine ⟨its.toList,r,⟨o,n,I.kIn a o hk,hc,hd,by simpa using hs⟩,?_⟩
  have e:=r.length
  simp only[Array.length_toList] at e
  omega
theorem Inv.tuple(I:Inv X pins σ H s)(h:SqT X.K H a xs):∃ its:List Value,zbe xs its/\IsTup s.heap a its.toArray/\xs.length<=sizeLine:=by
 rcases h with h|⟨o,its,n,hk,hc,hs,hz,r⟩
 ·obtain ⟨z,its,r,n,e⟩:=h.ok I.hok
  exact ⟨its,r,⟨_,e,rfl,n,rfl⟩,z⟩
 ·refine ⟨its.toList,r,⟨o,I.kIn a o hk,hc,n,by simpa using hs⟩,?_⟩
  have e:=r.length
  simp only[Array.length_toList] at e
  omega
theorem Inv.list_inj(I:Inv X pins σ H s)(h:SqL X.K H a xs)(h':SqL X.K H a ys):xs=ys:=by
 obtain ⟨its,r,⟨o,n,e,_,_,d⟩,_⟩:=I.list h
 obtain ⟨its',r',⟨o',n',e',_,_,d'⟩,_⟩:=I.list h'
 rw[e] at e';cases e'
 rw[d] at d'
 injection d' with d1 _
 have:its=its':=by simpa using congrArg Array.toList d1
 subst this
 exact r.inj r'
theorem Inv.tuple_inj(I:Inv X pins σ H s)(h:SqT X.K H a xs)(h':SqT X.K H a ys):xs=ys:=by
 obtain ⟨its,r,⟨o,e,_,n,d⟩,_⟩:=I.tuple h
 obtain ⟨its',r',⟨o',e',_,n',d'⟩,_⟩:=I.tuple h'
 rw[e] at e';cases e'
 rw[d] at d'
 injection d' with d1 _
 have:its=its':=by simpa using congrArg Array.toList d1
 subst this
 exact r.inj r'
end
abbrev Cx.wish(X:Cx)(E:Value->Shared->Prop):Cx:={ X with xe:=E }
abbrev Cx.nox(X:Cx):Cx:=X.wish fun _ _=>False
theorem Cx.Ok.wish{X:Cx}(ok:X.Ok)(E:Value->Shared->Prop):(X.wish E).Ok :=
 ⟨ok.mod,ok.kind,ok.glob,ok.blt,ok.above,ok.inj,ok.has,ok.cab,ok.hd,ok.frames,ok.stk,ok.exf,ok.bs,ok.bsz,ok.noex,ok.exfs,ok.funs,ok.frf⟩
theorem Cx.Ok.unwish{X:Cx}{E:Value->Shared->Prop}(ok:(X.wish E).Ok):X.Ok :=
 ⟨ok.mod,ok.kind,ok.glob,ok.blt,ok.above,ok.inj,ok.has,ok.cab,ok.hd,ok.frames,ok.stk,ok.exf,ok.bs,ok.bsz,ok.noex,ok.exfs,ok.funs,ok.frf⟩
section
variable{X:Cx}{pins:List (Addr×Obj)}{σ:St}{H:Hp}{s:Shared}{E:Value->Shared->Prop}
theorem Inv.wish(I:Inv X pins σ H s)(E:Value->Shared->Prop):Inv (X.wish E) pins σ H s:=⟨I.ok.wish E,I.os,I.bare,I.base,I.loc,I.cell,I.free,I.freeC,I.pin,I.hok,I.len⟩
theorem Inv.unwish(I:Inv (X.wish E) pins σ H s):Inv X pins σ H s:=⟨I.ok.unwish,I.os,I.bare,I.base,I.loc,I.cell,I.free,I.freeC,I.pin,I.hok,I.len⟩
theorem SP.unwish{D:zqg}{f:Flow}{s':Shared}(h:SP (X.wish E) pins D f s'):SP X pins D f s':=by
 cases f with
 |next=>obtain ⟨σ',H',I,q⟩:=h;exact ⟨σ',H',I.unwish,q⟩
 |brk=>obtain ⟨σ',H',I,q⟩:=h;exact ⟨σ',H',I.unwish,q⟩
 |cont=>obtain ⟨σ',H',I,q⟩:=h;exact ⟨σ',H',I.unwish,q⟩
 |ret u=>obtain ⟨v,σ',H',I,r,q⟩:=h;exact ⟨v,σ',H',I.unwish,r,q⟩
theorem PE.nox{e:Expr}{t:TE}(h:PE X.nox e t):PE X e t:=fun pins s σ H Q I hw =>
 wpAny_mono (h pins s σ H Q (I.wish _) hw) (fun _ _ ⟨v,H',I',r,q⟩=>⟨v,H',I'.unwish,r,q⟩) fun _ _ z=>False.elim z
theorem PT.nox{e:Expr}{t:TT}(h:PT X.nox e t):PT X e t:=fun pins s σ H Q I hw =>
 wpAny_mono (h pins s σ H Q (I.wish _) hw) (fun _ _ ⟨H',I',q⟩=>⟨H',I'.unwish,q⟩) fun _ _ z=>False.elim z
theorem PSs.nox{st:List Stmt}{t:TS}(h:PSs X.nox st t):PSs X st t:=fun pins s σ H D I hw =>
 wpAny_mono (h pins s σ H D (I.wish _) hw) (fun _ _ q=>q.unwish) fun _ _ z=>False.elim z
end
section
variable{X:Cx}{st:Stmt}{zbr:List Stmt}{t u:TS}{e:Expr}{te:TE}{pos:Pos}
def zu7:TS:=fun D σ H=>D.nx σ H
def tSeq(t u:TS):TS:=fun D σ H=>t { D with nx:=u D } σ H
theorem zrT:PSs X [] zu7:=fun _ _ σ H _ I h=>wpAny_execs_nil ⟨σ,H,I,h⟩
theorem zoU(h1:PS X st t)(h2:PSs X zbr u):PSs X (st::zbr) (tSeq t u):=by
 intro pins s σ H D I h
 refine wpAny_execs_cons (thn (h1 pins s σ H { D with nx:=u D } I h) fun f s1 q=>?_)
 cases f with
 |next =>
  obtain ⟨σ',H',I',q⟩:=q
  exact h2 pins s1 σ' H' D I' q
 |ret v=>exact q
 |brk=>exact q
 |cont=>exact q
theorem znf(h1:PS X st t):PSs X [st] t:=by
 intro pins s σ H D I h
 refine wpAny_execs_cons (thn (h1 pins s σ H D I h) fun f s1 q=>?_)
 cases f with
 |next=>exact wpAny_execs_nil q
 |ret v=>exact q
 |brk=>exact q
 |cont=>exact q
theorem Inv.quiet{pins:List (Addr×Obj)}{σ:St}{H:Hp}{s:Shared}(I:Inv X pins σ H s):interactive X.env=false:=by simp[interactive,I.ok.kind]
def zue(te:TE):TS:=fun D σ H=>te σ H fun _ H1=>D.nx σ H1
theorem zrt(he:PE X e te)(hs:swapsWith e none pos.line X.env=pure false:=by rfl):PS X (.Expr e pos) (zue te):=by
 intro pins s σ H D I h
 exact wpAny_Expr_any (thn (he pins s σ H _ I h) fun v s1 ⟨x,H1,I1,r1,q1⟩=>⟨σ,H1,I1,q1⟩) I.quiet hs
def tRet(te:TE):TS:=fun D σ H=>te σ H D.rt
theorem zqu(he:PE X e te):PS X (.Return (some e) pos) (tRet te):=by
 intro pins s σ H D I h
 exact wpAny_Return_some (thn (he pins s σ H _ I h) fun v s1 ⟨x,H1,I1,r1,q1⟩=>⟨x,σ,H1,I1,r1,q1⟩)
def tIfS(c:TT)(t u:TS):TS:=fun D σ H=>c σ H fun b H1=>if b=true then t D σ H1 else u D σ H1
theorem zum{c:Expr}{a b:List Stmt}{tc:TT}(hc:PT X c tc)(ha:PSs X a t)(hb:PSs X b u):PS X (.If c a b pos) (tIfS tc t u):=by
 intro pins s σ H D I h
 refine wpAny_If (thn (hc pins s σ H _ I h) fun d s1 ⟨H1,I1,q1⟩=>?_)
 cases d with
 |true=>exact ha pins s1 σ H1 D I1 q1
 |false=>exact hb pins s1 σ H1 D I1 q1
end
abbrev TG:=V->St->Hp->(St->Hp->Prop)->Prop
abbrev TGs:=List V->St->Hp->(St->Hp->Prop)->Prop
def PG(X:Cx)(target:Expr)(t:TG):Prop :=
 ∀(pins:List (Addr×Obj))(s:Shared)(σ:St)(H:Hp)(v:V)(u:Value)(Q:St->Hp->Prop),Inv X pins σ H s->zcj v u->t v σ H Q ->
  wpAny (model X.prog X.w) X.A (assign target X.env u) (fun _ s'=>∃ σ' H',Inv X pins σ' H' s'/\Q σ' H') X.xe s
def PGs(X:Cx)(ts:List Expr)(t:TGs):Prop :=
 ∀(pins:List (Addr×Obj))(s:Shared)(σ:St)(H:Hp)(vs:List V)(us:List Value)(Q:St->Hp->Prop),Inv X pins σ H s->zbe vs us->t vs σ H Q ->
  wpAny (model X.prog X.w) X.A (assignInOrder ((assignEach ts X.env).map (·.2)) us) (fun _ s'=>∃ σ' H',Inv X pins σ' H' s'/\Q σ' H') X.xe s
abbrev zuB:=V->V->V->Hp->(Hp->Prop)->Prop
def PSet(X:Cx)(t:zuB):Prop :=
 ∀(pins:List (Addr×Obj))(s:Shared)(σ:St)(H:Hp)(o i v:V)(ov iv u:Value)(Q:Hp->Prop),Inv X pins σ H s->zcj o ov->zcj i iv->zcj v u->t o i v H Q ->
  wpAny (model X.prog X.w) X.A (setItem ov iv u) (fun _ s'=>∃ H',Inv X pins σ H' s'/\Q H') X.xe s
section
variable{X:Cx}{pos:Pos}
def zsZ(i:Nat):TG:=fun v σ H Q=>Q (σ.set i (some v)) H
theorem zkT{i:Nat}{x:Str}(hN:X.N.Nodup)(hi:X.N[i]? = some x)(hx:Loc X.env.scope x)(hf:X.fn x=true\/X.env.scope.names.lookup x=some .local:=by first|exact .inl rfl|exact .inr rfl|assumption):PG X (.Name x pos) (zsZ i):=by
 intro pins s σ H v u Q I r h
 exact wpAny_assign_Name (ziB I hN hi hx r (fun s' I'=>⟨_,H,I',h⟩) hf)
def gNil:TGs:=fun vs σ H Q=>vs=[]/\Q σ H
def zup(t:TG)(u:TGs):TGs:=fun vs σ H Q=>∃ v r,vs=v::r/\t v σ H fun σ' H'=>u r σ' H' Q
theorem zrs:PGs X [] gNil:=by
 intro pins s σ H vs us Q I r h
 obtain ⟨e,h⟩:=h
 subst e
 cases r
 exact assignInOrder_nil ⟨σ,H,I,h⟩
theorem zly{e:Expr}{es:List Expr}{t:TG}{u:TGs}(h1:PG X e t)(h2:PGs X es u)
  (hs:(assignEach (e::es) X.env).map (·.2)=assign e X.env::(assignEach es X.env).map (·.2):=by rfl):PGs X (e::es) (zup t u):=by
 intro pins s σ H vs us Q I r h
 obtain ⟨v,vr,e1,h⟩:=h
 subst e1
 cases r with
 |cons r rr =>
  rw[hs]
  refine assignInOrder_cons (thn (h1 pins s σ H _ _ _ I r h) fun _ s1 ⟨σ1,H1,I1,q1⟩=>?_)
  exact h2 pins s1 σ1 H1 _ _ Q I1 rr q1
def gTup(K:W.Frag)(n:Nat)(t:TGs):TG:=fun v σ H Q=>∃ a xs,v=.ref a/\SqT K H a xs/\xs.length=n/\t xs σ H Q
theorem ztl{es:List Expr}{k:Nat}{t:TGs}{n:Nat}(hc:X.calm=true)(h:PGs X es t)
  (hn:(assignEach es X.env).length=n:=by rfl) (hst:(assignEach es X.env).findIdx? (·.1)=none:=by rfl):PG X (.Tuple es k pos) (gTup X.K n t):=by
 intro pins s σ H v u Q I r hw
 obtain ⟨a,xs,e1,hq,hl,hw⟩:=hw
 subst e1
 cases r
 obtain ⟨its,rv,ht,hz⟩:=I.tuple hq
 refine assign_Tuple_tuple (I.ok.hd hc) ht (by simp[hn,<- hl,rv.length]) hst fun h' hx=>?_
 have I1:Inv X pins σ H { s with heap:=h' }:=I.kept (t':=s.toks) fun b o e=>hx b o (Nat.ne_of_lt (Heap.lt_size e)) e
 exact h pins _ σ H xs _ Q I1 (by simpa using rv) hw
def zhm(to ti:TE)(t:zuB):TG:=fun v σ H Q=>to σ H fun o H1=>ti σ H1 fun i H2=>t o i v H2 fun H3=>Q σ H3
theorem zsB{o i:Expr}{to ti:TE}{t:zuB}(ho:PE X o to)(hi:PE X i ti)(hs:PSet X t)
  (ha:∀ v,assign (.Subscript o i pos) X.env v=(do
   let ov <- holding [v] (eval o X.env)
   let iv <- holding [v,ov] (eval i X.env)
   standAt pos
   holding [v,ov,iv] (setItem ov iv v)
   release [v,ov,iv] []):=by intro _;rfl):PG X (.Subscript o i pos) (zhm to ti t):=by
 intro pins s σ H v u Q I r h
 rw[ha]
 refine wpAny_bind (wpAny_holding (thn (ho pins s σ H _ I h) fun ov s1 ⟨x,H1,I1,r1,q1⟩=>?_))
 refine wpAny_bind (wpAny_holding (thn (hi pins s1 σ H1 _ I1 q1) fun iv s2 ⟨y,H2,I2,r2,q2⟩=>?_))
 refine wpAny_bind (wpAny_standAt (wpAny_bind (wpAny_holding (thn (hs pins s2 σ H2 x y v ov iv u _ I2 r1 r2 r q2) fun _ s3 ⟨H3,I3,q3⟩=>?_))))
 exact wpAny_release ⟨σ,H3,I3,q3⟩
def zuj(te:TE)(g:TG):TS:=fun D σ H=>te σ H fun x H1=>g x σ H1 D.nx
theorem ztO{tg e:Expr}{te:TE}{g:TG}(he:PE X e te)(hg:PG X tg g)(hs:swapsWithSole [tg] e pos.line X.env=pure false:=by rfl)(hw:swappedStores [tg] e X.env=pure none:=by rfl)
  (h1:(assignEach [tg] X.env).map (·.2)=[assign tg X.env]:=by rfl):PS X (.Assign [tg] e pos) (zuj te g):=by
 intro pins s σ H D I h
 refine wpAny_Assign_stores (thn (he pins s σ H _ I h) fun v s1 ⟨x,H1,I1,r1,q1⟩=>?_) hs hw
 rw[h1]
 exact thn (hg pins s1 σ H1 x v _ I1 r1 q1) fun _ s2 q=>q
theorem zlq{i:Nat}{x:Str}{e:Expr}{te:TE}{pos':Pos}(hN:X.N.Nodup)(hi:X.N[i]? = some x)(hx:Loc X.env.scope x)(he:PE X e te)(hs:swapsWith e (some (.Name x pos')) pos.line X.env=pure false:=by rfl)(hf:X.fn x=true\/X.env.scope.names.lookup x=some .local:=by first|exact .inl rfl|exact .inr rfl|assumption) :
  PS X (.Assign [.Name x pos'] e pos) (zuj te (zsZ i)):=by
 intro pins s σ H D I h
 refine wpAny_Assign_Name (thn (he pins s σ H _ I h) fun v s1 ⟨y,H1,I1,r1,q1⟩=>?_) hs
 exact ziB I1 hN hi hx r1 (fun s2 I2=>⟨_,H1,I2,q1⟩) hf
end
section
variable{X:Cx}{pos:Pos}
def ztN(c:TT)(tb:TS):TS:=fun D σ H=>∃ W:Nat->St->Hp->Prop,(∃ m,W m σ H)/\∀ m σ H,W m σ H ->
 c σ H fun b H1=>if b=true then ∃ N:St->Hp->Prop,(∀ σ' H',N σ' H'->∃ m',m'<m/\W m' σ' H')/\tb { D with nx:=N,ct:=N,bk:=D.nx } σ H1 else D.nx σ H1
theorem zp5{c:Expr}{body:List Stmt}{tc:TT}{tb:TS}(hp:PassesOwn (model X.prog X.w) X.A X.env X.xe)(hc:PT X c tc)(hb:PSs X body tb):PS X (.While c body [] pos) (ztN tc tb):=by
 intro pins s σ H D I h
 obtain ⟨W,⟨m0,w0⟩,turn⟩:=h
 refine wpAny_While (codeAny_whileLoop (fun n s'=>∃ σ' H',Inv X pins σ' H' s'/\W n σ' H') ?_ m0 ⟨σ,H,I,w0⟩)
 rintro n s1 ⟨σ1,H1,I1,w1⟩
 refine wpAny_passesOwn hp (thn (hc pins s1 σ1 H1 _ I1 (turn n σ1 H1 w1)) fun b s2 ⟨H2,I2,q2⟩=>?_)
 cases b with
 |true =>
  obtain ⟨N,hN,q2⟩:=q2
  rw[if_pos rfl]
  refine wpAny_passesOwn hp (thn (hb pins s2 σ1 H2 _ I2 q2) fun f s3 q3=>?_)
  cases f with
  |next =>
   obtain ⟨σ3,H3,I3,n3⟩:=q3
   obtain ⟨m',hm,w3⟩:=hN σ3 H3 n3
   exact ⟨m',hm,σ3,H3,I3,w3⟩
  |cont =>
   obtain ⟨σ3,H3,I3,n3⟩:=q3
   obtain ⟨m',hm,w3⟩:=hN σ3 H3 n3
   exact ⟨m',hm,σ3,H3,I3,w3⟩
  |brk=>exact q3
  |ret v=>exact q3
 |false =>
  rw[if_neg Bool.false_ne_true]
  exact wpAny_execs_nil ⟨σ1,H2,I2,q2⟩
end
structure It where
 go:Nat->Hp->Prop
 yld:Nat->Hp->V->Hp->Prop
 stop:Nat->Hp->Prop
def zhu(X:Cx)(pins:List (Addr×Obj))(H:Hp)(b:Addr):Prop :=
 H b=none/\b≠X.env.locals/\b∉X.fs/\(b∈X.ex\/X.s₀.heap.objs.size<=b)/\(∀ x c,X.env.cells.lookup x=some c->c≠b)/\∀ p∈X.pn++pins,p.1≠b
theorem Inv.fpOk{X:Cx}{pins:List (Addr×Obj)}{σ:St}{H H':Hp}{s:Shared}{b:Addr}(I:Inv X pins σ H s)(hb:s.heap.objs.size<=b)(hn:H' b=none):zhu X pins H' b:=by
 refine ⟨hn,Nat.ne_of_gt (Nat.lt_of_lt_of_le I.lt hb),I.nofs hb,.inr (Nat.le_trans I.sz hb),fun x c e z=>?_,fun p hp z=>?_⟩
 ·obtain ⟨v,q⟩:=I.cell x c e
  exact absurd (Nat.lt_of_lt_of_le q.lt (by rw[z];exact hb)) (Nat.lt_irrefl _)
 ·exact absurd (Nat.lt_of_lt_of_le (Heap.lt_size (I.pin p hp).1) (by rw[z];exact hb)) (Nat.lt_irrefl _)
structure zoA(P:Program)(w:World)(K:W.Frag)(tg:Expr)(J:It)(fp:List Addr)(it:Addr)(tn:Nat->Heap->Prop):Prop where
 mem:it∈fp
 obj:∀ i h,tn i h->∀ b∈fp,∃ o,h.get? b=some o/\∀ v,o.data≠.cell v
 keep:∀ i h h',tn i h->(∀ b∈fp,∀ o,h.get? b=some o->h'.get? b=some o)->tn i h'
 item:∀(X:Cx),X.prog=P->X.w=w->X.K=K->X.calm=true->∀(i:Nat)(pins:List (Addr×Obj))(s:Shared)(σ:St)(H:Hp)(E:Value->Shared->Prop),Inv X pins σ H s->(∀ b∈fp,zhu X pins H b)->tn i s.heap->J.go i H ->
  wpAny (model P w) X.A (pyNext (.ref it)) (fun r s1=>∃ u,r=some u /\
   wpAny (model P w) X.A (letOwnedTupleGo tg (.ref it) u) (fun _ s2=>∃ x H',Inv X pins σ H' s2/\zcj x u/\J.yld i H x H'/\tn (i+1) s2.heap/\∀ b∈fp,H' b=none) E s1) E s
 done:∀(X:Cx),X.prog=P->X.w=w->X.K=K->X.calm=true->∀(i:Nat)(pins:List (Addr×Obj))(s:Shared)(σ:St)(H:Hp)(E:Value->Shared->Prop),Inv X pins σ H s->(∀ b∈fp,zhu X pins H b)->tn i s.heap->J.stop i H ->
  wpAny (model P w) X.A (pyNext (.ref it)) (fun r s1=>r=none/\Inv X pins σ H s1) E s
 self:∀(A:Around)(i:Nat)(s:Shared)(Q:Value->Shared->Prop)(E:Value->Shared->Prop),tn i s.heap->Q (.ref it) s->wpAny (model P w) A (pyIter (.ref it)) Q E s
abbrev TI:=St->Hp->(It->Hp->Prop)->Prop
def PIE(X:Cx)(pins:List (Addr×Obj))(σ:St)(tg:Expr)(R:It->Hp->Prop)(itv:Value)(s2:Shared):Prop :=
 ∃(it:Addr)(fp:List Addr)(tn:Nat->Heap->Prop)(J:It)(H':Hp),itv=.ref it/\Inv X pins σ H' s2/\zoA X.prog X.w X.K tg J fp it tn/\tn 0 s2.heap/\(∀ b∈fp,zhu X pins H' b)/\R J H'
def PI(X:Cx)(tg iter:Expr)(wi:TI):Prop :=
 ∀(pins:List (Addr×Obj))(s:Shared)(σ:St)(H:Hp)(R:It->Hp->Prop),Inv X pins σ H s->wi σ H R ->
  wpAny (model X.prog X.w) X.A (eval iter X.env) (fun v s1=>wpAny (model X.prog X.w) X.A (pyIter v) (PIE X pins σ tg R) X.xe s1) X.xe s
theorem zp6{M:Model}{A:Around}{E:Value->Shared->Prop}{s:Shared}{tg:Expr}{it:Addr}{u:Value}{o:Obj}{n:String}{vs:Array Value}{Q:Unit->Shared->Prop}(ho:s.heap.get? it=some o)(hc:o.cls=.type n)(hd:o.data=.fields vs)
  (hn:["enumerate","zip","dict_itemiterator","dict_reverseitemiterator","odict_iterator","itertools.zip_longest","itertools.pairwise"].contains n=false) (hQ:Q () s):wpAny M A (letOwnedTupleGo tg (.ref it) u) Q E s:=by
 unfold letOwnedTupleGo
 cases tg <;> first
  |exact wpAny_pure hQ
  | (cases u <;> first
    |exact wpAny_pure hQ
    | (refine wpAny_bind (wpAny_load ho ?_)
       rw[hc,hd]
       show wpAny M A (if (["enumerate","zip","dict_itemiterator","dict_reverseitemiterator","odict_iterator","itertools.zip_longest","itertools.pairwise"].contains n && vs[0]? == some (rawInt _))=true then _ else _) Q E s
       rw[if_neg (by intro h;rw[hn,Bool.false_and] at h;cases h)]
       exact wpAny_pure hQ))
def Itl(K:W.Frag)(a:Addr):It :=
 ⟨fun i H=>∃ xs x,SqL K H a xs/\xs[i]? = some x,fun i H x H'=>H'=H/\∀ xs,SqL K H a xs->xs[i]? = some x,fun i H=>∃ xs,SqL K H a xs/\xs.length<=i⟩
def Itt(K:W.Frag)(a:Addr):It :=
 ⟨fun i H=>∃ xs x,SqT K H a xs/\xs[i]? = some x,fun i H x H'=>H'=H/\∀ xs,SqT K H a xs->xs[i]? = some x,fun i H=>∃ xs,SqT K H a xs/\xs.length<=i⟩
def Itr(lo:Int)(n:Nat):It:=⟨fun i _=>i<n,fun i H x H'=>H'=H/\x=.int (lo+i),fun i _=>n<=i⟩
theorem zor{P:Program}{w:World}{K:W.Frag}{tg:Expr}(a it:Addr):zoA P w K tg (Itl K a) [it] it (fun i h=>h.IsListIter it a i) where
 mem:=by simp
 obj:=fun i h st b hb=>by
  have e:b=it:=by simpa using hb
  subst e
  obtain ⟨o,e,c,d⟩:=st
  exact ⟨o,e,fun v z=>by rw[d] at z;cases z⟩
 keep:=fun i h h' st k=>st.at fun o e=>k it (by simp) o e
 item:=by
  intro X hP hw hK hc i pins s σ H E I hf st hg
  subst hP hw hK
  obtain ⟨xs,x,hq,hx⟩:=hg
  obtain ⟨its,rv,p,hz⟩:=I.list hq
  obtain ⟨u,hu,ru⟩:=rv.get hx
  obtain ⟨f0,f1,f2,f3,f4,f5⟩:=hf it (by simp)
  refine wpAny_pyNext_list_item st p.isList (x:=u) (by simpa using hu) fun h' st' sb=>?_
  have I1:Inv X pins σ H { s with heap:=h' }:=I.turned (t':=s.toks) (fun b o hb e=>(sb.2 b hb).trans e) f0 f1 f3 f4 f5
  obtain ⟨o,e,c,d⟩:=id st'
  exact ⟨u,rfl,zp6 (s:={ s with heap:=h' }) e c d (by decide) ⟨x,H,I1,ru,⟨rfl,fun ys hy=>by rw[I.list_inj hy hq];exact hx⟩,st',fun b hb=>(hf b hb).1⟩⟩
 done:=by
  intro X hP hw hK hc i pins s σ H E I hf st hg
  subst hP hw hK
  obtain ⟨xs,hq,hx⟩:=hg
  obtain ⟨its,rv,p,hz⟩:=I.list hq
  obtain ⟨f0,f1,f2,f3,f4,f5⟩:=hf it (by simp)
  have hl:=rv.length
  exact wpAny_pyNext_list_end (I.ok.hd hc) st p.isList (by simp;omega) fun h' eb=>⟨rfl,I.turned (t':=s.toks) (fun b o hb e=>eb b o hb e) f0 f1 f3 f4 f5⟩
 self:=fun _ _ _ _ _ st h=>wpAny_pyIter_listiter st h
theorem zlQ{P:Program}{w:World}{K:W.Frag}{tg:Expr}(a it:Addr):zoA P w K tg (Itt K a) [it] it (fun i h=>h.IsTupleIter it a i) where
 mem:=by simp
 obj:=fun i h st b hb=>by
  have e:b=it:=by simpa using hb
  subst e
  obtain ⟨o,e,c,d⟩:=st
  exact ⟨o,e,fun v z=>by rw[d] at z;cases z⟩
 keep:=fun i h h' st k=>st.at fun o e=>k it (by simp) o e
 item:=by
  intro X hP hw hK hc i pins s σ H E I hf st hg
  subst hP hw hK
  obtain ⟨xs,x,hq,hx⟩:=hg
  obtain ⟨its,rv,p,hz⟩:=I.tuple hq
  obtain ⟨u,hu,ru⟩:=rv.get hx
  obtain ⟨f0,f1,f2,f3,f4,f5⟩:=hf it (by simp)
  refine wpAny_pyNext_tuple_item st (show s.heap.IsTuple a its.toArray from p) (x:=u) (by simpa using hu) fun h' st' sb=>?_
  have I1:Inv X pins σ H { s with heap:=h' }:=I.turned (t':=s.toks) (fun b o hb e=>(sb.2 b hb).trans e) f0 f1 f3 f4 f5
  obtain ⟨o,e,c,d⟩:=id st'
  exact ⟨u,rfl,zp6 (s:={ s with heap:=h' }) e c d (by decide) ⟨x,H,I1,ru,⟨rfl,fun ys hy=>by rw[I.tuple_inj hy hq];exact hx⟩,st',fun b hb=>(hf b hb).1⟩⟩
 done:=by
  intro X hP hw hK hc i pins s σ H E I hf st hg
  subst hP hw hK
  obtain ⟨xs,hq,hx⟩:=hg
  obtain ⟨its,rv,p,hz⟩:=I.tuple hq
  obtain ⟨f0,f1,f2,f3,f4,f5⟩:=hf it (by simp)
  have hl:=rv.length
  exact wpAny_pyNext_tuple_end (I.ok.hd hc) st (show s.heap.IsTuple a its.toArray from p) (by simp;omega) fun h' eb=>⟨rfl,I.turned (t':=s.toks) (fun b o hb e=>eb b o hb e) f0 f1 f3 f4 f5⟩
 self:=fun _ _ _ _ _ st h=>wpAny_pyIter_tupleiter st h
theorem zlS{P:Program}{w:World}{K:PySem.W.Frag}{tg:Expr}(it:Addr)(lo:Int)(n:Nat):zoA P w K tg (Itr lo n) [it] it (fun i h=>IsRangeIter h it (lo+(i:Nat) * 1) ((n:Int)-(i:Nat)) 1) where
 mem:=by simp
 obj:=fun i h st b hb=>by
  have e:b=it:=by simpa using hb
  subst e
  exact ⟨_,st,fun v z=>by
   have z':Data.fields _=Data.cell v:=z
   cases z'⟩
 keep:=fun i h h' st k=>k it (by simp) _ st
 item:=by
  intro X hP hw hK hc i pins s σ H E I hf st hg
  subst hP hw hK
  obtain ⟨f0,f1,f2,f3,f4,f5⟩:=hf it (by simp)
  have W:=Walks.range (prog:=X.prog) (w:=X.w) (I.ok.hd hc) it lo 1 n
  refine W.item i s _ _ hg st fun v h' tk hv st' kk=>?_
  obtain ⟨t,rfl⟩:=hv
  have I1:Inv X pins σ H { s with heap:=h',toks:=tk }:=I.turned (fun b o hb e=>kk b o (by simpa using hb) e) f0 f1 f3 f4 f5
  refine ⟨_,rfl,zp6 (s:={ s with heap:=h',toks:=tk }) (n:="range_iterator") st' rfl rfl (by decide) ⟨.int (lo+i),H,I1,⟨t,?_⟩,⟨rfl,rfl⟩,st',fun b hb=>(hf b hb).1⟩⟩
  rw[Int.mul_one]
 done:=by
  intro X hP hw hK hc i pins s σ H E I hf st hg
  subst hP hw hK
  obtain ⟨f0,f1,f2,f3,f4,f5⟩:=hf it (by simp)
  exact wpAny_pyNext_range_end (I.ok.hd hc) st (by have:n<=i:=hg;omega) fun h' eb=>⟨rfl,I.turned (t':=s.toks) (fun b o hb e=>eb b o hb e) f0 f1 f3 f4 f5⟩
 self:=fun _ _ _ _ _ st h=>wpAny_pyIter_rangeiter st h
end L2
namespace L2
open PySem PySem.Spec PyProof.Rows
section
variable{X:Cx}{tg:Expr}
def zul(K:W.Frag)(tl:TE):TI:=fun σ H R=>tl σ H fun x H1=>∃ a,x=.ref a/\(∃ xs,SqL K H1 a xs)/\R (Itl K a) H1
def iTup(K:W.Frag)(tl:TE):TI:=fun σ H R=>tl σ H fun x H1=>∃ a,x=.ref a/\(∃ xs,SqT K H1 a xs)/\R (Itt K a) H1
theorem zrS{l:Expr}{tl:TE}(hl:PE X l tl):PI X tg l (zul X.K tl):=by
 intro pins s σ H R I h
 refine thn (hl pins s σ H _ I h) fun v s1 ⟨x,H1,I1,r1,q1⟩=>?_
 obtain ⟨a,e,⟨xs,hq⟩,q⟩:=q1
 subst e
 cases r1
 obtain ⟨its,rv,p,hz⟩:=I1.list hq
 refine wpAny_pyIter_list p.isList ?_
 refine ⟨s1.heap.objs.size,[s1.heap.objs.size],_,_,H1,rfl,I1.kept (t':=s1.toks) fun b o e=>Heap.get?_push_of_some _ e,zor a _,⟨_,Heap.get?_push_size _ rfl,rfl,rfl⟩,fun b hb=>?_,q⟩
 have e:b=s1.heap.objs.size:=by simpa using hb
 subst e
 exact I1.fpOk (Nat.le_refl _) (I1.hok.fresh (Nat.le_refl _))
theorem ztR{l:Expr}{tl:TE}(hl:PE X l tl):PI X tg l (iTup X.K tl):=by
 intro pins s σ H R I h
 refine thn (hl pins s σ H _ I h) fun v s1 ⟨x,H1,I1,r1,q1⟩=>?_
 obtain ⟨a,e,⟨xs,hq⟩,q⟩:=q1
 subst e
 cases r1
 obtain ⟨its,rv,p,hz⟩:=I1.tuple hq
 refine wpAny_pyIter_tuple (show s1.heap.IsTuple a its.toArray from p) ?_
 refine ⟨s1.heap.objs.size,[s1.heap.objs.size],_,_,H1,rfl,I1.kept (t':=s1.toks) fun b o e=>Heap.get?_push_of_some _ e,zlQ a _,⟨_,Heap.get?_push_size _ rfl,rfl,rfl⟩,fun b hb=>?_,q⟩
 have e:b=s1.heap.objs.size:=by simpa using hb
 subst e
 exact I1.fpOk (Nat.le_refl _) (I1.hok.fresh (Nat.le_refl _))
theorem zpD{pins:List (Addr×Obj)}{σ:St}{H:Hp}{s:Shared}{R:It->Hp->Prop}{E:Value->Shared->Prop}{lo hi:Int}{t u v:Tok}{tk:Nat}(I:Inv X pins σ H s)(h1:-(2 ^ 62)<=lo)(h2:lo<2 ^ 62)(h3:-(2 ^ 62)<=hi)(h4:hi<2 ^ 62)
  (q:R (Itr lo (hi-lo).toNat) H):wpAny (model X.prog X.w) X.A (pyIter (.ref s.heap.objs.size)) (PIE X pins σ tg R) E { s with heap:=s.heap.push { cls:=.type "range",data:=.fields #[.int lo t,.int hi u,.int 1 v] },toks:=tk }:=by
 refine wpAny_pyIter_range (IsRange.new ..) (small_one h1 h2 h3 h4) ?_
 have I1:Inv X pins σ H { s with heap:=s.heap.push { cls:=.type "range",data:=.fields #[.int lo t,.int hi u,.int 1 v] },toks:=tk }:=I.kept fun b o e=>Heap.get?_push_of_some _ e
 refine ⟨(s.heap.push { cls:=.type "range",data:=.fields #[.int lo t,.int hi u,.int 1 v] }).objs.size,[(s.heap.push { cls:=.type "range",data:=.fields #[.int lo t,.int hi u,.int 1 v] }).objs.size],_,_,H,rfl,
  I1.kept (t':=tk) fun b o e=>Heap.get?_push_of_some _ e,zlS _ lo (hi-lo).toNat,?_,fun b hb=>?_,q⟩
 ·have e1:lo+((0:Nat):Int) * 1=lo:=by simp
  have e2:(((hi-lo).toNat:Nat):Int)-((0:Nat):Int)=Builtin.Range.rangeSize lo hi 1:=by rw[rangeSize_one];split <;> omega
  show IsRangeIter _ _ (lo+((0:Nat):Int) * 1) ((((hi-lo).toNat:Nat):Int)-((0:Nat):Int)) 1
  rw[e1,e2]
  exact Heap.get?_push_size _ rfl
 ·have e:b=(s.heap.push { cls:=.type "range",data:=.fields #[.int lo t,.int hi u,.int 1 v] }).objs.size:=by simpa using hb
  subst e
  exact I1.fpOk (Nat.le_refl _) (I1.hok.fresh (Nat.le_refl _))
def zu8(ta:TA):TI:=fun σ H R=>ta σ H fun vs H1=>∃ j:Int,vs=[.int j]/\-(2 ^ 62)<=j/\j<2 ^ 62/\R (Itr 0 j.toNat) H1
theorem zmN{a:Expr}{ta:TA}{p pos:Pos}(hg:Gl X "range")(hm:X.mg "range"=none)(ha:PA X [a] ta)(hs:starEach [a] X.env=[(false,eval a X.env)]:=by rfl):PI X tg (.Call (.Name "range" p) [a] [] pos) (zu8 ta):=by
 intro pins s σ H R I h
 refine Call_ (zhR I hg hm boot_range (PyProof.Rows.callWith_type1 (thn (ha pos pins s σ H _ I h) fun us s1 ⟨vs,H1,I1,r1,q1⟩=>?_) hs rfl))
 obtain ⟨j,e,q1,q2,q⟩:=q1
 subst e
 cases r1 with
 |cons r rr =>
  cases rr
  obtain ⟨t,rfl⟩:=r
  exact call_range_1 (zpD I1 (by omega) (by omega) q1 q2 (by simpa using q))
def tFor(wi:TI)(g:TG)(tb:TS):TS:=fun D σ H=>wi σ H fun J H1=>∃ W:Nat->Nat->St->Hp->Prop,(∃ m,W 0 m σ H1)/\∀ i m σ H,W i m σ H ->
 (J.stop i H/\D.nx σ H)\/(J.go i H/\∃ N:St->Hp->Prop,(∀ σ' H',N σ' H'->∃ m',m'<m/\W (i+1) m' σ' H')/\∀ x H',J.yld i H x H'->g x σ H' fun σ2 H2=>tb { D with nx:=N,ct:=N,bk:=D.nx } σ2 H2)
def zde(fp:List Addr)(h:Heap):List (Addr×Obj):=fp.filterMap fun b=>(h.get? b).map fun o=>(b,o)
theorem zcG{fp:List Addr}{h:Heap}{b:Addr}{o:Obj}(hb:b∈fp)(e:h.get? b=some o):(b,o)∈zde fp h:=List.mem_filterMap.mpr ⟨b,hb,by rw[e];rfl⟩
theorem zos{fp:List Addr}{h:Heap}{p:Addr×Obj}(hp:p∈zde fp h):p.1∈fp/\h.get? p.1=some p.2:=by
 obtain ⟨b,hb,e⟩:=List.mem_filterMap.mp hp
 cases q:h.get? b with
 |none=>rw[q] at e;cases e
 |some o =>
  rw[q] at e
  have e':(b,o)=p:=Option.some.inj e
  subst e'
  exact ⟨hb,q⟩
theorem Inv.pinned{pins:List (Addr×Obj)}{σ:St}{H:Hp}{s:Shared}{fp:List Addr}(I:Inv X pins σ H s)(hf:∀ b∈fp,zhu X pins H b)(ho:∀ b∈fp,∃ o,s.heap.get? b=some o/\∀ v,o.data≠.cell v):Inv X (pins++zde fp s.heap) σ H s :=
 I.pins_of fun p hp=>(List.mem_append.mp hp).elim (fun z=>I.pin p (List.mem_append_right _ z)) fun z=>by
  obtain ⟨hb,e⟩:=zos z
  obtain ⟨f0,f1,f2,_⟩:=hf p.1 hb
  obtain ⟨o,e',d⟩:=ho p.1 hb
  rw[e] at e';cases e'
  exact ⟨e,f0,f1,f2,d⟩
theorem Inv.unpinned{pins pl:List (Addr×Obj)}{σ:St}{H:Hp}{s:Shared}(I:Inv X (pins++pl) σ H s):Inv X pins σ H s:=I.pins_of fun p hp=>I.pin p (List.mem_append_right _ (List.mem_append_left _ hp))
theorem zsz{iter:Expr}{body:List Stmt}{wi:TI}{g:TG}{tb:TS}{pos:Pos}(hp:PassesOwn (model X.prog X.w) X.A X.env X.xe)(hc:X.calm=true)(hi:PI X tg iter wi)(hg:PG X tg g)(hb:PSs X body tb)
  (hs:∀ x,foldedSetIterable iter X.env x=pure x:=by intro _;rfl):PS X (.For tg iter body [] pos) (tFor wi g tb):=by
 intro pins s σ H D I h
 refine wpAny_For (thn (hi pins s σ H _ I h) fun v s1 h1=>thn h1 fun itv s2 h2=>?_) hs
 obtain ⟨it,fp,tn,J,H2,e,I2,T,st2,f2,W,⟨m0,w0⟩,turn⟩:=h2
 subst e
 have stat:∀{H':Hp},(∀ b∈fp,H' b=none)->∀ b∈fp,zhu X pins H' b:=fun hn b hb=>⟨hn b hb,(f2 b hb).2⟩
 refine codeAny_forLoop_any (fun n s'=>∃ i σ' H',Inv X pins σ' H' s'/\tn i s'.heap/\(∀ b∈fp,H' b=none)/\W i n σ' H') ?_ m0 ⟨0,σ,H2,I2,st2,fun b hb=>(f2 b hb).1,w0⟩
 rintro n s3 ⟨i,σ3,H3,I3,st3,fr3,w3⟩
 rcases turn i n σ3 H3 w3 with ⟨stop,qn⟩|⟨go,N,hN,step⟩
 ·refine wpAny_passesOwn hp (thn (T.done X rfl rfl rfl hc i pins s3 σ3 H3 X.xe I3 (stat fr3) st3 stop) fun r s4 ⟨hr,I4⟩=>?_)
  subst hr
  exact wpAny_execs_nil ⟨σ3,H3,I4,qn⟩
 ·refine wpAny_passesOwn hp (thn (T.item X rfl rfl rfl hc i pins s3 σ3 H3 X.xe I3 (stat fr3) st3 go) fun r s4 ⟨u,hr,h4⟩=>?_)
  subst hr
  refine wpAny_passesOwn hp (thn h4 fun _ s5 ⟨x,H5,I5,r5,y5,st5,fr5⟩=>?_)
  have I5':=I5.pinned (stat fr5) (T.obj _ _ st5)
  refine wpAny_passesOwn hp (thn (hg _ s5 σ3 H5 x u _ I5' r5 (step x H5 y5)) fun _ s6 ⟨σ6,H6,I6,q6⟩=>?_)
  refine wpAny_passesOwn hp (thn (hb _ s6 σ6 H6 _ I6 q6) fun f s7 q7=>?_)
  have again:∀{σ7:St}{H7:Hp},Inv X (pins++zde fp s5.heap) σ7 H7 s7->N σ7 H7->∃ m,m<n/\∃ i σ' H',Inv X pins σ' H' s7/\tn i s7.heap/\(∀ b∈fp,H' b=none)/\W i m σ' H':=fun {σ7 H7} I7 n7=>by
   obtain ⟨m',hm,w7⟩:=hN σ7 H7 n7
   refine ⟨m',hm,i+1,σ7,H7,I7.unpinned,T.keep _ _ _ st5 fun b hb o e=>(I7.pin (b,o) (List.mem_append_right _ (List.mem_append_right _ (zcG hb e)))).1,fun b hb=>?_,w7⟩
   obtain ⟨o,e,d⟩:=T.obj _ _ st5 b hb
   exact (I7.pin (b,o) (List.mem_append_right _ (List.mem_append_right _ (zcG hb e)))).2.1
  cases f with
  |next=>obtain ⟨σ7,H7,I7,n7⟩:=q7;exact again I7 n7
  |cont=>obtain ⟨σ7,H7,I7,n7⟩:=q7;exact again I7 n7
  |brk=>obtain ⟨σ7,H7,I7,q7⟩:=q7;exact ⟨σ7,H7,I7.unpinned,q7⟩
  |ret v=>obtain ⟨x7,σ7,H7,I7,r7,q7⟩:=q7;exact ⟨x7,σ7,H7,I7.unpinned,r7,q7⟩
end
end L2
namespace L2
open PySem PySem.Spec PyProof.Rows
abbrev R2:=V->V->Hp->VK->Prop
def OpR(X:Cx)(f:Value->Value->Sem Value)(r:R2):Prop :=
 ∀(pins:List (Addr×Obj))(s:Shared)(σ:St)(H:Hp)(x y:V)(v u:Value)(Q:VK),Inv X pins σ H s->zcj x v->zcj y u->r x y H Q ->
  wpAny (model X.prog X.w) X.A (f v u) (EP X pins σ Q) X.xe s
def UnR(X:Cx)(f:Value->Sem Value)(r:V->Hp->VK->Prop):Prop :=
 ∀(pins:List (Addr×Obj))(s:Shared)(σ:St)(H:Hp)(x:V)(v:Value)(Q:VK),Inv X pins σ H s->zcj x v->r x H Q ->
  wpAny (model X.prog X.w) X.A (f v) (EP X pins σ Q) X.xe s
def zcE(X:Cx)(f:Value)(r:List V->Hp->VK->Prop):Prop :=
 ∀(pins:List (Addr×Obj))(s:Shared)(σ:St)(H:Hp)(xs:List V)(us:List Value)(Q:VK),Inv X pins σ H s->zbe xs us->r xs H Q ->
  wpAny (model X.prog X.w) X.A (call f us) (EP X pins σ Q) X.xe s
def tOp(r:R2)(ta tb:TE):TE:=fun σ H Q=>ta σ H fun x H1=>tb σ H1 fun y H2=>r x y H2 Q
def tUn(r:V->Hp->VK->Prop)(ta:TE):TE:=fun σ H Q=>ta σ H fun x H1=>r x H1 Q
def rI(C:Int->Int->Prop)(g:Int->Int->V):R2:=fun x y H Q=>∃ i j,x=.int i/\y=.int j/\C i j/\Q (g i j) H
def rI0(g:Int->Int->V):R2:=fun x y H Q=>∃ i j,x=.int i/\y=.int j/\Q (g i j) H
def rU(g:Int->V):V->Hp->VK->Prop:=fun x H Q=>∃ i,x=.int i/\Q (g i) H
section
variable{X:Cx}{a b c:Expr}{ta tb tc:TE}{pos:Pos}
theorem zuw(ha:PE X a ta)(hb:PE X b tb){pins:List (Addr×Obj)}{s:Shared}{σ:St}{H:Hp}{R:V->V->Hp->Prop}(I:Inv X pins σ H s)
  (h:ta σ H fun x H1=>tb σ H1 fun y H2=>R x y H2) {Q:Value->Shared->Prop} {f:Value->Value->Sem Value}
  (hf:∀ v u s2 x y H2,Inv X pins σ H2 s2->zcj x v->zcj y u->R x y H2->wpAny (model X.prog X.w) X.A (f v u) Q X.xe s2) :
  wpAny (model X.prog X.w) X.A (eval a X.env) (fun v s₁=>wpAny (model X.prog X.w) X.A (eval b X.env) (fun u s₂=>wpAny (model X.prog X.w) X.A (f v u) Q X.xe s₂) X.xe s₁) X.xe s:=by
 refine thn (ha pins s σ H _ I h) fun v s1 ⟨x,H1,I1,r1,q1⟩=>?_
 refine thn (hb pins s1 σ H1 _ I1 q1) fun u s2 ⟨y,H2,I2,r2,q2⟩=>?_
 exact hf v u s2 x y H2 I2 r1 r2 q2
theorem ztx{op:Operator}{r:R2}(ho:OpR X (binaryOp op) r)(ha:PE X a ta)(hb:PE X b tb):PE X (.BinOp a op b pos) (tOp r ta tb):=by
 intro pins s σ H Q I h
 exact wpAny_BinOp (zuw ha hb I h fun v u s2 x y H2 I2 rx ry q=>ho pins s2 σ H2 x y v u Q I2 rx ry q)
theorem zu9{op:UnaryOp}{r:V->Hp->VK->Prop}(ho:UnR X (unaryOp op) r)(ha:PE X a ta):PE X (.UnaryOp op a pos) (tUn r ta):=by
 intro pins s σ H Q I h
 exact UnaryOp_ (thn (ha pins s σ H _ I h) fun v s1 ⟨x,H1,I1,r1,q1⟩=>ho pins s1 σ H1 x v Q I1 r1 q1)
theorem opI{f:Value->Value->Sem Value}{C:Int->Int->Prop}{g:Int->Int->Int}
  (rule:∀(i j:Int)(t u:Tok)(s:Shared)(Q:Value->Shared->Prop)(E:Value->Shared->Prop),C i j->Q (.int (g i j) s.toks) { s with toks:=s.toks+1 }->wpAny (model X.prog X.w) X.A (f (.int i t) (.int j u)) Q E s) :
  OpR X f (rI C fun i j=>.int (g i j)):=by
 intro pins s σ H x y v u Q I rx ry h
 obtain ⟨i,j,rfl,rfl,hc,q⟩:=h
 obtain ⟨t,rfl⟩:=rx
 obtain ⟨t',rfl⟩:=ry
 exact rule i j t t' s _ _ hc ⟨.int (g i j),H,I.tok _,⟨_,rfl⟩,q⟩
theorem opI0{f:Value->Value->Sem Value}{g:Int->Int->Int}
  (rule:∀(i j:Int)(t u:Tok)(s:Shared)(Q:Value->Shared->Prop)(E:Value->Shared->Prop),Q (.int (g i j) s.toks) { s with toks:=s.toks+1 }->wpAny (model X.prog X.w) X.A (f (.int i t) (.int j u)) Q E s) :
  OpR X f (rI0 fun i j=>.int (g i j)):=by
 intro pins s σ H x y v u Q I rx ry h
 obtain ⟨i,j,rfl,rfl,q⟩:=h
 obtain ⟨t,rfl⟩:=rx
 obtain ⟨t',rfl⟩:=ry
 exact rule i j t t' s _ _ ⟨.int (g i j),H,I.tok _,⟨_,rfl⟩,q⟩
theorem ztX{f:Value->Value->Sem Value}{g:Int->Int->Bool}
  (rule:∀(i j:Int)(t u:Tok)(s:Shared)(Q:Value->Shared->Prop)(E:Value->Shared->Prop),Q (.bool (g i j)) s->wpAny (model X.prog X.w) X.A (f (.int i t) (.int j u)) Q E s) :
  OpR X f (rI0 fun i j=>.bl (g i j)):=by
 intro pins s σ H x y v u Q I rx ry h
 obtain ⟨i,j,rfl,rfl,q⟩:=h
 obtain ⟨t,rfl⟩:=rx
 obtain ⟨t',rfl⟩:=ry
 exact rule i j t t' s _ _ ⟨.bl (g i j),H,I,rfl,q⟩
def CDiv(i j:Int):Prop:=0<j/\j<1073741824
def CPow(i j:Int):Prop:=0<=j/\j<=1000000/\i.natAbs<2 ^ 64
def zub(i j:Int):Prop:=(-(2 ^ 64)<i/\i<2 ^ 64)\/(-(2 ^ 64)<j/\j<2 ^ 64)
theorem zub.ok{i j:Int}(h:zub i j):IntMulOk i j:=by
 rcases h with ⟨h1,h2⟩|⟨h1,h2⟩
 ·exact .of_left (intBits_le_64 h1 h2)
 ·exact .of_right (intBits_le_64 h1 h2)
theorem ztG:OpR X (binaryOp .Add) (rI0 fun i j=>.int (i+j)):=opI0 fun _ _ _ _ _ _ _ q=>add_int q
theorem zsI:OpR X (binaryOp .Sub) (rI0 fun i j=>.int (i-j)):=opI0 fun _ _ _ _ _ _ _ q=>sub_int q
theorem ztd:OpR X (binaryOp .Mult) (rI zub fun i j=>.int (i * j)):=opI fun _ _ _ _ _ _ _ hc q=>mul_int q hc.ok
theorem zsf:OpR X (binaryOp .FloorDiv) (rI CDiv fun i j=>.int (i / j)):=opI fun i j _ _ _ _ _ hc q=>by
 have h1:(0:Int)<j:=hc.1
 have h2:j<1073741824:=hc.2
 exact floordiv_int (by omega) (by rw[Int.fdiv_eq_ediv_of_nonneg i (by omega)];exact q) (.inl (PyProof.noPylong_small (by omega)))
theorem zs1:OpR X (binaryOp .Mod) (rI (fun _ j=>0<j) fun i j=>.int (i % j)):=opI fun i j _ _ _ _ _ hc q=>by
 have h1:(0:Int)<j:=hc
 exact mod_int' (by omega) (by rw[Int.fmod_eq_emod_of_nonneg i (by omega)];exact q)
theorem zsC:OpR X (binaryOp .Pow) (rI CPow fun i j=>.int (i ^ j.toNat)):=opI fun _ _ _ _ _ _ _ hc q=>pow_int_small hc.1 hc.2.1 hc.2.2 q
theorem unI{f:Value->Sem Value}{g:Int->Int}
  (rule:∀(i:Int)(t:Tok)(s:Shared)(Q:Value->Shared->Prop)(E:Value->Shared->Prop),Q (.int (g i) s.toks) { s with toks:=s.toks+1 }->wpAny (model X.prog X.w) X.A (f (.int i t)) Q E s) :
  UnR X f (rU fun i=>.int (g i)):=by
 intro pins s σ H x v Q I rx h
 obtain ⟨i,rfl,q⟩:=h
 obtain ⟨t,rfl⟩:=rx
 exact rule i t s _ _ ⟨.int (g i),H,I.tok _,⟨_,rfl⟩,q⟩
theorem zsU:UnR X (unaryOp .USub) (rU fun i=>.int (-i)):=unI fun _ _ _ _ _ q=>neg_int q
end
section
variable{X:Cx}{a b c:Expr}{ta tb tc:TE}{pos:Pos}
theorem zte{pins:List (Addr×Obj)}{σ:St}{H:Hp}{s:Shared}{Q:VK}{k k':Bool}(I:Inv X pins σ H s)(q:Q (.bl k) H)(e:k=k'):EP X pins σ Q (.bool k') s:=by
 subst e
 exact ⟨.bl k,H,I,rfl,q⟩
theorem zrK:OpR X (compareOp .Lt) (rI0 fun i j=>.bl (decide (i<j))):=ztX fun _ _ _ _ _ _ _ q=>lt_int q
theorem zux:OpR X (compareOp .LtE) (rI0 fun i j=>.bl (decide (i<=j))):=ztX fun _ _ _ _ _ _ _ q=>le_int q
theorem zsr:OpR X (compareOp .Gt) (rI0 fun i j=>.bl (decide (j<i))):=ztX fun _ _ _ _ _ _ _ q=>gt_int q
theorem zsp:OpR X (compareOp .GtE) (rI0 fun i j=>.bl (decide (j<=i))):=ztX fun _ _ _ _ _ _ _ q=>ge_int q
theorem zkb:OpR X (compareOp .In) (fun x y H Q=>∃ i j,x=.str i/\y=.str j/\Q (.bl (!(Builtin.Str.occurrences j i 0 j.length 1).isEmpty)) H):=by
 intro pins s σ H x y v u Q I rx ry h
 obtain ⟨i,j,rfl,rfl,q⟩:=h
 obtain ⟨t,rfl⟩:=rx
 obtain ⟨t',rfl⟩:=ry
 exact in_str (zte I q rfl)
theorem OpR.or{f:Value->Value->Sem Value}{r r':R2}(h:OpR X f r)(h':OpR X f r'):OpR X f (fun x y H Q=>r x y H Q\/r' x y H Q):=by
 intro pins s σ H x y v u Q I rx ry q
 rcases q with q|q
 ·exact h pins s σ H x y v u Q I rx ry q
 ·exact h' pins s σ H x y v u Q I rx ry q
theorem zeA(b:Expr){op:CmpOp}(h:op≠.In:=by decide)(h2:op≠.NotIn:=by decide):behindInMarks op b=false:=by
 have e1:(op == CmpOp.In)=false:=by cases op <;> first|rfl|exact absurd rfl h
 have e2:(op == CmpOp.NotIn)=false:=by cases op <;> first|rfl|exact absurd rfl h2
 cases b <;> simp[behindInMarks,e1,e2]
theorem zqX{op:CmpOp}{r:R2}(ho:OpR X (compareOp op) r)(ha:PE X a ta)(hb:PE X b tb)(hm:behindInMarks op b=false):PE X (.Compare a [op] [b] pos) (tOp r ta tb):=by
 intro pins s σ H Q I h
 exact wpAny_Compare1 (zuw ha hb I h fun v u s2 x y H2 I2 rx ry q=>ho pins s2 σ H2 x y v u Q I2 rx ry q) hm
def zu0(t:TE):TT:=fun σ H Q=>t σ H fun x H'=>∃ k,x=.bl k/\Q k H'
theorem zis{op:CmpOp}{r:R2}(ho:OpR X (compareOp op) r)(ha:PE X a ta)(hb:PE X b tb)(hm:behindInMarks op b=false):PT X (.Compare a [op] [b] pos) (zu0 (tOp r ta tb)):=by
 intro pins s σ H Q I h
 refine wpAny_isTrue_Compare1 (thn (ha pins s σ H _ I h) fun v s1 ⟨x,H1,I1,r1,q1⟩=>thn (hb pins s1 σ H1 _ I1 q1) fun u s2 ⟨y,H2,I2,r2,q2⟩ =>
  thn (ho pins s2 σ H2 x y v u _ I2 r1 r2 q2) fun c s3 ⟨z,H3,I3,r3,k,e,q3⟩=>?_) hm
 subst e
 cases r3
 exact wpAny_truthy_bool ⟨H3,I3,q3⟩
def zqd(r r':R2)(ta tb tc:TE):TE:=fun σ H Q=>ta σ H fun x H1=>tb σ H1 fun y H2=>r x y H2 fun z H3=>∃ k,z=.bl k /\
 (if k=true then tc σ H3 fun w' H4=>r' y w' H4 Q else Q (.bl false) H3)
theorem zpO{op op':CmpOp}{r r':R2}(ho:OpR X (compareOp op) r)(ho':OpR X (compareOp op') r')(ha:PE X a ta)(hb:PE X b tb)(hc:PE X c tc)
  (hm:lastMarks [op,op'] [b,c]=false:=by with_unfolding_all rfl):PE X (.Compare a [op,op'] [b,c] pos) (zqd r r' ta tb tc):=by
 intro pins s σ H Q I h
 refine Compare_chain (thn (ha pins s σ H _ I h) fun v s1 ⟨x,H1,I1,r1,q1⟩=>chain_link (thn (hb pins s1 σ H1 _ I1 q1) fun u s2 ⟨y,H2,I2,r2,q2⟩ =>
  thn (ho pins s2 σ H2 x y v u _ I2 r1 r2 q2) fun d s3 ⟨z,H3,I3,r3,k,e,q3⟩=>?_)) hm
 subst e
 cases r3
 refine wpAny_truthy_bool ?_
 cases k with
 |false=>exact ite_ff ⟨.bl false,H3,I3,rfl,q3⟩
 |true=>exact ite_tt (chain_last (thn (hc pins s3 σ H3 _ I3 q3) fun w' s4 ⟨z',H4,I4,r4,q4⟩=>ho' pins s4 σ H4 y z' u w' Q I4 r2 r4 q4))
theorem zhY:(sizeLine:Nat)<2 ^ 63:=by rw[sizeLine_eq];decide
theorem zlV:OpR X (binaryOp .Add) (fun x y H Q=>∃ i j,x=.str i/\y=.str j/\i.length+j.length<=sizeLine/\Q (.str (i++j)) H):=by
 intro pins s σ H x y v u Q I rx ry h
 obtain ⟨i,j,rfl,rfl,hz,q⟩:=h
 obtain ⟨t,rfl⟩:=rx
 obtain ⟨t',rfl⟩:=ry
 exact add_str (fun t' tk=>⟨.str (i++j),H,I.tok _,⟨_,rfl⟩,q⟩) hz
theorem zhz{x:V}{us:List Value}(r:zbe [x] us):∃ u,us=[u]/\zcj x u:=by
 cases r with
 |cons r1 r2=>cases r2;exact ⟨_,rfl,r1⟩
theorem zkc{x y:V}{us:List Value}(r:zbe [x,y] us):∃ u w',us=[u,w']/\zcj x u/\zcj y w':=by
 cases r with
 |cons r1 r2 =>
  cases r2 with
  |cons r3 r4=>cases r4;exact ⟨_,_,rfl,r1,r3⟩
theorem zoq(hc:X.calm=true):zcE X (.builtin "max") (fun xs H Q=>∃ i j,xs=[.int i,.int j]/\Q (.int (if j > i then j else i)) H):=by
 intro pins s σ H xs us Q I r h
 obtain ⟨i,j,rfl,q⟩:=h
 obtain ⟨u,w',rfl,⟨t,rfl⟩,⟨t',rfl⟩⟩:=zkc r
 refine max_two_ints (I.ok.hd hc) fun h' tk k=>⟨_,H,I.kept k,?_,q⟩
 by_cases hj:j > i
 ·rw[if_pos hj,if_pos hj];exact ⟨_,rfl⟩
 ·rw[if_neg hj,if_neg hj];exact ⟨_,rfl⟩
theorem zol(hc:X.calm=true):zcE X (.builtin "min") (fun xs H Q=>∃ i j,xs=[.int i,.int j]/\Q (.int (if j<i then j else i)) H):=by
 intro pins s σ H xs us Q I r h
 obtain ⟨i,j,rfl,q⟩:=h
 obtain ⟨u,w',rfl,⟨t,rfl⟩,⟨t',rfl⟩⟩:=zkc r
 refine min_two_ints (I.ok.hd hc) fun h' tk k=>⟨_,H,I.kept k,?_,q⟩
 by_cases hj:j<i
 ·rw[if_pos hj,if_pos hj];exact ⟨_,rfl⟩
 ·rw[if_neg hj,if_neg hj];exact ⟨_,rfl⟩
theorem zj8:zcE X (.type "str") (fun xs H Q=>∃ i,xs=[.int i]/\i.natAbs.log2<1920/\Q (.str (toString i)) H):=by
 intro pins s σ H xs us Q I r h
 obtain ⟨i,rfl,hz,q⟩:=h
 obtain ⟨u,rfl,t,rfl⟩:=zhz r
 exact PySem.P.str_of_int hz ⟨.str _,H,I.tok _,⟨_,rfl⟩,q⟩
end
end L2
namespace L2
open PySem PySem.Spec PyProof.Rows
structure ObjM(h:Heap)(x dx C:Addr)(mA:Str->Option Value):Prop where
 obj:h.get? x=some (W.instObj C dx)
 ns:h.Ns1 dx mA
 ne:dx≠x
section
variable{prog:Program}{w:World}{A:Around}{E:Value->Shared->Prop}{s:Shared}{K:W.Frag}{x dx C f:Addr}{mA:Str->Option Value}{name:Str}{v:Value}
end
section
variable{P:Program}{w:World}{H H':Hp}{h h':Heap}{a C dx:Addr}{fs fs':List (Str×V)}
end
structure Cls(K:W.Frag)(C:Addr):Prop where
 pg:W.plainGet K C Str.empty=true
 hd:W.hasDictIn K C=true
 po:W.plainOver K C=true
 sa:W.findIn K (.ref C) "__setattr__"=some (some (.builtin "object.__setattr__"))
theorem Cls.get{K:W.Frag}{C:Addr}(c:Cls K C)(f:Str):W.plainGet K C f=true:=c.pg
structure Con(K:W.Frag)(C:Addr)(f:Str)(v:V)(u:Value):Prop where
 at_:W.findIn K (.ref C) f=some (some u)
 rel:zcj v u
 get:W.specialIn K u "__get__"=some none
 cp:W.copiedNames.contains f=false
structure Meth(K:W.Frag)(C:Addr)(m:Str)(f:Addr):Prop where
 at_:W.findIn K (.ref C) m=some (some (.ref f))
 fn:W.isFn K (.ref f)=true
 kp:W.keepIn K (.ref f)=true
section
variable{X:Cx}{pins:List (Addr×Obj)}{σ:St}{H:Hp}{s:Shared}{a C dx:Addr}{fs:List (Str×V)}{f:Str}{v:V}{A:Around}{E:Value->Shared->Prop}
end
section
variable{X:Cx}{o e value:Expr}{f:Str}{pos pos' tpos:Pos}{ta tv:TE}
end
section
variable{X:Cx}{pins:List (Addr×Obj)}{σ:St}{H:Hp}{s:Shared}{A:Around}{E:Value->Shared->Prop}{Q:Value->Shared->Prop}{c:Value}{b:Bool}
inductive znd(K:W.Frag)(H:Hp):V->Value->Prop where
 |non:znd K H .non (.type "NoneType")
 |bl (x:Bool):znd K H (.bl x) (.type "bool")
 |int (i:Int):znd K H (.int i) (.type "int")
 |str (x:Str):znd K H (.str x) (.type "str")
 |flt (x:UInt64):znd K H (.flt x) (.type "float")
 |lst {a:Addr} {xs:List V} (e:H a=some (.lst xs)):znd K H (.ref a) (.type "list")
 |frz {a:Addr} {o:Obj} {xs:List V} (e:H a=some (.frz o (.lst xs))):znd K H (.ref a) (.type "list")
 |tup {a:Addr} {xs:List V} (e:H a=some (.tup xs)):znd K H (.ref a) (.type "tuple")
 |dK {a:Addr} {kvs:List (Key×V)} (e:H a=some (.dK kvs)):znd K H (.ref a) (.type "dict")
 |dT {a:Addr} {kvs:List (List Key×V)} (e:H a=some (.dT kvs)):znd K H (.ref a) (.type "dict")
 |ins {a C dx:Addr} {fs:List (Str×V)} (e:H a=some (.ins C dx fs)) (cl:Cls K C) (ha:W.findIn K (.ref C) "__class__"=some (some (.builtin "object.__class__")))
   (hn:W.specialIn K (.builtin "object.__class__") "__get__"=some (some (.builtin "getset_descriptor.__get__"))) (htk:W.takesIn K (.builtin "object.__class__")=some true)
   (hm:W.mroIn K C (.type "object")=some true):znd K H (.ref a) (.ref C)
end
end L2
namespace L2
open PySem PySem.Spec PyProof.Rows
structure zdV(k:Nat)(A:Around):Prop where
 hd:A.handled=none
 dp:A.depth+3 * k+5<recursionLimit
 un:A.units+16 * k+200<cLine
theorem zdV.mono{j k:Nat}{A:Around}(r:zdV k A)(h:j<=k):zdV j A:=⟨r.hd,by have:=r.dp;omega,by have:=r.un;omega⟩
theorem zdV.deeper{k:Nat}{A:Around}(r:zdV (k+1) A)(env:Env):zdV k (A.deeper env) :=
 ⟨r.hd,by have:=r.dp;show A.depth+1+3 * k+5<_;omega,by have:=r.un;show A.units+3+16 * k+200<_;omega⟩
theorem zdV.in1{k:Nat}{A:Around}(r:zdV (k+1) A):zdV k A.in1 :=
 ⟨r.hd,by have:=r.dp;show A.depth+3 * k+5<_;omega,by have:=r.un;show A.units+1+16 * k+200<_;omega⟩
theorem zdV.depth{k:Nat}{A:Around}(r:zdV k A):A.depth<recursionLimit:=by have:=r.dp;omega
theorem zdV.units{k:Nat}{A:Around}(r:zdV k A):A.units+64<cLine:=by have:=r.un;omega
def zui:TA:=fun _ H Q=>Q [] H
def zrf(ta:TE)(tr:TA):TA:=fun σ H Q=>ta σ H fun x H1=>tr σ H1 fun xs H2=>Q (x::xs) H2
section
variable{X:Cx}{e:Expr}{es:List Expr}{te:TE}{t:TA}{pos:Pos}
theorem zb3:PA X [] zui:=fun _ _ _ _ H Q I h=>Calls.spliced_nil ⟨[],H,I,.nil,h⟩
theorem zaE(ha:PE X e te)(hr:PA X es t)(hs:starEach (e::es) X.env=(false,eval e X.env)::starEach es X.env:=by rfl):PA X (e::es) (zrf te t):=by
 intro pos pins s σ H Q I h
 rw[hs]
 show wpAny _ _ (spliced ((false,eval e X.env)::backTo pos (starEach es X.env))) _ _ s
 refine Calls.spliced_cons (thn (ha pins s σ H _ I h) fun u s1 ⟨x,H1,I1,r1,q1⟩=>?_)
 exact thn (hr pos pins s1 σ H1 _ I1 q1) fun us s2 ⟨xs,H2,I2,r2,q2⟩=>⟨x::xs,H2,I2,.cons r1 r2,q2⟩
def tTup(t:TA):TE:=fun σ H Q=>t σ H fun xs H1=>xs.length<=sizeLine/\∀ p,H1 p=none->Q (.ref p) (upd H1 p (.tup xs))
def zug(t:TA):TE:=fun σ H Q=>t σ H fun xs H1=>xs.length<=sizeLine/\∀ p,H1 p=none->Q (.ref p) (upd H1 p (.lst xs))
theorem zq0{x1}(h:PA X es t):PE X (.Tuple es x1 pos) (tTup t):=by
 intro pins s σ H Q I hq
 refine wpAny_Tuple_spliced (thn (h pos pins s σ H _ I hq) fun us s1 ⟨xs,H1,I1,r,z,q⟩=>⟨by rw[<- r.length];exact z,?_⟩)
 have hf:H1 s1.heap.objs.size=none:=I1.hok.fresh (Nat.le_refl _)
 refine ⟨.ref s1.heap.objs.size,upd H1 s1.heap.objs.size (.tup xs),I1.laid (t':=s1.toks) (fun b u e=>Heap.get?_push_of_some _ e) (Nat.le_refl _) ?_,rfl,q _ hf⟩
 exact ⟨z,us,r,⟨_,Heap.get?_push_size _ rfl⟩⟩
theorem zl5(h:PA X es t):PE X (.List es pos) (zug t):=by
 intro pins s σ H Q I hq
 refine wpAny_List_spliced (thn (h pos pins s σ H _ I hq) fun us s1 ⟨xs,H1,I1,r,z,q⟩=>⟨by rw[<- r.length];exact z,?_⟩)
 have hf:H1 s1.heap.objs.size=none:=I1.hok.fresh (Nat.le_refl _)
 refine ⟨.ref s1.heap.objs.size,upd H1 s1.heap.objs.size (.lst xs),I1.laid (t':=s1.toks) (fun b u e=>Heap.get?_push_of_some _ e) (Nat.le_refl _) ?_,rfl,q _ hf⟩
 exact ⟨z,us,0,r,Heap.get?_push_size _ rfl⟩
end
abbrev Sp:=List V->Hp->VK->XK->Prop
abbrev CXT:=List Env->Hp->Shared->XK->Value->Shared->Prop
structure zpf(P:Program)(w:World)(K:W.Frag)(mg:Str->Option Value)(base:Heap)(A:Around)(outer:List Env)(s:Shared)(H:Hp):Prop where
 frames:A.frames=some outer
 mod:Mod K mg base
 bs:∀ b o,base.get? b=some o->s.heap.get? b=some o/\H b=none
 bsz:base.objs.size<=s.heap.objs.size
 funs:s.heap.FunFrames base outer
 frf:∀ b∈frs outer,H b=none
 hok:HOk P w H s.heap
 bare:AllBare s.gens
def CE(outer:List Env)(P:Program)(w:World)(H:Hp)(s:Shared)(Q:VK)(u:Value)(s':Shared):Prop :=
 ∃ v H',s'.os=s.os/\AllBare s'.gens/\Un (frs outer) [] H H' s.heap s'.heap/\HOk P w H' s'.heap/\zcj v u/\Q v H'
def CR(CX:CXT)(outer:List Env)(P:Program)(w:World)(H:Hp)(s:Shared)(Q:VK)(E:XK)(r:Result)(s':Shared):Prop :=
 match r with
 |.ok (.ret u)=>CE outer P w H s Q u s'
 |.ok _=>False
 |.error e=>CX outer H s E e s'
structure zgi(P:Program)(w:World)(K:W.Frag)(mg:Str->Option Value)(base:Heap)(CX:CXT)(k:Nat)(f:Addr)(fd:FuncData)(ps:List Str)(sp:Sp):Prop where
 len:∀ vs H Q E,sp vs H Q E->vs.length=ps.length
 run:∀(A:Around)(outer:List Env)(s:Shared)(H:Hp)(args:Args)(us:List Value)(vs:List V)(Q:VK)(E:XK),zdV k A->zpf P w K mg base A outer s H->BindsTo s fd args (ps.zip us)->zbe vs us->sp vs H Q E ->
  codeAny (model P w) A (.call (.ref f) args) (CR CX outer P w H s Q E) s
theorem zgi.mono{P:Program}{w:World}{K:W.Frag}{mg:Str->Option Value}{base:Heap}{CX:CXT}{j k:Nat}{f:Addr}{fd:FuncData}{ps:List Str}{sp:Sp}(F:zgi P w K mg base CX j f fd ps sp)(h:j<=k) :
  zgi P w K mg base CX k f fd ps sp:=⟨F.len,fun A outer s H args us vs Q E hr=>F.run A outer s H args us vs Q E (hr.mono h)⟩
theorem zgi.imp{P:Program}{w:World}{K:W.Frag}{mg:Str->Option Value}{base:Heap}{CX:CXT}{k:Nat}{f:Addr}{fd:FuncData}{ps:List Str}{sp sp':Sp}(F:zgi P w K mg base CX k f fd ps sp)
  (h:∀ vs H Q E,sp' vs H Q E->sp vs H Q E):zgi P w K mg base CX k f fd ps sp' :=
 ⟨fun vs H Q E q=>F.len vs H Q E (h _ _ _ _ q),fun A outer s H args us vs Q E hr he hb hv hs=>F.run A outer s H args us vs Q E hr he hb hv (h _ _ _ _ hs)⟩
theorem zpf.in1{P:Program}{w:World}{K:W.Frag}{mg:Str->Option Value}{base:Heap}{A:Around}{outer:List Env}{s:Shared}{H:Hp}(e:zpf P w K mg base A outer s H) :
  zpf P w K mg base A.in1 outer s H:=⟨e.frames,e.mod,e.bs,e.bsz,e.funs,e.frf,e.hok,e.bare⟩
section
variable{X:Cx}{pins:List (Addr×Obj)}{σ:St}{H:Hp}{s s':Shared}
theorem Inv.env0(I:Inv X pins σ H s):zpf X.prog X.w X.K X.mg X.base X.A X.stack s H :=
 ⟨I.ok.frames,I.ok.mod,I.bs,Nat.le_trans I.ok.bsz I.sz,I.stack,I.stkFree,I.hok,I.bare⟩
theorem Inv.after{Q:VK}{u:Value}(I:Inv X pins σ H s)(h:CE X.stack X.prog X.w H s Q u s'):EP X pins σ Q u s':=by
 obtain ⟨v,H',os,bare,un,hok,r,q⟩:=h
 obtain ⟨hh,g,d,t,os'⟩:=s'
 obtain rfl:os'=s.os:=os
 exact ⟨v,H',I.call (h':=hh) (g':=g) (d':=d) (t':=t) (ch:=[]) un hok bare (fun b z=>absurd z (by simp)),r,q⟩
end
def zqV(sp:Sp)(dvs:List V)(E:XK)(t:TA):TE:=fun σ H Q=>t σ H fun vs H1=>sp (vs++dvs) H1 Q E
def zfz(K:W.Frag)(fd:FuncData)(ps:List Str)(ds:List Value):Prop :=
 ∀(s:Shared)(us:List Value),K.In s.heap->(us++ds).length=ps.length->BindsTo s fd ⟨us,[]⟩ (ps.zip (us++ds))
theorem zfz.all{K:W.Frag}{fd:FuncData}{ps:List Str}(h:∀ us:List Value,us.length=ps.length->bindArgs fd ⟨us,[]⟩=pure (ps.zip us)):zfz K fd ps []:=fun s us _ hl=>by
 rw[List.append_nil] at hl ⊢
 exact .of_eq (h us hl)
def zd5(CX:CXT)(X:Cx)(E:XK):Prop:=∀(pins:List (Addr×Obj))(σ:St)(H:Hp)(s:Shared)(e:Value)(s':Shared),Inv X pins σ H s->CX X.stack H s E e s'->X.xe e s'
section
variable{X:Cx}{CX:CXT}{k:Nat}{f C:Addr}{fd:FuncData}{ps:List Str}{sp:Sp}{dvs:List V}{ds:List Value}{E:XK}{x m:Str}{p pos apos:Pos}{e o:Expr}{es:List Expr}{ta:TE}{t:TA}
theorem ztQ{pins:List (Addr×Obj)}{σ:St}{H:Hp}{s:Shared}{Q:VK}{us:List Value}{vs:List V}(F:zgi X.prog X.w X.K X.mg X.base CX k f fd ps sp)(hr:zdV k X.A)(hb:zfz X.K fd ps ds)(hd:zbe dvs ds)(hx:zd5 CX X E)
  (I:Inv X pins σ H s) (r:zbe vs us) (h:sp (vs++dvs) H Q E):wpAny (model X.prog X.w) X.A (call (.ref f) us) (EP X pins σ Q) X.xe s:=by
 have r2:zbe (vs++dvs) (us++ds):=r.append hd
 have hl:(us++ds).length=ps.length:=by rw[<- r2.length];exact F.len _ _ _ _ h
 refine wpAny_call (codeAny_mono (F.run X.A X.stack s H ⟨us,[]⟩ (us++ds) (vs++dvs) Q E hr I.env0 (hb s us I.kIn hl) r2 h) fun r s' hq=>?_)
 cases r with
 |error e=>exact hx pins σ H s e s' I hq
 |ok fl =>
  cases fl with
  |ret u=>exact I.after hq
  |next=>exact False.elim hq
  |brk=>exact False.elim hq
  |cont=>exact False.elim hq
theorem zn6(F:zgi X.prog X.w X.K X.mg X.base CX k f fd ps sp)(hr:zdV k X.A)(hg:Gl X x)(hm:X.mg x=some (.ref f))(hk:W.keepIn X.K (.ref f)=true)(hb:zfz X.K fd ps ds)(hd:zbe dvs ds)(hx:zd5 CX X E)
  (ha:PA X (e::es) t) (hdb:(x == ("__debug__" : Str))=false:=by decide) (he:starEach (e::es) X.env=(false,eval e X.env)::starEach es X.env:=by rfl) (hpl:(backTo pos (starEach es X.env)).any (·.1)=false:=by rfl) :
  PE X (.Call (.Name x p) (e::es) [] pos) (zqV sp dvs E t):=by
 intro pins s σ H Q I h
 refine wpAny_Call_Name_kw (zgS I hg hm ?_ hdb)
 refine W.callWith_K (h₀:=X.base) I.ok.mod.kin hk (thn (ha pos pins s σ H _ I h) fun us s1 ⟨vs,H1,I1,r,q⟩=>⟨I1.kIn,?_⟩) he hpl
 exact ztQ F hr hb hd hx I1 r q
structure Mk(K:W.Frag)(C f:Addr):Prop where
 makes:W.makesIn K C=true
 init:W.findIn K (.ref C) "__init__"=some (some (.ref f))
 fn:W.isFn K (.ref f)=true
 kp:W.keepIn K (.ref C)=true
end
section
variable{X:Cx}{CX:CXT}{k:Nat}{f C:Addr}{fd:FuncData}{ps ks:List Str}{sp:Sp}{E:XK}{x m:Str}{p pos apos kpos:Pos}{e o:Expr}{es:List Expr}{kws:List Keyword}{te ta:TE}{t tk:TA}{nm:Option Str}
structure KBinds(K:W.Frag)(fd:FuncData)(ps ks:List Str)(g:List Value->List Value->List Value)(gV:List V->List V->List V):Prop where
 to:∀(s:Shared)(us ws:List Value),K.In s.heap->(g us ws).length=ps.length->BindsTo s fd ⟨us,ks.zip ws⟩ (ps.zip (g us ws))
 rel:∀{vs:List V}{us:List Value}{zs:List V}{ws:List Value},zbe vs us->zbe zs ws->zbe (gV vs zs) (g us ws)
variable{g:List Value->List Value->List Value}{gV:List V->List V->List V}
end
structure zax(N P:List Str)(sc:Scope):Prop where
 kind:sc.kind=.function
 co:sc.isCoroutine=false
 gen:sc.isGenerator=false
 nd:N.Nodup
 pre:N.take P.length=P
 par:∀ x∈P,sc.names.lookup x=some .local\/sc.names.lookup x=some .cell
 nofree:∀ y∈sc.names,y.2≠.free
theorem zjp{kindOf:Str->Option NameKind}{x:Str}:∀{binds:List (Str×Value)}{m:Str->Option Value},(∀ v,(x,v)∉binds)->bindL kindOf binds m x=m x
 |[],_,_=>rfl
 | (n,v)::r,m,h=>by
  unfold bindL
  rw[zjp fun w hw=>h w (List.mem_cons_of_mem _ hw)]
  split
  ·have:x≠n:=by rintro rfl;exact h v List.mem_cons_self
   simp[this]
  ·rfl
theorem zjg{kindOf:Str->Option NameKind}{x:Str}:∀{binds:List (Str×Value)}{m:Str->Option Value},(∀ v,(x,v)∉binds)->bindC kindOf binds m x=m x
 |[],_,_=>rfl
 | (n,v)::r,m,h=>by
  unfold bindC
  rw[zjg fun w hw=>h w (List.mem_cons_of_mem _ hw)]
  split
  ·rfl
  ·have:x≠n:=by rintro rfl;exact h v List.mem_cons_self
   simp[this]
theorem zjT{kindOf:Str->Option NameKind}{x:Str}{v:Value}:∀{P:List Str}{vs:List Value}{i:Nat}{m:Str->Option Value},P.Nodup->P[i]? = some x->vs[i]? = some v->kindOf x=some .local ->
  bindL kindOf (P.zip vs) m x=some v
 |[],_,_,_,_,h,_,_=>by simp at h
 |_::_,[],_,_,_,_,h,_=>by simp at h
 |p::P,w::vs,0,m,nd,h1,h2,hk=>by
  simp at h1 h2;subst h1;subst h2
  show bindL kindOf ((p,w)::P.zip vs) m p=_
  unfold bindL
  rw[zjp fun v hv=>(List.nodup_cons.mp nd).1 (List.of_mem_zip hv).1,if_pos hk]
  simp
 |p::P,w::vs,i+1,m,nd,h1,h2,hk=>by
  show bindL kindOf ((p,w)::P.zip vs) m x=_
  unfold bindL
  exact zjT (i:=i) (List.nodup_cons.mp nd).2 (by simpa using h1) (by simpa using h2) hk
theorem zjr{kindOf:Str->Option NameKind}{x:Str}{v:Value}:∀{P:List Str}{vs:List Value}{i:Nat}{m:Str->Option Value},P.Nodup->P[i]? = some x->vs[i]? = some v->kindOf x≠some .local ->
  bindC kindOf (P.zip vs) m x=some v
 |[],_,_,_,_,h,_,_=>by simp at h
 |_::_,[],_,_,_,_,h,_=>by simp at h
 |p::P,w::vs,0,m,nd,h1,h2,hk=>by
  simp at h1 h2;subst h1;subst h2
  show bindC kindOf ((p,w)::P.zip vs) m p=_
  unfold bindC
  rw[zjg fun v hv=>(List.nodup_cons.mp nd).1 (List.of_mem_zip hv).1,if_neg hk]
  simp
 |p::P,w::vs,i+1,m,nd,h1,h2,hk=>by
  show bindC kindOf ((p,w)::P.zip vs) m x=_
  unfold bindC
  exact zjr (i:=i) (List.nodup_cons.mp nd).2 (by simpa using h1) (by simpa using h2) hk
def start(N:List Str)(vs:List V):St:=vs.map some++List.replicate (N.length-vs.length) none
def zkX(CX:CXT)(P:Program)(w:World)(K:W.Frag)(mg:Str->Option Value)(base:Heap)(N:List Str)(qual:Str)(scope:Scope)(f:Addr)(cd:Value)(A:Around)(outer:List Env)(s:Shared)(H:Hp)(E:XK):Cx where
 prog:=P
 w:=w
 K:=K
 mg:=mg
 base:=base
 A:=A.deeper (envOfC qual scope s.heap.objs.size f cd)
 N:=N
 s₀:=s
 H₀:=H
 env:=envOfC qual scope s.heap.objs.size f cd
 outer:=outer
 stack:=envOfC qual scope s.heap.objs.size f cd::outer
 ex:=[]
 calm:=true
 fn:=fun _=>true
 pn:=[]
 xe:=fun e s'=>wpAny (model P w) (A.deeper (envOfC qual scope s.heap.objs.size f cd)) (leaving (envOfC qual scope s.heap.objs.size f cd) e) (fun _ s''=>CX outer H s E e s'') (fun e' s''=>CX outer H s E e' s'') s'
theorem zlJ{sc:Scope}{n:Nat}{x:Str}(h:sc.names.lookup x=some .cell):∃ c,(cellsFrom n sc.names []).lookup x=some c:=by
 have q:=W.cellsFrom_some sc.names n [] (.inl h)
 exact Option.isSome_iff_exists.mp q
theorem zj0{CX:CXT}{P:Program}{w:World}{K:W.Frag}{mg:Str->Option Value}{base:Heap}{N ps:List Str}{qual:Str}{scope:Scope}{f:Addr}{cd:Value}{A:Around}{outer:List Env}{s s1:Shared}{H:Hp}{E:XK}{us:List Value}{vs:List V}
  (S:zax N ps scope) (hd:A.handled=none) (e0:zpf P w K mg base A outer s H) (hl:vs.length=ps.length) (r:zbe vs us)
  (x:InCallC s s.heap.objs.size (bindL (envOfC qual scope s.heap.objs.size f cd).kindOf (ps.zip us) fun _=>none) (cellsFrom (s.heap.objs.size+1) scope.names []) (bindC (envOfC qual scope s.heap.objs.size f cd).kindOf (ps.zip us) fun _=>none) s1) :
  Inv (zkX CX P w K mg base N qual scope f cd A outer s H E) [] (start N vs) H s1:=by
 have hpl:ps.length<=N.length:=by have:=congrArg List.length S.pre;rw[List.length_take] at this;omega
 obtain ⟨h1,tk,rfl,hk⟩:=x.done
 have noA:∀ b:Addr,b∉(zkX CX P w K mg base N qual scope f cd A outer s H E).ex:=fun b z=>absurd (show b∈([]:List Addr) from z) (by simp)
 refine ⟨⟨e0.mod,S.kind,rfl,rfl,Nat.le_refl _,fun y z c h1 h2=>?_,fun y hy=>?_,fun y c _ h=>?_,fun _=>hd,Around.frames_deeper e0.frames,.inr ⟨rfl,rfl⟩,fun b z=>absurd z (noA b),e0.bs,e0.bsz,fun b _ _=>noA b,fun b z=>absurd z (noA b),e0.funs,e0.frf⟩,
  rfl,e0.bare,Un.kept hk,⟨_,x.toInCall.ns,fun i y v h1 h2 h3=>?_⟩,fun y c h=>⟨_,x.cell y c h⟩,e0.hok.fresh (Nat.le_refl _),fun y c h=>?_,fun p hp=>absurd (show p∈([]:List (Addr×Obj)) from hp) (by simp),e0.hok.kept hk,?_⟩
 ·exact name_of_addr x.apart (PySem.mem_of_lookup h1) (PySem.mem_of_lookup h2)
 ·have hy:scope.names.lookup y=some .cell\/scope.names.lookup y=some .free:=hy
  rcases hy with hy|hy
  ·exact zlJ hy
  ·exact absurd rfl (S.nofree _ (PySem.mem_of_lookup hy))
 ·exact Nat.le_of_lt (x.above y c (PySem.mem_of_lookup h))
 ·have hi:i<vs.length:=by
   unfold start at h2
   by_cases hi:i<vs.length
   ·exact hi
   ·rw[List.getElem?_append_right (by simpa using hi)] at h2
    rw[List.getElem?_replicate] at h2
    split at h2 <;> cases h2
  have ha:vs[i]? = some v:=by
   unfold start at h2
   rw[List.getElem?_append_left (by simpa using hi),List.getElem?_map] at h2
   cases e:vs[i]? with
   |none=>rw[e] at h2;cases h2
   |some a=>rw[e] at h2;cases h2;rfl
  obtain ⟨u,hu,rv⟩:=r.get ha
  have hp:ps[i]? = some y:=by
   rw[<- S.pre,List.getElem?_take_of_lt (by omega)];exact h1
  have ndP:ps.Nodup:=by rw[<- S.pre];exact S.nd.sublist (List.take_sublist _ _)
  refine ⟨u,rv,?_⟩
  rcases S.par y (List.mem_of_getElem? hp) with k|k
  ·exact .inl ⟨k,zjT ndP hp hu k⟩
  ·obtain ⟨c,e⟩:=zlJ (n:=s.heap.objs.size+1) k
   refine .inr ⟨.inl k,c,e,?_⟩
   have q:=x.cell y c e
   rw[zjr ndP hp hu (by show scope.names.lookup y≠_;rw[k];decide)] at q
   exact q
 ·exact e0.hok.fresh (Nat.le_of_lt (x.above y c (PySem.mem_of_lookup h)))
 ·unfold start
  show _=N.length
  rw[List.length_append,List.length_map,List.length_replicate]
  omega
theorem zsc{CX:CXT}{P:Program}{w:World}{K:W.Frag}{mg:Str->Option Value}{base:Heap}{k:Nat}{f:Addr}{name qual:Str}{params:Arguments}{body:List Stmt}{scope:Scope}{dV kV doc pm cdv ct oc:Value}{an od:Option Addr}
  {osl:Array (Option Value)} {N ps:List Str} {sp:Sp} (lk:K.lookup f=some ⟨oc,od,.func (W.fnOf name qual params body scope dV kV doc pm an cdv ct),osl⟩) (hcd:W.codeIn K cdv qual=true) (S:zax N ps scope)
  (len:∀ vs H Q E,sp vs H Q E->vs.length=ps.length)
  (hbody:∀(A:Around)(outer:List Env)(s:Shared)(H:Hp)(vs:List V)(Q:VK)(E:XK),zdV k (A.deeper (envOfC qual scope s.heap.objs.size f cdv))->sp vs H Q E ->
   ∃ t,PSs (zkX CX P w K mg base N qual scope f cdv A outer s H E) body t/\t { nx:=fun _ H'=>Q .non H',rt:=Q } (start N vs) H) :
  zgi P w K mg base CX (k+1) f (W.fnOf name qual params body scope dV kV doc pm an cdv ct) ps sp:=by
 refine ⟨len,fun A outer s H args us vs Q E hr e0 hb r hsp=>?_⟩
 have hl:=len _ _ _ _ hsp
 have KX:K.In s.heap:=e0.mod.kin.keeps fun b o e=>(e0.bs b o e).1
 have lim:s.heap.NoLimit:=e0.mod.nolimit.keeps fun b o e=>(e0.bs b o e).1
 have hkind:∀ y∈ps.zip us,scope.names.lookup y.1=some .local\/(scope.names.lookup y.1=some .cell/\((cellsFrom (s.heap.objs.size+1) scope.names []).lookup y.1).isSome=true):=fun ⟨n,v⟩ hy=>by
  rcases S.par n (List.of_mem_zip hy).1 with q|q
  ·exact .inl q
  ·exact .inr ⟨q,W.cellsFrom_some _ _ _ (.inl q)⟩
 refine codeAny_call_function hr.depth (KX _ _ lk) rfl S.co S.gen rfl (W.codeRec_of KX hcd) (hb _ _ _ _ ?_)
 refine wpAny_newFunctionEnv_cells S.kind hkind fun env he s1 x=>?_
 subst he
 refine ⟨lim.keeps x.toInCall.keep,codeAny_func ?_⟩
 obtain ⟨t,ht,hq⟩:=hbody A outer s H vs Q E (hr.deeper _) hsp
 have I:Inv (zkX CX P w K mg base N qual scope f cdv A outer s H E) [] (start N vs) H s1:=zj0 S hr.hd e0 hl r x
 refine wpAny_mono (ht [] s1 (start N vs) H _ I hq) (fun fl s' hs=>?_) fun e s' hs=>hs
 have fin:∀{σ':St}{H':Hp}{v:V}{u:Value},Inv (zkX CX P w K mg base N qual scope f cdv A outer s H E) [] σ' H' s'->zcj v u->Q v H'->CE outer P w H s Q u s' :=
  fun {σ' H' v u} J rv q=>⟨v,H',J.os,J.bare,J.base,J.hok,rv,q⟩
 cases fl with
 |ret u =>
  obtain ⟨v,σ',H',J,rv,q⟩:=hs
  exact fin J rv q
 |next =>
  obtain ⟨σ',H',J,q⟩:=hs
  exact fin (v:=V.non) (u:=Value.none) J rfl q
 |brk =>
  obtain ⟨_,_,_,q⟩:=hs
  exact False.elim q
 |cont =>
  obtain ⟨_,_,_,q⟩:=hs
  exact False.elim q
end L2
namespace L2
open PySem PySem.Spec PyProof.Rows
section
variable{X:Cx}{x:Str}{p pos:Pos}{e:Expr}{es:List Expr}{t:TA}{id T:String}{r:List V->Hp->VK->Prop}
def tCB(r:List V->Hp->VK->Prop)(t:TA):TE:=fun σ H Q=>t σ H fun vs H1=>r vs H1 Q
theorem zdd(hc:zcE X (.builtin id) r)(hg:Gl X x)(hm:X.mg x=none)(hv:bootBuiltins x=some (.builtin id))(ha:PA X (e::es) t)(hn:x≠"__name__":=by decide)(hdb:(x == ("__debug__" : Str))=false:=by decide)
  (he:starEach (e::es) X.env=(false,eval e X.env)::starEach es X.env:=by rfl) (hpl:(backTo pos (starEach es X.env)).any (·.1)=false:=by rfl):PE X (.Call (.Name x p) (e::es) [] pos) (tCB r t):=by
 intro pins s σ H Q I h
 refine wpAny_Call_Name_kw (zhR I hg hm hv ?_ hn hdb)
 exact PyProof.Rows.callWith_builtin1 (thn (ha pos pins s σ H _ I h) fun us s1 ⟨vs,H1,I1,r1,q1⟩=>hc pins s1 σ H1 vs us Q I1 r1 q1) he hpl
theorem zee(hc:zcE X (.type T) r)(hg:Gl X x)(hm:X.mg x=none)(hv:bootBuiltins x=some (.type T))(ha:PA X (e::es) t)(hn:x≠"__name__":=by decide)(hdb:(x == ("__debug__" : Str))=false:=by decide)
  (he:starEach (e::es) X.env=(false,eval e X.env)::starEach es X.env:=by rfl) (hpl:(backTo pos (starEach es X.env)).any (·.1)=false:=by rfl):PE X (.Call (.Name x p) (e::es) [] pos) (tCB r t):=by
 intro pins s σ H Q I h
 refine wpAny_Call_Name_kw (zhR I hg hm hv ?_ hn hdb)
 exact PyProof.Rows.callWith_type1 (thn (ha pos pins s σ H _ I h) fun us s1 ⟨vs,H1,I1,r1,q1⟩=>hc pins s1 σ H1 vs us Q I1 r1 q1) he hpl
end
end L2
namespace HT
open PySem PyProof.Rows
section
open PySem.SeqAt
open PySem.AutoSeq1 (wpAny_loadPart')
open PySem.MeetsSeq PySem.MeetsSeq2 PySem.MeetsSeq3
end
section
variable{prog:Program}{w:World}{A:Around}{E:Value->Shared->Prop}{s:Shared}
def sIx(n d:Nat):Option Int->Nat
 |none=>d
 |some v=>if v<0 then (v+(n:Int)).toNat else min v.toNat n
theorem sIx_none(n d:Nat):sIx n d none=d:=rfl
theorem sIx_nat(n d k:Nat):sIx n d (some (k:Int))=min k n:=by
 show (if (k:Int)<0 then ((k:Int)+(n:Int)).toNat else min (k:Int).toNat n)=min k n
 rw[if_neg (by omega),Int.toNat_natCast]
end
end HT
namespace L2
open PySem PySem.Spec PyProof.Rows
abbrev TO:=St->Hp->(Option Int->Hp->Prop)->Prop
def PO(X:Cx)(e:Option Expr)(t:TO):Prop :=
 ∀(pins:List (Addr×Obj))(s:Shared)(σ:St)(H:Hp)(Q:Option Int->Hp->Prop),Inv X pins σ H s->t σ H Q ->
  wpAny (model X.prog X.w) X.A (evalPart e X.env) (fun u s'=>∃ o H',Inv X pins σ H' s'/\IsPart u o/\Q o H') X.xe s
def zr6:TO:=fun _ H Q=>Q none H
def zuz(t:TE):TO:=fun σ H Q=>t σ H fun x H1=>∃ i,x=.int i/\Q (some i) H1
theorem zfM{ns:List Int}:∀{us:List Value},zbe (ns.map V.int) us->IntsAre us ns:=by
 induction ns with
 |nil=>intro us r;rw[List.map_nil] at r;cases r;exact .nil
 |cons n ns ih =>
  intro us r
  rw[List.map_cons] at r
  cases r with
  |cons r1 r2 =>
   obtain ⟨t,e⟩:=r1
   subst e
   exact .cons n t (ih r2)
section
variable{X:Cx}{e:Expr}{te:TE}{lo hi:Option Expr}{tl th:TO}{pos p2:Pos}
theorem zse:PO X none zr6:=by
 intro pins s σ H Q I h
 rw[evalPart_none]
 exact wpAny_pure ⟨none,H,I,.none,h⟩
theorem zry(h:PE X e te):PO X (some e) (zuz te):=by
 intro pins s σ H Q I hw
 rw[evalPart_some]
 refine thn (h pins s σ H _ I hw) fun u s1 ⟨x,H1,I1,r1,q1⟩=>?_
 obtain ⟨i,rfl,q⟩:=q1
 obtain ⟨t,rfl⟩:=r1
 exact ⟨some i,H1,I1,.int i t,q⟩
def SlR(X:Cx)(r:V->Option Int->Option Int->Hp->VK->Prop):Prop :=
 ∀(pins:List (Addr×Obj))(s:Shared)(σ:St)(H:Hp)(x:V)(v vl vu:Value)(lo hi:Option Int)(sl:Addr)(Q:VK),Inv X pins σ H s->zcj x v->s.heap.IsSliceOf sl vl vu .none->IsPart vl lo->IsPart vu hi->r x lo hi H Q ->
  ∃ T id,typeLookup (.type T) "__getitem__"=pure (some (.builtin id))/\s.TypeIs v T/\wpAny (model X.prog X.w) X.A (getItem v (.ref sl)) (EP X pins σ Q) X.xe s
theorem SlR.or{r r':V->Option Int->Option Int->Hp->VK->Prop}(h:SlR X r)(h':SlR X r'):SlR X (fun x lo hi H Q=>r x lo hi H Q\/r' x lo hi H Q):=by
 intro pins s σ H x v vl vu lo hi sl Q I rx hs pl pu q
 rcases q with q|q
 ·exact h pins s σ H x v vl vu lo hi sl Q I rx hs pl pu q
 ·exact h' pins s σ H x v vl vu lo hi sl Q I rx hs pl pu q
def tSl(r:V->Option Int->Option Int->Hp->VK->Prop)(te:TE)(tl th:TO):TE:=fun σ H Q=>te σ H fun x H1=>tl σ H1 fun l H2=>th σ H2 fun u H3=>r x l u H3 Q
theorem zpd{r:V->Option Int->Option Int->Hp->VK->Prop}(hr:SlR X r)(he:PE X e te)(hl:PO X lo tl)(hu:PO X hi th):PE X (.Subscript e (.Slice lo hi none p2) pos) (tSl r te tl th):=by
 intro pins s σ H Q I h
 refine Subscript_ (thn (he pins s σ H _ I h) fun v s1 ⟨x,H1,I1,r1,q1⟩=>?_)
 refine wpAny_Slice (thn (hl pins s1 σ H1 _ I1 q1) fun vl s2 ⟨l,H2,I2,pl,q2⟩=>thn (hu pins s2 σ H2 _ I2 q2) fun vu s3 ⟨u,H3,I3,pu,q3⟩=>?_)
 rw[evalPart_none]
 refine wpAny_pure ?_
 have I4:Inv X pins σ H3 { s3 with heap:=s3.heap.push { cls:=.type "slice",data:=.fields #[vl,vu,.none] } }:=I3.kept (t':=s3.toks) fun b ob q=>Heap.get?_push_of_some _ q
 obtain ⟨T,id,hT,ht,hg⟩:=hr pins { s3 with heap:=s3.heap.push { cls:=.type "slice",data:=.fields #[vl,vu,.none] } } σ H3 x v vl vu l u s3.heap.objs.size Q I4 r1 (Heap.IsSliceOf.new ..) pl pu q3
 show wpAny (model X.prog X.w) X.A (subscriptTail e (.Slice lo hi none p2) v (.ref s3.heap.objs.size)) (EP X pins σ Q) X.xe { s3 with heap:=s3.heap.push { cls:=.type "slice",data:=.fields #[vl,vu,.none] } }
 exact tail_any (ops:=[.ref s3.heap.objs.size,v]) ht hT hg (by with_unfolding_all rfl)
def zrR(xs:List V)(lo hi:Option Int):List V:=(xs.drop (HT.sIx xs.length 0 lo)).take (HT.sIx xs.length xs.length hi-HT.sIx xs.length 0 lo)
theorem zkJ(xs:List V)(lo hi:Option Int):(zrR xs lo hi).length<=xs.length:=by
 unfold zrR
 rw[List.length_take,List.length_drop]
 omega
end
end L2
namespace L2
open PySem PySem.Spec PyProof.Rows
def ixN(n:Nat)(i:Int):Option Nat:=if 0<=i then (if i<n then some i.toNat else none) else if -(n:Int)<=i then some (i+n).toNat else none
def atI{α:Type}(xs:List α)(i:Int):Option α:=(ixN xs.length i).bind fun j=>xs[j]?
theorem zkI{n:Nat}{i:Int}{j:Nat}(h:ixN n i=some j):seqIndex? i n=some j/\j<n/\-(n:Int)<=i/\i<n:=by
 unfold ixN at h
 by_cases h0:0<=i
 ·rw[if_pos h0] at h
  by_cases h1:i<n
  ·rw[if_pos h1] at h
   have e:i.toNat=j:=Option.some.inj h
   exact ⟨by rw[seqIndex_of h0 h1,e],by omega,by omega,h1⟩
  ·rw[if_neg h1] at h;cases h
 ·rw[if_neg h0] at h
  by_cases h1:-(n:Int)<=i
  ·rw[if_pos h1] at h
   have e:(i+n).toNat=j:=Option.some.inj h
   exact ⟨by rw[seqIndex_neg (by omega) h1,e],by omega,h1,by omega⟩
  ·rw[if_neg h1] at h;cases h
theorem zkv{α:Type}{xs:List α}{i:Int}{v:α}(h:atI xs i=some v):∃ j,seqIndex? i xs.length=some j/\xs[j]? = some v/\j<xs.length/\-(xs.length:Int)<=i/\i<xs.length:=by
 unfold atI at h
 cases e:ixN xs.length i with
 |none=>rw[e] at h;cases h
 |some j =>
  rw[e] at h
  obtain ⟨h1,h2,h3,h4⟩:=zkI e
  exact ⟨j,h1,h,h2,h3,h4⟩
theorem ziF{α:Type}{xs:List α}{j:Nat}{v:α}(h:xs[j]? = some v):atI xs (j:Int)=some v:=by
 have hj:j<xs.length:=(List.getElem?_eq_some_iff.mp h).1
 have e:ixN xs.length (j:Int)=some j:=by
  unfold ixN
  rw[if_pos (by omega),if_pos (by omega)];simp
 unfold atI;rw[e];exact h
def zel(b:Expr):Prop:=∀ o i,subscripted b false o i=operate [o,i] (getItem o i)
def IxR(X:Cx)(r:R2):Prop :=
 ∀(value slice:Expr)(pins:List (Addr×Obj))(s:Shared)(σ:St)(H:Hp)(x y:V)(v u:Value)(Q:VK),Inv X pins σ H s->zcj x v->zcj y u->r x y H Q ->
  subscripted slice false v u=operate [v,u] (getItem v u)->wpAny (model X.prog X.w) X.A (subscriptTail value slice v u) (EP X pins σ Q) X.xe s
def MtR(X:Cx)(id:String)(r:V->List V->Hp->VK->Prop):Prop :=
 ∀(pins:List (Addr×Obj))(s:Shared)(σ:St)(H:Hp)(x:V)(xs:List V)(v:Value)(us:List Value)(Q:VK),Inv X pins σ H s->zcj x v->zbe xs us->r x xs H Q ->
  wpAny (model X.prog X.w) X.A (call (.builtin id) (v::us)) (EP X pins σ Q) X.xe s
section
variable{X:Cx}{a b:Expr}{ta tb:TE}{pos:Pos}
theorem IxR.or{r r':R2}(h:IxR X r)(h':IxR X r'):IxR X (fun x y H Q=>r x y H Q\/r' x y H Q):=by
 intro value slice pins s σ H x y v u Q I rx ry q hs
 rcases q with q|q
 ·exact h value slice pins s σ H x y v u Q I rx ry q hs
 ·exact h' value slice pins s σ H x y v u Q I rx ry q hs
theorem MtR.or{id:String}{r r':V->List V->Hp->VK->Prop}(h:MtR X id r)(h':MtR X id r'):MtR X id (fun x xs H Q=>r x xs H Q\/r' x xs H Q):=by
 intro pins s σ H x xs v us Q I rx rs q
 rcases q with q|q
 ·exact h pins s σ H x xs v us Q I rx rs q
 ·exact h' pins s σ H x xs v us Q I rx rs q
theorem zh5{r:R2}(hr:IxR X r)(ha:PE X a ta)(hb:PE X b tb)(hs:zel b):PE X (.Subscript a b pos) (tOp r ta tb):=by
 intro pins s σ H Q I h
 exact Subscript_ (zuw ha hb I h fun v u s2 x y H2 I2 rx ry q=>hr a b pins s2 σ H2 x y v u Q I2 rx ry q (hs _ _))
def rIxL(K:W.Frag):R2:=fun x y H Q=>∃ p xs i v,x=.ref p/\y=.int i/\SqL K H p xs/\atI xs i=some v/\Q v H
def rIxT(K:W.Frag):R2:=fun x y H Q=>∃ p xs i v,x=.ref p/\y=.int i/\SqT K H p xs/\atI xs i=some v/\Q v H
def rIxS:R2:=fun x y H Q=>∃ z i c,x=.str z/\y=.int i/\z.length<=sizeLine/\atI z.cps.toList i=some c/\Q (.str ⟨#[c]⟩) H
theorem zeH:IxR X (rIxL X.K):=by
 intro value slice pins s σ H x y v u Q I rx ry h hs
 obtain ⟨p,xs,i,z,rfl,rfl,hq,he,q⟩:=h
 cases rx
 obtain ⟨t,rfl⟩:=ry
 obtain ⟨its,r,pl,hz⟩:=I.list hq
 obtain ⟨j,h1,h2,h3,h4,h5⟩:=zkv he
 obtain ⟨w,ew,rw'⟩:=r.get h2
 have hl:=r.length
 have hn:=zhY
 have fin:EP X pins σ Q w s:=⟨z,H,I,rw',q⟩
 by_cases h0:0<=i
 ·have hj:i.toNat=j:=by
   rw[seqIndex_of h0 h5] at h1
   exact Option.some.inj h1
  exact item_listR pl.isList h0 (by omega) (by rw[hj];simpa using ew) fin hs
 ·have hj:(i+(its.toArray.size:Int)).toNat=j:=by
   rw[seqIndex_neg (by omega) h4] at h1
   rw[List.size_toArray,<- hl]
   exact Option.some.inj h1
  exact subscriptTail_builtinR (x:=w) pl.isList.typeIs slot_list_getitem.lookup
   (wpAny_getItem_list_neg (Q:=fun r s'=>r=w/\EP X pins σ Q r s') pl.isList (by omega) (by rw[List.size_toArray] <;> omega) (by omega) (by rw[hj];simpa using ew) ⟨rfl,fin⟩) hs
theorem zsP:IxR X (rIxT X.K):=by
 intro value slice pins s σ H x y v u Q I rx ry h hs
 obtain ⟨p,xs,i,z,rfl,rfl,hq,he,q⟩:=h
 cases rx
 obtain ⟨t,rfl⟩:=ry
 obtain ⟨its,r,pl,hz⟩:=I.tuple hq
 obtain ⟨j,h1,h2,h3,h4,h5⟩:=zkv he
 obtain ⟨w,ew,rw'⟩:=r.get h2
 have hl:=r.length
 have hn:=zhY
 have fin:EP X pins σ Q w s:=⟨z,H,I,rw',q⟩
 exact subscriptTail_builtinR (x:=w) pl.typeIs slot_tuple_getitem.lookup
  (getItem_tuple (j:=j) (Q:=fun r s'=>r=w/\EP X pins σ Q r s') pl (by omega) (by omega) (by rw[List.size_toArray,<- hl];exact h1) (by simpa using ew) ⟨rfl,fin⟩) hs
theorem zty:IxR X rIxS:=by
 intro value slice pins s σ H x y v u Q I rx ry h hs
 obtain ⟨z,i,c,rfl,rfl,hz,he,q⟩:=h
 obtain ⟨t,rfl⟩:=rx
 obtain ⟨t',rfl⟩:=ry
 obtain ⟨j,h1,h2,h3,h4,h5⟩:=zkv he
 have hl:z.cps.toList.length=z.length:=by simp[Str.length]
 rw[hl] at h1 h4 h5
 have hn:=zhY
 exact tail_any (typeIs_str s z t) slot_str_getitem.lookup (getItem_str (c:=c) (by
  have e1:decide (i < -(2 ^ 63:Int))=false:=decide_eq_false (by omega)
  have e2:decide (i ≥ 2 ^ 63)=false:=decide_eq_false (by omega)
  rw[e1,e2,Bool.or_false]) (by rw[h1];simpa using h2) ⟨.str ⟨#[c]⟩,H,I.tok _,⟨_,rfl⟩,q⟩) hs
theorem zme(its:List Value)(n j:Nat)(u:Value):Obj.mapSeq (·.setIfInBounds j u) { cls:=.type "list",data:=.seq its.toArray n }={ cls:=.type "list",data:=.seq (its.set j u).toArray n }:=by
 simp[Obj.mapSeq]
theorem Inv.lst{pins:List (Addr×Obj)}{σ:St}{H:Hp}{s:Shared}{p:Addr}{xs:List V}(I:Inv X pins σ H s)(h:H p=some (.lst xs)) :
  ∃(its:List Value)(n:Nat),zbe xs its/\s.heap.get? p=some { cls:=.type "list",data:=.seq its.toArray n }/\xs.length<=sizeLine:=by
 obtain ⟨z,its,n,r,e⟩:=I.hok p _ h
 exact ⟨its,n,r,e,z⟩
theorem Inv.lstUpd{pins:List (Addr×Obj)}{σ:St}{H:Hp}{s:Shared}{p:Addr}{xs ys:List V}{its its':List Value}{n n':Nat}{f:Obj->Obj}(I:Inv X pins σ H s)(h:H p=some (.lst xs))
  (ho:s.heap.get? p=some { cls:=.type "list",data:=.seq its.toArray n }) (hf:f { cls:=.type "list",data:=.seq its.toArray n }={ cls:=.type "list",data:=.seq its'.toArray n' }) (r:zbe ys its') (hz:ys.length<=sizeLine) (t:Nat) :
  Inv X pins σ (upd H p (.lst ys)) { s with heap:=s.heap.update p f,toks:=t }:=by
 have e:(s.heap.update p f).get? p=some { cls:=.type "list",data:=.seq its'.toArray n' }:=by
  rw[Heap.get?_update_self f ho (by rw[hf] <;> rfl),hf]
 refine I.write (x:=p) (e:=p) (by rw[h];trivial) (.inl rfl) (fun b u hb q=>(Heap.get?_update_other _ _ (Ne.symm hb)).trans q) ⟨_,e⟩ ?_
 exact ⟨hz,its',n',r,e⟩
def zuq:V->V->V->Hp->(Hp->Prop)->Prop:=fun o i v H Q=>∃ p xs k j,o=.ref p/\i=.int k/\H p=some (.lst xs)/\ixN xs.length k=some j/\Q (upd H p (.lst (xs.set j v)))
theorem zp0:PSet X zuq:=by
 intro pins s σ H o i v ov iv u Q I ro ri rv h
 obtain ⟨p,xs,k,j,rfl,rfl,hp,hj,q⟩:=h
 cases ro
 obtain ⟨t,rfl⟩:=ri
 obtain ⟨its,n,r,ho,hz⟩:=I.lst hp
 obtain ⟨h1,h2,h3,h4⟩:=zkI hj
 have hl:=r.length
 have hn:=zhY
 have I':Inv X pins σ (upd H p (.lst (xs.set j v))) { s with heap:=s.heap.update p (Obj.mapSeq (·.setIfInBounds j u)) } :=
  I.lstUpd hp ho (zme its n j u) (r.set rv j) (by rw[List.length_set];exact hz) s.toks
 by_cases h0:0<=k
 ·have hk:k.toNat=j:=by
   rw[seqIndex_of h0 h4] at h1
   exact Option.some.inj h1
  exact W.ki_setAt ho h0 (by omega) (by rw[List.size_toArray,<- hl];exact h4) (by rw[hk];exact ⟨_,I',q⟩)
 ·have hk:(k+(its.toArray.size:Int)).toNat=j:=by
   rw[seqIndex_neg (by omega) h3] at h1
   rw[List.size_toArray,<- hl]
   exact Option.some.inj h1
  exact W.ki_setBack ho (by omega) (by rw[List.size_toArray,<- hl];exact h3) (by omega) (by rw[hk];exact ⟨_,I',q⟩)
theorem zjD(lo hi:Option Int)(n:Nat):(sliceBounds lo hi none n).1=((HT.sIx n 0 lo:Nat):Int)/\(sliceBounds lo hi none n).2.1=((HT.sIx n n hi:Nat):Int)/\(sliceBounds lo hi none n).2.2=1:=by
 refine ⟨?_,?_,rfl⟩
 ·cases lo with
  |none=>simp[sliceBounds,HT.sIx]
  |some i =>
   simp only[sliceBounds,HT.sIx,Option.getD_none,show (1:Int) > 0 by decide,if_true]
   by_cases h:i<0
   ·simp only[h,if_true] <;> omega
   ·simp only[h,if_false] <;> omega
 ·cases hi with
  |none=>simp[sliceBounds,HT.sIx]
  |some i =>
   simp only[sliceBounds,HT.sIx,Option.getD_none,show (1:Int) > 0 by decide,if_true]
   by_cases h:i<0
   ·simp only[h,if_true] <;> omega
   ·simp only[h,if_false] <;> omega
theorem ziR(its:List Value)(lo hi:Option Int):slicePick its.toArray lo hi none=((its.drop (HT.sIx its.length 0 lo)).take (HT.sIx its.length its.length hi-HT.sIx its.length 0 lo)).toArray:=by
 obtain ⟨h1,h2,h3⟩:=zjD lo hi its.toArray.size
 unfold slicePick
 rw[h1,h2,h3]
 simp only[sliceRange_one,pick_run,List.size_toArray] <;> rfl
def rSlL(K:W.Frag):V->Option Int->Option Int->Hp->VK->Prop:=fun x lo hi H Q=>∃ a xs,x=.ref a/\SqL K H a xs/\∀ p,H p=none->Q (.ref p) (upd H p (.lst (zrR xs lo hi)))
theorem zrH:SlR X (rSlL X.K):=by
 intro pins s σ H x v vl vu lo hi sl Q I rx hs pl pu h
 obtain ⟨a,xs,rfl,hx,q⟩:=h
 cases rx
 obtain ⟨its,r,ht,hz⟩:=I.list hx
 have hlen:=r.length
 refine ⟨"list",_,slot_list_getitem.lookup,ht.isList.typeIs,?_⟩
 refine wpAny_getItem_list_slice ht.isList hs pl pu .none (by simp) ?_ (by rw[List.size_toArray] <;> omega)
 rw[ziR,<- hlen]
 refine ⟨.ref s.heap.objs.size,_,I.laid (t':=s.toks) (o:=.lst (zrR xs lo hi)) (fun b ob q=>Heap.get?_push_of_some _ q) (Nat.le_refl _) ?_,rfl,q _ (I.hok.fresh (Nat.le_refl _))⟩
 exact ⟨Nat.le_trans (zkJ xs lo hi) hz,_,0,(r.drop (HT.sIx xs.length 0 lo)).take (HT.sIx xs.length xs.length hi-HT.sIx xs.length 0 lo),Heap.get?_push_size _ rfl⟩
theorem zev:zcE X (.builtin "len") (fun xs H Q=>∃ p ys,xs=[.ref p]/\(SqL X.K H p ys\/SqT X.K H p ys)/\Q (.int ys.length) H):=by
 intro pins s σ H xs us Q I r h
 obtain ⟨p,ys,rfl,hq,q⟩:=h
 obtain ⟨u,rfl,rx⟩:=zhz r
 cases rx
 have hn:=zhY
 rcases hq with hq|hq
 ·obtain ⟨its,r',pl,hz⟩:=I.list hq
  have hlen:=r'.length
  exact Calls.call_len_list pl.isList (by simp only[List.size_toArray] <;> omega) ⟨.int ys.length,H,I.tok _,⟨s.toks+1,by rw[List.size_toArray,hlen]⟩,q⟩
 ·obtain ⟨its,r',pl,hz⟩:=I.tuple hq
  have hlen:=r'.length
  exact len_tuple pl (by simp only[List.size_toArray] <;> omega) ⟨.int ys.length,H,I.tok _,⟨s.toks+1,by rw[List.size_toArray,hlen]⟩,q⟩
theorem zji:zcE X (.builtin "len") (fun xs H Q=>∃ z,xs=[.str z]/\z.length<=sizeLine/\Q (.int z.length) H):=by
 intro pins s σ H xs us Q I r h
 obtain ⟨z,rfl,hz,q⟩:=h
 obtain ⟨u,rfl,t,rfl⟩:=zhz r
 have hn:=zhY
 exact len_str (by omega) ⟨.int z.length,H,I.tok _,⟨_,rfl⟩,q⟩
theorem zcE.or{f:Value}{r r':List V->Hp->VK->Prop}(h:zcE X f r)(h':zcE X f r'):zcE X f (fun xs H Q=>r xs H Q\/r' xs H Q):=by
 intro pins s σ H xs us Q I rs q
 rcases q with q|q
 ·exact h pins s σ H xs us Q I rs q
 ·exact h' pins s σ H xs us Q I rs q
theorem zjv:zcE X (.type "list") (fun xs H Q=>∃ p ys,xs=[.ref p]/\(SqL X.K H p ys\/SqT X.K H p ys)/\∀ l,H l=none->Q (.ref l) (upd H l (.lst ys))):=by
 intro pins s σ H xs us Q I r h
 obtain ⟨p,ys,rfl,hq,q⟩:=h
 obtain ⟨u,rfl,rx⟩:=zhz r
 cases rx
 have fin:∀(its:List Value),zbe ys its->ys.length<=sizeLine->∀(h':Heap)(c':Nat),(∀ b o',s.heap.get? b=some o'->h'.get? b=some o') ->
   h'.get? s.heap.objs.size=some { cls:=.type "list",dict:=none,data:=.seq its.toArray c',slots:=#[] }->EP X pins σ Q (.ref s.heap.objs.size) { s with heap:=h' }:=fun its r' hz h' c' kp e =>
  ⟨.ref s.heap.objs.size,_,I.laid (t':=s.toks) kp (Nat.le_refl _) (show zc4 X.prog X.w _ h' _ (.lst ys) from ⟨hz,its,c',r',e⟩),rfl,q _ (I.hok.fresh (Nat.le_refl _))⟩
 rcases hq with hq|hq
 ·obtain ⟨its,r',pl,hz⟩:=I.list hq
  have hlen:=r'.length
  obtain ⟨o,ho,hc,n,hd⟩:=pl.isList
  exact call_list_seq p (.inl rfl) ho hc hd (fun h' c' kp e=>fin its r' hz h' c' kp e) (by simp only[List.size_toArray] <;> omega)
 ·obtain ⟨its,r',pl,hz⟩:=I.tuple hq
  have hlen:=r'.length
  obtain ⟨o,ho,hc,n,hd⟩:=pl
  exact call_list_seq p (.inr rfl) ho hc hd (fun h' c' kp e=>fin its r' hz h' c' kp e) (by simp only[List.size_toArray] <;> omega)
theorem zfi:zcE X (.type "tuple") (fun xs H Q=>∃ p ys,xs=[.ref p]/\((SqL X.K H p ys/\∀ l,H l=none->Q (.ref l) (upd H l (.tup ys)))\/(SqT X.K H p ys/\Q (.ref p) H))):=by
 intro pins s σ H xs us Q I r h
 obtain ⟨p,ys,rfl,h⟩:=h
 obtain ⟨u,rfl,rx⟩:=zhz r
 cases rx
 rcases h with ⟨hq,q⟩|⟨hq,q⟩
 ·obtain ⟨its,r',pl,hz⟩:=I.list hq
  have hlen:=r'.length
  refine call_tuple_list pl.isList (fun h' kp=>?_) (by simp only[List.size_toArray] <;> omega)
  have I1:Inv X pins σ H { s with heap:=h' }:=I.kept (t':=s.toks) kp
  have I2:Inv X pins σ (upd H h'.objs.size (.tup ys)) { s with heap:=h'.push { cls:=.type "tuple",data:=.seq its.toArray } } :=
   I1.laid (t':=s.toks) (fun b o e=>Heap.get?_push_of_some _ e) (Nat.le_refl _) (show zc4 X.prog X.w _ _ _ (.tup ys) from ⟨hz,its,r',_,Heap.get?_push_size _ rfl⟩)
  exact ⟨.ref h'.objs.size,_,I2,rfl,q _ (I1.hok.fresh (Nat.le_refl _))⟩
 ·obtain ⟨its,r',pl,hz⟩:=I.tuple hq
  exact call_tuple_same pl ⟨.ref p,H,I,rfl,q⟩
def tyV(K:W.Frag)(T:String)(x:V)(H:Hp):Prop:=match x with
 |.str _=>T="str"
 |.int _=>T="int"
 |.ref p=>(T="list"/\∃ xs,SqL K H p xs)\/(T="tuple"/\∃ o,K.lookup p=some o/\o.cls=.type "tuple"/\o.dict=none) \/
   (T="dict"/\((∃ kvs,H p=some (.dK kvs))\/∃ kvs,H p=some (.dT kvs)))\/(T="set"/\∃ S n,H p=some (.set S n))
 |_=>False
theorem zqy{pins:List (Addr×Obj)}{σ:St}{H:Hp}{s:Shared}{T:String}{x:V}{v:Value}(I:Inv X pins σ H s)(r:zcj x v)(ty:tyV X.K T x H) :
  s.TypeIs v T/\∀ a,v=.ref a->∃ ob,s.heap.get? a=some ob/\ob.dict=none:=by
 cases x with
 |str z =>
  obtain ⟨t,rfl⟩:=r
  cases (show T="str" from ty)
  exact ⟨typeIs_str s z t,fun _ e=>nomatch e⟩
 |int i =>
  obtain ⟨t,rfl⟩:=r
  cases (show T="int" from ty)
  exact ⟨typeIs_int s i t,fun _ e=>nomatch e⟩
 |ref p =>
  cases r
  rcases ty with ⟨rfl,xs,hq⟩|⟨rfl,o,hk,hc,hd⟩|⟨rfl,hk⟩|⟨rfl,S,n,hk⟩
  ·obtain ⟨its,_,pl,_⟩:=I.list hq
   refine ⟨pl.isList.typeIs,fun a e=>?_⟩
   cases e
   obtain ⟨o,n,e,c,hd,_⟩:=pl
   exact ⟨o,e,hd⟩
  ·refine ⟨⟨o,I.kIn p o hk,hc⟩,fun a e=>?_⟩
   cases e
   exact ⟨o,I.kIn _ o hk,hd⟩
  ·have z:∃ o,s.heap.get? p=some o/\o.ExactDict:=by
    rcases hk with ⟨kvs,hk⟩|⟨kvs,hk⟩
    ·obtain ⟨_,_,_,_,o,_,_,e,ex,_⟩:=I.hok p _ hk
     exact ⟨o,e,ex⟩
    ·obtain ⟨_,_,_,_,o,_,_,e,ex,_⟩:=I.hok p _ hk
     exact ⟨o,e,ex⟩
   obtain ⟨o,e,ex⟩:=z
   refine ⟨⟨o,e,ex.1⟩,fun a e2=>?_⟩
   cases e2
   exact ⟨o,e,ex.2.1⟩
  ·obtain ⟨o,_,_,_,e,ex,_⟩:=I.hok p _ hk
   refine ⟨⟨o,e,ex.1⟩,fun a e2=>?_⟩
   cases e2
   exact ⟨o,e,ex.2.1⟩
 |_=>exact False.elim ty
def tBM0(K:W.Frag)(T:String)(r:V->List V->Hp->VK->Prop)(to:TE):TE:=fun σ H Q=>to σ H fun x H1=>tyV K T x H1/\r x [] H1 Q
def tBM(K:W.Frag)(T:String)(r:V->List V->Hp->VK->Prop)(to:TE)(t:TA):TE:=fun σ H Q=>to σ H fun x H1=>tyV K T x H1/\t σ H1 fun xs H2=>r x xs H2 Q
variable{o e:Expr}{es:List Expr}{to:TE}{t:TA}{name:Str}{apos cpos:Pos}{T id:String}{r:V->List V->Hp->VK->Prop}
theorem zqz(pa:PlainAttrs T)(slot:Slot T name id)(hty:typeOf (.builtin id)=pure (.type "method_descriptor"))(hm:MtR X id r)(ho:PE X o to)
  (hbase:attributeBase o name X.env (eval o X.env)=eval o X.env:=by rfl) (hline:(apos.endLine == cpos.line)=true:=by rfl):PE X (.Call (.Attribute o name apos) [] [] cpos) (tBM0 X.K T r to):=by
 intro pins s σ H Q I h
 refine wpAny_Call_method0_late hbase hline (thn (ho pins s σ H _ I h) fun v s1 ⟨x,H1,I1,r1,ty,q1⟩=>?_)
 obtain ⟨h1,h2⟩:=zqy I1 r1 ty
 exact ⟨T,id,pa,slot,hty,h1,h2,Calls.callWith_builtin rfl (PySem.evalArgs_none (hm pins s1 σ H1 x [] v [] Q I1 r1 .nil q1))⟩
theorem zi2(pa:PlainAttrs T)(slot:Slot T name id)(hty:typeOf (.builtin id)=pure (.type "method_descriptor"))(hm:MtR X id r)(ho:PE X o to)(ha:PA X (e::es) t)
  (hbase:attributeBase o name X.env (eval o X.env)=eval o X.env:=by rfl)
  (hfew:((backTo cpos (starEach (e::es) X.env)).all (fun x=>!x.1) && (backToKw cpos (keywordEach [] X.env)).all (fun x=>x.1.isSome)
   && decide ((e::es).length+([]:List Keyword).length+(if ([]:List Keyword).isEmpty then 0 else 1)<30))=true:=by rfl)
  (hline:(apos.endLine == cpos.line)=true:=by rfl) (hs:starEach (e::es) X.env=(false,eval e X.env)::starEach es X.env:=by rfl) (hplain:(backTo cpos (starEach es X.env)).any (·.1)=false:=by rfl) :
  PE X (.Call (.Attribute o name apos) (e::es) [] cpos) (tBM X.K T r to t):=by
 intro pins s σ H Q I h
 refine wpAny_Call_method_late hbase hfew hline rfl (thn (ho pins s σ H _ I h) fun v s1 ⟨x,H1,I1,r1,ty,q1⟩=>?_)
 obtain ⟨h1,h2⟩:=zqy I1 r1 ty
 refine ⟨T,id,pa,slot,hty,h1,h2,?_⟩
 have hA:=ha cpos pins s1 σ H1 _ I1 q1
 rw[hs] at hA ⊢
 refine Calls.callWith_builtin (by show (false || (backTo cpos (starEach es X.env)).any (·.1))=false;rw[hplain] <;> rfl) (Calls.evalArgs_plain ?_)
 exact thn hA fun us s2 ⟨vs,H2,I2,r2,q2⟩=>hm pins s2 σ H2 x vs v us Q I2 r1 r2 q2
end
end L2
namespace L2
open PySem PySem.Spec PyProof.Rows
def MtM(X:Cx)(id:String)(r:V->List V->Hp->VK->Prop):Prop :=
 ∀(pins:List (Addr×Obj))(s:Shared)(σ:St)(H:Hp)(x:V)(xs:List V)(v:Value)(us:List Value)(Q:VK),Inv X pins σ H s->zcj x v->zbe xs us->r x xs H Q ->
  wpAny (model X.prog X.w) X.A (call (.builtin id) (v::us)) (EP X pins σ Q) X.xe s
theorem zbe.one:∀{x:V}{us:List Value},zbe [x] us->∃ u,us=[u]/\zcj x u
 |_,_,.cons r .nil=>⟨_,rfl,r⟩
theorem zbe.zero:∀{us:List Value},zbe [] us->us=[]
 |_,.nil=>rfl
theorem zbe.dropLast{xs:List V}{us:List Value}(h:zbe xs us):zbe xs.dropLast us.dropLast:=by
 induction h with
 |nil=>exact .nil
 |cons r t ih =>
  cases t with
  |nil=>exact .nil
  |cons q t'=>exact .cons r ih
theorem zbe.eraseIdx:∀{xs:List V}{us:List Value}(i:Nat),zbe xs us->zbe (xs.eraseIdx i) (us.eraseIdx i)
 |_,_,_,.nil=>.nil
 |_,_,0,.cons _ t=>t
 |_,_,i+1,.cons r t=>.cons r (zbe.eraseIdx i t)
theorem zmo{α:Type}(l:List α):l.eraseIdx (l.length-1)=l.dropLast:=by
 induction l with
 |nil=>rfl
 |cons a r ih =>
  cases r with
  |nil=>rfl
  |cons b r =>
   have e:(a::b::r).length-1=((b::r).length-1)+1:=by
    have h1:(a::b::r).length=r.length+2:=rfl
    have h2:(b::r).length=r.length+1:=rfl
    omega
   rw[e,List.eraseIdx_cons_succ,ih]
   all_goals rfl
theorem zjS{α:Type}:∀(l:List α)(i:Nat),(l.eraseIdx i).length<=l.length
 |[],_=>Nat.le_refl _
 |_::_,0=>Nat.le_succ _
 |_::r,i+1=>Nat.succ_le_succ (zjS r i)
section
variable{X:Cx}{pins:List (Addr×Obj)}{σ:St}{H:Hp}{s:Shared}{l b:Addr}{xs ys zs:List V}
theorem Inv.lset{its its':List Value}{n:Nat}{f:Array Value->Array Value}{t':Nat}(I:Inv X pins σ H s)(hH:H l=some (.lst xs))
  (e:s.heap.get? l=some { cls:=.type "list",data:=.seq its.toArray n }) (hf:f its.toArray=its'.toArray) (hv:zbe ys its') (hz:ys.length<=sizeLine) :
  Inv X pins σ (upd H l (.lst ys)) { s with heap:=s.heap.update l (Obj.mapSeq f),toks:=t' }:=by
 have q:=PySem.IsL.update e f
 rw[hf] at q
 refine I.write (x:=l) (e:=l) (by rw[hH];exact trivial) (.inl rfl) (fun b' u hb hu=>(Heap.get?_update_other s.heap (Obj.mapSeq f) (Ne.symm hb)).trans hu) ⟨_,q⟩ ?_
 exact ⟨hz,its',_,hv,q⟩
theorem Inv.lnew{its:List Value}{t':Nat}(I:Inv X pins σ H s)(hv:zbe ys its)(hz:ys.length<=sizeLine) :
  Inv X pins σ (upd H s.heap.objs.size (.lst ys)) { s with heap:=s.heap.push { cls:=.type "list",data:=.seq its.toArray },toks:=t' } :=
 I.laid (fun _ _ q=>Heap.get?_push_of_some _ q) (Nat.le_refl _) ⟨hz,its,0,hv,Heap.get?_push_size _ rfl⟩
theorem Inv.fresh(I:Inv X pins σ H s):H s.heap.objs.size=none:=I.hok.fresh (Nat.le_refl _)
theorem Inv.lstM(I:Inv X pins σ H s)(hH:H l=some (.lst xs)):xs.length<=sizeLine/\∃(its:List Value)(n:Nat),zbe xs its/\xs.length=its.length/\s.heap.get? l=some { cls:=.type "list",data:=.seq its.toArray n }:=by
 obtain ⟨z,its,n,r,e⟩:=I.hok l _ hH
 exact ⟨z,its,n,r,r.length,e⟩
theorem zln{n:Nat}(h:n<=sizeLine):Builtin.List.listTooLong n=false:=by
 unfold Builtin.List.listTooLong
 exact decide_eq_false (by omega)
end
section
variable{X:Cx}
def zrB:V->List V->Hp->VK->Prop:=fun x vs H Q=>∃ l xs y,x=.ref l/\vs=[y]/\H l=some (.lst xs)/\xs.length<sizeLine/\Q .non (upd H l (.lst (xs++[y])))
theorem zd1:MtM X "list.append" zrB:=by
 intro pins s σ H x vs v us Q I rx rv h
 obtain ⟨l,xs,y,rfl,rfl,hH,hz,q⟩:=h
 cases rx
 obtain ⟨u,rfl,ru⟩:=rv.one
 obtain ⟨z,its,n,r,hl,e⟩:=I.lstM hH
 refine call_meets F.slot_list_append ⟨_,e,rfl⟩ F.entry_list_append (F.args_list_append_2 _ _) (PySem.list_append l its.toArray n u (by rw[List.size_toArray];omega)) ⟨e,?_⟩
 refine ⟨.non,_,I.lset (its':=its++[u]) hH e (by simp) (r.append (.cons ru .nil)) ?_,rfl,q⟩
 rw[List.length_append,List.length_singleton]
 omega
def zrL:V->List V->Hp->VK->Prop:=fun x vs H Q=>∃ l b xs zs,x=.ref l/\vs=[.ref b]/\H l=some (.lst xs)/\H b=some (.lst zs)/\xs.length+zs.length<=sizeLine/\Q .non (upd H l (.lst (xs++zs)))
theorem zmD:MtM X "list.extend" zrL:=by
 intro pins s σ H x vs v us Q I rx rv h
 obtain ⟨l,b,xs,zs,rfl,rfl,hH,hB,hz,q⟩:=h
 cases rx
 obtain ⟨u,rfl,ru⟩:=rv.one
 cases ru
 obtain ⟨z,its,n,r,hl,e⟩:=I.lstM hH
 obtain ⟨z2,its2,n2,r2,hl2,e2⟩:=I.lstM hB
 have hsz:its.toArray.size+its2.toArray.size<=sizeLine:=by rw[List.size_toArray,List.size_toArray];omega
 have hlong:¬ (!its.toArray.isEmpty && Builtin.List.listTooLong (its.toArray.size+its2.toArray.size))=true:=by
  rw[zln hsz,Bool.and_false]
  exact Bool.false_ne_true
 refine call_meets F.slot_list_extend ⟨_,e,rfl⟩ F.entry_list_extend (F.args_list_extend_2 _ _)
  (AutoSeq1.list_extend_list_list_0 l its.toArray n b its2.toArray n2 hlong (by rw[List.size_toArray];omega) (by omega)) ⟨e,e2,?_⟩
 refine ⟨.non,_,I.lset (its':=its++its2) hH e (by simp) (r.append r2) ?_,rfl,q⟩
 rw[List.length_append]
 omega
def rPop:V->List V->Hp->VK->Prop:=fun x vs H Q=>∃ l xs y,x=.ref l/\vs=[]/\H l=some (.lst xs)/\xs[xs.length-1]? = some y/\Q y (upd H l (.lst xs.dropLast))
theorem zqB:MtM X "list.pop" rPop:=by
 intro pins s σ H x vs v us Q I rx rv h
 obtain ⟨l,xs,y,rfl,rfl,hH,hy,q⟩:=h
 cases rx
 have hus:=rv.zero
 subst hus
 obtain ⟨z,its,n,r,hl,e⟩:=I.lstM hH
 obtain ⟨u,hu,ru⟩:=r.get hy
 have hy':its.toArray[its.toArray.size-1]? = some u:=by
  show its.toArray[its.length-1]? = some u
  rw[<- Array.getElem?_toList,<- hl]
  exact hu
 refine call_meets F.slot_list_pop ⟨_,e,rfl⟩ F.entry_list_pop (F.args_list_pop_1 _) (MeetsSeq.list_pop_last l its.toArray n u hy' (by rw[List.size_toArray];omega)) ⟨e,?_⟩
 refine ⟨y,_,I.lset (its':=its.dropLast) hH e ?_ r.dropLast ?_,ru,q⟩
 ·show its.toArray.eraseIdxIfInBounds (its.toArray.size-1)=its.dropLast.toArray
  rw[List.size_toArray,List.eraseIdxIfInBounds_toArray,zmo]
 ·rw[List.length_dropLast]
  omega
def zsR:V->List V->Hp->VK->Prop:=fun x vs H Q=>∃ l xs i k y,x=.ref l/\vs=[.int i]/\H l=some (.lst xs)/\-(2 ^ 63)<=i/\i<2 ^ 63/\seqIndex? i xs.length=some k/\xs[k]? = some y/\Q y (upd H l (.lst (xs.eraseIdx k)))
theorem zpY:MtM X "list.pop" zsR:=by
 intro pins s σ H x vs v us Q I rx rv h
 obtain ⟨l,xs,i,k,y,rfl,rfl,hH,h1,h2,hk,hy,q⟩:=h
 cases rx
 obtain ⟨u,rfl,ru⟩:=rv.one
 obtain ⟨t,rfl⟩:=ru
 obtain ⟨z,its,n,r,hl,e⟩:=I.lstM hH
 obtain ⟨w,hw,rw'⟩:=r.get hy
 refine call_meets F.slot_list_pop ⟨_,e,rfl⟩ F.entry_list_pop (F.args_list_pop_2 _ _)
  (MeetsSeq.list_pop_at l its.toArray n i t k w (fitsIndex_both h1 h2) (by rw[List.size_toArray,<- hl];exact hk) (by rw[<- Array.getElem?_toList];exact hw) (by rw[List.size_toArray];omega)) ⟨e,?_⟩
 refine ⟨y,_,I.lset (its':=its.eraseIdx k) hH e ?_ (r.eraseIdx k) ?_,rw',q⟩
 ·show its.toArray.eraseIdxIfInBounds k=(its.eraseIdx k).toArray
  rw[List.eraseIdxIfInBounds_toArray]
 ·have:=zjS xs k
  omega
def rCat:R2:=fun x y H Q=>∃ l b xs zs,x=.ref l/\y=.ref b/\H l=some (.lst xs)/\H b=some (.lst zs)/\xs.length+zs.length<=sizeLine/\∀ p,H p=none->Q (.ref p) (upd H p (.lst (xs++zs)))
theorem zsv:OpR X (binaryOp .Add) rCat:=by
 intro pins s σ H x y v u Q I rx ry h
 obtain ⟨l,b,xs,zs,rfl,rfl,hH,hB,hz,q⟩:=h
 cases rx
 cases ry
 obtain ⟨z,its,n,r,hl,e⟩:=I.lstM hH
 obtain ⟨z2,its2,n2,r2,hl2,e2⟩:=I.lstM hB
 refine PySem.P.add_list e e2 ?_ (by rw[List.size_toArray,List.size_toArray];omega)
 have ea:its.toArray++its2.toArray=(its++its2).toArray:=by simp
 rw[ea]
 exact ⟨.ref _,_,I.lnew (t':=s.toks) (r.append r2) (by rw[List.length_append];omega),rfl,q _ I.fresh⟩
end
section
variable{prog:Program}{w:World}{A:Around}{E:Value->Shared->Prop}{s:Shared}
set_option maxRecDepth 100000 in
end
section
variable{X:Cx}
end
end L2
namespace Att
open PySem PySem.W PySem.Calls PyProof.Rows
theorem zhl{P:Params}{h:Heap}:∀(ns:List Int)(vs:List Value),WellAll P h vs (ns.map WData.int)->IntsAre vs ns:=by
 intro ns
 induction ns with
 |nil =>
  intro vs w
  rw[List.map_nil] at w
  cases w
  exact .nil
 |cons n ns ih =>
  intro vs w
  rw[List.map_cons] at w
  cases w with
  |cons a b =>
   cases a
   exact .cons _ _ (ih _ b)
theorem zne{l:OpenLaw}{n:Nat}(hn:l.most=some n){P:Params}{h:Heap}{args:List WData}{vals:List Value}
  (hpre:l.row.toRowW.claim.pre args=true) (hwl:WellAll P h vals args) :
  ∃ a vs ns,vals=[Value.ref a]/\args=[WData.list (ns.map WData.int)]/\h.get? a=some { cls:=.type "list",data:=.seq vs.toArray }/\IntsAre vs ns/\ns.length<=n:=by
 have hsh:WShape.hasAll [] args [.list .int]=true:=(pre_splitW hpre).1
 have hc:l.pre.holds [] { args:=args }=true:=(pre_splitW hpre).2
 obtain ⟨d,r,rfl,h1,h2⟩:=hasAllW_cons hsh
 obtain rfl:=hasAllW_nil h2
 obtain ⟨xs,rfl,h3⟩:=hasW_list h1
 obtain ⟨ns,rfl⟩:=items_int h3
 have hlen:ns.length<=n:=by
  unfold OpenLaw.pre at hc
  have h4:(WTm.not (.lt (.lit (.int (n:Int))) (.len (.arg 0)))).holds [] { args:=[.list (ns.map .int)] }=true:=by
   have h4:=(holds_andW hc).1
   rw[hn] at h4
   exact h4
  have h5:=condW_of h4 (w_not (w_lt w_lit (w_len_list (w_arg rfl))))
  rw[List.length_map] at h5
  refine Nat.le_of_not_lt fun q=>?_
  have q':(n:Int)<((ns.length:Nat):Int):=by omega
  first
   | (rw[decide_eq_true q'] at h5;exact absurd h5 (by decide))
   | (simp at h5;omega)
 cases hwl with
 |cons w1 w2 =>
  cases w2
  cases w1 with
  |list ho hall=>exact ⟨_,_,ns,rfl,rfl,ho,zhl ns _ hall,hlen⟩
theorem znv(l:OpenLaw)(args:List WData):l.row.toRowW.claim.post args (.bool true) args=true :=
 postW_of (r:=l.row.toRowW) (X:=(true == true))
  (show WShape.has [] (.bool true) .bool=true by first|rfl|decide|simp[WShape.has,WShape.arms,WShape.armsAll])
  (show (WTm.eq .res (.lit (.bool true))).value [] { args:=args,res:=some (.bool true),after:=args }=some (.bool (true == true)) from w_eq_bool (w_res rfl) w_lit) rfl
theorem attach_call{l:OpenLaw}{n:Nat}{q:Program}{loose:List Str}{XP:(Str->Option Value)->Heap->Prop}{YP:World->Heap->Prop}{d:DefRec}
  (hn:l.most=some n) (hdf:d.params.defaults=[])
  (call:∀(w:World)(s₀ s₁:Shared)(mg mb:Str->Option Value)(fa:Addr)(o:Obj)(pm cd doc:Value)(a:Addr)(vs:List Value)(ns:List Int),
   Ground q loose [] XP w s₀ mg mb s₁.heap->YP w s₁.heap ->
   s₁.heap.get? fa=some o->o.data=.func (docDef d.name d.params d.body d.scope pm cd doc)->s₁.heap.CodeRec cd d.name->mg d.name=some (.ref fa) ->
   s₁.heap.get? a=some { cls:=.type "list",data:=.seq vs.toArray }->IntsAre vs ns->ns.length<=n->s₁.gens=#[] ->
   codeAny (model l.prog w) callerA (.call (.ref fa) ⟨[.ref a],[]⟩) (fun r s'=>r=.ok (.ret (.bool true))/\OldK s₁.heap s'.heap/\s'.os=s₁.os/\AllBare s'.gens) s₁) :
  WalkO q loose XP YP l.row.toRowW d [] (fun f vs=>PySem.call f vs):=by
 intro w s₀ s₁ mg mb G Y fa o pm cd doc dV kV ho hd hcd hD hmg hg args vals as hpre hlay hrd hwl hlo
 obtain rfl:dV=.none:=Dflts.none hD hdf
 obtain rfl:kV=.none:=Dflts.noKw hD
 obtain ⟨a,vs,ns,rfl,rfl,hobj,hints,hlen⟩:=zne hn hpre hwl
 refine enter_call (codeAny_mono (call w s₀ s₁ mg mb fa o pm cd doc a vs ns G Y ho (fd_plain hd) hcd hmg hobj hints hlen hg) fun r s' hq=>?_)
 obtain ⟨rfl,h2,h3,h4⟩:=hq
 exact ⟨.inl ⟨.bool true,.bool true,[],rfl,fun _=>rfl,.bool true,znv l _,fun _=>⟨List.Pairwise.nil,fun _ hm=>(nomatch hm)⟩⟩,h2,h3,h4⟩
section
variable{prog:Program}{w:World}{A:Around}{E:Value->Shared->Prop}{s:Shared}{K:Frag}
end
end Att
namespace L2
open PySem PySem.Spec PyProof.Rows
theorem zeb:∀{vs:List Value}{ns:List Int},IntsAre vs ns->zbe (ns.map V.int) vs
 |_,_,.nil=>.nil
 |_,_,.cons n t h=>.cons ⟨t,rfl⟩ (zeb h)
end L2
namespace L2
open PySem PySem.Spec PyProof.Rows
end L2
namespace L2
open PySem PySem.Spec PyProof.Rows
def zeJ(s:Stmt):Arguments:=match s with
 |.FunctionDef _ a _ _ _ _ _ _ _ _=>a
 |_=>{ posonlyargs:=[],args:=[],vararg:=none,kwonlyargs:=[],kw_defaults:=[],kwarg:=none,defaults:=[] }
def zc7(s:Stmt):List Stmt:=match s with
 |.FunctionDef _ _ b _ _ _ _ _ _ _=>b
 |_=>[]
def zal(s:Stmt):Scope:=match s with
 |.FunctionDef _ _ _ _ _ _ sc _ _ _=>sc
 |_=>{ kind:=.function,names:=[],isGenerator:=false,isCoroutine:=false }
abbrev CX0:CXT:=fun _ _ _ _ _ _=>False
structure Fun(K:W.Frag)(x qual:Str)(st:Stmt)(f:Addr)(fd:FuncData):Prop where
 ex:∃(oc:Value)(od:Option Addr)(kV doc pm:Value)(an:Option Addr)(cdv ct:Value)(osl:Array (Option Value)),
  fd=W.fnOf x qual (zeJ st) (zc7 st) (zal st) .none kV doc pm an cdv ct/\K.lookup f=some ⟨oc,od,.func fd,osl⟩/\W.codeIn K cdv qual=true
 kp:W.keepIn K (.ref f)=true
section
variable{P:Program}{w:World}{K:W.Frag}{mg:Str->Option Value}{base:Heap}
theorem Fun.ok{x qual:Str}{st:Stmt}{f:Addr}{fd:FuncData}{N ps:List Str}{k:Nat}{sp:Sp}(F:Fun K x qual st f fd)(S:zax N ps (zal st))(len:∀ vs H Q E,sp vs H Q E->vs.length=ps.length)
  (hbody:∀(cdv:Value)(A:Around)(outer:List Env)(s:Shared)(H:Hp)(vs:List V)(Q:VK)(E:XK),zdV k (A.deeper (envOfC qual (zal st) s.heap.objs.size f cdv))->sp vs H Q E ->
   ∃ t,PSs (zkX CX0 P w K mg base N qual (zal st) f cdv A outer s H E).nox (zc7 st) t/\t { nx:=fun _ H'=>Q .non H',rt:=Q } (start N vs) H):zgi P w K mg base CX0 (k+1) f fd ps sp:=by
 obtain ⟨oc,od,kV,doc,pm,an,cdv,ct,osl,rfl,lk,hcd⟩:=F.ex
 refine zsc lk hcd S len fun A outer s H vs Q E hr hsp=>?_
 obtain ⟨t,h,q⟩:=hbody cdv A outer s H vs Q E hr hsp
 exact ⟨t,h.nox,q⟩
theorem Fun.binds{x qual:Str}{st:Stmt}{f:Addr}{fd:FuncData}{ps:List Str}(F:Fun K x qual st f fd)
  (h:∀(kV doc pm:Value)(an:Option Addr)(cdv ct:Value)(us:List Value),us.length=ps.length->bindArgs (W.fnOf x qual (zeJ st) (zc7 st) (zal st) .none kV doc pm an cdv ct) ⟨us,[]⟩=pure (ps.zip us)):zfz K fd ps []:=by
 obtain ⟨oc,od,kV,doc,pm,an,cdv,ct,osl,rfl,lk,hcd⟩:=F.ex
 exact .all (h kV doc pm an cdv ct)
theorem zqh{x qual:Str}{st:Stmt}{f:Addr}{oc:Value}{od an:Option Addr}{osl:Array (Option Value)}{kV doc pm cdv ct:Value}(l:K.lookup f=some ⟨oc,od,.func (W.fnOf x qual (zeJ st) (zc7 st) (zal st) .none kV doc pm an cdv ct),osl⟩)
  (c:W.codeIn K cdv qual=true) (k:W.keepIn K (.ref f)=true):Fun K x qual st f (W.fnOf x qual (zeJ st) (zc7 st) (zal st) .none kV doc pm an cdv ct):=⟨⟨oc,od,kV,doc,pm,an,cdv,ct,osl,rfl,l,c⟩,k⟩
end
section
variable{X:Cx}
end
theorem iteF{A B:Prop}(h:B):if false=true then A else B:=by
 rw[if_neg Bool.false_ne_true]
 exact h
theorem iteT{A B:Prop}(h:A):if true=true then A else B:=by
 rw[if_pos rfl]
 exact h
def zcf(H H':Hp):Prop:=∀ b o,H b=some o->H' b=some o
theorem zcf.refl(H:Hp):zcf H H:=fun _ _ h=>h
theorem zcf.trans{H H1 H2:Hp}(a:zcf H H1)(b:zcf H1 H2):zcf H H2:=fun c o h=>b c o (a c o h)
theorem zcf.free{H H':Hp}(e:zcf H H'){l:Addr}(h:H' l=Option.none):H l=Option.none:=by
 cases q:H l with
 |none=>rfl
 |some o =>
  rw[e l o q] at h
  cases h
theorem zcf.seq{K:W.Frag}{H H':Hp}{a:Addr}{xs:List V}(e:zcf H H')(h:SqL K H a xs):SqL K H' a xs:=by
 rcases h with (h|⟨o,h⟩)|h
 ·exact .inl (.inl (e _ _ h))
 ·exact .inl (.inr ⟨o,e _ _ h⟩)
 ·exact .inr h
end L2
end
section
namespace PV
open PySem PySem.Spec L2
inductive Dt where
 |non|bl (b:Bool)|int (i:Int)|str (x:Str)|tup (l:List Dt)|lst (l:List Dt)|dct|scr (ns:List Int)
inductive B where
 |val (d:Dt)|own (l:List Dt)|own2 (l:List (List Dt))|tab (q:Str)|opq|exc (C:Addr)
abbrev Ev:=List (Option B)
inductive R(α:Type) where
 |ok (a:α)|er (n:Nat)|no
def R.bind{α β:Type}(r:R α)(f:α->R β):R β:=match r with
 |.ok a=>f a
 |.er n=>.er n
 |.no=>.no
@[simp] theorem R.bind_ok {α β:Type} (a:α) (f:α->R β):(R.ok a).bind f=f a:=rfl
@[simp] theorem R.bind_er {α β:Type} (n:Nat) (f:α->R β):(R.er n).bind f=.er n:=rfl
@[simp] theorem R.bind_no {α β:Type} (f:α->R β):(R.no).bind f=.no:=rfl
theorem R.bind_assoc{α β γ:Type}(r:R α)(f:α->R β)(g:β->R γ):(r.bind f).bind g=r.bind fun a=>(f a).bind g:=by
 cases r <;> rfl
def zkg(K:W.Frag)(H:Hp)(a:Addr)(xs:List V):Prop :=
 H a=some (.tup xs)\/∃(its:Array Value)(n:Nat),K.lookup a=some { cls:=.type "tuple",data:=.seq its n }/\its.size<=sizeLine/\zbe xs its.toList
theorem zkg.of{K:W.Frag}{H:Hp}{a:Addr}{xs:List V}(h:H a=some (.tup xs)):zkg K H a xs:=.inl h
theorem zkg.sq{K:W.Frag}{H:Hp}{a:Addr}{xs:List V}(h:zkg K H a xs):SqT K H a xs:=by
 rcases h with h|⟨its,n,h1,h2,h3⟩
 ·exact .inl (.inl h)
 ·exact .inr ⟨_,its,n,h1,rfl,rfl,h2,h3⟩
theorem zkg.same{K:W.Frag}{H H':Hp}{a:Addr}{xs:List V}(e:zcf H H')(h:zkg K H a xs):zkg K H' a xs:=h.elim (fun z=>.inl (e _ _ z)) .inr
mutual
def Rep(K:W.Frag)(G:Hp):Dt->V->Prop
 |.non,v=>v=.non
 |.bl b,v=>v=.bl b
 |.int i,v=>v=.int i
 |.str x,v=>v=.str x
 |.tup l,v=>∃ a vs,v=.ref a/\zkg K G a vs/\za2 K G l vs
 |.lst l,v=>∃ a vs,v=.ref a/\G a=some (.lst vs)/\za2 K G l vs
 |.dct,v=>∃ a,v=.ref a/\G a=some (.dK [])
 |.scr ns,v=>∃ a,v=.ref a/\SqL K G a (ns.map V.int)
def za2(K:W.Frag)(G:Hp):List Dt->List V->Prop
 |[],vs=>vs=[]
 |d::ds,vs=>∃ v r,vs=v::r/\Rep K G d v/\za2 K G ds r
end
theorem zaT{K:W.Frag}{H H':Hp}{a:Addr}{xs:List V}(e:zcf H H')(h:SqT K H a xs):SqT K H' a xs:=by
 rcases h with (h|⟨o,h⟩)|h
 ·exact .inl (.inl (e _ _ h))
 ·exact .inl (.inr ⟨o,e _ _ h⟩)
 ·exact .inr h
mutual
theorem Rep.same{K:W.Frag}{G G':Hp}(e:zcf G G'):∀{d:Dt}{v:V},Rep K G d v->Rep K G' d v
 |.non,_,h=>by unfold Rep at h ⊢;exact h
 |.bl _,_,h=>by unfold Rep at h ⊢;exact h
 |.int _,_,h=>by unfold Rep at h ⊢;exact h
 |.str _,_,h=>by unfold Rep at h ⊢;exact h
 |.tup l,_,h=>by
  unfold Rep at h ⊢
  obtain ⟨a,vs,h1,h2,h3⟩:=h
  exact ⟨a,vs,h1,h2.same e,za2.same e h3⟩
 |.lst l,_,h=>by
  unfold Rep at h ⊢
  obtain ⟨a,vs,h1,h2,h3⟩:=h
  exact ⟨a,vs,h1,e _ _ h2,za2.same e h3⟩
 |.dct,_,h=>by
  unfold Rep at h ⊢
  obtain ⟨a,h1,h2⟩:=h
  exact ⟨a,h1,e _ _ h2⟩
 |.scr ns,_,h=>by
  unfold Rep at h ⊢
  obtain ⟨a,h1,h2⟩:=h
  exact ⟨a,h1,e.seq h2⟩
theorem za2.same{K:W.Frag}{G G':Hp}(e:zcf G G'):∀{ds:List Dt}{vs:List V},za2 K G ds vs->za2 K G' ds vs
 |[],_,h=>by unfold za2 at h ⊢;exact h
 |d::ds,_,h=>by
  unfold za2 at h ⊢
  obtain ⟨v,r,h1,h2,h3⟩:=h
  exact ⟨v,r,h1,Rep.same e h2,za2.same e h3⟩
end
theorem za2.nil{K:W.Frag}{G:Hp}:za2 K G [] []:=by unfold za2;rfl
theorem za2.cons{K:W.Frag}{G:Hp}{d:Dt}{ds:List Dt}{v:V}{vs:List V}(h:Rep K G d v)(t:za2 K G ds vs):za2 K G (d::ds) (v::vs):=by
 unfold za2;exact ⟨v,vs,rfl,h,t⟩
theorem za2.nil_inv{K:W.Frag}{G:Hp}{vs:List V}(h:za2 K G [] vs):vs=[]:=by unfold za2 at h;exact h
theorem za2.cons_inv{K:W.Frag}{G:Hp}{d:Dt}{ds:List Dt}{vs:List V}(h:za2 K G (d::ds) vs):∃ v r,vs=v::r/\Rep K G d v/\za2 K G ds r:=by unfold za2 at h;exact h
theorem za2.length{K:W.Frag}{G:Hp}:∀{ds:List Dt}{vs:List V},za2 K G ds vs->ds.length=vs.length
 |[],_,h=>by rw[h.nil_inv];rfl
 |d::ds,_,h=>by
  obtain ⟨v,r,rfl,_,h3⟩:=h.cons_inv
  simp[za2.length h3]
theorem za2.get{K:W.Frag}{G:Hp}:∀{ds:List Dt}{vs:List V}{i:Nat}{d:Dt},za2 K G ds vs->ds[i]? = some d->∃ v,vs[i]? = some v/\Rep K G d v
 |[],_,_,_,_,e=>by simp at e
 |d::ds,_,0,_,h,e=>by
  obtain ⟨v,r,rfl,h2,h3⟩:=h.cons_inv
  simp at e;subst e
  exact ⟨v,rfl,h2⟩
 |d::ds,_,i+1,_,h,e=>by
  obtain ⟨v,r,rfl,h2,h3⟩:=h.cons_inv
  obtain ⟨u,e1,e2⟩:=za2.get (i:=i) h3 (by simpa using e)
  exact ⟨u,by simpa using e1,e2⟩
theorem za2.append{K:W.Frag}{G:Hp}:∀{ds es:List Dt}{vs us:List V},za2 K G ds vs->za2 K G es us->za2 K G (ds++es) (vs++us)
 |[],_,_,_,h,t=>by rw[h.nil_inv];exact t
 |d::ds,_,_,_,h,t=>by
  obtain ⟨v,r,rfl,h2,h3⟩:=h.cons_inv
  exact za2.cons h2 (za2.append h3 t)
theorem za2.take{K:W.Frag}{G:Hp}:∀(n:Nat){ds:List Dt}{vs:List V},za2 K G ds vs->za2 K G (ds.take n) (vs.take n)
 |0,_,_,_=>by simpa using za2.nil
 |n+1,[],_,h=>by rw[h.nil_inv];simpa using za2.nil
 |n+1,d::ds,_,h=>by
  obtain ⟨v,r,rfl,h2,h3⟩:=h.cons_inv
  exact za2.cons h2 (za2.take n h3)
theorem za2.drop{K:W.Frag}{G:Hp}:∀(n:Nat){ds:List Dt}{vs:List V},za2 K G ds vs->za2 K G (ds.drop n) (vs.drop n)
 |0,_,_,h=>h
 |n+1,[],_,h=>by rw[h.nil_inv];simpa using za2.nil
 |n+1,d::ds,_,h=>by
  obtain ⟨v,r,rfl,h2,h3⟩:=h.cons_inv
  exact za2.drop n h3
theorem za2.set{K:W.Frag}{G:Hp}{d:Dt}{v:V}(hv:Rep K G d v):∀(i:Nat){ds:List Dt}{vs:List V},za2 K G ds vs->za2 K G (ds.set i d) (vs.set i v)
 |_,[],_,h=>by rw[h.nil_inv];exact za2.nil
 |0,d'::ds,_,h=>by
  obtain ⟨v,r,rfl,h2,h3⟩:=h.cons_inv
  exact za2.cons hv h3
 |i+1,d'::ds,_,h=>by
  obtain ⟨v,r,rfl,h2,h3⟩:=h.cons_inv
  exact za2.cons h2 (za2.set hv i h3)
theorem za2.eraseIdx{K:W.Frag}{G:Hp}:∀(i:Nat){ds:List Dt}{vs:List V},za2 K G ds vs->za2 K G (ds.eraseIdx i) (vs.eraseIdx i)
 |_,[],_,h=>by rw[h.nil_inv];exact za2.nil
 |0,d'::ds,_,h=>by
  obtain ⟨v,r,rfl,h2,h3⟩:=h.cons_inv
  exact h3
 |i+1,d'::ds,_,h=>by
  obtain ⟨v,r,rfl,h2,h3⟩:=h.cons_inv
  exact za2.cons h2 (za2.eraseIdx i h3)
theorem za2.dropLast{K:W.Frag}{G:Hp}{ds:List Dt}{vs:List V}(h:za2 K G ds vs):za2 K G ds.dropLast vs.dropLast:=by
 rw[List.dropLast_eq_take,List.dropLast_eq_take,h.length];exact h.take _
abbrev Wn:=Addr->Option Nat
structure zbt(G H:Hp)(w:Wn)(G' H':Hp)(w':Wn):Prop where
 g:zcf G G'
 fr:∀ b o,G' b=some o->G b≠none\/H b=none\/w b≠none
 h:∀ b o,H b=some o->w b=none->H' b=some o
 w:∀ b,w' b≠none->w b≠none\/H b=none
 k:∀ b,H' b=none->H b=none
theorem zbt.refl(G H:Hp)(w:Wn):zbt G H w G H w :=
 ⟨zcf.refl G,fun b o e=>.inl (by rw[e];simp),fun _ _ e _=>e,fun _ e=>.inl e,fun _ e=>e⟩
theorem zbt.trans{G H G1 H1 G2 H2:Hp}{w w1 w2:Wn}(a:zbt G H w G1 H1 w1)(b:zbt G1 H1 w1 G2 H2 w2):zbt G H w G2 H2 w2:=by
 have hn:=a.k
 refine ⟨a.g.trans b.g,fun c o e=>?_,fun c o e z=>?_,fun c e=>?_,fun c e=>a.k c (b.k c e)⟩
 ·rcases b.fr c o e with q|q|q
  ·cases q':G1 c with
   |none=>exact absurd q' q
   |some u=>exact a.fr c u q'
  ·exact .inr (.inl (hn c q))
  ·rcases a.w c q with z|z
   ·exact .inr (.inr z)
   ·exact .inr (.inl z)
 ·have e1:=a.h c o e z
  refine b.h c o e1 ?_
  cases q:w1 c with
  |none=>rfl
  |some k =>
   rcases a.w c (by rw[q];simp) with r|r
   ·exact absurd z r
   ·rw[e] at r;cases r
 ·rcases b.w c e with q|q
  ·exact a.w c q
  ·exact .inr (hn c q)
structure Cn where
 G₀:Hp
 H₀:Hp
 w₀:Wn
 pp:List Nat
 σ₀:St
 ex:Nat->Prop
 xv:Nat->Value
 nw:Bool
def RtG(nw:Bool)(K:W.Frag)(H0 G H:Hp)(w:Wn)(d:Dt)(v:V):Prop:=match nw with
 |false=>Rep K G d v
 |true=>∃ l p vs,d=.lst l/\v=.ref p/\H0 p=none/\H p=some (.lst vs)/\G p=none/\w p=none/\za2 K G l vs
def cHO(c:Addr)(q:Str):HO:=.ext fun h=>h.CodeRec (.ref c) q
def xHO(l C:Addr):HO:=.ext fun h=>∃ o vs,h.get? l=some o/\o.cls=.ref C/\o.data=.fields vs
def RB(K:W.Frag)(G H:Hp)(w:Wn)(i:Nat)(v:V):B->Prop
 |.val d=>Rep K G d v
 |.own ds=>∃ a vs,v=.ref a/\w a=some i/\H a=some (.lst vs)/\za2 K G ds vs
 |.own2 dss=>∃ a as,v=.ref a/\w a=some i/\H a=some (.lst (as.map V.ref))/\(a::as).Nodup/\Paired (fun b ds=>w b=some i/\∃ vs,H b=some (.lst vs)/\za2 K G ds vs) as dss
 |.tab q=>∃ P ps,v=.ref P/\w P=some i/\H P=some (.tbl ps)/\TriplesOk ps.toList/\∀ pos cv,codeAmong pos ps.toList=some cv->∃ c,cv=.ref c/\G c=some (cHO c q)
 |.opq=>True
 |.exc C=>∃ l,v=.ref l/\G l=some (xHO l C)
structure Rel(K:W.Frag)(C:Cn)(G:Hp)(w:Wn)(ρ:Ev)(σ:St)(H:Hp):Prop where
 gh:zcf G H
 wg:∀ b,w b≠none->G b=none
 wh:∀ b,w b≠none->H b≠none
 len:ρ.length = σ.length
 sl:∀ i b,ρ[i]? = some (some b)->∃ v,σ[i]? = some (some v)/\RB K G H w i v b
 en:zbt C.G₀ C.H₀ C.w₀ G H w
 pin:∀ i∈C.pp,σ[i]? = C.σ₀[i]?
structure zea(G H G' H':Hp):Prop where
 g:zcf G G'
 h:zcf H H'
 gh:zcf G' H'
 fr:∀ b o,G' b=some o->G b≠none\/H b=none
theorem zea.refl{G H:Hp}(e:zcf G H):zea G H G H:=⟨.refl _,.refl _,e,fun b o q=>.inl (by rw[q];simp)⟩
theorem zea.trans{G H G1 H1 G2 H2:Hp}(a:zea G H G1 H1)(b:zea G1 H1 G2 H2):zea G H G2 H2 :=
 ⟨a.g.trans b.g,a.h.trans b.h,b.gh,fun c o e=>by
  rcases b.fr c o e with q|q
  ·cases q':G1 c with
   |none=>exact absurd q' q
   |some u=>exact a.fr c u q'
  ·exact .inr (a.h.free q)⟩
theorem zea.step{G H G' H':Hp}{w:Wn}(a:zea G H G' H'):zbt G H w G' H' w :=
 ⟨a.g,fun b o e=>(a.fr b o e).elim .inl fun z=>.inr (.inl z),fun b o e _=>a.h b o e,fun _ e=>.inl e,fun _ e=>a.h.free e⟩
theorem zfH{α β:Type}{F F':α->β->Prop}(f:∀ a b,F a b->F' a b):∀{l₁:List α}{l₂:List β},Paired F l₁ l₂->Paired F' l₁ l₂
 |_,_,.nil=>.nil
 |_,_,.cons r t=>.cons (f _ _ r) (zfH f t)
theorem RB.grow{K:W.Frag}{G H G' H':Hp}{w w':Wn}{i j:Nat}{v:V}{b:B}(g:zcf G G')(h:∀ a o,w a=some i->H a=some o->H' a=some o/\w' a=some j)(r:RB K G H w i v b):RB K G' H' w' j v b:=by
 cases b with
 |val d=>exact Rep.same g r
 |own ds =>
  obtain ⟨a,vs,h1,h2,h3,h4⟩:=r
  obtain ⟨e1,e2⟩:=h a _ h2 h3
  exact ⟨a,vs,h1,e2,e1,za2.same g h4⟩
 |own2 dss =>
  obtain ⟨a,as,h1,h2,h3,h4,h5⟩:=r
  obtain ⟨e1,e2⟩:=h a _ h2 h3
  refine ⟨a,as,h1,e2,e1,h4,zfH (fun b ds ⟨q1,vs,q2,q3⟩=>?_) h5⟩
  obtain ⟨e1,e2⟩:=h b _ q1 q2
  exact ⟨e2,vs,e1,za2.same g q3⟩
 |tab q =>
  obtain ⟨P,ps,h1,h2,h3,h4,h5⟩:=r
  obtain ⟨e1,e2⟩:=h P _ h2 h3
  exact ⟨P,ps,h1,e2,e1,h4,fun pos cv e=>let ⟨c,q1,q2⟩:=h5 pos cv e;⟨c,q1,g _ _ q2⟩⟩
 |opq=>exact trivial
 |exc C =>
  obtain ⟨l,h1,h2⟩:=r
  exact ⟨l,h1,g _ _ h2⟩
theorem Rel.grow{K:W.Frag}{C:Cn}{G H G' H':Hp}{w:Wn}{ρ:Ev}{σ:St}(r:Rel K C G w ρ σ H)(a:zea G H G' H'):Rel K C G' w ρ σ H':=by
 refine ⟨a.gh,fun b e=>?_,fun b e z=>r.wh b e (a.h.free z),r.len,fun i b e=>?_,r.en.trans a.step,r.pin⟩
 ·cases q:G' b with
  |none=>rfl
  |some o =>
   rcases a.fr b o q with z|z
   ·exact absurd (r.wg b e) z
   ·exact absurd z (r.wh b e)
 ·obtain ⟨v,h1,h2⟩:=r.sl i b e
  exact ⟨v,h1,h2.grow a.g fun a' o e1 e2=>⟨a.h _ _ e2,e1⟩⟩
theorem zea.new{G H:Hp}{p:Addr}{o:HO}(gh:zcf G H)(hp:H p=none):zea G H (upd G p o) (upd H p o):=by
 refine ⟨fun b u e=>?_,fun b u e=>?_,fun b u e=>?_,fun b u e=>?_⟩
 ·rw[zaf (zah (gh b u e) hp)];exact e
 ·rw[zaf (zah e hp)];exact e
 ·by_cases hb:b=p
  ·subst hb;rw[zaj] at e ⊢;exact e
  ·rw[zaf hb] at e ⊢;exact gh b u e
 ·by_cases hb:b=p
  ·subst hb;exact .inr hp
  ·rw[zaf hb] at e;exact .inl (by rw[e];simp)
theorem zea.newH{G H:Hp}{p:Addr}{o:HO}(gh:zcf G H)(hp:H p=none):zea G H G (upd H p o):=by
 refine ⟨.refl _,fun b u e=>?_,fun b u e=>?_,fun b u e=>.inl (by rw[e];simp)⟩
 ·rw[zaf (zah e hp)];exact e
 ·rw[zaf (zah (gh b u e) hp)];exact gh b u e
def zc0{α:Type}(ex:Nat->Prop)(κ:α->Prop):R α->Prop
 |.ok a=>κ a
 |.er n=>ex n
 |.no=>False
def kE(K:W.Frag)(C:Cn)(σ:St)(Q:VK)(G H:Hp)(w:Wn)(a:Dt×Ev):Prop :=
 ∀ v G' H' w',zbt G H w G' H' w'->Rel K C G' w' a.2 σ H'->Rep K G' a.1 v->Q v H'
def kT(K:W.Frag)(C:Cn)(σ:St)(Q:Bool->Hp->Prop)(G H:Hp)(w:Wn)(a:Bool×Ev):Prop :=
 ∀ G' H' w',zbt G H w G' H' w'->Rel K C G' w' a.2 σ H'->Q a.1 H'
def kN(K:W.Frag)(C:Cn)(σ:St)(Q:VK)(G H:Hp)(w:Wn)(a:List Dt×Ev):Prop :=
 ∀ p vs G' H' w',zbt G H w G' H' w'->Rel K C G' w' a.2 σ H'->H p=none->H' p=some (.lst vs)->G' p=none->w' p=none->za2 K G' a.1 vs->Q (.ref p) H'
inductive Fl where
 |nx|bk|ct|rt (d:Dt)
def kS(K:W.Frag)(C:Cn)(D:zqg)(G H:Hp)(w:Wn)(a:Fl×Ev):Prop :=
 match a.1 with
 |.nx=>∀ σ' G' H' w',zbt G H w G' H' w'->Rel K C G' w' a.2 σ' H'->D.nx σ' H'
 |.bk=>∀ σ' G' H' w',zbt G H w G' H' w'->Rel K C G' w' a.2 σ' H'->D.bk σ' H'
 |.ct=>∀ σ' G' H' w',zbt G H w G' H' w'->Rel K C G' w' a.2 σ' H'->D.ct σ' H'
 |.rt d=>∀ v σ' G' H' w',zbt G H w G' H' w'->Rel K C G' w' a.2 σ' H'->RtG C.nw K C.H₀ G' H' w' d v->D.rt v H'
abbrev De:=Ev->R (Dt×Ev)
abbrev DT:=Ev->R (Bool×Ev)
abbrev DN:=Ev->R (List Dt×Ev)
abbrev DS:=Ev->R (Fl×Ev)
def tE(K:W.Frag)(C:Cn)(f:De):TE:=fun σ H Q=>∃ G w ρ,Rel K C G w ρ σ H/\zc0 C.ex (kE K C σ Q G H w) (f ρ)
def tT(K:W.Frag)(C:Cn)(f:DT):TT:=fun σ H Q=>∃ G w ρ,Rel K C G w ρ σ H/\zc0 C.ex (kT K C σ Q G H w) (f ρ)
def tN(K:W.Frag)(C:Cn)(f:DN):TE:=fun σ H Q=>∃ G w ρ,Rel K C G w ρ σ H/\zc0 C.ex (kN K C σ Q G H w) (f ρ)
def tS(K:W.Frag)(C:Cn)(f:DS):TS:=fun D σ H=>∃ G w ρ,Rel K C G w ρ σ H/\zc0 C.ex (kS K C D G H w) (f ρ)
abbrev JE(X:Cx)(C:Cn)(e:Expr)(f:De):Prop:=PE X e (tE X.K C f)
abbrev JT(X:Cx)(C:Cn)(e:Expr)(f:DT):Prop:=PT X e (tT X.K C f)
abbrev JW(X:Cx)(C:Cn)(e:Expr)(f:DT):Prop:=PW X e (tT X.K C f)
abbrev JN(X:Cx)(C:Cn)(e:Expr)(f:DN):Prop:=PE X e (tN X.K C f)
abbrev JS(X:Cx)(C:Cn)(st:Stmt)(f:DS):Prop:=PS X st (tS X.K C f)
abbrev JSs(X:Cx)(C:Cn)(st:List Stmt)(f:DS):Prop:=PSs X st (tS X.K C f)
abbrev zp7(α:Type):=Hp->Hp->Wn->α->Prop
def Stp{α:Type}(κ:zp7 α):Prop:=∀ G H w G1 H1 w1 a,zbt G H w G1 H1 w1->κ G H w a->κ G1 H1 w1 a
section
variable{K:W.Frag}{C:Cn}{σ:St}
theorem zbG{Q:VK}:Stp (fun G H w=>kE K C σ Q G H w):=fun _ _ _ _ _ _ _ s k v G' H' w' s'=>k v G' H' w' (s.trans s')
theorem zpB{Q:Bool->Hp->Prop}:Stp (fun G H w=>kT K C σ Q G H w):=fun _ _ _ _ _ _ _ s k G' H' w' s'=>k G' H' w' (s.trans s')
theorem zfL{Q:VK}:Stp (fun G H w=>kN K C σ Q G H w):=fun G H w G1 H1 w1 _ s k p vs G' H' w' s' r q1 q2 q3 q4 q5 =>
 k p vs G' H' w' (s.trans s') r (s.k p q1) q2 q3 q4 q5
theorem zeg{D:zqg}:Stp (fun G H w=>kS K C D G H w):=fun G H w G1 H1 w1 a s k=>by
 obtain ⟨f,ρ⟩:=a
 cases f with
 |nx=>exact fun σ' G' H' w' s'=>k σ' G' H' w' (s.trans s')
 |bk=>exact fun σ' G' H' w' s'=>k σ' G' H' w' (s.trans s')
 |ct=>exact fun σ' G' H' w' s'=>k σ' G' H' w' (s.trans s')
 |rt d=>exact fun v σ' G' H' w' s'=>k v σ' G' H' w' (s.trans s')
theorem zc0.step{α:Type}{ex:Nat->Prop}{κ:zp7 α}(st:Stp κ){G H G1 H1:Hp}{w w1:Wn}(s:zbt G H w G1 H1 w1):∀{r:R α},zc0 ex (κ G H w) r->zc0 ex (κ G1 H1 w1) r
 |.ok _,p=>st _ _ _ _ _ _ _ s p
 |.er _,p=>p
 |.no,p=>p
theorem zd7{α:Type}{κ:zp7 α}(st:Stp κ){G H:Hp}{w:Wn}{ρ:Ev}{fa:De}{g:Dt×Ev->R α}{Q:VK}(r:Rel K C G w ρ σ H)(p:zc0 C.ex (κ G H w) ((fa ρ).bind g))
  (k:∀ d ρ1 v G1 H1 w1,Rel K C G1 w1 ρ1 σ H1->zbt G H w G1 H1 w1->Rep K G1 d v->zc0 C.ex (κ G1 H1 w1) (g (d,ρ1))->Q v H1):tE K C fa σ H Q:=by
 refine ⟨G,w,ρ,r,?_⟩
 cases e:fa ρ with
 |ok a =>
  rw[e] at p
  intro v G' H' w' s' r' q
  exact k a.1 a.2 v G' H' w' r' s' q (zc0.step st s' p)
 |er n=>rw[e] at p;exact p
 |no=>rw[e] at p;exact p
theorem zsj{α:Type}{κ:zp7 α}(st:Stp κ){G H:Hp}{w:Wn}{ρ:Ev}{fa:DT}{g:Bool×Ev->R α}{Q:Bool->Hp->Prop}(r:Rel K C G w ρ σ H)(p:zc0 C.ex (κ G H w) ((fa ρ).bind g))
  (k:∀ b ρ1 G1 H1 w1,Rel K C G1 w1 ρ1 σ H1->zbt G H w G1 H1 w1->zc0 C.ex (κ G1 H1 w1) (g (b,ρ1))->Q b H1):tT K C fa σ H Q:=by
 refine ⟨G,w,ρ,r,?_⟩
 cases e:fa ρ with
 |ok a =>
  rw[e] at p
  intro G' H' w' s' r'
  exact k a.1 a.2 G' H' w' r' s' (zc0.step st s' p)
 |er n=>rw[e] at p;exact p
 |no=>rw[e] at p;exact p
theorem zus{α:Type}{κ:zp7 α}{G H:Hp}{w:Wn}{ρ:Ev}{fa:DN}{g:List Dt×Ev->R α}{Q:VK}(r:Rel K C G w ρ σ H)(p:zc0 C.ex (κ G H w) ((fa ρ).bind g))
  (k:∀ ds ρ1 a vs G1 H1 w1,Rel K C G1 w1 ρ1 σ H1->zbt G H w G1 H1 w1->H a=none->H1 a=some (.lst vs)->G1 a=none->w1 a=none->za2 K G1 ds vs->zc0 C.ex (κ G H w) (g (ds,ρ1))->Q (.ref a) H1):tN K C fa σ H Q:=by
 refine ⟨G,w,ρ,r,?_⟩
 cases e:fa ρ with
 |ok a =>
  rw[e] at p
  intro v vs G' H' w' s' r' q1 q2 q3 q4 q5
  exact k a.1 a.2 v vs G' H' w' r' s' q1 q2 q3 q4 q5 p
 |er n=>rw[e] at p;exact p
 |no=>rw[e] at p;exact p
end
section
variable{X:Cx}
theorem _root_.L2.PE.weak{e:Expr}{t t':TE}(h:PE X e t)(k:∀ σ H Q,t' σ H Q->t σ H Q):PE X e t':=fun pins s σ H Q I q=>h pins s σ H Q I (k σ H Q q)
theorem _root_.L2.PT.weak{e:Expr}{t t':TT}(h:PT X e t)(k:∀ σ H Q,t' σ H Q->t σ H Q):PT X e t':=fun pins s σ H Q I q=>h pins s σ H Q I (k σ H Q q)
theorem _root_.L2.PW.weak{e:Expr}{t t':TT}(h:PW X e t)(k:∀ σ H Q,t' σ H Q->t σ H Q):PW X e t':=fun wh pins s σ H Q I q=>h wh pins s σ H Q I (k σ H Q q)
theorem _root_.L2.PA.weak{e:List Expr}{t t':TA}(h:PA X e t)(k:∀ σ H Q,t' σ H Q->t σ H Q):PA X e t':=fun pos pins s σ H Q I q=>h pos pins s σ H Q I (k σ H Q q)
theorem _root_.L2.PS.weak{e:Stmt}{t t':TS}(h:PS X e t)(k:∀ D σ H,t' D σ H->t D σ H):PS X e t':=fun pins s σ H D I q=>h pins s σ H D I (k D σ H q)
theorem _root_.L2.PSs.weak{e:List Stmt}{t t':TS}(h:PSs X e t)(k:∀ D σ H,t' D σ H->t D σ H):PSs X e t':=fun pins s σ H D I q=>h pins s σ H D I (k D σ H q)
end
section
variable{K:W.Frag}{C:Cn}{σ:L2.St}{G H:Hp}{w:Wn}{ρ:Ev}{i:Nat}{v:V}
theorem Rel.freeze{d:Dt}{b0:B}(r:Rel K C G w ρ σ H)(S:List Addr)(hS:∀ b∈S,w b=some i)(hi:ρ[i]? = some (some b0))(hv:σ[i]? = some (some v))
  (hr:Rep K (fun b=>if b∈S then H b else G b) d v) :
  Rel K C (fun b=>if b∈S then H b else G b) (fun b=>if b∈S then none else w b) (ρ.set i (some (.val d))) σ H /\
   zbt G H w (fun b=>if b∈S then H b else G b) H (fun b=>if b∈S then none else w b):=by
 have gS:∀ b∈S,G b=none:=fun b hb=>r.wg b (by rw[hS b hb];simp)
 have st:zbt G H w (fun b=>if b∈S then H b else G b) H (fun b=>if b∈S then none else w b):=by
  refine ⟨fun b o e=>?_,fun b o e=>?_,fun b o e _=>e,fun b e=>?_,fun _ e=>e⟩
  ·have:b∉S:=fun z=>by rw[gS b z] at e;cases e
   simp[this,e]
  ·by_cases hb:b∈S
   ·exact .inr (.inr (by rw[hS b hb];simp))
   ·simp[hb] at e;exact .inl (by rw[e];simp)
  ·by_cases hb:b∈S
   ·simp[hb] at e
   ·simp[hb] at e;exact .inl e
 refine ⟨⟨fun b o e=>?_,fun b e=>?_,fun b e=>?_,by simpa using r.len,fun j b e=>?_,r.en.trans st,r.pin⟩,st⟩
 ·by_cases hb:b∈S
  ·simp[hb] at e;exact e
  ·simp[hb] at e;exact r.gh b o e
 ·by_cases hb:b∈S
  ·simp[hb] at e
  ·simp[hb] at e ⊢;exact r.wg b e
 ·by_cases hb:b∈S
  ·simp[hb] at e
  ·simp[hb] at e;exact r.wh b e
 ·by_cases hj:j=i
  ·subst hj
   rw[List.getElem?_set_self (List.getElem?_eq_some_iff.mp hi).1] at e
   cases e
   exact ⟨v,hv,hr⟩
  ·rw[List.getElem?_set_ne (Ne.symm hj)] at e
   obtain ⟨v',h1,h2⟩:=r.sl j b e
   refine ⟨v',h1,h2.grow st.g fun a o e1 e2=>⟨e2,?_⟩⟩
   have:a∉S:=fun z=>by rw[hS a z] at e1;exact hj (Option.some.inj e1).symm
   simp[this,e1]
end
def zab(i:Nat):De:=fun ρ=>match ρ[i]? with
 |some (some (.val d))=>.ok (d,ρ)
 |_=>.no
def ziV(i:Nat):De:=fun ρ=>match ρ[i]? with
 |some (some (.val d))=>.ok (d,ρ)
 |some (some (.own ds))=>.ok (.lst ds,ρ.set i (some (.val (.lst ds))))
 |some (some (.own2 dss))=>.ok (.lst (dss.map .lst),ρ.set i (some (.val (.lst (dss.map .lst)))))
 |_=>.no
theorem zgN{K:W.Frag}{G:Hp}:∀{as:List Addr}{dss:List (List Dt)},Paired (fun b ds=>∃ vs,G b=some (.lst vs)/\za2 K G ds vs) as dss->za2 K G (dss.map .lst) (as.map V.ref)
 |_,_,.nil=>za2.nil
 |a::as,ds::dss,.cons ⟨vs,h1,h2⟩ t=>za2.cons (by unfold Rep;exact ⟨a,vs,rfl,h1,h2⟩) (zgN t)
theorem zcH{α β:Type}{F:α->β->Prop}:∀{l₁:List α}{l₂:List β},Paired F l₁ l₂->∀ a∈l₁,∃ b,F a b
 |_,_,.cons r t,a,h=>by
  rcases List.mem_cons.mp h with rfl|h
  ·exact ⟨_,r⟩
  ·exact zcH t a h
theorem zbg{α β:Type}{F F':α->β->Prop}:∀{l₁:List α}{l₂:List β},Paired F l₁ l₂->(∀ a b,a∈l₁->F a b->F' a b)->Paired F' l₁ l₂
 |_,_,.nil,_=>.nil
 |_,_,.cons r t,f=>.cons (f _ _ List.mem_cons_self r) (zbg t fun a b h=>f a b (List.mem_cons_of_mem _ h))
section
variable{X:Cx}{C:Cn}
theorem zaa(i:Nat){x:Str}{pos:Pos}(hN:X.N[i]? = some x:=by rfl)(hv:Vis X.env.scope x:=by first|exact Or.inl rfl|exact Or.inr (Or.inl rfl)|exact Or.inr (Or.inr rfl))(hd:(x == ("__debug__" : Str))=false:=by decide)
  (hcd:(x == ("__classdict__" : Str))=false:=by decide):JE X C (.Name x pos) (zab i):=(zbw hN hv hd hcd).weak fun σ H Q ⟨G,w,ρ,r,p⟩=>by
 unfold zab at p
 split at p
 ·rename_i d e
  obtain ⟨v,h1,h2⟩:=r.sl i _ e
  exact ⟨v,h1,p v G H w (.refl _ _ _) r h2⟩
 ·exact p.elim
theorem zlH(i:Nat){x:Str}{pos:Pos}(hN:X.N[i]? = some x:=by rfl)(hv:Vis X.env.scope x:=by first|exact Or.inl rfl|exact Or.inr (Or.inl rfl)|exact Or.inr (Or.inr rfl))(hd:(x == ("__debug__" : Str))=false:=by decide)
  (hcd:(x == ("__classdict__" : Str))=false:=by decide):JE X C (.Name x pos) (ziV i):=(zbw hN hv hd hcd).weak fun σ H Q ⟨G,w,ρ,r,p⟩=>by
 unfold ziV at p
 split at p
 ·rename_i d e
  obtain ⟨v,h1,h2⟩:=r.sl i _ e
  exact ⟨v,h1,p v G H w (.refl _ _ _) r h2⟩
 ·rename_i ds e
  obtain ⟨v,h1,a,vs,rfl,h2,h3,h4⟩:=r.sl i _ e
  have hr:Rep X.K (fun b=>if b∈[a] then H b else G b) (.lst ds) (.ref a):=by
   unfold Rep
   refine ⟨a,vs,rfl,(by simp[h3]),za2.same (fun b o e=>?_) h4⟩
   have:b≠a:=fun z=>by subst z;rw[r.wg b (by rw[h2];simp)] at e;cases e
   simp[this,e]
  obtain ⟨r',s'⟩:=r.freeze [a] (fun b hb=>by simp at hb;subst hb;exact h2) e h1 hr
  exact ⟨_,h1,p _ _ _ _ s' r' hr⟩
 ·rename_i dss e
  obtain ⟨v,h1,a,as,rfl,h2,h3,h4,h5⟩:=r.sl i _ e
  have hS:∀ b∈a::as,w b=some i:=fun b hb=>by
   rcases List.mem_cons.mp hb with rfl|hb
   ·exact h2
   ·obtain ⟨_,z,_⟩:=zcH h5 b hb
    exact z
  have sg:zcf G (fun b=>if b∈a::as then H b else G b):=fun b o e=>by
   have:b∉a::as:=fun z=>by rw[r.wg b (by rw[hS b z];simp)] at e;cases e
   simp only[this,if_false];exact e
  have hr:Rep X.K (fun b=>if b∈a::as then H b else G b) (.lst (dss.map .lst)) (.ref a):=by
   unfold Rep
   refine ⟨a,as.map V.ref,rfl,(by simp[h3]),zgN (zbg h5 fun b ds hb ⟨q1,vs,q2,q3⟩=>⟨vs,?_,za2.same sg q3⟩)⟩
   simp[hb,q2]
  obtain ⟨r',s'⟩:=r.freeze (a::as) hS e h1 hr
  exact ⟨_,h1,p _ _ _ _ s' r' hr⟩
 ·exact p.elim
def dC(d:Dt):De:=fun ρ=>.ok (d,ρ)
theorem zam{i j pos}:JE X C (.Constant (.int i) j pos) (dC (.int i)):=PE.weak zld fun σ H Q ⟨G,w,ρ,r,p⟩=>p _ G H w (.refl _ _ _) r (by unfold Rep;rfl)
theorem zfb{b j pos}:JE X C (.Constant (.bool b) j pos) (dC (.bl b)):=PE.weak zuI fun σ H Q ⟨G,w,ρ,r,p⟩=>p _ G H w (.refl _ _ _) r (by unfold Rep;rfl)
theorem zff{j pos}:JE X C (.Constant .none j pos) (dC .non):=PE.weak ztr fun σ H Q ⟨G,w,ρ,r,p⟩=>p _ G H w (.refl _ _ _) r (by unfold Rep;rfl)
theorem zb2{x j pos}:JE X C (.Constant (.str x) j pos) (dC (.str x)):=PE.weak ztk fun σ H Q ⟨G,w,ρ,r,p⟩=>p _ G H w (.refl _ _ _) r (by unfold Rep;rfl)
theorem zou{x:Str}{i:Int}{t:Tok}{pos:Pos}(hg:Gl X x)(hm:X.mg x=some (.int i t))(hd:(x == ("__debug__" : Str))=false:=by decide):JE X C (.Name x pos) (dC (.int i)) :=
 (zgV (v:=.int i) hg hm ⟨t,rfl⟩ hd).weak fun σ H Q ⟨G,w,ρ,r,p⟩=>p _ G H w (.refl _ _ _) r (by unfold Rep;rfl)
def dOp(g:Dt->Dt->R Dt)(fa fb:De):De:=fun ρ=>(fa ρ).bind fun a=>(fb a.2).bind fun b=>(g a.1 b.1).bind fun z=>.ok (z,b.2)
def Op2(K:W.Frag)(r:R2)(g:Dt->Dt->R Dt):Prop:=∀(G H:Hp)(x y:V)(dx dy z:Dt)(Q:VK),zcf G H->Rep K G dx x->Rep K G dy y->g dx dy=.ok z ->
 (∀ v G' H',zea G H G' H'->Rep K G' z v->Q v H')->r x y H Q
def zh4(g:Dt->Dt->R Dt):Prop:=∀ x y n,g x y≠.er n
variable{a b:Expr}{fa fb:De}{pos:Pos}
theorem zhf{r:R2}{g:Dt->Dt->R Dt}{σ:L2.St}{H:Hp}{Q:VK}(h2:Op2 X.K r g)(he:zh4 g)(h:tE X.K C (dOp g fa fb) σ H Q):tOp r (tE X.K C fa) (tE X.K C fb) σ H Q:=by
 obtain ⟨G,w,ρ,rr,p⟩:=h
 refine zd7 (κ:=fun G H w=>kE X.K C σ Q G H w) zbG rr p fun d ρ1 v G1 H1 w1 r1 s1 q1 p1=>?_
 refine zd7 (κ:=fun G H w=>kE X.K C σ Q G H w) zbG r1 p1 fun d2 ρ2 v2 G2 H2 w2 r2 s2 q2 p2=>?_
 cases e:g d d2 with
 |ok z =>
  simp only[e,R.bind_ok] at p2
  refine h2 G2 H2 v v2 d d2 z Q r2.gh (q1.same s2.g) q2 e fun v3 G3 H3 gr q3=>?_
  exact p2 v3 G3 H3 w2 gr.step (r2.grow gr) q3
 |er n=>exact absurd e (he _ _ _)
 |no=>simp only[e,R.bind_no] at p2;exact p2.elim
theorem zkB{op:Operator}{r:R2}{g:Dt->Dt->R Dt}(ho:OpR X (binaryOp op) r)(h2:Op2 X.K r g)(he:zh4 g)(ha:JE X C a fa)(hb:JE X C b fb):JE X C (.BinOp a op b pos) (dOp g fa fb) :=
 (ztx ho ha hb).weak fun σ H Q h=>zhf h2 he h
theorem zjy{op:CmpOp}{r:R2}{g:Dt->Dt->R Dt}(ho:OpR X (compareOp op) r)(h2:Op2 X.K r g)(he:zh4 g)(ha:JE X C a fa)(hb:JE X C b fb)(hm:behindInMarks op b=false):JE X C (.Compare a [op] [b] pos) (dOp g fa fb) :=
 (zqX ho ha hb hm).weak fun σ H Q h=>zhf h2 he h
def dTB(f:De):DT:=fun ρ=>(f ρ).bind fun a=>match a.1 with
 |.bl b=>.ok (b,a.2)
 |_=>.no
theorem zdY{K:W.Frag}{G:Hp}{b:Bool}{v:V}(h:Rep K G (.bl b) v):v=.bl b:=by unfold Rep at h;exact h
theorem za0{K:W.Frag}{G:Hp}{b:Int}{v:V}(h:Rep K G (.int b) v):v=.int b:=by unfold Rep at h;exact h
theorem zaN{K:W.Frag}{G:Hp}{b:Str}{v:V}(h:Rep K G (.str b) v):v=.str b:=by unfold Rep at h;exact h
theorem zgD{K:W.Frag}{G:Hp}{v:V}(h:Rep K G .non v):v=.non:=by unfold Rep at h;exact h
theorem ziz{K:W.Frag}{G:Hp}{l:List Dt}{v:V}(h:Rep K G (.tup l) v):∃ a vs,v=.ref a/\zkg K G a vs/\za2 K G l vs:=by unfold Rep at h;exact h
theorem zcc{K:W.Frag}{G:Hp}{l:List Dt}{v:V}(h:Rep K G (.tup l) v):∃ a vs,v=.ref a/\SqT K G a vs/\za2 K G l vs:=by
 obtain ⟨a,vs,h1,h2,h3⟩:=ziz h
 exact ⟨a,vs,h1,h2.sq,h3⟩
theorem zbd{K:W.Frag}{G:Hp}{l:List Dt}{v:V}(h:Rep K G (.lst l) v):∃ a vs,v=.ref a/\G a=some (.lst vs)/\za2 K G l vs:=by unfold Rep at h;exact h
theorem zha{f:De}{σ:L2.St}{H:Hp}{Q:Bool->Hp->Prop}(h:tT X.K C (dTB f) σ H Q):tE X.K C f σ H fun x H'=>∃ k,x=.bl k/\Q k H':=by
 obtain ⟨G,w,ρ,r,p⟩:=h
 refine zd7 (κ:=fun G H w=>kT X.K C σ Q G H w) zpB r p fun d ρ1 v G1 H1 w1 r1 s1 q1 p1=>?_
 cases d with
 |bl b=>exact ⟨b,zdY q1,p1 G1 H1 w1 (.refl _ _ _) r1⟩
 |_=>exact p1.elim
theorem zhi{op:CmpOp}{r:R2}{g:Dt->Dt->R Dt}(ho:OpR X (compareOp op) r)(h2:Op2 X.K r g)(he:zh4 g)(ha:JE X C a fa)(hb:JE X C b fb)(hm:behindInMarks op b=false):JT X C (.Compare a [op] [b] pos) (dTB (dOp g fa fb)) :=
 (zis ho ha hb hm).weak fun σ H Q h=>by
  have h':=zha h
  exact zhf h2 he h'
theorem zbN{e:Expr}{f:De}(h:JE X C e f)(he:∀ whole,isTrue e X.env whole=(do let v <- whole;standAt e.pos;holding [v] (truthy v)):=by intro _;rfl):JT X C e (dTB f) :=
 (ztM h he).weak fun σ H Q h=>zha h
def zaU(f:DT):DT:=fun ρ=>(f ρ).bind fun a=>.ok (!a.1,a.2)
def ze8(f g:DT):DT:=fun ρ=>(f ρ).bind fun a=>if a.1=true then g a.2 else .ok (false,a.2)
def zfr(f g:DT):DT:=fun ρ=>(f ρ).bind fun a=>if a.1=true then .ok (true,a.2) else g a.2
variable{tA tB':DT}{zbr:List Expr}
theorem zdN(ha:JT X C a tA):JT X C (.UnaryOp .Not a pos) (zaU tA):=(ztf ha).weak fun σ H Q ⟨G,w,ρ,r,p⟩ =>
 zsj (κ:=fun G H w=>kT X.K C σ Q G H w) zpB r p fun b ρ1 G1 H1 w1 r1 s1 p1=>p1 G1 H1 w1 (.refl _ _ _) r1
theorem zhb(ha:JT X C a tA):JW X C (.BoolOp .And [a] pos) tA:=zrI ha
theorem zfh(ha:JT X C a tA):JW X C (.BoolOp .Or [a] pos) tA:=ztj ha
theorem zjV(ha:JT X C a tA)(hb:JW X C (.BoolOp .And (b::zbr) pos) tB'):JW X C (.BoolOp .And (a::b::zbr) pos) (ze8 tA tB'):=(ztL ha hb).weak fun σ H Q ⟨G,w,ρ,r,p⟩=>by
 refine zsj (κ:=fun G H w=>kT X.K C σ Q G H w) zpB r p fun b ρ1 G1 H1 w1 r1 s1 p1=>?_
 cases b with
 |true=>exact ⟨G1,w1,ρ1,r1,p1⟩
 |false=>exact p1 G1 H1 w1 (.refl _ _ _) r1
theorem zhj(ha:JT X C a tA)(hb:JW X C (.BoolOp .Or (b::zbr) pos) tB'):JW X C (.BoolOp .Or (a::b::zbr) pos) (zfr tA tB'):=(zun ha hb).weak fun σ H Q ⟨G,w,ρ,r,p⟩=>by
 refine zsj (κ:=fun G H w=>kT X.K C σ Q G H w) zpB r p fun b ρ1 G1 H1 w1 r1 s1 p1=>?_
 cases b with
 |true=>exact p1 G1 H1 w1 (.refl _ _ _) r1
 |false=>exact ⟨G1,w1,ρ1,r1,p1⟩
theorem JW.jt{e:Expr}{f:DT}(h:JW X C e f):JT X C e f:=PW.pt h
def zh3(fa fb:De):De:=fun ρ=>(fa ρ).bind fun a=>match a.1 with
 |.bl true=>fb a.2
 |.bl false=>.ok (.bl false,a.2)
 |_=>.no
def ztY(fa:De):De:=fun ρ=>(fa ρ).bind fun a=>match a.1 with
 |.bl b=>.ok (.bl (!b),a.2)
 |_=>.no
theorem zfU{op}{f:De}(h:JE X C a f):JE X C (.BoolOp op [a] pos) f:=ztn h
theorem zfX(ha:JE X C a fa)(hb:JE X C (.BoolOp .And (b::zbr) pos) fb):JE X C (.BoolOp .And (a::b::zbr) pos) (zh3 fa fb):=(zst ha hb).weak fun σ H Q ⟨G,w,ρ,r,p⟩=>by
 refine zd7 (κ:=fun G H w=>kE X.K C σ Q G H w) zbG r p fun d ρ1 v G1 H1 w1 r1 s1 q1 p1=>?_
 cases d with
 |bl b =>
  refine ⟨b,zdY q1,?_⟩
  cases b with
  |true=>exact ⟨G1,w1,ρ1,r1,p1⟩
  |false=>exact p1 _ G1 H1 w1 (.refl _ _ _) r1 (by unfold Rep;rfl)
 |_=>exact p1.elim
theorem zqC(ha:JE X C a fa):JE X C (.UnaryOp .Not a pos) (ztY fa):=(ztv ha).weak fun σ H Q ⟨G,w,ρ,r,p⟩=>by
 refine zd7 (κ:=fun G H w=>kE X.K C σ Q G H w) zbG r p fun d ρ1 v G1 H1 w1 r1 s1 q1 p1=>?_
 cases d with
 |bl b=>exact ⟨b,zdY q1,p1 _ G1 H1 w1 (.refl _ _ _) r1 (by unfold Rep;rfl)⟩
 |_=>exact p1.elim
def zm5(t:DT)(fa fb:De):De:=fun ρ=>(t ρ).bind fun c=>if c.1=true then fa c.2 else fb c.2
theorem zjf{c:Expr}(hc:JT X C c tA)(ha:JE X C a fa)(hb:JE X C b fb):JE X C (.IfExp c a b pos) (zm5 tA fa fb):=(zpS hc ha hb).weak fun σ H Q ⟨G,w,ρ,r,p⟩=>by
 refine zsj (κ:=fun G H w=>kE X.K C σ Q G H w) zbG r p fun b ρ1 G1 H1 w1 r1 s1 p1=>?_
 cases b with
 |true=>exact ⟨G1,w1,ρ1,r1,p1⟩
 |false=>exact ⟨G1,w1,ρ1,r1,p1⟩
abbrev DA:=Ev->R (List Dt×Ev)
def kA(K:W.Frag)(C:Cn)(σ:L2.St)(Q:List V->Hp->Prop)(G H:Hp)(w:Wn)(a:List Dt×Ev):Prop :=
 ∀ vs G' H' w',zbt G H w G' H' w'->Rel K C G' w' a.2 σ H'->za2 K G' a.1 vs->Q vs H'
theorem zsF{K:W.Frag}{σ:L2.St}{Q:List V->Hp->Prop}:Stp (fun G H w=>kA K C σ Q G H w):=fun _ _ _ _ _ _ _ s k v G' H' w' s'=>k v G' H' w' (s.trans s')
def tAd(K:W.Frag)(C:Cn)(f:DA):TA:=fun σ H Q=>∃ G w ρ,Rel K C G w ρ σ H/\zc0 C.ex (kA K C σ Q G H w) (f ρ)
abbrev JA(X:Cx)(C:Cn)(es:List Expr)(f:DA):Prop:=PA X es (tAd X.K C f)
def dA0:DA:=fun ρ=>.ok ([],ρ)
def dA(fa:De)(fr:DA):DA:=fun ρ=>(fa ρ).bind fun a=>(fr a.2).bind fun b=>.ok (a.1::b.1,b.2)
theorem ztq{K:W.Frag}{σ:L2.St}{α:Type}{κ:zp7 α}(st:Stp κ){G H:Hp}{w:Wn}{ρ:Ev}{fa:DA}{g:List Dt×Ev->R α}{Q:List V->Hp->Prop}(r:Rel K C G w ρ σ H)(p:zc0 C.ex (κ G H w) ((fa ρ).bind g))
  (k:∀ ds ρ1 vs G1 H1 w1,Rel K C G1 w1 ρ1 σ H1->zbt G H w G1 H1 w1->za2 K G1 ds vs->zc0 C.ex (κ G1 H1 w1) (g (ds,ρ1))->Q vs H1):tAd K C fa σ H Q:=by
 refine ⟨G,w,ρ,r,?_⟩
 cases e:fa ρ with
 |ok a =>
  rw[e] at p
  intro v G' H' w' s' r' q
  exact k a.1 a.2 v G' H' w' r' s' q (zc0.step st s' p)
 |er n=>rw[e] at p;exact p
 |no=>rw[e] at p;exact p
theorem zaG:JA X C [] dA0:=PA.weak zb3 fun σ H Q ⟨G,w,ρ,r,p⟩=>p _ G H w (.refl _ _ _) r za2.nil
theorem zaw{e:Expr}{es:List Expr}{fr:DA}(ha:JE X C e fa)(hr:JA X C es fr)(hs:starEach (e::es) X.env=(false,eval e X.env)::starEach es X.env:=by rfl):JA X C (e::es) (dA fa fr) :=
 (zaE ha hr hs).weak fun σ H Q ⟨G,w,ρ,r,p⟩=>by
  refine zd7 (κ:=fun G H w=>kA X.K C σ Q G H w) zsF r p fun d ρ1 v G1 H1 w1 r1 s1 q1 p1=>?_
  refine ztq (κ:=fun G H w=>kA X.K C σ Q G H w) zsF r1 p1 fun ds ρ2 vs G2 H2 w2 r2 s2 q2 p2=>?_
  exact p2 _ G2 H2 w2 (.refl _ _ _) r2 (za2.cons (q1.same s2.g) q2)
def zd2{α:Type}(l:List α):Bool:=decide (l.length<=16777216)
def zlg(f:DA):De:=fun ρ=>(f ρ).bind fun a=>if zd2 a.1=true then .ok (.tup a.1,a.2) else .no
def zc9(f:DA):DN:=fun ρ=>(f ρ).bind fun a=>if zd2 a.1=true then .ok (a.1,a.2) else .no
theorem zgG{α:Type}{l:List α}(h:zd2 l=true):l.length<=sizeLine:=by
 have:=of_decide_eq_true h
 rw[show sizeLine=16777216 from by decide];exact this
theorem zib{x1}{es:List Expr}{f:DA}(h:JA X C es f):JE X C (.Tuple es x1 pos) (zlg f):=(zq0 h).weak fun σ H Q ⟨G,w,ρ,r,p⟩=>by
 refine ztq (κ:=fun G H w=>kE X.K C σ Q G H w) zbG r p fun ds ρ1 vs G1 H1 w1 r1 s1 q1 p1=>?_
 by_cases hf:zd2 ds=true
 ·simp only[hf,if_true] at p1
  refine ⟨by rw[<- q1.length];exact zgG hf,fun a ha=>?_⟩
  have gr:zea G1 H1 (upd G1 a (.tup vs)) (upd H1 a (.tup vs)):=.new r1.gh ha
  exact p1 _ _ _ w1 gr.step (r1.grow gr) (by unfold Rep;exact ⟨a,vs,rfl,zkg.of zaj,q1.same gr.g⟩)
 ·simp only[hf] at p1;exact p1.elim
theorem zc1{es:List Expr}{f:DA}(h:JA X C es f):JN X C (.List es pos) (zc9 f):=(zl5 h).weak fun σ H Q ⟨G,w,ρ,r,p⟩=>by
 refine ztq (κ:=fun G H w=>kN X.K C σ Q G H w) zfL r p fun ds ρ1 vs G1 H1 w1 r1 s1 q1 p1=>?_
 by_cases hf:zd2 ds=true
 ·simp only[hf,if_true] at p1
  refine ⟨by rw[<- q1.length];exact zgG hf,fun a ha=>?_⟩
  have gr:zea G1 H1 G1 (upd H1 a (.lst vs)):=.newH r1.gh ha
  exact p1 a vs _ _ w1 gr.step (r1.grow gr) ha zaj (r1.gh.free ha) (by
   cases z:w1 a with
   |none=>rfl
   |some k=>exact absurd ha (r1.wh a (by rw[z];simp))) q1
 ·simp only[hf] at p1;exact p1.elim
def dFz(f:DN):De:=fun ρ=>(f ρ).bind fun a=>.ok (.lst a.1,a.2)
theorem Rel.know{K:W.Frag}{σ:L2.St}{G H:Hp}{w:Wn}{ρ:Ev}{p:Addr}{o:HO}(r:Rel K C G w ρ σ H)(hp:H p=some o)(hg:G p=none)(hw:w p=none)(H0:Hp)(G0:Hp)(w0:Wn)(s:zbt G0 H0 w0 G H w)(h0:H0 p=none)
  (e0:C.H₀ p=none\/C.w₀ p≠none\/C.G₀ p≠none):Rel K C (upd G p o) w ρ σ H/\zbt G0 H0 w0 (upd G p o) H w:=by
 have sg:zcf G (upd G p o):=fun b u e=>by rw[zaf (zah e hg)];exact e
 have s1:∀{G1 H1:Hp}{w1:Wn},zbt G1 H1 w1 G H w->(H1 p=none\/w1 p≠none\/G1 p≠none)->zbt G1 H1 w1 (upd G p o) H w:=fun s z=>by
  refine ⟨s.g.trans sg,fun b u e=>?_,s.h,s.w,s.k⟩
  by_cases hb:b=p
  ·subst hb
   rcases z with z|z|z
   ·exact .inr (.inl z)
   ·exact .inr (.inr z)
   ·exact .inl z
  ·rw[zaf hb] at e;exact s.fr b u e
 refine ⟨⟨fun b u e=>?_,fun b e=>?_,r.wh,r.len,fun i b e=>?_,s1 r.en e0,r.pin⟩,s1 s (.inl h0)⟩
 ·by_cases hb:b=p
  ·subst hb;rw[zaj] at e;cases e;exact hp
  ·rw[zaf hb] at e;exact r.gh b u e
 ·by_cases hb:b=p
  ·subst hb;rw[hw] at e;exact absurd rfl e
  ·rw[zaf hb];exact r.wg b e
 ·obtain ⟨v,h1,h2⟩:=r.sl i b e
  exact ⟨v,h1,h2.grow sg fun _ _ e1 e2=>⟨e2,e1⟩⟩
end
section
variable{X:Cx}{C:Cn}{a b e:Expr}{fa fb:De}{pos:Pos}
theorem zaI{f:DN}(h:JN X C e f):JE X C e (dFz f):=PE.weak h fun σ H Q ⟨G,w,ρ,r,p⟩=>by
 refine zus (κ:=fun G H w=>kE X.K C σ Q G H w) r p fun ds ρ1 a vs G1 H1 w1 r1 s1 h0 h1 h2 h3 q1 p1=>?_
 obtain ⟨r',s'⟩:=r1.know h1 h2 h3 H G w s1 h0 (.inl (r.en.k a h0))
 have sg:zcf G1 (upd G1 a (.lst vs)):=fun b u e=>by rw[zaf (zah e h2)];exact e
 exact p1 _ _ _ _ s' r' (by unfold Rep;exact ⟨a,vs,rfl,zaj,q1.same sg⟩)
def za6(f g:DS):DS:=fun ρ=>(f ρ).bind fun a=>match a.1 with
 |.nx=>g a.2
 |fl=>.ok (fl,a.2)
def dNx:DS:=fun ρ=>.ok (.nx,ρ)
variable{st:Stmt}{zbr:List Stmt}{fs gs:DS}
theorem za8:JSs X C [] dNx:=PSs.weak zrT fun D σ H ⟨G,w,ρ,r,p⟩=>p σ G H w (.refl _ _ _) r
theorem zad(h1:JS X C st fs)(h2:JSs X C zbr gs):JSs X C (st::zbr) (za6 fs gs):=PSs.weak (zoU h1 h2) fun D σ H ⟨G,w,ρ,r,p⟩=>by
 refine ⟨G,w,ρ,r,?_⟩
 unfold za6 at p
 cases e:fs ρ with
 |ok x =>
  rw[e] at p
  obtain ⟨fl,ρ1⟩:=x
  cases fl with
  |nx=>exact fun σ' G' H' w' s' r'=>⟨G',w',ρ1,r',zc0.step zeg s' p⟩
  |bk=>exact p
  |ct=>exact p
  |rt d=>exact p
 |er n=>rw[e] at p;exact p
 |no=>rw[e] at p;exact p
theorem zai(h1:JS X C st fs):JSs X C [st] fs:=znf h1
def dEx(f:De):DS:=fun ρ=>(f ρ).bind fun a=>.ok (.nx,a.2)
theorem zbF(he:JE X C e fa)(hs:swapsWith e none pos.line X.env=pure false:=by rfl):JS X C (.Expr e pos) (dEx fa):=PS.weak (zrt he hs) fun D σ H ⟨G,w,ρ,r,p⟩ =>
 zd7 (κ:=fun G H w=>kS X.K C D G H w) zeg r p fun d ρ1 v G1 H1 w1 r1 s1 q1 p1=>p1 σ G1 H1 w1 (.refl _ _ _) r1
def zbi(f:De):DS:=fun ρ=>(f ρ).bind fun a=>.ok (.rt a.1,a.2)
theorem zay(hn:C.nw=false)(he:JE X C e fa):JS X C (.Return (some e) pos) (zbi fa):=PS.weak (zqu he) fun D σ H ⟨G,w,ρ,r,p⟩ =>
 zd7 (κ:=fun G H w=>kS X.K C D G H w) zeg r p fun d ρ1 v G1 H1 w1 r1 s1 q1 p1=>p1 v σ G1 H1 w1 (.refl _ _ _) r1 (by rw[hn];exact q1)
def zfd(f:DN):DS:=fun ρ=>(f ρ).bind fun a=>.ok (.rt (.lst a.1),a.2)
theorem zkN{f:DN}(hn:C.nw=true)(he:JN X C e f):JS X C (.Return (some e) pos) (zfd f):=PS.weak (zqu he) fun D σ H ⟨G,w,ρ,r,p⟩ =>
 zus (κ:=fun G H w=>kS X.K C D G H w) r p fun ds ρ1 a vs G1 H1 w1 r1 s1 h0 h1 h2 h3 q1 p1=>p1 _ σ G1 H1 w1 s1 r1 (by rw[hn];exact ⟨ds,a,vs,rfl,rfl,r.en.k a h0,h1,h2,h3,q1⟩)
def dIf(c:DT)(f g:DS):DS:=fun ρ=>(c ρ).bind fun b=>if b.1=true then f b.2 else g b.2
theorem zb5{c:Expr}{A B:List Stmt}{tc:DT}(hc:JT X C c tc)(ha:JSs X C A fs)(hb:JSs X C B gs):JS X C (.If c A B pos) (dIf tc fs gs):=PS.weak (zum hc ha hb) fun D σ H ⟨G,w,ρ,r,p⟩=>by
 refine zsj (κ:=fun G H w=>kS X.K C D G H w) zeg r p fun b ρ1 G1 H1 w1 r1 s1 p1=>?_
 cases b with
 |true=>exact ⟨G1,w1,ρ1,r1,p1⟩
 |false=>exact ⟨G1,w1,ρ1,r1,p1⟩
theorem Rel.setVal{K:W.Frag}{σ:L2.St}{G H:Hp}{w:Wn}{ρ:Ev}{i:Nat}{d:Dt}{v:V}(r:Rel K C G w ρ σ H)(hi:i < ρ.length)(hp:i∉C.pp)(h:Rep K G d v):Rel K C G w (ρ.set i (some (.val d))) (σ.set i (some v)) H:=by
 refine ⟨r.gh,r.wg,r.wh,by simpa using r.len,fun j b e=>?_,r.en,fun j hj=>?_⟩
 ·by_cases hj:j=i
  ·subst hj
   rw[List.getElem?_set_self hi] at e
   cases e
   exact ⟨v,List.getElem?_set_self (by rw[<- r.len];exact hi),h⟩
  ·rw[List.getElem?_set_ne (Ne.symm hj)] at e
   obtain ⟨v',h1,h2⟩:=r.sl j b e
   exact ⟨v',by rw[List.getElem?_set_ne (Ne.symm hj)];exact h1,h2⟩
 ·have:i≠j:=fun z=>hp (z ▸ hj)
  rw[List.getElem?_set_ne this];exact r.pin j hj
theorem Rel.setOwn{K:W.Frag}{σ:L2.St}{G0 H0:Hp}{w0:Wn}{G H:Hp}{w:Wn}{ρ:Ev}{i:Nat}{ds:List Dt}{p:Addr}{vs:List V}(r:Rel K C G w ρ σ H)(hi:i < ρ.length)(hpp:i∉C.pp)(hp:H p=some (.lst vs))(hg:G p=none)(hw:w p=none)
  (q:za2 K G ds vs) (s:zbt G0 H0 w0 G H w) (h0:H0 p=none) (en0:C.H₀ p=none) :
  Rel K C G (fun b=>if b=p then some i else w b) (ρ.set i (some (.own ds))) (σ.set i (some (.ref p))) H/\zbt G0 H0 w0 G H (fun b=>if b=p then some i else w b):=by
 have s1:∀{G1 H1:Hp}{w1:Wn},zbt G1 H1 w1 G H w->H1 p=none->zbt G1 H1 w1 G H (fun b=>if b=p then some i else w b):=fun s z=>by
  refine ⟨s.g,s.fr,s.h,fun b e=>?_,s.k⟩
  by_cases hb:b=p
  ·subst hb;exact .inr z
  ·simp[hb] at e;exact s.w b e
 refine ⟨⟨r.gh,fun b e=>?_,fun b e=>?_,by simpa using r.len,fun j b e=>?_,s1 r.en en0,fun j hj=>?_⟩,s1 s h0⟩
 ·by_cases hb:b=p
  ·subst hb;exact hg
  ·simp[hb] at e;exact r.wg b e
 ·by_cases hb:b=p
  ·subst hb;rw[hp];simp
  ·simp[hb] at e;exact r.wh b e
 ·by_cases hj:j=i
  ·subst hj
   rw[List.getElem?_set_self hi] at e
   cases e
   exact ⟨_,List.getElem?_set_self (by rw[<- r.len];exact hi),p,vs,rfl,by simp,hp,q⟩
  ·rw[List.getElem?_set_ne (Ne.symm hj)] at e
   obtain ⟨v',h1,h2⟩:=r.sl j b e
   refine ⟨v',by rw[List.getElem?_set_ne (Ne.symm hj)];exact h1,h2.grow (.refl _) fun a o e1 e2=>⟨e2,?_⟩⟩
   have:a≠p:=fun z=>by subst z;rw[hw] at e1;cases e1
   simp[this,e1]
 ·have:i≠j:=fun z=>hpp (z ▸ hj)
  rw[List.getElem?_set_ne this];exact r.pin j hj
def zb6(i:Nat)(f:De):DS:=fun ρ=>(f ρ).bind fun a=>if i<a.2.length then .ok (.nx,a.2.set i (some (.val a.1))) else .no
theorem zbq{i:Nat}{x:Str}{pos':Pos}(hN:X.N.Nodup)(hi:X.N[i]? = some x)(hx:Loc X.env.scope x)(hp:i∉C.pp)(he:JE X C e fa)(hs:swapsWith e (some (.Name x pos')) pos.line X.env=pure false:=by rfl)
  (hf:X.fn x=true\/X.env.scope.names.lookup x=some .local:=by first|exact .inl rfl|exact .inr rfl|assumption):JS X C (.Assign [.Name x pos'] e pos) (zb6 i fa) :=
 PS.weak (zlq hN hi hx he hs) fun D σ H ⟨G,w,ρ,r,p⟩=>by
  refine zd7 (κ:=fun G H w=>kS X.K C D G H w) zeg r p fun d ρ1 v G1 H1 w1 r1 s1 q1 p1=>?_
  by_cases hl:i < ρ1.length
  ·simp only[hl,if_true] at p1
   exact p1 _ G1 H1 w1 (.refl _ _ _) (r1.setVal hl hp q1)
  ·simp only[hl,if_false] at p1
   exact p1.elim
def zbO(i:Nat)(f:DN):DS:=fun ρ=>(f ρ).bind fun a=>if i<a.2.length then .ok (.nx,a.2.set i (some (.own a.1))) else .no
theorem zfG{i:Nat}{x:Str}{pos':Pos}{f:DN}(hN:X.N.Nodup)(hi:X.N[i]? = some x)(hx:Loc X.env.scope x)(hp:i∉C.pp)(he:JN X C e f)(hs:swapsWith e (some (.Name x pos')) pos.line X.env=pure false:=by rfl)
  (hf:X.fn x=true\/X.env.scope.names.lookup x=some .local:=by first|exact .inl rfl|exact .inr rfl|assumption):JS X C (.Assign [.Name x pos'] e pos) (zbO i f) :=
 PS.weak (zlq hN hi hx he hs) fun D σ H ⟨G,w,ρ,r,p⟩=>by
  refine zus (κ:=fun G H w=>kS X.K C D G H w) r p fun ds ρ1 a vs G1 H1 w1 r1 s1 h0 h1 h2 h3 q1 p1=>?_
  by_cases hl:i < ρ1.length
  ·simp only[hl,if_true] at p1
   obtain ⟨r',s'⟩:=r1.setOwn hl hp h1 h2 h3 q1 s1 h0 (r.en.k a h0)
   exact p1 _ _ _ _ s' r'
  ·simp only[hl,if_false] at p1
   exact p1.elim
def znm(i:Nat)(fb:De):De:=fun ρ=>match ρ[i]? with
 |some (some _)=>(fb ρ).bind fun b=>match b.2[i]?,b.1 with
  |some (some (.own ds)),.int k=>match atI ds k with
   |some d=>.ok (d,b.2)
   |none=>.no
  |_,_=>.no
 |_=>.no
theorem zgs{K:W.Frag}{G:Hp}{ds:List Dt}{vs:List V}{k:Int}{d:Dt}(h:za2 K G ds vs)(e:atI ds k=some d):∃ v,atI vs k=some v/\Rep K G d v:=by
 unfold atI at e ⊢
 rw[<- h.length]
 cases q:ixN ds.length k with
 |none=>rw[q] at e;cases e
 |some j =>
  rw[q] at e
  exact h.get e
theorem zgB(i:Nat){x:Str}{ps:Pos}(hN:X.N[i]? = some x:=by rfl)(hb:JE X C b fb)(hv:Vis X.env.scope x:=by first|exact Or.inl rfl|exact Or.inr (Or.inl rfl)|exact Or.inr (Or.inr rfl))(hd:(x == ("__debug__" : Str))=false:=by decide)
  (hcd:(x == ("__classdict__" : Str))=false:=by decide) (hs:zel b:=by exact fun _ _=>rfl):JE X C (.Subscript (.Name x ps) b pos) (znm i fb) :=
 PE.weak (zh5 zeH (zbw hN hv hd hcd) hb hs) fun σ H Q ⟨G,w,ρ,r,p⟩=>by
  unfold znm at p
  split at p
  ·rename_i b0 e0
   obtain ⟨v0,h0,_⟩:=r.sl i b0 e0
   refine ⟨v0,h0,?_⟩
   refine zd7 (κ:=fun G H w=>kE X.K C σ Q G H w) zbG r p fun d ρ1 v G1 H1 w1 r1 s1 q1 p1=>?_
   dsimp only at p1
   split at p1
   ·rename_i ds k e1
    obtain ⟨v1,h1,a,vs,rfl,h2,h3,h4⟩:=r1.sl i _ e1
    rw[h0] at h1;cases h1
    split at p1
    ·rename_i d' e2
     obtain ⟨v2,h5,h6⟩:=zgs h4 e2
     exact ⟨a,vs,k,v2,rfl,za0 q1,SqL.of h3,h5,p1 v2 G1 H1 w1 (.refl _ _ _) r1 h6⟩
    ·exact p1.elim
   ·exact p1.elim
  ·exact p.elim
end
def zlP(K:W.Frag)(J:It)(G:Hp)(ds:List Dt):Prop:=∀(i:Nat)(G1 H:Hp),zcf G G1->zcf G1 H ->
 (∀ d,ds[i]? = some d->J.go i H/\∀ x H',J.yld i H x H'->∃ G2,zea G1 H G2 H'/\Rep K G2 d x)/\(ds.length<=i->J.stop i H)
def kI(K:W.Frag)(C:Cn)(σ:L2.St)(Q:It->Hp->Prop)(G H:Hp)(w:Wn)(a:List Dt×Ev):Prop :=
 ∀ J G' H' w',zbt G H w G' H' w'->Rel K C G' w' a.2 σ H'->zlP K J G' a.1->Q J H'
def tI(K:W.Frag)(C:Cn)(f:DA):TI:=fun σ H Q=>∃ G w ρ,Rel K C G w ρ σ H/\zc0 C.ex (kI K C σ Q G H w) (f ρ)
abbrev JI(X:Cx)(C:Cn)(tg iter:Expr)(f:DA):Prop:=PI X tg iter (tI X.K C f)
section
variable{X:Cx}{C:Cn}{tg iter:Expr}{fa:De}{pos:Pos}
theorem ztS{K:W.Frag}{σ:L2.St}{α:Type}{κ:zp7 α}(st:Stp κ){G H:Hp}{w:Wn}{ρ:Ev}{fa:DA}{g:List Dt×Ev->R α}{Q:It->Hp->Prop}(r:Rel K C G w ρ σ H)(p:zc0 C.ex (κ G H w) ((fa ρ).bind g))
  (k:∀ ds ρ1 J G1 H1 w1,Rel K C G1 w1 ρ1 σ H1->zbt G H w G1 H1 w1->zlP K J G1 ds->zc0 C.ex (κ G1 H1 w1) (g (ds,ρ1))->Q J H1):tI K C fa σ H Q:=by
 refine ⟨G,w,ρ,r,?_⟩
 cases e:fa ρ with
 |ok a =>
  rw[e] at p
  intro v G' H' w' s' r' q
  exact k a.1 a.2 v G' H' w' r' s' q (zc0.step st s' p)
 |er n=>rw[e] at p;exact p
 |no=>rw[e] at p;exact p
theorem PI.or{t t':TI}(h:PI X tg iter t)(h':PI X tg iter t'):PI X tg iter (fun σ H Q=>t σ H Q\/t' σ H Q):=fun pins s σ H Q I q=>q.elim (h pins s σ H Q I) (h' pins s σ H Q I)
theorem PI.weak{t t':TI}(h:PI X tg iter t)(k:∀ σ H Q,t' σ H Q->t σ H Q):PI X tg iter t':=fun pins s σ H Q I q=>h pins s σ H Q I (k σ H Q q)
def dIt(f:De):DA:=fun ρ=>(f ρ).bind fun a=>match a.1 with
 |.lst l=>.ok (l,a.2)
 |.tup l=>.ok (l,a.2)
 |_=>.no
theorem zs0{K:W.Frag}{G:Hp}{a:Addr}{vs:List V}{ds:List Dt}(hs:SqT K G a vs)(q:za2 K G ds vs):zlP K (Itt K a) G ds:=fun i G1 H s1 s2=>by
 refine ⟨fun d e=>?_,fun h=>⟨vs,zaT s2 (zaT s1 hs),by rw[<- q.length];exact h⟩⟩
 obtain ⟨v,e1,e2⟩:=q.get e
 refine ⟨⟨vs,v,zaT s2 (zaT s1 hs),e1⟩,fun x H' y=>?_⟩
 obtain ⟨rfl,y⟩:=y
 have:=y vs (zaT s2 (zaT s1 hs))
 rw[e1] at this;cases this
 exact ⟨G1,.refl s2,e2.same s1⟩
theorem zqD{K:W.Frag}{G:Hp}{a:Addr}{vs:List V}{ds:List Dt}(hs:SqL K G a vs)(q:za2 K G ds vs):zlP K (Itl K a) G ds:=fun i G1 H s1 s2=>by
 refine ⟨fun d e=>?_,fun h=>⟨vs,s2.seq (s1.seq hs),by rw[<- q.length];exact h⟩⟩
 obtain ⟨v,e1,e2⟩:=q.get e
 refine ⟨⟨vs,v,s2.seq (s1.seq hs),e1⟩,fun x H' y=>?_⟩
 obtain ⟨rfl,y⟩:=y
 have:=y vs (s2.seq (s1.seq hs))
 rw[e1] at this;cases this
 exact ⟨G1,.refl s2,e2.same s1⟩
theorem zcX(h:JE X C iter fa):JI X C tg iter (dIt fa):=PI.weak (PI.or (zrS h) (ztR h)) fun σ H Q ⟨G,w,ρ,r,p⟩=>by
 unfold dIt at p
 cases e:fa ρ with
 |ok x =>
  obtain ⟨d,ρ1⟩:=x
  cases d with
  |lst l =>
   rw[e] at p
   refine .inl ⟨G,w,ρ,r,?_⟩
   rw[e]
   intro v G' H' w' s' r' q
   obtain ⟨a,vs,rfl,h1,h2⟩:=zbd q
   exact ⟨a,rfl,⟨vs,SqL.of (r'.gh _ _ h1)⟩,p _ G' H' w' s' r' (zqD (SqL.of h1) h2)⟩
  |tup l =>
   rw[e] at p
   refine .inr ⟨G,w,ρ,r,?_⟩
   rw[e]
   intro v G' H' w' s' r' q
   obtain ⟨a,vs,rfl,h1,h2⟩:=zcc q
   exact ⟨a,rfl,⟨vs,zaT r'.gh h1⟩,p _ G' H' w' s' r' (zs0 h1 h2)⟩
  |_=>rw[e] at p;exact p.elim
 |er n=>rw[e] at p;exact .inl ⟨G,w,ρ,r,by rw[e];exact p⟩
 |no=>rw[e] at p;exact p.elim
def zaR(lo:Int)(n:Nat):List Dt:=(List.range n).map fun k=>.int (lo+(k:Nat))
theorem zsG{K:W.Frag}{G:Hp}{lo:Int}{n:Nat}:zlP K (Itr lo n) G (zaR lo n):=fun i G1 H s1 s2=>by
 refine ⟨fun d e=>?_,fun h=>show n<=i by simpa [zaR] using h⟩
 unfold zaR at e
 rw[List.getElem?_map] at e
 by_cases hi:i<n
 ·rw[List.getElem?_range hi] at e
  cases e
  refine ⟨hi,fun x H' y=>?_⟩
  obtain ⟨rfl,rfl⟩:=y
  exact ⟨G1,.refl s2,by unfold Rep;rfl⟩
 ·rw[List.getElem?_eq_none (by simpa using hi)] at e
  cases e
def zf1(j:Int):Bool:=decide (-4611686018427387904<=j) && decide (j<4611686018427387904)
theorem zix{j:Int}(h:zf1 j=true):-(2 ^ 62)<=j/\j<2 ^ 62:=by
 unfold zf1 at h
 rw[Bool.and_eq_true] at h
 have h1:=of_decide_eq_true h.1
 have h2:=of_decide_eq_true h.2
 omega
def zcb(fa:De):DA:=fun ρ=>(fa ρ).bind fun a=>match a.1 with
 |.int j=>if zf1 j=true then .ok (zaR 0 j.toNat,a.2) else .no
 |_=>.no
theorem zek{e:Expr}{p ps:Pos}(hg:Gl X "range")(hm:X.mg "range"=none)(he:JE X C e fa)(hs:starEach [e] X.env=[(false,eval e X.env)]:=by rfl):JI X C tg (.Call (.Name "range" p) [e] [] ps) (zcb fa) :=
 PI.weak (zmN hg hm (zaw he zaG (by rw[hs];rfl)) hs) fun σ H Q ⟨G,w,ρ,r,p⟩=>by
  unfold zcb at p
  refine ⟨G,w,ρ,r,?_⟩
  unfold dA dA0
  cases e:fa ρ with
  |ok x =>
   obtain ⟨d,ρ1⟩:=x
   rw[e] at p
   intro vs G' H' w' s' r' q
   obtain ⟨v,t,rfl,q1,q2⟩:=q.cons_inv
   rw[q2.nil_inv]
   cases d with
   |int j =>
    simp only[R.bind_ok] at p
    by_cases hj:zf1 j=true
    ·simp only[hj,if_true] at p
     exact ⟨j,by rw[za0 q1],(zix hj).1,(zix hj).2,p _ G' H' w' s' r' zsG⟩
    ·simp only[hj] at p;exact p.elim
   |_=>exact p.elim
  |er n=>rw[e] at p;exact p
  |no=>rw[e] at p;exact p
abbrev DG:=Dt->Ev->R Ev
def kG(K:W.Frag)(C:Cn)(Q:L2.St->Hp->Prop)(G H:Hp)(w:Wn)(ρ:Ev):Prop :=
 ∀ σ' G' H' w',zbt G H w G' H' w'->Rel K C G' w' ρ σ' H'->Q σ' H'
def tG(K:W.Frag)(C:Cn)(g:DG):TG:=fun v σ H Q=>∃ G w ρ d,Rel K C G w ρ σ H/\Rep K G d v/\zc0 C.ex (kG K C Q G H w) (g d ρ)
abbrev JG(X:Cx)(C:Cn)(tg:Expr)(g:DG):Prop:=PG X tg (tG X.K C g)
theorem PG.weak{t t':TG}(h:PG X tg t)(k:∀ v σ H Q,t' v σ H Q->t v σ H Q):PG X tg t':=fun pins s σ H v u Q I r q=>h pins s σ H v u Q I r (k v σ H Q q)
def zbz(i:Nat):DG:=fun d ρ=>if i < ρ.length then .ok (ρ.set i (some (.val d))) else .no
theorem zbc{i:Nat}{x:Str}(hN:X.N.Nodup)(hi:X.N[i]? = some x)(hx:Loc X.env.scope x)(hp:i∉C.pp)(hf:X.fn x=true\/X.env.scope.names.lookup x=some .local:=by first|exact .inl rfl|exact .inr rfl|assumption):JG X C (.Name x pos) (zbz i) :=
 PG.weak (zkT hN hi hx hf) fun v σ H Q ⟨G,w,ρ,d,r,q,p⟩=>by
  unfold zbz at p
  by_cases hl:i < ρ.length
  ·simp only[hl,if_true] at p
   exact p _ G H w (.refl _ _ _) (r.setVal hl hp q)
  ·simp only[hl,if_false] at p;exact p.elim
def ziv(i j:Nat):DG:=fun d ρ=>match d with
 |.tup [a,b]=>if i < ρ.length/\j < ρ.length then .ok ((ρ.set i (some (.val a))).set j (some (.val b))) else .no
 |_=>.no
theorem zrX{i j k:Nat}{x y:Str}{p1 p2:Pos}(hc:X.calm=true)(hN:X.N.Nodup)(hi:X.N[i]? = some x)(hj:X.N[j]? = some y)(hx:Loc X.env.scope x)(hy:Loc X.env.scope y)(hp:i∉C.pp)(hq:j∉C.pp)
  (hf:X.fn x=true\/X.env.scope.names.lookup x=some .local:=by first|exact .inl rfl|exact .inr rfl|assumption) (hf2:X.fn y=true\/X.env.scope.names.lookup y=some .local:=by first|exact .inl rfl|exact .inr rfl|assumption)
  (hs1:(assignEach [.Name x p1,.Name y p2] X.env).map (·.2)=assign (.Name x p1) X.env::(assignEach [.Name y p2] X.env).map (·.2):=by rfl) (hs2:(assignEach [.Name y p2] X.env).map (·.2)=assign (.Name y p2) X.env::(assignEach [] X.env).map (·.2):=by rfl)
  (hn:(assignEach [.Name x p1,.Name y p2] X.env).length=2:=by rfl) (hst:(assignEach [.Name x p1,.Name y p2] X.env).findIdx? (·.1)=none:=by rfl):JG X C (.Tuple [.Name x p1,.Name y p2] k pos) (ziv i j) :=
 PG.weak (ztl hc (zly (zkT hN hi hx hf) (zly (zkT hN hj hy hf2) zrs hs2) hs1) hn hst) fun v σ H Q ⟨G,w,ρ,d,r,q,p⟩=>by
  unfold ziv at p
  split at p
  ·rename_i a b
   obtain ⟨ad,vs,rfl,h1,h2⟩:=zcc q
   obtain ⟨v1,t,rfl,q1,q2⟩:=h2.cons_inv
   obtain ⟨v2,t2,rfl,q3,q4⟩:=q2.cons_inv
   rw[q4.nil_inv] at h1
   by_cases hl:i < ρ.length/\j < ρ.length
   ·simp only[hl,and_self,if_true] at p
    have r1:=r.setVal hl.1 hp q1
    have r2:=r1.setVal (i:=j) (by simpa using hl.2) hq q3
    exact ⟨ad,_,rfl,zaT r.gh h1,rfl,v1,_,rfl,v2,_,rfl,rfl,p _ G H w (.refl _ _ _) r2⟩
   ·simp only[hl,if_false] at p;exact p.elim
  ·exact p.elim
def zmz(g:DG)(body:DS):List Dt->DS
 |[],ρ=>.ok (.nx,ρ)
 |d::r,ρ=>(g d ρ).bind fun ρ1=>(body ρ1).bind fun a=>match a.1 with
  |.nx=>zmz g body r a.2
  |.ct=>zmz g body r a.2
  |.bk=>.ok (.nx,a.2)
  |.rt v=>.ok (.rt v,a.2)
def zmx(fi:DA)(g:DG)(body:DS):DS:=fun ρ=>(fi ρ).bind fun a=>zmz g body a.1 a.2
theorem znP{body:List Stmt}{fi:DA}{g:DG}{fb:DS}(hp:PassesOwn (model X.prog X.w) X.A X.env X.xe)(hc:X.calm=true)(hi:JI X C tg iter fi)(hg:JG X C tg g)(hb:JSs X C body fb)
  (hs:∀ x,foldedSetIterable iter X.env x=pure x:=by intro _;rfl):JS X C (.For tg iter body [] pos) (zmx fi g fb) :=
 PS.weak (zsz hp hc hi hg hb hs) fun D σ H ⟨G,w,ρ,r,p⟩=>by
  refine ztS (κ:=fun G H w=>kS X.K C D G H w) zeg r p fun ds ρ1 J G1 H1 w1 r1 s1 it p1=>?_
  refine ⟨fun i m σ' H'=>m=ds.length-i/\i<=ds.length/\∃ G' w' ρ',zcf G1 G'/\Rel X.K C G' w' ρ' σ' H'/\zc0 C.ex (kS X.K C D G' H' w') (zmz g fb (ds.drop i) ρ'),
   ⟨ds.length,by simp,Nat.zero_le _,G1,w1,ρ1,.refl _,r1,by simpa using p1⟩,?_⟩
  rintro i m σ2 H2 ⟨rfl,hi,G2,w2,ρ2,s2,r2,p2⟩
  obtain ⟨it1,it2⟩:=it i G2 H2 s2 r2.gh
  by_cases hlt:i<ds.length
  ·have ed:ds.drop i=ds[i]::ds.drop (i+1):=List.drop_eq_getElem_cons hlt
   obtain ⟨go,yl⟩:=it1 ds[i] (by simp[hlt])
   rw[ed] at p2
   refine .inr ⟨go,fun σ' H'=>(ds.length-(i+1))=ds.length-(i+1)/\i+1<=ds.length/\∃ G' w' ρ',zcf G1 G'/\Rel X.K C G' w' ρ' σ' H'/\zc0 C.ex (kS X.K C D G' H' w') (zmz g fb (ds.drop (i+1)) ρ'),
    fun σ' H' h=>⟨ds.length-(i+1),by omega,h⟩,fun x H' y=>?_⟩
   obtain ⟨G3,gr,q3⟩:=yl x H' y
   have r3:=r2.grow gr
   have p3:=zc0.step (κ:=fun G H w=>kS X.K C D G H w) zeg gr.step (w1:=w2) p2
   refine ⟨G3,w2,ρ2,ds[i],r3,q3,?_⟩
   unfold zmz at p3
   cases eg:g ds[i] ρ2 with
   |ok ρ3 =>
    rw[eg] at p3
    intro σ4 G4 H4 w4 s4 r4
    have p4:=zc0.step (κ:=fun G H w=>kS X.K C D G H w) zeg s4 p3
    refine ⟨G4,w4,ρ3,r4,?_⟩
    cases eb:fb ρ3 with
    |ok z =>
     obtain ⟨fl,ρ5⟩:=z
     rw[R.bind_ok,eb] at p4
     have sG:zcf G1 G4:=(s2.trans gr.g).trans s4.g
     cases fl with
     |nx=>exact fun σ6 G6 H6 w6 s6 r6=>⟨rfl,hlt,G6,w6,ρ5,sG.trans s6.g,r6,zc0.step (κ:=fun G H w=>kS X.K C D G H w) zeg s6 p4⟩
     |ct=>exact fun σ6 G6 H6 w6 s6 r6=>⟨rfl,hlt,G6,w6,ρ5,sG.trans s6.g,r6,zc0.step (κ:=fun G H w=>kS X.K C D G H w) zeg s6 p4⟩
     |bk=>exact p4
     |rt v=>exact p4
    |er n=>rw[R.bind_ok,eb] at p4;exact p4
    |no=>rw[R.bind_ok,eb] at p4;exact p4
   |er n=>rw[eg] at p3;exact p3
   |no=>rw[eg] at p3;exact p3
  ·have e:i=ds.length:=by omega
   subst e
   simp only[List.drop_length] at p2
   exact .inl ⟨it2 (Nat.le_refl _),p2 σ2 G2 H2 w2 (.refl _ _ _) r2⟩
def zb1(c:DT)(body:DS):Nat->DS
 |0,_=>.no
 |n+1,ρ=>(c ρ).bind fun t=>if t.1=true then (body t.2).bind fun a=>match a.1 with
   |.nx=>zb1 c body n a.2
   |.ct=>zb1 c body n a.2
   |.bk=>.ok (.nx,a.2)
   |.rt v=>.ok (.rt v,a.2)
  else .ok (.nx,t.2)
theorem zlC(n:Nat){c:Expr}{body:List Stmt}{tc:DT}{fb:DS}(hp:PassesOwn (model X.prog X.w) X.A X.env X.xe)(hc:JT X C c tc)(hb:JSs X C body fb):JS X C (.While c body [] pos) (zb1 tc fb n) :=
 PS.weak (zp5 hp hc hb) fun D σ H ⟨G,w,ρ,r,p⟩=>by
  refine ⟨fun m σ' H'=>∃ G' w' ρ',Rel X.K C G' w' ρ' σ' H'/\zc0 C.ex (kS X.K C D G' H' w') (zb1 tc fb m ρ'),⟨n,G,w,ρ,r,p⟩,?_⟩
  rintro m σ1 H1 ⟨G1,w1,ρ1,r1,p1⟩
  cases m with
  |zero=>exact p1.elim
  |succ m =>
   unfold zb1 at p1
   refine zsj (κ:=fun G H w=>kS X.K C D G H w) zeg r1 p1 fun b ρ2 G2 H2 w2 r2 s2 p2=>?_
   cases b with
   |false=>exact p2 σ1 G2 H2 w2 (.refl _ _ _) r2
   |true =>
    refine ⟨fun σ' H'=>∃ G' w' ρ',Rel X.K C G' w' ρ' σ' H'/\zc0 C.ex (kS X.K C D G' H' w') (zb1 tc fb m ρ'),fun σ' H' h=>⟨m,Nat.lt_succ_self _,h⟩,G2,w2,ρ2,r2,?_⟩
    have p2:zc0 C.ex (kS X.K C D G2 H2 w2) ((fb ρ2).bind fun a=>match a.1 with
     |.nx=>zb1 tc fb m a.2
     |.ct=>zb1 tc fb m a.2
     |.bk=>.ok (.nx,a.2)
     |.rt v=>.ok (.rt v,a.2)):=p2
    cases eb:fb ρ2 with
    |ok z =>
     obtain ⟨fl,ρ5⟩:=z
     rw[eb] at p2
     cases fl with
     |nx=>exact fun σ6 G6 H6 w6 s6 r6=>⟨G6,w6,ρ5,r6,zc0.step (κ:=fun G H w=>kS X.K C D G H w) zeg s6 p2⟩
     |ct=>exact fun σ6 G6 H6 w6 s6 r6=>⟨G6,w6,ρ5,r6,zc0.step (κ:=fun G H w=>kS X.K C D G H w) zeg s6 p2⟩
     |bk=>exact p2
     |rt v=>exact p2
    |er n=>rw[eb] at p2;exact p2
    |no=>rw[eb] at p2;exact p2
end
abbrev FD:=List B->R (Dt×List B)
def zgr:B->Bool
 |.val _=>false
 |_=>true
def zaV(bs:List B):List Bool:=bs.map zgr
structure PRel(K:W.Frag)(G H:Hp)(w:Wn)(bs:List B)(vs:List V):Prop where
 gh:zcf G H
 wg:∀ b,w b≠none->G b=none
 wh:∀ b,w b≠none->H b≠none
 len:bs.length=vs.length
 sl:∀(j:Nat)(b:B)(v:V),bs[j]? = some b->vs[j]? = some v->RB K G H w j v b
structure zoX(K:W.Frag)(G H:Hp)(w:Wn)(ks:List Bool)(bs:List B)(vs:List V):Prop where
 gh:zcf G H
 wg:∀ b,w b≠none->G b=none
 wh:∀ b,w b≠none->H b≠none
 sl:∀(j:Nat)(v:V),ks[j]? = some true->vs[j]? = some v->∃ b,bs[j]? = some b/\RB K G H w j v b
def zra(nw:Bool)(K:W.Frag)(xv:Nat->Value)(ks:List Bool)(F:FD):Sp:=fun vs H Q E=>∃ G w bs,vs.length=ks.length/\zaV bs=ks/\PRel K G H w bs vs /\
 match F bs with
 |.ok a=>∀ v G' H' w',zbt G H w G' H' w'->zoX K G' H' w' ks a.2 vs->RtG nw K H G' H' w' a.1 v->Q v H'
 |.er n=>∀ G' H' w',zbt G H w G' H' w'->E (xv n) none H'
 |.no=>False
def EXc(C:Cn):XK:=fun u a H'=>a=none/\∃ n,u=C.xv n/\C.ex n/\∃ G' w',zbt C.G₀ C.H₀ C.w₀ G' H' w'
inductive Arg where
 |d (x:Dt)|s (i:Nat)
def zd3(K:W.Frag)(G:Hp)(σ:L2.St):List Arg->List V->Prop
 |[],vs=>vs=[]
 |.d x::r,vs=>∃ v t,vs=v::t/\Rep K G x v/\zd3 K G σ r t
 |.s i::r,vs=>∃ v t,vs=v::t/\σ[i]? = some (some v)/\zd3 K G σ r t
theorem zd3.same{K:W.Frag}{G G':Hp}{σ:L2.St}(e:zcf G G'):∀{as:List Arg}{vs:List V},zd3 K G σ as vs->zd3 K G' σ as vs
 |[],_,h=>h
 |.d _::_,_,⟨v,t,h1,h2,h3⟩=>⟨v,t,h1,h2.same e,zd3.same e h3⟩
 |.s _::_,_,⟨v,t,h1,h2,h3⟩=>⟨v,t,h1,h2,zd3.same e h3⟩
abbrev DAr:=Ev->R (List Arg×Ev)
def kAr(K:W.Frag)(C:Cn)(σ:L2.St)(Q:List V->Hp->Prop)(G H:Hp)(w:Wn)(a:List Arg×Ev):Prop :=
 ∀ vs G' H' w',zbt G H w G' H' w'->Rel K C G' w' a.2 σ H'->zd3 K G' σ a.1 vs->Q vs H'
def tAr(K:W.Frag)(C:Cn)(f:DAr):TA:=fun σ H Q=>∃ G w ρ,Rel K C G w ρ σ H/\zc0 C.ex (kAr K C σ Q G H w) (f ρ)
abbrev JAr(X:Cx)(C:Cn)(es:List Expr)(f:DAr):Prop:=PA X es (tAr X.K C f)
theorem znU{K:W.Frag}{C:Cn}{σ:L2.St}{Q:List V->Hp->Prop}:Stp (fun G H w=>kAr K C σ Q G H w):=fun _ _ _ _ _ _ _ s k v G' H' w' s'=>k v G' H' w' (s.trans s')
theorem zpt{K:W.Frag}{C:Cn}{σ:L2.St}{α:Type}{κ:zp7 α}(st:Stp κ){G H:Hp}{w:Wn}{ρ:Ev}{fa:DAr}{g:List Arg×Ev->R α}{Q:List V->Hp->Prop}(r:Rel K C G w ρ σ H)(p:zc0 C.ex (κ G H w) ((fa ρ).bind g))
  (k:∀ as ρ1 vs G1 H1 w1,Rel K C G1 w1 ρ1 σ H1->zbt G H w G1 H1 w1->zd3 K G1 σ as vs->zc0 C.ex (κ G1 H1 w1) (g (as,ρ1))->Q vs H1):tAr K C fa σ H Q:=by
 refine ⟨G,w,ρ,r,?_⟩
 cases e:fa ρ with
 |ok a =>
  rw[e] at p
  intro v G' H' w' s' r' q
  exact k a.1 a.2 v G' H' w' r' s' q (zc0.step st s' p)
 |er n=>rw[e] at p;exact p
 |no=>rw[e] at p;exact p
def dR0:DAr:=fun ρ=>.ok ([],ρ)
def dR(fa:De)(fr:DAr):DAr:=fun ρ=>(fa ρ).bind fun a=>(fr a.2).bind fun b=>.ok (.d a.1::b.1,b.2)
def dRO(i:Nat)(fr:DAr):DAr:=fun ρ=>match ρ[i]? with
 |some (some _)=>(fr ρ).bind fun b=>.ok (.s i::b.1,b.2)
 |_=>.no
section
variable{X:Cx}{C:Cn}{fa:De}{fr:DAr}{pos:Pos}
theorem zar:JAr X C [] dR0:=PA.weak zb3 fun σ H Q ⟨G,w,ρ,r,p⟩=>p _ G H w (.refl _ _ _) r rfl
theorem zag{e:Expr}{es:List Expr}(ha:JE X C e fa)(hr:JAr X C es fr)(hs:starEach (e::es) X.env=(false,eval e X.env)::starEach es X.env:=by rfl):JAr X C (e::es) (dR fa fr) :=
 PA.weak (zaE ha hr hs) fun σ H Q ⟨G,w,ρ,r,p⟩=>by
  refine zd7 (κ:=fun G H w=>kAr X.K C σ Q G H w) znU r p fun d ρ1 v G1 H1 w1 r1 s1 q1 p1=>?_
  refine zpt (κ:=fun G H w=>kAr X.K C σ Q G H w) znU r1 p1 fun as ρ2 vs G2 H2 w2 r2 s2 q2 p2=>?_
  exact p2 _ G2 H2 w2 (.refl _ _ _) r2 ⟨v,vs,rfl,q1.same s2.g,q2⟩
theorem zb8(i:Nat){x:Str}{ps:Pos}{es:List Expr}(hr:JAr X C es fr)(hN:X.N[i]? = some x:=by rfl)(hv:Vis X.env.scope x:=by first|exact Or.inl rfl|exact Or.inr (Or.inl rfl)|exact Or.inr (Or.inr rfl))(hd:(x == ("__debug__" : Str))=false:=by decide)
  (hcd:(x == ("__classdict__" : Str))=false:=by decide) (hs:starEach (.Name x ps::es) X.env=(false,eval (.Name x ps) X.env)::starEach es X.env:=by rfl):JAr X C (.Name x ps::es) (dRO i fr) :=
 PA.weak (zaE (zbw hN hv hd hcd) hr hs) fun σ H Q ⟨G,w,ρ,r,p⟩=>by
  unfold dRO at p
  split at p
  ·rename_i b e
   obtain ⟨v,h1,_⟩:=r.sl i b e
   refine ⟨v,h1,?_⟩
   refine zpt (κ:=fun G H w=>kAr X.K C σ Q G H w) znU r p fun as ρ2 vs G2 H2 w2 r2 s2 q2 p2=>?_
   exact p2 _ G2 H2 w2 (.refl _ _ _) r2 ⟨v,vs,rfl,h1,q2⟩
  ·exact p.elim
end
def zq5(as:List Arg)(j:Nat):Option Nat:=match as[j]? with
 |some (.s i)=>some i
 |_=>none
def zdG(i:Nat):Nat->List Arg->Option Nat
 |_,[]=>none
 |j,.s i'::r=>if i'=i then some j else zdG i (j+1) r
 |j,.d _::r=>zdG i (j+1) r
def zdR(as:List Arg)(i:Nat):Option Nat:=zdG i 0 as
def zaZ(as:List Arg):Nat->List Arg->Bool
 |_,[]=>true
 |j,.s i::r=>(zdR as i == some j) && zaZ as (j+1) r
 |j,.d _::r=>zaZ as (j+1) r
def zkm(as:List Arg):Bool:=zaZ as 0 as
theorem zeT{as:List Arg}:∀{l:List Arg}{j k:Nat}{i:Nat},zaZ as j l=true->l[k]? = some (.s i)->zdR as i=some (j+k)
 |[],_,_,_,_,e=>by simp at e
 |.s i'::r,j,0,i,h,e=>by
  simp at e;subst e
  unfold zaZ at h
  rw[Bool.and_eq_true] at h
  simpa using h.1
 |.s i'::r,j,k+1,i,h,e=>by
  unfold zaZ at h
  rw[Bool.and_eq_true] at h
  have:=zeT (k:=k) h.2 (by simpa using e)
  rw[this];congr 1;omega
 |.d x::r,j,0,i,h,e=>by simp at e
 |.d x::r,j,k+1,i,h,e=>by
  unfold zaZ at h
  have:=zeT (k:=k) h (by simpa using e)
  rw[this];congr 1;omega
theorem zf4{i:Nat}:∀{l:List Arg}{j m:Nat},zdG i j l=some m->∃ k,m=j+k/\l[k]? = some (.s i)
 |[],_,_,h=>by simp[zdG] at h
 |.s i'::r,j,m,h=>by
  unfold zdG at h
  split at h
  ·rename_i e;subst e;cases h;exact ⟨0,rfl,rfl⟩
  ·obtain ⟨k,h1,h2⟩:=zf4 h
   exact ⟨k+1,by omega,by simpa using h2⟩
 |.d x::r,j,m,h=>by
  unfold zdG at h
  obtain ⟨k,h1,h2⟩:=zf4 h
  exact ⟨k+1,by omega,by simpa using h2⟩
theorem zoW{as:List Arg}{i j:Nat}(h:zdR as i=some j):as[j]? = some (.s i):=by
 obtain ⟨k,h1,h2⟩:=zf4 h
 have:j=k:=by omega
 subst this;exact h2
theorem zlc{as:List Arg}{i j:Nat}(u:zkm as=true)(h:as[j]? = some (.s i)):zdR as i=some j:=by
 have:=zeT (j:=0) u h
 simpa using this
def za1(ρ:Ev):List Arg->R (List B)
 |[]=>.ok []
 |.d x::r=>(za1 ρ r).bind fun bs=>.ok (.val x::bs)
 |.s i::r=>match ρ[i]? with
  |some (some b)=>if zgr b=true then (za1 ρ r).bind fun bs=>.ok (b::bs) else .no
  |_=>.no
def zgd(as:List Arg)(bs:List B):Nat->Ev->Ev
 |_,[]=>[]
 |i,o::r=>(match zdR as i with|some j=>bs[j]?|none=>o)::zgd as bs (i+1) r
theorem zl0{as:List Arg}{bs:List B}:∀{ρ:Ev}{k i:Nat},(zgd as bs k ρ)[i]? = ρ[i]?.map fun o=>match zdR as (k+i) with|some j=>bs[j]?|none=>o
 |[],_,_=>by simp[zgd]
 |o::r,k,0=>by simp[zgd]
 |o::r,k,i+1=>by
  have:=zl0 (as:=as) (bs:=bs) (ρ:=r) (k:=k+1) (i:=i)
  simp only[zgd,List.getElem?_cons_succ]
  rw[this]
  have e:k+1+i=k+(i+1):=by omega
  rw[e]
theorem zlx{as:List Arg}{bs:List B}:∀{ρ:Ev}{k:Nat},(zgd as bs k ρ).length = ρ.length
 |[],_=>rfl
 |o::r,k=>by simp[zgd,zlx (ρ:=r)]
def zae(F:FD)(fa:DAr):De:=fun ρ=>(fa ρ).bind fun a=>if zkm a.1=true then (za1 a.2 a.1).bind fun bs=>(F bs).bind fun z=>.ok (z.1,zgd a.1 z.2 0 a.2) else .no
theorem zet{ρ:Ev}:∀{as:List Arg}{bs:List B}{j i:Nat},za1 ρ as=.ok bs->as[j]? = some (.s i)->∃ b,ρ[i]? = some (some b)/\bs[j]? = some b/\zgr b=true
 |[],bs,j,i,h,e=>by simp at e
 |.d x::r,bs,j,i,h,e=>by
  unfold za1 at h
  cases q:za1 ρ r with
  |ok l =>
   rw[q] at h;simp only[R.bind_ok,R.ok.injEq] at h;subst h
   cases j with
   |zero=>simp at e
   |succ j =>
    obtain ⟨b,h1,h2,h3⟩:=zet (j:=j) q (by simpa using e)
    exact ⟨b,h1,by simpa using h2,h3⟩
  |er n=>rw[q] at h;simp at h
  |no=>rw[q] at h;simp at h
 |.s i'::r,bs,j,i,h,e=>by
  unfold za1 at h
  split at h
  ·rename_i b eb
   split at h
   ·rename_i ob
    cases q:za1 ρ r with
    |ok l =>
     rw[q] at h;simp only[R.bind_ok,R.ok.injEq] at h;subst h
     cases j with
     |zero=>simp at e;subst e;exact ⟨b,eb,rfl,ob⟩
     |succ j =>
      obtain ⟨b,h1,h2,h3⟩:=zet (j:=j) q (by simpa using e)
      exact ⟨b,h1,by simpa using h2,h3⟩
    |er n=>rw[q] at h;simp at h
    |no=>rw[q] at h;simp at h
   ·cases h
  ·cases h
theorem ze2{ρ:Ev}:∀{as:List Arg}{n:Nat},za1 ρ as≠.er n
 |[],n,h=>by simp[za1] at h
 |.d x::r,n,h=>by
  unfold za1 at h
  cases q:za1 ρ r with
  |ok l=>rw[q] at h;simp at h
  |er m=>exact ze2 q
  |no=>rw[q] at h;simp at h
 |.s i::r,n,h=>by
  unfold za1 at h
  split at h
  ·split at h
   ·cases q:za1 ρ r with
    |ok l=>rw[q] at h;simp at h
    |er m=>exact ze2 q
    |no=>rw[q] at h;simp at h
   ·cases h
  ·cases h
def wIn(w:Wn)(as:List Arg):Wn:=fun b=>(w b).bind (zdR as)
def zoJ(w w':Wn)(as:List Arg):Wn:=fun b=>match w' b with
 |some j=>zq5 as j
 |none=>if (w b).bind (zdR as)=none then w b else none
section
variable{K:W.Frag}{C:Cn}{σ:L2.St}{G H:Hp}{w:Wn}{ρ:Ev}
theorem ziu(r:Rel K C G w ρ σ H):∀{as l:List Arg}{vs:List V}{bs:List B}{k j:Nat}{b:B}{v:V},(∀ m i,l[m]? = some (.s i)->zdR as i=some (k+m))->zd3 K G σ l vs->za1 ρ l=.ok bs->bs[j]? = some b->vs[j]? = some v->RB K G H (wIn w as) (k+j) v b
 |as,[],vs,bs,k,j,b,v,hu,ha,hr,hb,hv=>by simp[za1] at hr;subst hr;simp at hb
 |as,.d x::l,vs,bs,k,j,b,v,hu,ha,hr,hb,hv=>by
  obtain ⟨v0,t,rfl,h2,h3⟩:=ha
  unfold za1 at hr
  cases q:za1 ρ l with
  |ok l' =>
   rw[q] at hr;simp only[R.bind_ok,R.ok.injEq] at hr;subst hr
   cases j with
   |zero=>simp at hb hv;subst hb;subst hv;exact h2
   |succ j =>
    have:=ziu r (as:=as) (k:=k+1) (j:=j) (fun m i e=>by rw[hu (m+1) i (by simpa using e)];congr 1;omega) h3 q (by simpa using hb) (by simpa using hv)
    have e:k+1+j=k+(j+1):=by omega
    rw[e] at this;exact this
  |er n=>rw[q] at hr;simp at hr
  |no=>rw[q] at hr;simp at hr
 |as,.s i::l,vs,bs,k,j,b,v,hu,ha,hr,hb,hv=>by
  obtain ⟨v0,t,rfl,h2,h3⟩:=ha
  unfold za1 at hr
  split at hr
  ·rename_i b0 eb
   split at hr
   ·rename_i ob
    cases q:za1 ρ l with
    |ok l' =>
     rw[q] at hr;simp only[R.bind_ok,R.ok.injEq] at hr;subst hr
     cases j with
     |zero =>
      simp at hb hv;subst hb;subst hv
      obtain ⟨v1,h4,h5⟩:=r.sl i _ eb
      rw[h2] at h4;cases h4
      exact h5.grow (.refl _) fun a o e1 e2=>⟨e2,by unfold wIn;rw[e1];exact hu 0 i rfl⟩
     |succ j =>
      have:=ziu r (as:=as) (k:=k+1) (j:=j) (fun m i e=>by rw[hu (m+1) i (by simpa using e)];congr 1;omega) h3 q (by simpa using hb) (by simpa using hv)
      have e:k+1+j=k+(j+1):=by omega
      rw[e] at this;exact this
    |er n=>rw[q] at hr;simp at hr
    |no=>rw[q] at hr;simp at hr
   ·cases hr
  ·cases hr
theorem zgu:∀{as:List Arg}{vs:List V}{bs:List B},zd3 K G σ as vs->za1 ρ as=.ok bs->bs.length=vs.length
 |[],vs,bs,ha,hr=>by simp[za1] at hr;subst hr;cases ha;rfl
 |.d x::l,vs,bs,ha,hr=>by
  obtain ⟨v0,t,rfl,h2,h3⟩:=ha
  unfold za1 at hr
  cases q:za1 ρ l with
  |ok l'=>rw[q] at hr;simp only[R.bind_ok,R.ok.injEq] at hr;subst hr;simp[zgu h3 q]
  |er n=>rw[q] at hr;simp at hr
  |no=>rw[q] at hr;simp at hr
 |.s i::l,vs,bs,ha,hr=>by
  obtain ⟨v0,t,rfl,h2,h3⟩:=ha
  unfold za1 at hr
  split at hr
  ·split at hr
   ·cases q:za1 ρ l with
    |ok l'=>rw[q] at hr;simp only[R.bind_ok,R.ok.injEq] at hr;subst hr;simp[zgu h3 q]
    |er n=>rw[q] at hr;simp at hr
    |no=>rw[q] at hr;simp at hr
   ·cases hr
  ·cases hr
theorem zg1:∀{as:List Arg}{vs:List V}{j i:Nat},zd3 K G σ as vs->as[j]? = some (.s i)->∃ v,vs[j]? = some v/\σ[i]? = some (some v)
 |[],_,_,_,_,e=>by simp at e
 |.d x::l,vs,j,i,ha,e=>by
  obtain ⟨v0,t,rfl,h2,h3⟩:=ha
  cases j with
  |zero=>simp at e
  |succ j=>obtain ⟨v,e1,e2⟩:=zg1 (j:=j) h3 (by simpa using e);exact ⟨v,by simpa using e1,e2⟩
 |.s i'::l,vs,j,i,ha,e=>by
  obtain ⟨v0,t,rfl,h2,h3⟩:=ha
  cases j with
  |zero=>simp at e;subst e;exact ⟨v0,rfl,h2⟩
  |succ j=>obtain ⟨v,e1,e2⟩:=zg1 (j:=j) h3 (by simpa using e);exact ⟨v,by simpa using e1,e2⟩
theorem Rel.back{as:List Arg}{vs:List V}{bs bs':List B}{ks:List Bool}{G' H':Hp}{w':Wn}(r:Rel K C G w ρ σ H)(u:zkm as=true)(ha:zd3 K G σ as vs)(hr:za1 ρ as=.ok bs)(hk:zaV bs=ks)
  (s:zbt G H (wIn w as) G' H' w') (pb:zoX K G' H' w' ks bs' vs):Rel K C G' (zoJ w w' as) (zgd as bs' 0 ρ) σ H'/\zbt G H w G' H' (zoJ w w' as):=by
 have wi:∀ b,wIn w as b≠none->w b≠none:=fun b e z=>e (by unfold wIn;rw[z];rfl)
 have wi2:∀ b,w b=none->wIn w as b=none:=fun b z=>by unfold wIn;rw[z];rfl
 have st:zbt G H w G' H' (zoJ w w' as):=by
  refine ⟨s.g,fun b o e=>?_,fun b o e z=>s.h b o e (wi2 b z),fun b e=>?_,s.k⟩
  ·rcases s.fr b o e with q|q|q
   ·exact .inl q
   ·exact .inr (.inl q)
   ·exact .inr (.inr (wi b q))
  ·unfold zoJ at e
   split at e
   ·rename_i j ej
    rcases s.w b (by rw[ej];simp) with q|q
    ·exact .inl (wi b q)
    ·exact .inr q
   ·split at e
    ·exact .inl e
    ·exact absurd rfl e
 have keep:∀ a o,w a≠none->(w a).bind (zdR as)=none->H a=some o->H' a=some o/\w' a=none/\G' a=none:=fun a o e1 e2 e3=>by
  have e4:wIn w as a=none:=e2
  have e5:=s.h a o e3 e4
  have e6:w' a=none:=by
   cases q:w' a with
   |none=>rfl
   |some j =>
    rcases s.w a (by rw[q];simp) with z|z
    ·exact absurd e4 z
    ·rw[e3] at z;cases z
  refine ⟨e5,e6,?_⟩
  cases q:G' a with
  |none=>rfl
  |some o' =>
   rcases s.fr a o' q with z|z|z
   ·exact absurd (r.wg a e1) z
   ·rw[e3] at z;cases z
   ·exact absurd e4 z
 refine ⟨⟨pb.gh,fun b e=>?_,fun b e=>?_,by rw[zlx];exact r.len,fun i b e=>?_,r.en.trans st,r.pin⟩,st⟩
 ·unfold zoJ at e
  split at e
  ·rename_i j ej
   exact pb.wg b (by rw[ej];simp)
  ·split at e
   ·rename_i e2
    cases q:H b with
    |none=>exact absurd q (r.wh b e)
    |some o=>exact (keep b o e e2 q).2.2
   ·exact absurd rfl e
 ·unfold zoJ at e
  split at e
  ·rename_i j ej
   exact pb.wh b (by rw[ej];simp)
  ·split at e
   ·rename_i e2
    cases q:H b with
    |none=>exact absurd q (r.wh b e)
    |some o=>rw[(keep b o e e2 q).1];simp
   ·exact absurd rfl e
 ·rw[zl0,Nat.zero_add] at e
  cases q:zdR as i with
  |some j =>
   have ej:=zoW q
   obtain ⟨v,e1,e2⟩:=zg1 ha ej
   obtain ⟨b0,h1,h2,h3⟩:=zet hr ej
   have hkj:ks[j]? = some true:=by rw[<- hk];unfold zaV;rw[List.getElem?_map,h2];simp[h3]
   obtain ⟨b',h4,h5⟩:=pb.sl j v hkj e1
   rw[h1] at e
   simp only[q,Option.map_some] at e
   rw[h4] at e
   have e':b'=b:=by simpa using e
   subst e'
   refine ⟨v,e2,h5.grow (.refl _) fun a o q1 q2=>⟨q2,?_⟩⟩
   unfold zoJ zq5
   rw[q1];simp only;rw[ej]
  |none =>
   cases e1:ρ[i]? with
   |none=>rw[e1] at e;simp at e
   |some o0 =>
    rw[e1] at e
    simp only[q,Option.map_some,Option.some.injEq] at e
    subst e
    obtain ⟨v,h1,h2⟩:=r.sl i b e1
    refine ⟨v,h1,h2.grow s.g fun a o q1 q2=>?_⟩
    have z:(w a).bind (zdR as)=none:=by rw[q1];exact q
    obtain ⟨k1,k2,_⟩:=keep a o (by rw[q1];simp) z q2
    refine ⟨k1,?_⟩
    unfold zoJ
    rw[k2];simp only;rw[if_pos z];exact q1
end
section
variable{X:Cx}{C:Cn}{CX:CXT}{k:Nat}{f:Addr}{fd:FuncData}{ps:List Str}{ks:List Bool}{Fd:FD}{x:Str}{p pos:Pos}{e:Expr}{es:List Expr}{far:DAr}
theorem zno{σ:L2.St}{H:Hp}{Q:VK}(h:tE X.K C (zae Fd far) σ H Q)(hks:∀ bs,Fd bs≠.no->zaV bs=ks):zqV (zra false X.K C.xv ks Fd) [] (EXc C) (tAr X.K C far) σ H Q:=by
 obtain ⟨G,w,ρ,r,p⟩:=h
 refine zpt (κ:=fun G H w=>kE X.K C σ Q G H w) zbG r p fun as ρ1 vs G1 H1 w1 r1 s1 q1 p1=>?_
 rw[List.append_nil]
 by_cases hu:zkm as=true
 ·simp only[hu,if_true] at p1
  cases er:za1 ρ1 as with
  |ok bs =>
   rw[er,R.bind_ok] at p1
   have hk:zaV bs=ks:=by
    refine hks bs fun z=>?_
    rw[z] at p1;exact p1
   have hl:bs.length=vs.length:=zgu q1 er
   refine ⟨G1,wIn w1 as,bs,by rw[<- hk,<- hl];simp[zaV],hk,⟨r1.gh,fun b e=>r1.wg b fun z=>e (by unfold wIn;rw[z];rfl),fun b e=>r1.wh b fun z=>e (by unfold wIn;rw[z];rfl),hl,fun j b v e1 e2=>?_⟩,?_⟩
   ·have:=ziu r1 (as:=as) (k:=0) (j:=j) (fun m i e=>by rw[Nat.zero_add];exact zlc hu e) q1 er e1 e2
    rw[Nat.zero_add] at this;exact this
   ·cases ef:Fd bs with
    |ok z =>
     rw[ef,R.bind_ok] at p1
     intro v G' H' w' s' pb q
     obtain ⟨r',st⟩:=r1.back hu q1 er hk s' pb
     exact p1 v G' H' _ st r' q
    |er n =>
     rw[ef] at p1
     intro G' H' w' s'
     refine ⟨rfl,n,rfl,p1,G',fun _=>none,r1.en.trans ⟨s'.g,fun b o e=>?_,fun b o e z=>s'.h b o e (by unfold wIn;rw[z];rfl),fun b e=>absurd rfl e,s'.k⟩⟩
     rcases s'.fr b o e with q|q|q
     ·exact .inl q
     ·exact .inr (.inl q)
     ·exact .inr (.inr fun z=>q (by unfold wIn;rw[z];rfl))
    |no=>rw[ef] at p1;exact p1.elim
  |er n=>exact absurd er ze2
  |no=>rw[er] at p1;exact p1.elim
 ·simp only[hu] at p1;exact p1.elim
theorem zqM(F:zgi X.prog X.w X.K X.mg X.base CX k f fd ps (zra false X.K C.xv ks Fd))(hr:zdV k X.A)(hg:Gl X x)(hm:X.mg x=some (.ref f))(hk:W.keepIn X.K (.ref f)=true)(hb:zfz X.K fd ps [])(hx:zd5 CX X (EXc C))(hks:∀ bs,Fd bs≠.no->zaV bs=ks)
  (ha:JAr X C (e::es) far) (hdb:(x == ("__debug__" : Str))=false:=by decide) (he:starEach (e::es) X.env=(false,eval e X.env)::starEach es X.env:=by rfl) (hpl:(backTo pos (starEach es X.env)).any (·.1)=false:=by rfl) :
  JE X C (.Call (.Name x p) (e::es) [] pos) (zae Fd far) :=
 PE.weak (zn6 F hr hg hm hk hb .nil hx ha hdb he hpl) fun σ H Q h=>zno h hks
def zgc(F:FD)(fa:DAr):DN:=fun ρ=>(fa ρ).bind fun a=>if zkm a.1=true then (za1 a.2 a.1).bind fun bs=>(F bs).bind fun z=>match z.1 with
  |.lst l=>.ok (l,zgd a.1 z.2 0 a.2)
  |_=>.no
 else .no
theorem zmi{σ:L2.St}{H:Hp}{Q:VK}(h:tN X.K C (zgc Fd far) σ H Q)(hks:∀ bs,Fd bs≠.no->zaV bs=ks):zqV (zra true X.K C.xv ks Fd) [] (EXc C) (tAr X.K C far) σ H Q:=by
 obtain ⟨G,w,ρ,r,p⟩:=h
 refine zpt (κ:=fun G H w=>kN X.K C σ Q G H w) zfL r p fun as ρ1 vs G1 H1 w1 r1 s1 q1 p1=>?_
 rw[List.append_nil]
 by_cases hu:zkm as=true
 ·simp only[hu,if_true] at p1
  cases er:za1 ρ1 as with
  |ok bs =>
   rw[er,R.bind_ok] at p1
   have hk:zaV bs=ks:=by
    refine hks bs fun z=>?_
    rw[z] at p1;exact p1
   have hl:bs.length=vs.length:=zgu q1 er
   refine ⟨G1,wIn w1 as,bs,by rw[<- hk,<- hl];simp[zaV],hk,⟨r1.gh,fun b e=>r1.wg b fun z=>e (by unfold wIn;rw[z];rfl),fun b e=>r1.wh b fun z=>e (by unfold wIn;rw[z];rfl),hl,fun j b v e1 e2=>?_⟩,?_⟩
   ·have:=ziu r1 (as:=as) (k:=0) (j:=j) (fun m i e=>by rw[Nat.zero_add];exact zlc hu e) q1 er e1 e2
    rw[Nat.zero_add] at this;exact this
   ·cases ef:Fd bs with
    |ok z =>
     rw[ef,R.bind_ok] at p1
     intro v G' H' w' s' pb q
     obtain ⟨r',st⟩:=r1.back hu q1 er hk s' pb
     obtain ⟨l,pp,us,e1,e2,e3,e4,e5,e6,e7⟩:=q
     subst e2
     rw[e1] at p1
     refine p1 pp us G' H' _ st r' e3 e4 e5 ?_ e7
     have w1p:w1 pp=none:=by
      cases zz:w1 pp with
      |none=>rfl
      |some k=>exact absurd e3 (r1.wh pp (by rw[zz];simp))
     unfold zoJ
     rw[e6,w1p];rfl
    |er n =>
     rw[ef] at p1
     intro G' H' w' s'
     refine ⟨rfl,n,rfl,p1,G',fun _=>none,r1.en.trans ⟨s'.g,fun b o e=>?_,fun b o e z=>s'.h b o e (by unfold wIn;rw[z];rfl),fun b e=>absurd rfl e,s'.k⟩⟩
     rcases s'.fr b o e with q|q|q
     ·exact .inl q
     ·exact .inr (.inl q)
     ·exact .inr (.inr fun z=>q (by unfold wIn;rw[z];rfl))
    |no=>rw[ef] at p1;exact p1.elim
  |er n=>exact absurd er ze2
  |no=>rw[er] at p1;exact p1.elim
 ·simp only[hu] at p1;exact p1.elim
theorem zre(F:zgi X.prog X.w X.K X.mg X.base CX k f fd ps (zra true X.K C.xv ks Fd))(hr:zdV k X.A)(hg:Gl X x)(hm:X.mg x=some (.ref f))(hk:W.keepIn X.K (.ref f)=true)(hb:zfz X.K fd ps [])(hx:zd5 CX X (EXc C))(hks:∀ bs,Fd bs≠.no->zaV bs=ks)
  (ha:JAr X C (e::es) far) (hdb:(x == ("__debug__" : Str))=false:=by decide) (he:starEach (e::es) X.env=(false,eval e X.env)::starEach es X.env:=by rfl) (hpl:(backTo pos (starEach es X.env)).any (·.1)=false:=by rfl) :
  JN X C (.Call (.Name x p) (e::es) [] pos) (zgc Fd far) :=
 PE.weak (zn6 F hr hg hm hk hb .nil hx ha hdb he hpl) fun σ H Q h=>zmi h hks
def zav:List Bool->Ev->R (List B)
 |[],_=>.ok []
 |false::ks,_::ρ=>(zav ks ρ).bind fun l=>.ok (.val .non::l)
 |true::ks,some b::ρ=>(zav ks ρ).bind fun l=>.ok (b::l)
 |_,_=>.no
def zap(nw:Bool)(ks:List Bool)(m:Nat)(body:DS):FD:=fun bs=>if zaV bs=ks then (body (bs.map some++List.replicate m none)).bind fun a=>match a.1 with
  |.nx=>if nw=true then .no else (zav ks a.2).bind fun l=>.ok (.non,l)
  |.rt d=>(zav ks a.2).bind fun l=>.ok (d,l)
  |_=>.no
 else .no
theorem zau{nw:Bool}{ks:List Bool}{m:Nat}{body:DS}:∀ bs,zap nw ks m body bs≠.no->zaV bs=ks:=fun bs h=>by
 unfold zap at h
 by_cases e:zaV bs=ks
 ·exact e
 ·rw[if_neg e] at h;exact absurd rfl h
theorem zeQ:∀{ks:List Bool}{ρ:Ev}{l:List B}{j:Nat},zav ks ρ=.ok l->ks[j]? = some true->∃ b,l[j]? = some b/\ρ[j]? = some (some b)
 |[],_,_,_,_,e=>by simp at e
 |false::ks,[],l,j,h,e=>by simp[zav] at h
 |true::ks,[],l,j,h,e=>by simp[zav] at h
 |false::ks,o::ρ,l,j,h,e=>by
  unfold zav at h
  cases q:zav ks ρ with
  |ok l' =>
   rw[q] at h;simp only[R.bind_ok,R.ok.injEq] at h;subst h
   cases j with
   |zero=>simp at e
   |succ j=>obtain ⟨b,h1,h2⟩:=zeQ (j:=j) q (by simpa using e);exact ⟨b,by simpa using h1,by simpa using h2⟩
  |er n=>rw[q] at h;simp at h
  |no=>rw[q] at h;simp at h
 |true::ks,none::ρ,l,j,h,e=>by simp[zav] at h
 |true::ks,some b::ρ,l,j,h,e=>by
  unfold zav at h
  cases q:zav ks ρ with
  |ok l' =>
   rw[q] at h;simp only[R.bind_ok,R.ok.injEq] at h;subst h
   cases j with
   |zero=>exact ⟨b,rfl,rfl⟩
   |succ j=>obtain ⟨b,h1,h2⟩:=zeQ (j:=j) q (by simpa using e);exact ⟨b,by simpa using h1,by simpa using h2⟩
  |er n=>rw[q] at h;simp at h
  |no=>rw[q] at h;simp at h
theorem zex:∀{ks:List Bool}{ρ:Ev}{n:Nat},zav ks ρ≠.er n
 |[],_,_,h=>by simp[zav] at h
 |false::ks,[],n,h=>by simp[zav] at h
 |true::ks,[],n,h=>by simp[zav] at h
 |false::ks,o::ρ,n,h=>by
  unfold zav at h
  cases q:zav ks ρ with
  |ok l'=>rw[q] at h;simp at h
  |er m=>exact zex q
  |no=>rw[q] at h;simp at h
 |true::ks,none::ρ,n,h=>by simp[zav] at h
 |true::ks,some b::ρ,n,h=>by
  unfold zav at h
  cases q:zav ks ρ with
  |ok l'=>rw[q] at h;simp at h
  |er m=>exact zex q
  |no=>rw[q] at h;simp at h
def zbD(ks:List Bool):List Nat:=(List.range ks.length).filter fun j=>ks[j]? == some true
def zqj(CX:CXT)(P:Program)(w:World)(K:W.Frag)(mg:Str->Option Value)(base:Heap):Prop :=
 ∀(N:List Str)(qual:Str)(scope:Scope)(f:Addr)(cdv:Value)(A:Around)(outer:List Env)(s:Shared)(H:Hp)(E E':XK),scope.kind=.function->(∀ u a H',E' u a H'->E u a H') ->
  zd5 CX (zkX CX P w K mg base N qual scope f cdv A outer s H E) E'
theorem zaB{P:Program}{w:World}{K:W.Frag}{mg:Str->Option Value}{base:Heap}{xq qual:Str}{st:Stmt}{N:List Str}{xv:Nat->Value}{m:Nat}{fb:DS}(nw:Bool)(lv:zqj CX P w K mg base)(F:Fun K xq qual st f fd)(S:zax N ps (zal st))(hl:ps.length=ks.length)(hm:N.length=ks.length+m)
  (hbody:∀(X:Cx)(C:Cn),(∃ cdv A outer s H E,X=zkX CX P w K mg base N qual (zal st) f cdv A outer s H E)->C.pp=zbD ks->C.xv=xv->C.nw=nw->zdV k X.A->zd5 CX X (EXc C)->PassesOwn (model X.prog X.w) X.A X.env X.xe->JSs X C (zc7 st) fb) :
  zgi P w K mg base CX (k+1) f fd ps (zra nw K xv ks (zap nw ks m fb)):=by
 obtain ⟨oc,od,kV,doc,pm,an,cdv,ct,osl,rfl,lk,hcd⟩:=F.ex
 refine zsc lk hcd S (fun vs H Q E ⟨_,_,_,h,_⟩=>h.trans hl.symm) fun A outer s H vs Q E hr hsp=>?_
 obtain ⟨G,w0,bs,hv,hk,pr,hF⟩:=hsp
 let X:=zkX CX P w K mg base N qual (zal st) f cdv A outer s H E
 let C:Cn:=⟨G,H,w0,zbD ks,L2.start N vs,fun n=>zap nw ks m fb bs=.er n,xv,nw⟩
 have hE:∀ u a H',EXc C u a H'->E u a H':=fun u a H' ⟨ea,n,eu,en,G',w',s'⟩=>by
  subst ea;subst eu
  have en':zap nw ks m fb bs=.er n:=en
  rw[en'] at hF
  exact hF G' H' w' s'
 have hb:=hbody X C ⟨cdv,A,outer,s,H,E,rfl⟩ rfl rfl rfl hr (lv N qual (zal st) f cdv A outer s H E (EXc C) S.kind hE) PassesOwn.leaving
 refine ⟨_,hb,G,w0,bs.map some++List.replicate m none,?_,?_⟩
 ·refine ⟨pr.gh,pr.wg,pr.wh,?_,fun i b e=>?_,.refl _ _ _,fun i _=>rfl⟩
  ·unfold L2.start
   simp only[List.length_append,List.length_map,List.length_replicate]
   have:=pr.len
   omega
  ·have hi:i<bs.length:=by
    by_cases hi:i<bs.length
    ·exact hi
    ·rw[List.getElem?_append_right (by simpa using hi),List.getElem?_replicate] at e
     split at e <;> cases e
   rw[List.getElem?_append_left (by simpa using hi),List.getElem?_map] at e
   have eb:bs[i]? = some b:=by
    cases q:bs[i]? with
    |none=>rw[q] at e;cases e
    |some z=>rw[q] at e;cases e;rfl
   have hiv:i<vs.length:=by rw[<- pr.len];exact hi
   refine ⟨vs[i],?_,pr.sl i b vs[i] eb (by simp[hiv])⟩
   unfold L2.start
   rw[List.getElem?_append_left (by simpa using hiv),List.getElem?_map]
   simp[hiv]
 ·have hF':match zap nw ks m fb bs with
   |.ok a=>∀ v G' H' w',zbt G H w0 G' H' w'->zoX K G' H' w' ks a.2 vs->RtG nw K H G' H' w' a.1 v->Q v H'
   |.er n=>∀ G' H' w',zbt G H w0 G' H' w'->E (xv n) none H'
   |.no=>False:=hF
  have er:zap nw ks m fb bs=(fb (bs.map some++List.replicate m none)).bind fun a=>match a.1 with
   |.nx=>if nw=true then .no else (zav ks a.2).bind fun l=>.ok (.non,l)
   |.rt d=>(zav ks a.2).bind fun l=>.ok (d,l)
   |_=>.no:=by unfold zap;rw[if_pos hk]
  have back:∀{ρ':Ev}{l:List B}{σ':L2.St}{G' H':Hp}{w':Wn},zav ks ρ'=.ok l->Rel K C G' w' ρ' σ' H'->zoX K G' H' w' ks l vs:=fun {ρ' l σ' G' H' w'} eb r'=>by
   refine ⟨r'.gh,r'.wg,r'.wh,fun j v e1 e2=>?_⟩
   obtain ⟨b,h1,h2⟩:=zeQ eb e1
   obtain ⟨v',h3,h4⟩:=r'.sl j b h2
   have hj:j<ks.length:=(List.getElem?_eq_some_iff.mp e1).1
   have hp:σ'[j]? = (L2.start N vs)[j]? := r'.pin j (by
    show j∈zbD ks
    unfold zbD
    rw[List.mem_filter]
    exact ⟨List.mem_range.mpr hj,by simp[e1]⟩)
   have hs:(L2.start N vs)[j]? = some (some v):=by
    unfold L2.start
    rw[List.getElem?_append_left (by simpa using (List.getElem?_eq_some_iff.mp e2).1),List.getElem?_map,e2];rfl
   rw[hp,hs] at h3;cases h3
   exact ⟨b,h1,h4⟩
  cases ef:fb (bs.map some++List.replicate m none) with
  |ok z =>
   obtain ⟨fl,ρ'⟩:=z
   rw[ef,R.bind_ok] at er
   cases fl with
   |nx =>
    cases nw with
    |true=>rw[er] at hF';exact hF'.elim
    |false =>
     intro σ' G' H' w' s' r'
     have er:zap false ks m fb bs=(zav ks ρ').bind fun l=>.ok (.non,l):=er
     cases eb:zav ks ρ' with
     |ok l =>
      rw[er] at hF';simp only[eb,R.bind_ok] at hF'
      exact hF' _ G' H' w' s' (back eb r') (by unfold RtG Rep;rfl)
     |er n=>exact absurd eb zex
     |no=>rw[er] at hF';simp only[eb,R.bind_no] at hF'
   |rt d =>
    intro v σ' G' H' w' s' r' q
    cases eb:zav ks ρ' with
    |ok l =>
     rw[er] at hF';simp only[eb,R.bind_ok] at hF'
     exact hF' _ G' H' w' s' (back eb r') q
    |er n=>exact absurd eb zex
    |no=>rw[er] at hF';simp only[eb,R.bind_no] at hF'
   |bk=>rw[er] at hF';exact hF'.elim
   |ct=>rw[er] at hF';exact hF'.elim
  |er n =>
   show zap nw ks m fb bs=.er n
   rw[er,ef];rfl
  |no=>rw[er,ef] at hF';exact hF'.elim
end
mutual
def zeV:Dt->PyData
 |.non=>.none
 |.bl b=>.bool b
 |.int i=>.int i
 |.str x=>.str x
 |.tup l=>.tuple (ze4 l)
 |.lst l=>.list (ze4 l)
 |.dct=>.dict []
 |.scr ns=>.list (ns.map .int)
def ze4:List Dt->List PyData
 |[]=>[]
 |d::ds=>zeV d::ze4 ds
end
def okN:Nat->Dt->Bool
 |_,.non=>true
 |_,.bl _=>true
 |_,.int _=>true
 |_,.str x=>PySem.PyData.strOk x
 |0,.tup _=>false
 |0,.lst _=>false
 |n+1,.tup l=>l.all (okN n)
 |n+1,.lst l=>l.all (okN n)
 |_,.dct=>false
 |_,.scr _=>false
mutual
def eqD:Dt->Dt->Bool
 |.non,.non=>true
 |.bl a,.bl b=>a == b
 |.bl a,.int j=>(if a then 1 else 0) == j
 |.int i,.bl b=>i == (if b then 1 else 0)
 |.int i,.int j=>i == j
 |.str x,.str y=>x == y
 |.lst xs,.lst ys=>zl3 xs ys
 |.tup xs,.tup ys=>zl3 xs ys
 |_,_=>false
def zl3:List Dt->List Dt->Bool
 |[],[]=>true
 |x::xs,y::ys=>eqD x y && zl3 xs ys
 |_,_=>false
end
theorem ziq{n:Nat}(ih:∀ d,okN n d=true->(zeV d).canLay0=true/\(zeV d).depth<=n):∀ l:List Dt,l.all (okN n)=true->PyData.canLayAll0 (ze4 l)=true/\PyData.depthAll (ze4 l)<=n
 |[],_=>by simp[ze4,PyData.canLayAll0,PyData.depthAll]
 |d::ds,h=>by
  simp only[List.all_cons,Bool.and_eq_true] at h
  obtain ⟨h1,h2⟩:=ih d h.1
  obtain ⟨h3,h4⟩:=ziq ih ds h.2
  simp only[ze4,PyData.canLayAll0,PyData.depthAll,h1,h3,Bool.and_self,true_and]
  omega
theorem zjY:∀(n:Nat)(d:Dt),okN n d=true->(zeV d).canLay0=true/\(zeV d).depth<=n
 |n,.non,_=>by simp[zeV,PyData.canLay0,PyData.depth]
 |n,.bl _,_=>by simp[zeV,PyData.canLay0,PyData.depth]
 |n,.int _,_=>by simp[zeV,PyData.canLay0,PyData.depth]
 |n,.str x,h=>by
  have h:PySem.PyData.strOk x=true:=by cases n <;> simpa [okN] using h
  simp[zeV,PyData.canLay0,PyData.depth,h]
 |0,.tup _,h=>by simp[okN] at h
 |0,.lst _,h=>by simp[okN] at h
 |n+1,.tup l,h=>by
  obtain ⟨h1,h2⟩:=ziq (zjY n) l (by simpa [okN] using h)
  simp only[zeV,PyData.canLay0,PyData.depth,h1,true_and];omega
 |n+1,.lst l,h=>by
  obtain ⟨h1,h2⟩:=ziq (zjY n) l (by simpa [okN] using h)
  simp only[zeV,PyData.canLay0,PyData.depth,h1,true_and];omega
 |n,.dct,h=>by cases n <;> simp[okN] at h
 |n,.scr _,h=>by cases n <;> simp[okN] at h
mutual
theorem zl7:∀(n:Nat)(x y:Dt),okN n x=true->okN n y=true->PyData.eqv (zeV x) (zeV y)=eqD x y
 |n,.non,y,h,h'=>by cases y <;> first|(cases n <;> simp[okN] at h';done)|simp[zeV,PyData.eqv,eqD]
 |n,.bl _,y,h,h'=>by cases y <;> first|(cases n <;> simp[okN] at h';done)|simp[zeV,PyData.eqv,eqD]
 |n,.int _,y,h,h'=>by cases y <;> first|(cases n <;> simp[okN] at h';done)|simp[zeV,PyData.eqv,eqD]
 |n,.str _,y,h,h'=>by cases y <;> first|(cases n <;> simp[okN] at h';done)|simp[zeV,PyData.eqv,eqD]
 |0,.tup _,y,h,h'=>by simp[okN] at h
 |0,.lst _,y,h,h'=>by simp[okN] at h
 |n+1,.tup l,y,h,h'=>by
  cases y with
  |tup l'=>simp only[zeV,PyData.eqv,eqD];exact zkx n l l' (by simpa [okN] using h) (by simpa [okN] using h')
  |dct=>simp[okN] at h'
  |scr _=>simp[okN] at h'
  |_=>simp[zeV,PyData.eqv,eqD]
 |n+1,.lst l,y,h,h'=>by
  cases y with
  |lst l'=>simp only[zeV,PyData.eqv,eqD];exact zkx n l l' (by simpa [okN] using h) (by simpa [okN] using h')
  |dct=>simp[okN] at h'
  |scr _=>simp[okN] at h'
  |_=>simp[zeV,PyData.eqv,eqD]
 |n,.dct,y,h,h'=>by cases n <;> simp[okN] at h
 |n,.scr _,y,h,h'=>by cases n <;> simp[okN] at h
theorem zkx:∀(n:Nat)(x y:List Dt),x.all (okN n)=true->y.all (okN n)=true->PyData.eqvAll (ze4 x) (ze4 y)=zl3 x y
 |n,[],[],_,_=>by simp[ze4,PyData.eqvAll,zl3]
 |n,[],_::_,_,_=>by simp[ze4,PyData.eqvAll,zl3]
 |n,_::_,[],_,_=>by simp[ze4,PyData.eqvAll,zl3]
 |n,a::as,b::bs,h,h'=>by
  simp only[List.all_cons,Bool.and_eq_true] at h h'
  simp only[ze4,PyData.eqvAll,zl3]
  rw[zl7 n a b h.1 h'.1,zkx n as bs h.2 h'.2]
end
section
variable{X:Cx}{pins:List (Addr×Obj)}{σ:L2.St}{H:Hp}{s:Shared}
mutual
theorem zdE(I:L2.Inv X pins σ H s):∀(n:Nat)(d:Dt)(v:V)(u:Value),okN n d=true->Rep X.K H d v->zcj v u->∃ as,Reads s.heap u (zeV d) as
 |n,.non,v,u,_,h,r=>by rw[zgD h] at r;cases r;exact ⟨[],by simp only[zeV];exact .none⟩
 |n,.bl b,v,u,_,h,r=>by rw[zdY h] at r;cases r;exact ⟨[],by simp only[zeV];exact .bool _⟩
 |n,.int b,v,u,_,h,r=>by rw[za0 h] at r;obtain ⟨t,rfl⟩:=r;exact ⟨[],by simp only[zeV];exact .int _ _⟩
 |n,.str b,v,u,_,h,r=>by rw[zaN h] at r;obtain ⟨t,rfl⟩:=r;exact ⟨[],by simp only[zeV];exact .str _ _⟩
 |0,.tup l,v,u,hk,h,r=>by simp[okN] at hk
 |0,.lst l,v,u,hk,h,r=>by simp[okN] at hk
 |n+1,.tup l,v,u,hk,h,r=>by
  obtain ⟨a,vs,rfl,h1,h2⟩:=zcc h
  cases r
  obtain ⟨its,rv,⟨o,e,c,k,dd⟩,_⟩:=I.tuple h1
  obtain ⟨as,q⟩:=zeZ I n l vs its (by simpa [okN] using hk) h2 rv
  exact ⟨as,by simp only[zeV];exact .tuple e c dd (by simpa using q)⟩
 |n+1,.lst l,v,u,hk,h,r=>by
  obtain ⟨a,vs,rfl,h1,h2⟩:=zbd h
  cases r
  obtain ⟨its,rv,⟨o,k,e,c,_,dd⟩,_⟩:=I.list (SqL.of h1)
  obtain ⟨as,q⟩:=zeZ I n l vs its (by simpa [okN] using hk) h2 rv
  exact ⟨a::as,by simp only[zeV];exact .list e c dd (by simpa using q)⟩
 |n,.dct,v,u,hk,h,r=>by cases n <;> simp[okN] at hk
 |n,.scr _,v,u,hk,h,r=>by cases n <;> simp[okN] at hk
theorem zeZ(I:L2.Inv X pins σ H s):∀(n:Nat)(ds:List Dt)(vs:List V)(us:List Value),ds.all (okN n)=true->za2 X.K H ds vs->zbe vs us->∃ as,ReadsAll s.heap us (ze4 ds) as
 |n,[],vs,us,_,h,r=>by
  rw[h.nil_inv] at r
  cases r
  exact ⟨[],by simp only[ze4];exact .nil⟩
 |n,d::ds,vs,us,hk,h,r=>by
  obtain ⟨v,t,rfl,h1,h2⟩:=h.cons_inv
  cases r with
  |cons r1 r2 =>
   simp only[List.all_cons,Bool.and_eq_true] at hk
   obtain ⟨as,q1⟩:=zdE I n d v _ hk.1 h1 r1
   obtain ⟨bs,q2⟩:=zeZ I n ds t _ hk.2 h2 r2
   exact ⟨as++bs,by simp only[ze4];exact .cons q1 q2⟩
end
mutual
theorem zob(I:L2.Inv X pins σ H s):∀(n:Nat)(d d':Dt)(v:V),okN n d=true->okN n d'=true->Rep X.K H d v->Rep X.K H d' v->d=d'
 |n,.non,d',v,hk,hk',h,h'=>by
  rw[zgD h] at h'
  cases d' <;> unfold Rep at h' <;> first|(obtain ⟨a,vs,z,_⟩:=h';cases z;done)|(obtain ⟨a,z,_⟩:=h';cases z;done)|(cases h';rfl)|(cases h';done)|rfl
 |n,.bl b,d',v,hk,hk',h,h'=>by
  rw[zdY h] at h'
  cases d' <;> unfold Rep at h' <;> first|(obtain ⟨a,vs,z,_⟩:=h';cases z;done)|(obtain ⟨a,z,_⟩:=h';cases z;done)|(cases h';rfl)|(cases h';done)|rfl
 |n,.int b,d',v,hk,hk',h,h'=>by
  rw[za0 h] at h'
  cases d' <;> unfold Rep at h' <;> first|(obtain ⟨a,vs,z,_⟩:=h';cases z;done)|(obtain ⟨a,z,_⟩:=h';cases z;done)|(cases h';rfl)|(cases h';done)|rfl
 |n,.str b,d',v,hk,hk',h,h'=>by
  rw[zaN h] at h'
  cases d' <;> unfold Rep at h' <;> first|(obtain ⟨a,vs,z,_⟩:=h';cases z;done)|(obtain ⟨a,z,_⟩:=h';cases z;done)|(cases h';rfl)|(cases h';done)|rfl
 |0,.tup l,d',v,hk,_,h,h'=>by simp[okN] at hk
 |0,.lst l,d',v,hk,_,h,h'=>by simp[okN] at hk
 |n+1,.tup l,d',v,hk,hk',h,h'=>by
  obtain ⟨a,vs,rfl,h1,h2⟩:=zcc h
  cases d' with
  |tup l' =>
   obtain ⟨a',vs',e,h3,h4⟩:=zcc h'
   cases e
   rw[I.tuple_inj h3 h1] at h4
   rw[zi4 I n l l' vs (by simpa [okN] using hk) (by simpa [okN] using hk') h2 h4]
  |lst l' =>
   obtain ⟨a',vs',e,h3,h4⟩:=zbd h'
   cases e
   obtain ⟨its,rv,⟨o,e,c,k,dd⟩,_⟩:=I.tuple h1
   obtain ⟨its',rv',⟨o',k',e',c',_,dd'⟩,_⟩:=I.list (SqL.of h3)
   rw[e] at e';cases e'
   rw[c] at c';exact absurd c' (by decide)
  |dct=>simp[okN] at hk'
  |scr _=>simp[okN] at hk'
  |non=>cases zgD h'
  |bl _=>cases zdY h'
  |int _=>cases za0 h'
  |str _=>cases zaN h'
 |n+1,.lst l,d',v,hk,hk',h,h'=>by
  obtain ⟨a,vs,rfl,h1,h2⟩:=zbd h
  cases d' with
  |lst l' =>
   obtain ⟨a',vs',e,h3,h4⟩:=zbd h'
   cases e
   rw[h1] at h3;cases h3
   rw[zi4 I n l l' vs (by simpa [okN] using hk) (by simpa [okN] using hk') h2 h4]
  |tup l' =>
   obtain ⟨a',vs',e,h3,h4⟩:=zcc h'
   cases e
   obtain ⟨its,rv,⟨o,e,c,k,dd⟩,_⟩:=I.tuple h3
   obtain ⟨its',rv',⟨o',k',e',c',_,dd'⟩,_⟩:=I.list (SqL.of h1)
   rw[e] at e';cases e'
   rw[c] at c';exact absurd c' (by decide)
  |dct=>simp[okN] at hk'
  |scr _=>simp[okN] at hk'
  |non=>cases zgD h'
  |bl _=>cases zdY h'
  |int _=>cases za0 h'
  |str _=>cases zaN h'
 |n,.dct,d',v,hk,_,h,h'=>by cases n <;> simp[okN] at hk
 |n,.scr _,d',v,hk,_,h,h'=>by cases n <;> simp[okN] at hk
theorem zi4(I:L2.Inv X pins σ H s):∀(n:Nat)(ds ds':List Dt)(vs:List V),ds.all (okN n)=true->ds'.all (okN n)=true->za2 X.K H ds vs->za2 X.K H ds' vs->ds=ds'
 |n,[],ds',vs,_,_,h,h'=>by
  rw[h.nil_inv] at h'
  cases ds' with
  |nil=>rfl
  |cons d t=>obtain ⟨v,r,z,_⟩:=h'.cons_inv;cases z
 |n,d::ds,ds',vs,hk,hk',h,h'=>by
  obtain ⟨v,t,rfl,h1,h2⟩:=h.cons_inv
  cases ds' with
  |nil=>cases h'.nil_inv
  |cons d' t' =>
   obtain ⟨v',r',z,h3,h4⟩:=h'.cons_inv
   cases z
   simp only[List.all_cons,Bool.and_eq_true] at hk hk'
   rw[zob I n d d' v hk.1 hk'.1 h1 h3,zi4 I n ds t' t hk.2 hk'.2 h2 h4]
end
end
def ztV(K:W.Frag)(neg:Bool):R2:=fun x y H Q=>∃ dx dy,Rep K H dx x/\Rep K H dy y/\okN 60 dx=true/\okN 60 dy=true/\Q (.bl (if neg then !eqD dx dy else eqD dx dy)) H
theorem zfn{d:Dt}(h:okN 60 d=true):SeqAt.shaped (zeV d)=true:=by
 obtain ⟨h1,h2⟩:=zjY 60 d h
 unfold SeqAt.shaped
 rw[h1,Bool.true_and]
 exact decide_eq_true (by omega)
section
variable{X:Cx}
theorem zqq(hu:X.A.units+64<cLine):OpR X (compareOp .Eq) (ztV X.K false):=by
 intro pins s σ H x y v u Q I rx ry h
 obtain ⟨dx,dy,h1,h2,h3,h4,q⟩:=h
 obtain ⟨as,ra⟩:=zdE I 60 dx x v h3 h1 rx
 obtain ⟨bs,rb⟩:=zdE I 60 dy y u h4 h2 ry
 exact PyProof.Rows.eq_dataH ra rb (zfn h3) (zfn h4) hu ⟨.bl (eqD dx dy),H,I,(by rw[zl7 60 dx dy h3 h4];rfl),q⟩
theorem zqi(hu:X.A.units+64<cLine):OpR X (compareOp .NotEq) (ztV X.K true):=by
 intro pins s σ H x y v u Q I rx ry h
 obtain ⟨dx,dy,h1,h2,h3,h4,q⟩:=h
 obtain ⟨as,ra⟩:=zdE I 60 dx x v h3 h1 rx
 obtain ⟨bs,rb⟩:=zdE I 60 dy y u h4 h2 ry
 exact PyProof.Rows.ne_dataH ra rb (zfn h3) (zfn h4) hu ⟨.bl (!eqD dx dy),H,I,(by rw[zl7 60 dx dy h3 h4];rfl),q⟩
def gEq(neg:Bool):Dt->Dt->R Dt:=fun x y=>if (okN 60 x && okN 60 y)=true then .ok (.bl (if neg then !eqD x y else eqD x y)) else .no
theorem zkp(neg:Bool):zh4 (gEq neg):=fun x y n h=>by unfold gEq at h;split at h <;> cases h
theorem znk{K:W.Frag}(neg:Bool):Op2 K (ztV K neg) (gEq neg):=fun G H x y dx dy z Q gh hx hy e k=>by
 unfold gEq at e
 split at e
 ·rename_i h
  rw[Bool.and_eq_true] at h
  cases e
  exact ⟨dx,dy,hx.same gh,hy.same gh,h.1,h.2,k _ G H (.refl gh) (by unfold Rep;rfl)⟩
 ·cases e
theorem zqT{pins:List (Addr×Obj)}{σ:L2.St}{H:Hp}{s:Shared}(I:L2.Inv X pins σ H s){A:Around}(hu:A.units+64<cLine){dx dy:Dt}{x y:V}{v u:Value}(h3:okN 60 dx=true)(h4:okN 60 dy=true)(h1:Rep X.K H dx x)(h2:Rep X.K H dy y)(rx:zcj x v)(ry:zcj y u) :
  SeqAt.EqAt A s v u (eqD dx dy):=by
 obtain ⟨as,ra⟩:=zdE I 60 dx x v h3 h1 rx
 obtain ⟨bs,rb⟩:=zdE I 60 dy y u h4 h2 ry
 obtain ⟨k1,k2⟩:=zjY 60 dx h3
 obtain ⟨k3,k4⟩:=zjY 60 dy h4
 have:=SeqAt.eqAt_reads (zeV dx) (zeV dy) A s v u as bs ra rb k1 k3 (by omega)
 rw[zl7 60 dx dy h3 h4] at this
 exact this
open Classical in
noncomputable def zkk(K:W.Frag)(H:Hp)(dx:Dt)(u:Value):Bool:=if ∃ d v,okN 60 d=true/\Rep K H d v/\zcj v u/\eqD d dx=true then true else false
theorem znu{pins:List (Addr×Obj)}{σ:L2.St}{H:Hp}{s:Shared}(I:L2.Inv X pins σ H s){d dx:Dt}{v:V}{u:Value}(hk:okN 60 d=true)(h:Rep X.K H d v)(r:zcj v u):zkk X.K H dx u=eqD d dx:=by
 unfold zkk
 split
 ·rename_i q
  obtain ⟨d',v',k',h',r',e'⟩:=q
  have ev:v'=v:=r'.inj r
  subst ev
  rw[zob I 60 d d' v' hk k' h h'];exact e'.symm
 ·rename_i q
  cases e:eqD d dx with
  |false=>rfl
  |true=>exact absurd ⟨d,v,hk,h,r,e⟩ q
theorem zfc{pins:List (Addr×Obj)}{σ:L2.St}{H:Hp}{s:Shared}(I:L2.Inv X pins σ H s){dx:Dt}:∀{ds:List Dt}{vs:List V}{us:List Value},ds.all (okN 60)=true->za2 X.K H ds vs->zbe vs us->us.any (zkk X.K H dx)=ds.any fun d=>eqD d dx
 |[],vs,us,_,h,r=>by rw[h.nil_inv] at r;cases r;rfl
 |d::ds,vs,us,hk,h,r=>by
  obtain ⟨v,t,rfl,h1,h2⟩:=h.cons_inv
  cases r with
  |cons r1 r2 =>
   simp only[List.all_cons,Bool.and_eq_true] at hk
   simp only[List.any_cons]
   rw[znu I hk.1 h1 r1,zfc I hk.2 h2 r2]
theorem zec{pins:List (Addr×Obj)}{σ:L2.St}{H:Hp}{s:Shared}(I:L2.Inv X pins σ H s){A:Around}(hu:A.units+64<cLine){dx:Dt}{x:V}{v:Value}(hk:okN 60 dx=true)(hx:Rep X.K H dx x)(rx:zcj x v):∀{ds:List Dt}{vs:List V}{us:List Value},ds.all (okN 60)=true->za2 X.K H ds vs->zbe vs us->∀ u∈us,SeqAt.EqAt A s u v (zkk X.K H dx u)
 |[],vs,us,_,h,r,u,hu=>by rw[h.nil_inv] at r;cases r;cases hu
 |d::ds,vs,us,hks,h,r,u,hm=>by
  obtain ⟨v,t,rfl,h1,h2⟩:=h.cons_inv
  cases r with
  |cons r1 r2 =>
   simp only[List.all_cons,Bool.and_eq_true] at hks
   rcases List.mem_cons.mp hm with rfl|hm
   ·rw[znu I hks.1 h1 r1]
    exact zqT I hu hks.1 hk h1 hx r1 rx
   ·exact zec I hu hk hx rx hks.2 h2 r2 u hm
def inD(x:Dt)(l:List Dt):Bool:=l.any fun d=>eqD d x
def ztW(K:W.Frag)(neg:Bool):R2:=fun x y H Q=>∃ dx ds,Rep K H dx x/\(Rep K H (.lst ds) y\/Rep K H (.tup ds) y)/\okN 60 dx=true/\ds.all (okN 60)=true/\Q (.bl (if neg then !inD dx ds else inD dx ds)) H
theorem zjQ(A:Around):A.in1.units=A.units+1:=rfl
theorem ztD(hu:X.A.units+65<cLine):OpR X (compareOp .In) (ztW X.K false):=by
 intro pins s σ H x y v u Q I rx ry h
 obtain ⟨dx,ds,h1,h2,h3,h4,q⟩:=h
 have hu1:X.A.in1.units+64<cLine:=by rw[zjQ];omega
 rcases h2 with h2|h2
 ·obtain ⟨a,vs,rfl,k1,k2⟩:=zbd h2
  cases ry
  obtain ⟨its,r,pl,hz⟩:=I.list (SqL.of k1)
  refine SeqAt.in_listAt (zkk X.K H dx) pl.isList (fun w hw=>zec I hu1 h3 h1 rx h4 k2 r w (by simpa using hw)) ⟨.bl _,H,I,rfl,?_⟩
  rw[show its.toArray.any (zkk X.K H dx)=its.any (zkk X.K H dx) by simp,zfc I h4 k2 r]
  exact q
 ·obtain ⟨a,vs,rfl,k1,k2⟩:=zcc h2
  cases ry
  obtain ⟨its,r,pl,hz⟩:=I.tuple k1
  refine SeqAt.in_tupleAt (zkk X.K H dx) pl (fun w hw=>zec I hu1 h3 h1 rx h4 k2 r w (by simpa using hw)) ⟨.bl _,H,I,rfl,?_⟩
  rw[show its.toArray.any (zkk X.K H dx)=its.any (zkk X.K H dx) by simp,zfc I h4 k2 r]
  exact q
theorem zoC(hu:X.A.units+65<cLine):OpR X (compareOp .NotIn) (ztW X.K true):=by
 intro pins s σ H x y v u Q I rx ry h
 obtain ⟨dx,ds,h1,h2,h3,h4,q⟩:=h
 have hu1:X.A.in1.units+64<cLine:=by rw[zjQ];omega
 rcases h2 with h2|h2
 ·obtain ⟨a,vs,rfl,k1,k2⟩:=zbd h2
  cases ry
  obtain ⟨its,r,pl,hz⟩:=I.list (SqL.of k1)
  refine SeqAt.notIn_listAt (zkk X.K H dx) pl.isList (fun w hw=>zec I hu1 h3 h1 rx h4 k2 r w (by simpa using hw)) ⟨.bl _,H,I,rfl,?_⟩
  rw[show its.toArray.any (zkk X.K H dx)=its.any (zkk X.K H dx) by simp,zfc I h4 k2 r]
  exact q
 ·obtain ⟨a,vs,rfl,k1,k2⟩:=zcc h2
  cases ry
  obtain ⟨its,r,pl,hz⟩:=I.tuple k1
  refine SeqAt.notIn_tupleAt (zkk X.K H dx) pl (fun w hw=>zec I hu1 h3 h1 rx h4 k2 r w (by simpa using hw)) ⟨.bl _,H,I,rfl,?_⟩
  rw[show its.toArray.any (zkk X.K H dx)=its.any (zkk X.K H dx) by simp,zfc I h4 k2 r]
  exact q
def gIn(neg:Bool):Dt->Dt->R Dt:=fun x y=>match y with
 |.lst ds=>if (okN 60 x && ds.all (okN 60))=true then .ok (.bl (if neg then !inD x ds else inD x ds)) else .no
 |.tup ds=>if (okN 60 x && ds.all (okN 60))=true then .ok (.bl (if neg then !inD x ds else inD x ds)) else .no
 |_=>.no
theorem zsi(neg:Bool):zh4 (gIn neg):=fun x y n h=>by
 unfold gIn at h
 split at h
 ·split at h <;> cases h
 ·split at h <;> cases h
 ·cases h
theorem ztp{K:W.Frag}(neg:Bool):Op2 K (ztW K neg) (gIn neg):=fun G H x y dx dy z Q gh hx hy e k=>by
 unfold gIn at e
 split at e
 ·split at e
  ·rename_i h
   rw[Bool.and_eq_true] at h
   cases e
   exact ⟨dx,_,hx.same gh,.inl (hy.same gh),h.1,h.2,k _ G H (.refl gh) (by unfold Rep;rfl)⟩
  ·cases e
 ·split at e
  ·rename_i h
   rw[Bool.and_eq_true] at h
   cases e
   exact ⟨dx,_,hx.same gh,.inr (hy.same gh),h.1,h.2,k _ G H (.refl gh) (by unfold Rep;rfl)⟩
  ·cases e
 ·cases e
end
def zcO(i:Int):Bool:=decide (-18446744073709551616<i) && decide (i<18446744073709551616)
theorem zia{i:Int}(h:zcO i=true):-(2 ^ 64)<i/\i<2 ^ 64:=by
 unfold zcO at h
 rw[Bool.and_eq_true] at h
 have h1:=of_decide_eq_true h.1
 have h2:=of_decide_eq_true h.2
 omega
def zb4:Dt->Dt->R Dt
 |.int i,.int j=>.ok (.int (i+j))
 |_,_=>.no
def zhm:Dt->Dt->R Dt
 |.int i,.int j=>.ok (.int (i-j))
 |_,_=>.no
def zny:Dt->Dt->R Dt
 |.int i,.int j=>if (zcO i || zcO j)=true then .ok (.int (i * j)) else .no
 |_,_=>.no
def zp4:Dt->Dt->R Dt
 |.int i,.int j=>if 0<j/\j<1073741824 then .ok (.int (i / j)) else .no
 |_,_=>.no
def zmd:Dt->Dt->R Dt
 |.int i,.int j=>if 0<j then .ok (.int (i % j)) else .no
 |_,_=>.no
def zpg:Dt->Dt->R Dt
 |.int i,.int j=>if 0<=j/\j<=1000/\i.natAbs<18446744073709551616 then .ok (.int (i ^ j.toNat)) else .no
 |_,_=>.no
def zhQ(f:Int->Int->Bool):Dt->Dt->R Dt
 |.int i,.int j=>.ok (.bl (f i j))
 |_,_=>.no
section
variable{K:W.Frag}
theorem za3{G:Hp}(i:Int):Rep K G (.int i) (.int i):=by unfold Rep;rfl
theorem zbH{G:Hp}(b:Bool):Rep K G (.bl b) (.bl b):=by unfold Rep;rfl
theorem zoV:Op2 K (rI0 fun i j=>.int (i+j)) zb4:=fun G H x y dx dy z Q gh hx hy e k=>by
 unfold zb4 at e
 split at e
 ·cases e;exact ⟨_,_,za0 hx,za0 hy,k _ G H (.refl gh) (za3 _)⟩
 ·cases e
theorem zrC:Op2 K (rI0 fun i j=>.int (i-j)) zhm:=fun G H x y dx dy z Q gh hx hy e k=>by
 unfold zhm at e
 split at e
 ·cases e;exact ⟨_,_,za0 hx,za0 hy,k _ G H (.refl gh) (za3 _)⟩
 ·cases e
theorem zr4:Op2 K (rI zub fun i j=>.int (i * j)) zny:=fun G H x y dx dy z Q gh hx hy e k=>by
 unfold zny at e
 split at e
 ·split at e
  ·rename_i h
   cases e
   rw[Bool.or_eq_true] at h
   exact ⟨_,_,za0 hx,za0 hy,h.elim (fun z=>.inl (zia z)) (fun z=>.inr (zia z)),k _ G H (.refl gh) (za3 _)⟩
  ·cases e
 ·cases e
theorem zsh:Op2 K (rI CDiv fun i j=>.int (i / j)) zp4:=fun G H x y dx dy z Q gh hx hy e k=>by
 unfold zp4 at e
 split at e
 ·split at e
  ·rename_i h
   cases e
   exact ⟨_,_,za0 hx,za0 hy,h,k _ G H (.refl gh) (za3 _)⟩
  ·cases e
 ·cases e
theorem zsd:Op2 K (rI (fun _ j=>0<j) fun i j=>.int (i % j)) zmd:=fun G H x y dx dy z Q gh hx hy e k=>by
 unfold zmd at e
 split at e
 ·split at e
  ·rename_i h
   cases e
   exact ⟨_,_,za0 hx,za0 hy,h,k _ G H (.refl gh) (za3 _)⟩
  ·cases e
 ·cases e
theorem zqK:Op2 K (rI CPow fun i j=>.int (i ^ j.toNat)) zpg:=fun G H x y dx dy z Q gh hx hy e k=>by
 unfold zpg at e
 split at e
 ·split at e
  ·rename_i h
   cases e
   exact ⟨_,_,za0 hx,za0 hy,⟨h.1,by omega,by have:=h.2.2;omega⟩,k _ G H (.refl gh) (za3 _)⟩
  ·cases e
 ·cases e
theorem zdZ{f:Int->Int->Bool}:Op2 K (rI0 fun i j=>.bl (f i j)) (zhQ f):=fun G H x y dx dy z Q gh hx hy e k=>by
 unfold zhQ at e
 split at e
 ·cases e;exact ⟨_,_,za0 hx,za0 hy,k _ G H (.refl gh) (zbH _)⟩
 ·cases e
theorem zog:zh4 zb4:=fun x y n h=>by unfold zb4 at h;split at h <;> cases h
theorem zpp:zh4 zhm:=fun x y n h=>by unfold zhm at h;split at h <;> cases h
theorem zpz:zh4 zny:=fun x y n h=>by unfold zny at h;split at h <;> first|cases h|(split at h <;> cases h)
theorem zpv:zh4 zp4:=fun x y n h=>by unfold zp4 at h;split at h <;> first|cases h|(split at h <;> cases h)
theorem zpy:zh4 zmd:=fun x y n h=>by unfold zmd at h;split at h <;> first|cases h|(split at h <;> cases h)
theorem zoT:zh4 zpg:=fun x y n h=>by unfold zpg at h;split at h <;> first|cases h|(split at h <;> cases h)
theorem zdc{f:Int->Int->Bool}:zh4 (zhQ f):=fun x y n h=>by unfold zhQ at h;split at h <;> cases h
end
section
variable{X:Cx}{C:Cn}{a b:Expr}{fa fb:De}{pos:Pos}
theorem zcT(ha:JE X C a fa)(hb:JE X C b fb):JE X C (.BinOp a .Add b pos) (dOp zb4 fa fb):=zkB ztG zoV zog ha hb
theorem zlp(ha:JE X C a fa)(hb:JE X C b fb):JE X C (.BinOp a .Sub b pos) (dOp zhm fa fb):=zkB zsI zrC zpp ha hb
theorem zjX(ha:JE X C a fa)(hb:JE X C b fb):JE X C (.BinOp a .Mult b pos) (dOp zny fa fb):=zkB ztd zr4 zpz ha hb
theorem zqf(ha:JE X C a fa)(hb:JE X C b fb):JE X C (.BinOp a .FloorDiv b pos) (dOp zp4 fa fb):=zkB zsf zsh zpv ha hb
theorem zhW(ha:JE X C a fa)(hb:JE X C b fb):JE X C (.BinOp a .Mod b pos) (dOp zmd fa fb):=zkB zs1 zsd zpy ha hb
theorem zq9(ha:JE X C a fa)(hb:JE X C b fb):JE X C (.BinOp a .Pow b pos) (dOp zpg fa fb):=zkB zsC zqK zoT ha hb
abbrev gLt:=zhQ fun i j=>decide (i<j)
abbrev gLe:=zhQ fun i j=>decide (i<=j)
abbrev gGt:=zhQ fun i j=>decide (j<i)
abbrev gGe:=zhQ fun i j=>decide (j<=i)
theorem zuF(ha:JE X C a fa)(hb:JE X C b fb):JE X C (.Compare a [.Lt] [b] pos) (dOp gLt fa fb):=zjy zrK zdZ zdc ha hb (zeA _)
theorem zuc(ha:JE X C a fa)(hb:JE X C b fb):JE X C (.Compare a [.Gt] [b] pos) (dOp gGt fa fb):=zjy zsr zdZ zdc ha hb (zeA _)
theorem zs3(ha:JE X C a fa)(hb:JE X C b fb):JE X C (.Compare a [.GtE] [b] pos) (dOp gGe fa fb):=zjy zsp zdZ zdc ha hb (zeA _)
theorem zmt(hu:X.A.units+64<cLine)(ha:JE X C a fa)(hb:JE X C b fb):JE X C (.Compare a [.Eq] [b] pos) (dOp (gEq false) fa fb):=zjy (zqq hu) (znk false) (zkp false) ha hb (zeA _)
theorem zqH(ha:JE X C a fa)(hb:JE X C b fb):JT X C (.Compare a [.Lt] [b] pos) (dTB (dOp gLt fa fb)):=zhi zrK zdZ zdc ha hb (zeA _)
theorem zmk(ha:JE X C a fa)(hb:JE X C b fb):JT X C (.Compare a [.Gt] [b] pos) (dTB (dOp gGt fa fb)):=zhi zsr zdZ zdc ha hb (zeA _)
theorem zuk(ha:JE X C a fa)(hb:JE X C b fb):JT X C (.Compare a [.GtE] [b] pos) (dTB (dOp gGe fa fb)):=zhi zsp zdZ zdc ha hb (zeA _)
theorem zfJ(hu:X.A.units+64<cLine)(ha:JE X C a fa)(hb:JE X C b fb):JT X C (.Compare a [.Eq] [b] pos) (dTB (dOp (gEq false) fa fb)):=zhi (zqq hu) (znk false) (zkp false) ha hb (zeA _)
theorem zgO(hu:X.A.units+64<cLine)(ha:JE X C a fa)(hb:JE X C b fb):JT X C (.Compare a [.NotEq] [b] pos) (dTB (dOp (gEq true) fa fb)):=zhi (zqi hu) (znk true) (zkp true) ha hb (zeA _)
theorem zu6(hu:X.A.units+65<cLine)(ha:JE X C a fa)(hb:JE X C b fb)(hm:behindInMarks .In b=false:=by rfl):JT X C (.Compare a [.In] [b] pos) (dTB (dOp (gIn false) fa fb)):=zhi (ztD hu) (ztp false) (zsi false) ha hb hm
def zsa(fa:De):De:=fun ρ=>(fa ρ).bind fun a=>match a.1 with
 |.int i=>.ok (.int (-i),a.2)
 |_=>.no
theorem zo0(ha:JE X C a fa):JE X C (.UnaryOp .USub a pos) (zsa fa):=PE.weak (zu9 zsU ha) fun σ H Q ⟨G,w,ρ,r,p⟩=>by
 refine zd7 (κ:=fun G H w=>kE X.K C σ Q G H w) zbG r p fun d ρ1 v G1 H1 w1 r1 s1 q1 p1=>?_
 cases d with
 |int i=>exact ⟨i,za0 q1,p1 _ G1 H1 w1 (.refl _ _ _) r1 (za3 _)⟩
 |_=>exact p1.elim
def zjN(g g':Dt->Dt->R Dt)(fa fb fc:De):De:=fun ρ=>(fa ρ).bind fun a=>(fb a.2).bind fun b=>(g a.1 b.1).bind fun z=>match z with
 |.bl true=>(fc b.2).bind fun c=>(g' b.1 c.1).bind fun z'=>.ok (z',c.2)
 |.bl false=>.ok (.bl false,b.2)
 |_=>.no
end
def FnR(K:W.Frag)(r:List V->Hp->VK->Prop)(g:List Dt->R Dt):Prop:=∀(G H:Hp)(vs:List V)(ds:List Dt)(z:Dt)(Q:VK),zcf G H->za2 K G ds vs->g ds=.ok z ->
 (∀ v G' H',zea G H G' H'->Rep K G' z v->Q v H')->r vs H Q
def FnN(K:W.Frag)(r:List V->Hp->VK->Prop)(g:List Dt->R (List Dt)):Prop:=∀(G H:Hp)(vs:List V)(ds:List Dt)(z:List Dt)(Q:VK),zcf G H->za2 K G ds vs->g ds=.ok z ->
 (∀ p zs,H p=none->za2 K G z zs->Q (.ref p) (upd H p (.lst zs)))->r vs H Q
def zkw{α:Type}(g:List Dt->R α):Prop:=∀ x n,g x≠.er n
def dFn(g:List Dt->R Dt)(fa:DA):De:=fun ρ=>(fa ρ).bind fun a=>(g a.1).bind fun z=>.ok (z,a.2)
def zoK(g:List Dt->R (List Dt))(fa:DA):DN:=fun ρ=>(fa ρ).bind fun a=>(g a.1).bind fun z=>.ok (z,a.2)
section
variable{X:Cx}{C:Cn}{e:Expr}{es:List Expr}{fa:DA}{p pos:Pos}{x:Str}{id T:String}{r:List V->Hp->VK->Prop}
theorem zn2{g:List Dt->R Dt}{σ:L2.St}{H:Hp}{Q:VK}(h:FnR X.K r g)(he:zkw g)(t:tE X.K C (dFn g fa) σ H Q):tCB r (tAd X.K C fa) σ H Q:=by
 obtain ⟨G,w,ρ,rr,p⟩:=t
 refine ztq (κ:=fun G H w=>kE X.K C σ Q G H w) zbG rr p fun ds ρ1 vs G1 H1 w1 r1 s1 q1 p1=>?_
 cases e:g ds with
 |ok z =>
  simp only[e,R.bind_ok] at p1
  exact h G1 H1 vs ds z Q r1.gh q1 e fun v G' H' gr q=>p1 v G' H' w1 gr.step (r1.grow gr) q
 |er n=>exact absurd e (he _ _)
 |no=>simp only[e,R.bind_no] at p1;exact p1.elim
theorem zl6{g:List Dt->R (List Dt)}{σ:L2.St}{H:Hp}{Q:VK}(h:FnN X.K r g)(he:zkw g)(t:tN X.K C (zoK g fa) σ H Q):tCB r (tAd X.K C fa) σ H Q:=by
 obtain ⟨G,w,ρ,rr,p⟩:=t
 refine ztq (κ:=fun G H w=>kN X.K C σ Q G H w) zfL rr p fun ds ρ1 vs G1 H1 w1 r1 s1 q1 p1=>?_
 cases e:g ds with
 |ok z =>
  simp only[e,R.bind_ok] at p1
  refine h G1 H1 vs ds z Q r1.gh q1 e fun a zs ha q=>?_
  have gr:zea G1 H1 G1 (upd H1 a (.lst zs)):=.newH r1.gh ha
  exact p1 a zs G1 _ w1 gr.step (r1.grow gr) ha zaj (r1.gh.free ha) (by
   cases z:w1 a with
   |none=>rfl
   |some k=>exact absurd ha (r1.wh a (by rw[z];simp))) q
 |er n=>exact absurd e (he _ _)
 |no=>simp only[e,R.bind_no] at p1;exact p1.elim
theorem zgp{g:List Dt->R Dt}(h:FnR X.K r g)(he:zkw g)(hc:zcE X (.builtin id) r)(hg:Gl X x)(hm:X.mg x=none)(hv:bootBuiltins x=some (.builtin id))(ha:JA X C (e::es) fa)(hn:x≠"__name__":=by decide)(hdb:(x == ("__debug__" : Str))=false:=by decide)
  (hs:starEach (e::es) X.env=(false,eval e X.env)::starEach es X.env:=by rfl) (hpl:(backTo pos (starEach es X.env)).any (·.1)=false:=by rfl):JE X C (.Call (.Name x p) (e::es) [] pos) (dFn g fa) :=
 PE.weak (zdd hc hg hm hv ha hn hdb hs hpl) fun σ H Q t=>zn2 h he t
theorem zg6{g:List Dt->R Dt}(h:FnR X.K r g)(he:zkw g)(hc:zcE X (.type T) r)(hg:Gl X x)(hm:X.mg x=none)(hv:bootBuiltins x=some (.type T))(ha:JA X C (e::es) fa)(hn:x≠"__name__":=by decide)(hdb:(x == ("__debug__" : Str))=false:=by decide)
  (hs:starEach (e::es) X.env=(false,eval e X.env)::starEach es X.env:=by rfl) (hpl:(backTo pos (starEach es X.env)).any (·.1)=false:=by rfl):JE X C (.Call (.Name x p) (e::es) [] pos) (dFn g fa) :=
 PE.weak (zee hc hg hm hv ha hn hdb hs hpl) fun σ H Q t=>zn2 h he t
theorem zpa{g:List Dt->R (List Dt)}(h:FnN X.K r g)(he:zkw g)(hc:zcE X (.builtin id) r)(hg:Gl X x)(hm:X.mg x=none)(hv:bootBuiltins x=some (.builtin id))(ha:JA X C (e::es) fa)(hn:x≠"__name__":=by decide)(hdb:(x == ("__debug__" : Str))=false:=by decide)
  (hs:starEach (e::es) X.env=(false,eval e X.env)::starEach es X.env:=by rfl) (hpl:(backTo pos (starEach es X.env)).any (·.1)=false:=by rfl):JN X C (.Call (.Name x p) (e::es) [] pos) (zoK g fa) :=
 PE.weak (zdd hc hg hm hv ha hn hdb hs hpl) fun σ H Q t=>zl6 h he t
theorem znc{g:List Dt->R (List Dt)}(h:FnN X.K r g)(he:zkw g)(hc:zcE X (.type T) r)(hg:Gl X x)(hm:X.mg x=none)(hv:bootBuiltins x=some (.type T))(ha:JA X C (e::es) fa)(hn:x≠"__name__":=by decide)(hdb:(x == ("__debug__" : Str))=false:=by decide)
  (hs:starEach (e::es) X.env=(false,eval e X.env)::starEach es X.env:=by rfl) (hpl:(backTo pos (starEach es X.env)).any (·.1)=false:=by rfl):JN X C (.Call (.Name x p) (e::es) [] pos) (zoK g fa) :=
 PE.weak (zee hc hg hm hv ha hn hdb hs hpl) fun σ H Q t=>zl6 h he t
end
def zca:List Dt->R Dt
 |[.lst l]=>.ok (.int l.length)
 |[.tup l]=>.ok (.int l.length)
 |[.scr l]=>.ok (.int l.length)
 |[.str x]=>if x.length<=16777216 then .ok (.int x.length) else .no
 |_=>.no
def rLen(K:W.Frag):List V->Hp->VK->Prop:=fun xs H Q=>(∃ p ys,xs=[.ref p]/\(SqL K H p ys\/SqT K H p ys)/\Q (.int ys.length) H)\/∃ z,xs=[.str z]/\z.length<=sizeLine/\Q (.int z.length) H
theorem zf3{K:W.Frag}{G:Hp}{d:Dt}{vs:List V}(h:za2 K G [d] vs):∃ v,vs=[v]/\Rep K G d v:=by
 obtain ⟨v,r,rfl,h1,h2⟩:=h.cons_inv
 rw[h2.nil_inv];exact ⟨v,rfl,h1⟩
theorem zqU{K:W.Frag}{G:Hp}{d e:Dt}{vs:List V}(h:za2 K G [d,e] vs):∃ v u,vs=[v,u]/\Rep K G d v/\Rep K G e u:=by
 obtain ⟨v,r,rfl,h1,h2⟩:=h.cons_inv
 obtain ⟨u,rfl,h3⟩:=zf3 h2
 exact ⟨v,u,rfl,h1,h3⟩
theorem zk3{K:W.Frag}{G:Hp}{l:List Int}{v:V}(h:Rep K G (.scr l) v):∃ a,v=.ref a/\SqL K G a (l.map V.int):=by unfold Rep at h;exact h
section
variable{K:W.Frag}
theorem zsL:FnR K (rLen K) zca:=fun G H vs ds z Q gh hr e k=>by
 unfold zca at e
 split at e
 ·obtain ⟨v,rfl,h1⟩:=zf3 hr
  obtain ⟨a,us,rfl,h2,h3⟩:=zbd h1
  cases e
  exact .inl ⟨a,us,rfl,.inl (SqL.of (gh _ _ h2)),by rw[<- h3.length];exact k _ G H (.refl gh) (za3 _)⟩
 ·obtain ⟨v,rfl,h1⟩:=zf3 hr
  obtain ⟨a,us,rfl,h2,h3⟩:=zcc h1
  cases e
  exact .inl ⟨a,us,rfl,.inr (zaT gh h2),by rw[<- h3.length];exact k _ G H (.refl gh) (za3 _)⟩
 ·obtain ⟨v,rfl,h1⟩:=zf3 hr
  obtain ⟨a,rfl,h2⟩:=zk3 h1
  cases e
  exact .inl ⟨a,_,rfl,.inl (gh.seq h2),by rw[List.length_map];exact k _ G H (.refl gh) (za3 _)⟩
 ·split at e
  ·rename_i hx
   obtain ⟨v,rfl,h1⟩:=zf3 hr
   cases e
   exact .inr ⟨_,by rw[zaN h1],by rw[show sizeLine=16777216 from by decide];exact hx,k _ G H (.refl gh) (za3 _)⟩
  ·cases e
 ·cases e
theorem zsH:zkw zca:=fun x n h=>by unfold zca at h;split at h <;> first|cases h|(split at h <;> cases h)
def zk5:List Dt->R (List Dt)
 |[.lst l]=>.ok l
 |[.tup l]=>.ok l
 |_=>.no
theorem zqR:FnN K (fun xs H Q=>∃ p ys,xs=[.ref p]/\(SqL K H p ys\/SqT K H p ys)/\∀ l,H l=none->Q (.ref l) (upd H l (.lst ys))) zk5:=fun G H vs ds z Q gh hr e k=>by
 unfold zk5 at e
 split at e
 ·obtain ⟨v,rfl,h1⟩:=zf3 hr
  obtain ⟨a,us,rfl,h2,h3⟩:=zbd h1
  cases e
  exact ⟨a,us,rfl,.inl (SqL.of (gh _ _ h2)),fun l hl=>k l us hl h3⟩
 ·obtain ⟨v,rfl,h1⟩:=zf3 hr
  obtain ⟨a,us,rfl,h2,h3⟩:=zcc h1
  cases e
  exact ⟨a,us,rfl,.inr (zaT gh h2),fun l hl=>k l us hl h3⟩
 ·cases e
theorem zrg:zkw zk5:=fun x n h=>by unfold zk5 at h;split at h <;> cases h
def zda:List Dt->R Dt
 |[.lst l]=>.ok (.tup l)
 |[.tup l]=>.ok (.tup l)
 |_=>.no
theorem zpo:FnR K (fun xs H Q=>∃ p ys,xs=[.ref p]/\((SqL K H p ys/\∀ l,H l=none->Q (.ref l) (upd H l (.tup ys)))\/(SqT K H p ys/\Q (.ref p) H))) zda:=fun G H vs ds z Q gh hr e k=>by
 unfold zda at e
 split at e
 ·obtain ⟨v,rfl,h1⟩:=zf3 hr
  obtain ⟨a,us,rfl,h2,h3⟩:=zbd h1
  cases e
  refine ⟨a,us,rfl,.inl ⟨SqL.of (gh _ _ h2),fun l hl=>?_⟩⟩
  have gr:zea G H (upd G l (.tup us)) (upd H l (.tup us)):=.new gh hl
  exact k _ _ _ gr (by unfold Rep;exact ⟨l,us,rfl,zkg.of zaj,h3.same gr.g⟩)
 ·obtain ⟨v,rfl,h1⟩:=zf3 hr
  obtain ⟨a,us,rfl,h2,h3⟩:=ziz h1
  cases e
  exact ⟨a,us,rfl,.inr ⟨zaT gh h2.sq,k _ G H (.refl gh) (by unfold Rep;exact ⟨a,us,rfl,h2,h3⟩)⟩⟩
 ·cases e
theorem zp9:zkw zda:=fun x n h=>by unfold zda at h;split at h <;> cases h
def ziL:List Dt->R Dt
 |[.int i,.int j]=>.ok (.int (if j > i then j else i))
 |_=>.no
def zi6:List Dt->R Dt
 |[.int i,.int j]=>.ok (.int (if j<i then j else i))
 |_=>.no
theorem zqY:FnR K (fun xs H Q=>∃ i j,xs=[.int i,.int j]/\Q (.int (if j > i then j else i)) H) ziL:=fun G H vs ds z Q gh hr e k=>by
 unfold ziL at e
 split at e
 ·obtain ⟨v,u,rfl,h1,h2⟩:=zqU hr
  cases e
  exact ⟨_,_,by rw[za0 h1,za0 h2],k _ G H (.refl gh) (za3 _)⟩
 ·cases e
theorem zr0:FnR K (fun xs H Q=>∃ i j,xs=[.int i,.int j]/\Q (.int (if j<i then j else i)) H) zi6:=fun G H vs ds z Q gh hr e k=>by
 unfold zi6 at e
 split at e
 ·obtain ⟨v,u,rfl,h1,h2⟩:=zqU hr
  cases e
  exact ⟨_,_,by rw[za0 h1,za0 h2],k _ G H (.refl gh) (za3 _)⟩
 ·cases e
theorem zrk:zkw ziL:=fun x n h=>by unfold ziL at h;split at h <;> cases h
theorem zr2:zkw zi6:=fun x n h=>by unfold zi6 at h;split at h <;> cases h
end
section
variable{X:Cx}
theorem zlo{α:Type}{f:α->V}{g:α->Value->Prop}(h:∀ a u,zcj (f a) u->g a u):∀{as:List α}{us:List Value}{i:Nat}{u:Value},zbe (as.map f) us->us[i]? = some u->∃ a,as[i]? = some a/\g a u
 |[],_,_,_,r,e=>by cases r;simp at e
 |a::as,_,0,u,.cons r t,e=>by simp at e;subst e;exact ⟨a,rfl,h a _ r⟩
 |a::as,_,i+1,u,.cons r t,e=>by
  obtain ⟨b,h1,h2⟩:=zlo h (i:=i) t (by simpa using e)
  exact ⟨b,by simpa using h1,h2⟩
theorem ziJ:∀(bs:List Bool),((List.range bs.length).all fun i=>(bs[i]?).getD true)=bs.all id:=fun bs=>by
 rw[Bool.eq_iff_iff,List.all_eq_true,List.all_eq_true]
 constructor
 ·intro h b hb
  obtain ⟨i,hi,rfl⟩:=List.mem_iff_getElem.mp hb
  have:=h i (List.mem_range.mpr hi)
  simpa [hi] using this
 ·intro h i hi
  have hi':=List.mem_range.mp hi
  simpa [hi'] using h bs[i] (List.getElem_mem hi')
theorem zmK(hc:X.calm=true):zcE X (.builtin "all") (fun xs H Q=>∃(p:Addr)(bs:List Bool),xs=[.ref p]/\SqL X.K H p (bs.map V.bl)/\Q (.bl (bs.all id)) H):=by
 intro pins s σ H xs us Q I r h
 obtain ⟨p,bs,rfl,hq,q⟩:=h
 obtain ⟨u,rfl,ru⟩:=zhz r
 cases ru
 obtain ⟨its,rv,pl,hz⟩:=I.list hq
 have hlt:p≠s.heap.objs.size:=by
  obtain ⟨o,n,e,_⟩:=id pl
  exact Nat.ne_of_lt (Heap.lt_size e)
 have hlen:its.length=bs.length:=by rw[<- rv.length];simp
 refine call_all_walk (wpAny_pyIter_list pl.isList ?_)
 refine ⟨s.heap.objs.size,_,_,_,_,_,fun i=>(bs[i]?).getD true,rfl,Walks.list (A:=X.A.in1) (I.ok.hd hc) s.heap.objs.size p hlt its.toArray,⟨⟨_,Heap.get?_push_size _ rfl,rfl,rfl⟩,?_⟩,?_,fun h' tk hk=>?_⟩
 ·obtain ⟨o,ho,hc',n,hd⟩:=pl.isList
  exact ⟨o,Heap.get?_push_of_some _ ho,hc',n,hd⟩
 ·intro i v s' Q' E' hP hQ
  obtain ⟨b,h1,h2⟩:=zlo (f:=V.bl) (g:=fun b u=>u=Value.bool b) (fun a u z=>z) rv (i:=i) (u:=v) (by simpa using hP)
  subst h2
  simp only[h1,Option.getD_some] at hQ
  exact wpAny_truthy_bool hQ
 ·refine ⟨.bl (bs.all id),H,I.kept (t':=tk) fun b o e=>hk b o (fun z=>?_) (Heap.get?_push_of_some _ e),?_,q⟩
  ·simp at z;exact absurd (z ▸ Heap.lt_size e) (Nat.lt_irrefl _)
  ·show Value.bool _=_
   rw[List.size_toArray,hlen,ziJ]
def ze5:List Dt->Option (List Bool)
 |[]=>some []
 |.bl b::r=>(ze5 r).map (b::·)
 |_=>none
theorem zhG{K:W.Frag}{G:Hp}:∀{ds:List Dt}{vs:List V}{bs:List Bool},za2 K G ds vs->ze5 ds=some bs->vs=bs.map V.bl
 |[],_,_,h,e=>by rw[h.nil_inv];simp[ze5] at e;subst e;rfl
 |.bl b::r,_,bs,h,e=>by
  obtain ⟨v,t,rfl,h1,h2⟩:=h.cons_inv
  simp only[ze5,Option.map_eq_some_iff] at e
  obtain ⟨bs',e1,rfl⟩:=e
  rw[zdY h1,zhG h2 e1];rfl
 |.non::_,_,_,_,e=>by simp[ze5] at e
 |.int _::_,_,_,_,e=>by simp[ze5] at e
 |.str _::_,_,_,_,e=>by simp[ze5] at e
 |.tup _::_,_,_,_,e=>by simp[ze5] at e
 |.lst _::_,_,_,_,e=>by simp[ze5] at e
 |.dct::_,_,_,_,e=>by simp[ze5] at e
 |.scr _::_,_,_,_,e=>by simp[ze5] at e
def zlE:List Dt->R Dt
 |[.lst l]=>match ze5 l with
  |some bs=>.ok (.bl (bs.all id))
  |none=>.no
 |_=>.no
theorem ztb{K:W.Frag}:FnR K (fun xs H Q=>∃(p:Addr)(bs:List Bool),xs=[.ref p]/\SqL K H p (bs.map V.bl)/\Q (.bl (bs.all id)) H) zlE:=fun G H vs ds z Q gh hr e k=>by
 unfold zlE at e
 split at e
 ·split at e
  ·rename_i bs eb
   obtain ⟨v,rfl,h1⟩:=zf3 hr
   obtain ⟨a,us,rfl,h2,h3⟩:=zbd h1
   cases e
   rw[zhG h3 eb] at h2
   exact ⟨a,bs,rfl,SqL.of (gh _ _ h2),k _ G H (.refl gh) (zbH _)⟩
  ·cases e
 ·cases e
theorem zt9:zkw zlE:=fun x n h=>by unfold zlE at h;split at h <;> first|cases h|(split at h <;> cases h)
def zkl:List Dt->Option (List Int)
 |[]=>some []
 |.int b::r=>(zkl r).map (b::·)
 |_=>none
theorem znx{K:W.Frag}{G:Hp}:∀{ds:List Dt}{vs:List V}{bs:List Int},za2 K G ds vs->zkl ds=some bs->vs=bs.map V.int
 |[],_,_,h,e=>by rw[h.nil_inv];simp[zkl] at e;subst e;rfl
 |.int b::r,_,bs,h,e=>by
  obtain ⟨v,t,rfl,h1,h2⟩:=h.cons_inv
  simp only[zkl,Option.map_eq_some_iff] at e
  obtain ⟨bs',e1,rfl⟩:=e
  rw[za0 h1,znx h2 e1];rfl
 |.non::_,_,_,_,e=>by simp[zkl] at e
 |.bl _::_,_,_,_,e=>by simp[zkl] at e
 |.str _::_,_,_,_,e=>by simp[zkl] at e
 |.tup _::_,_,_,_,e=>by simp[zkl] at e
 |.lst _::_,_,_,_,e=>by simp[zkl] at e
 |.dct::_,_,_,_,e=>by simp[zkl] at e
 |.scr _::_,_,_,_,e=>by simp[zkl] at e
theorem znM(ns:List Int):zkl (ns.map .int)=some ns:=by
 induction ns with
 |nil=>rfl
 |cons n r ih=>simp[zkl,ih]
end
section
variable{X:Cx}
end
def tyD:Dt->String
 |.non=>"NoneType"
 |.bl _=>"bool"
 |.int _=>"int"
 |.str _=>"str"
 |.tup _=>"tuple"
 |.lst _=>"list"
 |.dct=>"dict"
 |.scr _=>"list"
def zfv(t T:String):Bool:=(t == T) || (t == "bool" && T == "int")
section
variable{X:Cx}{pins:List (Addr×Obj)}{σ:L2.St}{H:Hp}{s:Shared}
theorem zqo(I:L2.Inv X pins σ H s):∀{d:Dt}{v:V}{u:Value},Rep X.K H d v->zcj v u->∃ P:Heap->Prop,W.KitX X.K u (.type (tyD d)) P/\P s.heap/\u≠.builtin "__main__.__loader__#opaque"
 |.non,v,u,h,r=>by rw[zgD h] at r;cases r;exact ⟨_,W.kitx_none,True.intro,by simp⟩
 |.bl b,v,u,h,r=>by rw[zdY h] at r;cases r;exact ⟨_,W.kitx_bool,True.intro,by simp⟩
 |.int b,v,u,h,r=>by rw[za0 h] at r;obtain ⟨t,rfl⟩:=r;exact ⟨_,W.kitx_int,True.intro,by simp⟩
 |.str b,v,u,h,r=>by rw[zaN h] at r;obtain ⟨t,rfl⟩:=r;exact ⟨_,W.kitx_str,True.intro,by simp⟩
 |.tup l,v,u,h,r=>by
  obtain ⟨a,vs,rfl,h1,h2⟩:=zcc h
  cases r
  obtain ⟨its,rv,⟨o,e,c,k,dd⟩,_⟩:=I.tuple h1
  exact ⟨_,W.kitx_tuple,⟨o,e,c⟩,by simp⟩
 |.lst l,v,u,h,r=>by
  obtain ⟨a,vs,rfl,h1,h2⟩:=zbd h
  cases r
  obtain ⟨its,rv,⟨o,k,e,c,_,dd⟩,_⟩:=I.list (SqL.of h1)
  exact ⟨_,W.kitx_list,⟨o,e,c⟩,by simp⟩
 |.dct,v,u,h,r=>by
  unfold Rep at h
  obtain ⟨a,rfl,h1⟩:=h
  cases r
  obtain ⟨_,_,vs,_,o,es,ep,e1,e2,_⟩:=(show zc4 X.prog X.w H s.heap a (.dK []) from I.hok a _ h1)
  exact ⟨_,W.kitx_dict,⟨o,e1,e2.1⟩,by simp⟩
 |.scr l,v,u,h,r=>by
  obtain ⟨a,rfl,h1⟩:=zk3 h
  cases r
  obtain ⟨its,rv,⟨o,k,e,c,_,dd⟩,_⟩:=I.list h1
  exact ⟨_,W.kitx_list,⟨o,e,c⟩,by simp⟩
end
def zgY(T:String):Prop:=∀(K:W.Frag)(t:String),t∈["NoneType","bool","int","str","tuple","list","dict"]->W.kitOne K (.type t) (.type T)=some (zfv t T)
theorem zk4(d:Dt):tyD d∈["NoneType","bool","int","str","tuple","list","dict"]:=by cases d <;> simp[tyD]
theorem znW:zgY "int":=fun K t h=>by
 simp only[List.mem_cons,List.not_mem_nil,or_false] at h
 rcases h with rfl|rfl|rfl|rfl|rfl|rfl|rfl <;> rfl
theorem zi5:zgY "bool":=fun K t h=>by
 simp only[List.mem_cons,List.not_mem_nil,or_false] at h
 rcases h with rfl|rfl|rfl|rfl|rfl|rfl|rfl <;> rfl
theorem zoc:zgY "str":=fun K t h=>by
 simp only[List.mem_cons,List.not_mem_nil,or_false] at h
 rcases h with rfl|rfl|rfl|rfl|rfl|rfl|rfl <;> rfl
theorem zcU:zgY "tuple":=fun K t h=>by
 simp only[List.mem_cons,List.not_mem_nil,or_false] at h
 rcases h with rfl|rfl|rfl|rfl|rfl|rfl|rfl <;> rfl
theorem zgn:zgY "list":=fun K t h=>by
 simp only[List.mem_cons,List.not_mem_nil,or_false] at h
 rcases h with rfl|rfl|rfl|rfl|rfl|rfl|rfl <;> rfl
def zcK(T:String)(fa:De):De:=fun ρ=>(fa ρ).bind fun a=>.ok (.bl (zfv (tyD a.1) T),a.2)
def zrU(T U:String)(fa:De):De:=fun ρ=>(fa ρ).bind fun a=>.ok (.bl (zfv (tyD a.1) T || zfv (tyD a.1) U),a.2)
section
variable{X:Cx}{C:Cn}{e:Expr}{fa:De}{p p2 pos:Pos}
theorem zpq{T:String}(ok:zgY T):zcE X (.builtin "isinstance") (fun xs H Q=>∃ d v,xs=[v,.ty T]/\Rep X.K H d v/\Q (.bl (zfv (tyD d) T)) H):=by
 intro pins s σ H xs us Q I r h
 obtain ⟨d,v,rfl,h1,q⟩:=h
 obtain ⟨u,w',rfl,r1,r2⟩:=zkc r
 cases r2
 obtain ⟨P,Z,hp,hx⟩:=zqo I h1 r1
 exact W.kia_one Z I.kIn hp (ok X.K (tyD d) (zk4 d)) hx fun tk=>⟨.bl _,H,I.tok tk,rfl,q⟩
theorem znJ{T U:String}(ok:zgY T)(ok2:zgY U):zcE X (.builtin "isinstance") (fun xs H Q=>∃ d v a,xs=[v,.ref a]/\Rep X.K H d v/\SqT X.K H a [.ty T,.ty U]/\Q (.bl (zfv (tyD d) T || zfv (tyD d) U)) H):=by
 intro pins s σ H xs us Q I r h
 obtain ⟨d,v,a,rfl,h1,ha,q⟩:=h
 obtain ⟨u,w',rfl,r1,r2⟩:=zkc r
 cases r2
 obtain ⟨P,Z,hp,hx⟩:=zqo I h1 r1
 obtain ⟨its,rv,⟨o,e,c,k,dd⟩,_⟩:=I.tuple ha
 obtain ⟨x1,x2,rfl,q1,q2⟩:=zkc rv
 cases q1
 cases q2
 obtain ⟨oc,od,odt,osl⟩:=o
 simp only at c dd
 subst c dd
 refine W.kia_tup (its:=[Value.type T,Value.type U]) (b:=zfv (tyD d) T || zfv (tyD d) U) Z I.kIn hp e ?_ hx fun tk=>⟨.bl _,H,I.tok tk,rfl,q⟩
 unfold W.kitAny
 rw[ok X.K (tyD d) (zk4 d)]
 cases zfv (tyD d) T with
 |true=>rfl
 |false =>
  simp only[W.kitAny,ok2 X.K (tyD d) (zk4 d)]
  cases zfv (tyD d) U <;> rfl
theorem zcC{T:String}{x2:Str}(ok:zgY T)(hg:Gl X "isinstance")(hm:X.mg "isinstance"=none)(hv:bootBuiltins "isinstance"=some (.builtin "isinstance"))(hg2:Gl X x2)(hm2:X.mg x2=none)(hv2:bootBuiltins x2=some (.type T))(ha:JE X C e fa)
  (hn:("isinstance" : Str)≠"__name__":=by decide) (hdb:(("isinstance" : Str) == ("__debug__" : Str))=false:=by decide) (hn2:x2≠"__name__":=by decide) (hdb2:(x2 == ("__debug__" : Str))=false:=by decide)
  (hs:starEach [e,.Name x2 p2] X.env=(false,eval e X.env)::starEach [.Name x2 p2] X.env:=by rfl) (hs2:starEach [.Name x2 p2] X.env=(false,eval (.Name x2 p2) X.env)::starEach [] X.env:=by rfl) (hpl:(backTo pos (starEach [.Name x2 p2] X.env)).any (·.1)=false:=by rfl) :
  JE X C (.Call (.Name "isinstance" p) [e,.Name x2 p2] [] pos) (zcK T fa) :=
 PE.weak (zdd (zpq ok) hg hm hv (zaE ha (zaE (ziI (v:=.ty T) hg2 hm2 hv2 rfl hn2 hdb2) zb3 hs2) hs) hn hdb hs hpl) fun σ H Q ⟨G,w,ρ,r,p⟩=>by
  refine zd7 (κ:=fun G H w=>kE X.K C σ Q G H w) zbG r p fun d ρ1 v G1 H1 w1 r1 s1 q1 p1=>?_
  exact ⟨d,v,rfl,q1.same r1.gh,p1 _ G1 H1 w1 (.refl _ _ _) r1 (zbH _)⟩
theorem zrF{T U:String}{x2 x3:Str}{p3 pt:Pos}{kt}(ok:zgY T)(ok2:zgY U)(hg:Gl X "isinstance")(hm:X.mg "isinstance"=none)(hv:bootBuiltins "isinstance"=some (.builtin "isinstance"))(hg2:Gl X x2)(hm2:X.mg x2=none)(hv2:bootBuiltins x2=some (.type T))(hg3:Gl X x3)(hm3:X.mg x3=none)(hv3:bootBuiltins x3=some (.type U))(ha:JE X C e fa)
  (hn:("isinstance" : Str)≠"__name__":=by decide) (hdb:(("isinstance" : Str) == ("__debug__" : Str))=false:=by decide) (hn2:x2≠"__name__":=by decide) (hdb2:(x2 == ("__debug__" : Str))=false:=by decide) (hn3:x3≠"__name__":=by decide) (hdb3:(x3 == ("__debug__" : Str))=false:=by decide)
  (hs:starEach [e,.Tuple [.Name x2 p2,.Name x3 p3] kt pt] X.env=(false,eval e X.env)::starEach [.Tuple [.Name x2 p2,.Name x3 p3] kt pt] X.env:=by rfl) (hs2:starEach [.Tuple [.Name x2 p2,.Name x3 p3] kt pt] X.env=(false,eval (.Tuple [.Name x2 p2,.Name x3 p3] kt pt) X.env)::starEach [] X.env:=by rfl) (hpl:(backTo pos (starEach [.Tuple [.Name x2 p2,.Name x3 p3] kt pt] X.env)).any (·.1)=false:=by rfl)
  (hs3:starEach [.Name x2 p2,.Name x3 p3] X.env=(false,eval (.Name x2 p2) X.env)::starEach [.Name x3 p3] X.env:=by rfl) (hs4:starEach [.Name x3 p3] X.env=(false,eval (.Name x3 p3) X.env)::starEach [] X.env:=by rfl) :
  JE X C (.Call (.Name "isinstance" p) [e,.Tuple [.Name x2 p2,.Name x3 p3] kt pt] [] pos) (zrU T U fa) :=
 PE.weak (zdd (znJ ok ok2) hg hm hv (zaE ha (zaE (zq0 (zaE (ziI (v:=.ty T) hg2 hm2 hv2 rfl hn2 hdb2) (zaE (ziI (v:=.ty U) hg3 hm3 hv3 rfl hn3 hdb3) zb3 hs4) hs3)) zb3 hs2) hs) hn hdb hs hpl) fun σ H Q ⟨G,w,ρ,r,p⟩=>by
  refine zd7 (κ:=fun G H w=>kE X.K C σ Q G H w) zbG r p fun d ρ1 v G1 H1 w1 r1 s1 q1 p1=>?_
  refine ⟨by show 2<=sizeLine;decide,fun a ha=>?_⟩
  have gr:zea G1 H1 G1 (upd H1 a (.tup [.ty T,.ty U])):=.newH r1.gh ha
  exact ⟨d,v,a,rfl,(q1.same r1.gh).same gr.h,SqT.of zaj,p1 _ G1 _ w1 gr.step (r1.grow gr) (zbH _)⟩
def gIx:Dt->Dt->R Dt
 |.lst l,.int i=>match atI l i with
  |some d=>.ok d
  |none=>.no
 |.tup l,.int i=>match atI l i with
  |some d=>.ok d
  |none=>.no
 |.scr l,.int i=>match atI l i with
  |some d=>.ok (.int d)
  |none=>.no
 |_,_=>.no
theorem zqQ{α β:Type}{f:α->β}{l:List α}{i:Int}{d:α}(ed:atI l i=some d):atI (l.map f) i=some (f d):=by
 unfold atI at ed ⊢
 rw[List.length_map]
 cases q:ixN l.length i with
 |none=>rw[q] at ed;cases ed
 |some j =>
  rw[q] at ed
  simp only[Option.bind_some] at ed ⊢
  rw[List.getElem?_map,ed];rfl
theorem zsJ{K:W.Frag}:Op2 K (fun x y H Q=>rIxL K x y H Q\/rIxT K x y H Q) gIx:=fun G H x y dx dy z Q gh hx hy e k=>by
 unfold gIx at e
 split at e
 ·split at e
  ·rename_i d ed
   cases e
   obtain ⟨a,vs,rfl,h1,h2⟩:=zbd hx
   obtain ⟨v,e1,e2⟩:=zgs h2 ed
   exact .inl ⟨a,vs,_,v,rfl,za0 hy,SqL.of (gh _ _ h1),e1,k v G H (.refl gh) e2⟩
  ·cases e
 ·split at e
  ·rename_i d ed
   cases e
   obtain ⟨a,vs,rfl,h1,h2⟩:=zcc hx
   obtain ⟨v,e1,e2⟩:=zgs h2 ed
   exact .inr ⟨a,vs,_,v,rfl,za0 hy,zaT gh h1,e1,k v G H (.refl gh) e2⟩
  ·cases e
 ·split at e
  ·rename_i d ed
   cases e
   obtain ⟨a,rfl,h1⟩:=zk3 hx
   exact .inl ⟨a,_,_,.int d,rfl,za0 hy,gh.seq h1,zqQ ed,k _ G H (.refl gh) (za3 _)⟩
  ·cases e
 ·cases e
theorem zrn:zh4 gIx:=fun x y n h=>by unfold gIx at h;split at h <;> first|cases h|(split at h <;> cases h)
theorem zcV{a b:Expr}{fa fb:De}(ha:JE X C a fa)(hb:JE X C b fb)(hs:zel b:=by exact fun _ _=>rfl):JE X C (.Subscript a b pos) (dOp gIx fa fb) :=
 PE.weak (zh5 (zeH.or zsP) ha hb hs) fun σ H Q h=>zhf zsJ zrn h
end
theorem Rel.mutate{K:W.Frag}{C:Cn}{σ:L2.St}{G H:Hp}{w:Wn}{ρ:Ev}{i:Nat}{ds ds':List Dt}{a:Addr}{vs':List V}(r:Rel K C G w ρ σ H)(hi:ρ[i]? = some (some (.own ds)))(hv:σ[i]? = some (some (.ref a)))(hw:w a=some i)(h':za2 K G ds' vs') :
  Rel K C G w (ρ.set i (some (.own ds'))) σ (upd H a (.lst vs'))/\zbt G H w G (upd H a (.lst vs')) w:=by
 have ga:G a=none:=r.wg a (by rw[hw];simp)
 have st:zbt G H w G (upd H a (.lst vs')) w:=by
  refine ⟨.refl _,fun b o e=>.inl (by rw[e];simp),fun b o e z=>?_,fun _ e=>.inl e,fun b e=>?_⟩
  ·have:b≠a:=fun q=>by subst q;rw[hw] at z;cases z
   rw[zaf this];exact e
  ·by_cases hb:b=a
   ·subst hb;rw[zaj] at e;cases e
   ·rw[zaf hb] at e;exact e
 refine ⟨⟨fun b o e=>?_,r.wg,fun b e=>?_,by simpa using r.len,fun j b e=>?_,r.en.trans st,r.pin⟩,st⟩
 ·rw[zaf (zah e ga)];exact r.gh b o e
 ·by_cases hb:b=a
  ·subst hb;rw[zaj];simp
  ·rw[zaf hb];exact r.wh b e
 ·by_cases hj:j=i
  ·subst hj
   rw[List.getElem?_set_self (List.getElem?_eq_some_iff.mp hi).1] at e
   cases e
   exact ⟨_,hv,a,vs',rfl,hw,zaj,h'⟩
  ·rw[List.getElem?_set_ne (Ne.symm hj)] at e
   obtain ⟨v',h1,h2⟩:=r.sl j b e
   refine ⟨v',h1,h2.grow (.refl _) fun b' o e1 e2=>⟨?_,e1⟩⟩
   have:b'≠a:=fun z=>by subst z;rw[hw] at e1;exact hj (Option.some.inj e1).symm
   rw[zaf this];exact e2
section
variable{X:Cx}{C:Cn}{e:Expr}{fa:De}{pos ps apos:Pos}{x:Str}
theorem zcS{K:W.Frag}{σ:L2.St}{G H:Hp}{w:Wn}{ρ:Ev}{i:Nat}{ds:List Dt}(r:Rel K C G w ρ σ H)(e:ρ[i]? = some (some (.own ds))):∃ a vs,σ[i]? = some (some (.ref a))/\w a=some i/\H a=some (.lst vs)/\za2 K G ds vs:=by
 obtain ⟨v,h1,a,vs,rfl,h2,h3,h4⟩:=r.sl i _ e
 exact ⟨a,vs,h1,h2,h3,h4⟩
def zfO(i:Nat)(fa:De):De:=fun ρ=>match ρ[i]? with
 |some (some (.own _))=>(fa ρ).bind fun a=>match a.2[i]? with
  |some (some (.own ds))=>if ds.length<16777216 then .ok (.non,a.2.set i (some (.own (ds++[a.1])))) else .no
  |_=>.no
 |_=>.no
theorem zci:sizeLine=16777216:=by decide
theorem zk0(i:Nat)(ha:JE X C e fa)(hN:X.N[i]? = some x:=by rfl)(hv:Vis X.env.scope x:=by first|exact Or.inl rfl|exact Or.inr (Or.inl rfl)|exact Or.inr (Or.inr rfl))(hd:(x == ("__debug__" : Str))=false:=by decide)(hcd:(x == ("__classdict__" : Str))=false:=by decide)
  (hbase:attributeBase (.Name x ps) "append" X.env (eval (.Name x ps) X.env)=eval (.Name x ps) X.env:=by rfl)
  (hfew:((backTo pos (starEach [e] X.env)).all (fun x=>!x.1) && (backToKw pos (keywordEach [] X.env)).all (fun x=>x.1.isSome) && decide ([e].length+([]:List Keyword).length+(if ([]:List Keyword).isEmpty then 0 else 1)<30))=true:=by rfl)
  (hline:(apos.endLine == pos.line)=true:=by rfl) (hs:starEach [e] X.env=(false,eval e X.env)::starEach [] X.env:=by rfl) (hplain:(backTo pos (starEach [] X.env)).any (·.1)=false:=by rfl) :
  JE X C (.Call (.Attribute (.Name x ps) "append" apos) [e] [] pos) (zfO i fa) :=
 PE.weak (zi2 PySem.F.plainAttrs_list PySem.F.slot_list_append PySem.F.type_list_append zd1 (zbw hN hv hd hcd) (zaE ha zb3 hs) hbase hfew hline hs hplain) fun σ H Q ⟨G,w,ρ,r,p⟩=>by
  unfold zfO at p
  split at p
  ·rename_i ds0 e0
   obtain ⟨a,vs,h1,h2,h3,h4⟩:=zcS r e0
   refine ⟨.ref a,h1,.inl ⟨rfl,vs,SqL.of h3⟩,?_⟩
   refine zd7 (κ:=fun G H w=>kE X.K C σ Q G H w) zbG r p fun d ρ1 v G1 H1 w1 r1 s1 q1 p1=>?_
   dsimp only at p1
   split at p1
   ·rename_i ds e1
    obtain ⟨a',vs',k1,k2,k3,k4⟩:=zcS r1 e1
    rw[h1] at k1;cases k1
    split at p1
    ·rename_i hl
     obtain ⟨r',s'⟩:=r1.mutate e1 h1 k2 (k4.append (za2.cons q1 za2.nil))
     exact ⟨a,vs',v,rfl,rfl,k3,by rw[<- k4.length,zci];exact hl,p1 _ _ _ _ s' r' (by unfold Rep;rfl)⟩
    ·exact p1.elim
   ·exact p1.elim
  ·exact p.elim
def zp8(ds:List Dt)(k:Int):Option (Dt×List Dt):=if zf1 k=true then match ixN ds.length k with
  |some j=>match ds[j]? with
   |some d=>some (d,ds.eraseIdx j)
   |none=>none
  |none=>none
 else none
def zhN(i:Nat)(fa:De):De:=fun ρ=>match ρ[i]? with
 |some (some (.own _))=>(fa ρ).bind fun a=>match a.2[i]?,a.1 with
  |some (some (.own ds)),.int k=>match zp8 ds k with
   |some z=>.ok (z.1,a.2.set i (some (.own z.2)))
   |none=>.no
  |_,_=>.no
 |_=>.no
theorem zoQ(i:Nat)(ha:JE X C e fa)(hN:X.N[i]? = some x:=by rfl)(hv:Vis X.env.scope x:=by first|exact Or.inl rfl|exact Or.inr (Or.inl rfl)|exact Or.inr (Or.inr rfl))(hd:(x == ("__debug__" : Str))=false:=by decide)(hcd:(x == ("__classdict__" : Str))=false:=by decide)
  (hbase:attributeBase (.Name x ps) "pop" X.env (eval (.Name x ps) X.env)=eval (.Name x ps) X.env:=by rfl)
  (hfew:((backTo pos (starEach [e] X.env)).all (fun x=>!x.1) && (backToKw pos (keywordEach [] X.env)).all (fun x=>x.1.isSome) && decide ([e].length+([]:List Keyword).length+(if ([]:List Keyword).isEmpty then 0 else 1)<30))=true:=by rfl)
  (hline:(apos.endLine == pos.line)=true:=by rfl) (hs:starEach [e] X.env=(false,eval e X.env)::starEach [] X.env:=by rfl) (hplain:(backTo pos (starEach [] X.env)).any (·.1)=false:=by rfl) :
  JE X C (.Call (.Attribute (.Name x ps) "pop" apos) [e] [] pos) (zhN i fa) :=
 PE.weak (zi2 PySem.F.plainAttrs_list PySem.F.slot_list_pop PySem.F.type_list_pop zpY (zbw hN hv hd hcd) (zaE ha zb3 hs) hbase hfew hline hs hplain) fun σ H Q ⟨G,w,ρ,r,p⟩=>by
  unfold zhN at p
  split at p
  ·rename_i ds0 e0
   obtain ⟨a,vs,h1,h2,h3,h4⟩:=zcS r e0
   refine ⟨.ref a,h1,.inl ⟨rfl,vs,SqL.of h3⟩,?_⟩
   refine zd7 (κ:=fun G H w=>kE X.K C σ Q G H w) zbG r p fun d ρ1 v G1 H1 w1 r1 s1 q1 p1=>?_
   dsimp only at p1
   split at p1
   ·rename_i ds k e1
    obtain ⟨a',vs',k1,k2,k3,k4⟩:=zcS r1 e1
    rw[h1] at k1;cases k1
    split at p1
    ·rename_i z ez
     unfold zp8 at ez
     split at ez
     ·rename_i hb
      split at ez
      ·rename_i j ej
       split at ez
       ·rename_i d ed
        cases ez
        obtain ⟨j1,j2,j3,j4⟩:=zkI ej
        obtain ⟨y,y1,y2⟩:=k4.get ed
        obtain ⟨r',s'⟩:=r1.mutate e1 h1 k2 (k4.eraseIdx j)
        have hl:=k4.length
        obtain ⟨b1,b2⟩:=zix hb
        exact ⟨a,vs',k,j,y,rfl,by rw[za0 q1],k3,by omega,by omega,by rw[<- hl];exact j1,y1,p1 _ _ _ _ s' r' y2⟩
       ·cases ez
      ·cases ez
     ·cases ez
    ·exact p1.elim
   ·exact p1.elim
  ·exact p.elim
def zoI(i:Nat):De:=fun ρ=>match ρ[i]? with
 |some (some (.own ds))=>match ds[ds.length-1]? with
  |some d=>.ok (d,ρ.set i (some (.own ds.dropLast)))
  |none=>.no
 |_=>.no
theorem zq2(i:Nat)(hN:X.N[i]? = some x:=by rfl)(hv:Vis X.env.scope x:=by first|exact Or.inl rfl|exact Or.inr (Or.inl rfl)|exact Or.inr (Or.inr rfl))(hd:(x == ("__debug__" : Str))=false:=by decide)(hcd:(x == ("__classdict__" : Str))=false:=by decide)
  (hbase:attributeBase (.Name x ps) "pop" X.env (eval (.Name x ps) X.env)=eval (.Name x ps) X.env:=by rfl) (hline:(apos.endLine == pos.line)=true:=by rfl) :
  JE X C (.Call (.Attribute (.Name x ps) "pop" apos) [] [] pos) (zoI i) :=
 PE.weak (zqz PySem.F.plainAttrs_list PySem.F.slot_list_pop PySem.F.type_list_pop zqB (zbw hN hv hd hcd) hbase hline) fun σ H Q ⟨G,w,ρ,r,p⟩=>by
  unfold zoI at p
  split at p
  ·rename_i ds e0
   obtain ⟨a,vs,h1,h2,h3,h4⟩:=zcS r e0
   split at p
   ·rename_i d ed
    obtain ⟨y,y1,y2⟩:=h4.get ed
    obtain ⟨r',s'⟩:=r.mutate e0 h1 h2 h4.dropLast
    exact ⟨.ref a,h1,.inl ⟨rfl,vs,SqL.of h3⟩,a,vs,y,rfl,rfl,h3,by rw[<- h4.length];exact y1,p _ _ _ _ s' r' y2⟩
   ·exact p.elim
  ·exact p.elim
end
theorem zqG{X:Cx}{pins:List (Addr×Obj)}{σ:L2.St}{H:Hp}{s:Shared}{a:Addr}{xs:List V}(I:L2.Inv X pins σ H s)(h:zkg X.K H a xs):∃(its:List Value)(n:Nat),zbe xs its/\s.heap.get? a=some { cls:=.type "tuple",data:=.seq its.toArray n }/\xs.length<=sizeLine:=by
 rcases h with h|⟨its,n,h1,h2,h3⟩
 ·obtain ⟨z,its,r,n,e⟩:=(show zc4 X.prog X.w H s.heap a (.tup xs) from I.hok a _ h)
  exact ⟨its,n,r,e,z⟩
 ·refine ⟨its.toList,n,h3,by simpa using I.kIn a _ h1,?_⟩
  have:=h3.length
  simp only[Array.length_toList] at this
  omega
def zsY(K:W.Frag):V->List V->Hp->VK->Prop:=fun x vs H Q=>∃ l b xs zs,x=.ref l/\vs=[.ref b]/\H l=some (.lst xs)/\zkg K H b zs/\xs.length+zs.length<=sizeLine/\Q .non (upd H l (.lst (xs++zs)))
section
variable{X:Cx}
theorem zmh:MtM X "list.extend" (zsY X.K):=by
 intro pins s σ H x vs v us Q I rx rv h
 obtain ⟨l,b,xs,zs,rfl,rfl,hH,hB,hz,q⟩:=h
 cases rx
 obtain ⟨u,rfl,ru⟩:=zbe.one rv
 cases ru
 obtain ⟨z,its,n,r,hl,e⟩:=I.lstM hH
 obtain ⟨its2,n2,r2,e2,z2⟩:=zqG I hB
 have hl2:=r2.length
 have hsz:its.toArray.size+its2.toArray.size<=sizeLine:=by rw[List.size_toArray,List.size_toArray];omega
 have hlong:¬ (!its.toArray.isEmpty && Builtin.List.listTooLong (its.toArray.size+its2.toArray.size))=true:=by
  rw[zln hsz,Bool.and_false]
  exact Bool.false_ne_true
 refine PySem.call_meets F.slot_list_extend ⟨_,e,rfl⟩ F.entry_list_extend (F.args_list_extend_2 _ _)
  (AutoSeq1.list_extend_list_tuple_0 l its.toArray n b its2.toArray n2 hlong (by rw[List.size_toArray];omega) (by omega)) ⟨e,e2,?_⟩
 refine ⟨.non,_,I.lset (its':=its++its2) hH e (by simp) (r.append r2) ?_,rfl,q⟩
 rw[List.length_append]
 omega
theorem MtM.or{id:String}{r r':V->List V->Hp->VK->Prop}(h:MtM X id r)(h':MtM X id r'):MtM X id (fun x xs H Q=>r x xs H Q\/r' x xs H Q):=by
 intro pins s σ H x xs v us Q I rx rs q
 rcases q with q|q
 ·exact h pins s σ H x xs v us Q I rx rs q
 ·exact h' pins s σ H x xs v us Q I rx rs q
variable{C:Cn}{e:Expr}{fa fb:De}{pos ps apos:Pos}{x:Str}
def zq6:Dt->Option (List Dt)
 |.lst l=>some l
 |.tup l=>some l
 |_=>none
def znL(i:Nat)(fa:De):De:=fun ρ=>match ρ[i]? with
 |some (some (.own _))=>(fa ρ).bind fun a=>match a.2[i]?,zq6 a.1 with
  |some (some (.own ds)),some l=>if ds.length+l.length<=16777216 then .ok (.non,a.2.set i (some (.own (ds++l)))) else .no
  |_,_=>.no
 |_=>.no
theorem zqF(i:Nat)(ha:JE X C e fa)(hN:X.N[i]? = some x:=by rfl)(hv:Vis X.env.scope x:=by first|exact Or.inl rfl|exact Or.inr (Or.inl rfl)|exact Or.inr (Or.inr rfl))(hd:(x == ("__debug__" : Str))=false:=by decide)(hcd:(x == ("__classdict__" : Str))=false:=by decide)
  (hbase:attributeBase (.Name x ps) "extend" X.env (eval (.Name x ps) X.env)=eval (.Name x ps) X.env:=by rfl)
  (hfew:((backTo pos (starEach [e] X.env)).all (fun x=>!x.1) && (backToKw pos (keywordEach [] X.env)).all (fun x=>x.1.isSome) && decide ([e].length+([]:List Keyword).length+(if ([]:List Keyword).isEmpty then 0 else 1)<30))=true:=by rfl)
  (hline:(apos.endLine == pos.line)=true:=by rfl) (hs:starEach [e] X.env=(false,eval e X.env)::starEach [] X.env:=by rfl) (hplain:(backTo pos (starEach [] X.env)).any (·.1)=false:=by rfl) :
  JE X C (.Call (.Attribute (.Name x ps) "extend" apos) [e] [] pos) (znL i fa) :=
 PE.weak (zi2 PySem.F.plainAttrs_list PySem.F.slot_list_extend PySem.F.type_list_extend (MtM.or zmD zmh) (zbw hN hv hd hcd) (zaE ha zb3 hs) hbase hfew hline hs hplain) fun σ H Q ⟨G,w,ρ,r,p⟩=>by
  unfold znL at p
  split at p
  ·rename_i ds0 e0
   obtain ⟨a,vs,h1,h2,h3,h4⟩:=zcS r e0
   refine ⟨.ref a,h1,.inl ⟨rfl,vs,SqL.of h3⟩,?_⟩
   refine zd7 (κ:=fun G H w=>kE X.K C σ Q G H w) zbG r p fun d ρ1 v G1 H1 w1 r1 s1 q1 p1=>?_
   dsimp only at p1
   split at p1
   ·rename_i ds l e1 el
    obtain ⟨a',vs',k1,k2,k3,k4⟩:=zcS r1 e1
    rw[h1] at k1;cases k1
    split at p1
    ·rename_i hl
     cases d with
     |lst l' =>
      cases el
      obtain ⟨b,us,rfl,b1,b2⟩:=zbd q1
      obtain ⟨r',s'⟩:=r1.mutate e1 h1 k2 (k4.append b2)
      exact .inl ⟨a,b,vs',us,rfl,rfl,k3,r1.gh _ _ b1,by rw[<- k4.length,<- b2.length,zci];exact hl,p1 _ _ _ _ s' r' (by unfold Rep;rfl)⟩
     |tup l' =>
      cases el
      obtain ⟨b,us,rfl,b1,b2⟩:=ziz q1
      obtain ⟨r',s'⟩:=r1.mutate e1 h1 k2 (k4.append b2)
      exact .inr ⟨a,b,vs',us,rfl,rfl,k3,b1.same r1.gh,by rw[<- k4.length,<- b2.length,zci];exact hl,p1 _ _ _ _ s' r' (by unfold Rep;rfl)⟩
     |_=>cases el
    ·exact p1.elim
   ·exact p1.elim
  ·exact p.elim
def zcy(i:Nat):De:=fun ρ=>match ρ[i]? with
 |some (some (.own ds))=>.ok (.int ds.length,ρ)
 |_=>.no
theorem zeY(i:Nat){p:Pos}(hg:Gl X "len")(hm:X.mg "len"=none)(hN:X.N[i]? = some x:=by rfl)(hv:Vis X.env.scope x:=by first|exact Or.inl rfl|exact Or.inr (Or.inl rfl)|exact Or.inr (Or.inr rfl))(hd:(x == ("__debug__" : Str))=false:=by decide)(hcd:(x == ("__classdict__" : Str))=false:=by decide)
  (hs:starEach [.Name x ps] X.env=(false,eval (.Name x ps) X.env)::starEach [] X.env:=by rfl) (hpl:(backTo pos (starEach [] X.env)).any (·.1)=false:=by rfl):JE X C (.Call (.Name "len" p) [.Name x ps] [] pos) (zcy i) :=
 PE.weak (zdd zev hg hm PySem.boot_len (zaE (zbw hN hv hd hcd) zb3 hs) (by decide) (by decide) hs hpl) fun σ H Q ⟨G,w,ρ,r,p⟩=>by
  unfold zcy at p
  split at p
  ·rename_i ds e0
   obtain ⟨a,vs,h1,h2,h3,h4⟩:=zcS r e0
   exact ⟨.ref a,h1,a,vs,rfl,.inl (SqL.of h3),by rw[<- h4.length];exact p _ G H w (.refl _ _ _) r (za3 _)⟩
  ·exact p.elim
def zsk(neg:Bool)(i:Nat)(fb:De):De:=fun ρ=>match ρ[i]? with
 |some (some (.own _))=>(fb ρ).bind fun b=>match b.2[i]? with
  |some (some (.own ds))=>(gEq neg (.lst ds) b.1).bind fun z=>.ok (z,b.2)
  |_=>.no
 |_=>.no
theorem zpe{neg:Bool}{i:Nat}{σ:L2.St}{H:Hp}{Q:VK}(h:tE X.K C (zsk neg i fb) σ H Q):tOp (ztV X.K neg) (zuv i) (tE X.K C fb) σ H Q:=by
 obtain ⟨G,w,ρ,r,p⟩:=h
 unfold zsk at p
 split at p
 ·rename_i ds0 e0
  obtain ⟨a,vs,h1,h2,h3,h4⟩:=zcS r e0
  refine ⟨.ref a,h1,?_⟩
  refine zd7 (κ:=fun G H w=>kE X.K C σ Q G H w) zbG r p fun d ρ1 v G1 H1 w1 r1 s1 q1 p1=>?_
  dsimp only at p1
  split at p1
  ·rename_i ds e1
   obtain ⟨a',vs',k1,k2,k3,k4⟩:=zcS r1 e1
   rw[h1] at k1;cases k1
   unfold gEq at p1
   split at p1
   ·rename_i hk
    rw[Bool.and_eq_true] at hk
    exact ⟨.lst ds,d,by unfold Rep;exact ⟨a,vs',rfl,k3,k4.same r1.gh⟩,q1.same r1.gh,hk.1,hk.2,p1 _ G1 H1 w1 (.refl _ _ _) r1 (zbH _)⟩
   ·exact p1.elim
  ·exact p1.elim
 ·exact p.elim
variable{b:Expr}
theorem ztg(i:Nat)(hu:X.A.units+64<cLine)(hb:JE X C b fb)(hN:X.N[i]? = some x:=by rfl)(hv:Vis X.env.scope x:=by first|exact Or.inl rfl|exact Or.inr (Or.inl rfl)|exact Or.inr (Or.inr rfl))(hd:(x == ("__debug__" : Str))=false:=by decide)(hcd:(x == ("__classdict__" : Str))=false:=by decide) :
  JT X C (.Compare (.Name x ps) [.NotEq] [b] pos) (dTB (zsk true i fb)):=PT.weak (zis (zqi hu) (zbw hN hv hd hcd) hb (zeA _)) fun σ H Q h=>zpe (zha h)
def zq1(neg:Bool)(i:Nat)(fa:De):De:=fun ρ=>(fa ρ).bind fun a=>match a.2[i]? with
 |some (some (.own ds))=>(gIn neg a.1 (.lst ds)).bind fun z=>.ok (z,a.2)
 |_=>.no
theorem zpE{neg:Bool}{i:Nat}{σ:L2.St}{H:Hp}{Q:VK}(h:tE X.K C (zq1 neg i fa) σ H Q):tOp (ztW X.K neg) (tE X.K C fa) (zuv i) σ H Q:=by
 obtain ⟨G,w,ρ,r,p⟩:=h
 refine zd7 (κ:=fun G H w=>kE X.K C σ Q G H w) zbG r p fun d ρ1 v G1 H1 w1 r1 s1 q1 p1=>?_
 dsimp only at p1
 split at p1
 ·rename_i ds e1
  obtain ⟨a,vs,k1,k2,k3,k4⟩:=zcS r1 e1
  refine ⟨.ref a,k1,?_⟩
  unfold gIn at p1
  dsimp only at p1
  by_cases hk:(okN 60 d && ds.all (okN 60))=true
  ·rw[if_pos hk] at p1
   rw[Bool.and_eq_true] at hk
   exact ⟨d,ds,q1.same r1.gh,.inl (by unfold Rep;exact ⟨a,vs,rfl,k3,k4.same r1.gh⟩),hk.1,hk.2,p1 _ G1 H1 w1 (.refl _ _ _) r1 (zbH _)⟩
  ·rw[if_neg hk] at p1
   exact False.elim p1
 ·exact False.elim p1
theorem zo5(i:Nat)(hu:X.A.units+65<cLine)(ha:JE X C e fa)(hN:X.N[i]? = some x:=by rfl)(hv:Vis X.env.scope x:=by first|exact Or.inl rfl|exact Or.inr (Or.inl rfl)|exact Or.inr (Or.inr rfl))(hd:(x == ("__debug__" : Str))=false:=by decide)(hcd:(x == ("__classdict__" : Str))=false:=by decide)(hm:behindInMarks .NotIn (.Name x ps)=false:=by rfl) :
  JT X C (.Compare e [.NotIn] [.Name x ps] pos) (dTB (zq1 true i fa)):=PT.weak (zis (zoC hu) ha (zbw hN hv hd hcd) hm) fun σ H Q h=>zpE (zha h)
def zo4(i:Nat)(fv fk:De):DS:=fun ρ=>(fv ρ).bind fun v=>match v.2[i]? with
 |some (some (.own _))=>(fk v.2).bind fun k=>match k.2[i]?,k.1 with
  |some (some (.own ds)),.int n=>match ixN ds.length n with
   |some j=>.ok (.nx,k.2.set i (some (.own (ds.set j v.1))))
   |none=>.no
  |_,_=>.no
 |_=>.no
theorem znY(i:Nat){k:Expr}{fk:De}{tp:Pos}(hv:JE X C e fa)(hk:JE X C k fk)(hN:X.N[i]? = some x:=by rfl)(hvi:Vis X.env.scope x:=by first|exact Or.inl rfl|exact Or.inr (Or.inl rfl)|exact Or.inr (Or.inr rfl))(hd:(x == ("__debug__" : Str))=false:=by decide)(hcd:(x == ("__classdict__" : Str))=false:=by decide)
  (ha:∀ v,assign (.Subscript (.Name x ps) k tp) X.env v=(do
   let ov <- holding [v] (eval (.Name x ps) X.env)
   let iv <- holding [v,ov] (eval k X.env)
   standAt tp
   holding [v,ov,iv] (setItem ov iv v)
   release [v,ov,iv] []):=by intro _;rfl)
  (hs:swapsWithSole [.Subscript (.Name x ps) k tp] e pos.line X.env=pure false:=by rfl) (hw:swappedStores [.Subscript (.Name x ps) k tp] e X.env=pure none:=by rfl)
  (h1:(assignEach [.Subscript (.Name x ps) k tp] X.env).map (·.2)=[assign (.Subscript (.Name x ps) k tp) X.env]:=by rfl):JS X C (.Assign [.Subscript (.Name x ps) k tp] e pos) (zo4 i fa fk) :=
 PS.weak (ztO hv (zsB (zbw hN hvi hd hcd) hk zp0 ha) hs hw h1) fun D σ H ⟨G,w,ρ,r,p⟩=>by
  refine zd7 (κ:=fun G H w=>kS X.K C D G H w) zeg r p fun d ρ1 v G1 H1 w1 r1 s1 q1 p1=>?_
  dsimp only at p1
  split at p1
  ·rename_i ds0 e0
   obtain ⟨a,vs,k1,k2,k3,k4⟩:=zcS r1 e0
   refine ⟨.ref a,k1,?_⟩
   refine zd7 (κ:=fun G H w=>kS X.K C D G H w) zeg r1 p1 fun d2 ρ2 v2 G2 H2 w2 r2 s2 q2 p2=>?_
   dsimp only at p2
   split at p2
   ·rename_i ds n e2
    obtain ⟨a',vs',m1,m2,m3,m4⟩:=zcS r2 e2
    rw[k1] at m1;cases m1
    split at p2
    ·rename_i j ej
     obtain ⟨r',s'⟩:=r2.mutate e2 k1 m2 (za2.set (q1.same s2.g) j m4)
     exact ⟨a,vs',n,j,rfl,za0 q2,m3,by rw[<- m4.length];exact ej,p2 _ _ _ _ s' r'⟩
    ·exact False.elim p2
   ·exact False.elim p2
  ·exact False.elim p1
end
theorem zer{env:Env}:∀(names:List (Str×NameKind))(cs:List (Str×Addr)),(∀ y∈names,y.2=.free->∃ c,env.cells.lookup y.1=some c)->(∀ x c,cs.lookup x=some c->env.cells.lookup x=some c) ->
  ∃ cl,(forIn names cs fun (y:Str×NameKind) (r:List (Str×Addr))=>(if (y.2 == NameKind.free)=true then do let a <- cellOf env y.1;pure (ForInStep.yield ((y.1,a)::r)) else pure (ForInStep.yield r):Sem (ForInStep (List (Str×Addr)))))=pure cl /\
   (∀ x c,cl.lookup x=some c->env.cells.lookup x=some c)/\(∀ x c,cs.lookup x=some c->∃ c',cl.lookup x=some c')/\∀ y∈names,y.2=.free->∃ c,cl.lookup y.1=some c
 |[],cs,_,h2=>⟨cs,rfl,h2,fun x c e=>⟨c,e⟩,fun y hy=>by cases hy⟩
 | (n,k)::r,cs,h1,h2=>by
  rw[List.forIn_cons]
  by_cases hk:k=.free
  ·subst hk
   obtain ⟨c,hc⟩:=h1 (n,.free) List.mem_cons_self rfl
   obtain ⟨cl,e1,e2,e3,e4⟩:=zer r ((n,c)::cs) (fun y hy=>h1 y (List.mem_cons_of_mem _ hy)) (fun x c' e=>by
    rw[List.lookup_cons] at e
    cases hx:x == n with
    |true=>rw[hx] at e;simp only[Option.some.injEq] at e;subst e;rw[beq_iff_eq.mp hx];exact hc
    |false=>rw[hx] at e;exact h2 x c' e)
   refine ⟨cl,?_,e2,fun x c' e=>?_,fun y hy hf=>?_⟩
   ·simp only[beq_self_eq_true,if_true]
    have:cellOf env n=pure c:=by unfold cellOf;rw[hc]
    rw[this]
    exact e1
   ·refine (e3 x (if x == n then c else c') ?_)
    rw[List.lookup_cons]
    cases hx:x == n with
    |true=>rfl
    |false=>exact e
   ·rcases List.mem_cons.mp hy with rfl|hy
    ·exact e3 n c (by simp[List.lookup_cons])
    ·exact e4 y hy hf
  ·obtain ⟨cl,e1,e2,e3,e4⟩:=zer r cs (fun y hy=>h1 y (List.mem_cons_of_mem _ hy)) h2
   refine ⟨cl,?_,e2,e3,fun y hy hf=>?_⟩
   ·have:(k == NameKind.free)=false:=by simpa using hk
    simp only[this,Bool.false_eq_true,if_false]
    exact e1
   ·rcases List.mem_cons.mp hy with rfl|hy
    ·exact absurd hf hk
    ·exact e4 y hy hf
theorem zez{scope:Scope}{env:Env}(h:∀ y∈scope.names,y.2=.free->∃ c,env.cells.lookup y.1=some c):∃ cl,closureFor scope env=pure cl/\(∀ x c,cl.lookup x=some c->env.cells.lookup x=some c)/\∀ y∈scope.names,y.2=.free->∃ c,cl.lookup y.1=some c:=by
 obtain ⟨cl,e1,e2,_,e4⟩:=zer (env:=env) scope.names [] h (fun x c e=>by simp at e)
 refine ⟨cl,?_,e2,e4⟩
 unfold closureFor
 exact (congrArg (fun z:Sem (List (Str×Addr))=>z >>= fun cs=>pure cs) e1).trans rfl
section
variable{prog:Program}{w:World}{A:Around}{R:Result->Shared->Prop}{s:Shared}
theorem zfZ{elt target iter:Expr}{ifs:List Expr}{scope:Scope}{pos:Pos}{it acc:Value}{env:Env}(I:Nat->Shared->Prop)
  (turn:∀ n s,I n s->wpAny (model prog w) A (pyNext it) (fun r s₁=>match r with
   |none=>R (.ok .next) s₁
   |some v=>wpAny (model prog w) A (letOwnedTupleGo target it v) (fun _ s₁'=>wpAny (model prog w) A (assign target env v) (fun _ s₂ =>
     wpAny (model prog w) A (forIn ifs true fun c r=>if r=true then do let ok <- isTrue c env (eval c env);pure (ForInStep.yield ok) else pure (ForInStep.yield r)) (fun ok s₃ =>
      if ok=true then wpAny (model prog w) A (eval elt env) (fun x s₄ =>
       wpAny (model prog w) A (call (.builtin "list.append") [acc,x]) (fun _ s₅=>∃ m,m<n/\I m s₅) (fun _ _=>False) s₄) (fun _ _=>False) s₃
      else ∃ m,m<n/\I m s₃) (fun _ _=>False) s₂) (fun _ _=>False) s₁') (fun _ _=>False) s₁) (fun _ _=>False) s)
  (n:Nat) (h:I n s) :
  codeAny (model prog w) A (.compLoop (.ListComp elt [⟨target,iter,ifs,0⟩] scope pos) 0 it acc env) R s:=by
 refine codeAny_loop rfl I (fun n s hI=>?_) n h
 show wpAny _ A ((compTurn (.ListComp elt [⟨target,iter,ifs,0⟩] scope pos) 0 it acc env).onRaise (fun x=>do noteFrame x env;theTreesLotGoes x)) _ _ s
 refine wpAny_noted ?_
 rw[compTurn_list]
 refine wpAny_bind (wpAny_standAt (wpAny_bind (wpAny_mono (turn n s hI) (fun r s₁ h₁=>?_) fun _ _ h'=>h'.elim)))
 cases r with
 |none=>exact wpAny_pure h₁
 |some v =>
  refine wpAny_bind (wpAny_mono h₁ (fun _ s₁' h₁'=>?_) fun _ _ h'=>h'.elim)
  refine wpAny_bind (wpAny_mono h₁' (fun _ s₂ h₂=>wpAny_bind (wpAny_mono h₂ (fun ok s₃ h₃=>?_) fun _ _ h'=>h'.elim)) fun _ _ h'=>h'.elim)
  cases ok with
  |false=>exact wpAny_pure ⟨rfl,h₃⟩
  |true =>
   exact wpAny_bind (wpAny_bind (wpAny_mono h₃ (fun x s₄ h₄=>wpAny_bind (wpAny_mono h₄ (fun _ s₅ h₅=>wpAny_pure (wpAny_pure ⟨rfl,h₅⟩)) fun _ _ h'=>h'.elim)) fun _ _ h'=>h'.elim))
end
def zcw(X:Cx)(N':List Str)(scope:Scope)(cl:List (Str×Addr))(L:Addr)(s:Shared)(H:Hp)(fp:List Addr):Cx where
 prog:=X.prog
 w:=X.w
 K:=X.K
 mg:=X.mg
 base:=X.base
 A:=X.A
 N:=N'
 s₀:=s
 H₀:=H
 env:=compEnvC scope cl L X.env
 outer:=X.stack
 stack:=X.stack
 ex:=fp
 fn:=fun _=>false
 calm:=X.calm
 pn:=[]
 xe:=fun _ _=>False
def zgm(C:Cn)(n:Nat)(G H:Hp)(w:Wn)(σ:L2.St):Cn:=⟨G,H,w,List.range n,σ,fun _=>False,C.xv,false⟩
def zeK(N N':List Str)(names:List (Str×NameKind))(m:Nat):Bool:=decide (N'.length=N.length+m) && (List.range N.length).all fun i=>match N'[i]? with
 |some x=>match names.lookup x with
  |some .free=>N[i]? == some x
  |some .local=>false
  |some .cell=>false
  |_=>true
 |none=>false
theorem zcr{env:Env}{x:Str}:∀{names:List (Str×NameKind)},(names.map fun (n,k)=>if (k == NameKind.free && env.scope.kind == .function && env.kindOf n == some .cell) then (n,NameKind.cell) else (n,k)).lookup x=(names.lookup x).map fun k=>if (k == NameKind.free && env.scope.kind == .function && env.kindOf x == some .cell)=true then .cell else k
 |[]=>rfl
 | (n,k)::r=>by
  have ih:=zcr (env:=env) (x:=x) (names:=r)
  show List.lookup x ((if (k == NameKind.free && env.scope.kind == .function && env.kindOf n == some .cell)=true then (n,NameKind.cell) else (n,k))::_)=_
  cases hx:x == n with
  |true =>
   have e:=beq_iff_eq.mp hx
   subst e
   simp only[List.lookup_cons,beq_self_eq_true,Option.map_some]
   split <;> simp[List.lookup_cons]
  |false =>
   simp only[List.lookup_cons,hx]
   split
   ·simp only[List.lookup_cons,hx];exact ih
   ·simp only[List.lookup_cons,hx];exact ih
theorem zbh{α β:Type} [BEq α] [LawfulBEq α] {x:α} {b:β}:∀{l:List (α×β)},l.lookup x=some b->(x,b)∈l
 |[],h=>by simp at h
 | (n,k)::r,h=>by
  rw[List.lookup_cons] at h
  cases hx:x == n with
  |true=>rw[hx] at h;simp at h;subst h;rw[beq_iff_eq.mp hx];exact List.mem_cons_self
  |false=>rw[hx] at h;exact List.mem_cons_of_mem _ (zbh h)
theorem zhh{scope:Scope}{env:Env}{x:Str}(h:Vis (relabel scope env) x):scope.names.lookup x=some .local\/scope.names.lookup x=some .cell\/scope.names.lookup x=some .free:=by
 have e:(relabel scope env).names.lookup x=_:=zcr (env:=env) (x:=x) (names:=scope.names)
 unfold Vis at h
 rw[e] at h
 cases q:scope.names.lookup x with
 |none=>rw[q] at h;simp at h
 |some k =>
  rw[q] at h
  cases k <;> simp_all
section
variable{X:Cx}{C:Cn}
theorem zje{pins:List (Addr×Obj)}{σ:L2.St}{H:Hp}{s:Shared}{N':List Str}{scope:Scope}{cl:List (Str×Addr)}{m:Nat}{fp:List Addr}{h₁:Heap}{tk:Nat}{mm:Str->Option Value}(I:L2.Inv X pins σ H s)(hf:∀ b∈fp,zhu X pins H b)(ho:∀ b∈fp,∃ o,s.heap.get? b=some o)
  (hb:zeK X.N N' scope.names m=true) (hkind:scope.kind=.function) (hcell:∀ y∈scope.names,y.2≠.cell) (hfr:∀ y∈scope.names,y.2=.free->X.env.kindOf y.1=some .cell\/X.env.kindOf y.1=some .free)
  (hcl:∀ x c,cl.lookup x=some c->X.env.cells.lookup x=some c) (hcf:∀ y∈scope.names,y.2=.free->∃ c,cl.lookup y.1=some c)
  (hns:h₁.Ns s.heap.objs.size mm) (hk:∀ b o,s.heap.get? b=some o->h₁.get? b=some o) :
  L2.Inv (zcw X N' scope cl s.heap.objs.size s H fp) [] (σ++List.replicate m none) H { s with heap:=h₁,toks:=tk }:=by
 have hb1:N'.length=X.N.length+m:=by
  unfold zeK at hb;rw[Bool.and_eq_true] at hb;exact of_decide_eq_true hb.1
 have hb2:∀ i x,i<X.N.length->N'[i]? = some x->Vis (relabel scope X.env) x->X.N[i]? = some x/\scope.names.lookup x=some .free:=fun i x hi e v=>by
  unfold zeK at hb;rw[Bool.and_eq_true,List.all_eq_true] at hb
  have q:=hb.2 i (List.mem_range.mpr hi)
  simp only[e] at q
  rcases zhh v with z|z|z
  ·simp[z] at q
  ·simp[z] at q
  ·simp[z] at q;exact ⟨q,z⟩
 have cellK:∀ c v,s.heap.IsCell c v->h₁.IsCell c v:=fun c v ⟨o,e1,e2⟩=>⟨o,hk c o e1,e2⟩
 refine ⟨⟨I.ok.mod,hkind,I.ok.glob,I.ok.blt,Nat.le_refl _,fun x y c h1 h2=>I.ok.inj x y c (hcl x c h1) (hcl y c h2),fun x hx=>?_,fun x c h _=>absurd h (by simp[zcw]),I.ok.hd,I.ok.frames,.inl rfl,fun b hb=>⟨?_,fun x c e=>(hf b hb).2.2.2.2.1 x c (hcl x c e)⟩,I.bs,Nat.le_trans I.ok.bsz I.sz,fun b o e hb=>?_,fun b hb z=>?_,I.stack,I.stkFree⟩,
  rfl,I.bare,Un.kept hk,⟨mm,hns,fun i x v e1 e2 e3=>?_⟩,fun x c e=>?_,I.hok.fresh (Nat.le_refl _),fun x c e=>I.freeC x c (hcl x c e),fun p hp=>absurd hp (by simp[zcw]),I.hok.kept hk,?_⟩
 ·
  have e:(relabel scope X.env).names.lookup x=_:=zcr (env:=X.env) (x:=x) (names:=scope.names)
  have hx':Vis (relabel scope X.env) x:=hx.elim (fun z=>.inr (.inl z)) fun z=>.inr (.inr z)
  rcases zhh hx' with z|z|z
  ·rw[z] at e
   have hx2:(relabel scope X.env).names.lookup x=some .cell\/(relabel scope X.env).names.lookup x=some .free:=hx
   rw[e] at hx2;simp at hx2
  ·exact absurd rfl (hcell _ (zbh z))
  ·exact hcf _ (zbh z) rfl
 ·intro z
  obtain ⟨o,e⟩:=ho b hb
  exact absurd (Heap.lt_size e) (by rw[z];exact Nat.lt_irrefl _)
 ·rcases (hf b hb).2.2.2.1 with z|z
  ·exact I.ok.noex b o e z
  ·exact absurd (Nat.lt_of_lt_of_le (Heap.lt_size e) (Nat.le_trans I.ok.bsz z)) (Nat.lt_irrefl _)
 ·rcases List.mem_cons.mp (I.stkSub b z) with z|z
  ·exact (hf b hb).2.1 z
  ·exact (hf b hb).2.2.1 z
 ·have hi:i<X.N.length:=by
   by_cases hi:i<X.N.length
   ·exact hi
   ·rw[List.getElem?_append_right (by rw[I.len];omega),List.getElem?_replicate] at e2
    split at e2 <;> cases e2
  rw[List.getElem?_append_left (by rw[I.len];exact hi)] at e2
  obtain ⟨q1,q2⟩:=hb2 i x hi e1 e3
  have hm:=zbh q2
  obtain ⟨m0,hn0,hl0⟩:=I.loc
  have kc:=hfr _ hm rfl
  obtain ⟨u,ru,lk⟩:=hl0 i x v q1 e2 (kc.elim (fun z=>.inr (.inl z)) fun z=>.inr (.inr z))
  refine ⟨u,ru,.inr ⟨?_,?_⟩⟩
  ·have e:(relabel scope X.env).names.lookup x=_:=zcr (env:=X.env) (x:=x) (names:=scope.names)
   show (relabel scope X.env).names.lookup x=some .cell\/(relabel scope X.env).names.lookup x=some .free
   rw[e,q2]
   simp only[Option.map_some]
   split
   ·exact .inl rfl
   ·exact .inr rfl
  ·obtain ⟨c,hc⟩:=hcf _ hm rfl
   refine ⟨c,hc,?_⟩
   rcases lk with ⟨z,_⟩|⟨_,c',e',ic⟩
   ·rcases kc with y|y <;> (rw[y] at z;cases z)
   ·rw[hcl _ _ hc] at e';cases e'
    exact cellK _ _ ic
 ·obtain ⟨v,ic⟩:=I.cell x c (hcl x c e)
  exact ⟨v,cellK _ _ ic⟩
 ·show _=N'.length
  rw[List.length_append,List.length_replicate,I.len,hb1]
theorem zof{pins:List (Addr×Obj)}{σ σ':L2.St}{H H':Hp}{s s':Shared}{N':List Str}{scope:Scope}{cl:List (Str×Addr)}{fp:List Addr}{L:Addr}{h':Heap}{ps:List (Addr×Obj)}(I:L2.Inv X pins σ H s)(hf:∀ b∈fp,zhu X pins H b)(hL:s.heap.objs.size<=L)
  (J:L2.Inv (zcw X N' scope cl L s H fp) ps σ' H' s') (hs:Heap.SameBut L s'.heap h'):L2.Inv X pins σ H' { s' with heap:=h' }:=by
 have hne:∀ b o,s.heap.get? b=some o->b≠L:=fun b o e z=>by subst z;exact absurd (Nat.lt_of_lt_of_le (Heap.lt_size e) hL) (Nat.lt_irrefl _)
 have hfree:H' L=none:=J.free
 have un:Un (frs X.stack) fp H H' s.heap s'.heap:=J.base
 refine I.call' (s':={ s' with heap:=h' }) (ch:=fp) J.os ⟨fun b o e n h1 h2=>?_,fun b o e n h1 h2=>?_,un.free,fun b o e h2=>?_,un.tups,un.frzs,un.tbls⟩ (fun b o e=>?_) J.bare fun b hb=>⟨(hf b hb).2.2.2.1,(hf b hb).2.1,(hf b hb).2.2.2.2.1,(hf b hb).2.2.2.2.2⟩
 ·exact (hs.2 b (hne b o e)).trans (un.keep b o e n h1 h2)
 ·obtain ⟨sl,q⟩:=un.slot b o e n h1 h2
  exact ⟨sl,(hs.2 b (hne b o e)).trans q⟩
 ·obtain ⟨o',q⟩:=un.there b o e h2
  exact ⟨o',(hs.2 b (hne b o e)).trans q⟩
 ·refine (J.hok b o e).stay (fun c v hc q=>(hs.2 c ?_).trans q) (fun _ q=>q) fun _ _ q=>q
  intro z
  subst z
  rcases hc with z|z
  ·subst z;rw[hfree] at e;cases e
  ·rw[hfree] at z;cases z
end
def zb7(g:DG)(ft:DT)(fe:De):List Dt->Ev->R (List Dt×Ev)
 |[],ρ=>.ok ([],ρ)
 |d::r,ρ=>(g d ρ).bind fun ρ1=>(ft ρ1).bind fun t=>if t.1=true then (fe t.2).bind fun y=>(zb7 g ft fe r y.2).bind fun z=>.ok (y.1::z.1,z.2) else zb7 g ft fe r t.2
def zaH(fi:DA)(g:DG)(ft:DT)(fe:De)(m:Nat):DN:=fun ρ=>(fi ρ).bind fun a=>if zd2 a.1=true then match zb7 g ft fe a.1 (a.2++List.replicate m none) with
  |.ok z=>.ok (z.1,z.2.take a.2.length)
  |_=>.no
 else .no
theorem zcY{α β:Type}{r:R α}{f:α->R β}{b:β}(h:r.bind f=.ok b):∃ a,r=.ok a/\f a=.ok b:=by
 cases r with
 |ok a=>exact ⟨a,rfl,h⟩
 |er n=>cases h
 |no=>cases h
def JTs(X:Cx)(C:Cn)(ifs:List Expr)(ft:DT):Prop :=
 ∀(pins:List (Addr×Obj))(s:Shared)(σ:L2.St)(H:Hp)(Q:Bool->Hp->Prop),L2.Inv X pins σ H s->tT X.K C ft σ H Q ->
  wpAny (model X.prog X.w) X.A (forIn ifs true fun c r=>if r=true then do let ok <- isTrue c X.env (eval c X.env);pure (ForInStep.yield ok) else pure (ForInStep.yield r)) (TP X pins σ Q) X.xe s
def dTT:DT:=fun ρ=>.ok (true,ρ)
abbrev Hce(scope:Scope):Prop:=∀ y∈scope.names,y.2≠.cell
abbrev Hfr(X:Cx)(scope:Scope):Prop:=∀ y∈scope.names,y.2=.free->X.env.kindOf y.1=some .cell\/X.env.kindOf y.1=some .free
abbrev Hnm(scope:Scope):Prop:=∀ y∈scope.names,y.2=.local->scope.names.lookup y.1=some .local
abbrev Hbk(X:Cx)(C:Cn)(N':List Str)(scope:Scope)(tg:Expr)(ifs:List Expr)(elt:Expr)(g:DG)(ft:DT)(fe:De):Prop:=∀ cl L s H fp G H' w σ,JG (zcw X N' scope cl L s H fp) (zgm C X.N.length G H' w σ) tg g/\JTs (zcw X N' scope cl L s H fp) (zgm C X.N.length G H' w σ) ifs ft/\JE (zcw X N' scope cl L s H fp) (zgm C X.N.length G H' w σ) elt fe
abbrev nL(s2:Shared):Heap:=s2.heap.push { cls:=.type "list",dict:=none,data:=.seq ([]:List Value).toArray }
def PTs(X:Cx)(ifs:List Expr)(t:TT):Prop :=
 ∀(pins:List (Addr×Obj))(s:Shared)(σ:L2.St)(H:Hp)(Q:Bool->Hp->Prop),L2.Inv X pins σ H s->t σ H Q ->
  wpAny (model X.prog X.w) X.A (forIn ifs true fun c r=>if r=true then do let ok <- isTrue c X.env (eval c X.env);pure (ForInStep.yield ok) else pure (ForInStep.yield r)) (TP X pins σ Q) X.xe s
section
variable{X:Cx}{C:Cn}
theorem zb9:JTs X C [] dTT:=fun pins s σ H Q I ⟨G,w,ρ,r,p⟩=>wpAny_tests_nil ⟨H,I,p G H w (.refl _ _ _) r⟩
theorem znz{c:Expr}{ft:DT}(h:JT X C c ft):JTs X C [c] ft:=fun pins s σ H Q I t=>wpAny_tests_one (h pins s σ H Q I t)
theorem Rel.upd_new{K:W.Frag}{σ:L2.St}{G H:Hp}{w:Wn}{ρ:Ev}{p:Addr}{o:HO}(r:Rel K C G w ρ σ H)(hg:G p=none)(hw:w p=none)(h0:C.H₀ p=none):Rel K C G w ρ σ (upd H p o):=by
 refine ⟨fun b u e=>?_,r.wg,fun b e=>?_,r.len,fun i b e=>?_,⟨r.en.g,r.en.fr,fun b u e z=>?_,r.en.w,fun b e=>?_⟩,r.pin⟩
 ·rw[zaf (zah e hg)];exact r.gh b u e
 ·by_cases hb:b=p
  ·subst hb;rw[zaj];simp
  ·rw[zaf hb];exact r.wh b e
 ·obtain ⟨v,h1,h2⟩:=r.sl i b e
  refine ⟨v,h1,h2.grow (.refl _) fun a u e1 e2=>⟨?_,e1⟩⟩
  have:a≠p:=fun z=>by subst z;rw[hw] at e1;cases e1
  rw[zaf this];exact e2
 ·rw[zaf (zah e h0)];exact r.en.h b u e z
 ·by_cases hb:b=p
  ·subst hb;exact h0
  ·rw[zaf hb] at e;exact r.en.k b e
theorem zbt.keep{G H G' H':Hp}{w w':Wn}{p:Addr}{o:HO}(s:zbt G H w G' H' w')(hg:G p=none)(hw:w p=none)(hp:H p=some o):G' p=none/\w' p=none/\H' p=some o:=by
 refine ⟨?_,?_,s.h p o hp hw⟩
 ·cases q:G' p with
  |none=>rfl
  |some u =>
   rcases s.fr p u q with z|z|z
   ·exact absurd hg z
   ·rw[hp] at z;cases z
   ·exact absurd hw z
 ·cases q:w' p with
  |none=>rfl
  |some k =>
   rcases s.w p (by rw[q];simp) with z|z
   ·exact absurd hw z
   ·rw[hp] at z;cases z
structure zlR(X:Cx)(pins:List (Addr×Obj))(H:Hp)(L:Addr)(s:Shared):Prop where
 fr:H L=none
 nl:L≠X.env.locals
 nw:L∈X.ex\/X.s₀.heap.objs.size<=L
 nc:∀ x c,X.env.cells.lookup x=some c->c≠L
 np:∀ p∈X.pn++pins,p.1≠L
 ns:∃ m,s.heap.Ns L m
theorem zpx{tg iter elt:Expr}{ifs:List Expr}{scope:Scope}{pos:Pos}{N':List Str}{m n:Nat}{tgt:TG}{tts:TT}{te:TE}(hc:X.calm=true)(hb:zeK X.N N' scope.names m=true)
  (hkind:scope.kind=.function) (hcell:Hce scope) (hfr:Hfr X scope)
  {pins:List (Addr×Obj)} {σ:L2.St} {s2:Shared} {cl:List (Str×Addr)} {RR:Value->Addr->Result->Shared->Prop} {E:Value->Shared->Prop}
  (hblk:∀ L s H fp,L2.Inv X pins σ H s->(∀ b∈fp,zhu X pins H b)->s.heap.objs.size<=L->PG (zcw X N' scope cl L s H fp) tg tgt/\PTs (zcw X N' scope cl L s H fp) ifs tts/\PE (zcw X N' scope cl L s H fp) elt te)
  (hcl:∀ x c,cl.lookup x=some c->X.env.cells.lookup x=some c) (hcf:∀ y∈scope.names,y.2=.free->∃ c,cl.lookup y.1=some c)
  {it:Addr} {fp:List Addr} {tn:Nat->Heap->Prop} {J:It} {H2:Hp} (I2:L2.Inv X pins σ H2 s2) (T:zoA X.prog X.w X.K tg J fp it tn) (st2:tn 0 s2.heap) (f2:∀ b∈fp,zhu X pins H2 b)
  (W:Addr->Nat->L2.St->Hp->List V->Prop) (w0:∀ D,H2 D=none->W D 0 (σ++List.replicate m none) (upd H2 D (.lst [])) [])
  (hstep:∀ D i σ' H' vs,H2 D=none->W D i σ' H' vs->H' D=some (.lst vs)->i<n->J.go i H'/\∀ x H7,J.yld i H' x H7->tgt x σ' H7 fun σ8 H8=>tts σ8 H8 fun b H9=>if b=true then te σ8 H9 fun v H10=>H10 D=some (.lst vs)/\vs.length<sizeLine/\W D (i+1) σ8 (upd H10 D (.lst (vs++[v]))) (vs++[v]) else H9 D=some (.lst vs)/\W D (i+1) σ8 H9 vs)
  (hstop:∀ D σ' H' vs,W D n σ' H' vs->J.stop n H')
  (fin:∀(D L:Addr)(s':Shared)(vs:List V)(σ':L2.St)(H':Hp),L2.Inv X pins σ H' s'->zlR X pins H' L s'->H2 D=none->H' D=some (.lst vs)->σ'.length=X.N.length+m->W D n σ' H' vs->RR (.ref D) L (.ok .next) s') :
  wpAny (model X.prog X.w) X.A (newList []) (fun acc s₃=>wpAny (model X.prog X.w) X.A (newFunctionEnv scope X.env.globals cl [] X.env.qual none .none (some X.env)) (fun cenv s₄ =>
   codeAny (model X.prog X.w) X.A (.compStart (.ListComp elt [⟨tg,iter,ifs,0⟩] scope pos) 0 (.ref it) acc { cenv with scope:=relabel scope X.env }) (RR acc cenv.locals) s₄) E s₃) E s2:=by
 have hD:H2 s2.heap.objs.size=none:=I2.hok.fresh (Nat.le_refl _)
 refine wpAny_newObj_type (wpAny_newFunctionEnv hcell (by intro y hy;simp at hy) (fun h₁ hns₁ hsb₁=>?_) hkind)
 dsimp only at hns₁ hsb₁ ⊢
 have I3:L2.Inv X pins σ (upd H2 s2.heap.objs.size (.lst [])) { s2 with heap:=nL s2 } :=
  I2.laid (t':=s2.toks) (fun b u e=>Heap.get?_push_of_some _ e) (Nat.le_refl _) ⟨Nat.zero_le _,[],0,.nil,Heap.get?_push_size _ rfl⟩
 have hob:∀ b∈fp,∃ o,s2.heap.get? b=some o:=fun b hb=>let ⟨o,e,_⟩:=T.obj 0 _ st2 b hb;⟨o,e⟩
 have hbD:∀ b∈fp,b≠s2.heap.objs.size:=fun b hb z=>by obtain ⟨o,e⟩:=hob b hb;exact absurd (Heap.lt_size e) (by rw[z];exact Nat.lt_irrefl _)
 have f3:∀ b∈fp,zhu X pins (upd H2 s2.heap.objs.size (.lst [])) b:=fun b hb=>⟨by rw[zaf (hbD b hb)];exact (f2 b hb).1,(f2 b hb).2⟩
 have hk3:∀ b o,(nL s2).get? b=some o->h₁.get? b=some o:=fun b o e =>
  (hsb₁.2 b (Nat.ne_of_lt (Heap.lt_size e))).trans (Heap.get?_push_of_some _ e)
 have J4:=zje (N':=N') (scope:=scope) (cl:=cl) (m:=m) (fp:=fp) (tk:=s2.toks+([]:List (Str×Value)).length) I3 f3 (fun b hb=>by obtain ⟨o,e⟩:=hob b hb;exact ⟨o,Heap.get?_push_of_some _ e⟩) hb hkind hcell hfr hcl hcf hns₁ hk3
 have st4:tn 0 h₁:=T.keep _ _ _ st2 fun b hb o e=>hk3 b o (Heap.get?_push_of_some _ e)
 generalize hX':zcw X N' scope cl (nL s2).objs.size { s2 with heap:=nL s2 } (upd H2 s2.heap.objs.size (.lst [])) fp=X' at J4
 have eP:X'.prog=X.prog:=by rw[<- hX'];rfl
 have eW:X'.w=X.w:=by rw[<- hX'];rfl
 have eK:X'.K=X.K:=by rw[<- hX'];rfl
 have eA:X'.A=X.A:=by rw[<- hX'];rfl
 have eC:X'.calm=true:=by rw[<- hX'];exact hc
 have eE:X'.xe=fun _ _=>False:=by rw[<- hX'];rfl
 have ePn:X'.pn=[]:=by rw[<- hX'];rfl
 have eN:X'.N.length=X.N.length+m:=by
  rw[<- hX'];show N'.length=_
  unfold zeK at hb;rw[Bool.and_eq_true] at hb;exact of_decide_eq_true hb.1
 have eEx:X'.ex=fp:=by rw[<- hX'];rfl
 have hlenσ:σ.length=X.N.length:=I2.len
 obtain ⟨hg,hts,he⟩:=hblk (nL s2).objs.size { s2 with heap:=nL s2 } (upd H2 s2.heap.objs.size (.lst [])) fp I3 f3 (Nat.le_refl _)
 rw[hX'] at hg hts he
 have stat:∀{H':Hp},(∀ b∈fp,H' b=none)->∀ b∈fp,zhu X' [] H' b:=fun hn b hb=>by
  have q:=J4.ok.exf b (by rw[eEx];exact hb)
  exact ⟨hn b hb,q.1,J4.ok.exfs b (by rw[eEx];exact hb),.inl (by rw[eEx];exact hb),q.2,fun p hp=>by rw[ePn] at hp;simp at hp⟩
 have loop:∀ s₃:Shared,s₃={ s2 with heap:=h₁,toks:=s2.toks+([]:List (Str×Value)).length } ->
   codeAny (model X.prog X.w) X.A (.compLoop (.ListComp elt [⟨tg,iter,ifs,0⟩] scope pos) 0 (.ref it) (.ref s2.heap.objs.size) X'.env) (RR (.ref s2.heap.objs.size) (nL s2).objs.size) s₃:=by
  rintro s₃ rfl
  refine zfZ (fun k s'=>∃ i σ' H' vs,L2.Inv X' [] σ' H' s'/\tn i s'.heap/\(∀ b∈fp,H' b=none)/\k=n-i/\i<=n/\H' s2.heap.objs.size=some (.lst vs)/\W s2.heap.objs.size i σ' H' vs) ?_ n
   ⟨0,σ++List.replicate m none,_,[],J4,st4,fun b hb=>(f3 b hb).1,by simp,Nat.zero_le _,zaj,w0 _ hD⟩
  rintro k s' ⟨i,σ',H',vs,J5,st5,fr5,rfl,hil,hd5,q5⟩
  by_cases hlt:i<n
  ·obtain ⟨go,yl⟩:=hstep _ i σ' H' vs hD q5 hd5 hlt
   have hIt:=T.item X' eP eW eK eC i [] s' σ' H' (fun _ _=>False) J5 (stat fr5) st5 go
   rw[eA] at hIt
   refine thn hIt fun rr s6 ⟨u,hr,h6⟩=>?_
   subst hr
   refine thn h6 fun _ s7 ⟨x,H7,J7,rx7,y7,st7,fr7⟩=>?_
   have q7:=yl x H7 y7
   have J7':=J7.pinned (stat fr7) (T.obj _ _ st7)
   have hG:=hg ([]++zde fp s7.heap) s7 σ' H7 x u _ J7' rx7 q7
   rw[eP,eW,eA,eE] at hG
   refine thn hG fun _ s8 ⟨σ8,H8,J8,q8⟩=>?_
   have hT:=hts ([]++zde fp s7.heap) s8 σ8 H8 _ J8 q8
   rw[eP,eW,eA,eE] at hT
   refine thn hT fun ok s9 ⟨H9,J9,q9⟩=>?_
   have after:∀{σa:L2.St}{Ha:Hp}{sa:Shared},L2.Inv X' ([]++zde fp s7.heap) σa Ha sa->tn (i+1) sa.heap/\∀ b∈fp,Ha b=none:=fun {σa Ha sa} Ja =>
    ⟨T.keep _ _ _ st7 fun b hb o e=>(Ja.pin (b,o) (List.mem_append_right _ (List.mem_append_right _ (zcG hb e)))).1,fun b hb=>by
     obtain ⟨o,e,_⟩:=T.obj _ _ st7 b hb
     exact (Ja.pin (b,o) (List.mem_append_right _ (List.mem_append_right _ (zcG hb e)))).2.1⟩
   cases ok with
   |false =>
    rw[if_neg Bool.false_ne_true]
    rw[if_neg Bool.false_ne_true] at q9
    obtain ⟨k1,k2⟩:=after J9
    exact ⟨n-(i+1),by omega,i+1,σ8,H9,vs,J9.unpinned,k1,k2,rfl,hlt,q9.1,q9.2⟩
   |true =>
    rw[if_pos rfl]
    rw[if_pos rfl] at q9
    have hEl:=he ([]++zde fp s7.heap) s9 σ8 H9 _ J9 q9
    rw[eP,eW,eA,eE] at hEl
    refine thn hEl fun xv s10 ⟨vy,H10,J10,ry,q10⟩=>?_
    have hAp:=zd1 (X:=X') ([]++zde fp s7.heap) s10 σ8 H10 (.ref s2.heap.objs.size) [vy] (.ref s2.heap.objs.size) [xv] (fun v H11=>H11=upd H10 s2.heap.objs.size (.lst (vs++[vy]))) J10 rfl (.cons ry .nil)
     ⟨s2.heap.objs.size,vs,vy,rfl,rfl,q10.1,q10.2.1,rfl⟩
    rw[eP,eW,eA,eE] at hAp
    refine thn hAp fun _ s11 ⟨v11,H11,J11,_,e11⟩=>?_
    subst e11
    obtain ⟨k1,k2⟩:=after J11
    exact ⟨n-(i+1),by omega,i+1,σ8,_,vs++[vy],J11.unpinned,k1,k2,rfl,hlt,zaj,q10.2.2⟩
  ·have e:i=n:=by omega
   subst e
   have hDn:=T.done X' eP eW eK eC i [] s' σ' H' (fun _ _=>False) J5 (stat fr5) st5 (hstop _ _ _ _ q5)
   rw[eA] at hDn
   refine thn hDn fun rr s6 ⟨hr,J6⟩=>?_
   subst hr
   have hl6:σ'.length=X.N.length+m:=by rw[J6.len,eN]
   obtain ⟨m6,hn6,_⟩:=id J6.loc
   have eL:X'.env.locals=(nL s2).objs.size:=by rw[<- hX'];rfl
   rw[eL] at hn6
   have frL:H' (nL s2).objs.size=none:=by rw[<- eL];exact J6.free
   rw[<- hX'] at J6
   have IX:L2.Inv X pins σ H' s6:=zof (h':=s6.heap) I3 f3 (Nat.le_refl _) J6 ⟨rfl,fun _ _=>rfl⟩
   have hLs:∀ b o,(nL s2).get? b=some o->(nL s2).objs.size≠b:=fun b o e z=>absurd (Heap.lt_size e) (by rw[z];exact Nat.lt_irrefl _)
   have lo:zlR X pins H' (nL s2).objs.size s6:=by
    refine ⟨frL,fun z=>?_,.inr I3.sz,fun x c e z=>?_,fun p hp z=>?_,m6,hn6⟩
    ·exact absurd I3.lt (by rw[<- z];exact Nat.lt_irrefl _)
    ·obtain ⟨v,q⟩:=I3.cell x c e
     exact absurd q.lt (by rw[z];exact Nat.lt_irrefl _)
    ·exact hLs p.1 p.2 (I3.pin p hp).1 z.symm
   exact fin _ _ s6 vs σ' H' IX lo hD hd5 hl6 q5
 have envEq:X'.env=compEnvC scope cl (nL s2).objs.size X.env:=by rw[<- hX'];rfl
 rw[envEq] at loop
 exact codeAny_compStart_list (loop _ rfl) (T.self X.A 0 _ _ _ st4 (loop _ rfl))
theorem zpX{tg iter elt:Expr}{ifs:List Expr}{scope:Scope}{pos:Pos}{N':List Str}{m:Nat}{g:DG}{ft:DT}{fe:De}(hc:X.calm=true)(hb:zeK X.N N' scope.names m=true)
  (hkind:scope.kind=.function) (hcell:Hce scope) (hfr:Hfr X scope)
  (hblk:Hbk X C N' scope tg ifs elt g ft fe)
  {pins:List (Addr×Obj)} {σ:L2.St} {s2:Shared} {cl:List (Str×Addr)} {RR:Value->Addr->Result->Shared->Prop} {E:Value->Shared->Prop}
  (hcl:∀ x c,cl.lookup x=some c->X.env.cells.lookup x=some c) (hcf:∀ y∈scope.names,y.2=.free->∃ c,cl.lookup y.1=some c)
  {it:Addr} {fp:List Addr} {tn:Nat->Heap->Prop} {J:It} {H2:Hp} (I2:L2.Inv X pins σ H2 s2) (T:zoA X.prog X.w X.K tg J fp it tn) (st2:tn 0 s2.heap) (f2:∀ b∈fp,zhu X pins H2 b)
  {ds zs:List Dt} {ρ1 ρf:Ev} {G1:Hp} {w1:Wn} (r1:Rel X.K C G1 w1 ρ1 σ H2) (Ko:Ev->Prop) (k0:Ko (ρ1++List.replicate m none)) (hko:∀ d ρ ρ3 b ρ4,Ko ρ->g d ρ=.ok ρ3->ft ρ3=.ok (b,ρ4)->Ko ρ4/\∀ y ρ5,fe ρ4=.ok (y,ρ5)->Ko ρ5)
  (it1:∀ i ρ' G' w' σ' H',Rel X.K (zgm C X.N.length G1 H2 w1 (σ++List.replicate m none)) G' w' ρ' σ' H'->Ko ρ'->(∀ d,ds[i]? = some d->J.go i H'/\∀ x H7,J.yld i H' x H7->∃ G7,zea G' H' G7 H7/\Rep X.K G7 d x)/\(ds.length<=i->J.stop i H')) (hfi:zd2 ds=true) (ec:zb7 g ft fe ds (ρ1++List.replicate m none)=.ok (zs,ρf))
  (fin:∀(D L:Addr)(s':Shared)(vs:List V)(G' H':Hp)(w':Wn),L2.Inv X pins σ H' s'->zlR X pins H' L s'->zbt G1 H2 w1 G' H' w'->Rel X.K C G' w' (ρf.take ρ1.length) σ H'->H2 D=none->H' D=some (.lst vs)->G' D=none->w' D=none->za2 X.K G' zs vs->RR (.ref D) L (.ok .next) s') :
  wpAny (model X.prog X.w) X.A (newList []) (fun acc s₃=>wpAny (model X.prog X.w) X.A (newFunctionEnv scope X.env.globals cl [] X.env.qual none .none (some X.env)) (fun cenv s₄ =>
   codeAny (model X.prog X.w) X.A (.compStart (.ListComp elt [⟨tg,iter,ifs,0⟩] scope pos) 0 (.ref it) acc { cenv with scope:=relabel scope X.env }) (RR acc cenv.locals) s₄) E s₃) E s2:=by
 generalize hC':zgm C X.N.length G1 H2 w1 (σ++List.replicate m none)=C' at it1
 have c0:C'.H₀=H2:=by rw[<- hC'];rfl
 have hlenσ:σ.length=X.N.length:=I2.len
 refine zpx (iter:=iter) (pos:=pos) (n:=ds.length) (tgt:=tG X.K C' g) (tts:=tT X.K C' ft) (te:=tE X.K C' fe) hc hb hkind hcell hfr (fun L s H fp _ _ _=>by
  obtain ⟨a1,a2,a3⟩:=hblk cl L s H fp G1 H2 w1 (σ++List.replicate m none)
  rw[hC'] at a1 a2 a3
  exact ⟨a1,a2,a3⟩) hcl hcf I2 T st2 f2
  (fun D i σ' H' vs=>∃ ρ' G' w' ac,Rel X.K C' G' w' ρ' σ' H'/\G' D=none/\w' D=none/\za2 X.K G' ac vs/\ac.length<=i/\Ko ρ'/\∃ z,zb7 g ft fe (ds.drop i) ρ'=.ok z/\ac++z.1=zs/\z.2 = ρf) (fun D hD=>?_) (fun D i σ' H' vs hD ⟨ρ',G',w',ac,r5,gd5,wd5,q5,hac,ko,z,ez,ez1,ez2⟩ hd5 hlt=>?_) (fun D σ' H' vs ⟨ρ',G',w',ac,r5,_,_,_,_,ko,_⟩=>(it1 _ _ _ _ _ _ r5 ko).2 (Nat.le_refl _)) fun D L s' vs σ' H' IX lo hD hd5 hl6 ⟨ρ',G',w',ac,r5,gd5,wd5,q5,hac,_,z,ez,ez1,ez2⟩=>?_
 ·have w0:w1 D=none:=by
   cases q:w1 D with
   |none=>rfl
   |some k=>exact absurd hD (r1.wh _ (by rw[q];simp))
  have base:Rel X.K C' G1 w1 (ρ1++List.replicate m none) (σ++List.replicate m none) H2:=by
   refine ⟨r1.gh,r1.wg,r1.wh,by simp[r1.len],fun i b e=>?_,by rw[<- hC'];exact .refl _ _ _,fun i _=>by rw[<- hC'];rfl⟩
   have hi':i < ρ1.length:=by
    by_cases hi':i < ρ1.length
    ·exact hi'
    ·rw[List.getElem?_append_right (by omega),List.getElem?_replicate] at e
     split at e <;> cases e
   rw[List.getElem?_append_left hi'] at e
   obtain ⟨v,h1,h2⟩:=r1.sl i b e
   exact ⟨v,by rw[List.getElem?_append_left (by rw[<- r1.len];exact hi')];exact h1,h2⟩
  exact ⟨ρ1++List.replicate m none,G1,w1,[],base.upd_new (r1.gh.free hD) w0 (by rw[c0];exact hD),r1.gh.free hD,w0,za2.nil,Nat.zero_le _,k0,(zs,ρf),by simpa using ec,by simp,rfl⟩
 ·have ed:ds.drop i=ds[i]::ds.drop (i+1):=List.drop_eq_getElem_cons hlt
  obtain ⟨go,yl⟩:=(it1 i _ _ _ _ _ r5 ko).1 ds[i] (by simp[hlt])
  refine ⟨go,fun x H7 y7=>?_⟩
  obtain ⟨G7,gr,rep7⟩:=yl x H7 y7
  have keep7:=(gr.step (w:=w')).keep gd5 wd5 hd5
  rw[ed] at ez
  unfold zb7 at ez
  obtain ⟨ρ3,e3,ez⟩:=zcY ez
  obtain ⟨t4,e4,ez⟩:=zcY ez
  obtain ⟨b4,ρ4⟩:=t4
  obtain ⟨ko4,ko5⟩:=hko _ _ _ _ _ ko e3 e4
  refine ⟨G7,w',ρ',ds[i],r5.grow gr,rep7,?_⟩
  rw[e3]
  intro σ8 G8 H8 w8 s8s r8
  have keep8:=s8s.keep keep7.1 keep7.2.1 keep7.2.2
  refine ⟨G8,w8,ρ3,r8,?_⟩
  rw[e4]
  intro G9 H9 w9 s9s r9
  have keep9:=s9s.keep keep8.1 keep8.2.1 keep8.2.2
  have sg9:=(gr.g.trans s8s.g).trans s9s.g
  cases b4 with
  |false =>
   show (if false=true then _ else _)
   rw[if_neg Bool.false_ne_true]
   simp only[Bool.false_eq_true,if_false] at ez
   exact ⟨keep9.2.2,ρ4,G9,w9,ac,r9,keep9.1,keep9.2.1,q5.same sg9,by omega,ko4,z,ez,ez1,ez2⟩
  |true =>
   show (if true=true then _ else _)
   rw[if_pos rfl]
   simp only[if_true] at ez
   obtain ⟨⟨yd,ρ10⟩,e10,ez⟩:=zcY ez
   obtain ⟨z',ez',ez3⟩:=zcY ez
   refine ⟨G9,w9,ρ4,r9,?_⟩
   rw[e10]
   intro v G10 H10 w10 s10s r10 q10
   have keep10:=s10s.keep keep9.1 keep9.2.1 keep9.2.2
   cases ez3
   refine ⟨keep10.2.2,?_,ρ10,G10,w10,ac++[yd],r10.upd_new keep10.1 keep10.2.1 (by rw[c0];exact hD),keep10.1,keep10.2.1,(q5.same (sg9.trans s10s.g)).append (za2.cons q10 za2.nil),by simp;omega,ko5 _ _ e10,z',ez',by rw[<- ez1];simp,ez2⟩
   have:=q5.length
   have:=zgG hfi
   omega
 ·simp only[List.drop_length] at ez
  unfold zb7 at ez
  cases ez
  simp only[List.append_nil] at ez1
  subst ez1
  subst ez2
  have cG:C'.G₀=G1:=by rw[<- hC'];rfl
  have cw:C'.w₀=w1:=by rw[<- hC'];rfl
  have en':zbt G1 H2 w1 G' H' w':=by have:=r5.en;rw[cG,c0,cw] at this;exact this
  have hρlen:ρ'.length=X.N.length+m:=by rw[r5.len,hl6]
  refine fin _ _ s' vs G' H' w' IX lo en' ⟨r5.gh,r5.wg,r5.wh,?_,fun i b e=>?_,r1.en.trans en',r1.pin⟩ hD hd5 gd5 wd5 q5
  ·rw[List.length_take,hρlen,r1.len,hlenσ];omega
  ·have hi':i < ρ1.length:=by
    by_cases hi':i < ρ1.length
    ·exact hi'
    ·rw[List.getElem?_eq_none (by rw[List.length_take];omega)] at e;cases e
   rw[List.getElem?_take_of_lt hi'] at e
   obtain ⟨v,h1,h2⟩:=r5.sl i b e
   refine ⟨v,?_,h2⟩
   have hpi:=r5.pin i (by rw[<- hC'];exact List.mem_range.mpr (by rw[<- hlenσ,<- r1.len];exact hi'))
   rw[h1] at hpi
   rw[<- hC'] at hpi
   have hpi':some (some v)=(σ++List.replicate m none)[i]? := hpi
   rw[List.getElem?_append_left (by rw[<- r1.len];exact hi')] at hpi'
   exact hpi'.symm
theorem zja{tg iter elt:Expr}{ifs:List Expr}{scope:Scope}{pos:Pos}{N':List Str}{m:Nat}{g:DG}{ft:DT}{fe:De}(hc:X.calm=true)(hb:zeK X.N N' scope.names m=true)
  (hkind:scope.kind=.function) (hcell:Hce scope) (hfr:Hfr X scope)
  (hblk:Hbk X C N' scope tg ifs elt g ft fe)
  {pins:List (Addr×Obj)} {σ:L2.St} {s2:Shared} {cl:List (Str×Addr)} {RR:Value->Addr->Result->Shared->Prop} {E:Value->Shared->Prop}
  (hcl:∀ x c,cl.lookup x=some c->X.env.cells.lookup x=some c) (hcf:∀ y∈scope.names,y.2=.free->∃ c,cl.lookup y.1=some c)
  {it:Addr} {fp:List Addr} {tn:Nat->Heap->Prop} {J:It} {H2:Hp} (I2:L2.Inv X pins σ H2 s2) (T:zoA X.prog X.w X.K tg J fp it tn) (st2:tn 0 s2.heap) (f2:∀ b∈fp,zhu X pins H2 b)
  {ds zs:List Dt} {ρ1 ρf:Ev} {G1:Hp} {w1:Wn} (r1:Rel X.K C G1 w1 ρ1 σ H2) (it1:zlP X.K J G1 ds) (hfi:zd2 ds=true) (ec:zb7 g ft fe ds (ρ1++List.replicate m none)=.ok (zs,ρf))
  (fin:∀(D L:Addr)(s':Shared)(vs:List V)(G' H':Hp)(w':Wn),L2.Inv X pins σ H' s'->zlR X pins H' L s'->zbt G1 H2 w1 G' H' w'->Rel X.K C G' w' (ρf.take ρ1.length) σ H'->H2 D=none->H' D=some (.lst vs)->G' D=none->w' D=none->za2 X.K G' zs vs->RR (.ref D) L (.ok .next) s') :
  wpAny (model X.prog X.w) X.A (newList []) (fun acc s₃=>wpAny (model X.prog X.w) X.A (newFunctionEnv scope X.env.globals cl [] X.env.qual none .none (some X.env)) (fun cenv s₄ =>
   codeAny (model X.prog X.w) X.A (.compStart (.ListComp elt [⟨tg,iter,ifs,0⟩] scope pos) 0 (.ref it) acc { cenv with scope:=relabel scope X.env }) (RR acc cenv.locals) s₄) E s₃) E s2 :=
 zpX hc hb hkind hcell hfr hblk hcl hcf I2 T st2 f2 r1 (fun _=>True) trivial (fun _ _ _ _ _ _ _ _=>⟨trivial,fun _ _ _=>trivial⟩) (fun i ρ' G' w' σ' H' r _=>it1 i G' H' r.en.g r.gh) hfi ec fin
theorem zce{tg iter elt:Expr}{ifs:List Expr}{scope:Scope}{pos:Pos}{N':List Str}{m:Nat}{fi:DA}{g:DG}{ft:DT}{fe:De}(hi:JI X C tg iter fi)(hc:X.calm=true)(hb:zeK X.N N' scope.names m=true)
  (hkind:scope.kind=.function) (hcell:Hce scope) (hfr:Hfr X scope) (hnames:Hnm scope)
  (hblk:Hbk X C N' scope tg ifs elt g ft fe)
  (hs:∀ x,foldedSetIterable iter X.env x=pure x:=by intro _;rfl):JN X C (.ListComp elt [⟨tg,iter,ifs,0⟩] scope pos) (zaH fi g ft fe m):=by
 intro pins s σ H Q I ⟨G,w,ρ,r,p⟩
 rw[eval_ListComp]
 obtain ⟨cl,hclos,hcl,hcf⟩:=zez (scope:=scope) (env:=X.env) fun y hy hf=>I.ok.has y.1 (hfr y hy hf)
 refine wpAny_comprehension_free (use:=none) rfl hs hclos hkind hnames ?_
 refine thn (hi pins s σ H (fun J H2=>∃ ds ρ1 G1 w1 zs ρf,Rel X.K C G1 w1 ρ1 σ H2/\zlP X.K J G1 ds/\zd2 ds=true/\zb7 g ft fe ds (ρ1++List.replicate m none)=.ok (zs,ρf)/\kN X.K C σ Q G1 H2 w1 (zs,ρf.take ρ1.length)) I ?_) fun v s1 h1=>thn h1 fun itv s2 h2=>?_
 ·refine ztS (κ:=fun G H w=>kN X.K C σ Q G H w) zfL r p fun ds ρ1 J G1 H1 w1 r1 st1 it1 p1=>?_
  dsimp only at p1
  split at p1
  ·rename_i hfi
   split at p1
   ·rename_i z ez
    exact ⟨ds,ρ1,G1,w1,z.1,z.2,r1,it1,hfi,ez,p1⟩
   ·exact p1.elim
  ·exact p1.elim
 obtain ⟨it,fp,tn,J,H2,rfl,I2,T,st2,f2,ds,ρ1,G1,w1,zs,ρf,r1,it1,hfi,ec,kk⟩:=h2
 refine zja (RR:=fun acc C=>compPost (model X.prog X.w) X.A X.xe none (EP X pins σ Q) acc C) hc hb hkind hcell hfr hblk hcl hcf I2 T st2 f2 r1 it1 hfi ec fun D L s' vs G' H' w' I' lo st rel h0 h1 h2 h3 q=>?_
 obtain ⟨mm,hn⟩:=lo.ns
 refine ⟨mm,hn,fun h' hsb=>⟨.ref D,H',?_,rfl,kk D vs G' H' w' st rel h0 h1 h2 h3 q⟩⟩
 exact I'.turned (t':=s'.toks) (fun b o hb e=>(hsb.2 b hb).trans e) lo.fr lo.nl lo.nw lo.nc lo.np
theorem zlj{tg iter elt:Expr}{ifs:List Expr}{scope:Scope}{pos spos:Pos}{N':List Str}{m i:Nat}{x:Str}{px:Pos}{fi:DA}{g:DG}{ft:DT}{fe:De}{fs:List Dt×Ev->R (Fl×Ev)}(hi:JI X C tg iter fi)(hc:X.calm=true)(hb:zeK X.N N' scope.names m=true)
  (hkind:scope.kind=.function) (hcell:Hce scope) (hfr:Hfr X scope) (hnames:Hnm scope)
  (hblk:Hbk X C N' scope tg ifs elt g ft fe)
  (hN:X.N.Nodup) (hix:X.N[i]? = some x) (hx:Loc X.env.scope x) (hsw:swapsWith (.ListComp elt [⟨tg,iter,ifs,0⟩] scope pos) (some (.Name x px)) spos.line X.env=pure true) (hf:X.fn x=true\/X.env.scope.names.lookup x=some .local)
  (hfs:∀(D:zqg)(G1 H2 G' H':Hp)(w1 w':Wn)(σ:L2.St)(p:Addr)(zs:List Dt)(vs:List V)(ρf:Ev),zc0 C.ex (kS X.K C D G1 H2 w1) (fs (zs,ρf))->zbt G1 H2 w1 G' H' w'->Rel X.K C G' w' ρf σ H'->H2 p=none->H' p=some (.lst vs)->G' p=none->w' p=none->za2 X.K G' zs vs->C.H₀ p=none->D.nx (σ.set i (some (.ref p))) H')
  (hs:∀ x,foldedSetIterable iter X.env x=pure x:=by intro _;rfl):JS X C (.Assign [.Name x px] (.ListComp elt [⟨tg,iter,ifs,0⟩] scope pos) spos) (fun ρ=>(zaH fi g ft fe m ρ).bind fs):=by
 intro pins s σ H D I ⟨G,w,ρ,r,p⟩
 obtain ⟨cl,hclos,hcl,hcf⟩:=zez (scope:=scope) (env:=X.env) fun y hy hf=>I.ok.has y.1 (hfr y hy hf)
 rw[exec_Assign_Name_used _ _ _ _ hsw]
 refine wpAny_bind (wpAny_standAt (wpAny_bind ?_))
 show wpAny _ X.A (do let _ <- comprehension (.ListComp elt [⟨tg,iter,ifs,0⟩] scope pos) scope X.env _ (newList []) false (eval iter X.env) (some (assign (.Name x px) X.env))) _ _ s
 refine wpAny_bind (wpAny_mono (wpAny_comprehension_free (use:=some (assign (.Name x px) X.env)) (Q:=fun _ s'=>SP X pins D .next s') rfl hs hclos hkind hnames ?_) (fun _ s' hq=>wpAny_pure (wpAny_pure hq)) fun _ _ e=>e)
 refine thn (hi pins s σ H (fun J H2=>∃ ds ρ1 G1 w1 zs ρf,Rel X.K C G1 w1 ρ1 σ H2/\zlP X.K J G1 ds/\zd2 ds=true/\zb7 g ft fe ds (ρ1++List.replicate m none)=.ok (zs,ρf)/\zc0 C.ex (kS X.K C D G1 H2 w1) (fs (zs,ρf.take ρ1.length))) I ?_) fun v s1 h1=>thn h1 fun itv s2 h2=>?_
 ·have p':zc0 C.ex (kS X.K C D G H w) ((fi ρ).bind fun a=>((if zd2 a.1=true then match zb7 g ft fe a.1 (a.2++List.replicate m none) with
   |.ok z=>.ok (z.1,z.2.take a.2.length)
   |_=>.no
   else .no:R (List Dt×Ev))).bind fs):=by
   rw[<- R.bind_assoc]
   exact p
  refine ztS (κ:=fun G H w=>kS X.K C D G H w) zeg r p' fun ds ρ1 J G1 H1 w1 r1 st1 it1 p1=>?_
  dsimp only at p1
  split at p1
  ·rename_i hfi
   split at p1
   ·rename_i z ez
    exact ⟨ds,ρ1,G1,w1,z.1,z.2,r1,it1,hfi,ez,p1⟩
   ·exact False.elim p1
  ·exact False.elim p1
 obtain ⟨it,fp,tn,J,H2,rfl,I2,T,st2,f2,ds,ρ1,G1,w1,zs,ρf,r1,it1,hfi,ec,kk⟩:=h2
 refine zja (RR:=fun acc C=>compPost (model X.prog X.w) X.A X.xe (some (assign (.Name x px) X.env)) (fun _ s'=>SP X pins D .next s') acc C) hc hb hkind hcell hfr hblk hcl hcf I2 T st2 f2 r1 it1 hfi ec fun Da L s' vs G' H' w' I' lo st rel h0 h1 h2 h3 q=>?_
 show wpAny _ X.A (assign (.Name x px) X.env (.ref Da)) _ _ _
 refine wpAny_assign_Name (zhr I' hN hix hx (v:=.ref Da) rfl (fun s'' I'' hch=>?_) hf)
 obtain ⟨mm,hn⟩:=lo.ns
 obtain ⟨a,sb,ha⟩:=hch
 have hLa:L≠a:=by
  rcases ha with z|z
  ·rw[z];exact lo.nl
  ·exact fun y=>lo.nc x a z y.symm
 refine ⟨mm,hn.sameBut sb hLa,fun h' hsb=>⟨σ.set i (some (.ref Da)),H',?_,hfs D G1 H2 G' H' w1 w' σ Da zs vs _ kk st rel h0 h1 h2 h3 q (r1.en.k Da h0)⟩⟩
 exact I''.turned (t':=s''.toks) (fun b o hb e=>(hsb.2 b hb).trans e) lo.fr lo.nl lo.nw lo.nc lo.np
theorem zhP{tg iter elt:Expr}{ifs:List Expr}{scope:Scope}{pos spos:Pos}{N':List Str}{m i:Nat}{x:Str}{px:Pos}{fi:DA}{g:DG}{ft:DT}{fe:De}(hN:X.N.Nodup)(hix:X.N[i]? = some x)(hx:Loc X.env.scope x)(hp:i∉C.pp)(hi:JI X C tg iter fi)(hc:X.calm=true)(hb:zeK X.N N' scope.names m=true)
  (hkind:scope.kind=.function) (hcell:Hce scope) (hfr:Hfr X scope) (hnames:Hnm scope)
  (hblk:Hbk X C N' scope tg ifs elt g ft fe)
  (hsw:swapsWith (.ListComp elt [⟨tg,iter,ifs,0⟩] scope pos) (some (.Name x px)) spos.line X.env=pure true:=by rfl) (hf:X.fn x=true\/X.env.scope.names.lookup x=some .local:=by first|exact .inl rfl|exact .inr rfl|assumption)
  (hs:∀ x,foldedSetIterable iter X.env x=pure x:=by intro _;rfl):JS X C (.Assign [.Name x px] (.ListComp elt [⟨tg,iter,ifs,0⟩] scope pos) spos) (zb6 i (dFz (zaH fi g ft fe m))):=by
 have h:=zlj (fs:=fun a=>if i<a.2.length then .ok (.nx,a.2.set i (some (.val (.lst a.1)))) else .no) hi hc hb hkind hcell hfr hnames hblk hN hix hx hsw hf (fun D G1 H2 G' H' w1 w' σ p zs vs ρf po st rel h0 h1 h2 h3 q h4=>?_) hs
 ·refine PS.weak h fun D σ H t=>?_
  obtain ⟨G,w,ρ,r,p⟩:=t
  refine ⟨G,w,ρ,r,?_⟩
  unfold zb6 dFz at p
  rw[R.bind_assoc] at p
  exact p
 ·by_cases hl:i < ρf.length
  ·simp only[hl,if_true] at po
   obtain ⟨r',s'⟩:=rel.know h1 h2 h3 H2 G1 w1 st h0 (.inl h4)
   have sg:zcf G' (upd G' p (.lst vs)):=fun b u e=>by rw[zaf (zah e h2)];exact e
   exact po _ _ _ _ s' (r'.setVal hl hp (by unfold Rep;exact ⟨p,vs,rfl,zaj,q.same sg⟩))
  ·simp only[hl,if_false] at po;exact False.elim po
theorem zhn{tg iter elt:Expr}{ifs:List Expr}{scope:Scope}{pos spos:Pos}{N':List Str}{m i:Nat}{x:Str}{px:Pos}{fi:DA}{g:DG}{ft:DT}{fe:De}(hN:X.N.Nodup)(hix:X.N[i]? = some x)(hx:Loc X.env.scope x)(hp:i∉C.pp)(hi:JI X C tg iter fi)(hc:X.calm=true)(hb:zeK X.N N' scope.names m=true)
  (hkind:scope.kind=.function) (hcell:Hce scope) (hfr:Hfr X scope) (hnames:Hnm scope)
  (hblk:Hbk X C N' scope tg ifs elt g ft fe)
  (hsw:swapsWith (.ListComp elt [⟨tg,iter,ifs,0⟩] scope pos) (some (.Name x px)) spos.line X.env=pure true:=by rfl) (hf:X.fn x=true\/X.env.scope.names.lookup x=some .local:=by first|exact .inl rfl|exact .inr rfl|assumption)
  (hs:∀ x,foldedSetIterable iter X.env x=pure x:=by intro _;rfl):JS X C (.Assign [.Name x px] (.ListComp elt [⟨tg,iter,ifs,0⟩] scope pos) spos) (zbO i (zaH fi g ft fe m)):=by
 refine zlj (fs:=fun a=>if i<a.2.length then .ok (.nx,a.2.set i (some (.own a.1))) else .no) hi hc hb hkind hcell hfr hnames hblk hN hix hx hsw hf (fun D G1 H2 G' H' w1 w' σ p zs vs ρf po st rel h0 h1 h2 h3 q h4=>?_) hs
 by_cases hl:i < ρf.length
 ·simp only[hl,if_true] at po
  obtain ⟨r',s'⟩:=rel.setOwn hl hp h1 h2 h3 q st h0 h4
  exact po _ _ _ _ s' r'
 ·simp only[hl,if_false] at po;exact False.elim po
end
section
variable{X:Cx}{C:Cn}{a b c e:Expr}{fa fb fc:De}{pos:Pos}
theorem zmn{r r':R2}{g g':Dt->Dt->R Dt}{σ:L2.St}{H:Hp}{Q:VK}(h2:Op2 X.K r g)(he:zh4 g)(h2':Op2 X.K r' g')(he':zh4 g')(h:tE X.K C (zjN g g' fa fb fc) σ H Q):zqd r r' (tE X.K C fa) (tE X.K C fb) (tE X.K C fc) σ H Q:=by
 obtain ⟨G,w,ρ,rr,p⟩:=h
 refine zd7 (κ:=fun G H w=>kE X.K C σ Q G H w) zbG rr p fun d ρ1 v G1 H1 w1 r1 s1 q1 p1=>?_
 refine zd7 (κ:=fun G H w=>kE X.K C σ Q G H w) zbG r1 p1 fun d2 ρ2 v2 G2 H2 w2 r2 s2 q2 p2=>?_
 dsimp only at p2
 cases e:g d d2 with
 |ok z =>
  simp only[e,R.bind_ok] at p2
  refine h2 G2 H2 v v2 d d2 z _ r2.gh (q1.same s2.g) q2 e fun v3 G3 H3 gr q3=>?_
  have p3:=zc0.step (κ:=fun G H w=>kE X.K C σ Q G H w) zbG gr.step (w1:=w2) p2
  have r3:=r2.grow gr
  cases z with
  |bl k =>
   refine ⟨k,zdY q3,?_⟩
   cases k with
   |false=>exact iteF (p3 _ G3 H3 w2 (.refl _ _ _) r3 (zbH _))
   |true =>
    refine iteT ?_
    refine zd7 (κ:=fun G H w=>kE X.K C σ Q G H w) zbG r3 p3 fun d4 ρ4 v4 G4 H4 w4 r4 s4 q4 p4=>?_
    dsimp only at p4
    cases e':g' d2 d4 with
    |ok z' =>
     simp only[e',R.bind_ok] at p4
     exact h2' G4 H4 v2 v4 d2 d4 z' Q r4.gh ((q2.same gr.g).same s4.g) q4 e' fun v5 G5 H5 gr5 q5=>p4 v5 G5 H5 w4 gr5.step (r4.grow gr5) q5
    |er n=>exact absurd e' (he' _ _ _)
    |no=>simp only[e',R.bind_no] at p4;exact p4.elim
  |_=>exact False.elim p3
 |er n=>exact absurd e (he _ _ _)
 |no=>simp only[e,R.bind_no] at p2;exact p2.elim
theorem zpJ{op op':CmpOp}{r r':R2}{g g':Dt->Dt->R Dt}(ho:OpR X (compareOp op) r)(h2:Op2 X.K r g)(hn:zh4 g)(ho':OpR X (compareOp op') r')(h2':Op2 X.K r' g')(hn':zh4 g')(ha:JE X C a fa)(hb:JE X C b fb)(hc:JE X C c fc)
  (hm:lastMarks [op,op'] [b,c]=false:=by with_unfolding_all rfl):JE X C (.Compare a [op,op'] [b,c] pos) (zjN g g' fa fb fc):=PE.weak (zpO ho ho' ha hb hc hm) fun σ H Q h=>zmn h2 hn h2' hn' h
def kO(K:W.Frag)(C:Cn)(σ:L2.St)(Q:Option Int->Hp->Prop)(G H:Hp)(w:Wn)(a:Option Int×Ev):Prop :=
 ∀ G' H' w',zbt G H w G' H' w'->Rel K C G' w' a.2 σ H'->Q a.1 H'
abbrev DO:=Ev->R (Option Int×Ev)
def tOd(K:W.Frag)(C:Cn)(f:DO):TO:=fun σ H Q=>∃ G w ρ,Rel K C G w ρ σ H/\zc0 C.ex (kO K C σ Q G H w) (f ρ)
abbrev JO(X:Cx)(C:Cn)(e:Option Expr)(f:DO):Prop:=PO X e (tOd X.K C f)
theorem PO.weak{e:Option Expr}{t t':TO}(h:PO X e t)(k:∀ σ H Q,t' σ H Q->t σ H Q):PO X e t':=fun pins s σ H Q I q=>h pins s σ H Q I (k σ H Q q)
def dO0:DO:=fun ρ=>.ok (none,ρ)
def dO1(fa:De):DO:=fun ρ=>(fa ρ).bind fun a=>match a.1 with
 |.int i=>.ok (some i,a.2)
 |_=>.no
theorem zu1{K:W.Frag}{σ:L2.St}{Q:Option Int->Hp->Prop}:Stp (fun G H w=>kO K C σ Q G H w):=fun _ _ _ _ _ _ _ s k G' H' w' s'=>k G' H' w' (s.trans s')
theorem zoe:JO X C none dO0:=PO.weak zse fun σ H Q ⟨G,w,ρ,r,p⟩=>p G H w (.refl _ _ _) r
theorem ziQ(h:JE X C a fa):JO X C (some a) (dO1 fa):=PO.weak (zry h) fun σ H Q ⟨G,w,ρ,r,p⟩=>by
 refine zd7 (κ:=fun G H w=>kO X.K C σ Q G H w) zu1 r p fun d ρ1 v G1 H1 w1 r1 s1 q1 p1=>?_
 cases d with
 |int i=>exact ⟨i,za0 q1,p1 G1 H1 w1 (.refl _ _ _) r1⟩
 |_=>exact p1.elim
theorem seqO{K:W.Frag}{σ:L2.St}{α:Type}{κ:zp7 α}(st:Stp κ){G H:Hp}{w:Wn}{ρ:Ev}{fa:DO}{g:Option Int×Ev->R α}{Q:Option Int->Hp->Prop}(r:Rel K C G w ρ σ H)(p:zc0 C.ex (κ G H w) ((fa ρ).bind g))
  (k:∀ o ρ1 G1 H1 w1,Rel K C G1 w1 ρ1 σ H1->zbt G H w G1 H1 w1->zc0 C.ex (κ G1 H1 w1) (g (o,ρ1))->Q o H1):tOd K C fa σ H Q:=by
 refine ⟨G,w,ρ,r,?_⟩
 cases e:fa ρ with
 |ok a =>
  rw[e] at p
  intro G' H' w' s' r'
  exact k a.1 a.2 G' H' w' r' s' (zc0.step st s' p)
 |er n=>rw[e] at p;exact p
 |no=>rw[e] at p;exact p
def zmy{α:Type}(xs:List α)(lo hi:Option Int):List α:=(xs.drop (HT.sIx xs.length 0 lo)).take (HT.sIx xs.length xs.length hi-HT.sIx xs.length 0 lo)
theorem zpm{K:W.Frag}{G:Hp}{ds:List Dt}{vs:List V}(h:za2 K G ds vs)(lo hi:Option Int):za2 K G (zmy ds lo hi) (zrR vs lo hi):=by
 unfold zmy zrR
 rw[<- h.length]
 exact (h.drop _).take _
def znG(fa:De)(fl fh:DO):DN:=fun ρ=>(fa ρ).bind fun a=>(fl a.2).bind fun l=>(fh l.2).bind fun h=>match a.1 with
 |.lst ds=>.ok (zmy ds l.1 h.1,h.2)
 |_=>.no
theorem zef{K:W.Frag}{σ:L2.St}{G H:Hp}{w:Wn}{ρ:Ev}{p:Addr}(r:Rel K C G w ρ σ H)(hp:H p=none):w p=none:=by
 cases z:w p with
 |none=>rfl
 |some k=>exact absurd hp (r.wh p (by rw[z];simp))
theorem zoo{lo hi:Option Expr}{fl fh:DO}{p2:Pos}(ha:JE X C a fa)(hl:JO X C lo fl)(hh:JO X C hi fh):JN X C (.Subscript a (.Slice lo hi none p2) pos) (znG fa fl fh) :=
 PE.weak (zpd zrH ha hl hh) fun σ H Q ⟨G,w,ρ,r,p⟩=>by
  refine zd7 (κ:=fun G H w=>kN X.K C σ Q G H w) zfL r p fun d ρ1 v G1 H1 w1 r1 s1 q1 p1=>?_
  refine seqO (κ:=fun G H w=>kN X.K C σ Q G H w) zfL r1 p1 fun l ρ2 G2 H2 w2 r2 s2 p2=>?_
  refine seqO (κ:=fun G H w=>kN X.K C σ Q G H w) zfL r2 p2 fun h ρ3 G3 H3 w3 r3 s3 p3=>?_
  cases d with
  |lst ds =>
   obtain ⟨ad,vs,rfl,h1,h2⟩:=zbd (q1.same (s2.g.trans s3.g))
   refine ⟨ad,vs,rfl,SqL.of (r3.gh _ _ h1),fun p hp=>?_⟩
   have gr:zea G3 H3 G3 (upd H3 p (.lst (zrR vs l h))):=.newH r3.gh hp
   exact p3 p _ G3 _ w3 gr.step (r3.grow gr) hp zaj (r3.gh.free hp) (zef r3 hp) (zpm h2 l h)
  |_=>exact p3.elim
end
structure Dfn(nw:Bool)(P:Program)(w:World)(K:W.Frag)(mg:Str->Option Value)(base:Heap)(CX:CXT)(xv:Nat->Value)(k:Nat)(x:Str)(ks:List Bool)(F:FD):Prop where
 ex:∃(f:Addr)(fd:FuncData)(ps:List Str),zgi P w K mg base CX k f fd ps (zra nw K xv ks F)/\mg x=some (.ref f)/\W.keepIn K (.ref f)=true/\zfz K fd ps []/\∀ bs,F bs≠.no->zaV bs=ks
theorem Dfn.mono{nw:Bool}{P:Program}{w:World}{K:W.Frag}{mg:Str->Option Value}{base:Heap}{CX:CXT}{xv:Nat->Value}{k k':Nat}{x:Str}{ks:List Bool}{F:FD}(D:Dfn nw P w K mg base CX xv k x ks F)(h:k<=k'):Dfn nw P w K mg base CX xv k' x ks F:=by
 obtain ⟨f,fd,ps,h1,h2⟩:=D.ex
 exact ⟨f,fd,ps,h1.mono h,h2⟩
section
variable{X:Cx}{C:Cn}{CX:CXT}{k k':Nat}{ks:List Bool}{Fd:FD}{x:Str}{p pos:Pos}{e:Expr}{es:List Expr}{far:DAr}
theorem za7(D:Dfn false X.prog X.w X.K X.mg X.base CX C.xv k x ks Fd)(hr:zdV k' X.A)(hk:k<=k')(hx:zd5 CX X (EXc C))(ha:JAr X C (e::es) far)(hg:Gl X x:=by rfl)(hdb:(x == ("__debug__" : Str))=false:=by decide)(he:starEach (e::es) X.env=(false,eval e X.env)::starEach es X.env:=by rfl)
  (hpl:(backTo pos (starEach es X.env)).any (·.1)=false:=by rfl):JE X C (.Call (.Name x p) (e::es) [] pos) (zae Fd far):=by
 obtain ⟨f,fd,ps,h1,h2,h3,h4,h5⟩:=D.ex
 exact zqM h1 (hr.mono hk) hg h2 h3 h4 hx h5 ha hdb he hpl
end
section
variable{X:Cx}{C:Cn}{CX:CXT}{k k':Nat}{ks:List Bool}{Fd:FD}{x:Str}{p pos:Pos}{e:Expr}{es:List Expr}{far:DAr}
theorem zuH(D:Dfn true X.prog X.w X.K X.mg X.base CX C.xv k x ks Fd)(hr:zdV k' X.A)(hk:k<=k')(hx:zd5 CX X (EXc C))(ha:JAr X C (e::es) far)(hg:Gl X x:=by rfl)(hdb:(x == ("__debug__" : Str))=false:=by decide)(he:starEach (e::es) X.env=(false,eval e X.env)::starEach es X.env:=by rfl)
  (hpl:(backTo pos (starEach es X.env)).any (·.1)=false:=by rfl):JN X C (.Call (.Name x p) (e::es) [] pos) (zgc Fd far):=by
 obtain ⟨f,fd,ps,h1,h2,h3,h4,h5⟩:=D.ex
 exact zre h1 (hr.mono hk) hg h2 h3 h4 hx h5 ha hdb he hpl
end
def dNo:DS:=fun _=>.no
theorem zoR{X:Cx}{C:Cn}{st:Stmt}:JS X C st dNo:=fun _ _ _ _ _ _ ⟨_,_,_,_,p⟩=>p.elim
section
variable{X:Cx}{C:Cn}{a b c e:Expr}{fa fb fc:De}{pos:Pos}
def znH(fa fb:De):DN:=fun ρ=>(fa ρ).bind fun a=>(fb a.2).bind fun b=>match a.1,b.1 with
 |.lst x,.lst y=>if x.length+y.length<=16777216 then .ok (x++y,b.2) else .no
 |_,_=>.no
theorem zqp(ha:JE X C a fa)(hb:JE X C b fb):JN X C (.BinOp a .Add b pos) (znH fa fb):=PE.weak (ztx zsv ha hb) fun σ H Q ⟨G,w,ρ,r,p⟩=>by
 refine zd7 (κ:=fun G H w=>kN X.K C σ Q G H w) zfL r p fun d ρ1 v G1 H1 w1 r1 s1 q1 p1=>?_
 refine zd7 (κ:=fun G H w=>kN X.K C σ Q G H w) zfL r1 p1 fun d2 ρ2 v2 G2 H2 w2 r2 s2 q2 p2=>?_
 dsimp only at p2
 split at p2
 ·rename_i x y
  split at p2
  ·rename_i hl
   obtain ⟨ad,vs,rfl,h1,h2⟩:=zbd (q1.same s2.g)
   obtain ⟨bd,us,rfl,h3,h4⟩:=zbd q2
   refine ⟨ad,bd,vs,us,rfl,rfl,r2.gh _ _ h1,r2.gh _ _ h3,by rw[<- h2.length,<- h4.length,zci];exact hl,fun p hp=>?_⟩
   have gr:zea G2 H2 G2 (upd H2 p (.lst (vs++us))):=.newH r2.gh hp
   exact p2 p _ G2 _ w2 gr.step (r2.grow gr) hp zaj (r2.gh.free hp) (zef r2 hp) (h2.append h4)
  ·exact p2.elim
 ·exact p2.elim
def zut(ta:TA):TE:=fun σ H Q=>ta σ H fun vs H1=>∃ j:Int,vs=[.int j]/\∀ p,H1 p=none->Q (.ref p) (upd H1 p (.rng 0 j))
theorem zta{p:Pos}{ta:TA}(hg:Gl X "range")(hm:X.mg "range"=none)(ha:PA X [e] ta)(hs:starEach [e] X.env=[(false,eval e X.env)]:=by rfl):PE X (.Call (.Name "range" p) [e] [] pos) (zut ta):=by
 intro pins s σ H Q I h
 refine PyProof.Rows.Call_ (zhR I hg hm PyProof.Rows.boot_range (PyProof.Rows.callWith_type1 (thn (ha pos pins s σ H _ I h) fun us s1 ⟨vs,H1,I1,r1,q1⟩=>?_) hs rfl))
 obtain ⟨j,e1,q⟩:=q1
 subst e1
 obtain ⟨u,rfl,t,rfl⟩:=zhz r1
 exact call_range_1 ⟨.ref s1.heap.objs.size,_,I1.laid (o:=.rng 0 j) (fun b u e=>Heap.get?_push_of_some _ e) (Nat.le_refl _) ⟨_,_,_,Heap.get?_push_size _ rfl⟩,rfl,q _ (I1.hok.fresh (Nat.le_refl _))⟩
theorem zhE{lo:Int}:∀(n:Nat)(acc:List Value),acc.length=n->(∀(j:Nat) v,acc[j]? = some v->∃ t,v=Value.int (lo+j) t)->zbe ((List.range n).map fun k=>V.int (lo+(k:Nat))) acc
 |0,[],_,_=>.nil
 |0,_::_,h,_=>by simp at h
 |n+1,[],h,_=>by simp at h
 |n+1,v::r,h,hv=>by
  rw[List.range_succ_eq_map,List.map_cons,List.map_map]
  obtain ⟨t,ht⟩:=hv 0 v rfl
  refine .cons ⟨t,by simpa using ht⟩ ?_
  have:=zhE (lo:=lo+1) n r (by simpa using h) fun j v' e=>by
   obtain ⟨t',ht'⟩:=hv (j+1) v' (by simpa using e)
   refine ⟨t',ht'.trans ?_⟩
   congr 1
   omega
  have e:(fun k=>V.int (lo+1+(k:Nat)))=((fun k:Nat=>V.int (lo+(k:Nat))) ∘ Nat.succ):=by
   funext k
   show V.int _=V.int _
   congr 1
   simp only[Nat.succ_eq_add_one]
   omega
  rw[e] at this
  exact this
theorem ziT(hc:X.calm=true):zcE X (.type "list") (fun xs H Q=>∃(p:Addr)(j:Int),xs=[.ref p]/\H p=some (.rng 0 j)/\0<=j/\j<=16777216/\∀ l,H l=none->Q (.ref l) (upd H l (.lst ((List.range j.toNat).map fun k=>V.int (0+(k:Nat)))))):=by
 intro pins s σ H xs us Q I r h
 obtain ⟨p,j,rfl,hp,j0,j1,q⟩:=h
 obtain ⟨u,rfl,ru⟩:=zhz r
 cases ru
 obtain ⟨t,u,v,e⟩:=(show zc4 X.prog X.w H s.heap p (.rng 0 j) from I.hok p _ hp)
 refine call_list_range (n:=j.toNat) (I.ok.hd hc) e (small_one (by omega) (by omega) (by omega) (by omega)) (by rw[rangeSize_one];split <;> omega) (by omega) fun h' tk acc' c' hk hS hacc=>?_
 refine ⟨.ref s.heap.objs.size,_,I.laid (t':=tk) hk (Nat.le_refl _) (o:=.lst ((List.range j.toNat).map fun k=>V.int (0+(k:Nat)))) ⟨?_,acc'.toList,c',?_,by simpa using hS⟩,rfl,q _ (I.hok.fresh (Nat.le_refl _))⟩
 ·rw[List.length_map,List.length_range,zci];omega
 ·refine zhE j.toNat acc'.toList (by rw[Array.length_toList];exact hacc.1) fun i v' ev=>?_
  obtain ⟨t',ht'⟩:=hacc.2 i v' (by simpa using ev)
  exact ⟨t',by rw[ht',Int.mul_one]⟩
def zi0(fa:De):DN:=fun ρ=>(fa ρ).bind fun a=>match a.1 with
 |.int j=>if 0<=j/\j<=16777216 then .ok (zaR 0 j.toNat,a.2) else .no
 |_=>.no
theorem zij{K:W.Frag}{G:Hp}{lo:Int}:∀(l:List Nat),za2 K G (l.map fun k=>.int (lo+(k:Nat))) (l.map fun k=>V.int (lo+(k:Nat)))
 |[]=>za2.nil
 |k::r=>za2.cons (za3 _) (zij r)
theorem zmR{p1 p2 pos2:Pos}(hc:X.calm=true)(hg:Gl X "list")(hm:X.mg "list"=none)(hg2:Gl X "range")(hm2:X.mg "range"=none)(ha:JE X C e fa)(hs:starEach [e] X.env=[(false,eval e X.env)]:=by rfl)
  (hs2:starEach [.Call (.Name "range" p2) [e] [] pos2] X.env=(false,eval (.Call (.Name "range" p2) [e] [] pos2) X.env)::starEach [] X.env:=by rfl) (hpl:(backTo pos (starEach [] X.env)).any (·.1)=false:=by rfl) :
  JN X C (.Call (.Name "list" p1) [.Call (.Name "range" p2) [e] [] pos2] [] pos) (zi0 fa) :=
 PE.weak (zee (ziT hc) hg hm PyProof.Rows.boot_list (zaE (zta hg2 hm2 (zaw ha zaG (by rw[hs];rfl)) hs) zb3 hs2) (by decide) (by decide) hs2 hpl) fun σ H Q ⟨G,w,ρ,r,p⟩=>by
  unfold zi0 at p
  refine ⟨G,w,ρ,r,?_⟩
  unfold dA dA0
  cases e:fa ρ with
  |ok x =>
   obtain ⟨d,ρ1⟩:=x
   rw[e] at p
   intro vs G1 H1 w1 s1 r1 q
   obtain ⟨v,t,rfl,q1,q2⟩:=q.cons_inv
   rw[q2.nil_inv]
   have p1:=zc0.step (κ:=fun G H w=>kN X.K C σ Q G H w) zfL s1 p
   cases d with
   |int j =>
    refine ⟨j,by rw[za0 q1],fun p hp=>?_⟩
    have p1:zc0 C.ex (kN X.K C σ Q G1 H1 w1) (if 0<=j/\j<=16777216 then .ok (zaR 0 j.toNat,ρ1) else .no):=p1
    by_cases hj:0<=j/\j<=16777216
    ·rw[if_pos hj] at p1
     refine ⟨p,j,rfl,zaj,hj.1,hj.2,fun l hl=>?_⟩
     have gr:zea G1 H1 G1 (upd H1 p (.rng 0 j)):=.newH r1.gh hp
     have r2:=r1.grow gr
     have gr2:zea G1 (upd H1 p (.rng 0 j)) G1 (upd (upd H1 p (.rng 0 j)) l (.lst ((List.range j.toNat).map fun k=>V.int (0+(k:Nat))))):=.newH r2.gh hl
     have hl1:H1 l=none:=gr.h.free hl
     exact p1 l _ G1 _ w1 (gr.step.trans gr2.step) (r2.grow gr2) hl1 zaj (r1.gh.free hl1) (zef r1 hl1) (zij _)
    ·rw[if_neg hj] at p1;exact p1.elim
   |_=>exact False.elim p1
  |er n=>rw[e] at p;exact p
  |no=>rw[e] at p;exact p
end
section
variable{X:Cx}{C:Cn}{a b c e:Expr}{fa fb fc:De}{pos:Pos}
def zqO(a:Int):List Int->List Int
 |[]=>[a]
 |b::r=>if a<=b then a::b::r else b::zqO a r
def zfk:List Int->List Int
 |[]=>[]
 |a::r=>zqO a (zfk r)
theorem zg7(a:Int):∀ l:List Int,(zqO a l).Perm (a::l)
 |[]=>.refl _
 |b::r=>by
  unfold zqO
  split
  ·exact .refl _
  ·exact ((zg7 a r).cons b).trans (.swap a b r)
theorem zcl:∀ l:List Int,(zfk l).Perm l
 |[]=>.refl _
 |a::r=>(zg7 a _).trans ((zcl r).cons a)
theorem zlA(a:Int):∀ l:List Int,l.Pairwise (· <= ·)->(zqO a l).Pairwise (· <= ·)
 |[],_=>by simp[zqO]
 |b::r,h=>by
  unfold zqO
  rw[List.pairwise_cons] at h
  split
  ·rename_i z
   refine List.pairwise_cons.mpr ⟨fun x hx=>?_,List.pairwise_cons.mpr h⟩
   rcases List.mem_cons.mp hx with rfl|hx
   ·exact z
   ·exact Int.le_trans z (h.1 x hx)
  ·rename_i z
   refine List.pairwise_cons.mpr ⟨fun x hx=>?_,zlA a r h.2⟩
   rcases List.mem_cons.mp ((zg7 a r).mem_iff.mp hx) with rfl|hx
   ·omega
   ·exact h.1 x hx
theorem zem:∀ l:List Int,(zfk l).Pairwise (· <= ·)
 |[]=>.nil
 |a::r=>zlA a _ (zem r)
theorem zfM:∀{ns:List Int}{us:List Value},zbe (ns.map V.int) us->PyProof.Rows.IntsAre us ns
 |[],_,.nil=>.nil
 |n::ns,_,.cons ⟨t,h⟩ r=>by subst h;exact .cons n t (zfM r)
theorem zeb:∀{ns:List Int}{us:List Value},PyProof.Rows.IntsAre us ns->zbe (ns.map V.int) us
 |_,_,.nil=>.nil
 |_,_,.cons n t h=>.cons ⟨t,rfl⟩ (zeb h)
theorem zmu:zcE X (.builtin "sorted") (fun xs H Q=>∃(p:Addr)(ns:List Int),xs=[.ref p]/\SqL X.K H p (ns.map V.int)/\ns.length<64/\∀ l,H l=none->Q (.ref l) (upd H l (.lst ((zfk ns).map V.int)))):=by
 intro pins s σ H xs us Q I r h
 obtain ⟨p,ns,rfl,hq,hl,q⟩:=h
 obtain ⟨u,rfl,ru⟩:=zhz r
 cases ru
 obtain ⟨its,rv,pl,hz⟩:=I.list hq
 have hlen:its.length=ns.length:=by rw[<- rv.length];simp
 refine PyProof.Rows.sorted_ints pl.isList (zfM rv) (by omega) fun out ns' a1 a2 a3=>?_
 have e:ns'=zfk ns:=W.lks_uniq (a2.trans (zcl ns).symm) a3 (zem ns)
 subst e
 obtain ⟨c,hc⟩:=PyProof.Rows.sortedAll_at s.heap its out
 refine ⟨.ref (s.heap.objs.size+1),_,I.laid (t':=s.toks) (fun b o=>PyProof.Rows.sortedAll_old) (Nat.le_succ _) (o:=.lst ((zfk ns).map V.int)) ⟨?_,out.toList,c,zeb a1,?_⟩,rfl,q _ (I.hok.fresh (Nat.le_succ _))⟩
 ·rw[List.length_map,(zcl ns).length_eq,zci];omega
 ·simpa using hc
def zfY:List Dt->R (List Dt)
 |[.lst l]=>match zkl l with
  |some ns=>if ns.length<64 then .ok ((zfk ns).map .int) else .no
  |none=>.no
 |_=>.no
theorem zjC{K:W.Frag}{G:Hp}:∀(ns:List Int),za2 K G (ns.map .int) (ns.map V.int)
 |[]=>za2.nil
 |n::r=>za2.cons (za3 n) (zjC r)
theorem zpj{K:W.Frag}:FnN K (fun xs H Q=>∃(p:Addr)(ns:List Int),xs=[.ref p]/\SqL K H p (ns.map V.int)/\ns.length<64/\∀ l,H l=none->Q (.ref l) (upd H l (.lst ((zfk ns).map V.int)))) zfY:=fun G H vs ds z Q gh hr e k=>by
 unfold zfY at e
 split at e
 ·split at e
  ·rename_i ns en
   split at e
   ·rename_i hl
    obtain ⟨v,rfl,h1⟩:=zf3 hr
    obtain ⟨a,us,rfl,h2,h3⟩:=zbd h1
    cases e
    rw[znx h3 en] at h2
    exact ⟨a,ns,rfl,SqL.of (gh _ _ h2),hl,fun l hl=>k l _ hl (zjC _)⟩
   ·cases e
  ·cases e
 ·cases e
theorem zpr:zkw zfY:=fun x n h=>by
 unfold zfY at h
 split at h
 ·split at h
  ·split at h <;> cases h
  ·cases h
 ·cases h
theorem zp3{x:Expr}{p:Pos}(hg:Gl X "sorted")(hm:X.mg "sorted"=none)(ha:JE X C x fa)(hs:starEach [x] X.env=(false,eval x X.env)::starEach [] X.env:=by rfl)(hpl:(backTo pos (starEach [] X.env)).any (·.1)=false:=by rfl) :
  JN X C (.Call (.Name "sorted" p) [x] [] pos) (zoK zfY (dA fa dA0)) :=
 zpa zpj zpr zmu hg hm PyProof.Rows.boot_sorted (zaw ha zaG hs) (by decide) (by decide) hs hpl
end
section
variable{prog:Program}{w:World}{A:Around}{E:Value->Shared->Prop}{s:Shared}
end
section
variable{X:Cx}{C:Cn}{a:Expr}{fa:De}{pos:Pos}
end
section
variable{prog:Program}{w:World}{A:Around}{E:Value->Shared->Prop}{s:Shared}
theorem bnd:type_of% @wpAny_bind:=@wpAny_bind
theorem zle{it t:Addr}{i:Nat}{its:Array Value}{x:Value}{Q:Value->Shared->Prop}(k1:s.heap.IsTupleIter it t i)(k2:s.heap.IsTuple t its)(kx:its[i]? = some x)
  (kQ:∀ h',h'.IsTupleIter it t (i+1)->Heap.SameBut it s.heap h'->Q x { s with heap:=h' }):wpAny (model prog w) A (Builtin.SmallTypes.nextOf (.ref it)) Q E s:=by
 obtain ⟨o,e1,e2,e3⟩:=id k1
 obtain ⟨o',e4,_,n',e5⟩:=k2
 unfold Builtin.SmallTypes.nextOf
 refine bnd (wpAny_callSpecial?_slot (name:=Str.ofString "__next__") k1.typeIs F.slot_tuple_iterator_next (wpAny_call_entry F.slot_tuple_iterator_next k1.typeIs F.entry_tuple_iterator_next ?_ (F.args_tuple_iterator_next_1 _)))
 show wpAny _ _ (field (.ref it) 0 >>= _) _ _ _
 refine bnd (wpAny_field e1 e3 (x:=.ref t) rfl ?_)
 show wpAny _ _ (if (Value.ref t == Value.none)=true then _ else _) _ _ _
 have nn:¬ ((Value.ref t == Value.none)=true):=Bool.false_ne_true
 rw[if_neg nn]
 show wpAny _ _ (field (.ref it) 1 >>= _) _ _ _
 refine bnd (wpAny_field e1 e3 (x:=.int i 0) rfl ?_)
 show wpAny _ _ (seqItems? (.ref t) >>= _) _ _ _
 refine bnd (wpAny_seqItems e4 e5 ?_)
 simp only[Int.toNat_natCast,kx]
 refine bnd (wpAny_setField e1 e3 (by simp) (wpAny_pure ⟨x,rfl,wpAny_pure (kQ _ ⟨_,Heap.get?_update_self _ e1 (Obj.isFreed_of_fields (Obj.data_mapFields e3 _)),(Obj.cls_mapFields ..).trans e2,?_⟩ (Heap.SameBut.update ..))⟩))
 rw[Obj.data_mapFields e3];simp[rawInt]
theorem zrA{it t:Addr}{i:Nat}{its:Array Value}{Q:Value->Shared->Prop}(hh:A.handled=none)(k1:s.heap.IsTupleIter it t i)(k2:s.heap.IsTuple t its)(kx:its[i]? = none)
  (kE:∀ h' e,Heap.ExtBut it s.heap h'->(∃ o,h'.get? e=some o/\o.cls=.type "StopIteration")->E (.ref e) { s with heap:=h' }):wpAny (model prog w) A (Builtin.SmallTypes.nextOf (.ref it)) Q E s:=by
 obtain ⟨o,e1,e2,e3⟩:=id k1
 obtain ⟨o',e4,_,n',e5⟩:=k2
 unfold Builtin.SmallTypes.nextOf
 refine bnd (wpAny_callSpecial?_slot (name:=Str.ofString "__next__") k1.typeIs F.slot_tuple_iterator_next (wpAny_call_entry F.slot_tuple_iterator_next k1.typeIs F.entry_tuple_iterator_next ?_ (F.args_tuple_iterator_next_1 _)))
 show wpAny _ _ (field (.ref it) 0 >>= _) _ _ _
 refine bnd (wpAny_field e1 e3 (x:=.ref t) rfl ?_)
 show wpAny _ _ (if (Value.ref t == Value.none)=true then _ else _) _ _ _
 have nn:¬ ((Value.ref t == Value.none)=true):=Bool.false_ne_true
 rw[if_neg nn]
 show wpAny _ _ (field (.ref it) 1 >>= _) _ _ _
 refine bnd (wpAny_field e1 e3 (x:=.int i 0) rfl ?_)
 show wpAny _ _ (seqItems? (.ref t) >>= _) _ _ _
 refine bnd (wpAny_seqItems e4 e5 ?_)
 simp only[Int.toNat_natCast,kx]
 refine bnd (wpAny_rule (wpAny_bind (wpAny_setField e1 e3 (by simp) ?_)))
 show wpAny _ _ (newExc (.type "StopIteration") [] >>= _) _ _ _
 refine bnd ?_
 simp only[newExc,newTuple]
 refine bnd (wpAny_newObj_type ?_ (by size_fits))
 refine (wpAny_bind (m:=firstArgMember _ _)) (wpAny_of_eq (a:=Value.none) (by first|rfl|(simp only[firstArgMember];rfl)) ?_)
 refine wpAny_newObj_type ?_ (by size_fits);simp only[raiseNew]
 refine bnd (wpAny_handled ?_)
 first|rw[show A.in1.handled=none from hh]|rw[hh]
 refine bnd (wpAny_pure (wpAny_throw ?_))
 exact kE _ _ (((Heap.SameBut.update ..).extBut.push _).push _) ⟨_,Heap.get?_push_size _ rfl,rfl⟩
structure Zp(h:Heap)(z TI TO i1 i2 l1 l2:Addr)(f0:Value)(k:Nat):Prop where
 z:IsZip h z TI TO f0
 ti:IsPair h TI (.ref i1) (.ref i2)
 to:∃ a b,IsPair h TO a b
 a1:h.IsTupleIter i1 l1 k
 a2:h.IsTupleIter i2 l2 k
structure ZpD(z TI TO i1 i2:Addr):Prop where
 d1:TI≠z
 d2:TO≠z
 d3:i1≠z
 d4:i2≠z
 d5:TI≠TO
 d6:TI≠i1
 d7:TI≠i2
 d8:TO≠i1
 d9:TO≠i2
 d0:i1≠i2
theorem Zp.keep{h h':Heap}{z TI TO i1 i2 l1 l2:Addr}{f0:Value}{k:Nat}(p:Zp h z TI TO i1 i2 l1 l2 f0 k)(e:∀ b∈[z,TI,TO,i1,i2],∀ o,h.get? b=some o->h'.get? b=some o):Zp h' z TI TO i1 i2 l1 l2 f0 k :=
 ⟨e z (by simp) _ p.z,e TI (by simp) _ p.ti,let ⟨a,b,q⟩:=p.to;⟨a,b,e TO (by simp) _ q⟩,p.a1.at fun o q=>e i1 (by simp) o q,p.a2.at fun o q=>e i2 (by simp) o q⟩
variable{z TI TO i1 i2 l1 l2:Addr}{k:Nat}{xs ys:Array Value}
theorem zk1{x y:Value}{Q:Value->Shared->Prop}(D:ZpD z TI TO i1 i2)(p:Zp s.heap z TI TO i1 i2 l1 l2 .none k)(q1:s.heap.IsTuple l1 xs)(q2:s.heap.IsTuple l2 ys)(n1:∀ b∈[z,TI,TO,i1,i2],b≠l1)(n2:∀ b∈[z,TI,TO,i1,i2],b≠l2)
  (hx:xs[k]? = some x) (hy:ys[k]? = some y)
  (hQ:∀ h',Zp h' z TI TO i1 i2 l1 l2 (rawInt s.heap.objs.size) (k+1)->h'.get? s.heap.objs.size=some { cls:=.type "tuple",data:=.seq #[x,y] }->(∀ c o,c≠z->c≠TO->c≠i1->c≠i2->s.heap.get? c=some o->h'.get? c=some o)->Q (.ref s.heap.objs.size) { s with heap:=h' }) :
  wpAny (model prog w) A (Builtin.«zip.__next__» ⟨[.ref z],[]⟩) (fun fin s'=>∃ v,fin=.done (.ret v)/\Q v s') E s:=by
 obtain ⟨pz,pti,⟨oa,ob,pto⟩,pa1,pa2⟩:=p
 show wpAny _ _ (field (.ref z) 2 >>= _) _ _ _
 refine bnd (wpAny_field pz rfl (x:=.bool false) rfl ?_)
 show wpAny _ _ (field (.ref z) 3 >>= _) _ _ _
 refine bnd (wpAny_field pz rfl (x:=.ref TI) rfl ?_)
 refine bnd (wpAny_seqItems pti rfl ?_)
 show wpAny _ _ (Builtin.SmallTypes.ownedTupleIsFree (.ref z) >>= _) _ _ _
 refine bnd ?_
 unfold Builtin.SmallTypes.ownedTupleIsFree
 refine bnd (wpAny_field pz rfl (x:=.none) rfl (wpAny_pure ?_))
 simp only[if_true]
 refine bnd (wpAny_rule ?_)
 refine bnd (wpAny_field pz rfl (x:=.ref TO) rfl ?_)
 refine bnd (wpAny_setField_rec pz (by simp) fun g1 pz1 sb1=>?_)
 have pz1:IsZip g1 z TI TO .ellipsis:=pz1
 refine bnd ?_
 simp only[List.zipIdx_cons,List.zipIdx_nil,List.forIn_cons,List.forIn_nil]
 refine bnd (wpAny_bind (wpAny_onRaise ?_))
 show wpAny _ _ (Builtin.SmallTypes.nextOf (.ref i1) >>= _) _ _ _
 refine bnd (zle (pa1.extBut sb1.extBut D.d3) (q1.extBut sb1.extBut (Ne.symm (n1 z (by simp)))) hx fun g2 pa1' sb2=>wpAny_pure ?_)
 have t2:IsPair g2 TO oa ob:=sb2.extBut _ _ D.d8 (sb1.extBut _ _ D.d2 pto)
 refine bnd (wpAny_seqItems t2 rfl ?_)
 refine bnd (wpAny_updateSeq_pair t2 fun g3 t3 sb3=>?_)
 have t3:IsPair g3 TO x ob:=t3
 refine bnd (wpAny_letGo (wpAny_pure ?_))
 refine bnd (wpAny_bind (wpAny_onRaise ?_))
 show wpAny _ _ (Builtin.SmallTypes.nextOf (.ref i2) >>= _) _ _ _
 refine bnd (zle (((pa2.extBut sb1.extBut D.d4).extBut sb2.extBut D.d0.symm).extBut sb3.extBut D.d9.symm)
  (((q2.extBut sb1.extBut (Ne.symm (n2 z (by simp)))).extBut sb2.extBut (Ne.symm (n2 i1 (by simp)))).extBut sb3.extBut (Ne.symm (n2 TO (by simp)))) hy fun g4 pa2' sb4=>wpAny_pure ?_)
 have t4:IsPair g4 TO x ob:=sb4.extBut _ _ D.d9 t3
 refine bnd (wpAny_seqItems t4 rfl ?_)
 refine bnd (wpAny_updateSeq_pair t4 fun g5 t5 sb5=>?_)
 have t5:IsPair g5 TO x y:=t5
 refine bnd (wpAny_letGo (wpAny_pure (wpAny_pure ?_)))
 refine bnd (wpAny_seqItems t5 rfl ?_)
 refine bnd (wpAny_newTuple ?_)
 have sz:g5.objs.size=s.heap.objs.size:=by rw[sb5.1,sb4.1,sb3.1,sb2.1,sb1.1]
 have z5:IsZip g5 z TI TO .ellipsis:=sb5.extBut _ _ D.d2.symm (sb4.extBut _ _ D.d4.symm (sb3.extBut _ _ D.d2.symm (sb2.extBut _ _ D.d3.symm pz1)))
 have k5:∀ c o,c≠z->c≠TO->c≠i1->c≠i2->s.heap.get? c=some o->g5.get? c=some o:=fun c o c1 c2 c3 c4 e =>
  sb5.extBut _ _ c2 (sb4.extBut _ _ c4 (sb3.extBut _ _ c2 (sb2.extBut _ _ c3 (sb1.extBut _ _ c1 e))))
 have p1:g5.IsTupleIter i1 l1 (k+1):=((pa1'.extBut sb3.extBut D.d8.symm).extBut sb4.extBut D.d0).extBut sb5.extBut D.d8.symm
 have p2:g5.IsTupleIter i2 l2 (k+1):=pa2'.extBut sb5.extBut D.d9.symm
 have ltz:z<g5.objs.size:=Heap.lt_size z5
 show wpAny _ _ (Builtin.SmallTypes.ownedTupleHandOut (.ref z) (.ref g5.objs.size) >>= _) _ _ _
 refine bnd ?_
 unfold Builtin.SmallTypes.ownedTupleHandOut
 have z6:IsZip (g5.push { cls:=.type "tuple",data:=.seq #[x,y] }) z TI TO .ellipsis:=Heap.get?_push_of_some _ z5
 refine bnd (wpAny_setField_rec z6 (by simp) fun g7 z7 sb7=>?_)
 have z7:IsZip g7 z TI TO (rawInt g5.objs.size):=z7
 refine wpAny_setField_rec z7 (by simp) fun g8 z8 sb8=>?_
 have z8:IsZip g8 z TI TO (rawInt g5.objs.size):=z8
 have up:∀ c o,c≠z->g5.get? c=some o->g8.get? c=some o:=fun c o c1 e=>sb8.extBut _ _ c1 (sb7.extBut _ _ c1 (Heap.get?_push_of_some _ e))
 have t8:g8.get? g5.objs.size=some { cls:=.type "tuple",data:=.seq #[x,y] }:=sb8.extBut _ _ (Nat.ne_of_gt ltz) (sb7.extBut _ _ (Nat.ne_of_gt ltz) (Heap.get?_push_size _ rfl))
 rw[sz] at z8 t8
 refine wpAny_pure ⟨_,rfl,?_⟩
 show Q (.ref g5.objs.size) _
 rw[sz]
 exact hQ g8 ⟨z8,up _ _ D.d1 (k5 _ _ D.d1 D.d5 D.d6 D.d7 pti),⟨x,y,up _ _ D.d2 t5⟩,p1.at fun o e=>up _ o D.d3 e,p2.at fun o e=>up _ o D.d4 e⟩ t8 fun c o c1 c2 c3 c4 e=>up c o c1 (k5 c o c1 c2 c3 c4 e)
theorem zlL{Q:PySem.Fin->Shared->Prop}(hh:A.handled=none)(D:ZpD z TI TO i1 i2)(p:Zp s.heap z TI TO i1 i2 l1 l2 .none k)(q1:s.heap.IsTuple l1 xs)(n1:∀ b∈[z,TI,TO,i1,i2],b≠l1)
  (hx:xs[k]? = none)
  (hE:∀ h' e,(∀ c o,c≠z->c≠TO->c≠i1->c≠i2->s.heap.get? c=some o->h'.get? c=some o)->(∃ o,h'.get? e=some o/\o.cls=.type "StopIteration")->E (.ref e) { s with heap:=h' }) :
  wpAny (model prog w) A (Builtin.«zip.__next__» ⟨[.ref z],[]⟩) Q E s:=by
 obtain ⟨pz,pti,⟨oa,ob,pto⟩,pa1,pa2⟩:=p
 show wpAny _ _ (field (.ref z) 2 >>= _) _ _ _
 refine bnd (wpAny_field pz rfl (x:=.bool false) rfl ?_)
 show wpAny _ _ (field (.ref z) 3 >>= _) _ _ _
 refine bnd (wpAny_field pz rfl (x:=.ref TI) rfl ?_)
 refine bnd (wpAny_seqItems pti rfl ?_)
 show wpAny _ _ (Builtin.SmallTypes.ownedTupleIsFree (.ref z) >>= _) _ _ _
 refine bnd ?_
 unfold Builtin.SmallTypes.ownedTupleIsFree
 refine bnd (wpAny_field pz rfl (x:=.none) rfl (wpAny_pure ?_))
 simp only[if_true]
 refine bnd (wpAny_rule ?_)
 refine bnd (wpAny_field pz rfl (x:=.ref TO) rfl ?_)
 refine bnd (wpAny_setField_rec pz (by simp) fun g1 pz1 sb1=>?_)
 have pz1:IsZip g1 z TI TO .ellipsis:=pz1
 refine bnd ?_
 simp only[List.zipIdx_cons,List.zipIdx_nil,List.forIn_cons,List.forIn_nil]
 refine bnd (wpAny_bind (wpAny_onRaise ?_))
 show wpAny _ _ (Builtin.SmallTypes.nextOf (.ref i1) >>= _) _ _ _
 refine bnd (zrA hh (pa1.extBut sb1.extBut D.d3) (q1.extBut sb1.extBut (Ne.symm (n1 z (by simp)))) hx fun g2 e sb2 he=>?_)
 obtain ⟨oe,e1,e2⟩:=he
 have z2:IsZip g2 z TI TO .ellipsis:=sb2 _ _ D.d3.symm pz1
 have ez:e≠z:=fun q=>by subst q;rw[z2] at e1;cases e1;simp at e2
 exact wpAny_setField_rec z2 (by simp) fun g3 _ sb3=>hE g3 e (fun c o c1 _ c3 _ q=>sb3.extBut _ _ c1 (sb2 _ _ c3 (sb1.extBut _ _ c1 q))) ⟨oe,sb3.extBut _ _ ez e1,e2⟩
end
section
variable{X:Cx}{pins:List (Addr×Obj)}{σ:L2.St}{H:Hp}{s:Shared}
theorem zrr{a b:Addr}{xs:List V}(I:L2.Inv X pins σ H s)(hf:zhu X pins H b)(hs:SqT X.K H a xs):b≠a:=by
 rintro rfl
 rcases hs with (h|⟨o,h⟩)|⟨o,its,n,h,_⟩
 ·rw[hf.1] at h;cases h
 ·rw[hf.1] at h;cases h
 ·have hb:=I.mod.kin b o h
  rcases hf.2.2.2.1 with z|z
  ·exact I.ok.noex b o hb z
  ·exact absurd (Nat.lt_of_lt_of_le (Heap.lt_size hb) (Nat.le_trans I.ok.bsz z)) (Nat.lt_irrefl _)
theorem zgJ{fp:List Addr}{h':Heap}{o:HO}{a:Addr}{t':Nat}(I:L2.Inv X pins σ H s)(hf:∀ b∈fp,zhu X pins H b)(k:∀ b ob,b∉fp->s.heap.get? b=some ob->h'.get? b=some ob)(hp:s.heap.objs.size<=a)(ht:∀ b ob,s.heap.get? b=some ob->∃ ob',h'.get? b=some ob')
  (new:zc4 X.prog X.w (upd H a o) h' a o):L2.Inv X pins σ (upd H a o) { s with heap:=h',toks:=t' }:=by
 have hn:=I.hok.fresh hp
 have nf:∀ b u,H b=some u->b∉fp:=fun b u e z=>by rw[(hf b z).1] at e;cases e
 refine I.call (g':=s.gens) (d':=s.drawn) (ch:=fp) ⟨fun b u q _ _ hx=>k b u hx q,fun b u q _ _ hx=>⟨u.slots,k b u hx q⟩,fun b u q n _=>?_,fun b u q hx=>⟨u,k b u hx q⟩,fun b xs q=>?_,fun b u xs q=>?_,fun b ps q=>⟨#[],?_⟩⟩ (fun b u e=>?_) I.bare
  fun b hb=>⟨(hf b hb).2.2.2.1,(hf b hb).2.1,(hf b hb).2.2.2.2.1,(hf b hb).2.2.2.2.2⟩
 ·rw[zaf (Nat.ne_of_lt (Nat.lt_of_lt_of_le (Heap.lt_size q) hp))];exact n
 ·rw[zaf (zah q hn)];exact q
 ·rw[zaf (zah q hn)];exact q
 ·rw[zaf (zah q hn),q];simp
 ·by_cases hb:b=a
  ·subst hb;rw[zaj] at e;cases e;exact new
  ·rw[zaf hb] at e
   refine (I.hok b u e).stay (fun c v hc q=>k c v ?_ q) (fun c q=>by rw[zaf (zah q hn)];exact q) fun c xs q=>by rw[zaf (zah q hn)];exact q
   rcases hc with z|z
   ·rw[z];exact nf b u e
   ·exact nf c _ z
theorem zho{fp:List Addr}{h':Heap}{t':Nat}(I:L2.Inv X pins σ H s)(hf:∀ b∈fp,zhu X pins H b)(k:∀ b ob,b∉fp->s.heap.get? b=some ob->h'.get? b=some ob):L2.Inv X pins σ H { s with heap:=h',toks:=t' }:=by
 have nf:∀ b u,H b=some u->b∉fp:=fun b u e z=>by rw[(hf b z).1] at e;cases e
 refine I.call (g':=s.gens) (d':=s.drawn) (ch:=fp) ⟨fun b u q _ _ hx=>k b u hx q,fun b u q _ _ hx=>⟨u.slots,k b u hx q⟩,fun b u q n _=>n,fun b u q hx=>⟨u,k b u hx q⟩,fun b xs q=>q,fun b u xs q=>q,fun b ps q=>⟨#[],by rw[q];simp⟩⟩ (fun b u e=>?_) I.bare
  fun b hb=>⟨(hf b hb).2.2.2.1,(hf b hb).2.1,(hf b hb).2.2.2.2.1,(hf b hb).2.2.2.2.2⟩
 refine (I.hok b u e).stay (fun c v hc q=>k c v ?_ q) (fun _ q=>q) fun _ _ q=>q
 rcases hc with z|z
 ·rw[z];exact nf b u e
 ·exact nf c _ z
end
def Itz(K:W.Frag)(a b:Addr):It :=
 ⟨fun i H=>∃ xs ys x y,SqT K H a xs/\SqT K H b ys/\xs[i]? = some x/\ys[i]? = some y,
   fun i H v H'=>∃ p x y,v=.ref p/\H p=none/\H'=upd H p (.tup [x,y])/\(∀ xs,SqT K H a xs->xs[i]? = some x)/\∀ ys,SqT K H b ys->ys[i]? = some y,
   fun i H=>∃ xs,SqT K H a xs/\xs.length<=i⟩
theorem zpN{P:Program}{w:World}{K:W.Frag}{elts:List Expr}{x1}{ps:Pos}{a b z TI TO i1 i2:Addr}(D:ZpD z TI TO i1 i2):zoA P w K (.Tuple elts x1 ps) (Itz K a b) [z,TI,TO,i1,i2] z (fun i h=>Zp h z TI TO i1 i2 a b .none i) where
 mem:=by simp
 obj:=fun i h st c hc=>by
  obtain ⟨s1,s2,⟨oa,ob,s3⟩,⟨o4,s4,_,d4⟩,⟨o5,s5,_,d5⟩⟩:=st
  simp only[List.mem_cons,List.not_mem_nil,or_false] at hc
  rcases hc with rfl|rfl|rfl|rfl|rfl
  ·exact ⟨_,s1,fun v q=>by cases q⟩
  ·exact ⟨_,s2,fun v q=>by cases q⟩
  ·exact ⟨_,s3,fun v q=>by cases q⟩
  ·exact ⟨_,s4,fun v q=>by rw[d4] at q;cases q⟩
  ·exact ⟨_,s5,fun v q=>by rw[d5] at q;cases q⟩
 keep:=fun i h h' st k=>st.keep k
 item:=by
  intro X hP hw hK hc i pins s σ H E I hf st hg
  subst hP hw hK
  obtain ⟨xs,ys,x,y,q1,q2,hx,hy⟩:=hg
  obtain ⟨its,rv,p,hz⟩:=I.tuple q1
  obtain ⟨jts,rw',p',hz'⟩:=I.tuple q2
  obtain ⟨u,hu,ru⟩:=rv.get hx
  obtain ⟨v,hv,rv'⟩:=rw'.get hy
  have hT:s.TypeIs (.ref z) "zip":=⟨_,st.z,rfl⟩
  unfold pyNext
  refine wpAny_bind (wpAny_attempt (wpAny_callSpecial?_slot (name:=Str.ofString "__next__") hT F.slot_zip_next (wpAny_call_entry F.slot_zip_next hT F.entry_zip_next
   (zk1 (l1:=a) (l2:=b) (k:=i) (x:=u) (y:=v) D st (show s.heap.IsTuple a its.toArray from p) (show s.heap.IsTuple b jts.toArray from p') (fun c hc=>zrr I (hf c hc) q1) (fun c hc=>zrr I (hf c hc) q2) (by simpa using hu) (by simpa using hv) fun h' st' ht hk=>wpAny_pure ?_) (F.args_zip_next_1 _))))
  refine ⟨_,rfl,wpAny_letOwnedTupleGo_zip st'.z fun h2 hz2 sb=>?_⟩
  have hzp:∀ c∈[z,TI,TO,i1,i2],c≠s.heap.objs.size:=fun c hc q=>by
   obtain ⟨s1,s2,⟨oa,ob,s3⟩,⟨o4,s4,_⟩,⟨o5,s5,_⟩⟩:=st
   simp only[List.mem_cons,List.not_mem_nil,or_false] at hc
   subst q
   rcases hc with rfl|rfl|rfl|rfl|rfl
   ·exact absurd (Heap.lt_size s1) (Nat.lt_irrefl _)
   ·exact absurd (Heap.lt_size s2) (Nat.lt_irrefl _)
   ·exact absurd (Heap.lt_size s3) (Nat.lt_irrefl _)
   ·exact absurd (Heap.lt_size s4) (Nat.lt_irrefl _)
   ·exact absurd (Heap.lt_size s5) (Nat.lt_irrefl _)
  have st2:Zp h2 z TI TO i1 i2 a b .none (i+1):=by
   refine ⟨hz2,sb.extBut _ _ D.d1 st'.ti,?_,st'.a1.extBut sb.extBut D.d3,st'.a2.extBut sb.extBut D.d4⟩
   obtain ⟨oa,ob,q⟩:=st'.to
   exact ⟨oa,ob,sb.extBut _ _ D.d2 q⟩
  have hk2:∀ c ob,c∉[z,TI,TO,i1,i2]->s.heap.get? c=some ob->h2.get? c=some ob:=fun c ob nc e=>by
   simp only[List.mem_cons,List.not_mem_nil,or_false,not_or] at nc
   exact sb.extBut _ _ nc.1 (hk c ob nc.1 nc.2.2.1 nc.2.2.2.1 nc.2.2.2.2 e)
  have hth:∀ c ob,s.heap.get? c=some ob->∃ ob',h2.get? c=some ob':=fun c ob e=>by
   by_cases nc:c∈[z,TI,TO,i1,i2]
   ·obtain ⟨s1,s2,⟨oa,ob,s3⟩,⟨o4,s4,_⟩,⟨o5,s5,_⟩⟩:=st2
    simp only[List.mem_cons,List.not_mem_nil,or_false] at nc
    rcases nc with rfl|rfl|rfl|rfl|rfl
    ·exact ⟨_,s1⟩
    ·exact ⟨_,s2⟩
    ·exact ⟨_,s3⟩
    ·exact ⟨_,s4⟩
    ·exact ⟨_,s5⟩
   ·exact ⟨ob,hk2 c ob nc e⟩
  have hnew:h2.get? s.heap.objs.size=some { cls:=.type "tuple",data:=.seq #[u,v] }:=sb.extBut _ _ (Ne.symm (hzp z (by simp))) ht
  have IN:L2.Inv X pins σ (upd H s.heap.objs.size (.tup [x,y])) { s with heap:=h2 }:=zgJ (s:=s) (t':=s.toks) (o:=.tup [x,y]) I hf hk2 (Nat.le_refl _) hth ⟨by show 2<=sizeLine;decide,[u,v],.cons ru (.cons rv' .nil),0,hnew⟩
  exact ⟨.ref s.heap.objs.size,_,IN,rfl,
   ⟨_,x,y,rfl,I.hok.fresh (Nat.le_refl _),rfl,fun zs q=>by rw[I.tuple_inj q q1];exact hx,fun zs q=>by rw[I.tuple_inj q q2];exact hy⟩,st2,fun c hc=>by rw[zaf (hzp c hc)];exact (hf c hc).1⟩
 done:=by
  intro X hP hw hK hc i pins s σ H E I hf st hg
  subst hP hw hK
  obtain ⟨xs,q1,hx⟩:=hg
  obtain ⟨its,rv,p,hz⟩:=I.tuple q1
  have hl:=rv.length
  have hT:s.TypeIs (.ref z) "zip":=⟨_,st.z,rfl⟩
  unfold pyNext
  refine wpAny_bind (wpAny_attempt (wpAny_callSpecial?_slot (name:=Str.ofString "__next__") hT F.slot_zip_next (wpAny_call_entry F.slot_zip_next hT F.entry_zip_next
   (zlL (l1:=a) (l2:=b) (k:=i) (xs:=its.toArray) (I.ok.hd hc) D st (show s.heap.IsTuple a its.toArray from p) (fun c hc=>zrr I (hf c hc) q1) (by simp;omega) fun h' e hk he=>?_) (F.args_zip_next_1 _))))
  obtain ⟨o,ho,hcl⟩:=he
  refine wpAny_bind (wpAny_isInstance (T:="StopIteration") (b:=true) ⟨o,ho,hcl⟩ isSubtype_stop (wpAny_pure ⟨rfl,?_⟩))
  refine zho (t':=s.toks) I hf fun c ob nc e=>?_
  simp only[List.mem_cons,List.not_mem_nil,or_false,not_or] at nc
  exact hk c ob nc.1 nc.2.2.1 nc.2.2.2.1 nc.2.2.2.2 e
 self:=fun _ _ _ _ _ st h=>wpAny_pyIter_zip st.z h
section
variable{prog:Program}{w:World}{A:Around}{E:Value->Shared->Prop}{s:Shared}
abbrev zt1(h:Heap)(a:Addr):Heap:=h.push { cls:=.type "tuple_iterator",data:=.fields #[.ref a,.int 0 0] }
abbrev zt2(h:Heap)(a b:Addr):Heap:=(zt1 h a).push { cls:=.type "tuple_iterator",data:=.fields #[.ref b,.int 0 0] }
abbrev zt3(h:Heap)(a b:Addr):Heap:=(zt2 h a b).push { cls:=.type "tuple",data:=.seq #[.ref h.objs.size,.ref (zt1 h a).objs.size] }
abbrev zt4(h:Heap)(a b:Addr):Heap:=(zt3 h a b).push { cls:=.type "tuple",data:=.seq #[.none,.none] }
abbrev zt5(h:Heap)(a b:Addr):Heap:=(zt4 h a b).push { cls:=.type "zip",data:=.fields #[.none,.bool false,.bool false,.ref (zt2 h a b).objs.size,.ref (zt3 h a b).objs.size] }
theorem ztu(a b:Addr)(xs ys:Array Value):Meets (Builtin.«zip.__new__» ⟨[.type "zip",.ref a,.ref b],[]⟩) (fun _ R s=>s.heap.IsTuple a xs/\s.heap.IsTuple b ys/\R (.ok (.ret (.ref (zt4 s.heap a b).objs.size))) { s with heap:=zt5 s.heap a b }) :=
 .of_wp fun prog w A R s h=>by
  obtain ⟨hp,g,d,tk,os⟩:=s
  obtain ⟨k1,k2,h⟩:=h
  have hsub:=sub_zip
  have t1:Heap.IsTuple (Shared.heap ⟨hp,g,d,tk,os⟩) a xs:=k1
  have t2:Heap.IsTuple (Shared.heap ⟨hp.push { cls:=.type "tuple_iterator",data:=.fields #[.ref a,.int 0 0] },g,d,tk,os⟩) b ys:=Heap.IsTuple.push k2 _
  wp_walk using wpAny_pyIter_tuple t1,wpAny_pyIter_tuple t2
  exact ⟨_,rfl,h⟩
theorem zrj{a b:Addr}{xs ys:Array Value}{Q:Value->Shared->Prop}(k1:s.heap.IsTuple a xs)(k2:s.heap.IsTuple b ys)
  (h:∀ h',Zp h' (s.heap.objs.size+4) (s.heap.objs.size+2) (s.heap.objs.size+3) s.heap.objs.size (s.heap.objs.size+1) a b .none 0->(∀ c o,s.heap.get? c=some o->h'.get? c=some o)->Q (.ref (s.heap.objs.size+4)) { s with heap:=h' }) :
  wpAny (model prog w) A (call (.type "zip") [.ref a,.ref b]) Q E s:=by
 refine callType_new F.called_zip (by decide) (F.typeCall_zip_2 _ _) (F.newCall_zip_2 _ _) (fun obj=>F.args_object_init_3 obj _ _) F.entry_zip_new (ztu a b xs ys) ⟨k1,k2,?_⟩
 have e1:(zt1 s.heap a).objs.size=s.heap.objs.size+1:=Heap.size_push ..
 have e2:(zt2 s.heap a b).objs.size=s.heap.objs.size+2:=by rw[Heap.size_push,e1]
 have e3:(zt3 s.heap a b).objs.size=s.heap.objs.size+3:=by rw[Heap.size_push,e2]
 have e4:(zt4 s.heap a b).objs.size=s.heap.objs.size+4:=by rw[Heap.size_push,e3]
 have g5:(zt5 s.heap a b).get? (zt4 s.heap a b).objs.size=some _:=Heap.get?_push_size _ rfl
 have g4:(zt5 s.heap a b).get? (zt3 s.heap a b).objs.size=some _:=Heap.get?_push_of_some _ (Heap.get?_push_size _ rfl)
 have g3:(zt5 s.heap a b).get? (zt2 s.heap a b).objs.size=some _:=Heap.get?_push_of_some _ (Heap.get?_push_of_some _ (Heap.get?_push_size _ rfl))
 have g2:(zt5 s.heap a b).get? (zt1 s.heap a).objs.size=some _:=Heap.get?_push_of_some _ (Heap.get?_push_of_some _ (Heap.get?_push_of_some _ (Heap.get?_push_size _ rfl)))
 have g1:(zt5 s.heap a b).get? s.heap.objs.size=some _:=Heap.get?_push_of_some _ (Heap.get?_push_of_some _ (Heap.get?_push_of_some _ (Heap.get?_push_of_some _ (Heap.get?_push_size _ rfl))))
 show _/\_
 rw[e2,e3,e4] at g5
 rw[e1,e2] at g3
 rw[e3] at g4
 rw[e1] at g2
 rw[e4]
 exact ⟨⟨_,g5,rfl⟩,h _ ⟨g5,g3,⟨_,_,g4⟩,⟨_,g1,rfl,rfl⟩,⟨_,g2,rfl,rfl⟩⟩ fun c o q=>Heap.get?_push_of_some _ (Heap.get?_push_of_some _ (Heap.get?_push_of_some _ (Heap.get?_push_of_some _ (Heap.get?_push_of_some _ q))))⟩
end
theorem zsE(n:Nat):ZpD (n+4) (n+2) (n+3) n (n+1):=by
 constructor <;> (intro h;have h:(_:Nat)=(_:Nat):=h;omega)
theorem zsy{K:W.Frag}{G:Hp}{a b:Addr}{vs us:List V}{ds es:List Dt}(hs:SqT K G a vs)(ht:SqT K G b us)(q:za2 K G ds vs)(q':za2 K G es us)(hl:ds.length=es.length):zlP K (Itz K a b) G ((ds.zip es).map fun z=>.tup [z.1,z.2]):=fun i G1 H s1 s2=>by
 have h1:=zaT s2 (zaT s1 hs)
 have h2:=zaT s2 (zaT s1 ht)
 refine ⟨fun d e=>?_,fun h=>⟨vs,h1,?_⟩⟩
 ·rw[List.getElem?_map] at e
  have hi:i<ds.length:=by
   by_cases hi:i<ds.length
   ·exact hi
   ·rw[List.getElem?_eq_none (by rw[List.length_zip];omega)] at e;cases e
  have z1:ds[i]? = some ds[i]:=by simp[hi]
  have z2:es[i]? = some (es[i]'(by omega)):=by simp[show i<es.length by omega]
  obtain ⟨v,e1,e2⟩:=q.get z1
  obtain ⟨u,e3,e4⟩:=q'.get z2
  have ed:d=.tup [ds[i],es[i]'(by omega)]:=by
   rw[(List.getElem?_zip_eq_some (z:=(ds[i],es[i]'(by omega)))).mpr ⟨z1,z2⟩] at e
   exact (Option.some.inj e).symm
  refine ⟨⟨vs,us,v,u,h1,h2,e1,e3⟩,fun x H' y=>?_⟩
  obtain ⟨p,x',y',rfl,hp,rfl,k1,k2⟩:=y
  have kx:=k1 vs h1
  have ky:=k2 us h2
  rw[e1] at kx;rw[e3] at ky
  cases kx;cases ky
  have gr:zea G1 H (upd G1 p (.tup [v,u])) (upd H p (.tup [v,u])):=.new s2 hp
  refine ⟨_,gr,?_⟩
  rw[ed]
  unfold Rep
  exact ⟨p,[v,u],rfl,zkg.of zaj,za2.cons ((e2.same s1).same gr.g) (za2.cons ((e4.same s1).same gr.g) za2.nil)⟩
 ·rw[<- q.length]
  simpa [hl] using h
section
variable{X:Cx}{C:Cn}{elts:List Expr}{x1:Nat}{pt:Pos}{a b:Expr}{fa fb:De}{p pos:Pos}
end
section
variable{X:Cx}{pins:List (Addr×Obj)}{σ:L2.St}{H:Hp}{s:Shared}
end
end PV
end
section
namespace PV
open PySem PySem.Spec L2 PyProof.Rows
section
variable{X:Cx}{pins:List (Addr×Obj)}{σ:L2.St}{H:Hp}{s:Shared}
variable{kS a:Addr}{kz:List Int}{vs:List Value}{xs:List V}{Θ : Hp->Prop}{e1:Nat}{A:Around}{E:Value->Shared->Prop}{P:PySem.Fin->Shared->Prop}
abbrev lo(ys:Array Value)(n:Nat):Obj:=seqObj "list" ys n
end
section
variable{X:Cx}{pins:List (Addr×Obj)}{σ:L2.St}{H:Hp}{s:Shared}
end
theorem zq4{d:Dt}{bs:List B}:∀{ρ:Ev}{k:Nat},zgd [.d d] bs k ρ = ρ
 |[],_=>rfl
 |o::r,k=>by
  show (match zdR [.d d] k with|some j=>bs[j]?|none=>o)::zgd [.d d] bs (k+1) r=_
  rw[zq4 (ρ:=r)];rfl
section
variable{X:Cx}{C:Cn}{CX:CXT}{k k':Nat}{Fd:FD}{x:Str}{p pf kp pos:Pos}{a:Expr}{fa:De}
end
end PV
end
section
namespace PV
open PySem PySem.Spec L2
def zdP(g:DG)(ft:DT)(fe:DN):List Dt->Ev->R (List (List Dt)×Ev)
 |[],ρ=>.ok ([],ρ)
 |d::r,ρ=>(g d ρ).bind fun ρ1=>(ft ρ1).bind fun t=>if t.1=true then (fe t.2).bind fun y=>(zdP g ft fe r y.2).bind fun z=>.ok (y.1::z.1,z.2) else zdP g ft fe r t.2
def zkh(K:W.Frag)(H0:Hp)(D:Addr)(G H:Hp)(w:Wn)(dss:List (List Dt))(as:List Addr):Prop :=
 (D::as).Nodup/\Paired (fun b ds=>H0 b=none/\G b=none/\w b=none/\∃ us,H b=some (.lst us)/\za2 K G ds us) as dss
theorem zkh.step{K:W.Frag}{H0 G H G' H':Hp}{w w':Wn}{D:Addr}{dss:List (List Dt)}{as:List Addr}(q:zkh K H0 D G H w dss as)(s:zbt G H w G' H' w'):zkh K H0 D G' H' w' dss as :=
 ⟨q.1,zfH (fun b ds ⟨h1,h2,h3,us,h4,h5⟩=>by
  obtain ⟨k1,k2,k3⟩:=s.keep h2 h3 h4
  exact ⟨h1,k1,k2,us,k3,h5.same s.g⟩) q.2⟩
theorem zck{α β:Type}{F:α->β->Prop}:∀{l:List α}{r:List β},Paired F l r->l.length=r.length
 |_,_,.nil=>rfl
 |_,_,.cons _ t=>by simp[zck t]
theorem zeI{α β:Type}{F:α->β->Prop}{a:α}{b:β}(h:F a b):∀{l:List α}{r:List β},Paired F l r->Paired F (l++[a]) (r++[b])
 |_,_,.nil=>.cons h .nil
 |_,_,.cons x t=>.cons x (zeI h t)
theorem zkh.len{K:W.Frag}{H0 G H:Hp}{w:Wn}{D:Addr}{dss:List (List Dt)}{as:List Addr}(q:zkh K H0 D G H w dss as):as.length=dss.length:=zck q.2
theorem zkh.snoc{K:W.Frag}{H0 G H:Hp}{w:Wn}{D p:Addr}{dss:List (List Dt)}{ds:List Dt}{us:List V}{as:List Addr}(q:zkh K H0 D G H w dss as)(nD:p≠D)(nA:p∉as)(h0:H0 p=none)(hg:G p=none)(hw:w p=none)(hp:H p=some (.lst us))(hr:za2 K G ds us):zkh K H0 D G H w (dss++[ds]) (as++[p]):=by
 refine ⟨?_,zeI ⟨h0,hg,hw,us,hp,hr⟩ q.2⟩
 have h:=q.1
 rw[List.nodup_cons] at h ⊢
 refine ⟨fun z=>?_,?_⟩
 ·rcases List.mem_append.mp z with z|z
  ·exact h.1 z
  ·exact nD (List.mem_singleton.mp z).symm
 ·rw[List.nodup_append]
  exact ⟨h.2,by simp,fun x hx y hy=>by rw[List.mem_singleton.mp hy];exact fun z=>nA (z ▸ hx)⟩
theorem zkh.updD{K:W.Frag}{H0 G H:Hp}{w:Wn}{D:Addr}{o:HO}{dss:List (List Dt)}{as:List Addr}(q:zkh K H0 D G H w dss as):zkh K H0 D G (upd H D o) w dss as :=
 ⟨q.1,zbg q.2 fun b ds hb ⟨h1,h2,h3,us,h4,h5⟩=>⟨h1,h2,h3,us,by rw[zaf (show b≠D from fun z=>(List.nodup_cons.mp q.1).1 (by rw[<- z];exact hb))];exact h4,h5⟩⟩
section
variable{X:Cx}{C:Cn}
theorem zmp{tg iter elt:Expr}{ifs:List Expr}{scope:Scope}{pos:Pos}{N':List Str}{m:Nat}{g:DG}{ft:DT}{fe:DN}(hc:X.calm=true)(hb:zeK X.N N' scope.names m=true)
  (hkind:scope.kind=.function) (hcell:∀ y∈scope.names,y.2≠.cell) (hfr:∀ y∈scope.names,y.2=.free->X.env.kindOf y.1=some .cell\/X.env.kindOf y.1=some .free)
  (hblk:∀ cl L s H fp G H' w σ,JG (zcw X N' scope cl L s H fp) (zgm C X.N.length G H' w σ) tg g/\JTs (zcw X N' scope cl L s H fp) (zgm C X.N.length G H' w σ) ifs ft/\JN (zcw X N' scope cl L s H fp) (zgm C X.N.length G H' w σ) elt fe)
  {pins:List (Addr×Obj)} {σ:L2.St} {s2:Shared} {cl:List (Str×Addr)} {RR:Value->Addr->Result->Shared->Prop} {E:Value->Shared->Prop}
  (hcl:∀ x c,cl.lookup x=some c->X.env.cells.lookup x=some c) (hcf:∀ y∈scope.names,y.2=.free->∃ c,cl.lookup y.1=some c)
  {it:Addr} {fp:List Addr} {tn:Nat->Heap->Prop} {J:It} {H2:Hp} (I2:L2.Inv X pins σ H2 s2) (T:zoA X.prog X.w X.K tg J fp it tn) (st2:tn 0 s2.heap) (f2:∀ b∈fp,zhu X pins H2 b)
  {ds:List Dt} {zs:List (List Dt)} {ρ1 ρf:Ev} {G1:Hp} {w1:Wn} (r1:Rel X.K C G1 w1 ρ1 σ H2) (it1:zlP X.K J G1 ds) (hfi:zd2 ds=true) (ec:zdP g ft fe ds (ρ1++List.replicate m none)=.ok (zs,ρf))
  (fin:∀(D L:Addr)(s':Shared)(as:List Addr)(G' H':Hp)(w':Wn),L2.Inv X pins σ H' s'->zlR X pins H' L s'->zbt G1 H2 w1 G' H' w'->Rel X.K C G' w' (ρf.take ρ1.length) σ H'->H2 D=none->H' D=some (.lst (as.map V.ref))->G' D=none->w' D=none->zkh X.K H2 D G' H' w' zs as->RR (.ref D) L (.ok .next) s') :
  wpAny (model X.prog X.w) X.A (newList []) (fun acc s₃=>wpAny (model X.prog X.w) X.A (newFunctionEnv scope X.env.globals cl [] X.env.qual none .none (some X.env)) (fun cenv s₄ =>
   codeAny (model X.prog X.w) X.A (.compStart (.ListComp elt [⟨tg,iter,ifs,0⟩] scope pos) 0 (.ref it) acc { cenv with scope:=relabel scope X.env }) (RR acc cenv.locals) s₄) E s₃) E s2:=by
 have hD:H2 s2.heap.objs.size=none:=I2.hok.fresh (Nat.le_refl _)
 refine wpAny_newObj_type (wpAny_newFunctionEnv hcell (by intro y hy;simp at hy) (fun h₁ hns₁ hsb₁=>?_) hkind)
 dsimp only at hns₁ hsb₁ ⊢
 have I3:L2.Inv X pins σ (upd H2 s2.heap.objs.size (.lst [])) { s2 with heap:=s2.heap.push { cls:=.type "list",dict:=none,data:=.seq ([]:List Value).toArray } } :=
  I2.laid (t':=s2.toks) (fun b u e=>Heap.get?_push_of_some _ e) (Nat.le_refl _) ⟨Nat.zero_le _,[],0,.nil,Heap.get?_push_size _ rfl⟩
 have hob:∀ b∈fp,∃ o,s2.heap.get? b=some o:=fun b hb=>let ⟨o,e,_⟩:=T.obj 0 _ st2 b hb;⟨o,e⟩
 have hbD:∀ b∈fp,b≠s2.heap.objs.size:=fun b hb z=>by obtain ⟨o,e⟩:=hob b hb;exact absurd (Heap.lt_size e) (by rw[z];exact Nat.lt_irrefl _)
 have f3:∀ b∈fp,zhu X pins (upd H2 s2.heap.objs.size (.lst [])) b:=fun b hb=>⟨by rw[zaf (hbD b hb)];exact (f2 b hb).1,(f2 b hb).2⟩
 have hk3:∀ b o,(s2.heap.push { cls:=.type "list",dict:=none,data:=.seq ([]:List Value).toArray }).get? b=some o->h₁.get? b=some o:=fun b o e =>
  (hsb₁.2 b (Nat.ne_of_lt (Heap.lt_size e))).trans (Heap.get?_push_of_some _ e)
 have J4:=zje (N':=N') (scope:=scope) (cl:=cl) (m:=m) (fp:=fp) (tk:=s2.toks+([]:List (Str×Value)).length) I3 f3 (fun b hb=>by obtain ⟨o,e⟩:=hob b hb;exact ⟨o,Heap.get?_push_of_some _ e⟩) hb hkind hcell hfr hcl hcf hns₁ hk3
 have st4:tn 0 h₁:=T.keep _ _ _ st2 fun b hb o e=>hk3 b o (Heap.get?_push_of_some _ e)
 generalize hX':zcw X N' scope cl (s2.heap.push { cls:=.type "list",dict:=none,data:=.seq ([]:List Value).toArray }).objs.size { s2 with heap:=s2.heap.push { cls:=.type "list",dict:=none,data:=.seq ([]:List Value).toArray } } (upd H2 s2.heap.objs.size (.lst [])) fp=X' at J4
 have eP:X'.prog=X.prog:=by rw[<- hX'];rfl
 have eW:X'.w=X.w:=by rw[<- hX'];rfl
 have eK:X'.K=X.K:=by rw[<- hX'];rfl
 have eA:X'.A=X.A:=by rw[<- hX'];rfl
 have eC:X'.calm=true:=by rw[<- hX'];exact hc
 have eE:X'.xe=fun _ _=>False:=by rw[<- hX'];rfl
 have ePn:X'.pn=[]:=by rw[<- hX'];rfl
 have eN:X'.N.length=X.N.length+m:=by
  rw[<- hX'];show N'.length=_
  unfold zeK at hb;rw[Bool.and_eq_true] at hb;exact of_decide_eq_true hb.1
 have eEx:X'.ex=fp:=by rw[<- hX'];rfl
 have hlenσ:σ.length=X.N.length:=I2.len
 obtain ⟨hg,hts,he⟩:=hblk cl (s2.heap.push { cls:=.type "list",dict:=none,data:=.seq ([]:List Value).toArray }).objs.size { s2 with heap:=s2.heap.push { cls:=.type "list",dict:=none,data:=.seq ([]:List Value).toArray } } (upd H2 s2.heap.objs.size (.lst [])) fp G1 H2 w1 (σ++List.replicate m none)
 rw[hX'] at hg hts he
 generalize hC':zgm C X.N.length G1 H2 w1 (σ++List.replicate m none)=C' at hg hts he
 have c0:C'.H₀=H2:=by rw[<- hC'];rfl
 have rel0:Rel X.K C' G1 w1 (ρ1++List.replicate m none) (σ++List.replicate m none) (upd H2 s2.heap.objs.size (.lst [])):=by
  have w0:w1 s2.heap.objs.size=none:=by
   cases q:w1 s2.heap.objs.size with
   |none=>rfl
   |some k=>exact absurd hD (r1.wh _ (by rw[q];simp))
  have base:Rel X.K C' G1 w1 (ρ1++List.replicate m none) (σ++List.replicate m none) H2:=by
   refine ⟨r1.gh,r1.wg,r1.wh,by simp[r1.len],fun i b e=>?_,by rw[<- hC'];exact .refl _ _ _,fun i _=>by rw[<- hC'];rfl⟩
   have hi':i < ρ1.length:=by
    by_cases hi':i < ρ1.length
    ·exact hi'
    ·rw[List.getElem?_append_right (by omega),List.getElem?_replicate] at e
     split at e <;> cases e
   rw[List.getElem?_append_left hi'] at e
   obtain ⟨v,h1,h2⟩:=r1.sl i b e
   exact ⟨v,by rw[List.getElem?_append_left (by rw[<- r1.len];exact hi')];exact h1,h2⟩
  exact base.upd_new (r1.gh.free hD) w0 (by rw[c0];exact hD)
 have stat:∀{H':Hp},(∀ b∈fp,H' b=none)->∀ b∈fp,zhu X' [] H' b:=fun hn b hb=>by
  have q:=J4.ok.exf b (by rw[eEx];exact hb)
  exact ⟨hn b hb,q.1,J4.ok.exfs b (by rw[eEx];exact hb),.inl (by rw[eEx];exact hb),q.2,fun p hp=>by rw[ePn] at hp;simp at hp⟩
 have loop:∀ s₃:Shared,s₃={ s2 with heap:=h₁,toks:=s2.toks+([]:List (Str×Value)).length } ->
   codeAny (model X.prog X.w) X.A (.compLoop (.ListComp elt [⟨tg,iter,ifs,0⟩] scope pos) 0 (.ref it) (.ref s2.heap.objs.size) X'.env) (RR (.ref s2.heap.objs.size) (s2.heap.push { cls:=.type "list",dict:=none,data:=.seq ([]:List Value).toArray }).objs.size) s₃:=by
  rintro s₃ rfl
  refine zfZ (fun n s'=>∃ i σ' H' ρ' G' w' ac as,L2.Inv X' [] σ' H' s'/\tn i s'.heap/\(∀ b∈fp,H' b=none)/\n=ds.length-i/\i<=ds.length/\Rel X.K C' G' w' ρ' σ' H'/\zcf G1 G' /\
   H' s2.heap.objs.size=some (.lst (as.map V.ref))/\G' s2.heap.objs.size=none/\w' s2.heap.objs.size=none/\zkh X.K H2 s2.heap.objs.size G' H' w' ac as/\ac.length<=i/\∃ z,zdP g ft fe (ds.drop i) ρ'=.ok z/\ac++z.1=zs/\z.2 = ρf) ?_ ds.length
   ⟨0,σ++List.replicate m none,_,ρ1++List.replicate m none,G1,w1,[],[],J4,st4,fun b hb=>(f3 b hb).1,by simp,Nat.zero_le _,rel0,.refl _,zaj,r1.gh.free hD,(by
    cases q:w1 s2.heap.objs.size with
    |none=>rfl
    |some k=>exact absurd hD (r1.wh _ (by rw[q];simp))),⟨by simp,.nil⟩,Nat.zero_le _,(zs,ρf),by simpa using ec,by simp,rfl⟩
  rintro n s' ⟨i,σ',H',ρ',G',w',ac,as,J5,st5,fr5,rfl,hil,r5,sg5,hd5,gd5,wd5,q5,hac,z,ez,ez1,ez2⟩
  obtain ⟨itgo,itstop⟩:=it1 i G' H' sg5 r5.gh
  by_cases hlt:i<ds.length
  ·have ed:ds.drop i=ds[i]::ds.drop (i+1):=List.drop_eq_getElem_cons hlt
   obtain ⟨go,yl⟩:=itgo ds[i] (by simp[hlt])
   have hIt:=T.item X' eP eW eK eC i [] s' σ' H' (fun _ _=>False) J5 (stat fr5) st5 go
   rw[eA] at hIt
   refine thn hIt fun rr s6 ⟨u,hr,h6⟩=>?_
   subst hr
   refine thn h6 fun _ s7 ⟨x,H7,J7,rx7,y7,st7,fr7⟩=>?_
   obtain ⟨G7,gr,rep7⟩:=yl x H7 y7
   have rel7:=r5.grow gr
   have keep7:G7 s2.heap.objs.size=none/\w' s2.heap.objs.size=none/\H7 s2.heap.objs.size=some (.lst (as.map V.ref)):=(gr.step (w:=w')).keep gd5 wd5 hd5
   have J7':=J7.pinned (stat fr7) (T.obj _ _ st7)
   rw[ed] at ez
   unfold zdP at ez
   obtain ⟨ρ3,e3,ez⟩:=zcY ez
   obtain ⟨t4,e4,ez⟩:=zcY ez
   obtain ⟨b4,ρ4⟩:=t4
   have hG:=hg ([]++zde fp s7.heap) s7 σ' H7 x u (fun σ8 H8=>∃ G8 w8,zbt G7 H7 w' G8 H8 w8/\Rel X'.K C' G8 w8 ρ3 σ8 H8) J7' rx7 ⟨G7,w',ρ',ds[i],by rw[eK];exact rel7,by rw[eK];exact rep7,by rw[e3];exact fun σ8 G8 H8 w8 s8 r8=>⟨G8,w8,s8,r8⟩⟩
   rw[eP,eW,eA,eE] at hG
   refine thn hG fun _ s8 ⟨σ8,H8,J8,G8,w8,s8s,r8⟩=>?_
   have keep8:=s8s.keep keep7.1 keep7.2.1 keep7.2.2
   have hT:=hts ([]++zde fp s7.heap) s8 σ8 H8 (fun b H9=>b=b4/\∃ G9 w9,zbt G8 H8 w8 G9 H9 w9/\Rel X'.K C' G9 w9 ρ4 σ8 H9) J8 ⟨G8,w8,ρ3,r8,by rw[e4];exact fun G9 H9 w9 s9 r9=>⟨rfl,G9,w9,s9,r9⟩⟩
   rw[eP,eW,eA,eE] at hT
   refine thn hT fun ok s9 ⟨H9,J9,eok,G9,w9,s9s,r9⟩=>?_
   subst eok
   have keep9:=s9s.keep keep8.1 keep8.2.1 keep8.2.2
   have sG9:zcf G1 G9:=((sg5.trans gr.g).trans s8s.g).trans s9s.g
   have after:∀{σa:L2.St}{Ha:Hp}{sa:Shared},L2.Inv X' ([]++zde fp s7.heap) σa Ha sa->tn (i+1) sa.heap/\∀ b∈fp,Ha b=none:=fun {σa Ha sa} Ja =>
    ⟨T.keep _ _ _ st7 fun b hb o e=>(Ja.pin (b,o) (List.mem_append_right _ (List.mem_append_right _ (zcG hb e)))).1,fun b hb=>by
     obtain ⟨o,e,_⟩:=T.obj _ _ st7 b hb
     exact (Ja.pin (b,o) (List.mem_append_right _ (List.mem_append_right _ (zcG hb e)))).2.1⟩
   have q9:zkh X.K H2 s2.heap.objs.size G9 H9 w9 ac as:=(q5.step (((gr.step (w:=w')).trans s8s).trans s9s))
   cases ok with
   |false =>
    rw[if_neg Bool.false_ne_true]
    simp only[Bool.false_eq_true,if_false] at ez
    obtain ⟨k1,k2⟩:=after J9
    exact ⟨ds.length-(i+1),by omega,i+1,σ8,H9,ρ4,G9,w9,ac,as,J9.unpinned,k1,k2,rfl,hlt,by rw[<- eK];exact r9,sG9,keep9.2.2,keep9.1,keep9.2.1,q9,by omega,z,ez,ez1,ez2⟩
   |true =>
    rw[if_pos rfl]
    simp only[if_true] at ez
    obtain ⟨y10,e10,ez⟩:=zcY ez
    obtain ⟨yd,ρ10⟩:=y10
    obtain ⟨z',ez',ez3⟩:=zcY ez
    have hEl:=he ([]++zde fp s7.heap) s9 σ8 H9 (fun v H10=>∃ G10 w10 pn us,v=.ref pn/\zbt G9 H9 w9 G10 H10 w10/\Rel X'.K C' G10 w10 ρ10 σ8 H10/\H9 pn=none/\H10 pn=some (.lst us)/\G10 pn=none/\w10 pn=none/\za2 X'.K G10 yd us) J9 ⟨G9,w9,ρ4,r9,by rw[e10];exact fun pn us G10 H10 w10 s10 r10 n0 n1 n2 n3 q10=>⟨G10,w10,pn,us,rfl,s10,r10,n0,n1,n2,n3,q10⟩⟩
    rw[eP,eW,eA,eE] at hEl
    refine thn hEl fun xv s10 ⟨vy,H10,J10,ry,G10,w10,pn,us,evy,s10s,r10,n0,n1,n2,n3,q10⟩=>?_
    subst evy
    have keep10:=s10s.keep keep9.1 keep9.2.1 keep9.2.2
    have q10a:=q9.step s10s
    have hlen:=q9.len
    have hAp:=zd1 (X:=X') ([]++zde fp s7.heap) s10 σ8 H10 (.ref s2.heap.objs.size) [.ref pn] (.ref s2.heap.objs.size) [xv] (fun v H11=>H11=upd H10 s2.heap.objs.size (.lst (as.map V.ref++[.ref pn]))) J10 rfl (.cons ry .nil)
     ⟨s2.heap.objs.size,as.map V.ref,.ref pn,rfl,rfl,keep10.2.2,by
      have:=zgG hfi
      rw[List.length_map]
      omega,rfl⟩
    rw[eP,eW,eA,eE] at hAp
    refine thn hAp fun _ s11 ⟨v11,H11,J11,_,e11⟩=>?_
    subst e11
    obtain ⟨k1,k2⟩:=after J11
    have rel11:Rel X.K C' G10 w10 ρ10 σ8 (upd H10 s2.heap.objs.size (.lst (as.map V.ref++[.ref pn]))):=by
     rw[<- eK]
     exact r10.upd_new keep10.1 keep10.2.1 (by rw[c0];exact hD)
    have nD:pn≠s2.heap.objs.size:=fun z=>by rw[z,keep9.2.2] at n0;cases n0
    have h20:H2 pn=none:=by
     have:=r9.en.k pn n0
     rw[c0] at this;exact this
    have nA:pn∉as:=fun z=>by
     obtain ⟨_,_,_,_,us',e,_⟩:=zcH q9.2 pn z
     rw[n0] at e;cases e
    have q11:zkh X.K H2 s2.heap.objs.size G10 (upd H10 s2.heap.objs.size (.lst (as.map V.ref++[.ref pn]))) w10 (ac++[yd]) (as++[pn]):=(q10a.snoc nD nA h20 n2 n3 n1 (by rw[<- eK];exact q10)).updD
    cases ez3
    refine ⟨ds.length-(i+1),by omega,i+1,σ8,_,ρ10,G10,w10,ac++[yd],as++[pn],J11.unpinned,k1,k2,rfl,hlt,rel11,sG9.trans s10s.g,by rw[zaj];simp,keep10.1,keep10.2.1,q11,by simp;omega,z',ez',by rw[<- ez1];simp,ez2⟩
  ·have e:i=ds.length:=by omega
   subst e
   have hDn:=T.done X' eP eW eK eC ds.length [] s' σ' H' (fun _ _=>False) J5 (stat fr5) st5 (itstop (Nat.le_refl _))
   rw[eA] at hDn
   refine thn hDn fun rr s6 ⟨hr,J6⟩=>?_
   subst hr
   simp only[List.drop_length] at ez
   unfold zdP at ez
   cases ez
   obtain ⟨m6,hn6,_⟩:=id J6.loc
   have eL:X'.env.locals=(s2.heap.push { cls:=.type "list",dict:=none,data:=.seq ([]:List Value).toArray }).objs.size:=by rw[<- hX'];rfl
   rw[eL] at hn6
   have frL:H' (s2.heap.push { cls:=.type "list",dict:=none,data:=.seq ([]:List Value).toArray }).objs.size=none:=by rw[<- eL];exact J6.free
   rw[<- hX'] at J6
   have IX:L2.Inv X pins σ H' s6:=zof (h':=s6.heap) I3 f3 (Nat.le_refl _) J6 ⟨rfl,fun _ _=>rfl⟩
   simp only[List.append_nil] at ez1
   subst ez1
   subst ez2
   have hLs:∀ b o,(s2.heap.push { cls:=.type "list",dict:=none,data:=.seq ([]:List Value).toArray }).get? b=some o->(s2.heap.push { cls:=.type "list",dict:=none,data:=.seq ([]:List Value).toArray }).objs.size≠b:=fun b o e z=>absurd (Heap.lt_size e) (by rw[z];exact Nat.lt_irrefl _)
   have lo:zlR X pins H' (s2.heap.push { cls:=.type "list",dict:=none,data:=.seq ([]:List Value).toArray }).objs.size s6:=by
    refine ⟨frL,fun z=>?_,.inr I3.sz,fun x c e z=>?_,fun p hp z=>?_,m6,hn6⟩
    ·exact absurd I3.lt (by rw[<- z];exact Nat.lt_irrefl _)
    ·obtain ⟨v,q⟩:=I3.cell x c e
     exact absurd q.lt (by rw[z];exact Nat.lt_irrefl _)
    ·exact hLs p.1 p.2 (I3.pin p hp).1 z.symm
   have cG:C'.G₀=G1:=by rw[<- hC'];rfl
   have cw:C'.w₀=w1:=by rw[<- hC'];rfl
   have en':zbt G1 H2 w1 G' H' w':=by have:=r5.en;rw[cG,c0,cw] at this;exact this
   have hρlen:ρ'.length=X.N.length+m:=by
    rw[r5.len,J5.len,eN]
   refine fin _ _ s6 as G' H' w' IX lo en' ⟨r5.gh,r5.wg,r5.wh,?_,fun i b e=>?_,r1.en.trans en',r1.pin⟩ hD hd5 gd5 wd5 q5
   ·rw[List.length_take,hρlen,r1.len,hlenσ];omega
   ·have hi':i < ρ1.length:=by
     by_cases hi':i < ρ1.length
     ·exact hi'
     ·rw[List.getElem?_eq_none (by rw[List.length_take];omega)] at e;cases e
    rw[List.getElem?_take_of_lt hi'] at e
    obtain ⟨v,h1,h2⟩:=r5.sl i b e
    refine ⟨v,?_,h2⟩
    have hpi:=r5.pin i (by rw[<- hC'];exact List.mem_range.mpr (by rw[<- hlenσ,<- r1.len];exact hi'))
    rw[h1] at hpi
    rw[<- hC'] at hpi
    have hpi':some (some v)=(σ++List.replicate m none)[i]? := hpi
    rw[List.getElem?_append_left (by rw[<- r1.len];exact hi')] at hpi'
    exact hpi'.symm
 have envEq:X'.env=compEnvC scope cl (s2.heap.push { cls:=.type "list",dict:=none,data:=.seq ([]:List Value).toArray }).objs.size X.env:=by rw[<- hX'];rfl
 rw[envEq] at loop
 exact codeAny_compStart_list (loop _ rfl) (T.self X.A 0 _ _ _ st4 (loop _ rfl))
def zlF(i:Nat)(fi:DA)(g:DG)(ft:DT)(fe:DN)(m:Nat):DS:=fun ρ=>(fi ρ).bind fun a=>if zd2 a.1=true then match zdP g ft fe a.1 (a.2++List.replicate m none) with
  |.ok z=>if i<a.2.length then .ok (.nx,(z.2.take a.2.length).set i (some (.own2 z.1))) else .no
  |_=>.no
 else .no
theorem Rel.setOwn2{K:W.Frag}{σ:L2.St}{G0 H0:Hp}{w0:Wn}{G H:Hp}{w:Wn}{ρ:Ev}{i:Nat}{dss:List (List Dt)}{p:Addr}{as:List Addr}(r:Rel K C G w ρ σ H)(hi:i < ρ.length)(hpp:i∉C.pp)(hp:H p=some (.lst (as.map V.ref)))(hg:G p=none)(hw:w p=none)
  (q:zkh K H0 p G H w dss as) (s:zbt G0 H0 w0 G H w) (h0:H0 p=none) (en0:∀ b,H0 b=none->C.H₀ b=none) :
  Rel K C G (fun b=>if b∈p::as then some i else w b) (ρ.set i (some (.own2 dss))) (σ.set i (some (.ref p))) H/\zbt G0 H0 w0 G H (fun b=>if b∈p::as then some i else w b):=by
 have fr:∀ b∈p::as,H0 b=none/\G b=none/\w b=none/\H b≠none:=fun b hb=>by
  rcases List.mem_cons.mp hb with rfl|hb
  ·exact ⟨h0,hg,hw,by rw[hp];simp⟩
  ·obtain ⟨ds,k1,k2,k3,us,k4,_⟩:=zcH q.2 b hb
   exact ⟨k1,k2,k3,by rw[k4];simp⟩
 have s1:∀{G1 H1:Hp}{w1:Wn},zbt G1 H1 w1 G H w->(∀ b∈p::as,H1 b=none)->zbt G1 H1 w1 G H (fun b=>if b∈p::as then some i else w b):=fun s z=>by
  refine ⟨s.g,s.fr,s.h,fun b e=>?_,s.k⟩
  by_cases hb:b∈p::as
  ·exact .inr (z b hb)
  ·simp only[hb,if_false] at e;exact s.w b e
 refine ⟨⟨r.gh,fun b e=>?_,fun b e=>?_,by simpa using r.len,fun j b e=>?_,s1 r.en (fun b hb=>en0 b (fr b hb).1),fun j hj=>?_⟩,s1 s fun b hb=>(fr b hb).1⟩
 ·by_cases hb:b∈p::as
  ·exact (fr b hb).2.1
  ·simp only[hb,if_false] at e;exact r.wg b e
 ·by_cases hb:b∈p::as
  ·exact (fr b hb).2.2.2
  ·simp only[hb,if_false] at e;exact r.wh b e
 ·by_cases hj:j=i
  ·subst hj
   rw[List.getElem?_set_self hi] at e
   cases e
   refine ⟨_,List.getElem?_set_self (by rw[<- r.len];exact hi),p,as,rfl,by simp,hp,q.1,zbg q.2 fun b ds hb ⟨_,_,_,us,k4,k5⟩=>⟨?_,us,k4,k5⟩⟩
   simp[List.mem_cons_of_mem _ hb,hb]
  ·rw[List.getElem?_set_ne (Ne.symm hj)] at e
   obtain ⟨v',k1,k2⟩:=r.sl j b e
   refine ⟨v',by rw[List.getElem?_set_ne (Ne.symm hj)];exact k1,k2.grow (.refl _) fun a o e1 e2=>⟨e2,?_⟩⟩
   have:a∉p::as:=fun z=>by rw[(fr a z).2.2.1] at e1;cases e1
   simp only[this,if_false];exact e1
 ·have:i≠j:=fun z=>hpp (z ▸ hj)
  rw[List.getElem?_set_ne this];exact r.pin j hj
theorem zkD{tg iter elt:Expr}{ifs:List Expr}{scope:Scope}{pos spos:Pos}{N':List Str}{m i:Nat}{x:Str}{px:Pos}{fi:DA}{g:DG}{ft:DT}{fe:DN}(hN:X.N.Nodup)(hix:X.N[i]? = some x)(hx:Loc X.env.scope x)(hp:i∉C.pp)(hi:JI X C tg iter fi)(hc:X.calm=true)(hb:zeK X.N N' scope.names m=true)
  (hkind:scope.kind=.function) (hcell:∀ y∈scope.names,y.2≠.cell) (hfr:∀ y∈scope.names,y.2=.free->X.env.kindOf y.1=some .cell\/X.env.kindOf y.1=some .free) (hnames:∀ y∈scope.names,y.2=.local->scope.names.lookup y.1=some .local)
  (hblk:∀ cl L s H fp G H' w σ,JG (zcw X N' scope cl L s H fp) (zgm C X.N.length G H' w σ) tg g/\JTs (zcw X N' scope cl L s H fp) (zgm C X.N.length G H' w σ) ifs ft/\JN (zcw X N' scope cl L s H fp) (zgm C X.N.length G H' w σ) elt fe)
  (hsw:swapsWith (.ListComp elt [⟨tg,iter,ifs,0⟩] scope pos) (some (.Name x px)) spos.line X.env=pure true:=by rfl) (hf:X.fn x=true\/X.env.scope.names.lookup x=some .local:=by first|exact .inl rfl|exact .inr rfl|assumption)
  (hs:∀ x,foldedSetIterable iter X.env x=pure x:=by intro _;rfl):JS X C (.Assign [.Name x px] (.ListComp elt [⟨tg,iter,ifs,0⟩] scope pos) spos) (zlF i fi g ft fe m):=by
 intro pins s σ H D I ⟨G,w,ρ,r,p⟩
 obtain ⟨cl,hclos,hcl,hcf⟩:=zez (scope:=scope) (env:=X.env) fun y hy hf=>I.ok.has y.1 (hfr y hy hf)
 rw[exec_Assign_Name_used _ _ _ _ hsw]
 refine wpAny_bind (wpAny_standAt (wpAny_bind ?_))
 show wpAny _ X.A (do let _ <- comprehension (.ListComp elt [⟨tg,iter,ifs,0⟩] scope pos) scope X.env _ (newList []) false (eval iter X.env) (some (assign (.Name x px) X.env))) _ _ s
 refine wpAny_bind (wpAny_mono (wpAny_comprehension_free (use:=some (assign (.Name x px) X.env)) (Q:=fun _ s'=>SP X pins D .next s') rfl hs hclos hkind hnames ?_) (fun _ s' hq=>wpAny_pure (wpAny_pure hq)) fun _ _ e=>e)
 refine thn (hi pins s σ H (fun J H2=>∃ ds ρ1 G1 w1 zs ρf,Rel X.K C G1 w1 ρ1 σ H2/\zlP X.K J G1 ds/\zd2 ds=true/\zdP g ft fe ds (ρ1++List.replicate m none)=.ok (zs,ρf)/\i < ρ1.length/\zc0 C.ex (kS X.K C D G1 H2 w1) (.ok (.nx,(ρf.take ρ1.length).set i (some (.own2 zs))))) I ?_) fun v s1 h1=>thn h1 fun itv s2 h2=>?_
 ·refine ztS (κ:=fun G H w=>kS X.K C D G H w) zeg r p fun ds ρ1 J G1 H1 w1 r1 st1 it1 p1=>?_
  dsimp only at p1
  split at p1
  ·rename_i hfi
   split at p1
   ·rename_i z ez
    split at p1
    ·rename_i hl
     exact ⟨ds,ρ1,G1,w1,z.1,z.2,r1,it1,hfi,ez,hl,p1⟩
    ·exact False.elim p1
   ·exact False.elim p1
  ·exact False.elim p1
 obtain ⟨it,fp,tn,J,H2,rfl,I2,T,st2,f2,ds,ρ1,G1,w1,zs,ρf,r1,it1,hfi,ec,hil,kk⟩:=h2
 refine zmp (RR:=fun acc C=>compPost (model X.prog X.w) X.A X.xe (some (assign (.Name x px) X.env)) (fun _ s'=>SP X pins D .next s') acc C) hc hb hkind hcell hfr hblk hcl hcf I2 T st2 f2 r1 it1 hfi ec fun Da L s' as G' H' w' I' lo st rel h0 h1 h2 h3 q=>?_
 show wpAny _ X.A (assign (.Name x px) X.env (.ref Da)) _ _ _
 refine wpAny_assign_Name (zhr I' hN hix hx (v:=.ref Da) rfl (fun s'' I'' hch=>?_) hf)
 obtain ⟨mm,hn⟩:=lo.ns
 obtain ⟨a,sb,ha⟩:=hch
 have hLa:L≠a:=by
  rcases ha with z|z
  ·rw[z];exact lo.nl
  ·exact fun y=>lo.nc x a z y.symm
 refine ⟨mm,hn.sameBut sb hLa,fun h' hsb=>⟨σ.set i (some (.ref Da)),H',?_,?_⟩⟩
 ·exact I''.turned (t':=s''.toks) (fun b o hb e=>(hsb.2 b hb).trans e) lo.fr lo.nl lo.nw lo.nc lo.np
 ·have hlr:i<(ρf.take ρ1.length).length:=by
   rw[rel.len,<- r1.len];exact hil
  obtain ⟨r',s'⟩:=rel.setOwn2 hlr hp h1 h2 h3 q st h0 r1.en.k
  exact kk _ _ _ _ s' r'
end
theorem zhS{α β:Type}{F F':α->β->Prop}{b:α}{d':β}:∀{l:List α}{r:List β}{j:Nat},Paired F l r->l.Nodup->l[j]? = some b->(∀ c d,c≠b->F c d->F' c d)->F' b d'->Paired F' l (r.set j d')
 |_,_,j,.nil,_,e,_,_=>by simp at e
 |x::l,y::r,0,.cons h t,nd,e,k,n=>by
  simp at e;subst e
  refine .cons n (zbg t fun c d hc q=>k c d (fun z=>?_) q)
  subst z
  exact (List.nodup_cons.mp nd).1 hc
 |x::l,y::r,j+1,.cons h t,nd,e,k,n=>by
  have e':l[j]? = some b:=by simpa using e
  refine .cons (k x y (fun z=>?_) h) (zhS t (List.nodup_cons.mp nd).2 e' k n)
  subst z
  exact (List.nodup_cons.mp nd).1 (List.mem_of_getElem? e')
theorem zd6{α β:Type}{F:α->β->Prop}:∀{l:List α}{r:List β}{j:Nat}{d:β},Paired F l r->r[j]? = some d->∃ a,l[j]? = some a/\F a d
 |_,_,j,d,.nil,e=>by simp at e
 |x::l,y::r,0,d,.cons h t,e=>by simp at e;subst e;exact ⟨x,rfl,h⟩
 |x::l,y::r,j+1,d,.cons h t,e=>by
  obtain ⟨a,h1,h2⟩:=zd6 (j:=j) t (by simpa using e)
  exact ⟨a,by simpa using h1,h2⟩
theorem Rel.mutate2{K:W.Frag}{C:Cn}{σ:L2.St}{G H:Hp}{w:Wn}{ρ:Ev}{i j:Nat}{dss:List (List Dt)}{ds':List Dt}{a b:Addr}{as:List Addr}{us':List V}(r:Rel K C G w ρ σ H)(hi:ρ[i]? = some (some (.own2 dss)))(hv:σ[i]? = some (some (.ref a)))(hw:w a=some i)
  (ha:H a=some (.lst (as.map V.ref))) (nd:(a::as).Nodup) (hp:Paired (fun b ds=>w b=some i/\∃ vs,H b=some (.lst vs)/\za2 K G ds vs) as dss) (hb:as[j]? = some b) (h':za2 K G ds' us') :
  Rel K C G w (ρ.set i (some (.own2 (dss.set j ds')))) σ (upd H b (.lst us'))/\zbt G H w G (upd H b (.lst us')) w:=by
 have hbm:b∈as:=List.mem_of_getElem? hb
 obtain ⟨_,hwb,_⟩:=zcH hp b hbm
 have gb:G b=none:=r.wg b (by rw[hwb];simp)
 have nab:a≠b:=fun z=>(List.nodup_cons.mp nd).1 (z ▸ hbm)
 have st:zbt G H w G (upd H b (.lst us')) w:=by
  refine ⟨.refl _,fun c o e=>.inl (by rw[e];simp),fun c o e z=>?_,fun _ e=>.inl e,fun c e=>?_⟩
  ·have:c≠b:=fun q=>by subst q;rw[hwb] at z;cases z
   rw[zaf this];exact e
  ·by_cases hc:c=b
   ·subst hc;rw[zaj] at e;cases e
   ·rw[zaf hc] at e;exact e
 refine ⟨⟨fun c o e=>?_,r.wg,fun c e=>?_,by simpa using r.len,fun k bb e=>?_,r.en.trans st,r.pin⟩,st⟩
 ·rw[zaf (zah e gb)];exact r.gh c o e
 ·by_cases hc:c=b
  ·subst hc;rw[zaj];simp
  ·rw[zaf hc];exact r.wh c e
 ·by_cases hk:k=i
  ·subst hk
   rw[List.getElem?_set_self (List.getElem?_eq_some_iff.mp hi).1] at e
   cases e
   refine ⟨_,hv,a,as,rfl,hw,by rw[zaf nab];exact ha,nd,?_⟩
   refine zhS hp (List.nodup_cons.mp nd).2 hb (fun c ds nc ⟨q1,vs,q2,q3⟩=>⟨q1,vs,by rw[zaf nc];exact q2,q3⟩) ⟨hwb,us',zaj,h'⟩
  ·rw[List.getElem?_set_ne (Ne.symm hk)] at e
   obtain ⟨v',h1,h2⟩:=r.sl k bb e
   refine ⟨v',h1,h2.grow (.refl _) fun c o e1 e2=>⟨?_,e1⟩⟩
   have:c≠b:=fun z=>by subst z;rw[hwb] at e1;exact hk (Option.some.inj e1).symm
   rw[zaf this];exact e2
def zg0(i jx:Nat)(fk:De):De:=fun ρ=>match ρ[i]? with
 |some (some (.own2 _))=>(fk ρ).bind fun k=>match k.2[i]?,k.1,k.2[jx]? with
  |some (some (.own2 dss)),.int n,some (some (.val d))=>match ixN dss.length n with
   |some j=>match dss[j]? with
    |some ds=>if ds.length<16777216 then .ok (.non,k.2.set i (some (.own2 (dss.set j (ds++[d]))))) else .no
    |none=>.no
   |none=>.no
  |_,_,_=>.no
 |_=>.no
section
variable{X:Cx}{C:Cn}{k:Expr}{fk:De}{pos ps py sp apos:Pos}{x y:Str}
theorem znK(i jx:Nat)(hk:JE X C k fk)(hN:X.N[i]? = some x:=by rfl)(hNy:X.N[jx]? = some y:=by rfl)(hv:Vis X.env.scope x:=by first|exact Or.inl rfl|exact Or.inr (Or.inl rfl)|exact Or.inr (Or.inr rfl))(hvy:Vis X.env.scope y:=by first|exact Or.inl rfl|exact Or.inr (Or.inl rfl)|exact Or.inr (Or.inr rfl))
  (hd:(x == ("__debug__" : Str))=false:=by decide) (hcd:(x == ("__classdict__" : Str))=false:=by decide) (hdy:(y == ("__debug__" : Str))=false:=by decide) (hcdy:(y == ("__classdict__" : Str))=false:=by decide)
  (hix:zel k:=by exact fun _ _=>rfl)
  (hbase:attributeBase (.Subscript (.Name x ps) k sp) "append" X.env (eval (.Subscript (.Name x ps) k sp) X.env)=eval (.Subscript (.Name x ps) k sp) X.env:=by rfl)
  (hfew:((backTo pos (starEach [.Name y py] X.env)).all (fun x=>!x.1) && (backToKw pos (keywordEach [] X.env)).all (fun x=>x.1.isSome) && decide ([Expr.Name y py].length+([]:List Keyword).length+(if ([]:List Keyword).isEmpty then 0 else 1)<30))=true:=by rfl)
  (hline:(apos.endLine == pos.line)=true:=by rfl) (hs:starEach [.Name y py] X.env=(false,eval (.Name y py) X.env)::starEach [] X.env:=by rfl) (hplain:(backTo pos (starEach [] X.env)).any (·.1)=false:=by rfl) :
  JE X C (.Call (.Attribute (.Subscript (.Name x ps) k sp) "append" apos) [.Name y py] [] pos) (zg0 i jx fk) :=
 PE.weak (zi2 PySem.F.plainAttrs_list PySem.F.slot_list_append PySem.F.type_list_append zd1 (zh5 zeH (zbw hN hv hd hcd) hk hix) (zaE (zbw hNy hvy hdy hcdy) zb3 hs) hbase hfew hline hs hplain) fun σ H Q ⟨G,w,ρ,r,p⟩=>by
  unfold zg0 at p
  split at p
  ·rename_i dss0 e0
   obtain ⟨v0,h0,_⟩:=r.sl i _ e0
   refine ⟨v0,h0,?_⟩
   refine zd7 (κ:=fun G H w=>kE X.K C σ Q G H w) zbG r p fun d ρ1 v G1 H1 w1 r1 s1 q1 p1=>?_
   dsimp only at p1
   split at p1
   ·rename_i dss n dy e1 ey
    split at p1
    ·rename_i j ej
     split at p1
     ·rename_i ds eds
      split at p1
      ·rename_i hl
       obtain ⟨v1,g1,a,as,rfl,g2,g3,g4,g5⟩:=r1.sl i _ e1
       rw[h0] at g1;cases g1
       obtain ⟨b,eb,hwb,us,hb,hrs⟩:=zd6 g5 eds
       obtain ⟨vy,gy,hy⟩:=r1.sl jx _ ey
       have hlen:=zck g5
       have hat:atI (as.map V.ref) n=some (.ref b):=by
        unfold atI
        rw[List.length_map,hlen,ej]
        simp only[Option.bind_some]
        rw[List.getElem?_map,eb];rfl
       have hy':Rep X.K G1 dy vy:=hy
       obtain ⟨r',s'⟩:=r1.mutate2 e1 h0 g2 g3 g4 g5 eb (hrs.append (za2.cons hy' za2.nil))
       exact ⟨a,as.map V.ref,n,.ref b,rfl,za0 q1,SqL.of g3,hat,.inl ⟨rfl,us,SqL.of hb⟩,vy,gy,b,us,vy,rfl,rfl,hb,by rw[<- hrs.length,zci];exact hl,p1 _ _ _ _ s' r' (by unfold Rep;rfl)⟩
      ·exact False.elim p1
     ·exact False.elim p1
    ·exact False.elim p1
   ·exact False.elim p1
  ·exact p.elim
end
theorem zqm:bootBuiltins "len"=some (.builtin "len"):=PySem.boot_len
theorem zsA:bootBuiltins "max"=some (.builtin "max"):=PyProof.Rows.boot_max
theorem zsV:bootBuiltins "min"=some (.builtin "min"):=PyProof.Rows.boot_min
theorem zsW:bootBuiltins "all"=some (.builtin "all"):=PyProof.Rows.boot_all
theorem zcv:bootBuiltins "isinstance"=some (.builtin "isinstance"):=PyProof.Rows.boot_isinstance
theorem zcF:bootBuiltins "tuple"=some (.type "tuple"):=by decide +kernel
theorem zgP:bootBuiltins "list"=some (.type "list"):=by decide +kernel
theorem zli:bootBuiltins "int"=some (.type "int"):=by decide +kernel
theorem zkV:bootBuiltins "bool"=some (.type "bool"):=by decide +kernel
theorem zhF:bootBuiltins "str"=some (.type "str"):=by decide +kernel
section
variable{X:Cx}{C:Cn}{a b e:Expr}{fa fb:De}{p pos:Pos}
theorem ze6(hm:X.mg "len"=none)(ha:JE X C e fa)(hg:Gl X "len":=by rfl)(hs:starEach [e] X.env=(false,eval e X.env)::starEach [] X.env:=by rfl)(hpl:(backTo pos (starEach [] X.env)).any (·.1)=false:=by rfl):JE X C (.Call (.Name "len" p) [e] [] pos) (dFn zca (dA fa dA0)) :=
 zgp zsL zsH (zev.or zji) hg hm zqm (zaw ha zaG hs) (by decide) (by decide) hs hpl
theorem zti(hc:X.calm=true)(hm:X.mg "max"=none)(ha:JE X C a fa)(hb:JE X C b fb)(hg:Gl X "max":=by rfl)(hs:starEach [a,b] X.env=(false,eval a X.env)::starEach [b] X.env:=by rfl)(hs2:starEach [b] X.env=(false,eval b X.env)::starEach [] X.env:=by rfl)(hpl:(backTo pos (starEach [b] X.env)).any (·.1)=false:=by rfl):JE X C (.Call (.Name "max" p) [a,b] [] pos) (dFn ziL (dA fa (dA fb dA0))) :=
 zgp zqY zrk (zoq hc) hg hm zsA (zaw ha (zaw hb zaG hs2) hs) (by decide) (by decide) hs hpl
theorem zss(hc:X.calm=true)(hm:X.mg "min"=none)(ha:JE X C a fa)(hb:JE X C b fb)(hg:Gl X "min":=by rfl)(hs:starEach [a,b] X.env=(false,eval a X.env)::starEach [b] X.env:=by rfl)(hs2:starEach [b] X.env=(false,eval b X.env)::starEach [] X.env:=by rfl)(hpl:(backTo pos (starEach [b] X.env)).any (·.1)=false:=by rfl):JE X C (.Call (.Name "min" p) [a,b] [] pos) (dFn zi6 (dA fa (dA fb dA0))) :=
 zgp zr0 zr2 (zol hc) hg hm zsV (zaw ha (zaw hb zaG hs2) hs) (by decide) (by decide) hs hpl
theorem zmO(hc:X.calm=true)(hm:X.mg "all"=none)(ha:JE X C e fa)(hg:Gl X "all":=by rfl)(hs:starEach [e] X.env=(false,eval e X.env)::starEach [] X.env:=by rfl)(hpl:(backTo pos (starEach [] X.env)).any (·.1)=false:=by rfl):JE X C (.Call (.Name "all" p) [e] [] pos) (dFn zlE (dA fa dA0)) :=
 zgp ztb zt9 (zmK hc) hg hm zsW (zaw ha zaG hs) (by decide) (by decide) hs hpl
theorem zgw(hm:X.mg "tuple"=none)(ha:JE X C e fa)(hg:Gl X "tuple":=by rfl)(hs:starEach [e] X.env=(false,eval e X.env)::starEach [] X.env:=by rfl)(hpl:(backTo pos (starEach [] X.env)).any (·.1)=false:=by rfl):JE X C (.Call (.Name "tuple" p) [e] [] pos) (dFn zda (dA fa dA0)) :=
 zg6 zpo zp9 zfi hg hm zcF (zaw ha zaG hs) (by decide) (by decide) hs hpl
theorem ztt(hm:X.mg "list"=none)(ha:JE X C e fa)(hg:Gl X "list":=by rfl)(hs:starEach [e] X.env=(false,eval e X.env)::starEach [] X.env:=by rfl)(hpl:(backTo pos (starEach [] X.env)).any (·.1)=false:=by rfl):JN X C (.Call (.Name "list" p) [e] [] pos) (zoK zk5 (dA fa dA0)) :=
 znc zqR zrg zjv hg hm zgP (zaw ha zaG hs) (by decide) (by decide) hs hpl
end
theorem zgt{nw:Bool}{P:Program}{w:World}{K:W.Frag}{mg:Str->Option Value}{base:Heap}{CX:CXT}{xv:Nat->Value}{k:Nat}{x qual:Str}{st:Stmt}{f:Addr}{fd:FuncData}{ps:List Str}{ks:List Bool}(hl:ps.length=ks.length)(U:Fun K x qual st f fd)(hm:mg x=some (.ref f))(hb:zfz K fd ps []) :
  Dfn nw P w K mg base CX xv k x ks (fun _=>.no) :=
 ⟨f,fd,ps,⟨fun vs H Q E ⟨_,_,_,h,_⟩=>h.trans hl.symm,fun _ _ _ _ _ _ _ _ _ _ _ _ _ ⟨_,_,_,_,_,_,h⟩=>False.elim h⟩,hm,U.kp,hb,fun bs h=>absurd rfl h⟩
theorem zeP{k:Nat}{A:Around}(hr:zdV k A):A.units+64<cLine:=by have:=hr.un;omega
theorem hu65{k:Nat}{A:Around}(hr:zdV k A):A.units+65<cLine:=by have:=hr.un;omega
theorem zaF{names:List (Str×NameKind)}(h:(names.all fun y=>y.2 != .cell)=true):∀ y∈names,y.2≠.cell:=fun y hy z=>by
 rw[List.all_eq_true] at h
 have:=h y hy
 rw[z] at this;simp at this
theorem zbv{names:List (Str×NameKind)}(h:(names.all fun y=>y.2 != .local || (names.lookup y.1 == some .local))=true):∀ y∈names,y.2=.local->names.lookup y.1=some .local:=fun y hy z=>by
 rw[List.all_eq_true] at h
 have:=h y hy
 rw[z] at this;simpa using this
theorem zaX{names:List (Str×NameKind)}{env:Env}(h:(names.all fun y=>y.2 != .free || (env.kindOf y.1 == some .cell || env.kindOf y.1 == some .free))=true):∀ y∈names,y.2=.free->env.kindOf y.1=some .cell\/env.kindOf y.1=some .free:=fun y hy z=>by
 rw[List.all_eq_true] at h
 have:=h y hy
 rw[z] at this;simpa using this
end PV
end
section
namespace PV
open PySem PySem.Spec L2 PyProof.Rows
theorem zoE{P:Program}{w:World}{H:Hp}{h h':Heap}(x:HOk P w H h)(k:∀ b u o,H b=some u->h.get? b=some o->h'.get? b=some o):HOk P w H h':=fun a o e =>
 (x a o e).stay (fun b u hb q=>by
  rcases hb with rfl|hb
  ·exact k _ _ _ e q
  ·exact k _ _ _ hb q) (fun _ z=>z) fun _ _ z=>z
theorem ztJ{P:Program}{w:World}{H:Hp}{h:Heap}{a:Addr}{o:HO}(x:zc4 P w H h a o):∃ u,h.get? a=some u:=by
 induction o with
 |lst xs=>obtain ⟨_,_,_,_,e⟩:=x;exact ⟨_,e⟩
 |tup xs=>obtain ⟨_,_,_,_,e⟩:=x;exact ⟨_,e⟩
 |dK kvs=>obtain ⟨_,_,_,_,_,_,_,e,_⟩:=x;exact ⟨_,e⟩
 |dT kvs=>obtain ⟨_,_,_,_,_,_,_,e,_⟩:=x;exact ⟨_,e⟩
 |set S n=>obtain ⟨_,_,_,_,e,_⟩:=x;exact ⟨_,e⟩
 |ins C dx fs=>obtain ⟨_,_,_,e,_⟩:=x;exact ⟨_,e⟩
 |own y=>exact x
 |xd fs=>obtain ⟨_,⟨_,_,_,e,_⟩,_⟩:=x;exact ⟨_,e⟩
 |met f y=>exact ⟨_,x⟩
 |rng lo hi=>obtain ⟨_,_,_,e⟩:=x;exact ⟨_,e⟩
 |frz ob u ih=>exact ⟨_,x.1⟩
 |tbl ps=>exact ⟨_,x⟩
 |ext φ => exact x.2.1
def CXf(P:Program)(w:World):CXT:=fun outer H s E e s' =>
 ∃(l:Addr)(cls a0:Value)(B:Heap)(H':Hp),e=.ref l/\s'.os=s.os/\AllBare s'.gens/\Un (frs outer) [] H H' s.heap s'.heap/\HOk P w H' s'.heap/\Heap.FlyingW B outer l cls a0 s'.heap /\
  (∀ b o,s.heap.get? b=some o->b∉frs outer->∃ u,B.get? b=some u)/\(∀ b u,H' b=some u->∃ o,B.get? b=some o)/\s.heap.get? l=none/\E cls none H'
def CXm:CXT:=fun _ H s E e s'=>∃(l:Addr)(cls:Value)(args:List Value)(h':Heap),e=.ref l/\s'={ s with heap:=h' }/\Heap.MadeExcOf s.heap h' l cls args/\E cls none H
def CXe(P:Program)(w:World):CXT:=fun outer H s E e s'=>CXf P w outer H s E e s'\/CXm outer H s E e s'
theorem CXf.imp{P:Program}{w:World}{outer:List Env}{H:Hp}{s s':Shared}{E E':XK}{e:Value}(h:CXf P w outer H s E e s')(k:∀ u a H',E u a H'->E' u a H'):CXf P w outer H s E' e s':=by
 obtain ⟨l,cls,a0,B,H',h1,h2,h3,h4,h5,h6,h7,h8,h9,h10⟩:=h
 exact ⟨l,cls,a0,B,H',h1,h2,h3,h4,h5,h6,h7,h8,h9,k _ _ _ h10⟩
theorem CXe.none{P:Program}{w:World}{outer:List Env}{H:Hp}{s s':Shared}{e:Value}(h:CXe P w outer H s (fun _ _ _=>False) e s'):False:=by
 rcases h with ⟨_,_,_,_,_,_,_,_,_,_,_,_,_,_,z⟩|⟨_,_,_,_,_,_,_,z⟩ <;> exact z
theorem zlf{env:Env}{outer:List Env}{L:Addr}(h:env.frame=some L):frs (env::outer)=L::frs outer:=by
 unfold frs;rw[List.filterMap_cons,h]
theorem zjG{P:Program}{w:World}{base:Heap}{A:Around}{env:Env}{outer:List Env}{s0 s1 s2:Shared}{H0 H1:Hp}{E E':XK}{e:Value}
  (hf:env.frame=some env.locals) (hfr:A.frames=some (env::outer)) (hL:s0.heap.objs.size<=env.locals) (os1:s1.os=s0.os) (bare1:AllBare s1.gens) (u01:Un (frs outer) [] H0 H1 s0.heap s1.heap) (frf:∀ b∈frs outer,H0 b=none)
  (fun1:s1.heap.FunFrames base (env::outer)) (hok1:HOk P w H1 s1.heap) (fr1:∀ b∈frs (env::outer),H1 b=none) (hx:CXe P w (env::outer) H1 s1 E' e s2) (hE:∀ u a H',E' u a H'->E u a H') {M:Model} {EE:Value->Shared->Prop} :
  wpAny M A (leaving env e) (fun _ s3=>CXf P w outer H0 s0 E e s3) EE s2:=by
 have inS:∀{b:Addr}{o:Obj},s0.heap.get? b=some o->b∉frs outer->b∉frs (env::outer):=fun {b o} e1 h1 h2=>by
  rw[zlf hf] at h2
  rcases List.mem_cons.mp h2 with z|z
  ·have:=Heap.lt_size e1
   rw[z] at this
   exact absurd (Nat.lt_of_lt_of_le this hL) (Nat.lt_irrefl _)
  ·exact h1 z
 have newS:∀{b:Addr},s1.heap.get? b=none->s0.heap.get? b=none:=fun {b} e1=>by
  cases q:s0.heap.get? b with
  |none=>rfl
  |some o=>obtain ⟨o',e2⟩:=u01.there b o q (by simp);rw[e1] at e2;cases e2
 have outS:∀{b:Addr},b∈frs outer->b∈frs (env::outer):=fun {b} h=>by rw[zlf hf];exact List.mem_cons_of_mem _ h
 rcases hx with ⟨l,cls,a0,B,H',rfl,os,bare,un,hok,fl,hb1,hb2,hnw,he⟩|⟨l,cls,args,h',rfl,rfl,hm,he⟩
 ·refine wpAny_leaves_onW (base:=B) hfr hf fl fun h3 fl3 up=>?_
  have at3:∀{b:Addr}{u:Obj},B.get? b=some u->s2.heap.get? b=some u/\h3.get? b=some u:=fun {b u} e=>⟨fl.1 b u e,fl3.1 b u e⟩
  have slot:∀ b o,s0.heap.get? b=some o->b∈frs outer->∃ sl,h3.get? b=some { o with slots:=sl }:=fun b o e1 hb=>by
   obtain ⟨sl1,e2⟩:=u01.slot b o e1 (frf b hb) hb (by simp)
   obtain ⟨sl2,e3⟩:=un.slot b _ e2 (u01.free b o e1 (frf b hb) (by simp)) (outS hb) (by simp)
   obtain ⟨_,o4,e4,d4⟩:=fl.2.2.1.mem (b:=b) (outS hb)
   rw[e3] at e4;cases e4
   obtain ⟨sl3,e5⟩:=up b _ e3 d4
   exact ⟨sl3,e5⟩
  have hb1':∀ b o,s0.heap.get? b=some o->b∉frs outer->∃ u,B.get? b=some u:=fun b o e1 hb=>by
   obtain ⟨o1,e2⟩:=u01.there b o e1 (by simp)
   exact hb1 b o1 e2 (inS e1 hb)
  refine ⟨l,cls,a0,B,H',rfl,os.trans os1,bare,⟨fun b o e1 n hb _=>?_,fun b o e1 n hb _=>slot b o e1 hb,fun b o e1 n _=>?_,fun b o e1 _=>?_,fun b xs q=>un.tups b xs (u01.tups b xs q),fun b o u q=>un.frzs b o u (u01.frzs b o u q),fun b ps q=>?_⟩,zoE hok fun b u o q1 q2=>?_,fl3,hb1',hb2,newS hnw,hE _ _ _ he⟩
  ·have e2:=u01.keep b o e1 n hb (by simp)
   have n2:=u01.free b o e1 n (by simp)
   have e3:=un.keep b o e2 n2 (inS e1 hb) (by simp)
   obtain ⟨u,hu⟩:=hb1' b o e1 hb
   obtain ⟨q1,q2⟩:=at3 hu
   rw[e3] at q1;cases q1;exact q2
  ·obtain ⟨o1,e2⟩:=u01.there b o e1 (by simp)
   exact un.free b o1 e2 (u01.free b o e1 n (by simp)) (by simp)
  ·by_cases hb:b∈frs outer
   ·obtain ⟨sl,e2⟩:=slot b o e1 hb;exact ⟨_,e2⟩
   ·obtain ⟨u,hu⟩:=hb1' b o e1 hb;exact ⟨u,(at3 hu).2⟩
  ·obtain ⟨m1,e1⟩:=u01.tbls b ps q
   obtain ⟨m2,e2⟩:=un.tbls b _ e1
   exact ⟨m1++m2,by rw[e2,Array.append_assoc]⟩
  ·obtain ⟨o',ho'⟩:=hb2 b u q1
   obtain ⟨z1,z2⟩:=at3 ho'
   rw[q2] at z1;cases z1;exact z2
 ·
  let fs:=frs (env::outer)
  have hin:∀ x∈env::outer,∀ a,x.frame=some a->a∈fs:=fun x hx a ha=>List.mem_filterMap.mpr ⟨x,hx,ha⟩
  refine wpAny_leaves_madeW (base:=W.hideAll s1.heap fs) (h:=s1.heap) hfr hf (fun b o q=>W.of_hideAll _ q) (W.funFrames_hide fun1 hin) hm fun h3 t fl3 _ _ up=>?_
  have at3:∀{b:Addr}{u:Obj},s1.heap.get? b=some u->b∉fs->h3.get? b=some u:=fun {b u} e n=>fl3.1 b u (W.hideAll_get _ e n)
  have slot:∀ b o,s0.heap.get? b=some o->b∈frs outer->∃ sl,h3.get? b=some { o with slots:=sl }:=fun b o e1 hb=>by
   obtain ⟨sl1,e2⟩:=u01.slot b o e1 (frf b hb) hb (by simp)
   obtain ⟨_,o4,e4,d4⟩:=fun1.mem (b:=b) (outS hb)
   rw[e2] at e4;cases e4
   obtain ⟨sl3,e5⟩:=up b _ (hm.keeps _ _ e2) d4
   exact ⟨sl3,e5⟩
  have hb1':∀ b o,s0.heap.get? b=some o->b∉frs outer->∃ u,(W.hideAll s1.heap fs).get? b=some u:=fun b o e1 hb=>by
   obtain ⟨o1,e2⟩:=u01.there b o e1 (by simp)
   exact ⟨o1,W.hideAll_get _ e2 (inS e1 hb)⟩
  have tr:∀ b u,H1 b=some u->b∉fs:=fun b u e z=>by rw[fr1 b z] at e;cases e
  refine ⟨l,cls,.ref t,W.hideAll s1.heap fs,H1,rfl,os1,bare1,⟨fun b o e1 n hb _=>at3 (u01.keep b o e1 n hb (by simp)) (inS e1 hb),fun b o e1 n hb _=>slot b o e1 hb,fun b o e1 n _=>u01.free b o e1 n (by simp),fun b o e1 _=>?_,u01.tups,u01.frzs,u01.tbls⟩,zoE hok1 fun b u o q1 q2=>at3 q2 (tr b u q1),fl3,hb1',fun b u q=>?_,newS hm.new,hE _ _ _ he⟩
  ·by_cases hb:b∈frs outer
   ·obtain ⟨sl,e2⟩:=slot b o e1 hb;exact ⟨_,e2⟩
   ·obtain ⟨u,hu⟩:=hb1' b o e1 hb;exact ⟨u,fl3.1 b u hu⟩
  ·obtain ⟨o,ho⟩:=ztJ (hok1 b u q)
   exact ⟨o,W.hideAll_get _ ho (tr b u q)⟩
theorem za9{P:Program}{w:World}{K:W.Frag}{mg:Str->Option Value}{base:Heap}:zqj (CXe P w) P w K mg base:=fun N qual scope f cdv A outer s H E E' hk hE pins σ H1 s1 e s2 I hx=>by
 have I':=I
 refine wpAny_mono (zjG (base:=base) (s0:=s) (H0:=H) (E:=E) rfl I.ok.frames (Nat.le_refl _) I.os I.bare I.base I.ok.frf I.stack I.hok I.stkFree hx hE) (fun _ s3 h=>.inl h) fun _ _ h=>h
def zgf(n:Nat)(f:DA):DS:=fun ρ=>(f ρ).bind fun a=>if zd2 a.1=true then .er n else .no
structure Xcls(K:W.Frag)(C:Addr):Prop where
 ex:∃ bm N nm q bs hdct sn sub ab col dd k0 k1 k2 k3 k5,K.lookup C=some (excClassObj nm q C N bs bm hdct sn sub ab col dd k0 k1 k2 k3 k5 "ValueError.__new__")/\(∀ h:Heap,K.In h->∃ mN,h.Ns N mN/\mN "__init__"=none)/\(∀ h:Heap,K.In h->OwnTail h [.type "ValueError",.type "Exception",.type "BaseException",.type "object"] bm)
section
variable{X:Cx}{C:Cn}{x:Str}{Cc:Addr}{np cpos pos:Pos}{e:Expr}{es:List Expr}{fa:DA}{n:Nat}{P:Program}{w:World}
theorem zgo(hx:zd5 (CXe P w) X (EXc C))(hc:X.calm=true)(hcl:Xcls X.K Cc)(hm:X.mg x=some (.ref Cc))(hxv:C.xv n=.ref Cc)(ha:JA X C (e::es) fa)(hg:Gl X x:=by rfl)(hd:(x == ("__debug__" : Str))=false:=by decide)
  (he:starEach (e::es) X.env=(false,eval e X.env)::starEach es X.env:=by rfl) (hpl:(backTo cpos (starEach es X.env)).any (·.1)=false:=by rfl):JS X C (.Raise (some (.Call (.Name x np) (e::es) [] cpos)) none pos) (zgf n fa):=by
 intro pins s σ H D I ⟨G,w1,ρ,r,p⟩
 obtain ⟨tl,N,nm,q,bs,hdct,sn,sub,ab,col,dd,k0,k1,k2,k3,k5,lk,hN,hT⟩:=hcl.ex
 obtain ⟨mN,hNs,hni⟩:=hN _ I.mod.kin
 refine wpAny_Raise_call_subT (C:=Cc) (nm:=nm) (q:=q) (N:=N) (bs:=bs) (bm:=tl) (hdct:=hdct) (sn:=sn) (sub:=sub) (ab:=ab) (col:=col) (dd:=dd) (k0:=k0) (k1:=k1) (k2:=k2) (k3:=k3) (k5:=k5)
  F.excBase_ValueError (mN:=mN) ((hT _ I.kIn).hasType F.excBase_ValueError.hasBase) (I.ok.hd hc) (by rw[he];show (false || (backTo cpos (starEach es X.env)).any (·.1))=false;rw[hpl];rfl) hni (zgS I hg hm ⟨rfl,?_⟩ hd)
 suffices hh:wpAny (model X.prog X.w) X.A (spliced (backTo cpos (starEach (e::es) X.env))) (fun vs s₂=>([]:List (Str×Value))=[]/\vs.length<=sizeLine/\s₂.heap.get? Cc=some (excClassObj nm q Cc N bs tl hdct sn sub ab col dd k0 k1 k2 k3 k5 "ValueError.__new__")/\s₂.heap.Ns N mN/\OwnTail s₂.heap [.type "ValueError",.type "Exception",.type "BaseException",.type "object"] tl /\
   ∀ h' a,Heap.MadeExcOf s₂.heap h' a (.ref Cc) vs->X.xe (.ref a) { s₂ with heap:=h' }) X.xe s by
  rw[he] at hh ⊢
  exact Calls.evalArgs_plain hh
 refine thn (ha cpos pins s σ H (fun vs H2=>vs.length<=sizeLine/\EXc C (.ref Cc) none H2) I ?_) fun us s2 ⟨vs,H2,I2,rv,hz,hE⟩=>⟨rfl,by rw[<- rv.length];exact hz,I2.kIn _ _ lk,hNs.keeps I2.bk,hT _ I2.kIn,fun h' a hm'=>?_⟩
 ·refine ⟨G,w1,ρ,r,?_⟩
  have p':zc0 C.ex (kS X.K C D G H w1) ((fa ρ).bind fun a=>if zd2 a.1=true then R.er n else .no):=p
  cases ef:fa ρ with
  |ok z =>
   rw[ef,R.bind_ok] at p'
   intro vs G' H' w' st rel q1
   by_cases hf:zd2 z.1=true
   ·rw[if_pos hf] at p'
    exact ⟨by rw[<- q1.length];exact zgG hf,rfl,n,hxv.symm,p',G',w',r.en.trans st⟩
   ·rw[if_neg hf] at p';exact p'.elim
  |er m=>rw[ef] at p';exact p'
  |no=>rw[ef] at p';exact p'.elim
 ·exact hx pins σ H2 s2 (.ref a) _ I2 (.inr ⟨a,.ref Cc,us,h',rfl,rfl,hm',hE⟩)
end
abbrev bmV:List Value:=[.type "ValueError",.type "Exception",.type "BaseException",.type "object"]
structure Xin(K:W.Frag)(D:Addr):Prop where
 exc:W.excIn K D bmV "ValueError.__new__"=true
 ga:W.findIn K (.ref D) "__getattribute__"=some (some (.builtin "BaseException.__getattribute__"))
 gh:W.findIn K (.ref D) "__getattr__"=some none
 gc:W.findIn K (.ref D) "__class__"=some (some (.builtin "object.__class__"))
 mb:W.subIn K (.ref D) (.type "BaseException")=some true
theorem zej{K:W.Frag}{C:Addr}(q:W.excIn K C bmV "ValueError.__new__"=true):∃ bm N nm qn bs hd sn sub ab col dd k0 k1 k2 k3 k5,
  K.lookup C=some (excClassObj nm qn C N bs bm hd sn sub ab col dd k0 k1 k2 k3 k5 "ValueError.__new__")/\W.tailIn K bmV bm=true/\W.nsOkIn K N=true/\W.nsIn K N "__init__"=some none:=by
 unfold W.excIn at q
 split at q
 ·rename_i dd cd sl lk
  split at q
  ·rename_i C2 bm k0 k1 k2 k3 mk k5 em es
   simp only[Bool.and_eq_true,beq_iff_eq,Bool.not_eq_true'] at q
   obtain ⟨⟨⟨⟨⟨e1,e2⟩,e3⟩,e4⟩,e5⟩,e6⟩:=q
   subst e1 e2
   obtain ⟨nm,bs,mro,ns,qn,hd,sn,sub,ab,col,del⟩:=cd
   obtain ⟨sll⟩:=sl
   dsimp only at em es e3 e5 e6
   subst em e3 es
   exact ⟨bm,ns,nm,qn,bs,hd,sn,sub,ab,col,dd,k0,k1,k2,k3,k5,lk,e4,e5,e6⟩
  ·cases q
 ·cases q
theorem Xin.cls{K:W.Frag}{C:Addr}(x:Xin K C):Xcls K C:=by
 obtain ⟨bm,N,nm,qn,bs,hd,sn,sub,ab,col,dd,k0,k1,k2,k3,k5,lk,e4,e5,e6⟩:=zej x.exc
 exact ⟨bm,N,nm,qn,bs,hd,sn,sub,ab,col,dd,k0,k1,k2,k3,k5,lk,fun h X=>⟨_,.of_isNs (W.isNs_of_in X e5),W.nsMap_none_of_in X e5 e6⟩,fun h X=>W.tail_of_in X e4⟩
section
variable{prog:Program}{w:World}{A:Around}{E:Value->Shared->Prop}{hh:Heap}{gg:Array GenState}{dr:Drawn}{tt:Nat}{os:OsState}{l C:Addr}{ob:Obj}{K:W.Frag}
theorem ztB{R:Result->Shared->Prop}(x:Xin K C)(X:K.In hh)(hl:hh.get? l=some ob)(hcl:ob.cls=.ref C)(hR:R (.ok (.ret (.ref C))) ⟨hh,gg,dr,tt,os⟩) :
  codeAny (model prog w) A (.call (.builtin "getset_descriptor.__get__") ⟨[.builtin "object.__class__",.ref l,.ref C],[]⟩) R ⟨hh,gg,dr,tt,os⟩:=by
 obtain ⟨bm,N,nm,qn,bs,hd,sn,sub,ab,col,dd,k0,k1,k2,k3,k5,lk,e4,e5,e6⟩:=zej x.exc
 have hCl:=X _ _ lk
 have TL:=W.tail_of_in X e4
 have ty5:(⟨hh,gg,dr,tt,os⟩ : Shared).TypeIs (.builtin "object.__class__") "getset_descriptor":=F.typeOf_object_class
 have inO:(Value.ref C::bm).contains (.type (".".intercalate ("object.__class__".cutAt '.').dropLast))=true:=by
  rw[F.owner_object_class,List.contains_cons,TL.hasType (b:=true) (by decide)];rfl
 refine codeAny_call_builtin F.slot_gs_get.plain F.entry_gs_get (F.slot_gs_get.check _ _ _ _ _ _ _ _ ty5 (F.args_gs_get _ _ _) ?_)
 repeat (any_goals (first|(with_reducible refine wpAny_loadPart_at hl ?_;rw[hcl])|(with_reducible refine wpAny_isSubtype_exc hCl ?_;rw[inO])|assumption|wp_step))
 refine ⟨Code.quiet_builtin _ (by decide +kernel),codeAny_builtin F.entry_object_class ?_⟩
 repeat (any_goals (first|(with_reducible refine wpAny_loadPart_at hl ?_;rw[hcl])|assumption|wp_step))
theorem zpT{tk:Tok}{Q:Fin->Shared->Prop}(x:Xin K C)(X:K.In hh)(hl:hh.get? l=some ob)(hcl:ob.cls=.ref C)(hQ:Q (.done (.ret (.ref C))) ⟨hh,gg,dr,tt,os⟩) :
  wpAny (model prog w) A (Builtin.«object.__getattribute__» ⟨[.ref l,.str "__class__" tk],[]⟩) Q E ⟨hh,gg,dr,tt,os⟩:=by
 have ty5:(⟨hh,gg,dr,tt,os⟩ : Shared).TypeIs (.builtin "object.__class__") "getset_descriptor":=F.typeOf_object_class
 have to5:=F.typeOf_object_class
 have lk6:=F.slot_gs_get.lookup
 have lk7:=F.slot_gs_set.lookup
 have L1:=W.looks_findIn (M:=model prog w) X x.gc
 repeat (any_goals (first|(with_reducible refine wpAny_loadPart_at hl ?_;rw[hcl])|(with_reducible refine L1.at ?_)|assumption|wp_step))
 refine ztB x X hl hcl ?_
 repeat (any_goals (first|assumption|wp_step))
theorem zoB{M:Model}(hl:hh.get? l=some ob)(hcl:ob.cls=.ref C):W.Looks M hh (typeOf (.ref l)) (.ref C):=hcl ▸ (W.Looks.ld hl).andThen .now
theorem zpH{M:Model}{nameV:Value}{Q:Unit->Shared->Prop}(x:Xin K C)(X:K.In hh)(hl:hh.get? l=some ob)(hcl:ob.cls=.ref C)(hQ:Q () ⟨hh,gg,dr,tt,os⟩) :
  wpAny M A (checkBuiltinCall "BaseException.__getattribute__" ⟨[.ref l,nameV],[]⟩) Q E ⟨hh,gg,dr,tt,os⟩:=by
 have e1:builtinKind "BaseException.__getattribute__"=some .slot:=by decide +kernel
 have e2:splitId "BaseException.__getattribute__"=some ("BaseException","__getattribute__"):=by decide +kernel
 have e3:=F.args_bexc_ga (.ref l) nameV
 have e4:W.Looks M hh (isInstance (.ref l) (.type "BaseException")) true:=by
  unfold isInstance
  exact (zoB hl hcl).andThen (W.looks_subIn X x.mb)
 simp only[checkBuiltinCall,e1,e2]
 refine wpAny_bind (W.Looks.at e4 ?_)
 repeat (first|exact hQ|wp_step)
theorem zuC{tk:Tok}{Q:Value->Shared->Prop}(x:Xin K C)(X:K.In hh)(hl:hh.get? l=some ob)(hcl:ob.cls=.ref C)(hQ:Q (.ref C) ⟨hh,gg,dr,tt,os⟩) :
  wpAny (model prog w) A (getAttrBy (.ref l) (.str "__class__" tk) false false) Q E ⟨hh,gg,dr,tt,os⟩:=by
 have fb:=F.attrBase_ValueError.ga.bind (.ref l)
 have n0:(false && onTheHeap (Value.builtin "BaseException.__getattribute__"))=false:=rfl
 have n2:(Value.builtin "BaseException.__getattribute__" == Value.builtin "object.__getattribute__")=false:=by decide +kernel
 have n1:(onTheHeap (Value.ref C) && Value.builtin "BaseException.__getattribute__" == Value.builtin "object.__getattribute__")=false:=by rw[n2];rfl
 have L1:=W.looks_findIn (M:=model prog w) X x.ga
 have L2:=W.looks_findIn (M:=model prog w) X x.gh
 repeat (any_goals (first|(with_reducible refine wpAny_loadPart_at hl ?_;rw[hcl])|(with_reducible refine W.Looks.at L1 ?_)|(with_reducible refine W.Looks.at L2 ?_)|assumption|wp_step))
 refine codeAny_call_builtin F.attrBase_ValueError.ga.plain F.entry_bexc_ga (zpH x X hl hcl (zpT x X hl hcl ?_))
 repeat (any_goals (first|assumption|wp_step))
theorem zrM{Q:Option Value->Shared->Prop}(x:Xin K C)(X:K.In hh)(hl:hh.get? l=some ob)(hcl:ob.cls=.ref C)(hQ:Q (some (.ref C)) ⟨hh,gg,dr,tt+1,os⟩) :
  wpAny (model prog w) A (getAttr? (.ref l) "__class__") Q E ⟨hh,gg,dr,tt,os⟩:=by
 unfold getAttr? getAttrBy?
 repeat (any_goals (first|(with_reducible apply zuC x X hl hcl)|assumption|wp_step))
end
def XAt(l C:Addr)(h:Heap):Prop:=∃ o vs,h.get? l=some o/\o.cls=.ref C/\o.data=.fields vs
theorem zpW{K:W.Frag}{l C:Addr}(x:Xin K C):W.KitX K (.ref l) (.ref C) (XAt l C) where
 ty:=fun M h X ⟨o,vs,h1,h2,h3⟩=>zoB h1 h2
 it:=fun M h X _=>by
  obtain ⟨bm,N,nm,qn,bs,hd,sn,sub,ab,col,dd,k0,k1,k2,k3,k5,lk,e4,e5,e6⟩:=zej x.exc
  intro A' Q' E' s' k q
  unfold isType loadHead
  exact wpAny_bind (wpAny_loadPart (k _ _ (X _ _ lk)) (wpAny_pure q))
 ne:=fun h tp dd its n sl X htp=>by
  obtain ⟨bm,N,nm,qn,bs,hd,sn,sub,ab,col,dd',k0,k1,k2,k3,k5,lk,e4,e5,e6⟩:=zej x.exc
  refine Bool.eq_false_iff.mpr fun q=>?_
  obtain rfl:C=tp:=Value.ref.inj (beq_iff_eq.mp q)
  have z:=congrArg Obj.cls (Option.some.inj ((X _ _ lk).symm.trans htp))
  simp[excClassObj] at z
 ca:=fun {prog w A E Q s} X ⟨o,vs,h1,h2,h3⟩ k=>by
  obtain ⟨hh,gg,dr,tt,os⟩:=s
  exact zrM x X h1 h2 k
def zh9(i:Nat)(C:Addr)(b:Bool):De:=fun ρ=>match ρ[i]? with
 |some (some (.exc C'))=>if C'=C then .ok (.bl b,ρ) else .no
 |_=>.no
section
variable{X:Cx}{C:Cn}{i:Nat}{Cc C2:Addr}{b:Bool}{x x2:Str}{p px p2 pos:Pos}
theorem zls{v2:V}{u2:Value}(hxi:Xin X.K Cc)(hu:∀ u,zcj v2 u->u=u2)(hq:W.kitOne X.K (.ref Cc) u2=some b):zcE X (.builtin "isinstance") (fun xs H Q=>∃ l,xs=[.ref l,v2]/\H l=some (xHO l Cc)/\Q (.bl b) H):=by
 intro pins s σ H xs us Q I r h
 obtain ⟨l,rfl,hl,q⟩:=h
 obtain ⟨u,u',rfl,r1,r2⟩:=zkc r
 cases r1
 obtain rfl:=hu u' r2
 have ok:zc4 X.prog X.w H s.heap l (xHO l Cc):=I.hok l _ hl
 exact W.kia_one (zpW hxi) I.kIn ok.1 hq (by simp) fun tk=>⟨.bl b,H,I.tok tk,rfl,q⟩
theorem zla{σ:L2.St}{H:Hp}{Q:VK}{v2:V}(h:tE X.K C (zh9 i Cc b) σ H Q):∃ v,σ[i]? = some (some v)/\∃ l,v=.ref l/\H l=some (xHO l Cc)/\Q (.bl b) H:=by
 obtain ⟨G,w,ρ,r,p⟩:=h
 unfold zh9 at p
 split at p
 ·rename_i C' e
  split at p
  ·rename_i hC
   subst hC
   obtain ⟨v,h1,l,h2,h3⟩:=r.sl i _ e
   exact ⟨v,h1,l,h2,r.gh _ _ h3,p _ G H w (.refl _ _ _) r (zbH _)⟩
  ·exact p.elim
 ·exact p.elim
theorem zgb(i:Nat)(hxi:Xin X.K Cc)(hq:W.kitOne X.K (.ref Cc) (.ref C2)=some b)(hg:Gl X "isinstance")(hm:X.mg "isinstance"=none)(hg2:Gl X x2)(hm2:X.mg x2=some (.ref C2))(hN:X.N[i]? = some x:=by rfl)(hvs:Vis X.env.scope x:=by first|exact Or.inl rfl|exact Or.inr (Or.inl rfl)|exact Or.inr (Or.inr rfl))
  (hd:(x == ("__debug__" : Str))=false:=by decide) (hcd:(x == ("__classdict__" : Str))=false:=by decide) (hv:bootBuiltins "isinstance"=some (.builtin "isinstance"):=by rfl) (hn:("isinstance" : Str)≠"__name__":=by decide) (hdb:(("isinstance" : Str) == ("__debug__" : Str))=false:=by decide) (hdb2:(x2 == ("__debug__" : Str))=false:=by decide)
  (hs:starEach [.Name x px,.Name x2 p2] X.env=(false,eval (.Name x px) X.env)::starEach [.Name x2 p2] X.env:=by rfl) (hs2:starEach [.Name x2 p2] X.env=(false,eval (.Name x2 p2) X.env)::starEach [] X.env:=by rfl) (hpl:(backTo pos (starEach [.Name x2 p2] X.env)).any (·.1)=false:=by rfl) :
  JE X C (.Call (.Name "isinstance" p) [.Name x px,.Name x2 p2] [] pos) (zh9 i Cc b) :=
 PE.weak (zdd (zls (v2:=.ref C2) hxi (fun u h=>h) hq) hg hm hv (zaE (zbw hN hvs hd hcd) (zaE (zgV (v:=.ref C2) hg2 hm2 rfl hdb2) zb3 hs2) hs) hn hdb hs hpl) fun σ H Q h=>by
  obtain ⟨v,h1,l,rfl,h2,h3⟩:=zla (v2:=.ref C2) h
  exact ⟨_,h1,l,rfl,h2,h3⟩
theorem zr3{T:String}(i:Nat)(hxi:Xin X.K Cc)(hq:W.kitOne X.K (.ref Cc) (.type T)=some b)(hg:Gl X "isinstance")(hm:X.mg "isinstance"=none)(hg2:Gl X x2)(hm2:X.mg x2=none)(hv2:bootBuiltins x2=some (.type T))(hN:X.N[i]? = some x:=by rfl)(hvs:Vis X.env.scope x:=by first|exact Or.inl rfl|exact Or.inr (Or.inl rfl)|exact Or.inr (Or.inr rfl))
  (hd:(x == ("__debug__" : Str))=false:=by decide) (hcd:(x == ("__classdict__" : Str))=false:=by decide) (hv:bootBuiltins "isinstance"=some (.builtin "isinstance"):=by rfl) (hn:("isinstance" : Str)≠"__name__":=by decide) (hdb:(("isinstance" : Str) == ("__debug__" : Str))=false:=by decide) (hn2:x2≠"__name__":=by decide) (hdb2:(x2 == ("__debug__" : Str))=false:=by decide)
  (hs:starEach [.Name x px,.Name x2 p2] X.env=(false,eval (.Name x px) X.env)::starEach [.Name x2 p2] X.env:=by rfl) (hs2:starEach [.Name x2 p2] X.env=(false,eval (.Name x2 p2) X.env)::starEach [] X.env:=by rfl) (hpl:(backTo pos (starEach [.Name x2 p2] X.env)).any (·.1)=false:=by rfl) :
  JE X C (.Call (.Name "isinstance" p) [.Name x px,.Name x2 p2] [] pos) (zh9 i Cc b) :=
 PE.weak (zdd (zls (v2:=.ty T) hxi (fun u h=>h) hq) hg hm hv (zaE (zbw hN hvs hd hcd) (zaE (ziI (v:=.ty T) hg2 hm2 hv2 rfl hn2 hdb2) zb3 hs2) hs) hn hdb hs hpl) fun σ H Q h=>by
  obtain ⟨v,h1,l,rfl,h2,h3⟩:=zla (v2:=.ty T) h
  exact ⟨_,h1,l,rfl,h2,h3⟩
end
def zim(XR:Cx)(N:List Str)(scope:Scope)(cl:List (Str×Addr))(qual:Str)(Fa:Addr)(cdv:Value)(s:Shared)(H:Hp)(E:XK):Cx where
 prog:=XR.prog
 w:=XR.w
 K:=XR.K
 mg:=XR.mg
 base:=XR.base
 A:=XR.A.deeper (W.envX qual scope s.heap.objs.size Fa cdv cl)
 N:=N
 s₀:=s
 H₀:=H
 env:=W.envX qual scope s.heap.objs.size Fa cdv cl
 outer:=XR.stack
 stack:=W.envX qual scope s.heap.objs.size Fa cdv cl::XR.stack
 ex:=[]
 fn:=fun _=>false
 calm:=true
 pn:=[]
 xe:=fun e s'=>wpAny (model XR.prog XR.w) (XR.A.deeper (W.envX qual scope s.heap.objs.size Fa cdv cl)) (leaving (W.envX qual scope s.heap.objs.size Fa cdv cl) e) (fun _ s''=>CXf XR.prog XR.w XR.stack H s E e s'') (fun _ _=>False) s'
def znl(names:List (Str×NameKind)):Bool:=names.all fun y=>match y.2 with
 |.free=>true
 |.globalImplicit=>true
 |_=>false
theorem zfD{names:List (Str×NameKind)}(h:znl names=true){x:Str}{k:NameKind}(e:names.lookup x=some k):k=.free\/k=.globalImplicit:=by
 have q:=List.all_eq_true.mp h (x,k) (zbh e)
 cases k <;> simp at q <;> simp
structure ziC(N:List Str)(names:List (Str×NameKind))(cl:List (Str×Addr))(σ:L2.St)(H:Hp)(h:Heap):Prop where
 inj:∀ x y c,cl.lookup x=some c->cl.lookup y=some c->x=y
 has:∀ x,names.lookup x=some .free->∃ c,cl.lookup x=some c
 is:∀ x c,cl.lookup x=some c->(∃ v,h.IsCell c v)/\H c=none
 val:∀(i:Nat)(x:Str)(v:V),N[i]? = some x->σ[i]? = some (some v)->names.lookup x=some .free->∃ u c,zcj v u/\cl.lookup x=some c/\h.IsCell c (some u)
section
variable{XR:Cx}{pins:List (Addr×Obj)}{σR σ:L2.St}{H:Hp}{s:Shared}{N:List Str}{scope:Scope}{cl:List (Str×Addr)}{qual name:Str}{Fa c':Addr}{params:Arguments}{body:Expr}{pm ctv:Value}{E:XK}
theorem znb{cdv:Value}{h₁:Heap}{tk:Nat}{mm:Str->Option Value}(J:L2.Inv XR pins σR H s)(hc:XR.calm=true)(hk:scope.kind=.function)(ho:znl scope.names=true)(L:ziC N scope.names cl σ H s.heap)(hl:σ.length=N.length)
  (hns:h₁.Ns s.heap.objs.size mm) (hkp:∀ b o,s.heap.get? b=some o->h₁.get? b=some o):L2.Inv (zim XR N scope cl qual Fa cdv s H E) [] σ H { s with heap:=h₁,toks:=tk }:=by
 have cellK:∀ c v,s.heap.IsCell c v->h₁.IsCell c v:=fun c v ⟨o,e1,e2⟩=>⟨o,hkp c o e1,e2⟩
 refine ⟨⟨J.ok.mod,hk,rfl,rfl,Nat.le_refl _,L.inj,fun x hx=>?_,fun x c h _=>absurd h (by simp[zim]),fun _=>J.ok.hd hc,Around.frames_deeper J.ok.frames,.inr ⟨rfl,rfl⟩,fun b hb=>absurd hb (by simp[zim]),J.bs,Nat.le_trans J.ok.bsz J.sz,fun b o e z=>absurd z (by simp[zim]),fun b z=>absurd z (by simp[zim]),J.stack,J.stkFree⟩,
  rfl,J.bare,Un.kept hkp,⟨mm,hns,fun i x v e1 e2 e3=>?_⟩,fun x c e=>?_,J.hok.fresh (Nat.le_refl _),fun x c e=>(L.is x c e).2,fun p hp=>absurd hp (by simp[zim]),J.hok.kept hkp,hl⟩
 ·have hx':scope.names.lookup x=some .cell\/scope.names.lookup x=some .free:=hx
  rcases hx' with z|z
  ·rcases zfD ho z with q|q <;> cases q
  ·exact L.has x z
 ·have e3':scope.names.lookup x=some .local\/scope.names.lookup x=some .cell\/scope.names.lookup x=some .free:=e3
  rcases e3' with z|z|z
  ·rcases zfD ho z with q|q <;> cases q
  ·rcases zfD ho z with q|q <;> cases q
  ·obtain ⟨u,c,r,hcl,ic⟩:=L.val i x v e1 e2 z
   exact ⟨u,r,.inr ⟨.inr z,c,hcl,cellK _ _ ic⟩⟩
 ·obtain ⟨⟨v,ic⟩,_⟩:=L.is x c e
  exact ⟨v,cellK _ _ ic⟩
theorem zp2{t:TE}(J:L2.Inv XR pins σR H s)(hc:XR.calm=true)(hroom:XR.A.depth<recursionLimit)(hk:scope.kind=.function)(ho:znl scope.names=true)(L:ziC N scope.names cl σ H s.heap)(hl:σ.length=N.length)
  (hF:s.heap.get? Fa=some (W.kla_obj name qual params body scope cl pm c' ctv)) (hcd:s.heap.CodeRec (.ref c') qual) (hbind:bindArgs (W.kla_fn name qual params body scope cl pm (.ref c') ctv) ⟨[],[]⟩=pure [])
  (hco:scope.isCoroutine=false) (hgen:scope.isGenerator=false) (hE:PE (zim XR N scope cl qual Fa (.ref c') s H E) body t) (ht:t σ H fun _ _=>False) :
  codeAny (model XR.prog XR.w) XR.A (.call (.ref Fa) ⟨[],[]⟩) (fun r s'=>∃ e,r=.error e/\CXf XR.prog XR.w XR.stack H s E e s') s:=by
 have hcell:∀ y∈scope.names,y.2≠.cell:=fun y hy z=>by
  have q:=List.all_eq_true.mp ho y hy
  rw[z] at q;simp at q
 refine W.kla_callFunE hroom hF rfl hco hgen rfl hcd ?_
 rw[hbind]
 refine wpAny_pure (wpAny_newFunctionEnv hcell (by intro y hy;simp at hy) (fun h₁ hns hsb=>?_) hk)
 have hkp:∀ b o,s.heap.get? b=some o->h₁.get? b=some o:=fun b o e=>(hsb.2 b (Nat.ne_of_lt (Heap.lt_size e))).trans (Heap.get?_push_of_some _ e)
 refine ⟨J.nolimit.keeps hkp,?_⟩
 show codeAny _ _ (.expr body (W.envX qual scope s.heap.objs.size Fa (.ref c') cl)) _ _
 refine W.kla_codeExpr (wpAny_mono (hE [] _ σ H (fun _ _=>False) (znb (tk:=s.toks+([]:List (Str×Value)).length) J hc hk ho L hl hns hkp) ht) (fun v s' ⟨_,_,_,_,z⟩=>z.elim) fun e s' h=>?_)
 exact wpAny_mono h (fun _ s'' q=>⟨e,rfl,q⟩) fun _ _ z=>z.elim
theorem zmr{cdv:Value}{C:Cn}(hE:∀ u a H',EXc C u a H'->E u a H'):zd5 (CXe XR.prog XR.w) (zim XR N scope cl qual Fa cdv s H E) (EXc C):=fun pins σ H1 s1 e s2 I hx =>
 zjG (base:=XR.base) (s0:=s) (H0:=H) rfl I.ok.frames (Nat.le_refl _) I.os I.bare I.base I.ok.frf I.stack I.hok I.stkFree hx hE
end
def zeF(ρ:Ev):Ev:=ρ.map fun o=>match o with
 |some (.val d)=>some (.val d)
 |_=>none
theorem zpG{prog:Program}{w:World}{A:Around}{E:Value->Shared->Prop}{s:Shared}{K:W.Frag}{l C Cs:Addr}{Q:Bool->Shared->Prop}(X:K.In s.heap)(hx:XAt l C s.heap)(xs:Xin K Cs)(hsub:W.subIn K (.ref C) (.ref Cs)=some true)(hQ:Q true s) :
  wpAny (model prog w) A (excMatches (.ref l) (.ref Cs)) Q E s:=by
 obtain ⟨hh,gg,dr,tt,os⟩:=s
 obtain ⟨ob,vs,h1,h2,h3⟩:=hx
 obtain ⟨bm,N,nm,qn,bs,hd,sn,sub,ab,col,dd,k0,k1,k2,k3,k5,lk,e4,e5,e6⟩:=zej xs.exc
 have hCs:=X _ _ lk
 have inB:(Value.ref Cs::bm).contains (.type "BaseException")=true:=by
  rw[List.contains_cons,(W.tail_of_in X e4).hasType (b:=true) (by decide)];rfl
 have nt:=tc_notTuple
 have L1:=W.looks_subIn (M:=model prog w) X hsub
 unfold excMatches
 repeat (first|(with_reducible refine wpAny_loadPart_at h1 ?_;rw[h2])|(with_reducible refine W.Looks.at L1 ?_)|with_reducible refine wpAny_loadPart_at hCs ?_|(with_reducible refine wpAny_isSubtype_exc hCs ?_;rw[inB])|wp_step)
 exact hQ
section
variable{X:Cx}{pins:List (Addr×Obj)}{σ:L2.St}{H:Hp}{s:Shared}
theorem zlW{x:Str}{i:Nat}{h':Heap}{tk:Nat}{v:Option Value}(I:L2.Inv X pins σ H s)(hN:X.N.Nodup)(hi:X.N[i]? = some x)
  (hn:∀ m,s.heap.Ns X.env.locals m->h'.Ns X.env.locals (fun y=>if y=x then v else m y)) (hs:Heap.SameBut X.env.locals s.heap h'):L2.Inv X pins (σ.set i none) H { s with heap:=h',toks:=tk }:=by
 obtain ⟨m,hm,hl⟩:=id I.loc
 have cne:=I.cne
 have tr:HOk X.prog X.w H h':=zoE I.hok fun b u o e q=>(hs.2 b fun z=>by subst z;rw[I.free] at e;cases e).trans q
 refine ⟨I.ok,I.os,I.bare,⟨fun b o e n hb hx=>?_,fun b o e n hb hx=>?_,I.base.free,fun b o e hx=>?_,I.base.tups,I.base.frzs,I.base.tbls⟩,⟨_,hn m hm,fun j y v' e1 e2 e3=>?_⟩,fun y c e=>?_,I.free,I.freeC,fun p hp=>?_,tr,by simpa using I.len⟩
 ·exact (hs.2 b (Nat.ne_of_lt (Nat.lt_of_lt_of_le (Heap.lt_size e) I.ok.above))).trans (I.base.keep b o e n hb hx)
 ·obtain ⟨sl,e1⟩:=I.base.slot b o e n hb hx
  exact ⟨sl,(hs.2 b (Nat.ne_of_lt (Nat.lt_of_lt_of_le (Heap.lt_size e) I.ok.above))).trans e1⟩
 ·obtain ⟨o',e1⟩:=I.base.there b o e hx
  exact ⟨o',(hs.2 b (Nat.ne_of_lt (Nat.lt_of_lt_of_le (Heap.lt_size e) I.ok.above))).trans e1⟩
 ·by_cases hj:j=i
  ·subst hj
   have hlt:j < σ.length:=by rw[I.len];exact (List.getElem?_eq_some_iff.mp hi).1
   rw[List.getElem?_set_self hlt] at e2
   cases e2
  ·rw[List.getElem?_set_ne (Ne.symm hj)] at e2
   obtain ⟨u',r',q⟩:=hl j y v' e1 e2 e3
   refine ⟨u',r',?_⟩
   rcases q with ⟨k,e⟩|⟨k,c,e,z⟩
   ·refine .inl ⟨k,?_⟩
    have:y≠x:=fun e=>hj (ziw hN e1 (e ▸ hi))
    simp[this,e]
   ·exact .inr ⟨k,c,e,z.sameBut hs (cne y c e)⟩
 ·obtain ⟨w',z⟩:=I.cell y c e
  exact ⟨w',z.sameBut hs (cne y c e)⟩
 ·obtain ⟨e,n,ne,nf,d⟩:=I.pin p hp
  exact ⟨(hs.2 p.1 ne).trans e,n,ne,nf,d⟩
theorem zhZ{s1:Shared}{h:Heap}{l C:Addr}{a0:Value}{B:Heap}{H':Hp}(I:L2.Inv X pins σ H s)(os:s1.os=s.os)(bare:AllBare s1.gens)(un:Un (frs X.stack) [] H H' s.heap s1.heap)(hok:HOk X.prog X.w H' s1.heap)
  (fl:Heap.FlyingW B X.stack l (.ref C) a0 s1.heap) (hb1:∀ b o,s.heap.get? b=some o->b∉frs X.stack->∃ u,B.get? b=some u) (hb2:∀ b u,H' b=some u->∃ o,B.get? b=some o) (hnw:s.heap.get? l=none)
  (fl3:Heap.FlyingW B X.stack l (.ref C) a0 h) (up:s1.heap.UpToSlots h):H' l=none/\L2.Inv X pins σ (upd H' l (xHO l C)) { s1 with heap:=h }:=by
 have hl:H' l=none:=by
  cases q:H' l with
  |none=>rfl
  |some u=>obtain ⟨o,e⟩:=hb2 l u q;rw[fl.2.1] at e;cases e
 have at3:∀{b:Addr}{u:Obj},B.get? b=some u->s1.heap.get? b=some u/\h.get? b=some u:=fun {b u} e=>⟨fl.1 b u e,fl3.1 b u e⟩
 have slot:∀ b o,s.heap.get? b=some o->b∈frs X.stack->∃ sl,h.get? b=some { o with slots:=sl }:=fun b o e1 hb=>by
  obtain ⟨sl2,e3⟩:=un.slot b o e1 (I.stkFree b hb) hb (by simp)
  obtain ⟨_,o4,e4,d4⟩:=fl.2.2.1.mem (b:=b) hb
  rw[e3] at e4;cases e4
  obtain ⟨sl3,e5⟩:=up b _ e3 d4
  exact ⟨sl3,e5⟩
 refine ⟨hl,I.call' (s':={ s1 with heap:=h }) (ch:=[]) os ⟨fun b o e1 n hb _=>?_,fun b o e1 n hb _=>slot b o e1 hb,fun b o e1 n _=>?_,fun b o e1 _=>?_,fun b xs q=>?_,fun b o u q=>?_,fun b ps q=>?_⟩ (fun b u e=>?_) bare fun b hb=>absurd hb (by simp)⟩
 ·have e3:=un.keep b o e1 n hb (by simp)
  obtain ⟨u,hu⟩:=hb1 b o e1 hb
  obtain ⟨q1,q2⟩:=at3 hu
  rw[e3] at q1;cases q1;exact q2
 ·rw[zaf (fun z=>by subst z;rw[hnw] at e1;cases e1)];exact un.free b o e1 n (by simp)
 ·by_cases hb:b∈frs X.stack
  ·obtain ⟨sl,e2⟩:=slot b o e1 hb;exact ⟨_,e2⟩
  ·obtain ⟨u,hu⟩:=hb1 b o e1 hb;exact ⟨u,(at3 hu).2⟩
 ·have:=un.tups b xs q
  rw[zaf (zah this hl)];exact this
 ·have:=un.frzs b o u q
  rw[zaf (zah this hl)];exact this
 ·obtain ⟨m,e⟩:=un.tbls b ps q
  exact ⟨m,by rw[zaf (zah e hl)];exact e⟩
 ·by_cases hb:b=l
  ·subst hb
   rw[zaj] at e;cases e
   obtain ⟨oe,vs,e1,e2,e3,_⟩:=fl3.first
   exact ⟨⟨oe,vs,e1,e2,e3⟩,⟨oe,e1⟩,fun h1 h2 ⟨o,ws,q1,q2,q3⟩ k=>⟨o,ws,k o q1,q2,q3⟩⟩
  ·rw[zaf hb] at e
   refine (hok b u e).stay (fun c o hc q=>?_) (fun c z=>?_) fun c xs z=>?_
   ·have hcu:∃ u',H' c=some u':=by
     rcases hc with rfl|hc
     ·exact ⟨_,e⟩
     ·exact ⟨_,hc⟩
    obtain ⟨u',hu'⟩:=hcu
    obtain ⟨o',ho'⟩:=hb2 c u' hu'
    obtain ⟨q1,q2⟩:=at3 ho'
    rw[q] at q1;cases q1;exact q2
   ·rw[zaf (zah z hl)];exact z
   ·rw[zaf (zah z hl)];exact z
end
def zoh(X:Cx)(e:Value)(E:Value->Shared->Prop):Cx:={ X with A:=X.A.mark (some e),calm:=false,xe:=E }
theorem zo6{X:Cx}{pins:List (Addr×Obj)}{σ:L2.St}{H:Hp}{s:Shared}{e:Value}{E:Value->Shared->Prop}(I:L2.Inv X pins σ H s):L2.Inv (zoh X e E) pins σ H s:=by
 have ok:=I.ok
 exact ⟨⟨ok.mod,ok.kind,ok.glob,ok.blt,ok.above,ok.inj,ok.has,ok.cab,fun h=>absurd h (by simp[zoh]),ok.frames,ok.stk,ok.exf,ok.bs,ok.bsz,ok.noex,ok.exfs,ok.funs,ok.frf⟩,I.os,I.bare,I.base,I.loc,I.cell,I.free,I.freeC,I.pin,I.hok,I.len⟩
theorem zmL{X:Cx}{pins:List (Addr×Obj)}{σ:L2.St}{H:Hp}{s:Shared}{e:Value}{E:Value->Shared->Prop}(hok:X.Ok)(I:L2.Inv (zoh X e E) pins σ H s):L2.Inv X pins σ H s :=
 ⟨hok,I.os,I.bare,I.base,I.loc,I.cell,I.free,I.freeC,I.pin,I.hok,I.len⟩
def EL(Cc:Addr)(H:Hp):XK:=fun u _ H'=>u=.ref Cc/\zcf H H'
section
variable{X:Cx}{p1 p2 p3 p4 p5 p6 p7 p8 p9:Pos}{Cc Cs Fa:Addr}{H0:Hp}{iF ierr ie:Nat}{xF xerr xe xS:Str}
theorem zo3(hc:X.calm=true)(hN:X.N.Nodup)(hst:X.stack=X.env::X.outer)(hfrm:X.env.frame=some X.env.locals)
  (hF:∀ pins σ H s,L2.Inv X pins σ H s->zcf H0 H->codeAny (model X.prog X.w) X.A (.call (.ref Fa) ⟨[],[]⟩) (fun r s'=>∃ e,r=.error e/\CXf X.prog X.w X.stack H s (EL Cc H) e s') s)
  (hFn:∀ pins σ H s,L2.Inv X pins σ H s->zcf H0 H->W.FnAt Fa s.heap)
  (xs:Xin X.K Cs) (hsub:W.subIn X.K (.ref Cc) (.ref Cs)=some true) (hmS:X.mg xS=some (.ref Cs)) (hgS:Gl X xS)
  (hNF:X.N[iF]? = some xF) (hNerr:X.N[ierr]? = some xerr) (hNe:X.N[ie]? = some xe) (hie:ie≠ierr) (kF:X.env.scope.names.lookup xF=some .local) (kerr:X.env.scope.names.lookup xerr=some .local) (ke:X.env.scope.names.lookup xe=some .local)
  (hd1:(xF == ("__debug__" : Str))=false:=by decide) (hd2:(xF == ("__classdict__" : Str))=false:=by decide) (hd3:(xS == ("__debug__" : Str))=false:=by decide) (hd4:(xe == ("__debug__" : Str))=false:=by decide) (hd5:(xe == ("__classdict__" : Str))=false:=by decide)
  (hsw:swapsWith (.Call (.Name xF p1) [] [] p2) none p3.line X.env=pure false:=by rfl) (hsw2:swapsWith (.Name xe p6) (some (.Name xerr p5)) p7.line X.env=pure false:=by rfl) :
  PS X (.Try [.Expr (.Call (.Name xF p1) [] [] p2) p3] [.ExceptHandler (some (.Name xS p4)) (some xe) [.Assign [.Name xerr p5] (.Name xe p6) p7] p8] [] [] p9)
   (fun D σ H=>σ[iF]? = some (some (.ref Fa))/\zcf H0 H/\∀ l H',zcf H H'->H' l=none->D.nx (((σ.set ie (some (.ref l))).set ierr (some (.ref l))).set ie none) (upd H' l (xHO l Cc))):=by
 intro pins s σ H D I ⟨h0,eH,hD⟩
 refine wpAny_Try_except ?_
 refine wpAny_execs_cons ?_
 have hv:∀ EE:Value->Shared->Prop,wpAny (model X.prog X.w) X.A (eval (.Name xF p1) X.env) (EP (X.wish EE) pins σ fun v H'=>v=.ref Fa/\H'=H) EE s:=fun EE =>
  zbw (X:=X.wish EE) (pos:=p1) hNF (.inl kF) hd1 hd2 pins s σ H (fun v H'=>v=.ref Fa/\H'=H) (I.wish EE) ⟨_,h0,rfl,rfl⟩
 refine wpAny_Expr_any (wpAny_Call_Name_kw (wpAny_mono (hv _) (fun u s1 ⟨v,H1,I1,r,e1,e2⟩=>?_) fun _ _ z=>z)) I.quiet hsw
 subst e1 e2
 cases r
 have I1:=I1.unwish
 refine W.callWith_F0 (hFn _ _ _ _ I1 eH) (wpAny_call (codeAny_mono (hF _ _ _ _ I1 eH) fun r s2 ⟨e,er,hx⟩=>?_))
 subst er
 obtain ⟨l,cls,a0,B,H',rfl,os,bare,un,hok,fl,hb1,hb2,hnw,ecls,same⟩:=hx
 subst ecls
 show wpAny _ _ (noteFrame (.ref l) X.env) _ _ s2
 rw[hst] at fl
 refine wpAny_looks_onW (by rw[I1.ok.frames,hst]) hfrm fl fun h3 held3 up3=>?_
 refine wpAny_landsW held3 fun h4 fl4 up4=>?_
 rw[<- hst] at fl fl4
 obtain ⟨hl,I4⟩:=zhZ I1 os bare un hok fl hb1 hb2 hnw fl4 (up3.trans up4)
 refine wpAny_handleBy_cons (codeAny_handlers_test ?_) (by intro q;cases q)
 refine zgS (X:=zoh X (.ref l) fun _ _=>True) (zo6 I4) hgS hmS ?_ hd3
 have xat:XAt l Cc h4:=by obtain ⟨oe,vs,q1,q2,q3,_⟩:=fl4.first;exact ⟨oe,vs,q1,q2,q3⟩
 refine zpG (K:=X.K) I4.kIn xat xs hsub ?_
 refine codeAny_handlers_suite_as ?_
 refine lands_againW fl4 fun h5 fl5 up5=>?_
 obtain ⟨_,I5⟩:=zhZ I1 os bare un hok fl hb1 hb2 hnw fl5 ((up3.trans up4).trans up5)
 refine ziB I5 hN hNe (.inl ke) (v:=.ref l) rfl (fun s6 I6=>?_) (.inr ke)
 have hsuite:=fun EE:Value->Shared->Prop=>znf (X:=zoh X (.ref l) EE) (zlq (pos:=p7) (pos':=p5) hN hNerr (.inl kerr) (zbw (pos:=p6) hNe (.inl ke) hd4 hd5) hsw2 (.inr kerr)) pins s6 (σ.set ie (some (.ref l))) (upd H' l (xHO l Cc)) { nx:=fun σ' H''=>σ'=(σ.set ie (some (.ref l))).set ierr (some (.ref l))/\H''=upd H' l (xHO l Cc),rt:=fun _ _=>False } (zo6 I6) ⟨.ref l,by
  rw[List.getElem?_set_self (by rw[I5.len];exact (List.getElem?_eq_some_iff.mp hNe).1)],rfl,rfl⟩
 refine wpAny_mono (hsuite _) (fun f s7 h7=>?_) fun _ _ z=>z
 cases f with
 |next =>
  obtain ⟨σ',H'',I7,e1,e2⟩:=h7
  subst e1 e2
  have I7:=zmL I4.ok I7
  obtain ⟨m7,hm7,_⟩:=I7.loc
  refine wpAny_nameGoes_keeps (env:=X.env) ke hm7 (by rw[I7.ok.kind];rfl) fun h8 v hn8 hs8=>?_
  refine ⟨_,_,zlW (x:=xe) (i:=ie) (v:=v) I7 hN hNe (fun m hm=>?_) hs8,hD l H' same hl⟩
  obtain ⟨o,es,ep,ho,hd,hk,hmm⟩:=hn8
  obtain ⟨o',es',ep',ho',hd',hk',hm'⟩:=hm
  obtain ⟨o7,es7,ep7,ho7,hd7,hk7,hm7'⟩:=hm7
  rw[ho'] at ho7;cases ho7
  rw[hd'] at hd7;cases hd7
  exact ⟨o,es,ep,ho,hd,hk,fun x=>by rw[hmm x];show (if x=xe then v else m7 x)=if x=xe then v else m x;rw[<- hm7' x,hm' x]⟩
 |brk=>obtain ⟨_,_,_,z⟩:=h7;exact z.elim
 |cont=>obtain ⟨_,_,_,z⟩:=h7;exact z.elim
 |ret u=>obtain ⟨_,_,_,_,_,z⟩:=h7;exact z.elim
end
def fHO(a:Addr)(ob:Obj):HO:=.ext fun h=>h.get? a=some ob
structure zgx(X:Cx)(P:Addr):Prop where
 code:∃ c,X.env.code=.ref c/\W.CodeHd X.base c P
 blt:X.base.BuiltinsAt X.mg P
theorem zom{P:Program}{w:World}{H:Hp}{h:Heap}{a:Addr}{φ : Heap->Prop}{o:Obj}(h1:φ h)(h2:h.get? a=some o)(h3:∀ x y:Heap,φ x->(∀ o,x.get? a=some o->y.get? a=some o)->φ y):zc4 P w H h a (.ext φ):=⟨h1,⟨o,h2⟩,h3⟩
theorem zk7{c:Addr}{q:Str}(x y:Heap)(h:x.CodeRec (.ref c) q)(k:∀ o,x.get? c=some o->y.get? c=some o):y.CodeRec (.ref c) q:=by
 obtain ⟨c',o,vs,t,e,h1,h2,h3⟩:=h
 cases e
 exact ⟨c,o,vs,t,rfl,k o h1,h2,h3⟩
structure znO(P:Addr)(q:Str)(G H:Hp)(ps:Array Value):Prop where
 at_:H P=some (.tbl ps)
 tri:TriplesOk ps.toList
 cod:∀ pos cv,codeAmong pos ps.toList=some cv->∃ c,cv=.ref c/\G c=some (cHO c q)
section
variable{X:Cx}{pins:List (Addr×Obj)}{σ:L2.St}{H:Hp}{s:Shared}{P:Addr}{q:Str}{params:Arguments}{body:Expr}{scope:Scope}{pos:Pos}{cl:List (Str×Addr)}{ps:Array Value}{Q:VK}
theorem zsX(LB:zgx X P)(I:L2.Inv X pins σ H s)(hdef:defaultsOf params X.env=([],[]))(hcl:closureFor scope X.env=pure cl)(T:znO P (X.env.qual++"<lambda>") H H ps)
  (hA:∀ c Fa ctv,codeAmong pos ps.toList=none->H c=none->H Fa=none->c≠Fa->Q (.ref Fa) (upd (upd (upd H P (.tbl (ps++#[rawInt pos.line,rawInt pos.col,.ref c]))) c (cHO c (X.env.qual++"<lambda>"))) Fa (fHO Fa (W.kla_obj "<lambda>" (X.env.qual++"<lambda>") params body scope cl ((X.mg "__name__").getD .none) c ctv))))
  (hB:∀ c Fa ctv,codeAmong pos ps.toList=some (.ref c)->H Fa=none->Q (.ref Fa) (upd H Fa (fHO Fa (W.kla_obj "<lambda>" (X.env.qual++"<lambda>") params body scope cl ((X.mg "__name__").getD .none) c ctv)))) :
  wpAny (model X.prog X.w) X.A (eval (.Lambda params body scope pos) X.env) (EP X pins σ Q) X.xe s:=by
 obtain ⟨c0,hc0,C0⟩:=LB.code
 have C0':=C0.keeps I.bk
 have hg:=I.mod.glob.keeps I.bk
 have oP:s.heap.get? P=some (W.tabObj ps):=I.hok P _ T.at_
 have nP:∀ b o,X.base.get? b=some o->b≠P:=fun b o e z=>by
  have:=(I.bs b o e).2
  rw[z,T.at_] at this;cases this
 have hgP:mainGlobals≠P:=by
  obtain ⟨o,es,ep,e,_⟩:=I.mod.glob
  exact nP _ _ e
 have hbl:s.heap.BuiltinsAt X.mg P:=by
  obtain ⟨bm,o,b1,b2,b3,b4,b5,b6⟩:=LB.blt
  exact ⟨bm,o,b1,b2,b3,b4,I.bk _ _ b5,b6⟩
 refine W.kla_eval hdef ?_
 cases hk:codeAmong pos ps.toList with
 |none =>
  refine W.kla_makeFunction (mg:=X.mg) hcl I.ok.glob hg hc0 C0' oP T.tri hk hgP hbl fun c' ctv h' tk hx hge hlt hrec htb=>?_
  have hcn:H c'=none:=I.hok.fresh hge
  have hFn:H h'.objs.size=none:=I.hok.fresh (Nat.le_trans hge (Nat.le_of_lt hlt))
  have hne:c'≠h'.objs.size:=Nat.ne_of_lt hlt
  have cP:c'≠P:=fun z=>by rw[z,T.at_] at hcn;cases hcn
  have fP:h'.objs.size≠P:=fun z=>by rw[z,T.at_] at hFn;cases hFn
  have kp:∀ b o,b≠P->s.heap.get? b=some o->(h'.push (W.kla_obj "<lambda>" (X.env.qual++"<lambda>") params body scope cl ((X.mg "__name__").getD .none) c' ctv)).get? b=some o:=fun b o hb e=>Heap.get?_push_of_some _ (hx b o hb e)
  have hq:=hA c' h'.objs.size ctv hk hcn hFn hne
  refine ⟨.ref h'.objs.size,_,I.call' (s':={ s with heap:=h'.push (W.kla_obj "<lambda>" (X.env.qual++"<lambda>") params body scope cl ((X.mg "__name__").getD .none) c' ctv),toks:=tk }) (ch:=[]) rfl ⟨fun b o e n _ _=>?_,fun b o e n _ _=>?_,fun b o e n _=>?_,fun b o e _=>?_,fun b xs z=>?_,fun b o u z=>?_,fun b pz z=>?_⟩ (fun b u e=>?_) I.bare fun b hb=>absurd hb (by simp),rfl,hq⟩
  ·exact kp b o (fun z=>by rw[z,T.at_] at n;cases n) e
  ·exact ⟨o.slots,kp b o (fun z=>by rw[z,T.at_] at n;cases n) e⟩
  ·have l1:=Heap.lt_size e
   rw[zaf (Nat.ne_of_lt (Nat.lt_trans (Nat.lt_of_lt_of_le l1 hge) hlt)),zaf (Nat.ne_of_lt (Nat.lt_of_lt_of_le l1 hge)),zaf (fun z=>by rw[z,T.at_] at n;cases n)]
   exact n
  ·by_cases hb:b=P
   ·subst hb;exact ⟨_,Heap.get?_push_of_some _ htb⟩
   ·exact ⟨o,kp b o hb e⟩
  ·rw[zaf (zah z hFn),zaf (zah z hcn),zaf (fun y=>by rw[y,T.at_] at z;cases z)];exact z
  ·rw[zaf (zah z hFn),zaf (zah z hcn),zaf (fun y=>by rw[y,T.at_] at z;cases z)];exact z
  ·by_cases hb:b=P
   ·subst hb
    rw[T.at_] at z;cases z
    exact ⟨_,by rw[zaf (Ne.symm fP),zaf (Ne.symm cP),zaj]⟩
   ·exact ⟨#[],by rw[zaf (zah z hFn),zaf (zah z hcn),zaf hb,z];simp⟩
  ·by_cases hbF:b=h'.objs.size
   ·rw[hbF,zaj] at e;cases e
    rw[hbF]
    exact zom (Heap.get?_push_size _ rfl) (Heap.get?_push_size _ rfl) fun x y h k=>k _ h
   ·rw[zaf hbF] at e
    by_cases hbc:b=c'
    ·rw[hbc,zaj] at e;cases e
     rw[hbc]
     have hr:=hrec.push (W.kla_obj "<lambda>" (X.env.qual++"<lambda>") params body scope cl ((X.mg "__name__").getD .none) c' ctv)
     obtain ⟨c2,o2,_,_,e2,h2,_⟩:=id hr
     cases e2
     exact zom hr h2 zk7
    ·rw[zaf hbc] at e
     by_cases hbP:b=P
     ·rw[hbP,zaj] at e;cases e
      rw[hbP]
      exact Heap.get?_push_of_some _ htb
     ·rw[zaf hbP] at e
      refine (I.hok b u e).stay (fun d o hd z=>?_) (fun d z=>?_) fun d xs z=>?_
      ·refine kp d o (fun y=>?_) z
       rcases hd with hd|hd
       ·exact hbP (hd.symm.trans y)
       ·rw[y,T.at_] at hd;cases hd
      ·rw[zaf (zah z hFn),zaf (zah z hcn),zaf (fun y=>by rw[y,T.at_] at z;cases z)];exact z
      ·rw[zaf (zah z hFn),zaf (zah z hcn),zaf (fun y=>by rw[y,T.at_] at z;cases z)];exact z
 |some cv =>
  obtain ⟨c,rfl,hcG⟩:=T.cod pos cv hk
  refine W.kla_makeFunctionHit (mg:=X.mg) hcl I.ok.glob hg hc0 C0' oP T.tri hk hbl fun ctv h' tk hkp hsz=>?_
  have hFn:H h'.objs.size=none:=I.hok.fresh hsz
  exact ⟨.ref h'.objs.size,_,I.laid (t':=tk) (fun b u e=>Heap.get?_push_of_some _ (hkp b u e)) hsz (zom (Heap.get?_push_size _ rfl) (Heap.get?_push_size _ rfl) fun x y h k=>k _ h),rfl,hB c h'.objs.size ctv hk hFn⟩
end
def zmE(iF ierr ie:Nat)(Cc:Addr):DS:=fun ρ=>match ρ[iF]? with
 |some (some .opq)=>if ierr < ρ.length/\ie < ρ.length then .ok (.nx,(ρ.set ierr (some (.exc Cc))).set ie none) else .no
 |_=>.no
section
variable{X:Cx}{C:Cn}{p1 p2 p3 p4 p5 p6 p7 p8 p9:Pos}{Cc Cs Fa:Addr}{iF ierr ie:Nat}{xF xerr xe xS:Str}
theorem zmG(hc:X.calm=true)(hN:X.N.Nodup)(hst:X.stack=X.env::X.outer)(hfrm:X.env.frame=some X.env.locals)(hw0:C.w₀=fun _=>none)(hpp:C.pp=[iF])(hσ0:C.σ₀[iF]? = some (some (.ref Fa)))
  (hF:∀ pins σ H s,L2.Inv X pins σ H s->zcf C.H₀ H->codeAny (model X.prog X.w) X.A (.call (.ref Fa) ⟨[],[]⟩) (fun r s'=>∃ e,r=.error e/\CXf X.prog X.w X.stack H s (EL Cc H) e s') s)
  (hFn:∀ pins σ H s,L2.Inv X pins σ H s->zcf C.H₀ H->W.FnAt Fa s.heap)
  (xs:Xin X.K Cs) (hsub:W.subIn X.K (.ref Cc) (.ref Cs)=some true) (hmS:X.mg xS=some (.ref Cs)) (hgS:Gl X xS)
  (hNF:X.N[iF]? = some xF) (hNerr:X.N[ierr]? = some xerr) (hNe:X.N[ie]? = some xe) (hie:ie≠ierr) (hF1:ierr≠iF) (hF2:ie≠iF) (kF:X.env.scope.names.lookup xF=some .local) (kerr:X.env.scope.names.lookup xerr=some .local) (ke:X.env.scope.names.lookup xe=some .local)
  (hd1:(xF == ("__debug__" : Str))=false:=by decide) (hd2:(xF == ("__classdict__" : Str))=false:=by decide) (hd3:(xS == ("__debug__" : Str))=false:=by decide) (hd4:(xe == ("__debug__" : Str))=false:=by decide) (hd5:(xe == ("__classdict__" : Str))=false:=by decide)
  (hsw:swapsWith (.Call (.Name xF p1) [] [] p2) none p3.line X.env=pure false:=by rfl) (hsw2:swapsWith (.Name xe p6) (some (.Name xerr p5)) p7.line X.env=pure false:=by rfl) :
  JS X C (.Try [.Expr (.Call (.Name xF p1) [] [] p2) p3] [.ExceptHandler (some (.Name xS p4)) (some xe) [.Assign [.Name xerr p5] (.Name xe p6) p7] p8] [] [] p9) (zmE iF ierr ie Cc) :=
 PS.weak (zo3 hc hN hst hfrm hF hFn xs hsub hmS hgS hNF hNerr hNe hie kF kerr ke hd1 hd2 hd3 hd4 hd5 hsw hsw2) fun D σ H ⟨G,w,ρ,r,p⟩=>by
  unfold zmE at p
  split at p
  ·split at p
   ·rename_i hlen
    have sm:zcf C.H₀ H:=fun b o e=>r.en.h b o e (by rw[hw0])
    refine ⟨by rw[r.pin iF (by rw[hpp];simp)];exact hσ0,sm,fun l H' same hl=>?_⟩
    have hHl:H l=none:=by
     cases q:H l with
     |none=>rfl
     |some u=>rw[same l u q] at hl;cases hl
    have hGl:G l=none:=by
     cases q:G l with
     |none=>rfl
     |some u=>rw[r.gh l u q] at hHl;cases hHl
    have wl:∀ b,w b≠none->b≠l:=fun b e z=>by subst z;exact r.wh b e hHl
    have sG:zcf G (upd G l (xHO l Cc)):=fun b u e=>by rw[zaf (zah e hGl)];exact e
    have sH:zcf H (upd H' l (xHO l Cc)):=fun b u e=>by rw[zaf (zah e hHl)];exact same b u e
    have st:zbt G H w (upd G l (xHO l Cc)) (upd H' l (xHO l Cc)) w:=by
     refine ⟨sG,fun b o e=>?_,fun b o e _=>sH b o e,fun b e=>.inl e,fun b e=>?_⟩
     ·by_cases hb:b=l
      ·subst hb;exact .inr (.inl hHl)
      ·rw[zaf hb] at e;exact .inl (by rw[e];simp)
     ·cases q:H b with
      |none=>rfl
      |some u=>rw[sH b u q] at e;cases e
    refine p _ _ _ _ st ⟨fun b u e=>?_,fun b e=>?_,fun b e z=>?_,by simpa using r.len,fun i b e=>?_,r.en.trans st,fun i hi=>?_⟩
    ·by_cases hb:b=l
     ·subst hb;rw[zaj] at e ⊢;exact e
     ·rw[zaf hb] at e ⊢;exact same b u (r.gh b u e)
    ·rw[zaf (wl b e)];exact r.wg b e
    ·cases q:H b with
     |none=>exact r.wh b e q
     |some u=>rw[sH b u q] at z;cases z
    ·by_cases h2:i=ie
     ·subst h2;rw[List.getElem?_set_self (by simpa using hlen.2)] at e;cases e
     ·rw[List.getElem?_set_ne (Ne.symm h2)] at e ⊢
      by_cases h1:i=ierr
      ·subst h1
       rw[List.getElem?_set_self hlen.1] at e;cases e
       refine ⟨.ref l,?_,l,rfl,zaj⟩
       rw[List.getElem?_set_self (by rw[List.length_set,<- r.len];exact hlen.1)]
      ·rw[List.getElem?_set_ne (Ne.symm h1)] at e ⊢
       rw[List.getElem?_set_ne (Ne.symm h2)]
       obtain ⟨v,q1,q2⟩:=r.sl i b e
       exact ⟨v,q1,q2.grow sG fun a o e1 e2=>⟨sH a o e2,e1⟩⟩
    ·rw[hpp] at hi
     have:i=iF:=by simpa using hi
     subst this
     rw[List.getElem?_set_ne hF2,List.getElem?_set_ne hF1,List.getElem?_set_ne hF2]
     exact r.pin i (by rw[hpp];simp)
   ·exact p.elim
  ·exact p.elim
end
theorem zuy{CX:CXT}{P:Program}{w:World}{K:W.Frag}{mg:Str->Option Value}{base:Heap}{k:Nat}{f:Addr}{name qual:Str}{params:Arguments}{body:List Stmt}{scope:Scope}{dV kV doc pm cdv ct oc:Value}{an od:Option Addr}
  {osl:Array (Option Value)} {N ps:List Str} {A:Around} {outer:List Env} {s:Shared} {H:Hp} {args:Args} {us:List Value} {vs:List V} {Q:VK} {E:XK} (lk:K.lookup f=some ⟨oc,od,.func (W.fnOf name qual params body scope dV kV doc pm an cdv ct),osl⟩) (hcd:W.codeIn K cdv qual=true) (S:zax N ps scope)
  (hr:zdV (k+1) A) (e0:zpf P w K mg base A outer s H) (hb:BindsTo s (W.fnOf name qual params body scope dV kV doc pm an cdv ct) args (ps.zip us)) (r:zbe vs us) (hl:vs.length=ps.length)
  (hbody:∃ t,PSs (zkX CX P w K mg base N qual scope f cdv A outer s H E) body t/\t { nx:=fun _ H'=>Q .non H',rt:=Q } (start N vs) H) :
  codeAny (model P w) A (.call (.ref f) args) (CR CX outer P w H s Q E) s:=by
 have hin:K.In s.heap:=e0.mod.kin.keeps fun b o e=>(e0.bs b o e).1
 have nolim:s.heap.NoLimit:=e0.mod.nolimit.keeps fun b o e=>(e0.bs b o e).1
 have zaV:∀ y∈ps.zip us,scope.names.lookup y.1=some .local\/(scope.names.lookup y.1=some .cell/\((cellsFrom (s.heap.objs.size+1) scope.names []).lookup y.1).isSome=true):=fun ⟨n,v⟩ hy=>by
  rcases S.par n (List.of_mem_zip hy).1 with q|q
  ·exact .inl q
  ·exact .inr ⟨q,W.cellsFrom_some _ _ _ (.inl q)⟩
 have dp:A.depth<recursionLimit:=by have:=hr.dp;omega
 refine codeAny_call_function dp (hin _ _ lk) rfl S.co S.gen rfl (W.codeRec_of hin hcd) (hb _ _ _ _ ?_)
 refine wpAny_newFunctionEnv_cells S.kind zaV fun env he s1 x=>?_
 subst he
 refine ⟨nolim.keeps x.toInCall.keep,codeAny_func ?_⟩
 obtain ⟨t,ht,hq⟩:=hbody
 have I:=zj0 (CX:=CX) (K:=K) (mg:=mg) (base:=base) (E:=E) (qual:=qual) (f:=f) (cd:=cdv) S hr.hd e0 hl r x
 refine wpAny_mono (ht [] s1 (start N vs) H _ I hq) (fun fl s' hs=>?_) fun e s' hs=>hs
 cases fl with
 |ret u=>obtain ⟨v,σ',H',J,rv,q⟩:=hs;exact ⟨v,H',J.os,J.bare,J.base,J.hok,rv,q⟩
 |next=>obtain ⟨σ',H',J,q⟩:=hs;exact ⟨V.non,H',J.os,J.bare,J.base,J.hok,rfl,q⟩
 |brk=>obtain ⟨_,_,_,q⟩:=hs;exact q.elim
 |cont=>obtain ⟨_,_,_,q⟩:=hs;exact q.elim
theorem zjL{a b:Int}{t u:Tok}{c:Value}:∀{l:List Value},TriplesOk l->TriplesOk (l++[.int a t,.int b u,c]):=by
 intro l h
 fun_induction TriplesOk l with
 |case1=>simp[TriplesOk]
 |case2 x1 x2 x3 x4 x5 zbr ih=>simpa [TriplesOk] using ih h
 |case3=>exact h.elim
theorem zlM{p:Pos}{a b:Int}{t u:Tok}{c cv:Value}:∀{l:List Value},TriplesOk l->codeAmong p (l++[.int a t,.int b u,c])=some cv->codeAmong p l=some cv\/cv=c:=by
 intro l h e
 fun_induction TriplesOk l with
 |case1 =>
  simp only[List.nil_append,codeAmong] at e
  split at e
  ·exact .inr (Option.some.inj e).symm
  ·cases e
 |case2 x1 x2 x3 x4 x5 zbr ih =>
  simp only[List.cons_append,codeAmong] at e ⊢
  split at e
  ·rename_i hh;rw[if_pos hh];exact .inl e
  ·rename_i hh;rw[if_neg hh];exact ih h e
 |case3=>exact h.elim
section
variable{K:W.Frag}{C:Cn}{G H:Hp}{w:Wn}{ρ:Ev}{σ:L2.St}{j:Nat}{q:Str}{P c Fa:Addr}{ps:Array Value}{a b:Int}{t u:Tok}{ob:Obj}
theorem Rel.lamA(r:Rel K C G w ρ σ H)(hj:ρ[j]? = some (some (.tab q)))(hσ:σ[j]? = some (some (.ref P)))(hw:w P=some j)(T:znO P q G H ps)(hc:H c=none)(hF:H Fa=none)(hne:c≠Fa) :
  Rel K C (upd (upd G c (cHO c q)) Fa (fHO Fa ob)) w ρ σ (upd (upd (upd H P (.tbl (ps++#[.int a t,.int b u,.ref c]))) c (cHO c q)) Fa (fHO Fa ob)) /\
   zbt G H w (upd (upd G c (cHO c q)) Fa (fHO Fa ob)) (upd (upd (upd H P (.tbl (ps++#[.int a t,.int b u,.ref c]))) c (cHO c q)) Fa (fHO Fa ob)) w:=by
 have gf:∀{x:Addr},H x=none->G x=none:=fun {x} e=>r.gh.free e
 have cP:c≠P:=fun z=>by rw[z,T.at_] at hc;cases hc
 have fP:Fa≠P:=fun z=>by rw[z,T.at_] at hF;cases hF
 have gP:G P=none:=r.wg P (by rw[hw];simp)
 have sG:zcf G (upd (upd G c (cHO c q)) Fa (fHO Fa ob)):=fun x o e=>by rw[zaf (zah e (gf hF)),zaf (zah e (gf hc))];exact e
 have oth:∀{x:Addr}{o:HO},x≠P->H x=some o->upd (upd (upd H P (.tbl (ps++#[.int a t,.int b u,.ref c]))) c (cHO c q)) Fa (fHO Fa ob) x=some o:=fun {x o} hx e=>by
  rw[zaf (zah e hF),zaf (zah e hc),zaf hx];exact e
 have dom:∀ x,upd (upd (upd H P (.tbl (ps++#[.int a t,.int b u,.ref c]))) c (cHO c q)) Fa (fHO Fa ob) x=none->H x=none:=fun x e=>by
  by_cases h1:x=Fa
  ·rw[h1,zaj] at e;cases e
  ·rw[zaf h1] at e
   by_cases h2:x=c
   ·rw[h2,zaj] at e;cases e
   ·rw[zaf h2] at e
    by_cases h3:x=P
    ·rw[h3,zaj] at e;cases e
    ·rw[zaf h3] at e;exact e
 have st:zbt G H w (upd (upd G c (cHO c q)) Fa (fHO Fa ob)) (upd (upd (upd H P (.tbl (ps++#[.int a t,.int b u,.ref c]))) c (cHO c q)) Fa (fHO Fa ob)) w:=by
  refine ⟨sG,fun x o e=>?_,fun x o e z=>oth (fun y=>by rw[y,hw] at z;cases z) e,fun x e=>.inl e,dom⟩
  by_cases h1:x=Fa
  ·rw[h1];exact .inr (.inl hF)
  ·rw[zaf h1] at e
   by_cases h2:x=c
   ·rw[h2];exact .inr (.inl hc)
   ·rw[zaf h2] at e;exact .inl (by rw[e];simp)
 refine ⟨⟨fun x o e=>?_,fun x e=>?_,fun x e z=>r.wh x e (dom x z),r.len,fun i bb e=>?_,r.en.trans st,r.pin⟩,st⟩
 ·by_cases h1:x=Fa
  ·rw[h1,zaj] at e ⊢;exact e
  ·rw[zaf h1] at e ⊢
   by_cases h2:x=c
   ·rw[h2,zaj] at e ⊢;exact e
   ·rw[zaf h2] at e ⊢
    rw[zaf (fun y=>by rw[y,gP] at e;cases e)]
    exact r.gh x o e
 ·have:=r.wh x e
  rw[zaf (fun y=>this (by rw[y];exact hF)),zaf (fun y=>this (by rw[y];exact hc))]
  exact r.wg x e
 ·obtain ⟨v,e1,e2⟩:=r.sl i bb e
  by_cases hi:i=j
  ·subst hi
   rw[hj] at e;cases e
   rw[hσ] at e1;cases e1
   refine ⟨_,hσ,P,ps++#[.int a t,.int b u,.ref c],rfl,hw,?_,?_,fun p cv hcv=>?_⟩
   ·rw[zaf (Ne.symm fP),zaf (Ne.symm cP),zaj]
   ·rw[Array.toList_append];exact zjL T.tri
   ·rw[Array.toList_append] at hcv
    rcases zlM T.tri hcv with z|z
    ·obtain ⟨c2,q1,q2⟩:=T.cod p cv z
     exact ⟨c2,q1,sG _ _ q2⟩
    ·exact ⟨c,z,by rw[zaf hne,zaj]⟩
  ·refine ⟨v,e1,e2.grow sG fun x o z1 z2=>⟨oth (fun y=>?_) z2,z1⟩⟩
   rw[y,hw] at z1
   exact hi (Option.some.inj z1).symm
theorem Rel.lamB(r:Rel K C G w ρ σ H)(hF:H Fa=none):Rel K C (upd G Fa (fHO Fa ob)) w ρ σ (upd H Fa (fHO Fa ob))/\zbt G H w (upd G Fa (fHO Fa ob)) (upd H Fa (fHO Fa ob)) w :=
 let gr:zea G H (upd G Fa (fHO Fa ob)) (upd H Fa (fHO Fa ob)):=.new r.gh hF
 ⟨r.grow gr,gr.step⟩
theorem zlK{bs:List B}:∀{ρ:Ev}{k:Nat},zgd [] bs k ρ = ρ
 |[],_=>rfl
 |o::r,k=>by unfold zgd;rw[zlK (ρ:=r)];rfl
end
def zm3(j:Nat)(q:Str)(fE:De):DN:=fun ρ=>match ρ[j]? with
 |some (some (.tab q'))=>if q'=q then match fE (zeF ρ) with
   |.er n=>if n<8 then .ok ([.int n],ρ) else .no
   |_=>.no
  else .no
 |_=>.no
def zoP(C:Cn)(G H:Hp)(σ:L2.St):Cn:=⟨G,H,fun _=>none,[0],σ,fun _=>False,C.xv,true⟩
def zqJ(C:Cn)(G H:Hp)(σ:L2.St)(n:Nat):Cn:=⟨G,H,fun _=>none,[],σ,fun m=>m=n,C.xv,false⟩
abbrev HB(X:Cx)(C:Cn)(xr:Str)(st:Stmt)(f:Addr)(NR:List Str)(k:Nat)(cls:Nat->Addr)(dB:Nat->Addr->DS):Prop:=∀(XR:Cx)(CR:Cn)(n:Nat)(Fa:Addr),n<8->(∃ cdv A outer s H E,XR=zkX (CXe X.prog X.w) X.prog X.w X.K X.mg X.base NR xr (zal st) f cdv A outer s H E)->(∃ G H,CR=zoP C G H (start NR [.ref Fa]))->zdV (k+1) XR.A ->
   (∀ pins σ H s,L2.Inv XR pins σ H s->zcf CR.H₀ H->codeAny (model XR.prog XR.w) XR.A (.call (.ref Fa) ⟨[],[]⟩) (fun r s'=>∃ e,r=.error e/\CXf XR.prog XR.w XR.stack H s (EL (cls n) H) e s') s) ->
   (∀ pins σ H s,L2.Inv XR pins σ H s->zcf CR.H₀ H->W.FnAt Fa s.heap)->JSs XR CR (zc7 st) (dB n (cls n))
abbrev HD(m:Nat)(dB:Nat->Addr->DS):Prop:=∀ n C',n<8->∃ ρ',dB n C' (some .opq::List.replicate m none)=.ok (.rt (.lst [.int n]),ρ')
abbrev HL(X:Cx)(xv:Nat->Value)(k:Nat)(body:Expr)(scope:Scope)(fE:De):Prop:=∀(XL:Cx)(CL:Cn),(∃ XR cl Fa cdv s H E,XR.prog=X.prog/\XR.w=X.w/\XR.K=X.K/\XR.mg=X.mg/\XR.base=X.base/\XL=zim XR X.N scope cl (X.env.qual++"<lambda>") Fa cdv s H E)->CL.xv=xv->zdV k XL.A->zd5 (CXe X.prog X.w) XL (EXc CL)->JE XL CL body fE
abbrev HA(X:Cx)(params:Arguments)(body:Expr)(scope:Scope):Prop:=∀ cl pm cdv ctv,bindArgs (W.kla_fn "<lambda>" (X.env.qual++"<lambda>") params body scope cl pm cdv ctv) ⟨[],[]⟩=pure []
abbrev kLo(X:Cx)(params:Arguments)(body:Expr)(scope:Scope)(cl:List (Str×Addr))(c:Addr)(ctv:Value):Obj:=W.kla_obj "<lambda>" (X.env.qual++"<lambda>") params body scope cl ((X.mg "__name__").getD .none) c ctv
structure zsT(X:Cx)(xv:Nat->Value)(k:Nat)(params:Arguments)(body:Expr)(scope:Scope)(fE:De):Prop where
 hE:HL X xv k body scope fE
 hfr:Hfr X scope
 hbind:HA X params body scope
 hdef:defaultsOf params X.env=([],[]):=by rfl
 hk:scope.kind=.function:=by rfl
 ho:znl scope.names=true:=by rfl
 hco:scope.isCoroutine=false:=by rfl
 hgen:scope.isGenerator=false:=by rfl
structure zn1(X:Cx)(xv:Nat->Value)(k n:Nat)(ρ:Ev)(G:Hp)(Fa:Addr):Prop where
 ex:∃ params body scope cl c ctv fE,zsT X xv k params body scope fE/\(∀ x cc,cl.lookup x=some cc->X.env.cells.lookup x=some cc)/\(∀ y∈scope.names,y.2=.free->∃ c,cl.lookup y.1=some c) /\
  G Fa=some (fHO Fa (kLo X params body scope cl c ctv))/\G c=some (cHO c (X.env.qual++"<lambda>"))/\fE (zeF ρ)=.er n
theorem zn1.same{X:Cx}{xv:Nat->Value}{k n:Nat}{ρ:Ev}{G G':Hp}{Fa:Addr}(L:zn1 X xv k n ρ G Fa)(e:zcf G G'):zn1 X xv k n ρ G' Fa:=by
 obtain ⟨params,body,scope,cl,c,ctv,fE,h1,h2,h3,h4,h5,h6⟩:=L.ex
 exact ⟨params,body,scope,cl,c,ctv,fE,h1,h2,h3,e _ _ h4,e _ _ h5,h6⟩
def tLam(X:Cx)(P:Addr)(params:Arguments)(body:Expr)(scope:Scope)(lpos:Pos)(cl:List (Str×Addr)):TE:=fun σ H Q=>∃ ps:Array Value,znO P (X.env.qual++"<lambda>") H H ps /\
 (∀ c Fa ctv,codeAmong lpos ps.toList=none->H c=none->H Fa=none->c≠Fa->Q (.ref Fa) (upd (upd (upd H P (.tbl (ps++#[rawInt lpos.line,rawInt lpos.col,.ref c]))) c (cHO c (X.env.qual++"<lambda>"))) Fa (fHO Fa (kLo X params body scope cl c ctv)))) /\
 ∀ c Fa ctv,codeAmong lpos ps.toList=some (.ref c)->H Fa=none->Q (.ref Fa) (upd H Fa (fHO Fa (kLo X params body scope cl c ctv)))
section
variable{X:Cx}{C:Cn}{P:Addr}{params:Arguments}{body:Expr}{scope:Scope}{lpos:Pos}{cl:List (Str×Addr)}
theorem zsN(LB:zgx X P)(hdef:defaultsOf params X.env=([],[]))(hcl:closureFor scope X.env=pure cl):PE X (.Lambda params body scope lpos) (tLam X P params body scope lpos cl):=fun pins s σ H Q I ⟨ps,T,hA,hB⟩=>zsX LB I hdef hcl T hA hB
theorem zpb{G H:Hp}{w:Wn}{ρ:Ev}{σ:L2.St}{j:Nat}{Q:VK}(r:Rel X.K C G w ρ σ H)(hj:ρ[j]? = some (some (.tab (X.env.qual++"<lambda>"))))(hσj:σ[j]? = some (some (.ref P)))
  (k:∀ Fa c ctv G1 H1,Rel X.K C G1 w ρ σ H1->zbt G H w G1 H1 w->G1 Fa=some (fHO Fa (kLo X params body scope cl c ctv))->G1 c=some (cHO c (X.env.qual++"<lambda>"))->Q (.ref Fa) H1):tLam X P params body scope lpos cl σ H Q:=by
 obtain ⟨vP,eP1,P',ps,rfl,hwP,hHP,htri,hcod⟩:=r.sl j _ hj
 rw[hσj] at eP1
 obtain rfl:P=P':=by injection eP1 with e1;injection e1 with e2;injection e2
 have T:znO P (X.env.qual++"<lambda>") G H ps:=⟨hHP,htri,hcod⟩
 have TH:znO P (X.env.qual++"<lambda>") H H ps:=⟨hHP,htri,fun q cv z=>let ⟨c,z1,z2⟩:=hcod q cv z;⟨c,z1,r.gh _ _ z2⟩⟩
 refine ⟨ps,TH,fun c Fa ctv _ hc hF hne=>?_,fun c Fa ctv hk' hF=>?_⟩
 ·obtain ⟨rel1,st1⟩:=r.lamA (ob:=W.kla_obj "<lambda>" (X.env.qual++"<lambda>") params body scope cl ((X.mg "__name__").getD .none) c ctv) (a:=lpos.line) (b:=lpos.col) (t:=_) (u:=_) hj hσj hwP T hc hF hne
  exact k Fa c ctv _ _ rel1 st1 zaj (by rw[zaf hne,zaj])
 ·obtain ⟨rel1,st1⟩:=r.lamB (ob:=W.kla_obj "<lambda>" (X.env.qual++"<lambda>") params body scope cl ((X.mg "__name__").getD .none) c ctv) hF
  obtain ⟨c2,e1,e2⟩:=hcod _ _ hk'
  cases e1
  have hcH:=r.gh _ _ e2
  exact k Fa c ctv _ _ rel1 st1 zaj (by rw[zaf (zah hcH hF)];exact e2)
end
section
variable{X:Cx}{C CY:Cn}{f:Addr}{fd:FuncData}{st:Stmt}{xq xr:Str}{NR:List Str}{m k n:Nat}{dB:Nat->Addr->DS}
theorem zpC(cls:Nat->Addr)(hxv:∀ n,n<8->C.xv n=.ref (cls n))(hfn:X.fn=fun _=>true)
  (Fu:Fun X.K xq xr st f fd) (S:zax NR ["call"] (zal st)) (hNR:NR.length=m+1) (hb:zfz X.K fd ["call"] []) (hr:zdV (k+2) X.A)
  (hB:HB X C xr st f NR k cls dB)
  (hden:HD m dB) (hn8:n<8)
  {pins:List (Addr×Obj)} {σ σY:L2.St} {H1:Hp} {s1:Shared} (I1:L2.Inv X pins σ H1 s1) (e0:zpf X.prog X.w X.K X.mg X.base X.A X.stack s1 H1)
  {G1:Hp} {w:Wn} {ρY ρ:Ev} {Fa:Addr} (rel1:Rel X.K CY G1 w ρY σY H1) (hval:∀(i:Nat)(d:Dt),ρ[i]? = some (some (.val d))->∃ v,σ[i]? = some (some v)/\Rep X.K G1 d v) (hlen:ρ.length = σ.length) (L:zn1 X C.xv k n ρ G1 Fa) {Q:VK} (kn:kN X.K CY σY Q G1 H1 w ([.int n],ρY)) :
  codeAny (model X.prog X.w) X.A (.call (.ref f) ⟨[.ref Fa],[]⟩) (L2.CR (CXe X.prog X.w) X.stack X.prog X.w H1 s1 Q (fun _ _ _=>False)) s1:=by
 obtain ⟨params,body,scope,cl,c,ctv,fE,A,hcl,hcf,gF,gc,hfE⟩:=L.ex
 have hHF:=rel1.gh _ _ gF
 have hHc:=rel1.gh _ _ gc
 obtain ⟨oc,od,kV,doc,pm,an,cdv,ct,osl,rfl,lk,hcd⟩:=Fu.ex
 refine zuy (CX:=CXe X.prog X.w) (k:=k+1) (E:=fun _ _ _=>False) (us:=[.ref Fa]) (vs:=[.ref Fa]) (N:=NR) (Q:=Q) lk hcd S hr e0 (by simpa using hb s1 [.ref Fa] I1.kIn rfl) (.cons rfl .nil) rfl ?_
 let XR:=zkX (CXe X.prog X.w) X.prog X.w X.K X.mg X.base NR xr (zal st) f cdv X.A X.stack s1 H1 (fun _ _ _=>False)
 let CRR:=zoP C G1 H1 (start NR [.ref Fa])
 have frs0:∀ x cc,cl.lookup x=some cc->cc∉frs X.stack:=fun x cc e hmem=>by
  rcases List.mem_cons.mp (I1.stkSub cc hmem) with z|z
  ·exact I1.cne x cc (hcl x cc e) z
  ·obtain ⟨_,o,ho',_⟩:=I1.ok.funs.mem z
   exact absurd (Heap.lt_size ho') (Nat.not_lt.mpr (I1.ok.cab x cc (by rw[hfn]) (hcl x cc e)))
 have cells:∀ pinsR σR H2 s2,L2.Inv XR pinsR σR H2 s2->ziC X.N scope.names cl σ H2 s2.heap:=fun pinsR σR H2 s2 J=>by
  have mv:∀ x cc v,cl.lookup x=some cc->s1.heap.IsCell cc v->s2.heap.IsCell cc v:=fun x cc v e ⟨o,e1,e2⟩ =>
   ⟨o,J.base.keep cc o e1 (I1.freeC x cc (hcl x cc e)) (frs0 x cc e) (by show cc∉([]:List Addr);simp),e2⟩
  refine ⟨fun x y cc h1 h2=>I1.ok.inj x y cc (hcl x cc h1) (hcl y cc h2),fun x e=>hcf _ (zbh e) rfl,fun x cc e=>?_,fun i x v e1 e2 e3=>?_⟩
  ·obtain ⟨v,ic⟩:=I1.cell x cc (hcl x cc e)
   obtain ⟨o,e1,_⟩:=id ic
   exact ⟨⟨v,mv x cc v e ic⟩,J.base.free cc o e1 (I1.freeC x cc (hcl x cc e)) (by show cc∉([]:List Addr);simp)⟩
  ·have hmem:=zbh e3
   have kc:=A.hfr _ hmem rfl
   obtain ⟨m0,hn0,hl0⟩:=I1.loc
   obtain ⟨u,ru,lk'⟩:=hl0 i x v e1 e2 (kc.elim (fun z=>.inr (.inl z)) fun z=>.inr (.inr z))
   obtain ⟨cc,hcc⟩:=hcf _ hmem rfl
   refine ⟨u,cc,ru,hcc,?_⟩
   rcases lk' with ⟨z,_⟩|⟨_,c',e',ic⟩
   ·rcases kc with y|y <;> (rw[y] at z;cases z)
   ·rw[hcl _ _ hcc] at e';cases e'
    exact mv x cc _ hcc ic
 have objs:∀ pinsR σR H2 s2,L2.Inv XR pinsR σR H2 s2->zcf H1 H2->s2.heap.get? Fa=some (kLo X params body scope cl c ctv)/\s2.heap.CodeRec (.ref c) (X.env.qual++"<lambda>"):=fun pinsR σR H2 s2 J sm=>by
  have o1:zc4 XR.prog XR.w H2 s2.heap Fa (fHO Fa _):=J.hok Fa _ (sm _ _ hHF)
  have o2:zc4 XR.prog XR.w H2 s2.heap c (cHO c _):=J.hok c _ (sm _ _ hHc)
  exact ⟨o1.1,o2.1⟩
 have hrR:zdV (k+1) XR.A:=hr.deeper _
 have hjs:=hB XR CRR n Fa hn8 ⟨cdv,X.A,X.stack,s1,H1,fun _ _ _=>False,rfl⟩ ⟨G1,H1,rfl⟩ hrR (fun pinsR σR H2 s2 J sm=>?_) fun pinsR σR H2 s2 J sm=>?_
 ·refine ⟨_,hjs,G1,fun _=>none,some .opq::List.replicate m none,?_,?_⟩
  ·refine ⟨rel1.gh,fun b e=>absurd rfl e,fun b e=>absurd rfl e,?_,fun i b e=>?_,.refl _ _ _,fun i _=>rfl⟩
   ·unfold L2.start;simp[hNR]
   ·cases i with
    |zero =>
     simp at e;subst e
     exact ⟨.ref Fa,rfl,trivial⟩
    |succ i =>
     rw[List.getElem?_cons_succ,List.getElem?_replicate] at e
     split at e <;> cases e
  ·obtain ⟨ρ',e⟩:=hden n (cls n) hn8
   rw[e]
   intro v σ' G' H' w' st' rel' rt
   obtain ⟨l,pp,us,e1,rfl,e3,e4,e5,e6,e7⟩:=rt
   injection e1 with e1
   subst e1
   have win:wIn w []=fun _=>none:=by
    funext b;unfold wIn;cases w b <;> rfl
   obtain ⟨r2,st2⟩:=rel1.back (as:=[]) (vs:=[]) (bs:=[]) (bs':=[]) (ks:=[]) rfl rfl rfl rfl (by rw[win];exact st') ⟨rel'.gh,rel'.wg,rel'.wh,fun j' v' z=>by simp at z⟩
   rw[zlK] at r2
   have w1p:w pp=none:=by
    cases zz:w pp with
    |none=>rfl
    |some kk=>exact absurd e3 (rel1.wh pp (by rw[zz];simp))
   exact kn pp us G' H' _ st2 r2 e3 e4 e5 (by unfold zoJ;rw[e6,w1p];rfl) e7
 ·
  obtain ⟨o1,o2⟩:=objs _ _ _ _ J sm
  refine zp2 (σ:=σ) (N:=X.N) (t:=tE X.K (zqJ C G1 H2 σ n) fE) J rfl (by have:=hrR.dp;omega) A.hk A.ho (cells _ _ _ _ J) I1.len o1 o2 (A.hbind _ _ _ _) A.hco A.hgen ?_ ?_
  ·refine A.hE _ (zqJ C G1 H2 σ n) ⟨XR,cl,Fa,.ref c,s2,H2,EL (cls n) H2,rfl,rfl,rfl,rfl,rfl,rfl⟩ rfl (hrR.deeper _) (zmr fun u a H' ⟨ea,n',eu,en,G',w',s'⟩=>?_)
   have en':n'=n:=en
   subst en'
   exact ⟨eu.trans (hxv n' hn8),fun b o e=>s'.h b o e rfl⟩
  ·refine ⟨G1,fun _=>none,zeF ρ,⟨rel1.gh.trans sm,fun b e=>absurd rfl e,fun b e=>absurd rfl e,by unfold zeF;rw[List.length_map];exact hlen,fun i b e=>?_,.refl _ _ _,fun i hi=>by simp[zqJ] at hi⟩,?_⟩
   ·unfold zeF at e
    rw[List.getElem?_map] at e
    cases q:ρ[i]? with
    |none=>rw[q] at e;cases e
    |some o =>
     rw[q] at e
     simp only[Option.map_some,Option.some.injEq] at e
     split at e
     ·cases e
      obtain ⟨v,e1,e2⟩:=hval i _ q
      exact ⟨v,e1,e2⟩
     ·cases e
   ·rw[hfE]
    rfl
 ·obtain ⟨o1,_⟩:=objs _ _ _ _ J sm
  exact ⟨_,_,_,_,o1⟩
end
theorem zrl{Y:Cx}{pins:List (Addr×Obj)}{σ:L2.St}{H:Hp}{s s2:Shared}{Q:VK}{rr:Result}(I:L2.Inv Y pins σ H s)(hq:L2.CR (CXe Y.prog Y.w) Y.stack Y.prog Y.w H s Q (fun _ _ _=>False) rr s2){E:Value->Shared->Prop}:(match (generalizing:=false) rr with|.ok (.ret v)=>EP Y pins σ Q v s2|.ok _=>False|.error e=>E e s2):=by
 cases rr with
 |error e=>exact (CXe.none hq).elim
 |ok fl =>
  cases fl with
  |ret u=>exact I.after hq
  |next=>exact False.elim hq
  |brk=>exact False.elim hq
  |cont=>exact False.elim hq
section
variable{X:Cx}{C:Cn}{P f:Addr}{fd:FuncData}{st:Stmt}{xq xr:Str}{NR:List Str}{m k j:Nat}{p pos lpos:Pos}{params:Arguments}{body:Expr}{scope:Scope}{fE:De}{dB:Nat->Addr->DS}
theorem zow(LB:zgx X P)(hfn:X.fn=fun _=>true)(hpp:j∈C.pp)(hσ0:C.σ₀[j]? = some (some (.ref P)))(cls:Nat->Addr)(hxv:∀ n,n<8->C.xv n=.ref (cls n))
  (Fu:Fun X.K xq xr st f fd) (S:zax NR ["call"] (zal st)) (hNR:NR.length=m+1) (hb:zfz X.K fd ["call"] []) (hm:X.mg xr=some (.ref f)) (hr:zdV (k+2) X.A)
  (hB:HB X C xr st f NR k cls dB)
  (hden:HD m dB)
  (hE:HL X C.xv k body scope fE)
  (hdef:defaultsOf params X.env=([],[]):=by rfl) (hk:scope.kind=.function:=by rfl) (ho:znl scope.names=true:=by rfl) (hfr:Hfr X scope)
  (hbind:HA X params body scope) (hco:scope.isCoroutine=false:=by rfl) (hgen:scope.isGenerator=false:=by rfl)
  (hg:Gl X xr:=by rfl) (hdb:(xr == ("__debug__" : Str))=false:=by decide) (he:starEach [.Lambda params body scope lpos] X.env=(false,eval (.Lambda params body scope lpos) X.env)::starEach [] X.env:=by rfl) (hpl:(backTo pos (starEach [] X.env)).any (·.1)=false:=by rfl) :
  JN X C (.Call (.Name xr p) [.Lambda params body scope lpos] [] pos) (zm3 j (X.env.qual++"<lambda>") fE):=by
 intro pins s σ H Q I ⟨G,w,ρ,r,pst⟩
 unfold zm3 at pst
 split at pst
 case h_2=>exact pst.elim
 rename_i q' hj
 split at pst
 case isFalse=>exact pst.elim
 rename_i hq'
 subst hq'
 split at pst
 case h_2=>exact pst.elim
 rename_i n hfE
 split at pst
 case isFalse=>exact pst.elim
 rename_i hn8
 have kn:kN X.K C σ Q G H w ([.int n],ρ):=pst
 obtain ⟨cl,hclos,hcl,hcf⟩:=zez (scope:=scope) (env:=X.env) fun y hy hf=>I.ok.has y.1 (hfr y hy hf)
 have hσj:σ[j]? = some (some (.ref P)):=by rw[r.pin j hpp];exact hσ0
 refine wpAny_Call_Name_kw (zgS I hg hm ?_ hdb)
 refine W.callWith_K (h₀:=X.base) I.ok.mod.kin Fu.kp ?_ he hpl
 rw[he]
 refine Calls.spliced_cons (thn (zsN LB hdef hclos pins s σ H (fun v H1=>∃ Fa c ctv G1,v=.ref Fa/\Rel X.K C G1 w ρ σ H1/\zbt G H w G1 H1 w/\G1 Fa=some (fHO Fa (kLo X params body scope cl c ctv))/\G1 c=some (cHO c (X.env.qual++"<lambda>"))) I (zpb r hj hσj fun Fa c ctv G1 H1 a1 a2 a3 a4=>⟨Fa,c,ctv,G1,rfl,a1,a2,a3,a4⟩)) fun u s1 hEP=>?_)
 obtain ⟨v,H1,I1,rv,Fa,c,ctv,G1,rfl,rel1,st1,gF,gc⟩:=hEP
 cases rv
 show wpAny _ _ (spliced []) _ _ s1
 refine Calls.spliced_nil ⟨I1.kIn,wpAny_call (codeAny_mono (zpC cls hxv hfn Fu S hNR hb hr hB hden hn8 I1 I1.env0 rel1 (fun i d e=>rel1.sl i _ e) rel1.len ⟨_,_,_,cl,c,ctv,fE,⟨hE,hfr,hbind,hdef,hk,ho,hco,hgen⟩,hcl,hcf,gF,gc,hfE⟩ (zfL _ _ _ _ _ _ _ st1 kn)) fun rr s2 hq=>zrl I1 hq)⟩
end
theorem znh{P:Program}{w:World}{K:W.Frag}{mg mb:Str->Option Value}{CX:CXT}{k:Nat}{fa a PT cL:Addr}{fd:FuncData}{x:Str}{sp:Sp}{s₁:Shared}{vs:List Value}{ns:List Int}
  (KX:K.In s₁.heap) (hns:s₁.heap.Ns mainGlobals mg) (hb:s₁.heap.Ns builtinsNs mb) (hbb:∀ x:Str,x≠"__name__"->mb x=bootBuiltins x) (hlim:s₁.heap.NoLimit) (hg:s₁.gens=#[])
  (ha:s₁.heap.get? a=some { cls:=.type "list",data:=.seq vs.toArray }) (hi:IntsAre vs ns) (hl:ns.length<=sizeLine) (hr:zdV k callerA)
  (hPT:s₁.heap.get? PT=some (W.tabObj #[])) (hnt:W.noTabs K=true) (hcode:W.codeHdIn K cL PT=true) (hbm:s₁.heap.BuiltinsAt mg PT)
  (F:∀ base:Heap,K.In base->base.Ns mainGlobals mg->base.BuiltinsAt mg PT->zgi P w K mg base CX k fa fd [x] sp) (hbind:∀(s:Shared)(u:Value),BindsTo s fd ⟨[u],[]⟩ [(x,u)])
  (hsp:∀ H:Hp,H PT=some (.tbl #[])->SqL K H a (ns.map V.int)->sp [.ref a] H (fun v _=>v=.bl true) fun _ _ _=>False)
  (hCX:∀ H e s',CX [] H s₁ (fun _ _ _=>False) e s'->False) :
  codeAny (model P w) callerA (.call (.ref fa) ⟨[.ref a],[]⟩) (fun r s'=>r=.ok (.ret (.bool true))/\OldK s₁.heap s'.heap/\s'.os=s₁.os/\AllBare s'.gens) s₁:=by
 have rv:=zeb hi
 have lenV:=hi.length
 have aP:a≠PT:=fun z=>by
  rw[z,hPT] at ha
  have:=congrArg Obj.cls (Option.some.inj ha)
  cases this
 have kP:K.lookup PT=none:=by
  cases q:K.lookup PT with
  |none=>rfl
  |some o =>
   have e:=KX _ _ q
   rw[hPT] at e
   have h2:=List.all_eq_true.mp hnt (PT,o) (W.mem_of_lookupK q)
   cases e
   exact absurd (show false=true from h2) Bool.false_ne_true
 have core:∀ H:Hp,(∀ b,b≠PT->H b=none\/∃ o xs,H b=some (.frz o (.lst xs)))->H PT=some (.tbl #[])->SqL K H a (ns.map V.int)->HOk P w H s₁.heap->(∀ b,H b≠none->b=a\/b=PT)->(H a≠none->K.lookup a=none) ->
   codeAny (model P w) callerA (.call (.ref fa) ⟨[.ref a],[]⟩) (fun r s'=>r=.ok (.ret (.bool true))/\OldK s₁.heap s'.heap/\s'.os=s₁.os/\AllBare s'.gens) s₁:=by
  intro H hO hP hS hok hA hK
  have base_of:∀{b:Addr}{o:Obj},s₁.heap.get? b=some o->H b=none->(zoL s₁.heap H).get? b=some o:=fun e n=>zpZ e n
  have other:∀{b:Addr}{o:Obj},s₁.heap.get? b=some o->o.cls≠.type "list"->o.cls≠.none->H b=none:=fun {b o} e d1 d2=>by
   cases q:H b with
   |none=>rfl
   |some u =>
    rcases hA b (by rw[q];simp) with z|z
    ·rw[z,ha] at e;cases e;exact absurd rfl d1
    ·rw[z,hPT] at e;cases e;exact absurd rfl d2
  have noA:∀{b:Addr}{o:Obj}{es:Array DictEntry}{ep:Nat},s₁.heap.get? b=some o->o.data=.dict es ep->H b=none:=fun {b o es ep} e d=>by
   cases q:H b with
   |none=>rfl
   |some u =>
    rcases hA b (by rw[q];simp) with z|z
    ·rw[z,ha] at e;cases e;cases d
    ·rw[z,hPT] at e;cases e;cases d
  have nsK:∀{b:Addr}{m:Str->Option Value},s₁.heap.Ns b m->(zoL s₁.heap H).Ns b m:=fun {b m} ⟨o,es,ep,e,d,r⟩=>⟨o,es,ep,base_of e (noA e d),d,r⟩
  have hKb:K.In (zoL s₁.heap H):=fun b o e=>base_of (KX b o e) (by
   cases q:H b with
   |none=>rfl
   |some u =>
    rcases hA b (by rw[q];simp) with z|z
    ·subst z
     rw[hK (by rw[q];simp)] at e;cases e
    ·rw[z,kP] at e;cases e)
  have hM:Mod K mg (zoL s₁.heap H):=⟨hKb,nsK hns,⟨mb,nsK hb,hbb⟩,let ⟨mc,h1,h2⟩:=hlim;⟨mc,nsK h1,h2⟩⟩
  have hbm':(zoL s₁.heap H).BuiltinsAt mg PT:=by
   obtain ⟨bm,o,b1,b2,b3,b4,b5,b6,b7⟩:=hbm
   exact ⟨bm,o,b1,b2,b3,b4,base_of b5 (other b5 (by rw[b6];decide) (by rw[b6];intro z;cases z)),b6,b7⟩
  have e0:zpf P w K mg (zoL s₁.heap H) callerA [] s₁ H:=⟨rfl,hM,fun b o e=>zqE e,Nat.le_of_eq (znr _ _),trivial,fun b hb=>absurd (show b∈([]:List Addr) from hb) (by simp),hok,.of_eq hg⟩
  refine codeAny_mono ((F _ hKb (nsK hns) hbm').run callerA [] s₁ H ⟨[.ref a],[]⟩ [.ref a] [.ref a] _ _ hr e0 (hbind s₁ (.ref a)) (.cons rfl .nil) (hsp H hP hS)) fun r s' h=>?_
  cases r with
  |error e=>exact (hCX H e s' h).elim
  |ok fl =>
   cases fl with
   |next=>exact False.elim h
   |brk=>exact False.elim h
   |cont=>exact False.elim h
   |ret u =>
    obtain ⟨v,H',os,bare,un,hok',r',q⟩:=h
    have q':v=.bl true:=q
    subst q'
    obtain rfl:u=Value.bool true:=r'
    have kept:∀ b o,b≠PT->s₁.heap.get? b=some o->s'.heap.get? b=some o:=fun b o hb e=>by
     cases q:H b with
     |none=>exact un.keep b o e q (by intro z;exact absurd (show b∈([]:List Addr) from z) (by simp)) (by simp)
     |some u =>
      rcases hO b hb with z|⟨ob,xs,z⟩
      ·rw[q] at z;cases z
      ·have z2:=un.frzs b ob _ z
       obtain ⟨e1,_⟩:=hok b _ z
       obtain ⟨e2,_⟩:=hok' b _ z2
       rw[e] at e1;cases e1
       exact e2
    obtain ⟨more,hm⟩:=un.tbls PT #[] hP
    have hPT':s'.heap.get? PT=some (W.tabObj (#[]++more)):=hok' PT _ hm
    have tab:=(W.codeHd_of_K KX hcode).tab hPT
    refine ⟨rfl,⟨fun b o e=>?_,fun b o e=>?_⟩,os,bare⟩
    ·by_cases hb:b=PT
     ·subst hb
      rw[hPT] at e;cases e
      exact .inr (.inl ⟨tab.isCodeTable,rfl,#[],more,rfl,hPT'⟩)
     ·exact .inl (kept b o hb e)
    ·by_cases hb:b=PT
     ·subst hb;exact ⟨_,hPT'⟩
     ·exact ⟨o,kept b o hb e⟩
 cases hk:K.lookup a with
 |some o =>
  have e:=KX a o hk
  rw[ha] at e
  cases e
  refine core (fun b=>if b=PT then some (.tbl #[]) else none) (fun b hb=>.inl (if_neg hb)) (if_pos rfl) (.inr ⟨_,vs.toArray,_,hk,rfl,rfl,rfl,by rw[List.size_toArray,lenV];exact hl,by simpa using rv⟩) (fun b u z=>?_) (fun b z=>?_) fun z=>absurd (if_neg aP) z
  ·by_cases hb:b=PT
   ·have z':=(if_pos hb).symm.trans z
    cases z'
    subst hb
    exact hPT
   ·have z':=(if_neg hb).symm.trans z
    cases z'
  ·by_cases hb:b=PT
   ·exact .inr hb
   ·exact absurd (if_neg hb) z
 |none =>
  refine core (fun b=>if b=PT then some (.tbl #[]) else if b=a then some (.frz { cls:=.type "list",data:=.seq vs.toArray } (.lst (ns.map V.int))) else none) (fun b hb=>?_) (if_pos rfl) (.inl (.inr ⟨{ cls:=.type "list",data:=.seq vs.toArray },(if_neg aP).trans (if_pos rfl)⟩)) (fun b u z=>?_) (fun b z=>?_) fun _=>hk
  ·by_cases hba:b=a
   ·exact .inr ⟨_,_,(if_neg hb).trans (if_pos hba)⟩
   ·exact .inl ((if_neg hb).trans (if_neg hba))
  ·by_cases hb:b=PT
   ·have z':=(if_pos hb).symm.trans z
    cases z'
    subst hb
    exact hPT
   ·have z:=(if_neg hb).symm.trans z
    by_cases hba:b=a
    ·have z':=(if_pos hba).symm.trans z
     cases z'
     subst hba
     exact ⟨ha,by rw[List.length_map];exact hl,vs,_,rv,ha⟩
    ·have z':=(if_neg hba).symm.trans z
     cases z'
  ·by_cases hb:b=PT
   ·exact .inr hb
   ·by_cases hba:b=a
    ·exact .inl hba
    ·exact absurd ((if_neg hb).trans (if_neg hba)) z
theorem zpi{l:W.OpenLaw}{n k:Nat}{q:Program}{loose:List Str}{XP:(Str->Option Value)->Heap->Prop}{YP:World->Heap->Prop}{d:DefRec}{K:Params->W.Frag}{CX:World->CXT}{sp:World->Sp}{x:Str}{PT:Addr}
  (hn:l.most=some n) (hn2:n<=sizeLine) (hdf:d.params.defaults=[]) (hr:zdV k callerA)
  (hY:∀(w:World)(h:Heap),YP w h->(K w.params).In h) (hYT:∀(w:World)(h:Heap),YP w h->h.get? PT=some (W.tabObj #[])) (hnt:∀ w:World,W.noTabs (K w.params)=true)
  (F:∀(w:World)(mg:Str->Option Value)(fa:Addr)(h:Heap),(K w.params).In h->h.Ns mainGlobals mg->mg d.name=some (.ref fa) ->
   ∃(fd:FuncData)(cL:Addr),(∀(s:Shared)(u:Value),BindsTo s fd ⟨[u],[]⟩ [(x,u)])/\W.codeHdIn (K w.params) cL PT=true /\
    ∀ base:Heap,(K w.params).In base->base.Ns mainGlobals mg->base.BuiltinsAt mg PT->zgi l.prog w (K w.params) mg base (CX w) k fa fd [x] (sp w))
  (hsp:∀(w:World)(H:Hp)(a:Addr)(ns:List Int),ns.length<=n->H PT=some (.tbl #[])->SqL (K w.params) H a (ns.map V.int)->sp w [.ref a] H (fun v _=>v=.bl true) fun _ _ _=>False)
  (hCX:∀(w:World)(H:Hp)(s:Shared)(e:Value)(s':Shared),CX w [] H s (fun _ _ _=>False) e s'->False) :
  W.WalkO q loose XP YP l.row.toRowW d [] (fun f vs=>PySem.call f vs):=by
 refine Att.attach_call hn hdf fun w s₀ s₁ mg mb fa o pm cd doc a vs ns G Y ho hd hcd hmg hobj hints hlen hg=>?_
 have KX:=hY w _ Y
 have hPT:=hYT w _ Y
 obtain ⟨fd,cL,hb,hcode,hF⟩:=F w mg fa _ KX G.T.g hmg
 have hbm:s₁.heap.BuiltinsAt mg PT:=by
  obtain ⟨bm,ob,b1,b2,b3,b4,b5,b6⟩:=G.T.bmain
  refine ⟨bm,ob,b1,b2,fun z=>?_,fun z=>?_,b3,b4,b5,b6⟩
  ·obtain ⟨o',es,ep,e,hd',_⟩:=G.T.g
   rw[z,e] at b3;cases b3;rw[hd'] at b6;cases b6
  ·rw[z,hPT] at b3;cases b3;cases b4
 exact znh KX G.T.g G.T.b G.T.builtins G.T.nolimit hg hobj hints (Nat.le_trans hlen hn2) hr hPT (hnt w) hcode hbm hF hb (fun H hP hS=>hsp w H a ns hlen hP hS) fun H e s'=>hCX w H s₁ e s'
theorem zmJ{X:Cx}{pins:List (Addr×Obj)}{σ:L2.St}{H:Hp}{s:Shared}{j:Nat}{x:Str}{o:Option V}(I:L2.Inv X pins σ H s)(hj:X.N[j]? = some x)(hv:¬ Vis X.env.scope x):L2.Inv X pins (σ.set j o) H s:=by
 refine ⟨I.ok,I.os,I.bare,I.base,?_,I.cell,I.free,I.freeC,I.pin,I.hok,by simpa using I.len⟩
 obtain ⟨m,hn,hl⟩:=I.loc
 refine ⟨m,hn,fun i y v e1 e2 e3=>?_⟩
 by_cases hi:i=j
 ·subst hi
  rw[hj] at e1;cases e1
  exact absurd e3 hv
 ·rw[List.getElem?_set_ne (Ne.symm hi)] at e2
  exact hl i y v e1 e2 e3
def spT(K:W.Frag)(PT:Addr)(ok:List Int->Prop):Sp:=fun vs H Q _=>∃ a ns,vs=[.ref a]/\SqL K H a (ns.map V.int)/\H PT=some (.tbl #[])/\ok ns/\∀ H',Q (.bl true) H'
def zsm(m:Nat)(q:Str)(fb:DS)(ns:List Int):Prop:=∃ ρ',fb (some (.val (.scr ns))::(List.replicate m none++[some (.tab q)]))=.ok (.rt (.bl true),ρ')
theorem zs2{P:Program}{w:World}{K:W.Frag}{mg:Str->Option Value}{base:Heap}{xq qual xs xt q:Str}{st:Stmt}{N:List Str}{xv:Nat->Value}{m k:Nat}{fb:DS}{f PT cL:Addr}{fd:FuncData}
  (Fu:Fun K xq qual st f fd) (hcL:fd.code=.ref cL) (hch:W.codeHdIn K cL PT=true) (S:zax N [xs] (zal st)) (hm:N.length=m+2) (hj:N[m+1]? = some xt) (hv:¬ Vis (zal st) xt) (hbm:base.BuiltinsAt mg PT) (hKb:K.In base)
  (hbody:∀(X:Cx)(C:Cn),(∃ cdv A outer s H E,X=zkX (CXe P w) P w K mg base N qual (zal st) f cdv A outer s H E)->C.pp=[m+1]->C.σ₀[m+1]? = some (some (.ref PT))->C.xv=xv->C.nw=false->zdV k X.A->zd5 (CXe P w) X (EXc C)->PassesOwn (model X.prog X.w) X.A X.env X.xe->zgx X PT->JSs X C (zc7 st) fb) :
  zgi P w K mg base (CXe P w) (k+1) f fd [xs] (spT K PT (zsm m q fb)):=by
 obtain ⟨oc,od,kV,doc,pm,an,cdv,ct,osl,rfl,lk,hcd⟩:=Fu.ex
 obtain rfl:cdv=.ref cL:=hcL
 refine zsc lk hcd S (fun vs H Q E ⟨a,ns,h,_⟩=>by rw[h];rfl) fun A outer s H vs Q E hr hsp=>?_
 obtain ⟨a,ns,rfl,hS,hP,⟨ρ',hok⟩,hQ⟩:=hsp
 let X:=zkX (CXe P w) P w K mg base N qual (zal st) f (.ref cL) A outer s H E
 let G:Hp:=fun b=>if b=PT then none else H b
 let w0:Wn:=fun b=>if b=PT then some (m+1) else none
 let σ1:L2.St:=(L2.start N [.ref a]).set (m+1) (some (.ref PT))
 let C:Cn:=⟨G,H,w0,[m+1],σ1,fun _=>False,xv,false⟩
 have lS:(L2.start N [V.ref a]).length=m+2:=by unfold L2.start;simp[hm]
 have hb:=hbody X C ⟨.ref cL,A,outer,s,H,E,rfl⟩ rfl (by show σ1[m+1]? = _;rw[List.getElem?_set_self (by rw[lS];omega)]) rfl rfl hr
  (za9 N qual (zal st) f (.ref cL) A outer s H E (EXc C) S.kind fun u b H' ⟨_,n,_,z,_⟩=>z.elim) PassesOwn.leaving ⟨⟨cL,rfl,W.codeHd_of_K hKb hch⟩,hbm⟩
 refine ⟨fun D σ H=>tS K C fb D (σ.set (m+1) (some (.ref PT))) H,fun pins s' σ H' D I h=>hb pins s' _ H' D (zmJ I hj hv) h,G,w0,some (.val (.scr ns))::(List.replicate m none++[some (.tab q)]),?_,?_⟩
 ·have gP:G PT=none:=if_pos rfl
  have gO:∀{b:Addr},b≠PT->G b=H b:=fun h=>if_neg h
  have wP:w0 PT=some (m+1):=if_pos rfl
  have wO:∀ b,w0 b≠none->b=PT:=fun b e=>by
   by_cases hb:b=PT
   ·exact hb
   ·exact absurd (if_neg hb) e
  refine ⟨fun b o e=>?_,fun b e=>by rw[wO b e];exact gP,fun b e=>by rw[wO b e,hP];simp,by simp[lS],fun i b e=>?_,.refl _ _ _,fun i _=>rfl⟩
  ·by_cases hb:b=PT
   ·rw[hb,gP] at e;cases e
   ·rw[gO hb] at e;exact e
  ·cases i with
   |zero =>
    simp at e;subst e
    refine ⟨.ref a,?_,?_⟩
    ·rw[List.getElem?_set_ne (by omega)];unfold L2.start;simp
    ·show Rep K G (.scr ns) (.ref a)
     unfold Rep
     refine ⟨a,rfl,?_⟩
     rcases hS with (h|⟨o,h⟩)|h
     ·exact .inl (.inl ((gO fun z=>by rw[z,hP] at h;cases h).trans h))
     ·exact .inl (.inr ⟨o,(gO fun z=>by rw[z,hP] at h;cases h).trans h⟩)
     ·exact .inr h
   |succ i =>
    rw[List.getElem?_cons_succ] at e
    by_cases hi:i<m
    ·rw[List.getElem?_append_left (by simpa using hi),List.getElem?_replicate] at e
     split at e <;> cases e
    ·rw[List.getElem?_append_right (by simpa using hi)] at e
     simp only[List.length_replicate] at e
     have him:i=m:=by
      by_cases h:i-m=0
      ·omega
      ·obtain ⟨y,hy⟩:=Nat.exists_eq_succ_of_ne_zero h
       rw[hy] at e;simp at e
     subst him
     simp at e
     subst e
     refine ⟨.ref PT,by rw[List.getElem?_set_self (by rw[lS];omega)],PT,#[],rfl,wP,hP,trivial,fun pos cv z=>?_⟩
     simp[codeAmong] at z
 ·rw[hok]
  intro v σ' G' H' w' _ _ rt
  have:v=.bl true:=zdY (K:=K) (G:=G') rt
  subst this
  exact hQ H'
theorem zlr{P:Program}{w:World}{X:Cx}{C:Cn}(h:∀ n,¬ C.ex n):zd5 (CXe P w) X (EXc C):=fun _ _ _ _ _ _ _ hx=>by
 rcases hx with ⟨_,_,_,_,_,_,_,_,_,_,_,_,_,_,_,n,_,z,_⟩|⟨_,_,_,_,_,_,_,_,n,_,z,_⟩ <;> exact (h n z).elim
section
variable{X:Cx}{C:Cn}{a b:Expr}{fa fb:De}{pos:Pos}
theorem zru{p:Pos}:JE X C (.Dict [] [] p) (dC .dct):=fun pins s σ H Q I ⟨G,w,ρ,r,q⟩=>by
 have big:sysModules<s.heap.objs.size:=Nat.lt_trans (by decide) (I.mod.glob.keeps I.bk).lt
 have hf:H s.heap.objs.size=none:=I.hok.fresh (Nat.le_refl _)
 have ok:zc4 X.prog X.w (upd H s.heap.objs.size (.dK [])) (s.heap.push { cls:=.type "dict",data:=.dict #[] }) s.heap.objs.size (.dK []):=⟨Nat.zero_le _,beq_eq_false_iff_ne.mpr (Ne.symm (Nat.ne_of_lt big)),[],.nil,Heap.DictOf.new s.heap⟩
 refine wpAny_Dict_empty ⟨.ref s.heap.objs.size,_,I.laid (t':=s.toks) (fun _ _ z=>Heap.get?_push_of_some _ z) (Nat.le_refl _) ok,rfl,?_⟩
 have gr:zea G H (upd G s.heap.objs.size (.dK [])) (upd H s.heap.objs.size (.dK [])):=.new r.gh hf
 exact q _ _ _ w gr.step (r.grow gr) (by unfold Rep;exact ⟨_,rfl,zaj⟩)
end
def dAC(ds:List Dt):DA:=fun ρ=>.ok (ds,ρ)
mutual
def zjd:Nat->Expr->Option Dt
 |0,_=>none
 |k+1,e=>match e with
  |.Constant (.int i) _ _=>some (.int i)
  |.Constant (.bool b) _ _=>some (.bl b)
  |.Constant .none _ _=>some .non
  |.Constant (.str x) _ _=>some (.str x)
  |.UnaryOp .USub (.Constant (.int i) _ _) _=>some (.int (-i))
  |.Tuple es _ _=>(zeL k es).bind fun ds=>if zd2 ds=true then some (.tup ds) else none
  |.List es _=>(zeL k es).bind fun ds=>if zd2 ds=true then some (.lst ds) else none
  |.Dict [] [] _=>some .dct
  |_=>none
def zeL:Nat->List Expr->Option (List Dt)
 |_,[]=>some []
 |0,_::_=>none
 |k+1,e::es=>(zjd k e).bind fun d=>(zeL k es).bind fun ds=>some (d::ds)
end
section
variable{X:Cx}{C:Cn}
theorem JE.eq{e:Expr}{f g:De}(h:JE X C e f)(q:f=g):JE X C e g:=q ▸ h
theorem JA.eq{e:List Expr}{f g:DA}(h:JA X C e f)(q:f=g):JA X C e g:=q ▸ h
mutual
theorem zoz:∀(k:Nat){e:Expr}{d:Dt},zjd k e=some d->JE X C e (dC d)/\∀ es,starEach (e::es) X.env=(false,eval e X.env)::starEach es X.env
 |0,e,d,h=>by simp[zjd] at h
 |k+1,e,d,h=>by
  unfold zjd at h
  split at h
  ·cases h;exact ⟨zam,fun _=>rfl⟩
  ·cases h;exact ⟨zfb,fun _=>rfl⟩
  ·cases h;exact ⟨zff,fun _=>rfl⟩
  ·cases h;exact ⟨zb2,fun _=>rfl⟩
  ·cases h;exact ⟨(zo0 zam).eq rfl,fun _=>rfl⟩
  ·rename_i es x1 pos
   obtain ⟨ds,hds,h⟩:=Option.bind_eq_some_iff.mp h
   split at h
   ·rename_i hf
    cases h
    refine ⟨(zib (zkq k hds)).eq ?_,fun _=>rfl⟩
    funext ρ
    show (if zd2 ds=true then _ else _)=_
    rw[if_pos hf];rfl
   ·cases h
  ·rename_i es pos
   obtain ⟨ds,hds,h⟩:=Option.bind_eq_some_iff.mp h
   split at h
   ·rename_i hf
    cases h
    refine ⟨(zaI (zc1 (zkq k hds))).eq ?_,fun _=>rfl⟩
    funext ρ
    show (R.bind (if zd2 ds=true then _ else _) _)=_
    rw[if_pos hf];rfl
   ·cases h
  ·cases h;exact ⟨zru,fun _=>rfl⟩
  ·cases h
theorem zkq:∀(k:Nat){es:List Expr}{ds:List Dt},zeL k es=some ds->JA X C es (dAC ds)
 |k,[],ds,h=>by
  unfold zeL at h
  cases h
  exact zaG
 |0,_::_,ds,h=>by simp[zeL] at h
 |k+1,e::es,ds,h=>by
  unfold zeL at h
  obtain ⟨d,h1,h⟩:=Option.bind_eq_some_iff.mp h
  obtain ⟨ds',h2,h⟩:=Option.bind_eq_some_iff.mp h
  cases h
  obtain ⟨j1,j2⟩:=zoz k h1
  exact (zaw j1 (zkq k h2) (j2 es)).eq rfl
end
theorem jd(k:Nat){e:Expr}{d:Dt}(h:zjd k e=some d):JE X C e (dC d):=(zoz k h).1
end
section
variable{X:Cx}{C:Cn}{a b:Expr}{fa fb:De}{pos:Pos}
end
end PV
end
section
namespace PV
open PySem PySem.Spec L2
open AutoSeq1 (wpAny_loadPart')
section
variable{X:Cx}{C:Cn}{a b o e:Expr}{es:List Expr}{fa fb:De}{pos apos cpos:Pos}{name:Str}{id:String}{to:TE}{t:TA}{r:V->List V->Hp->VK->Prop}
end
section
variable{X:Cx}{C:Cn}{e1 e2:Expr}{fk fv:De}{pos ps apos:Pos}{x:Str}
def zsb:V->List V->Hp->VK->Prop:=fun x vs H Q=>∃ l xs k y,x=.ref l/\vs=[.int k,y]/\H l=some (.lst xs)/\0<=k/\k.toNat<=xs.length/\xs.length<sizeLine/\Q .non (upd H l (.lst (xs.take k.toNat++y::xs.drop k.toNat)))
theorem zkc{y1 y2:V}{us:List Value}(h:zbe [y1,y2] us):∃ u1 u2,us=[u1,u2]/\zcj y1 u1/\zcj y2 u2:=by
 cases h with
 |cons h1 t=>cases t with
  |cons h2 t2=>cases t2;exact ⟨_,_,rfl,h1,h2⟩
theorem zjP:∀(k:Nat){xs:List V}{us:List Value},zbe xs us->zbe (xs.take k) (us.take k)
 |0,_,_,_=>by simpa using Paired.nil
 |k+1,_,_,.nil=>by simpa using Paired.nil
 |k+1,_,_,.cons h t=>by simpa using Paired.cons h (zjP k t)
theorem zjU:∀(k:Nat){xs:List V}{us:List Value},zbe xs us->zbe (xs.drop k) (us.drop k)
 |0,_,_,h=>by simpa using h
 |k+1,_,_,.nil=>by simpa using Paired.nil
 |k+1,_,_,.cons h t=>by simpa using zjU k t
theorem zr5{k:Int}(h0:0<=k)(h:k.toNat<16777216):¬ (!Builtin.List.listFitsIndex k)=true:=by
 have:Builtin.List.listFitsIndex k=true:=fitsIndex_both (by omega) (by omega)
 rw[this];exact Bool.false_ne_true
theorem zqS(its:List Value)(k:Int)(u2:Value)(h0:0<=k)(hk:k.toNat<=its.length):(have m:=if k<0 then (k+(its.toArray.size:Int)).toNat else min k.toNat its.toArray.size;(its.toArray.extract 0 m).push u2++its.toArray.extract m)=(its.take k.toNat++u2::its.drop k.toNat).toArray:=by
 have e:(if k<0 then (k+(its.toArray.size:Int)).toNat else min k.toNat its.toArray.size)=k.toNat:=by
  rw[if_neg (by omega),List.size_toArray,Nat.min_eq_left hk]
 dsimp only
 rw[e]
 apply Array.ext'
 simp
 rw[List.take_of_length_le (by simp)]
theorem zng:MtM X "list.insert" zsb:=by
 intro pins s σ H x vs v us Q I rx rv h
 obtain ⟨l,xs,k,y,rfl,rfl,hH,h0,hk,hz,q⟩:=h
 cases rx
 obtain ⟨u1,u2,rfl,⟨t,ru1⟩,ru2⟩:=zkc rv
 subst ru1
 obtain ⟨z,its,n,r,hl,e⟩:=I.lstM hH
 have hfit:=zr5 h0 (show k.toNat<16777216 by rw[<- zci];omega)
 have hsz0:its.toArray.size<=sizeLine:=by rw[List.size_toArray];omega
 refine call_meets F.slot_list_insert ⟨_,e,rfl⟩ F.entry_list_insert (F.args_list_insert_3 _ _ _) (AutoSeq1.list_insert_list_int_val_1 l its.toArray n k t u2 hfit hsz0) ⟨e,?_⟩
 refine ⟨.non,_,I.lset (its':=its.take k.toNat++u2::its.drop k.toNat) hH e (zqS its k u2 h0 (by omega)) ((zjP _ r).append (.cons ru2 (zjU _ r))) ?_,rfl,q⟩
 rw[List.length_append,List.length_cons,List.length_take,List.length_drop]
 omega
def zlZ(i:Nat)(fk fv:De):De:=fun ρ=>match ρ[i]? with
 |some (some (.own _))=>(fk ρ).bind fun k=>(fv k.2).bind fun v=>match v.2[i]?,k.1 with
  |some (some (.own ds)),.int n=>if 0<=n/\n<=ds.length/\ds.length<16777216 then .ok (.non,v.2.set i (some (.own (ds.take n.toNat++v.1::ds.drop n.toNat)))) else .no
  |_,_=>.no
 |_=>.no
theorem zri(i:Nat)(hk:JE X C e1 fk)(hw:JE X C e2 fv)(hN:X.N[i]? = some x:=by rfl)(hv:Vis X.env.scope x:=by first|exact Or.inl rfl|exact Or.inr (Or.inl rfl)|exact Or.inr (Or.inr rfl))(hd:(x == ("__debug__" : Str))=false:=by decide)(hcd:(x == ("__classdict__" : Str))=false:=by decide)
  (hbase:attributeBase (.Name x ps) "insert" X.env (eval (.Name x ps) X.env)=eval (.Name x ps) X.env:=by rfl)
  (hfew:((backTo pos (starEach [e1,e2] X.env)).all (fun x=>!x.1) && (backToKw pos (keywordEach [] X.env)).all (fun x=>x.1.isSome) && decide ([e1,e2].length+([]:List Keyword).length+(if ([]:List Keyword).isEmpty then 0 else 1)<30))=true:=by rfl)
  (hline:(apos.endLine == pos.line)=true:=by rfl) (hs:starEach [e1,e2] X.env=(false,eval e1 X.env)::starEach [e2] X.env:=by rfl) (hs2:starEach [e2] X.env=(false,eval e2 X.env)::starEach [] X.env:=by rfl) (hplain:(backTo pos (starEach [e2] X.env)).any (·.1)=false:=by rfl) :
  JE X C (.Call (.Attribute (.Name x ps) "insert" apos) [e1,e2] [] pos) (zlZ i fk fv) :=
 PE.weak (zi2 PySem.F.plainAttrs_list PySem.F.slot_list_insert PySem.F.type_list_insert zng (zbw hN hv hd hcd) (zaE hk (zaE hw zb3 hs2) hs) hbase hfew hline hs hplain) fun σ H Q ⟨G,w,ρ,r,p⟩=>by
  unfold zlZ at p
  split at p
  ·rename_i ds0 e0
   obtain ⟨a,vs,h1,h2,h3,h4⟩:=zcS r e0
   refine ⟨.ref a,h1,.inl ⟨rfl,vs,SqL.of h3⟩,?_⟩
   refine zd7 (κ:=fun G H w=>kE X.K C σ Q G H w) zbG r p fun dk ρ1 v1 G1 H1 w1 r1 s1 q1 p1=>?_
   refine zd7 (κ:=fun G H w=>kE X.K C σ Q G H w) zbG r1 p1 fun dv ρ2 v2 G2 H2 w2 r2 s2 q2 p2=>?_
   dsimp only at p2
   split at p2
   ·rename_i ds n e2
    obtain ⟨a',vs',k1,k2,k3,k4⟩:=zcS r2 e2
    rw[h1] at k1;cases k1
    split at p2
    ·rename_i hl
     obtain ⟨r',s'⟩:=r2.mutate e2 h1 k2 ((k4.take n.toNat).append (za2.cons q2 (k4.drop n.toNat)))
     have hlen:=k4.length
     exact ⟨a,vs',n,v2,rfl,by rw[za0 q1],k3,hl.1,by omega,by rw[<- hlen,zci];exact hl.2.2,p2 _ _ _ _ s' r' (by unfold Rep;rfl)⟩
    ·exact p2.elim
   ·exact p2.elim
  ·exact p.elim
end
structure Ep(h:Heap)(e it l:Addr)(i:Nat):Prop where
 e:∃ old,IsEnum h e it i old
 a:h.IsListIter it l i
theorem Ep.keep{h h':Heap}{e it l:Addr}{i:Nat}(p:Ep h e it l i)(k:∀ b∈[e,it],∀ o,h.get? b=some o->h'.get? b=some o):Ep h' e it l i :=
 ⟨let ⟨old,q⟩:=p.e;⟨old,k e (by simp) _ q⟩,p.a.at fun o q=>k it (by simp) o q⟩
theorem zlu{X:Cx}{pins:List (Addr×Obj)}{σ:L2.St}{H:Hp}{s:Shared}{a b:Addr}{xs:List V}(I:L2.Inv X pins σ H s)(hf:zhu X pins H b)(hs:SqL X.K H a xs):b≠a:=by
 rintro rfl
 rcases hs with (h|⟨o,h⟩)|⟨o,its,n,h,_⟩
 ·rw[hf.1] at h;cases h
 ·rw[hf.1] at h;cases h
 ·have hb:=I.mod.kin b o h
  rcases hf.2.2.2.1 with z|z
  ·exact I.ok.noex b o hb z
  ·exact absurd (Nat.lt_of_lt_of_le (Heap.lt_size hb) (Nat.le_trans I.ok.bsz z)) (Nat.lt_irrefl _)
section
variable{X:Cx}{C:Cn}{elts:List Expr}{x1:Nat}{pt:Pos}{a:Expr}{fa:De}{p pos:Pos}
end
end PV
end
section
namespace PV
open PySem PySem.Spec L2 PyProof.Rows
section
variable{X:Cx}{C:Cn}{a b:Expr}{fa fb:De}{pos:Pos}
end
section
variable{prog:Program}{w:World}{A:Around}{E:Value->Shared->Prop}{s:Shared}
end
section
variable{X:Cx}{C:Cn}{a b e:Expr}{fa fb:De}{pos:Pos}
end
section
variable{prog:Program}{w:World}{A:Around}{E:Value->Shared->Prop}{s:Shared}
end
section
variable{X:Cx}{C:Cn}{a b e:Expr}{fa fb:De}{pos:Pos}
end
def spH(PT:Addr)(sp:Sp):Sp:=fun vs H Q E=>sp (vs++[.ref PT]) H Q E
section
variable{X:Cx}{C:Cn}{CX:CXT}{k k':Nat}{ks:List Bool}{Fd:FD}{x:Str}{p pos:Pos}{e:Expr}{es:List Expr}{far:DAr}{j:Nat}{PT:Addr}
structure DfnT(P:Program)(w:World)(K:W.Frag)(mg:Str->Option Value)(base:Heap)(CX:CXT)(xv:Nat->Value)(k:Nat)(x:Str)(ks:List Bool)(PT:Addr)(F:FD):Prop where
 ex:∃(f:Addr)(fd:FuncData)(ps:List Str),zgi P w K mg base CX k f fd ps (spH PT (zra false K xv ks F))/\mg x=some (.ref f)/\W.keepIn K (.ref f)=true/\zfz K fd ps []/\∀ bs,F bs≠.no->zaV bs=ks
end
section
variable{X:Cx}{C:Cn}{a b e:Expr}{fa fb:De}{pos apos:Pos}{zbr:List Expr}
end
end PV
end
section
namespace PV
open PySem PySem.Spec L2
structure ZpL(h:Heap)(z TI TO i1 i2 l1 l2:Addr)(f0:Value)(k:Nat):Prop where
 z:IsZip h z TI TO f0
 ti:IsPair h TI (.ref i1) (.ref i2)
 to:∃ a b,IsPair h TO a b
 a1:h.IsListIter i1 l1 k
 a2:h.IsListIter i2 l2 k
theorem ZpL.keep{h h':Heap}{z TI TO i1 i2 l1 l2:Addr}{f0:Value}{k:Nat}(p:ZpL h z TI TO i1 i2 l1 l2 f0 k)(e:∀ b∈[z,TI,TO,i1,i2],∀ o,h.get? b=some o->h'.get? b=some o):ZpL h' z TI TO i1 i2 l1 l2 f0 k :=
 ⟨e z (by simp) _ p.z,e TI (by simp) _ p.ti,let ⟨a,b,q⟩:=p.to;⟨a,b,e TO (by simp) _ q⟩,p.a1.at fun o q=>e i1 (by simp) o q,p.a2.at fun o q=>e i2 (by simp) o q⟩
theorem zl1{z TI TO i1 i2 l1 l2:Addr}(D:ZpD z TI TO i1 i2)(n1:∀ b∈[z,TI,TO,i1,i2],b≠l1)(n2:∀ b∈[z,TI,TO,i1,i2],b≠l2):ZipApart z TI TO i1 i2 l1 l2 :=
 ⟨D.d1,D.d2,D.d3,D.d4,D.d5,D.d6,D.d7,D.d8,D.d9,D.d0,(n1 z (by simp)).symm,(n1 TO (by simp)).symm,(n1 i1 (by simp)).symm,(n1 i2 (by simp)).symm,(n2 z (by simp)).symm,(n2 TO (by simp)).symm,(n2 i1 (by simp)).symm,(n2 i2 (by simp)).symm⟩
def Itl(K:W.Frag)(a b:Addr):It :=
 ⟨fun i H=>∃ xs ys x y,SqL K H a xs/\SqL K H b ys/\xs[i]? = some x/\ys[i]? = some y,
   fun i H v H'=>∃ p x y,v=.ref p/\H p=none/\H'=upd H p (.tup [x,y])/\(∀ xs,SqL K H a xs->xs[i]? = some x)/\∀ ys,SqL K H b ys->ys[i]? = some y,
   fun i H=>∃ xs ys,SqL K H a xs/\SqL K H b ys/\xs.length<=i⟩
theorem zn8{P:Program}{w:World}{K:W.Frag}{elts:List Expr}{x1}{ps:Pos}{a b z TI TO i1 i2:Addr}(D:ZpD z TI TO i1 i2):zoA P w K (.Tuple elts x1 ps) (Itl K a b) [z,TI,TO,i1,i2] z (fun i h=>ZpL h z TI TO i1 i2 a b .none i) where
 mem:=by simp
 obj:=fun i h st c hc=>by
  obtain ⟨s1,s2,⟨oa,ob,s3⟩,⟨o4,s4,_,d4⟩,⟨o5,s5,_,d5⟩⟩:=st
  simp only[List.mem_cons,List.not_mem_nil,or_false] at hc
  rcases hc with rfl|rfl|rfl|rfl|rfl
  ·exact ⟨_,s1,fun v q=>by cases q⟩
  ·exact ⟨_,s2,fun v q=>by cases q⟩
  ·exact ⟨_,s3,fun v q=>by cases q⟩
  ·exact ⟨_,s4,fun v q=>by rw[d4] at q;cases q⟩
  ·exact ⟨_,s5,fun v q=>by rw[d5] at q;cases q⟩
 keep:=fun i h h' st k=>st.keep k
 item:=by
  intro X hP hw hK hc i pins s σ H E I hf st hg
  subst hP hw hK
  obtain ⟨xs,ys,x,y,q1,q2,hx,hy⟩:=hg
  obtain ⟨its,rv,p,hz⟩:=I.list q1
  obtain ⟨jts,rw',p',hz'⟩:=I.list q2
  obtain ⟨u,hu,ru⟩:=rv.get hx
  obtain ⟨v,hv,rv'⟩:=rw'.get hy
  obtain ⟨oa0,ob0,hto⟩:=st.to
  have AP:=zl1 D (fun c hc=>zlu I (hf c hc) q1) (fun c hc=>zlu I (hf c hc) q2)
  refine wpAny_pyNext_zip_item (x:=u) (y:=v) AP st.z st.ti hto st.a1 st.a2 p.isList p'.isList (by simpa using hu) (by simpa using hv) fun h' b1 b2 b3 b4 ht b6 hk=>?_
  refine ⟨_,rfl,wpAny_letOwnedTupleGo_zip b1 fun h2 hz2 sb=>?_⟩
  have hzp:∀ c∈[z,TI,TO,i1,i2],c≠s.heap.objs.size:=fun c hc q=>by
   obtain ⟨s1,s2,⟨oa,ob,s3⟩,⟨o4,s4,_⟩,⟨o5,s5,_⟩⟩:=st
   simp only[List.mem_cons,List.not_mem_nil,or_false] at hc
   subst q
   rcases hc with rfl|rfl|rfl|rfl|rfl
   ·exact absurd (Heap.lt_size s1) (Nat.lt_irrefl _)
   ·exact absurd (Heap.lt_size s2) (Nat.lt_irrefl _)
   ·exact absurd (Heap.lt_size s3) (Nat.lt_irrefl _)
   ·exact absurd (Heap.lt_size s4) (Nat.lt_irrefl _)
   ·exact absurd (Heap.lt_size s5) (Nat.lt_irrefl _)
  have st2:ZpL h2 z TI TO i1 i2 a b .none (i+1) :=
   ⟨hz2,sb.extBut _ _ D.d1 (hk TI _ D.d1 D.d5 D.d6 D.d7 st.ti),⟨_,_,sb.extBut _ _ D.d2 b2⟩,b3.extBut sb.extBut D.d3,b4.extBut sb.extBut D.d4⟩
  have hk2:∀ c ob,c∉[z,TI,TO,i1,i2]->s.heap.get? c=some ob->h2.get? c=some ob:=fun c ob nc e=>by
   simp only[List.mem_cons,List.not_mem_nil,or_false,not_or] at nc
   exact sb.extBut _ _ nc.1 (hk c ob nc.1 nc.2.2.1 nc.2.2.2.1 nc.2.2.2.2 e)
  have hth:∀ c ob,s.heap.get? c=some ob->∃ ob',h2.get? c=some ob':=fun c ob e=>by
   by_cases nc:c∈[z,TI,TO,i1,i2]
   ·obtain ⟨s1,s2,⟨oa,ob,s3⟩,⟨o4,s4,_⟩,⟨o5,s5,_⟩⟩:=st2
    simp only[List.mem_cons,List.not_mem_nil,or_false] at nc
    rcases nc with rfl|rfl|rfl|rfl|rfl
    ·exact ⟨_,s1⟩
    ·exact ⟨_,s2⟩
    ·exact ⟨_,s3⟩
    ·exact ⟨_,s4⟩
    ·exact ⟨_,s5⟩
   ·exact ⟨ob,hk2 c ob nc e⟩
  have hnew:h2.get? s.heap.objs.size=some { cls:=.type "tuple",data:=.seq #[u,v] }:=sb.extBut _ _ (Ne.symm (hzp z (by simp))) ht
  have IN:L2.Inv X pins σ (upd H s.heap.objs.size (.tup [x,y])) { s with heap:=h2 }:=zgJ (s:=s) (t':=s.toks) (o:=.tup [x,y]) I hf hk2 (Nat.le_refl _) hth ⟨by show 2<=sizeLine;decide,[u,v],.cons ru (.cons rv' .nil),0,hnew⟩
  exact ⟨.ref s.heap.objs.size,_,IN,rfl,
   ⟨_,x,y,rfl,I.hok.fresh (Nat.le_refl _),rfl,fun zs q=>by rw[I.list_inj q q1];exact hx,fun zs q=>by rw[I.list_inj q q2];exact hy⟩,st2,fun c hc=>by rw[zaf (hzp c hc)];exact (hf c hc).1⟩
 done:=by
  intro X hP hw hK hc i pins s σ H E I hf st hg
  subst hP hw hK
  obtain ⟨xs,ys,q1,q2,hx⟩:=hg
  obtain ⟨its,rv,p,hz⟩:=I.list q1
  obtain ⟨jts,rw',p',hz'⟩:=I.list q2
  have hl:=rv.length
  obtain ⟨oa0,ob0,hto⟩:=st.to
  have AP:=zl1 D (fun c hc=>zlu I (hf c hc) q1) (fun c hc=>zlu I (hf c hc) q2)
  refine wpAny_pyNext_zip_end (I.ok.hd hc) AP st.z st.ti hto st.a1 st.a2 p.isList p'.isList (.inl (by simp;omega)) fun h' hk=>⟨rfl,?_⟩
  refine zho (t':=s.toks) I hf fun c ob nc e=>?_
  simp only[List.mem_cons,List.not_mem_nil,or_false,not_or] at nc
  exact hk c ob nc.1 nc.2.2.1 nc.2.2.2.1 nc.2.2.2.2 e
 self:=fun _ _ _ _ _ st h=>wpAny_pyIter_zip st.z h
theorem zsQ{K:W.Frag}{G:Hp}{a b:Addr}{vs us:List V}{ds es:List Dt}(hs:G a=some (.lst vs))(ht:G b=some (.lst us))(q:za2 K G ds vs)(q':za2 K G es us)(hl:ds.length=es.length):zlP K (Itl K a b) G ((ds.zip es).map fun z=>.tup [z.1,z.2]):=fun i G1 H s1 s2=>by
 have h1:SqL K H a vs:=SqL.of (s2 _ _ (s1 _ _ hs))
 have h2:SqL K H b us:=SqL.of (s2 _ _ (s1 _ _ ht))
 refine ⟨fun d e=>?_,fun h=>⟨vs,us,h1,h2,?_⟩⟩
 ·rw[List.getElem?_map] at e
  have hi:i<ds.length:=by
   by_cases hi:i<ds.length
   ·exact hi
   ·rw[List.getElem?_eq_none (by rw[List.length_zip];omega)] at e;cases e
  have z1:ds[i]? = some ds[i]:=by simp[hi]
  have z2:es[i]? = some (es[i]'(by omega)):=by simp[show i<es.length by omega]
  obtain ⟨v,e1,e2⟩:=q.get z1
  obtain ⟨u,e3,e4⟩:=q'.get z2
  have ed:d=.tup [ds[i],es[i]'(by omega)]:=by
   rw[(List.getElem?_zip_eq_some (z:=(ds[i],es[i]'(by omega)))).mpr ⟨z1,z2⟩] at e
   exact (Option.some.inj e).symm
  refine ⟨⟨vs,us,v,u,h1,h2,e1,e3⟩,fun x H' y=>?_⟩
  obtain ⟨p,x',y',rfl,hp,rfl,k1,k2⟩:=y
  have kx:=k1 vs h1
  have ky:=k2 us h2
  rw[e1] at kx;rw[e3] at ky
  cases kx;cases ky
  have gr:zea G1 H (upd G1 p (.tup [v,u])) (upd H p (.tup [v,u])):=.new s2 hp
  refine ⟨_,gr,?_⟩
  rw[ed]
  unfold Rep
  exact ⟨p,[v,u],rfl,zkg.of zaj,za2.cons ((e2.same s1).same gr.g) (za2.cons ((e4.same s1).same gr.g) za2.nil)⟩
 ·rw[<- q.length]
  simpa [hl] using h
def zk8(fa fb:De):DA:=fun ρ=>(fa ρ).bind fun a=>(fb a.2).bind fun b=>match a.1,b.1 with
 |.tup l,.tup r=>if l.length=r.length then .ok ((l.zip r).map fun z=>.tup [z.1,z.2],b.2) else .no
 |.lst l,.lst r=>if l.length=r.length then .ok ((l.zip r).map fun z=>.tup [z.1,z.2],b.2) else .no
 |_,_=>.no
section
variable{X:Cx}{C:Cn}{elts:List Expr}{x1:Nat}{pt:Pos}{a b:Expr}{fa fb:De}{p pos:Pos}
theorem zqP(hg:Gl X "zip")(hm:X.mg "zip"=none)(ha:JE X C a fa)(hb:JE X C b fb)(hs:starEach [a,b] X.env=(false,eval a X.env)::starEach [b] X.env:=by rfl)(hs2:starEach [b] X.env=(false,eval b X.env)::starEach [] X.env:=by rfl)(hpl:(backTo pos (starEach [b] X.env)).any (·.1)=false:=by rfl) :
  JI X C (.Tuple elts x1 pt) (.Call (.Name "zip" p) [a,b] [] pos) (zk8 fa fb):=by
 intro pins s σ H R I ⟨G,w,ρ,r,pp⟩
 refine PyProof.Rows.Call_ (zhR I hg hm PyProof.Rows.boot_zip (PyProof.Rows.callWith_type1 (thn (zaw ha (zaw hb zaG hs2) hs pos pins s σ H (fun vs H1=>∃(l1 l2:Addr)(xs ys:List V),vs=[.ref l1,.ref l2]/\((SqT X.K H1 l1 xs/\SqT X.K H1 l2 ys/\R (Itz X.K l1 l2) H1)\/(SqL X.K H1 l1 xs/\SqL X.K H1 l2 ys/\R (Itl X.K l1 l2) H1))) I ?_) fun us s1 ⟨vs,H1,I1,r1,q1⟩=>?_) hs hpl))
 ·refine ⟨G,w,ρ,r,?_⟩
  unfold zk8 at pp
  unfold dA dA0
  cases e:fa ρ with
  |ok x =>
   obtain ⟨d,ρ1⟩:=x
   rw[e] at pp
   simp only[PV.R.bind_ok] at pp ⊢
   cases e2:fb ρ1 with
   |ok y =>
    obtain ⟨d2,ρ2⟩:=y
    rw[e2] at pp
    simp only[PV.R.bind_ok] at pp ⊢
    intro vs G1 H1 w1 s1 r1 q
    obtain ⟨v,u,rfl,k1,k2⟩:=zqU q
    cases d with
    |tup l =>
     cases d2 with
     |tup l' =>
      dsimp only at pp
      by_cases hl:l.length=l'.length
      ·rw[if_pos hl] at pp
       obtain ⟨a1,xs,rfl,m1,m2⟩:=zcc k1
       obtain ⟨a2,ys,rfl,m3,m4⟩:=zcc k2
       exact ⟨a1,a2,xs,ys,rfl,.inl ⟨zaT r1.gh m1,zaT r1.gh m3,pp _ G1 H1 w1 s1 r1 (zsy m1 m3 m2 m4 hl)⟩⟩
      ·rw[if_neg hl] at pp;exact pp.elim
     |_=>exact False.elim pp
    |lst l =>
     cases d2 with
     |lst l' =>
      dsimp only at pp
      by_cases hl:l.length=l'.length
      ·rw[if_pos hl] at pp
       obtain ⟨a1,xs,rfl,m1,m2⟩:=zbd k1
       obtain ⟨a2,ys,rfl,m3,m4⟩:=zbd k2
       exact ⟨a1,a2,xs,ys,rfl,.inr ⟨SqL.of (r1.gh _ _ m1),SqL.of (r1.gh _ _ m3),pp _ G1 H1 w1 s1 r1 (zsQ m1 m3 m2 m4 hl)⟩⟩
      ·rw[if_neg hl] at pp;exact pp.elim
     |_=>exact False.elim pp
    |_=>exact False.elim pp
   |er n=>rw[e2] at pp;exact pp
   |no=>rw[e2] at pp;exact pp
  |er n=>rw[e] at pp;exact pp
  |no=>rw[e] at pp;exact pp
 ·obtain ⟨l1,l2,xs,ys,rfl,q⟩:=q1
  obtain ⟨u1,u2,rfl,c1,c2⟩ : ∃ u1 u2,us=[u1,u2]/\zcj (.ref l1) u1/\zcj (.ref l2) u2:=by
   cases r1 with
   |cons h1 t=>cases t with
    |cons h2 t2=>cases t2;exact ⟨_,_,rfl,h1,h2⟩
  cases c1;cases c2
  have D:ZpD (s1.heap.objs.size+4) (s1.heap.objs.size+2) (s1.heap.objs.size+3) s1.heap.objs.size (s1.heap.objs.size+1):=zsE _
  have hfp:∀ c∈[s1.heap.objs.size+4,s1.heap.objs.size+2,s1.heap.objs.size+3,s1.heap.objs.size,s1.heap.objs.size+1],zhu X pins H1 c:=fun c hc=>by
   have hle:s1.heap.objs.size<=c:=by
    simp only[List.mem_cons,List.not_mem_nil,or_false] at hc
    rcases hc with rfl|rfl|rfl|rfl|rfl
    ·exact Nat.le_add_right ..
    ·exact Nat.le_add_right ..
    ·exact Nat.le_add_right ..
    ·exact Nat.le_refl _
    ·exact Nat.le_add_right ..
   exact I1.fpOk hle (I1.hok.fresh hle)
  rcases q with ⟨k1,k2,q⟩|⟨k1,k2,q⟩
  ·obtain ⟨its,rv,p1,_⟩:=I1.tuple k1
   obtain ⟨jts,rw',p2,_⟩:=I1.tuple k2
   refine zrj (show s1.heap.IsTuple l1 its.toArray from p1) (show s1.heap.IsTuple l2 jts.toArray from p2) fun h' zp hk=>?_
   refine wpAny_pyIter_zip zp.z ?_
   exact ⟨s1.heap.objs.size+4,[s1.heap.objs.size+4,s1.heap.objs.size+2,s1.heap.objs.size+3,s1.heap.objs.size,s1.heap.objs.size+1],_,_,H1,rfl,I1.kept (t':=s1.toks) hk,zpN D,zp,hfp,q⟩
  ·obtain ⟨its,rv,p1,_⟩:=I1.list k1
   obtain ⟨jts,rw',p2,_⟩:=I1.list k2
   refine call_zip_2 p1.isList p2.isList fun h' b1 b2 b3 b4 b5 b6 hk=>?_
   refine wpAny_pyIter_zip b1 ?_
   exact ⟨s1.heap.objs.size+4,[s1.heap.objs.size+4,s1.heap.objs.size+2,s1.heap.objs.size+3,s1.heap.objs.size,s1.heap.objs.size+1],_,_,H1,rfl,I1.kept (t':=s1.toks) hk,zn8 D,⟨b1,b2,⟨_,_,b3⟩,b4,b5⟩,hfp,q⟩
end
end PV
end
section
namespace PV
open PySem PySem.Spec L2 PyProof.Rows
section
variable{X:Cx}{C:Cn}{pos:Pos}
end
section
variable{X:Cx}{C:Cn}{CX:CXT}{k k':Nat}{ks:List Bool}{Fd:FD}{x a b:Str}{p pos pa pb:Pos}
end
section
variable{X:Cx}{C:Cn}{a b:Expr}{fa fb:De}{pos:Pos}
end
end PV
end
section
end
section
namespace PV
open PySem PySem.Spec L2 PyProof.Rows
structure KeepO(i:Nat)(g:DG)(ft:DT)(fe:De):Prop where
 t:∀ d ρ ρ1 b ρ2,g d ρ=.ok ρ1->ft ρ1=.ok (b,ρ2)->ρ2[i]? = ρ[i]?
 e:∀ ρ y ρ1,fe ρ=.ok (y,ρ1)->ρ1[i]? = ρ[i]?
section
variable{X:Cx}{C:Cn}
end
structure CBlk(X:Cx)(xr xc xl:Str)(ci:Nat)(scope:Scope)(N':List Str)(p2 p3 p5:Pos):Prop where
 hc:X.calm=true
 hci:X.N[ci]? = some xl
 hvl:Vis X.env.scope xl
 hb:zeK X.N N' scope.names 1=true
 hkind:scope.kind=.function
 hcell:Hce scope
 hfr:Hfr X scope
 hnames:Hnm scope
 hN':N'.Nodup
 hcs:N'[X.N.length]? = some xc
 hgl:∀ cl L s H fp,Gl (zcw X N' scope cl L s H fp) xr
 he:∀ cl L s H fp,starEach [.Name xc p2] (zcw X N' scope cl L s H fp).env=(false,eval (.Name xc p2) (zcw X N' scope cl L s H fp).env)::starEach [] (zcw X N' scope cl L s H fp).env
 hpl:∀ cl L s H fp,(backTo p3 (starEach [] (zcw X N' scope cl L s H fp).env)).any (·.1)=false
 hvx:∀ cl L s H fp,Vis (zcw X N' scope cl L s H fp).env.scope xc/\Loc (zcw X N' scope cl L s H fp).env.scope xc/\(zcw X N' scope cl L s H fp).env.scope.names.lookup xc=some .local
 hs:∀ x,foldedSetIterable (.Name xl p5) X.env x=pure x
 hdb:(xr == ("__debug__" : Str))=false:=by decide
 hdc:(xc == ("__debug__" : Str))=false:=by decide
 hdd:(xc == ("__classdict__" : Str))=false:=by decide
 hdl:(xl == ("__debug__" : Str))=false:=by decide
 hdm:(xl == ("__classdict__" : Str))=false:=by decide
section
variable{X:Cx}{C:Cn}{f:Addr}{fd:FuncData}{st:Stmt}{xq xr xc xl:Str}{NR:List Str}{m k n ci:Nat}{dB:Nat->Addr->DS}
end
structure CS(X:Cx)(C:Cn)(k n ci:Nat)(ρ:Ev)(G0 H0:Hp)(w:Wn)(l:Nat)(σ:L2.St)(H:Hp):Prop where
 ex:∃(p:Addr)(G1:Hp)(Fs:List Addr),Fs.length=l/\σ[ci]? = some (some (.ref p))/\Rel X.K C G1 w ρ σ H/\zbt G0 H0 w G1 H w/\H0 p=none/\C.H₀ p=none/\H p=some (.lst (Fs.map V.ref))/\G1 p=none/\w p=none/\∀ Fa∈Fs,zn1 X C.xv k n ρ G1 Fa
structure AppOk(X:Cx)(xl:Str)(pa:Arguments)(b:Expr)(s:Scope)(l q4 q5 q6 q7:Pos):Prop where
 hsw:swapsWith (.Call (.Attribute (.Name xl q4) "append" q5) [.Lambda pa b s l] [] q6) none q7.line X.env=pure false
 hse:starEach [.Lambda pa b s l] X.env=(false,eval (.Lambda pa b s l) X.env)::starEach [] X.env
 hba:attributeBase (.Name xl q4) "append" X.env (eval (.Name xl q4) X.env)=eval (.Name xl q4) X.env
 hfw:((backTo q6 (starEach [.Lambda pa b s l] X.env)).all (fun x=>!x.1) && (backToKw q6 (keywordEach [] X.env)).all (fun x=>x.1.isSome) && decide ([Expr.Lambda pa b s l].length+([]:List Keyword).length+(if ([]:List Keyword).isEmpty then 0 else 1)<30))=true
 hln:(q5.endLine == q6.line)=true
 hpl:(backTo q6 (starEach [] X.env)).any (·.1)=false
section
variable{X:Cx}{C:Cn}{P f:Addr}{fd:FuncData}{st:Stmt}{xq xr xc xl:Str}{NR N':List Str}{m k n ci j l:Nat}{dB:Nat->Addr->DS}{ρ:Ev}{G0 H0:Hp}{w:Wn}{scope:Scope}{p1 p2 p3 p4 p5 pos:Pos}
 (LB:zgx X P) (hjp:j∈C.pp) (hσ0:C.σ₀[j]? = some (some (.ref P))) (hip:ci∉C.pp)
include LB hjp hσ0 hip
variable(cls:Nat->Addr)(hxv:∀ n,n<8->C.xv n=.ref (cls n))(hfn:X.fn=fun _=>true)
 (Fu:Fun X.K xq xr st f fd) (S:zax NR ["call"] (zal st)) (hNR:NR.length=m+1) (hbi:zfz X.K fd ["call"] []) (hm:X.mg xr=some (.ref f)) (hr:zdV (k+2) X.A) (hu:X.A.units+64<cLine)
 (hB:∀(C:Cn),(∀ n,n<8->C.xv n=.ref (cls n))->HB X C xr st f NR k cls dB) (hden:HD m dB)
include hxv hfn Fu S hNR hbi hm hr hu hB hden
omit LB hjp hσ0 in
end
end PV
end
section
end
section
namespace PV
open PySem PySem.Spec L2 PyProof.Rows
section
variable{X:Cx}{C:Cn}{CX:CXT}{k k':Nat}{ks:List Bool}{Fd:FD}{x a:Str}{eb:Expr}{fb:De}{p pos pa:Pos}
end
section
variable{X:Cx}{C:Cn}{e e':Expr}{fa fb:De}{pos:Pos}
end
def zii:List Dt->Option (List Str)
 |[]=>some []
 |.str x::r=>(zii r).map (x::·)
 |_::_=>none
theorem zjt:∀{ds:List Dt}{xs:List Str},zii ds=some xs->ds=xs.map Dt.str
 |[],xs,h=>by cases h;rfl
 |d::r,xs,h=>by
  cases d with
  |str x =>
   simp only[zii,Option.map_eq_some_iff] at h
   obtain ⟨ys,e,rfl⟩:=h
   rw[zjt e];rfl
  |_=>cases h
theorem zjn{K:W.Frag}{G:Hp}:∀{xs:List Str}{vs:List V},za2 K G (xs.map Dt.str) vs->vs=xs.map V.str
 |[],vs,h=>h.nil_inv
 |x::r,vs,h=>by
  obtain ⟨v,t,rfl,h1,h2⟩:=h.cons_inv
  rw[zaN h1,zjn h2];rfl
theorem zjb{K:W.Frag}{G:Hp}:∀(xs:List Str),za2 K G (xs.map Dt.str) (xs.map V.str)
 |[]=>za2.nil
 |x::r=>za2.cons (by unfold Rep;rfl) (zjb r)
theorem zjE:∀{xs:List Str}{us:List Value},zbe (xs.map V.str) us->∃ l:List (Str×Tok),us=strValues l/\l.map (·.1)=xs
 |[],us,h=>by cases h;exact ⟨[],rfl,rfl⟩
 |x::r,us,h=>by
  cases h with
  |cons h1 t =>
   obtain ⟨tk,rfl⟩:=h1
   obtain ⟨l,rfl,e⟩:=zjE t
   exact ⟨(x,tk)::l,rfl,by rw[<- e];rfl⟩
theorem zj4:∀(l:List (Str×Tok)),zbe ((l.map (·.1)).map V.str) (strValues l)
 |[]=>.nil
 |p::r=>.cons ⟨p.2,rfl⟩ (zj4 r)
section
variable{X:Cx}{C:Cn}{a b e:Expr}{fa fb:De}{pos apos p2:Pos}{zbr:List Expr}
def zdF:List Dt->R Dt
 |[.int i]=>if i.natAbs.log2<1920 then .ok (.str (toString i)) else .no
 |_=>.no
theorem zrq{K:W.Frag}:FnR K (fun xs H Q=>∃ i,xs=[.int i]/\i.natAbs.log2<1920/\Q (.str (toString i)) H) zdF:=fun G H vs ds z Q gh hr e k=>by
 unfold zdF at e
 split at e
 ·split at e
  ·rename_i hz
   obtain ⟨v,rfl,h1⟩:=zf3 hr
   cases e
   exact ⟨_,by rw[za0 h1],hz,k _ G H (.refl gh) (by unfold Rep;rfl)⟩
  ·cases e
 ·cases e
theorem zrP:zkw zdF:=fun x n h=>by unfold zdF at h;split at h <;> first|cases h|(split at h <;> cases h)
theorem zi9{p:Pos}(hg:Gl X "str")(hm:X.mg "str"=none)(hv:bootBuiltins "str"=some (.type "str"))(ha:JE X C a fa)(hs:starEach [a] X.env=(false,eval a X.env)::starEach [] X.env:=by rfl)(hpl:(backTo pos (starEach [] X.env)).any (·.1)=false:=by rfl):JE X C (.Call (.Name "str" p) [a] [] pos) (dFn zdF (dA fa dA0)) :=
 zg6 zrq zrP zj8 hg hm hv (zaw ha zaG hs) (by decide) (by decide) hs hpl
def zlO:List Dt->R Dt
 |[.str x]=>if x.length<=640 then match PySem.intText? x with
   |some n=>.ok (.int n)
   |none=>.no
  else .no
 |_=>.no
theorem zj3:zcE X (.type "int") (fun xs H Q=>∃ x n,xs=[.str x]/\x.length<=640/\PySem.intText? x=some n/\Q (.int n) H):=by
 intro pins s σ H xs us Q I r h
 obtain ⟨x,n,rfl,hz,hn,q⟩:=h
 obtain ⟨u,rfl,t,rfl⟩:=zhz r
 exact W.KIN.call_text hn hz ⟨.int n,H,I.tok _,⟨_,rfl⟩,q⟩
theorem zrE{K:W.Frag}:FnR K (fun xs H Q=>∃ x n,xs=[.str x]/\x.length<=640/\PySem.intText? x=some n/\Q (.int n) H) zlO:=fun G H vs ds z Q gh hr e k=>by
 unfold zlO at e
 split at e
 ·split at e
  ·rename_i hz
   split at e
   ·rename_i n hn
    obtain ⟨v,rfl,h1⟩:=zf3 hr
    cases e
    exact ⟨_,n,by rw[zaN h1],hz,hn,k _ G H (.refl gh) (za3 _)⟩
   ·cases e
  ·cases e
 ·cases e
theorem zrp:zkw zlO:=fun x n h=>by
 unfold zlO at h
 split at h
 ·split at h
  ·split at h <;> cases h
  ·cases h
 ·cases h
theorem zrQ{p:Pos}(hg:Gl X "int")(hm:X.mg "int"=none)(hv:bootBuiltins "int"=some (.type "int"))(ha:JE X C a fa)(hs:starEach [a] X.env=(false,eval a X.env)::starEach [] X.env:=by rfl)(hpl:(backTo pos (starEach [] X.env)).any (·.1)=false:=by rfl):JE X C (.Call (.Name "int" p) [a] [] pos) (dFn zlO (dA fa dA0)) :=
 zg6 zrE zrp zj3 hg hm hv (zaw ha zaG hs) (by decide) (by decide) hs hpl
def zkj:Dt->Dt->R Dt
 |.str i,.str j=>.ok (.bl (!(Builtin.Str.occurrences j i 0 j.length 1).isEmpty))
 |_,_=>.no
theorem zoy{K:W.Frag}:Op2 K (fun x y H Q=>∃ i j,x=.str i/\y=.str j/\Q (.bl (!(Builtin.Str.occurrences j i 0 j.length 1).isEmpty)) H) zkj:=fun G H x y dx dy z Q gh hx hy e k=>by
 unfold zkj at e
 split at e
 ·cases e;exact ⟨_,_,zaN hx,zaN hy,k _ G H (.refl gh) (zbH _)⟩
 ·cases e
theorem zlt:zh4 zkj:=fun x y n h=>by unfold zkj at h;split at h <;> cases h
theorem zs9(ha:JE X C a fa)(hb:JE X C b fb)(hm:behindInMarks .In b=false:=by rfl):JE X C (.Compare a [.In] [b] pos) (dOp zkj fa fb):=zjy zkb zoy zlt ha hb hm
theorem zq3(ha:JE X C a fa)(hb:JE X C b fb)(hm:behindInMarks .In b=false:=by rfl):JT X C (.Compare a [.In] [b] pos) (dTB (dOp zkj fa fb)):=zhi zkb zoy zlt ha hb hm
def zjl:Dt->Dt->R Dt
 |.str i,.str j=>if i.length+j.length<=16777216 then .ok (.str (i++j)) else .no
 |_,_=>.no
theorem zqb{K:W.Frag}:Op2 K (fun x y H Q=>∃ i j,x=.str i/\y=.str j/\i.length+j.length<=sizeLine/\Q (.str (i++j)) H) zjl:=fun G H x y dx dy z Q gh hx hy e k=>by
 unfold zjl at e
 split at e
 ·split at e
  ·rename_i hz
   cases e;exact ⟨_,_,zaN hx,zaN hy,by rw[zci];exact hz,k _ G H (.refl gh) (by unfold Rep;rfl)⟩
  ·cases e
 ·cases e
theorem zmA:zh4 zjl:=fun x y n h=>by unfold zjl at h;split at h <;> first|cases h|(split at h <;> cases h)
theorem znj(ha:JE X C a fa)(hb:JE X C b fb):JE X C (.BinOp a .Add b pos) (dOp zjl fa fb):=zkB zlV zqb zmA ha hb
def zm0:Dt->Dt->R Dt
 |.str z,.int i=>if z.length<=16777216 then match atI z.cps.toList i with
   |some c=>.ok (.str ⟨#[c]⟩)
   |none=>.no
  else .no
 |_,_=>.no
theorem zrb{K:W.Frag}:Op2 K rIxS zm0:=fun G H x y dx dy z Q gh hx hy e k=>by
 unfold zm0 at e
 split at e
 ·split at e
  ·rename_i hz
   split at e
   ·rename_i c hc
    cases e;exact ⟨_,_,c,zaN hx,za0 hy,by rw[zci];exact hz,hc,k _ G H (.refl gh) (by unfold Rep;rfl)⟩
   ·cases e
  ·cases e
 ·cases e
theorem zpc:zh4 zm0:=fun x y n h=>by
 unfold zm0 at h
 split at h
 ·split at h
  ·split at h <;> cases h
  ·cases h
 ·cases h
theorem znp(ha:JE X C a fa)(hb:JE X C b fb)(hs:zel b:=by exact fun _ _=>rfl):JE X C (.Subscript a b pos) (dOp zm0 fa fb) :=
 PE.weak (zh5 zty ha hb hs) fun σ H Q h=>zhf zrb zpc h
def tOrS(ta tb:TE):TE:=fun σ H Q=>ta σ H fun x H1=>∃ z,x=.str z/\z.length<=sizeLine/\if (z.length == 0)=true then tb σ H1 Q else Q (.str z) H1
theorem ztK{ta tb:TE}(ha:PE X a ta)(hb:PE X (.BoolOp .Or (b::zbr) pos) tb):PE X (.BoolOp .Or (a::b::zbr) pos) (tOrS ta tb):=by
 intro pins s σ H Q I h
 refine BoolOp_or (thn (ha pins s σ H _ I h) fun v s1 ⟨x,H1,I1,r1,q1⟩=>?_)
 obtain ⟨z,rfl,q1⟩:=q1
 obtain ⟨t,rfl⟩:=r1
 have I2:L2.Inv X pins σ H1 { s1 with toks:=s1.toks+1+1 }:=I1.kept (t':=s1.toks+1+1) fun _ _ q=>q
 obtain ⟨hz,q1⟩:=q1
 refine PySem.P.truthy_str (by have:=zci;omega) ?_
 by_cases h0:z.length=0
 ·rw[if_pos (by simp[h0])] at q1
  rw[show (((z.length:Nat):Int) != 0)=false by simp[h0]]
  exact hb pins _ σ H1 Q I2 q1
 ·rw[if_neg (by simp[h0])] at q1
  rw[show (((z.length:Nat):Int) != 0)=true by simp[h0]]
  exact ⟨.str z,H1,I2,⟨t,rfl⟩,q1⟩
def zuE(fa fb:De):De:=fun ρ=>(fa ρ).bind fun a=>match a.1 with
 |.str z=>if z.length<=16777216 then if (z.length == 0)=true then fb a.2 else .ok (.str z,a.2) else .no
 |_=>.no
theorem ztA(ha:JE X C a fa)(hb:JE X C (.BoolOp .Or (b::zbr) pos) fb):JE X C (.BoolOp .Or (a::b::zbr) pos) (zuE fa fb):=(ztK ha hb).weak fun σ H Q ⟨G,w,ρ,r,p⟩=>by
 refine zd7 (κ:=fun G H w=>kE X.K C σ Q G H w) zbG r p fun d ρ1 v G1 H1 w1 r1 s1 q1 p1=>?_
 cases d with
 |str z =>
  dsimp only at p1
  split at p1
  case isFalse=>exact p1.elim
  rename_i hl
  refine ⟨z,zaN q1,by rw[zci];exact hl,?_⟩
  split
  ·rename_i hz
   rw[if_pos hz] at p1
   exact ⟨G1,w1,ρ1,r1,p1⟩
  ·rename_i hz
   rw[if_neg hz] at p1
   exact p1 _ G1 H1 w1 (.refl _ _ _) r1 (by unfold Rep;rfl)
 |_=>exact p1.elim
theorem ztH{G H:Hp}{w:Wn}{ρ:Ev}{σ:L2.St}{Q:VK}{ds:List Dt}{zs:List V}{l:Addr}(r:Rel X.K C G w ρ σ H)(p:kN X.K C σ Q G H w (ds,ρ))(hl:H l=none)(q:za2 X.K G ds zs):Q (.ref l) (upd H l (.lst zs)) :=
 have gr:zea G H G (upd H l (.lst zs)):=.newH r.gh hl
 p l zs G _ w gr.step (r.grow gr) hl zaj (r.gh.free hl) (zef r hl) q
def zuA(K:W.Frag):V->List V->Hp->VK->Prop:=fun x vs H Q=>∃ sep ad xs,x=.str sep/\vs=[.ref ad]/\SqL K H ad (xs.map V.str)/\JoinOk sep xs=true/\Q (.str (Txt.join sep xs)) H
theorem zrh:MtR X "str.join" (zuA X.K):=by
 intro pins s σ H x vs v us Q I rx rv h
 obtain ⟨sep,ad,xs,rfl,rfl,hq,hok,q⟩:=h
 obtain ⟨t,rfl⟩:=rx
 obtain ⟨u,rfl,ru⟩:=zbe.one rv
 cases ru
 obtain ⟨its,r,pl,hz⟩:=I.list hq
 obtain ⟨l,rfl,rfl⟩:=zjE r
 have hok':=hok
 unfold JoinOk at hok'
 rw[Bool.not_eq_true'] at hok'
 refine PySem.call_meets F.slot_str_join (typeIs_str _ _ _) F.entry_str_join (F.args_str_join_2 _ _) (meets_str_join_list sep t ad l hok') ⟨pl.isList,post_join l ⟨joinFit_length hok',fun t' k=>?_⟩⟩
 exact ⟨.str _,H,I.kept (t':=k) (fun _ _ q=>q),⟨_,rfl⟩,q⟩
def ze7(fs fl:De):De:=fun ρ=>(fs ρ).bind fun a=>match a.1 with
 |.str sep=>(fl a.2).bind fun b=>match b.1 with
  |.lst ds=>match zii ds with
   |some xs=>if JoinOk sep xs=true then .ok (.str (Txt.join sep xs),b.2) else .no
   |none=>.no
  |_=>.no
 |_=>.no
theorem zfK(ha:JE X C a fa)(hb:JE X C b fb)(hbase:attributeBase a "join" X.env (eval a X.env)=eval a X.env:=by rfl)
  (hfew:((backTo pos (starEach [b] X.env)).all (fun x=>!x.1) && (backToKw pos (keywordEach [] X.env)).all (fun x=>x.1.isSome) && decide ([b].length+([]:List Keyword).length+(if ([]:List Keyword).isEmpty then 0 else 1)<30))=true:=by rfl)
  (hline:(apos.endLine == pos.line)=true:=by rfl) (hs:starEach [b] X.env=(false,eval b X.env)::starEach [] X.env:=by rfl) (hplain:(backTo pos (starEach [] X.env)).any (·.1)=false:=by rfl) :
  JE X C (.Call (.Attribute a "join" apos) [b] [] pos) (ze7 fa fb) :=
 PE.weak (zi2 PySem.F.plainAttrs_str PySem.F.slot_str_join PySem.F.type_str_join zrh ha (zaE hb zb3 hs) hbase hfew hline hs hplain) fun σ H Q ⟨G,w,ρ,r,p⟩=>by
  refine zd7 (κ:=fun G H w=>kE X.K C σ Q G H w) zbG r p fun d ρ1 v G1 H1 w1 r1 s1 q1 p1=>?_
  cases d with
  |str sep =>
   obtain rfl:=zaN q1
   refine ⟨rfl,?_⟩
   refine zd7 (κ:=fun G H w=>kE X.K C σ Q G H w) zbG r1 p1 fun d2 ρ2 v2 G2 H2 w2 r2 s2 q2 p2=>?_
   cases d2 with
   |lst ds =>
    obtain ⟨ad,vs,rfl,h1,h2⟩:=zbd q2
    dsimp only at p2
    split at p2
    ·rename_i xs ex
     split at p2
     ·rename_i hok
      rw[zjt ex] at h2
      rw[zjn h2] at h1
      exact ⟨sep,ad,xs,rfl,rfl,SqL.of (r2.gh _ _ h1),hok,p2 _ G2 H2 w2 (.refl _ _ _) r2 (by unfold Rep;rfl)⟩
     ·exact p2.elim
    ·exact p2.elim
   |_=>exact p2.elim
  |_=>exact p1.elim
def zts:V->List V->Hp->VK->Prop:=fun x vs H Q=>∃ z y,x=.str z/\vs=[.str y]/\(y.length == 0)=false/\z.length+2<=sizeLine/\∀ p,H p=none->Q (.ref p) (upd H p (.lst ((Txt.split z y).map V.str)))
theorem zoG(z y:Str)(hz:z.length+2<=sizeLine):(Txt.split z y).length<=sizeLine:=by
 unfold Txt.split
 have e1:=StrLaws.occ_length_le z y 0 z.length (z.length+1)
 split
 ·show 1<=sizeLine;decide
 ·split
  ·show 1<=sizeLine;decide
  ·rw[length_partsBetween];omega
theorem zpl:MtR X "str.split" zts:=by
 intro pins s σ H x vs v us Q I rx rv h
 obtain ⟨z,y,rfl,rfl,hy,hz,q⟩:=h
 obtain ⟨t,rfl⟩:=rx
 obtain ⟨u,rfl,ru⟩:=zbe.one rv
 obtain ⟨tu,rfl⟩:=ru
 have hlen:=zoG z y hz
 have fin:∀(l:List (Str×Tok))(k:Nat),l.map (·.1)=Txt.split z y->EP X pins σ Q (.ref s.heap.objs.size) { s with toks:=k,heap:=s.heap.push { cls:=.type "list",data:=.seq (strValues l).toArray } }:=fun l k e=>by
  refine ⟨.ref s.heap.objs.size,_,I.laid (t':=k) (fun b o e=>Heap.get?_push_of_some _ e) (Nat.le_refl _) (o:=.lst ((Txt.split z y).map V.str)) ⟨by rw[List.length_map];exact hlen,strValues l,0,by rw[<- e];exact zj4 l,Heap.get?_push_size _ rfl⟩,rfl,q _ (I.hok.fresh (Nat.le_refl _))⟩
 have hn:(Builtin.Str.partsBetween z (Builtin.Str.occurrences z y 0 z.length (z.length+1)) y.length).length<=sizeLine:=by
  have e1:=StrLaws.occ_length_le z y 0 z.length (z.length+1)
  rw[length_partsBetween];omega
 cases h1:(decide (z.length<y.length) || decide (Builtin.Str.strKind z<Builtin.Str.strKind y))
 ·cases hf:(Builtin.Str.occurrences z y 0 z.length (z.length+1)).isEmpty
  ·refine call_meets F.slot_str_split (typeIs_str _ _ _) F.entry_str_split (F.args_str_split_2 _ _) (meets_str_split_sep z y t tu h1 hy hf (by omega) hn) ?_
   show wants (EP X pins σ Q) X.xe _ { s with toks:=_,heap:=s.heap.push { cls:=.type "list",data:=.seq (strsFrom s.toks (Builtin.Str.partsBetween z (Builtin.Str.occurrences z y 0 z.length (z.length+1)) y.length)).toArray } }
   rw[strsFrom_eq]
   exact fin (numbered s.toks _) _ ((numbered_texts _ _).trans ((if_neg (ne_true_of_eq_false h1)).trans (if_neg (ne_true_of_eq_false hf))).symm)
  ·exact call_meets F.slot_str_split (typeIs_str _ _ _) F.entry_str_split (F.args_str_split_2 _ _) (meets_str_split_not_found z y t tu h1 hy hf)
    (fin [(z,t)] s.toks ((if_neg (ne_true_of_eq_false h1)).trans (if_pos hf)).symm)
 ·exact call_meets F.slot_str_split (typeIs_str _ _ _) F.entry_str_split (F.args_str_split_2 _ _) (meets_str_split_cannot_occur z y t tu h1)
   (fin [(z,t)] s.toks (if_pos h1).symm)
def zfg(fa fb:De):DN:=fun ρ=>(fa ρ).bind fun a=>match a.1 with
 |.str z=>(fb a.2).bind fun b=>match b.1 with
  |.str y=>if (y.length == 0)=false/\z.length+2<=16777216 then .ok ((Txt.split z y).map Dt.str,b.2) else .no
  |_=>.no
 |_=>.no
theorem zlB(ha:JE X C a fa)(hb:JE X C b fb)(hbase:attributeBase a "split" X.env (eval a X.env)=eval a X.env:=by rfl)
  (hfew:((backTo pos (starEach [b] X.env)).all (fun x=>!x.1) && (backToKw pos (keywordEach [] X.env)).all (fun x=>x.1.isSome) && decide ([b].length+([]:List Keyword).length+(if ([]:List Keyword).isEmpty then 0 else 1)<30))=true:=by rfl)
  (hline:(apos.endLine == pos.line)=true:=by rfl) (hs:starEach [b] X.env=(false,eval b X.env)::starEach [] X.env:=by rfl) (hplain:(backTo pos (starEach [] X.env)).any (·.1)=false:=by rfl) :
  JN X C (.Call (.Attribute a "split" apos) [b] [] pos) (zfg fa fb) :=
 PE.weak (zi2 PySem.F.plainAttrs_str PySem.F.slot_str_split PySem.F.type_str_split zpl ha (zaE hb zb3 hs) hbase hfew hline hs hplain) fun σ H Q ⟨G,w,ρ,r,p⟩=>by
  refine zd7 (κ:=fun G H w=>kN X.K C σ Q G H w) zfL r p fun d ρ1 v G1 H1 w1 r1 s1 q1 p1=>?_
  cases d with
  |str z =>
   obtain rfl:=zaN q1
   refine ⟨rfl,?_⟩
   refine zd7 (κ:=fun G H w=>kN X.K C σ Q G H w) zfL r1 p1 fun d2 ρ2 v2 G2 H2 w2 r2 s2 q2 p2=>?_
   cases d2 with
   |str y =>
    obtain rfl:=zaN q2
    dsimp only at p2
    split at p2
    ·rename_i hk
     refine ⟨z,y,rfl,rfl,hk.1,by rw[zci];exact hk.2,fun l hl=>?_⟩
     exact ztH r2 p2 hl (zjb _)
    ·exact p2.elim
   |_=>exact p2.elim
  |_=>exact p1.elim
end
def Itx(x:Str):It:=⟨fun i _=>i<x.cps.size,fun i H v H'=>H'=H/\∃ c,x.cps[i]? = some c/\v=.str ⟨#[c]⟩,fun i _=>x.cps.size<=i⟩
theorem zm8{P:Program}{w:World}{K:W.Frag}{tg:Expr}(it:Addr)(x:Str)(t:Tok):zoA P w K tg (Itx x) [it] it (fun i h=>h.IsStrIter it "str_ascii_iterator" x t i) where
 mem:=by simp
 obj:=fun i h st b hb=>by
  have e:b=it:=by simpa using hb
  subst e
  obtain ⟨o,e,c,d⟩:=st
  exact ⟨o,e,fun v z=>by rw[d] at z;cases z⟩
 keep:=fun i h h' st k=>by
  obtain ⟨o,e,r⟩:=st
  exact ⟨o,k it (by simp) o e,r⟩
 item:=by
  intro X hP hw hK hc i pins s σ H E I hf st hg
  subst hP hw hK
  obtain ⟨f0,f1,f2,f3,f4,f5⟩:=hf it (by simp)
  have hx:x.cps[i]? = some x.cps[i]:=Array.getElem?_eq_getElem hg
  refine wpAny_pyNext_ascii_item st hx fun h' st' sb=>?_
  have I1:Inv X pins σ H { s with heap:=h',toks:=s.toks+1 }:=I.turned (fun b o hb e=>(sb.2 b hb).trans e) f0 f1 f3 f4 f5
  obtain ⟨o,e,c,d⟩:=id st'
  exact ⟨_,rfl,zp6 (s:={ s with heap:=h',toks:=s.toks+1 }) e c d (by decide) ⟨.str ⟨#[x.cps[i]]⟩,H,I1,⟨_,rfl⟩,⟨rfl,_,hx,rfl⟩,st',fun b hb=>(hf b hb).1⟩⟩
 done:=by
  intro X hP hw hK hc i pins s σ H E I hf st hg
  subst hP hw hK
  obtain ⟨f0,f1,f2,f3,f4,f5⟩:=hf it (by simp)
  exact wpAny_pyNext_ascii_end (I.ok.hd hc) st (Array.getElem?_eq_none hg) fun h' eb=>⟨rfl,I.turned (t':=s.toks) (fun b o hb e=>eb b o hb e) f0 f1 f3 f4 f5⟩
 self:=fun _ _ _ _ _ st h=>wpAny_pyIter_striter_ascii st h
section
variable{X:Cx}{C:Cn}{tg a b:Expr}{fa fb:De}{pos:Pos}
def iStr(tl:TE):TI:=fun σ H R=>tl σ H fun v H1=>∃ x,v=.str x/\x.cps.all (·<128)=true/\R (Itx x) H1
theorem ztE{l:Expr}{tl:TE}(hl:PE X l tl):PI X tg l (iStr tl):=by
 intro pins s σ H R I h
 refine thn (hl pins s σ H _ I h) fun v s1 ⟨x,H1,I1,r1,q1⟩=>?_
 obtain ⟨z,rfl,ha,q⟩:=q1
 obtain ⟨t,rfl⟩:=r1
 refine wpAny_pyIter_ascii ha ?_
 refine ⟨s1.heap.objs.size,[s1.heap.objs.size],_,_,H1,rfl,I1.kept (t':=s1.toks) fun b o e=>Heap.get?_push_of_some _ e,zm8 _ z t,⟨_,Heap.get?_push_size _ rfl,rfl,rfl⟩,fun b hb=>?_,q⟩
 have e:b=s1.heap.objs.size:=by simpa using hb
 subst e
 exact I1.fpOk (Nat.le_refl _) (I1.hok.fresh (Nat.le_refl _))
def zgR(x:Str):List Dt:=x.cps.toList.map fun c=>.str ⟨#[c]⟩
theorem zto{K:W.Frag}{G:Hp}{x:Str}:zlP K (Itx x) G (zgR x):=fun i G1 H s1 s2=>by
 refine ⟨fun d e=>?_,fun h=>show x.cps.size<=i by simpa [zgR] using h⟩
 unfold zgR at e
 rw[List.getElem?_map,Array.getElem?_toList] at e
 by_cases hi:i<x.cps.size
 ·rw[Array.getElem?_eq_getElem hi] at e
  cases e
  refine ⟨hi,fun v H' y=>?_⟩
  obtain ⟨rfl,c,hc,rfl⟩:=y
  rw[Array.getElem?_eq_getElem hi] at hc
  cases hc
  exact ⟨G1,.refl s2,by unfold Rep;rfl⟩
 ·rw[Array.getElem?_eq_none (by omega)] at e
  cases e
def zr7(fa:De):DA:=fun ρ=>(fa ρ).bind fun a=>match a.1 with
 |.str x=>if x.cps.all (·<128)=true then .ok (zgR x,a.2) else .no
 |_=>.no
theorem zqc{iter:Expr}(h:JE X C iter fa):JI X C tg iter (zr7 fa):=PI.weak (ztE h) fun σ H Q ⟨G,w,ρ,r,p⟩=>by
 unfold zr7 at p
 refine ⟨G,w,ρ,r,?_⟩
 cases e:fa ρ with
 |ok x =>
  obtain ⟨d,ρ1⟩:=x
  rw[e] at p
  cases d with
  |str z =>
   simp only[R.bind_ok] at p
   split at p
   ·rename_i ha
    intro v G' H' w' s' r' q
    exact ⟨z,zaN q,ha,p _ G' H' w' s' r' zto⟩
   ·exact p.elim
  |_=>exact p.elim
 |er n=>rw[e] at p;exact p
 |no=>rw[e] at p;exact p.elim
def tFmt(u z:Str)(ta:TE):TE:=fun σ H Q=>ta σ H fun x H1=>∃ y,x=.str y/\u.length+y.length+z.length<=sizeLine/\Q (.str (((Str.empty++u)++y)++z)) H1
theorem zs7{ta:TE}{u z:Str}{j1 j2}{p1 p2 p3:Pos}(ha:PE X a ta)(hu:u.length<=sizeLine):PE X (.JoinedStr [.Constant (.str u) j1 p1,.FormattedValue a (-1) none p2,.Constant (.str z) j2 p3] pos) (tFmt u z ta):=by
 intro pins s σ H Q I h
 have e0:(Str.empty++u).length=u.length:=by rw[strLen_append];show 0+_=_;omega
 refine wpAny_JoinedStr (wpAny_Constant_str ⟨u,_,rfl,by rw[e0];exact hu,?_⟩)
 refine wpAny_FormattedValue_plain (thn (ha pins _ σ H _ (I.tok _) h) fun v s1 ⟨x,H1,I1,r1,y,ex,hl,q⟩=>?_)
 subst ex
 obtain ⟨t,rfl⟩:=r1
 have fin:∀(k:Nat)(t':Tok),∃ y' t'',Value.str y t'=.str y' t''/\((Str.empty++u)++y').length<=sizeLine/\Joins (model X.prog X.w) X.A X.xe (evalEach [.Constant (.str z) j2 p3] X.env) ((Str.empty++u)++y') (fun out s₁=>out.length<=sizeLine/\EP X pins σ Q (.str out s₁.toks) { s₁ with toks:=s₁.toks+1 }) { s1 with toks:=k }:=fun k t'=>by
  refine ⟨y,t',rfl,by rw[strLen_append,e0];omega,wpAny_Constant_str ⟨z,_,rfl,by rw[strLen_append,strLen_append,e0];exact hl,?_,?_⟩⟩
  ·rw[strLen_append,strLen_append,e0];exact hl
  ·exact ⟨.str _,H1,I1.kept (t':=k+1+1) (fun _ _ q=>q),⟨_,rfl⟩,q⟩
 exact wpAny_formatField_str (fin s1.toks t) (fin (s1.toks+1) s1.toks) (by omega)
def zs8(u z:Str)(fa:De):De:=fun ρ=>(fa ρ).bind fun a=>match a.1 with
 |.str y=>if u.length+y.length+z.length<=16777216 then .ok (.str (((Str.empty++u)++y)++z),a.2) else .no
 |_=>.no
theorem zq8{u z:Str}{j1 j2}{p1 p2 p3:Pos}(ha:JE X C a fa)(hu:u.length<=sizeLine:=by decide):JE X C (.JoinedStr [.Constant (.str u) j1 p1,.FormattedValue a (-1) none p2,.Constant (.str z) j2 p3] pos) (zs8 u z fa) :=
 (zs7 ha hu).weak fun σ H Q ⟨G,w,ρ,r,p⟩=>by
  refine zd7 (κ:=fun G H w=>kE X.K C σ Q G H w) zbG r p fun d ρ1 v G1 H1 w1 r1 s1 q1 p1=>?_
  cases d with
  |str y =>
   dsimp only at p1
   split at p1
   ·rename_i hl
    exact ⟨y,zaN q1,by rw[zci];exact hl,p1 _ G1 H1 w1 (.refl _ _ _) r1 (by unfold Rep;rfl)⟩
   ·exact p1.elim
  |_=>exact p1.elim
theorem zgv{x:Str}{z:Str}{t:Tok}(hg:Gl X x)(hm:X.mg x=some (.str z t))(hd:(x == ("__debug__" : Str))=false:=by decide):JE X C (.Name x pos) (dC (.str z)) :=
 PE.weak (zgV hg hm (v:=.str z) ⟨t,rfl⟩ hd) fun σ H Q ⟨G,w,ρ,r,p⟩=>p _ G H w (.refl _ _ _) r (by unfold Rep;rfl)
end
theorem Rel.re2{K:W.Frag}{C:Cn}{σ:L2.St}{G H H':Hp}{w w':Wn}{ρ:Ev}{i:Nat}{dss dss':List (List Dt)}(r:Rel K C G w ρ σ H)(hi:ρ[i]? = some (some (.own2 dss)))(st:zbt G H w G H' w')(gh:zcf G H')(wg:∀ b,w' b≠none->G b=none)(wh:∀ b,w' b≠none->H' b≠none)
  (hk:∀ a o j,w a=some j->j≠i->H a=some o->H' a=some o/\w' a=some j) (hB:∃ v,σ[i]? = some (some v)/\RB K G H' w' i v (.own2 dss')):Rel K C G w' (ρ.set i (some (.own2 dss'))) σ H':=by
 refine ⟨gh,wg,wh,by simpa using r.len,fun k bb e=>?_,r.en.trans st,r.pin⟩
 by_cases hki:k=i
 ·subst hki
  rw[List.getElem?_set_self (List.getElem?_eq_some_iff.mp hi).1] at e
  cases e
  exact hB
 ·rw[List.getElem?_set_ne (Ne.symm hki)] at e
  obtain ⟨v',h1,h2⟩:=r.sl k bb e
  exact ⟨v',h1,h2.grow (.refl _) fun c o e1 e2=>hk c o k e1 hki e2⟩
theorem zkK{K:W.Frag}{C:Cn}{σ:L2.St}{G H:Hp}{w:Wn}{ρ:Ev}{i:Nat}{dss:List (List Dt)}(r:Rel K C G w ρ σ H)(e:ρ[i]? = some (some (.own2 dss))):∃ a as,σ[i]? = some (some (.ref a))/\w a=some i/\H a=some (.lst (as.map V.ref))/\(a::as).Nodup/\Paired (fun b ds=>w b=some i/\∃ vs,H b=some (.lst vs)/\za2 K G ds vs) as dss/\G a=none:=by
 obtain ⟨v,h1,a,as,rfl,h2,h3,h4,h5⟩:=r.sl i _ e
 exact ⟨a,as,h1,h2,h3,h4,h5,r.wg a (by rw[h2];simp)⟩
theorem Rel.snoc2{K:W.Frag}{C:Cn}{σ:L2.St}{G H:Hp}{w:Wn}{ρ:Ev}{i:Nat}{dss:List (List Dt)}{a p:Addr}{as:List Addr}(r:Rel K C G w ρ σ H)(hi:ρ[i]? = some (some (.own2 dss)))(hv:σ[i]? = some (some (.ref a)))(hw:w a=some i)
  (ha:H a=some (.lst (as.map V.ref))) (nd:(a::as).Nodup) (hp:Paired (fun b ds=>w b=some i/\∃ vs,H b=some (.lst vs)/\za2 K G ds vs) as dss) (h0:H p=none) :
  Rel K C G (fun b=>if b=p then some i else w b) (ρ.set i (some (.own2 (dss++[[]])))) σ (upd (upd H p (.lst [])) a (.lst (as.map V.ref++[.ref p])))/\zbt G H w G (upd (upd H p (.lst [])) a (.lst (as.map V.ref++[.ref p]))) (fun b=>if b=p then some i else w b):=by
 have gp:G p=none:=r.gh.free h0
 have ga:G a=none:=r.wg a (by rw[hw];simp)
 have npa:p≠a:=fun z=>by subst z;rw[ha] at h0;cases h0
 have wp:w p=none:=zef r h0
 have old:∀ b o,H b=some o->b≠a->upd (upd H p (.lst [])) a (.lst (as.map V.ref++[.ref p])) b=some o:=fun b o e n=>by rw[zaf n,zaf (zah e h0)];exact e
 have st:zbt G H w G (upd (upd H p (.lst [])) a (.lst (as.map V.ref++[.ref p]))) (fun b=>if b=p then some i else w b):=by
  refine ⟨.refl _,fun c o e=>.inl (by rw[e];simp),fun c o e z=>old c o e (fun q=>by subst q;rw[hw] at z;cases z),fun b e=>?_,fun c e=>?_⟩
  ·by_cases hb:b=p
   ·subst hb;exact .inr h0
   ·simp only[hb,if_false] at e;exact .inl e
  ·cases q:H c with
   |none=>rfl
   |some o =>
    by_cases hc:c=a
    ·subst hc;rw[zaj] at e;cases e
    ·rw[old c o q hc] at e;cases e
 refine ⟨r.re2 hi st (fun c o e=>old c o (r.gh c o e) (zah e ga)) (fun b e=>?_) (fun b e=>?_) (fun c o j e1 nj e2=>⟨old c o e2 fun q=>?_,?_⟩) ⟨_,hv,a,as++[p],rfl,?_,?_,?_,?_⟩,st⟩
 ·by_cases hb:b=p
  ·subst hb;exact gp
  ·simp only[hb,if_false] at e;exact r.wg b e
 ·by_cases hb:b=a
  ·subst hb;rw[zaj];simp
  ·rw[zaf hb]
   by_cases hb2:b=p
   ·subst hb2;rw[zaj];simp
   ·rw[zaf hb2];simp only[hb2,if_false] at e;exact r.wh b e
 ·subst q;rw[hw] at e1;cases e1;exact nj rfl
 ·have:c≠p:=fun q=>by subst q;rw[wp] at e1;cases e1
  simp only[this,if_false];exact e1
 ·simp only[Ne.symm npa,if_false];exact hw
 ·rw[zaj];simp
 ·rw[<- List.cons_append]
  rw[List.nodup_append]
  refine ⟨nd,by simp,fun x hx y hy=>?_⟩
  rw[List.mem_singleton.mp hy]
  intro q
  subst q
  rcases List.mem_cons.mp hx with z|z
  ·exact npa z
  ·obtain ⟨_,k,_⟩:=zcH hp x z
   rw[wp] at k;cases k
 ·refine zeI ⟨by simp,[],by rw[zaf npa,zaj],za2.nil⟩ (zbg hp fun b ds hb ⟨q1,vs,q2,q3⟩=>⟨?_,vs,old b _ q2 fun q=>?_,q3⟩)
  ·have:b≠p:=fun q=>by subst q;rw[wp] at q1;cases q1
   simp only[this,if_false];exact q1
  ·subst q;exact (List.nodup_cons.mp nd).1 hb
theorem zeu{α β:Type}{F:α->β->Prop}:∀{l:List α}{r:List β},Paired F l r->Paired F l.dropLast r.dropLast
 |_,_,.nil=>.nil
 |_,_,.cons h .nil=>.nil
 |_,_,.cons h (.cons h2 t)=>.cons h (zeu (.cons h2 t))
theorem Rel.pop2{K:W.Frag}{C:Cn}{σ:L2.St}{G H:Hp}{w:Wn}{ρ:Ev}{i:Nat}{dss:List (List Dt)}{a:Addr}{as:List Addr}(r:Rel K C G w ρ σ H)(hi:ρ[i]? = some (some (.own2 dss)))(hv:σ[i]? = some (some (.ref a)))(hw:w a=some i)
  (ha:H a=some (.lst (as.map V.ref))) (nd:(a::as).Nodup) (hp:Paired (fun b ds=>w b=some i/\∃ vs,H b=some (.lst vs)/\za2 K G ds vs) as dss) :
  Rel K C G w (ρ.set i (some (.own2 dss.dropLast))) σ (upd H a (.lst (as.map V.ref).dropLast))/\zbt G H w G (upd H a (.lst (as.map V.ref).dropLast)) w:=by
 have ga:G a=none:=r.wg a (by rw[hw];simp)
 have st:zbt G H w G (upd H a (.lst (as.map V.ref).dropLast)) w:=by
  refine ⟨.refl _,fun c o e=>.inl (by rw[e];simp),fun c o e z=>?_,fun _ e=>.inl e,fun c e=>?_⟩
  ·rw[zaf (fun q=>by subst q;rw[hw] at z;cases z)];exact e
  ·by_cases hc:c=a
   ·subst hc;rw[zaj] at e;cases e
   ·rw[zaf hc] at e;exact e
 refine ⟨r.re2 hi st (fun c o e=>by rw[zaf (zah e ga)];exact r.gh c o e) r.wg (fun b e=>?_) (fun c o j e1 nj e2=>⟨?_,e1⟩) ⟨_,hv,a,as.dropLast,rfl,hw,by rw[zaj,List.map_dropLast],?_,?_⟩,st⟩
 ·by_cases hb:b=a
  ·subst hb;rw[zaj];simp
  ·rw[zaf hb];exact r.wh b e
 ·rw[zaf (fun q=>by subst q;rw[hw] at e1;cases e1;exact nj rfl)];exact e2
 ·rw[List.nodup_cons] at nd ⊢
  exact ⟨fun z=>nd.1 (List.dropLast_subset _ z),nd.2.sublist (List.dropLast_sublist _)⟩
 ·exact zbg (zeu hp) fun b ds hb ⟨q1,vs,q2,q3⟩=>⟨q1,vs,by rw[zaf (fun q=>by subst q;exact (List.nodup_cons.mp nd).1 (List.dropLast_subset _ hb))];exact q2,q3⟩
section
variable{X:Cx}{C:Cn}{pos ps py sp apos p1 p2 spos:Pos}{x y:Str}
def zoH(i:Nat):DS:=fun ρ=>if i < ρ.length then .ok (.nx,ρ.set i (some (.own2 [[]]))) else .no
theorem zsg{i:Nat}(hN:X.N.Nodup)(hix:X.N[i]? = some x)(hx:Loc X.env.scope x)(hp:i∉C.pp)(hsw:swapsWith (.List [.List [] p1] p2) (some (.Name x ps)) spos.line X.env=pure false:=by rfl)(hf:X.fn x=true\/X.env.scope.names.lookup x=some .local:=by first|exact .inl rfl|exact .inr rfl|assumption)
  (hs:starEach [.List [] p1] X.env=(false,eval (.List [] p1) X.env)::starEach [] X.env:=by rfl):JS X C (.Assign [.Name x ps] (.List [.List [] p1] p2) spos) (zoH i):=by
 refine PS.weak (zlq (i:=i) hN hix hx (zl5 (zaE (zl5 zb3) zb3 hs)) hsw hf) fun D σ H ⟨G,w,ρ,r,p⟩=>?_
 unfold zoH at p
 split at p
 case isFalse=>exact p.elim
 rename_i hl
 unfold zuj zug zrf zui
 refine ⟨Nat.zero_le _,fun b hb=>⟨by show 1<=sizeLine;decide,fun a ha=>?_⟩⟩
 have nab:a≠b:=fun z=>by subst z;rw[zaj] at ha;cases ha
 have ha0:H a=none:=by rw[zaf nab] at ha;exact ha
 have g1:zea G H G (upd H b (.lst [])):=.newH r.gh hb
 have r1:=r.grow g1
 have g2:zea G (upd H b (.lst [])) G (upd (upd H b (.lst [])) a (.lst [.ref b])):=.newH r1.gh ha
 have r2:=r1.grow g2
 have hb2:upd (upd H b (.lst [])) a (.lst [.ref b]) b=some (.lst []):=by rw[zaf (Ne.symm nab),zaj]
 obtain ⟨r3,s3⟩:=r2.setOwn2 (as:=[b]) (dss:=[[]]) (H0:=H) (G0:=G) (w0:=w) hl hp zaj (r.gh.free ha0) (zef r ha0) ⟨by simp[nab],.cons ⟨hb,r.gh.free hb,zef r hb,[],hb2,za2.nil⟩ .nil⟩ (g1.step.trans g2.step) ha0 r.en.k
 exact p _ _ _ _ s3 r3
def zlz(i:Nat):De:=fun ρ=>match ρ[i]? with
 |some (some (.own2 dss))=>if dss.length<16777216 then .ok (.non,ρ.set i (some (.own2 (dss++[[]])))) else .no
 |_=>.no
theorem zpw(i:Nat)(hN:X.N[i]? = some x:=by rfl)(hv:Vis X.env.scope x:=by first|exact Or.inl rfl|exact Or.inr (Or.inl rfl)|exact Or.inr (Or.inr rfl))
  (hd:(x == ("__debug__" : Str))=false:=by decide) (hcd:(x == ("__classdict__" : Str))=false:=by decide)
  (hbase:attributeBase (.Name x ps) "append" X.env (eval (.Name x ps) X.env)=eval (.Name x ps) X.env:=by rfl)
  (hfew:((backTo pos (starEach [.List [] p1] X.env)).all (fun x=>!x.1) && (backToKw pos (keywordEach [] X.env)).all (fun x=>x.1.isSome) && decide ([Expr.List [] p1].length+([]:List Keyword).length+(if ([]:List Keyword).isEmpty then 0 else 1)<30))=true:=by rfl)
  (hline:(apos.endLine == pos.line)=true:=by rfl) (hs:starEach [.List [] p1] X.env=(false,eval (.List [] p1) X.env)::starEach [] X.env:=by rfl) (hplain:(backTo pos (starEach [] X.env)).any (·.1)=false:=by rfl) :
  JE X C (.Call (.Attribute (.Name x ps) "append" apos) [.List [] p1] [] pos) (zlz i) :=
 PE.weak (zi2 PySem.F.plainAttrs_list PySem.F.slot_list_append PySem.F.type_list_append zd1 (zbw hN hv hd hcd) (zaE (zl5 zb3) zb3 hs) hbase hfew hline hs hplain) fun σ H Q ⟨G,w,ρ,r,p⟩=>by
  unfold zlz at p
  split at p
  case h_2=>exact p.elim
  rename_i dss e
  split at p
  case isFalse=>exact p.elim
  rename_i hl
  obtain ⟨a,as,h1,h2,h3,h4,h5,ga⟩:=zkK r e
  refine ⟨.ref a,h1,.inl ⟨rfl,_,SqL.of h3⟩,?_⟩
  unfold zrf zug zui
  refine ⟨Nat.zero_le _,fun b hb=>?_⟩
  obtain ⟨r',s'⟩:=r.snoc2 e h1 h2 h3 h4 h5 hb
  refine ⟨a,as.map V.ref,.ref b,rfl,rfl,by rw[zaf (fun z=>by subst z;rw[h3] at hb;cases hb)];exact h3,by rw[List.length_map,zck h5,zci];exact hl,p _ _ _ _ s' r' (by unfold Rep;rfl)⟩
def zjO(i jx:Nat)(fk:De):De:=fun ρ=>match ρ[i]? with
 |some (some (.own2 _))=>(fk ρ).bind fun k=>match k.2[i]?,k.1,k.2[jx]? with
  |some (some (.own2 dss)),.int n,some (some (.val (.str z)))=>match ixN dss.length n,PySem.intText? z with
   |some j,some m=>match dss[j]? with
    |some ds=>if ds.length<16777216/\z.length<=640 then .ok (.non,k.2.set i (some (.own2 (dss.set j (ds++[.int m]))))) else .no
    |none=>.no
   |_,_=>.no
  |_,_,_=>.no
 |_=>.no
theorem zoY{k:Expr}{fk:De}{pi pc:Pos}(i jx:Nat)(hg:Gl X "int")(hm:X.mg "int"=none)(hvi:bootBuiltins "int"=some (.type "int"))(hk:JE X C k fk)(hN:X.N[i]? = some x:=by rfl)(hNy:X.N[jx]? = some y:=by rfl)(hv:Vis X.env.scope x:=by first|exact Or.inl rfl|exact Or.inr (Or.inl rfl)|exact Or.inr (Or.inr rfl))(hvy:Vis X.env.scope y:=by first|exact Or.inl rfl|exact Or.inr (Or.inl rfl)|exact Or.inr (Or.inr rfl))
  (hd:(x == ("__debug__" : Str))=false:=by decide) (hcd:(x == ("__classdict__" : Str))=false:=by decide) (hdy:(y == ("__debug__" : Str))=false:=by decide) (hcdy:(y == ("__classdict__" : Str))=false:=by decide)
  (hix:zel k:=by exact fun _ _=>rfl)
  (hbase:attributeBase (.Subscript (.Name x ps) k sp) "append" X.env (eval (.Subscript (.Name x ps) k sp) X.env)=eval (.Subscript (.Name x ps) k sp) X.env:=by rfl)
  (hfew:((backTo pos (starEach [.Call (.Name "int" pi) [.Name y py] [] pc] X.env)).all (fun x=>!x.1) && (backToKw pos (keywordEach [] X.env)).all (fun x=>x.1.isSome) && decide ([Expr.Call (.Name "int" pi) [.Name y py] [] pc].length+([]:List Keyword).length+(if ([]:List Keyword).isEmpty then 0 else 1)<30))=true:=by rfl)
  (hline:(apos.endLine == pos.line)=true:=by rfl) (hs:starEach [.Call (.Name "int" pi) [.Name y py] [] pc] X.env=(false,eval (.Call (.Name "int" pi) [.Name y py] [] pc) X.env)::starEach [] X.env:=by rfl) (hplain:(backTo pos (starEach [] X.env)).any (·.1)=false:=by rfl)
  (hs2:starEach [.Name y py] X.env=(false,eval (.Name y py) X.env)::starEach [] X.env:=by rfl) (hpl2:(backTo pc (starEach [] X.env)).any (·.1)=false:=by rfl) :
  JE X C (.Call (.Attribute (.Subscript (.Name x ps) k sp) "append" apos) [.Call (.Name "int" pi) [.Name y py] [] pc] [] pos) (zjO i jx fk) :=
 PE.weak (zi2 PySem.F.plainAttrs_list PySem.F.slot_list_append PySem.F.type_list_append zd1 (zh5 zeH (zbw hN hv hd hcd) hk hix) (zaE (zee zj3 hg hm hvi (zaE (zbw hNy hvy hdy hcdy) zb3 hs2) (by decide) (by decide) hs2 hpl2) zb3 hs) hbase hfew hline hs hplain) fun σ H Q ⟨G,w,ρ,r,p⟩=>by
  unfold zjO at p
  split at p
  ·rename_i dss0 e0
   obtain ⟨v0,h0,_⟩:=r.sl i _ e0
   refine ⟨v0,h0,?_⟩
   refine zd7 (κ:=fun G H w=>kE X.K C σ Q G H w) zbG r p fun d ρ1 v G1 H1 w1 r1 s1 q1 p1=>?_
   dsimp only at p1
   split at p1
   ·rename_i dss n z e1 ey
    split at p1
    ·rename_i j m ej em
     split at p1
     ·rename_i ds eds
      split at p1
      ·rename_i hl
       obtain ⟨v1,g1,a,as,rfl,g2,g3,g4,g5⟩:=r1.sl i _ e1
       rw[h0] at g1;cases g1
       obtain ⟨b,eb,hwb,us,hb,hrs⟩:=zd6 g5 eds
       obtain ⟨vy,gy,hy⟩:=r1.sl jx _ ey
       have hy':vy=.str z:=zaN (K:=X.K) (G:=G1) hy
       subst hy'
       have hlen:=zck g5
       have hat:atI (as.map V.ref) n=some (.ref b):=by
        unfold atI
        rw[List.length_map,hlen,ej]
        simp only[Option.bind_some]
        rw[List.getElem?_map,eb];rfl
       obtain ⟨r',s'⟩:=r1.mutate2 e1 h0 g2 g3 g4 g5 eb (hrs.append (za2.cons (za3 m) za2.nil))
       refine ⟨a,as.map V.ref,n,.ref b,rfl,za0 q1,SqL.of g3,hat,.inl ⟨rfl,us,SqL.of hb⟩,?_⟩
       refine ⟨.str z,gy,z,m,rfl,hl.2,em,?_⟩
       exact ⟨b,us,.int m,rfl,rfl,hb,by rw[<- hrs.length,zci];exact hl.1,p1 _ _ _ _ s' r' (by unfold Rep;rfl)⟩
      ·exact False.elim p1
     ·exact False.elim p1
    ·exact False.elim p1
   ·exact False.elim p1
  ·exact p.elim
def zhU(i:Nat):De:=fun ρ=>match ρ[i]? with
 |some (some (.own2 dss))=>match dss[dss.length-1]? with
  |some ds=>.ok (.tup ds,ρ.set i (some (.own2 dss.dropLast)))
  |none=>.no
 |_=>.no
theorem zp1{pt pc:Pos}(i:Nat)(hg:Gl X "tuple")(hm:X.mg "tuple"=none)(hvt:bootBuiltins "tuple"=some (.type "tuple"))(hN:X.N[i]? = some x:=by rfl)(hv:Vis X.env.scope x:=by first|exact Or.inl rfl|exact Or.inr (Or.inl rfl)|exact Or.inr (Or.inr rfl))
  (hd:(x == ("__debug__" : Str))=false:=by decide) (hcd:(x == ("__classdict__" : Str))=false:=by decide)
  (hbase:attributeBase (.Name x ps) "pop" X.env (eval (.Name x ps) X.env)=eval (.Name x ps) X.env:=by rfl) (hline:(apos.endLine == pc.line)=true:=by rfl)
  (hs:starEach [.Call (.Attribute (.Name x ps) "pop" apos) [] [] pc] X.env=(false,eval (.Call (.Attribute (.Name x ps) "pop" apos) [] [] pc) X.env)::starEach [] X.env:=by rfl) (hpl:(backTo pos (starEach [] X.env)).any (·.1)=false:=by rfl) :
  JE X C (.Call (.Name "tuple" pt) [.Call (.Attribute (.Name x ps) "pop" apos) [] [] pc] [] pos) (zhU i) :=
 PE.weak (zee zfi hg hm hvt (zaE (zqz PySem.F.plainAttrs_list PySem.F.slot_list_pop PySem.F.type_list_pop zqB (zbw hN hv hd hcd) hbase hline) zb3 hs) (by decide) (by decide) hs hpl) fun σ H Q ⟨G,w,ρ,r,p⟩=>by
  unfold zhU at p
  split at p
  case h_2=>exact p.elim
  rename_i dss e
  split at p
  case h_2=>exact p.elim
  rename_i ds eds
  obtain ⟨a,as,h1,h2,h3,h4,h5,ga⟩:=zkK r e
  obtain ⟨b,eb,hwb,us,hb,hrs⟩:=zd6 h5 eds
  have hlen:=zck h5
  obtain ⟨r',s'⟩:=r.pop2 e h1 h2 h3 h4 h5
  have nba:b≠a:=fun z=>by subst z;exact (List.nodup_cons.mp h4).1 (List.mem_of_getElem? eb)
  refine ⟨.ref a,h1,.inl ⟨rfl,_,SqL.of h3⟩,a,as.map V.ref,.ref b,rfl,rfl,h3,by rw[List.length_map,List.getElem?_map,hlen,eb];rfl,?_⟩
  refine ⟨b,us,rfl,.inl ⟨SqL.of (by rw[zaf nba];exact hb),fun l hl=>?_⟩⟩
  have gr:zea G (upd H a (.lst (as.map V.ref).dropLast)) (upd G l (.tup us)) (upd (upd H a (.lst (as.map V.ref).dropLast)) l (.tup us)):=.new r'.gh hl
  exact p _ _ _ _ (s'.trans gr.step) (r'.grow gr) (by unfold Rep;exact ⟨l,us,rfl,zkg.of zaj,hrs.same gr.g⟩)
def ztU(i:Nat)(k n:Int):De:=fun ρ=>match ρ[i]? with
 |some (some (.own2 dss))=>match ixN dss.length k with
  |some j=>match dss[j]? with
   |some ds=>match atI ds n with
    |some d=>.ok (d,ρ)
    |none=>.no
   |none=>.no
  |none=>.no
 |_=>.no
theorem at2{K:W.Frag}{σ:L2.St}{G H:Hp}{w:Wn}{ρ:Ev}{i j:Nat}{k:Int}{dss:List (List Dt)}{ds:List Dt}(r:Rel K C G w ρ σ H)(e:ρ[i]? = some (some (.own2 dss)))(ej:ixN dss.length k=some j)(eds:dss[j]? = some ds):∃(a:Addr)(as:List Addr)(b:Addr)(us:List V),σ[i]? = some (some (.ref a))/\H a=some (.lst (as.map V.ref))/\atI (as.map V.ref) k=some (.ref b)/\H b=some (.lst us)/\za2 K G ds us:=by
 obtain ⟨a,as,h1,h2,h3,h4,h5,ga⟩:=zkK r e
 obtain ⟨b,eb,hwb,us,hb,hrs⟩:=zd6 h5 eds
 refine ⟨a,as,b,us,h1,h3,?_,hb,hrs⟩
 unfold atI
 rw[List.length_map,zck h5,ej]
 simp only[Option.bind_some]
 rw[List.getElem?_map,eb];rfl
theorem ztw{k n:Int}{j1 j2}{pk pn:Pos}(i:Nat)(hN:X.N[i]? = some x:=by rfl)(hv:Vis X.env.scope x:=by first|exact Or.inl rfl|exact Or.inr (Or.inl rfl)|exact Or.inr (Or.inr rfl))
  (hd:(x == ("__debug__" : Str))=false:=by decide) (hcd:(x == ("__classdict__" : Str))=false:=by decide):JE X C (.Subscript (.Subscript (.Name x ps) (.Constant (.int k) j1 pk) sp) (.Constant (.int n) j2 pn) pos) (ztU i k n) :=
 PE.weak (zh5 zeH (zh5 zeH (zbw hN hv hd hcd) zld (fun _ _=>rfl)) zld (fun _ _=>rfl)) fun σ H Q ⟨G,w,ρ,r,p⟩=>by
  unfold ztU at p
  split at p
  case h_2=>exact p.elim
  rename_i dss e
  split at p
  case h_2=>exact p.elim
  rename_i j ej
  split at p
  case h_2=>exact p.elim
  rename_i ds eds
  split at p
  case h_2=>exact p.elim
  rename_i d ed
  obtain ⟨a,as,b,us,h1,h3,hat,hb,hrs⟩:=at2 r e ej eds
  obtain ⟨v,ev,rv⟩:=zgs hrs ed
  exact ⟨.ref a,h1,a,as.map V.ref,k,.ref b,rfl,rfl,SqL.of h3,hat,b,us,n,v,rfl,rfl,SqL.of hb,ev,p _ _ _ _ (.refl _ _ _) r rv⟩
def zpA(i:Nat)(k:Int):De:=fun ρ=>match ρ[i]? with
 |some (some (.own2 dss))=>match ixN dss.length k with
  |some j=>match dss[j]? with
   |some ds=>.ok (.int ds.length,ρ)
   |none=>.no
  |none=>.no
 |_=>.no
theorem zrO{k:Int}{j1}{pk pl:Pos}(i:Nat)(hg:Gl X "len")(hm:X.mg "len"=none)(hN:X.N[i]? = some x:=by rfl)(hv:Vis X.env.scope x:=by first|exact Or.inl rfl|exact Or.inr (Or.inl rfl)|exact Or.inr (Or.inr rfl))
  (hd:(x == ("__debug__" : Str))=false:=by decide) (hcd:(x == ("__classdict__" : Str))=false:=by decide) (hs:starEach [.Subscript (.Name x ps) (.Constant (.int k) j1 pk) sp] X.env=(false,eval (.Subscript (.Name x ps) (.Constant (.int k) j1 pk) sp) X.env)::starEach [] X.env:=by rfl) (hpl:(backTo pos (starEach [] X.env)).any (·.1)=false:=by rfl) :
  JE X C (.Call (.Name "len" pl) [.Subscript (.Name x ps) (.Constant (.int k) j1 pk) sp] [] pos) (zpA i k) :=
 PE.weak (zdd zev hg hm zqm (zaE (zh5 zeH (zbw hN hv hd hcd) zld (fun _ _=>rfl)) zb3 hs) (by decide) (by decide) hs hpl) fun σ H Q ⟨G,w,ρ,r,p⟩=>by
  unfold zpA at p
  split at p
  case h_2=>exact p.elim
  rename_i dss e
  split at p
  case h_2=>exact p.elim
  rename_i j ej
  split at p
  case h_2=>exact p.elim
  rename_i ds eds
  obtain ⟨a,as,b,us,h1,h3,hat,hb,hrs⟩:=at2 r e ej eds
  exact ⟨.ref a,h1,a,as.map V.ref,k,.ref b,rfl,rfl,SqL.of h3,hat,b,us,rfl,.inl (SqL.of hb),by rw[<- hrs.length];exact p _ _ _ _ (.refl _ _ _) r (za3 _)⟩
end
def zm6(D:List (Str×Str)):List (Str×KTD.Dat):=D.map fun p=>(p.1,.flat (.str p.2))
def zkW(K:W.Frag)(a:Addr)(D:List (Str×Str)):Prop:=KTD.tabLook (KTD.datLooks fun b=>K.lookup b) (fun b=>K.lookup b) a (zm6 D)=true
section
variable{X:Cx}{C:Cn}{a b e:Expr}{fa fb:De}{pos ps:Pos}{x:Str}{ad:Addr}{D:List (Str×Str)}
theorem zlh{pins:List (Addr×Obj)}{σ:L2.St}{H:Hp}{s:Shared}(I:L2.Inv X pins σ H s)(T:zkW X.K ad D):KTD.Here s.heap s.heap ad (zm6 D):=⟨W.kt_text_in I.kIn T,fun _ _ e=>e⟩
def zth(ad:Addr)(D:List (Str×Str)):R2:=fun u v H Q=>∃ k,u=.str k/\v=.ref ad/\Q (.bl (KTD.inKeys k (zm6 D))) H
theorem zrD(T:zkW X.K ad D):OpR X (compareOp .In) (zth ad D):=by
 intro pins s σ H x y v u Q I rx ry h
 obtain ⟨k,rfl,rfl,q⟩:=h
 obtain ⟨t,rfl⟩:=rx
 cases ry
 exact KTD.in_text (zlh I T) ⟨.bl _,H,I.tok _,rfl,q⟩
def zjj(D:List (Str×Str))(fa:De):De:=fun ρ=>(fa ρ).bind fun a=>match a.1 with
 |.str k=>.ok (.bl (KTD.inKeys k (zm6 D)),a.2)
 |_=>.no
theorem zni{σ:L2.St}{H:Hp}{Q:VK}(h:tE X.K C (zjj D fa) σ H Q):tOp (zth ad D) (tE X.K C fa) (tC (.ref ad)) σ H Q:=by
 obtain ⟨G,w,ρ,r,p⟩:=h
 refine zd7 (κ:=fun G H w=>kE X.K C σ Q G H w) zbG r p fun d ρ1 v G1 H1 w1 r1 s1 q1 p1=>?_
 cases d with
 |str k=>exact ⟨k,zaN q1,rfl,p1 _ G1 H1 w1 (.refl _ _ _) r1 (zbH _)⟩
 |_=>exact p1.elim
theorem zro(hg:Gl X x)(hm:X.mg x=some (.ref ad))(T:zkW X.K ad D)(ha:JE X C a fa)(hd:(x == ("__debug__" : Str))=false:=by decide):JT X C (.Compare a [.In] [.Name x ps] pos) (dTB (zjj D fa)) :=
 PT.weak (zis (zrD T) ha (zgV hg hm (v:=.ref ad) rfl hd) rfl) fun σ H Q h=>zni (zha h)
def zuh(ad:Addr)(D:List (Str×Str)):R2:=fun u v H Q=>∃ k z,u=.ref ad/\v=.str k/\D.lookup k=some z/\Q (.str z) H
theorem zmS{k z:Str}:∀{D:List (Str×Str)},D.lookup k=some z->KTD.inKeys k (zm6 D)=true
 |[],h=>by cases h
 | (y,z')::D,h=>by
  show (decide (k=y) || KTD.inKeys k (zm6 D))=true
  by_cases e:k=y
  ·simp[e]
  ·rw[List.lookup_cons,show (k == y)=false by simp[e]] at h
   rw[zmS h,Bool.or_true]
theorem znw{h₀:Heap}{k z:Str}{P:Value->Prop}(hP:∀ t,P (.str z t)):∀{D:List (Str×Str)},D.lookup k=some z->KTD.EachL h₀ k P (zm6 D)
 |[],h=>by cases h
 | (y,z')::D,h=>by
  by_cases e:k=y
  ·rw[List.lookup_cons,show (k == y)=true by simp[e]] at h
   cases h
   exact KTD.eachL_hit e (KTD.opened_str hP)
  ·rw[List.lookup_cons,show (k == y)=false by simp[e]] at h
   exact KTD.eachL_miss e (znw hP h)
theorem zjM:∀(D:List (Str×Str)),((zm6 D).all fun p=>KTD.plain p.2)=true
 |[]=>rfl
 | (_,_)::D=>by show (true && _)=true;rw[Bool.true_and];exact zjM D
theorem zu4(T:zkW X.K ad D):IxR X (zuh ad D):=by
 intro value slice pins s σ H x y v u Q I rx ry h hs
 obtain ⟨k,z,rfl,rfl,hz,q⟩:=h
 cases rx
 obtain ⟨t,rfl⟩:=ry
 exact KTD.item_textA (zlh I T) (zjM D) (zmS hz) (znw (fun t'=>⟨.str z,H,I.tok _,⟨t',rfl⟩,q⟩) hz) hs
def zph(D:List (Str×Str))(fa:De):De:=fun ρ=>(fa ρ).bind fun a=>match a.1 with
 |.str k=>match D.lookup k with
  |some z=>.ok (.str z,a.2)
  |none=>.no
 |_=>.no
theorem zqZ(hg:Gl X x)(hm:X.mg x=some (.ref ad))(T:zkW X.K ad D)(ha:JE X C a fa)(hs:zel a:=by exact fun _ _=>rfl)(hd:(x == ("__debug__" : Str))=false:=by decide):JE X C (.Subscript (.Name x ps) a pos) (zph D fa) :=
 PE.weak (zh5 (zu4 T) (zgV hg hm (v:=.ref ad) rfl hd) ha hs) fun σ H Q ⟨G,w,ρ,r,p⟩=>by
  refine zd7 (κ:=fun G H w=>kE X.K C σ Q G H w) zbG r p fun d ρ1 v G1 H1 w1 r1 s1 q1 p1=>?_
  cases d with
  |str k =>
   dsimp only at p1
   split at p1
   ·rename_i z hz
    exact ⟨k,z,rfl,zaN q1,hz,p1 _ G1 H1 w1 (.refl _ _ _) r1 (by unfold Rep;rfl)⟩
   ·exact p1.elim
  |_=>exact p1.elim
def rIxK:R2:=fun u v H Q=>∃ p kvs k z,u=.ref p/\v=.str k/\H p=some (.dK kvs)/\(kvs.find? fun kv=>kv.1=.inr k).map (·.2)=some (.str z)/\Q (.str z) H
theorem znE{k:Key}{z:Str}:∀{kvs:List (Key×V)}{vs:List (Key×Value)},KV kvs vs->(kvs.find? fun kv=>kv.1=k).map (·.2)=some (.str z)->∃ t,valueAt vs k=some (.str z t)
 |_,_,.nil,h=>by cases h
 | (y,v)::r,(y',u)::t,.cons ⟨h1,h2⟩ ht,h=>by
  dsimp only at h1 h2
  subst h1
  unfold valueAt
  rw[List.find?_cons] at h ⊢
  by_cases e:y=k
  ·rw[show decide ((y,v).1=k)=true by simp[e]] at h
   rw[show decide ((y,u).1=k)=true by simp[e]]
   cases h
   obtain ⟨tk,rfl⟩:=h2
   exact ⟨tk,rfl⟩
  ·rw[show decide ((y,v).1=k)=false by simp[e]] at h
   rw[show decide ((y,u).1=k)=false by simp[e]]
   exact znE ht h
theorem zuD:IxR X rIxK:=by
 intro value slice pins s σ H x y v u Q I rx ry h hs
 obtain ⟨p,kvs,k,z,rfl,rfl,hp,hz,q⟩:=h
 cases rx
 obtain ⟨t,rfl⟩:=ry
 obtain ⟨_,_,vs,hkv,hd⟩:=(show zc4 X.prog X.w H s.heap p (.dK kvs) from I.hok p _ hp)
 obtain ⟨tk,hv⟩:=znE hkv hz
 exact subscriptTail_builtin_flat hd.typeIs slot_dict_getitem.lookup (wpAny_getItem_of (knd:=zio X.prog X.w) (k:=.inr k) (zgX k t) hd.mapOf hv ⟨(fun a e=>nomatch e),⟨.str z,H,I.tok _,⟨tk,rfl⟩,q⟩⟩) hs
theorem zqW{k1 k2:Str}(hk:k1≠k2)(u1 u2:Value):merged [] [((.inr k1:Key),u1),(.inr k2,u2)]=[(.inr k1,u1),(.inr k2,u2)]:=by
 have:¬ (Sum.inr k1:Key)=Sum.inr k2:=fun e=>hk (Sum.inr.inj e)
 simp[merged,stored,this]
def zsM(k1 k2 v1 v2:Str):TE:=fun σ H Q=>∀ p,H p=none->Q (.ref p) (upd H p (.dK [(.inr k1,.str v1),(.inr k2,.str v2)]))
theorem zpF{k1 k2 v1 v2:Str}{j1 j2 j3 j4}{p1 p2 p3 p4:Pos}(hk:k1≠k2):PE X (.Dict [some (.Constant (.str k1) j1 p1),some (.Constant (.str k2) j2 p2)] [.Constant (.str v1) j3 p3,.Constant (.str v2) j4 p4] pos) (zsM k1 k2 v1 v2):=by
 intro pins s σ H Q I h
 have big:sysModules<s.heap.objs.size:=Nat.lt_trans (by decide) (I.mod.glob.keeps I.bk).lt
 refine wpAny_Dict_pairs (knd:=zio X.prog X.w) (pairs:=[(eval (.Constant (.str k1) j1 p1) X.env,do let x <- eval (.Constant (.str v1) j3 p3) X.env;standAt pos;pure x),(eval (.Constant (.str k2) j2 p2) X.env,do let x <- eval (.Constant (.str v2) j4 p4) X.env;standAt pos;pure x)]) rfl (by simp) (by simp) ?_
 refine evalPairs_cons (wpAny_Constant_str ?_)
 refine wpAny_bind (wpAny_Constant_str (wpAny_bind (wpAny_standAt (wpAny_pure ?_))))
 refine evalPairs_cons (wpAny_Constant_str ?_)
 refine wpAny_bind (wpAny_Constant_str (wpAny_bind (wpAny_standAt (wpAny_pure ?_))))
 refine evalPairs_nil ⟨[(.inr k1,.str v1 (s.toks+1)),(.inr k2,.str v2 (s.toks+1+1+1))],⟨zgX k1 s.toks,rfl,zgX k2 (s.toks+1+1),rfl,trivial⟩,Heap.DictOf.new _,fun h' hd sb=>?_⟩
 rw[zqW hk] at hd
 refine ⟨.ref s.heap.objs.size,_,I.laid (h':=h') (t':=_) (fun b o e=>?_) (Nat.le_refl _) (o:=.dK [(.inr k1,.str v1),(.inr k2,.str v2)]) ⟨by show 2<=sizeLine;decide,beq_eq_false_iff_ne.mpr (Ne.symm (Nat.ne_of_lt big)),_,.cons ⟨rfl,_,rfl⟩ (.cons ⟨rfl,_,rfl⟩ .nil),hd⟩,rfl,h _ (I.hok.fresh (Nat.le_refl _))⟩
 rw[sb.2 b (Nat.ne_of_lt (Heap.lt_size e))]
 exact Heap.get?_push_of_some _ e
def zua(k1 k2 v1 v2:Str)(fa:De):De:=fun ρ=>(fa ρ).bind fun a=>match a.1 with
 |.str k=>if k=k1 then .ok (.str v1,a.2) else if k=k2 then .ok (.str v2,a.2) else .no
 |_=>.no
theorem zsw{k1 k2 v1 v2:Str}{j1 j2 j3 j4}{p0 p1 p2 p3 p4:Pos}(hk:k1≠k2)(ha:JE X C a fa)(hs:zel a:=by exact fun _ _=>rfl):JE X C (.Subscript (.Dict [some (.Constant (.str k1) j1 p1),some (.Constant (.str k2) j2 p2)] [.Constant (.str v1) j3 p3,.Constant (.str v2) j4 p4] p0) a pos) (zua k1 k2 v1 v2 fa):=by
  have h1:=zpF (X:=X) (pos:=p0) (v1:=v1) (v2:=v2) (j1:=j1) (j2:=j2) (j3:=j3) (j4:=j4) (p1:=p1) (p2:=p2) (p3:=p3) (p4:=p4) hk
  generalize (Expr.Dict [some (.Constant (.str k1) j1 p1),some (.Constant (.str k2) j2 p2)] [.Constant (.str v1) j3 p3,.Constant (.str v2) j4 p4] p0)=e at h1 ⊢
  refine PE.weak (zh5 zuD h1 ha hs) fun σ H Q h=>?_
  obtain ⟨G,w,ρ,r,p⟩:=h
  intro l hl
  have gr:zea G H G (upd H l (.dK [(.inr k1,.str v1),(.inr k2,.str v2)])):=.newH r.gh hl
  have r0:=r.grow gr
  refine zd7 (κ:=fun G H w=>kE X.K C σ Q G H w) zbG r0 (zc0.step (κ:=fun G H w=>kE X.K C σ Q G H w) zbG gr.step p) fun d ρ1 v G1 H1 w1 r1 s1 q1 p1=>?_
  have keep:=s1.keep (r.gh.free hl) (zef r hl) zaj
  cases d with
  |str k =>
   dsimp only at p1
   split at p1
   ·rename_i e
    exact ⟨l,_,k,v1,rfl,zaN q1,keep.2.2,by simp[e],p1 _ G1 H1 w1 (.refl _ _ _) r1 (by unfold Rep;rfl)⟩
   ·rename_i e1
    split at p1
    ·rename_i e
     exact ⟨l,_,k,v2,rfl,zaN q1,keep.2.2,by subst e;simp[hk],p1 _ G1 H1 w1 (.refl _ _ _) r1 (by unfold Rep;rfl)⟩
    ·exact p1.elim
  |_=>exact p1.elim
end
end PV
end
section
namespace Lw
open PySem PySem.Spec L2 PV
def top(i:Nat):Stmt:=PySem.Challenge.pw_standtogether_k90_texts_of_parties_and_t.main.body.getD i (.Pass ⟨0,0,0,0⟩)
def xvC(cls:Nat->Addr):Nat->Value:=fun n=>.ref (cls n)
abbrev zgZ:Str:=((Str.ofString "law")++".<locals>.")++"<lambda>"
abbrev Uf(K:W.Frag)(mg:Str->Option Value)(x:String)(i:Nat):Prop:=∃ f fd,Fun K (Str.ofString x) (Str.ofString x) (top i) f fd/\mg (Str.ofString x)=some (.ref f)
structure Tx(K:W.Frag)(mg:Str->Option Value)(cls:Nat->Addr):Prop where
 xc:∀ n,n<8->Xin K (cls n)
 xm0:mg (Str.ofString "NoGuests")=some (.ref (cls 0))
 xm1:mg (Str.ofString "NoParties")=some (.ref (cls 1))
 xm2:mg (Str.ofString "NoNumber")=some (.ref (cls 2))
 xm3:mg (Str.ofString "NoOrder")=some (.ref (cls 3))
 xm4:mg (Str.ofString "NoWeb")=some (.ref (cls 4))
 xm5:mg (Str.ofString "NoText")=some (.ref (cls 5))
 xm6:mg (Str.ofString "NoLine")=some (.ref (cls 6))
 xm7:mg (Str.ofString "NoDeed")=some (.ref (cls 7))
 xS:∃ Cs,Xin K Cs/\mg (Str.ofString "SeatError")=some (.ref Cs)/\∀ n,n<8->W.subIn K (.ref (cls n)) (.ref Cs)=some true
 xi:∀ n k,n<8->k<8->W.kitOne K (.ref (cls n)) (.ref (cls k))=some (n == k)
 xV:∀ n,n<8->W.kitOne K (.ref (cls n)) (.type "ValueError")=some true
 u_is_whole:Uf K mg "is_whole" 13
 u_check_guests:Uf K mg "check_guests" 14
 u_is_guest:Uf K mg "is_guest" 16
 u_are_guests:Uf K mg "are_guests" 17
 u_rises:Uf K mg "rises" 18
 u_is_party:Uf K mg "is_party" 19
 u_is_parties:Uf K mg "is_parties" 20
 u_check_parties:Uf K mg "check_parties" 15
 u_is_fork:Uf K mg "is_fork" 22
 u_is_tree:Uf K mg "is_tree" 23
 u_is_leaf:Uf K mg "is_leaf" 24
 u_guests_text:Uf K mg "guests_text" 29
 u_parties_text:Uf K mg "parties_text" 30
 u_write_tree:Uf K mg "write_tree" 31
 u_tree_text:Uf K mg "tree_text" 32
 u_read_number:Uf K mg "read_number" 33
 u_read_party:Uf K mg "read_party" 34
 u_read_parties:Uf K mg "read_parties" 35
 u_read_loosely:Uf K mg "read_loosely" 36
 u_read_tree:Uf K mg "read_tree" 37
 u__law_cell_at:Uf K mg "_law_cell_at" 39
 u__law_state:Uf K mg "_law_state" 40
 u__law_take:Uf K mg "_law_take" 41
 u__law_mixed_row:Uf K mg "_law_mixed_row" 42
 u__law_party:Uf K mg "_law_party" 43
 u__law_side:Uf K mg "_law_side" 44
 u__law_parties:Uf K mg "_law_parties" 45
 u__law_tree:Uf K mg "_law_tree" 46
 u__law_same:Uf K mg "_law_same" 47
 u__law_refused:Uf K mg "_law_refused" 48
 u__law_parties_text:Uf K mg "_law_parties_text" 49
 u__law_tree_text:Uf K mg "_law_tree_text" 50
 u_law:Uf K mg "law" 51
 b_ValueError:mg (Str.ofString "ValueError")=none
 b_all:mg (Str.ofString "all")=none
 b_bool:mg (Str.ofString "bool")=none
 b_int:mg (Str.ofString "int")=none
 b_isinstance:mg (Str.ofString "isinstance")=none
 b_len:mg (Str.ofString "len")=none
 b_list:mg (Str.ofString "list")=none
 b_max:mg (Str.ofString "max")=none
 b_min:mg (Str.ofString "min")=none
 b_range:mg (Str.ofString "range")=none
 b_sorted:mg (Str.ofString "sorted")=none
 b_str:mg (Str.ofString "str")=none
 b_tuple:mg (Str.ofString "tuple")=none
 b_zip:mg (Str.ofString "zip")=none
 g_MOST_GUESTS:∃ t,mg (Str.ofString "MOST_GUESTS")=some (.int 7 t)
 g_MOST_PARTIES:∃ t,mg (Str.ofString "MOST_PARTIES")=some (.int 8 t)
 g_FIGURES:∃ t,mg (Str.ofString "FIGURES")=some (.str (Str.ofString "0123456789") t)
 g_NO_PARTIES:∃ t,mg (Str.ofString "NO_PARTIES")=some (.str (Str.ofString "none") t)
 g_WORDS:∃ a,mg (Str.ofString "WORDS")=some (.ref a)/\zkW K a [((Str.ofString "("),(Str.ofString "any")),((Str.ofString "["),(Str.ofString "row"))]
section
variable{P:Program}{w:World}{K:W.Frag}{mg:Str->Option Value}{base:Heap}{xv:Nat->Value}{cls:Nat->Addr}
abbrev zmj:List Str:=["thing"]
abbrev zfC:List Str:=["thing"]
theorem zkt:zax zmj zfC (zal (top 13)):=⟨rfl,rfl,rfl,by decide +kernel,rfl,by decide +kernel,by decide +kernel⟩
def zhJ:DS:=(zbi (zh3 (zcK "int" (zab 0)) (ztY (zcK "bool" (zab 0)))))
def zbT:FD:=zap false [false] 0 zhJ
theorem zif(T:Tx K mg cls):Dfn false P w K mg base (CXe P w) (xvC cls) 3 (Str.ofString "is_whole") [false] zbT:=by
  obtain ⟨f,fd,U,hm⟩:=T.u_is_whole
  refine ⟨f,fd,zfC,?_,hm,U.kp,U.binds (ps:=zfC) fun _ _ _ _ _ _ us hl=>match us,hl with|[_],_=>rfl,zau⟩
  refine zaB (k:=2) false za9 U zkt rfl rfl fun X C hX hpp hxv hnw hr hx hpo=>?_
  obtain ⟨cG,cH,cw,cpp,cσ,cex,cxv,cnw⟩:=C
  dsimp only at hpp hxv hnw
  subst hpp hxv hnw
  have hnw:(false:Bool)=false:=rfl
  obtain ⟨cdv,A,outer,s,H,E,rfl⟩:=hX
  exact (zai (by exact (zay hnw (zfX (zcC znW rfl T.b_isinstance zcv rfl T.b_int zli (zaa 0)) (zfU (zqC (zcC zi5 rfl T.b_isinstance zcv rfl T.b_bool zkV (zaa 0))))))))
abbrev zhA:List Str:=["n"]
abbrev zdq:List Str:=["n"]
theorem zhq:zax zhA zdq (zal (top 14)):=⟨rfl,rfl,rfl,by decide +kernel,rfl,by decide +kernel,by decide +kernel⟩
def zbI:DS:=(dIf (zfr (zaU (dTB (zae zbT (dR (zab 0) dR0)))) (zfr (dTB (dOp gLt (zab 0) (dC (.int 1)))) (dTB (dOp gGt (zab 0) (dC (.int 7)))))) (zgf 0 (dA (dC (.str (Str.ofString "the guests are no whole number from 1 to 7"))) dA0)) dNx)
def zan:FD:=zap false [false] 0 zbI
theorem zby(T:Tx K mg cls):Dfn false P w K mg base (CXe P w) (xvC cls) 6 (Str.ofString "check_guests") [false] zan:=by
  obtain ⟨f,fd,U,hm⟩:=T.u_check_guests
  refine ⟨f,fd,zdq,?_,hm,U.kp,U.binds (ps:=zdq) fun _ _ _ _ _ _ us hl=>match us,hl with|[_],_=>rfl,zau⟩
  refine zaB (k:=5) false za9 U zhq rfl rfl fun X C hX hpp hxv hnw hr hx hpo=>?_
  obtain ⟨cG,cH,cw,cpp,cσ,cex,cxv,cnw⟩:=C
  dsimp only at hpp hxv hnw
  subst hpp hxv hnw
  have hnw:(false:Bool)=false:=rfl
  obtain ⟨cdv,A,outer,s,H,E,rfl⟩:=hX
  exact (zai (by exact (zb5 (JW.jt (zhj (zdN (zbN (za7 (zif T) hr (by omega) hx (zag (zaa 0) zar)))) (zhj (zqH (zaa 0) zam) (zfh (zmk (zaa 0) (zou rfl T.g_MOST_GUESTS.choose_spec)))))) (zai (by exact (zgo hx rfl (T.xc 0 (by decide)).cls T.xm0 rfl (zaw zb2 zaG)))) za8)))
abbrev zma:List Str:=["n","thing"]
abbrev zfP:List Str:=["n","thing"]
theorem zkC:zax zma zfP (zal (top 16)):=⟨rfl,rfl,rfl,by decide +kernel,rfl,by decide +kernel,by decide +kernel⟩
def ze3:DS:=(zbi (zh3 (zae zbT (dR (zab 1) dR0)) (zjN gLe gLt (dC (.int 0)) (zab 1) (zab 0))))
def zbn:FD:=zap false [false,false] 0 ze3
theorem zhO(T:Tx K mg cls):Dfn false P w K mg base (CXe P w) (xvC cls) 6 (Str.ofString "is_guest") [false,false] zbn:=by
  obtain ⟨f,fd,U,hm⟩:=T.u_is_guest
  refine ⟨f,fd,zfP,?_,hm,U.kp,U.binds (ps:=zfP) fun _ _ _ _ _ _ us hl=>match us,hl with|[_,_],_=>rfl,zau⟩
  refine zaB (k:=5) false za9 U zkC rfl rfl fun X C hX hpp hxv hnw hr hx hpo=>?_
  obtain ⟨cG,cH,cw,cpp,cσ,cex,cxv,cnw⟩:=C
  dsimp only at hpp hxv hnw
  subst hpp hxv hnw
  have hnw:(false:Bool)=false:=rfl
  obtain ⟨cdv,A,outer,s,H,E,rfl⟩:=hX
  exact (zai (by exact (zay hnw (zfX (za7 (zif T) hr (by omega) hx (zag (zaa 1) zar)) (zfU (zpJ zux zdZ zdc zrK zdZ zdc zam (zaa 1) (zaa 0)))))))
abbrev zjm:List Str:=["n","thing"]
abbrev zed:List Str:=["n","thing"]
theorem ziy:zax zjm zed (zal (top 17)):=⟨rfl,rfl,rfl,by decide +kernel,rfl,by decide +kernel,by decide +kernel⟩
abbrev zdu:List Str:=["n","thing","part"]
theorem zg8:zdu.Nodup:=by decide +kernel
def zcW:DS:=(zbi (zh3 (zcK "tuple" (zab 1)) (dFn zlE (dA (dFz (zaH (dIt (zab 1)) (zbz 2) dTT (zae zbn (dR (zab 0) (dR (zab 2) dR0))) 1)) dA0))))
def zct:FD:=zap false [false,false] 0 zcW
theorem zj2(T:Tx K mg cls):Dfn false P w K mg base (CXe P w) (xvC cls) 9 (Str.ofString "are_guests") [false,false] zct:=by
  obtain ⟨f,fd,U,hm⟩:=T.u_are_guests
  refine ⟨f,fd,zed,?_,hm,U.kp,U.binds (ps:=zed) fun _ _ _ _ _ _ us hl=>match us,hl with|[_,_],_=>rfl,zau⟩
  refine zaB (k:=8) false za9 U ziy rfl rfl fun X C hX hpp hxv hnw hr hx hpo=>?_
  obtain ⟨cG,cH,cw,cpp,cσ,cex,cxv,cnw⟩:=C
  dsimp only at hpp hxv hnw
  subst hpp hxv hnw
  have hnw:(false:Bool)=false:=rfl
  obtain ⟨cdv,A,outer,s,H,E,rfl⟩:=hX
  exact (zai (by exact (zay hnw (zfX (zcC zcU rfl T.b_isinstance zcv rfl T.b_tuple zcF (zaa 1)) (zfU (zmO rfl T.b_all (zaI (zce (zcX (zaa 1)) rfl (N':=zdu) (m:=1) (by kernel_rfl) rfl (zaF (by kernel_rfl)) (zaX (by kernel_rfl)) (zbv (by kernel_rfl)) (fun cl L s H fp G H' w σ=>⟨(zbc (i:=2) zg8 rfl (by first|exact Or.inl rfl|exact Or.inr rfl) (show 2∉List.range 2 by decide)),zb9,(za7 (zhO T) hr (by omega) (zlr fun _ z=>z) (zag (zaa 0) (zag (zaa 2) zar)))⟩)))))))))
abbrev zr8:List Str:=["numbers"]
abbrev zks:List Str:=["numbers"]
theorem zoM:zax zr8 zks (zal (top 18)):=⟨rfl,rfl,rfl,by decide +kernel,rfl,by decide +kernel,by decide +kernel⟩
abbrev zfR:List Str:=["numbers","k"]
theorem zmv:zfR.Nodup:=by decide +kernel
def zgI:DS:=(zbi (dFn zlE (dA (dFz (zaH (zcb (dOp zhm (dFn zca (dA (zab 0) dA0)) (dC (.int 1)))) (zbz 1) dTT (dOp gLt (dOp gIx (zab 0) (zab 1)) (dOp gIx (zab 0) (dOp zb4 (zab 1) (dC (.int 1))))) 1)) dA0)))
def zfy:FD:=zap false [false] 0 zgI
theorem zmT(T:Tx K mg cls):Dfn false P w K mg base (CXe P w) (xvC cls) 3 (Str.ofString "rises") [false] zfy:=by
  obtain ⟨f,fd,U,hm⟩:=T.u_rises
  refine ⟨f,fd,zks,?_,hm,U.kp,U.binds (ps:=zks) fun _ _ _ _ _ _ us hl=>match us,hl with|[_],_=>rfl,zau⟩
  refine zaB (k:=2) false za9 U zoM rfl rfl fun X C hX hpp hxv hnw hr hx hpo=>?_
  obtain ⟨cG,cH,cw,cpp,cσ,cex,cxv,cnw⟩:=C
  dsimp only at hpp hxv hnw
  subst hpp hxv hnw
  have hnw:(false:Bool)=false:=rfl
  obtain ⟨cdv,A,outer,s,H,E,rfl⟩:=hX
  exact (zai (by exact (zay hnw (zmO rfl T.b_all (zaI (zce (zek rfl T.b_range (zlp (ze6 T.b_len (zaa 0)) zam)) rfl (N':=zfR) (m:=1) (by kernel_rfl) rfl (zaF (by kernel_rfl)) (zaX (by kernel_rfl)) (zbv (by kernel_rfl)) (fun cl L s H fp G H' w σ=>⟨(zbc (i:=1) zmv rfl (by first|exact Or.inl rfl|exact Or.inr rfl) (show 1∉List.range 1 by decide)),zb9,(zuF (zcV (zaa 0) (zaa 1)) (zcV (zaa 0) (zcT (zaa 1) zam)))⟩)))))))
abbrev zmq:List Str:=["n","thing"]
abbrev zf2:List Str:=["n","thing"]
theorem zkr:zax zmq zf2 (zal (top 19)):=⟨rfl,rfl,rfl,by decide +kernel,rfl,by decide +kernel,by decide +kernel⟩
def zfB:DS:=(za6 (dEx (zae zan (dR (zab 0) dR0))) (zbi (zh3 (zae zct (dR (zab 0) (dR (zab 1) dR0))) (zh3 (dOp gGt (dFn zca (dA (zab 1) dA0)) (dC (.int 0))) (zae zfy (dR (zab 1) dR0))))))
def ze0:FD:=zap false [false,false] 0 zfB
theorem zlN(T:Tx K mg cls):Dfn false P w K mg base (CXe P w) (xvC cls) 12 (Str.ofString "is_party") [false,false] ze0:=by
  obtain ⟨f,fd,U,hm⟩:=T.u_is_party
  refine ⟨f,fd,zf2,?_,hm,U.kp,U.binds (ps:=zf2) fun _ _ _ _ _ _ us hl=>match us,hl with|[_,_],_=>rfl,zau⟩
  refine zaB (k:=11) false za9 U zkr rfl rfl fun X C hX hpp hxv hnw hr hx hpo=>?_
  obtain ⟨cG,cH,cw,cpp,cσ,cex,cxv,cnw⟩:=C
  dsimp only at hpp hxv hnw
  subst hpp hxv hnw
  have hnw:(false:Bool)=false:=rfl
  obtain ⟨cdv,A,outer,s,H,E,rfl⟩:=hX
  exact (zad (by exact (zbF (za7 (zby T) hr (by omega) hx (zag (zaa 0) zar)))) (zai (by exact (zay hnw (zfX (za7 (zj2 T) hr (by omega) hx (zag (zaa 0) (zag (zaa 1) zar))) (zfX (zuc (ze6 T.b_len (zaa 1)) zam) (zfU (za7 (zmT T) hr (by omega) hx (zag (zaa 1) zar)))))))))
abbrev zkd:List Str:=["n","thing"]
abbrev zen:List Str:=["n","thing"]
theorem ziE:zax zkd zen (zal (top 20)):=⟨rfl,rfl,rfl,by decide +kernel,rfl,by decide +kernel,by decide +kernel⟩
abbrev zd4:List Str:=["n","thing","part"]
theorem zgC:zd4.Nodup:=by decide +kernel
def zcx:DS:=(za6 (dEx (zae zan (dR (zab 0) dR0))) (za6 (dIf (zfr (zaU (dTB (zcK "list" (zab 1)))) (dTB (dOp gGt (dFn zca (dA (zab 1) dA0)) (dC (.int 8))))) (zbi (dC (.bl false))) dNx) (zbi (dFn zlE (dA (dFz (zaH (dIt (zab 1)) (zbz 2) dTT (zae ze0 (dR (zab 0) (dR (zab 2) dR0))) 1)) dA0)))))
def zbo:FD:=zap false [false,false] 0 zcx
theorem zfQ(T:Tx K mg cls):Dfn false P w K mg base (CXe P w) (xvC cls) 15 (Str.ofString "is_parties") [false,false] zbo:=by
  obtain ⟨f,fd,U,hm⟩:=T.u_is_parties
  refine ⟨f,fd,zen,?_,hm,U.kp,U.binds (ps:=zen) fun _ _ _ _ _ _ us hl=>match us,hl with|[_,_],_=>rfl,zau⟩
  refine zaB (k:=14) false za9 U ziE rfl rfl fun X C hX hpp hxv hnw hr hx hpo=>?_
  obtain ⟨cG,cH,cw,cpp,cσ,cex,cxv,cnw⟩:=C
  dsimp only at hpp hxv hnw
  subst hpp hxv hnw
  have hnw:(false:Bool)=false:=rfl
  obtain ⟨cdv,A,outer,s,H,E,rfl⟩:=hX
  exact (zad (by exact (zbF (za7 (zby T) hr (by omega) hx (zag (zaa 0) zar)))) (zad (by exact (zb5 (JW.jt (zhj (zdN (zbN (zcC zgn rfl T.b_isinstance zcv rfl T.b_list zgP (zaa 1)))) (zfh (zmk (ze6 T.b_len (zaa 1)) (zou rfl T.g_MOST_PARTIES.choose_spec))))) (zai (by exact (zay hnw zfb))) za8)) (zai (by exact (zay hnw (zmO rfl T.b_all (zaI (zce (zcX (zaa 1)) rfl (N':=zd4) (m:=1) (by kernel_rfl) rfl (zaF (by kernel_rfl)) (zaX (by kernel_rfl)) (zbv (by kernel_rfl)) (fun cl L s H fp G H' w σ=>⟨(zbc (i:=2) zgC rfl (by first|exact Or.inl rfl|exact Or.inr rfl) (show 2∉List.range 2 by decide)),zb9,(za7 (zlN T) hr (by omega) (zlr fun _ z=>z) (zag (zaa 0) (zag (zaa 2) zar)))⟩)))))))))
abbrev zgz:List Str:=["n","thing"]
abbrev zcN:List Str:=["n","thing"]
theorem zgg:zax zgz zcN (zal (top 15)):=⟨rfl,rfl,rfl,by decide +kernel,rfl,by decide +kernel,by decide +kernel⟩
def zaS:DS:=(dIf (zaU (dTB (zae zbo (dR (zab 0) (dR (zab 1) dR0))))) (zgf 1 (dA (dC (.str (Str.ofString "these are no parties of so many guests"))) dA0)) dNx)
def zaK:FD:=zap false [false,false] 0 zaS
theorem zgF(T:Tx K mg cls):Dfn false P w K mg base (CXe P w) (xvC cls) 18 (Str.ofString "check_parties") [false,false] zaK:=by
  obtain ⟨f,fd,U,hm⟩:=T.u_check_parties
  refine ⟨f,fd,zcN,?_,hm,U.kp,U.binds (ps:=zcN) fun _ _ _ _ _ _ us hl=>match us,hl with|[_,_],_=>rfl,zau⟩
  refine zaB (k:=17) false za9 U zgg rfl rfl fun X C hX hpp hxv hnw hr hx hpo=>?_
  obtain ⟨cG,cH,cw,cpp,cσ,cex,cxv,cnw⟩:=C
  dsimp only at hpp hxv hnw
  subst hpp hxv hnw
  have hnw:(false:Bool)=false:=rfl
  obtain ⟨cdv,A,outer,s,H,E,rfl⟩:=hX
  exact (zai (by exact (zb5 (zdN (zbN (za7 (zfQ T) hr (by omega) hx (zag (zaa 0) (zag (zaa 1) zar))))) (zai (by exact (zgo hx rfl (T.xc 1 (by decide)).cls T.xm1 rfl (zaw zb2 zaG)))) za8)))
end
section
variable{P:Program}{w:World}{K:W.Frag}{mg:Str->Option Value}{base:Heap}{xv:Nat->Value}{cls:Nat->Addr}
abbrev zoj:List Str:=["thing"]
abbrev zhs:List Str:=["thing"]
theorem zml:zax zoj zhs (zal (top 22)):=⟨rfl,rfl,rfl,by decide +kernel,rfl,by decide +kernel,by decide +kernel⟩
def zcd:DS:=(za6 (dIf (zfr (zaU (dTB (zcK "tuple" (zab 0)))) (zfr (dTB (dOp (gEq true) (dFn zca (dA (zab 0) dA0)) (dC (.int 2)))) (zaU (dTB (zcK "tuple" (dOp gIx (zab 0) (dC (.int 1)))))))) (zbi (dC (.bl false))) dNx) (za6 (dIf (dTB (dOp (gEq false) (dOp gIx (zab 0) (dC (.int 0))) (dC (.str (Str.ofString "any"))))) (zbi (dOp gGe (dFn zca (dA (dOp gIx (zab 0) (dC (.int 1))) dA0)) (dC (.int 2)))) dNx) (zbi (zh3 (dOp (gEq false) (dOp gIx (zab 0) (dC (.int 0))) (dC (.str (Str.ofString "row")))) (dOp gGe (dFn zca (dA (dOp gIx (zab 0) (dC (.int 1))) dA0)) (dC (.int 3)))))))
def zbk:FD:=zap false [false] 0 zcd
theorem znX(T:Tx K mg cls):Dfn false P w K mg base (CXe P w) (xvC cls) 3 (Str.ofString "is_fork") [false] zbk:=by
  obtain ⟨f,fd,U,hm⟩:=T.u_is_fork
  refine ⟨f,fd,zhs,?_,hm,U.kp,U.binds (ps:=zhs) fun _ _ _ _ _ _ us hl=>match us,hl with|[_],_=>rfl,zau⟩
  refine zaB (k:=2) false za9 U zml rfl rfl fun X C hX hpp hxv hnw hr hx hpo=>?_
  obtain ⟨cG,cH,cw,cpp,cσ,cex,cxv,cnw⟩:=C
  dsimp only at hpp hxv hnw
  subst hpp hxv hnw
  have hnw:(false:Bool)=false:=rfl
  obtain ⟨cdv,A,outer,s,H,E,rfl⟩:=hX
  exact (zad (by exact (zb5 (JW.jt (zhj (zdN (zbN (zcC zcU rfl T.b_isinstance zcv rfl T.b_tuple zcF (zaa 0)))) (zhj (zgO (zeP hr) (ze6 T.b_len (zaa 0)) zam) (zfh (zdN (zbN (zcC zcU rfl T.b_isinstance zcv rfl T.b_tuple zcF (zcV (zaa 0) zam)))))))) (zai (by exact (zay hnw zfb))) za8)) (zad (by exact (zb5 (zfJ (zeP hr) (zcV (zaa 0) zam) zb2) (zai (by exact (zay hnw (zs3 (ze6 T.b_len (zcV (zaa 0) zam)) zam)))) za8)) (zai (by exact (zay hnw (zfX (zmt (zeP hr) (zcV (zaa 0) zam) zb2) (zfU (zs3 (ze6 T.b_len (zcV (zaa 0) zam)) zam))))))))
abbrev zmC:List Str:=["n","thing","found","waiting","part"]
abbrev zg4:List Str:=["n","thing"]
theorem zew:zax zmC zg4 (zal (top 23)):=⟨rfl,rfl,rfl,by decide +kernel,rfl,by decide +kernel,by decide +kernel⟩
def zfa:DS:=(za6 (dEx (zae zan (dR (zab 0) dR0))) (za6 (zbO 2 (zc9 dA0)) (za6 (zbO 3 (zc9 (dA (zab 1) dA0))) (za6 (zb1 (dTB (dOp gGt (zcy 3) (dC (.int 0)))) (za6 (zb6 4 (zoI 3)) (dIf (dTB (zae zbk (dR (zab 4) dR0))) (dEx (znL 3 (dOp gIx (zab 4) (dC (.int 1))))) (dIf (ze8 (dTB (zae zbn (dR (zab 0) (dR (zab 4) dR0)))) (dTB (zq1 true 2 (zab 4)))) (dEx (zfO 2 (zab 4))) (zbi (dC (.bl false)))))) 60) (zbi (dOp (gEq false) (zcy 2) (zab 0)))))))
def zei:FD:=zap false [false,false] 3 zfa
theorem zoD(T:Tx K mg cls):Dfn false P w K mg base (CXe P w) (xvC cls) 9 (Str.ofString "is_tree") [false,false] zei:=by
  obtain ⟨f,fd,U,hm⟩:=T.u_is_tree
  refine ⟨f,fd,zg4,?_,hm,U.kp,U.binds (ps:=zg4) fun _ _ _ _ _ _ us hl=>match us,hl with|[_,_],_=>rfl,zau⟩
  refine zaB (k:=8) false za9 U zew rfl rfl fun X C hX hpp hxv hnw hr hx hpo=>?_
  obtain ⟨cG,cH,cw,cpp,cσ,cex,cxv,cnw⟩:=C
  dsimp only at hpp hxv hnw
  subst hpp hxv hnw
  have hnw:(false:Bool)=false:=rfl
  obtain ⟨cdv,A,outer,s,H,E,rfl⟩:=hX
  exact (zad (by exact (zbF (za7 (zby T) hr (by omega) hx (zag (zaa 0) zar)))) (zad (by exact (zfG (i:=2) zew.nd rfl (by first|exact Or.inl rfl|exact Or.inr rfl) (show 2∉zbD [false,false] by decide) (zc1 zaG))) (zad (by exact (zfG (i:=3) zew.nd rfl (by first|exact Or.inl rfl|exact Or.inr rfl) (show 3∉zbD [false,false] by decide) (zc1 (zaw (zaa 1) zaG)))) (zad (by exact (zlC 60 hpo (zmk (zeY 3 rfl T.b_len) zam) (zad (by exact (zbq (i:=4) zew.nd rfl (by first|exact Or.inl rfl|exact Or.inr rfl) (show 4∉zbD [false,false] by decide) (zq2 3))) (zai (by exact (zb5 (zbN (za7 (znX T) hr (by omega) hx (zag (zaa 4) zar))) (zai (by exact (zbF (zqF 3 (zcV (zaa 4) zam))))) (zai (by exact (zb5 (JW.jt (zjV (zbN (za7 (zhO T) hr (by omega) hx (zag (zaa 0) (zag (zaa 4) zar)))) (zhb (zo5 2 (hu65 hr) (zaa 4))))) (zai (by exact (zbF (zk0 2 (zaa 4))))) (zai (by exact (zay hnw zfb)))))))))))) (zai (by exact (zay hnw (zmt (zeP hr) (zeY 2 rfl T.b_len) (zaa 0)))))))))
abbrev zn5:List Str:=["tree"]
abbrev zgH:List Str:=["tree"]
theorem zlX:zax zn5 zgH (zal (top 24)):=⟨rfl,rfl,rfl,by decide +kernel,rfl,by decide +kernel,by decide +kernel⟩
def zmM:DS:=(zbi (ztY (zcK "tuple" (zab 0))))
def zfm:FD:=zap false [false] 0 zmM
theorem znV(T:Tx K mg cls):Dfn false P w K mg base (CXe P w) (xvC cls) 3 (Str.ofString "is_leaf") [false] zfm:=by
  obtain ⟨f,fd,U,hm⟩:=T.u_is_leaf
  refine ⟨f,fd,zgH,?_,hm,U.kp,U.binds (ps:=zgH) fun _ _ _ _ _ _ us hl=>match us,hl with|[_],_=>rfl,zau⟩
  refine zaB (k:=2) false za9 U zlX rfl rfl fun X C hX hpp hxv hnw hr hx hpo=>?_
  obtain ⟨cG,cH,cw,cpp,cσ,cex,cxv,cnw⟩:=C
  dsimp only at hpp hxv hnw
  subst hpp hxv hnw
  have hnw:(false:Bool)=false:=rfl
  obtain ⟨cdv,A,outer,s,H,E,rfl⟩:=hX
  exact (zai (by exact (zay hnw (zqC (zcC zcU rfl T.b_isinstance zcv rfl T.b_tuple zcF (zaa 0))))))
abbrev zil:List Str:=["guests"]
abbrev zdD:List Str:=["guests"]
theorem zhB:zax zil zdD (zal (top 29)):=⟨rfl,rfl,rfl,by decide +kernel,rfl,by decide +kernel,by decide +kernel⟩
abbrev zdf:List Str:=["guests","guest"]
theorem zgk:zdf.Nodup:=by decide +kernel
def zin:DS:=(zbi (ze7 (dC (.str (Str.ofString ","))) (dFz (zaH (dIt (zab 0)) (zbz 1) dTT (dFn zdF (dA (zab 1) dA0)) 1))))
def zd9:FD:=zap false [false] 0 zin
theorem ziK(T:Tx K mg cls):Dfn false P w K mg base (CXe P w) (xvC cls) 3 (Str.ofString "guests_text") [false] zd9:=by
  obtain ⟨f,fd,U,hm⟩:=T.u_guests_text
  refine ⟨f,fd,zdD,?_,hm,U.kp,U.binds (ps:=zdD) fun _ _ _ _ _ _ us hl=>match us,hl with|[_],_=>rfl,zau⟩
  refine zaB (k:=2) false za9 U zhB rfl rfl fun X C hX hpp hxv hnw hr hx hpo=>?_
  obtain ⟨cG,cH,cw,cpp,cσ,cex,cxv,cnw⟩:=C
  dsimp only at hpp hxv hnw
  subst hpp hxv hnw
  have hnw:(false:Bool)=false:=rfl
  obtain ⟨cdv,A,outer,s,H,E,rfl⟩:=hX
  exact (zai (by exact (zay hnw (zfK zb2 (zaI (zce (zcX (zaa 0)) rfl (N':=zdf) (m:=1) (by kernel_rfl) rfl (zaF (by kernel_rfl)) (zaX (by kernel_rfl)) (zbv (by kernel_rfl)) (fun cl L s H fp G H' w σ=>⟨(zbc (i:=1) zgk rfl (by first|exact Or.inl rfl|exact Or.inr rfl) (show 1∉List.range 1 by decide)),zb9,(zi9 rfl T.b_str zhF (zaa 1))⟩)))))))
end
section
variable{P:Program}{w:World}{K:W.Frag}{mg:Str->Option Value}{base:Heap}{xv:Nat->Value}{cls:Nat->Addr}
abbrev zhy:List Str:=["n","parties"]
abbrev zdk:List Str:=["n","parties"]
theorem zhd:zax zhy zdk (zal (top 30)):=⟨rfl,rfl,rfl,by decide +kernel,rfl,by decide +kernel,by decide +kernel⟩
abbrev zcI:List Str:=["n","parties","party"]
theorem zfN:zcI.Nodup:=by decide +kernel
def zbf:DS:=(za6 (dEx (zae zaK (dR (zab 0) (dR (zab 1) dR0)))) (za6 (dIf (dTB (dOp (gEq false) (dFn zca (dA (zab 1) dA0)) (dC (.int 0)))) (zbi (dC (.str (Str.ofString "none")))) dNx) (zbi (ze7 (dC (.str (Str.ofString " "))) (dFz (zaH (dIt (zab 1)) (zbz 2) dTT (zae zd9 (dR (zab 2) dR0)) 1))))))
def zaq:FD:=zap false [false,false] 0 zbf
theorem zcq(T:Tx K mg cls):Dfn false P w K mg base (CXe P w) (xvC cls) 21 (Str.ofString "parties_text") [false,false] zaq:=by
  obtain ⟨f,fd,U,hm⟩:=T.u_parties_text
  refine ⟨f,fd,zdk,?_,hm,U.kp,U.binds (ps:=zdk) fun _ _ _ _ _ _ us hl=>match us,hl with|[_,_],_=>rfl,zau⟩
  refine zaB (k:=20) false za9 U zhd rfl rfl fun X C hX hpp hxv hnw hr hx hpo=>?_
  obtain ⟨cG,cH,cw,cpp,cσ,cex,cxv,cnw⟩:=C
  dsimp only at hpp hxv hnw
  subst hpp hxv hnw
  have hnw:(false:Bool)=false:=rfl
  obtain ⟨cdv,A,outer,s,H,E,rfl⟩:=hX
  exact (zad (by exact (zbF (za7 (zgF T) hr (by omega) hx (zag (zaa 0) (zag (zaa 1) zar))))) (zad (by exact (zb5 (zfJ (zeP hr) (ze6 T.b_len (zaa 1)) zam) (zai (by exact (zay hnw (zgv rfl T.g_NO_PARTIES.choose_spec)))) za8)) (zai (by exact (zay hnw (zfK zb2 (zaI (zce (zcX (zaa 1)) rfl (N':=zcI) (m:=1) (by kernel_rfl) rfl (zaF (by kernel_rfl)) (zaX (by kernel_rfl)) (zbv (by kernel_rfl)) (fun cl L s H fp G H' w σ=>⟨(zbc (i:=2) zfN rfl (by first|exact Or.inl rfl|exact Or.inr rfl) (show 2∉List.range 2 by decide)),zb9,(za7 (ziK T) hr (by omega) (zlr fun _ z=>z) (zag (zaa 2) zar))⟩)))))))))
abbrev zjq:List Str:=["tree","inner"]
abbrev zdb:List Str:=["tree"]
theorem zfs:zax zjq zdb (zal (top 31)):=⟨rfl,rfl,rfl,by decide +kernel,rfl,by decide +kernel,by decide +kernel⟩
abbrev zdx:List Str:=["tree","inner","branch"]
theorem zgM:zdx.Nodup:=by decide +kernel
def zbX(F_self:FD):DS:=(za6 (dIf (dTB (zae zfm (dR (zab 0) dR0))) (zbi (dFn zdF (dA (zab 0) dA0))) dNx) (za6 (zb6 1 (ze7 (dC (.str (Str.ofString " "))) (dFz (zaH (dIt (dOp gIx (zab 0) (dC (.int 1)))) (zbz 2) dTT (zae F_self (dR (zab 2) dR0)) 1)))) (zbi (zm5 (dTB (dOp (gEq false) (dOp gIx (zab 0) (dC (.int 0))) (dC (.str (Str.ofString "any"))))) (zs8 (Str.ofString "(") (Str.ofString ")") (zab 1)) (zs8 (Str.ofString "[") (Str.ofString "]") (zab 1))))))
def zaP:Nat->FD
 |0=>fun _=>.no
 |n+1=>zap false [false] 1 (zbX (zaP n))
theorem zes(T:Tx K mg cls):∀ n,Dfn false P w K mg base (CXe P w) (xvC cls) (n+5) (Str.ofString "write_tree") [false] (zaP n)
 |0=>by
  obtain ⟨f,fd,U,hm⟩:=T.u_write_tree
  exact zgt rfl U hm (U.binds (ps:=zdb) fun _ _ _ _ _ _ us hl=>match us,hl with|[_],_=>rfl)
 |n+1=>by
  have DS:=zes T n
  obtain ⟨f,fd,U,hm⟩:=T.u_write_tree
  refine ⟨f,fd,zdb,?_,hm,U.kp,U.binds (ps:=zdb) fun _ _ _ _ _ _ us hl=>match us,hl with|[_],_=>rfl,zau⟩
  refine zgi.mono (j:=(n+5)+1) ?_ (by omega)
  refine zaB (k:=n+5) false za9 U zfs rfl rfl fun X C hX hpp hxv hnw hr hx hpo=>?_
  obtain ⟨cG,cH,cw,cpp,cσ,cex,cxv,cnw⟩:=C
  dsimp only at hpp hxv hnw
  subst hpp hxv hnw
  have hnw:(false:Bool)=false:=rfl
  obtain ⟨cdv,A,outer,s,H,E,rfl⟩:=hX
  exact (zad (by exact (zb5 (zbN (za7 (znV T) hr (by omega) hx (zag (zaa 0) zar))) (zai (by exact (zay hnw (zi9 rfl T.b_str zhF (zaa 0))))) za8)) (zad (by exact (zbq (i:=1) zfs.nd rfl (by first|exact Or.inl rfl|exact Or.inr rfl) (show 1∉zbD [false] by decide) (zfK zb2 (zaI (zce (zcX (zcV (zaa 0) zam)) rfl (N':=zdx) (m:=1) (by kernel_rfl) rfl (zaF (by kernel_rfl)) (zaX (by kernel_rfl)) (zbv (by kernel_rfl)) (fun cl L s H fp G H' w σ=>⟨(zbc (i:=2) zgM rfl (by first|exact Or.inl rfl|exact Or.inr rfl) (show 2∉List.range 2 by decide)),zb9,(za7 DS hr (Nat.le_refl _) (zlr fun _ z=>z) (zag (zaa 2) zar))⟩)))))) (zai (by exact (zay hnw (zjf (zfJ (zeP hr) (zcV (zaa 0) zam) zb2) (zq8 (zaa 1)) (zq8 (zaa 1))))))))
abbrev zkQ:List Str:=["n","tree"]
abbrev zeM:List Str:=["n","tree"]
theorem zjh:zax zkQ zeM (zal (top 32)):=⟨rfl,rfl,rfl,by decide +kernel,rfl,by decide +kernel,by decide +kernel⟩
def zeW:DS:=(za6 (dEx (zae zan (dR (zab 0) dR0))) (zbi (zae (zaP 8) (dR (zab 1) dR0))))
def zcJ:FD:=zap false [false,false] 0 zeW
theorem zko(T:Tx K mg cls):Dfn false P w K mg base (CXe P w) (xvC cls) 16 (Str.ofString "tree_text") [false,false] zcJ:=by
  obtain ⟨f,fd,U,hm⟩:=T.u_tree_text
  refine ⟨f,fd,zeM,?_,hm,U.kp,U.binds (ps:=zeM) fun _ _ _ _ _ _ us hl=>match us,hl with|[_,_],_=>rfl,zau⟩
  refine zaB (k:=15) false za9 U zjh rfl rfl fun X C hX hpp hxv hnw hr hx hpo=>?_
  obtain ⟨cG,cH,cw,cpp,cσ,cex,cxv,cnw⟩:=C
  dsimp only at hpp hxv hnw
  subst hpp hxv hnw
  have hnw:(false:Bool)=false:=rfl
  obtain ⟨cdv,A,outer,s,H,E,rfl⟩:=hX
  exact (zad (by exact (zbF (za7 (zby T) hr (by omega) hx (zag (zaa 0) zar)))) (zai (by exact (zay hnw (za7 (zes T 8) hr (by omega) hx (zag (zaa 1) zar))))))
end
section
variable{P:Program}{w:World}{K:W.Frag}{mg:Str->Option Value}{base:Heap}{xv:Nat->Value}{cls:Nat->Addr}
abbrev ziG:List Str:=["text"]
abbrev zdA:List Str:=["text"]
theorem zh8:zax ziG zdA (zal (top 33)):=⟨rfl,rfl,rfl,by decide +kernel,rfl,by decide +kernel,by decide +kernel⟩
abbrev zcZ:List Str:=["text","sign"]
theorem zgj:zcZ.Nodup:=by decide +kernel
def zit:DS:=(za6 (dIf (zfr (dTB (dOp (gEq false) (dFn zca (dA (zab 0) dA0)) (dC (.int 0)))) (zaU (dTB (dFn zlE (dA (dFz (zaH (zr7 (zab 0)) (zbz 1) dTT (dOp zkj (zab 1) (dC (.str (Str.ofString "0123456789")))) 1)) dA0))))) (zbi (dC .non)) dNx) (zbi (zm5 (zfr (dTB (dOp (gEq false) (zab 0) (dC (.str (Str.ofString "0"))))) (dTB (dOp (gEq true) (dOp zm0 (zab 0) (dC (.int 0))) (dC (.str (Str.ofString "0")))))) (dFn zlO (dA (zab 0) dA0)) (dC .non))))
def zch:FD:=zap false [false] 0 zit
theorem ziP(T:Tx K mg cls):Dfn false P w K mg base (CXe P w) (xvC cls) 3 (Str.ofString "read_number") [false] zch:=by
  obtain ⟨f,fd,U,hm⟩:=T.u_read_number
  refine ⟨f,fd,zdA,?_,hm,U.kp,U.binds (ps:=zdA) fun _ _ _ _ _ _ us hl=>match us,hl with|[_],_=>rfl,zau⟩
  refine zaB (k:=2) false za9 U zh8 rfl rfl fun X C hX hpp hxv hnw hr hx hpo=>?_
  obtain ⟨cG,cH,cw,cpp,cσ,cex,cxv,cnw⟩:=C
  dsimp only at hpp hxv hnw
  subst hpp hxv hnw
  have hnw:(false:Bool)=false:=rfl
  obtain ⟨cdv,A,outer,s,H,E,rfl⟩:=hX
  exact (zad (by exact (zb5 (JW.jt (zhj (zfJ (zeP hr) (ze6 T.b_len (zaa 0)) zam) (zfh (zdN (zbN (zmO rfl T.b_all (zaI (zce (zqc (zaa 0)) rfl (N':=zcZ) (m:=1) (by kernel_rfl) rfl (zaF (by kernel_rfl)) (zaX (by kernel_rfl)) (zbv (by kernel_rfl)) (fun cl L s H fp G H' w σ=>⟨(zbc (i:=1) zgj rfl (by first|exact Or.inl rfl|exact Or.inr rfl) (show 1∉List.range 1 by decide)),zb9,(zs9 (zaa 1) (zgv rfl T.g_FIGURES.choose_spec))⟩))))))))) (zai (by exact (zay hnw zff))) za8)) (zai (by exact (zay hnw (zjf (JW.jt (zhj (zfJ (zeP hr) (zaa 0) zb2) (zfh (zgO (zeP hr) (znp (zaa 0) zam) zb2)))) (zrQ rfl T.b_int zli (zaa 0)) zff)))))
abbrev zjJ:List Str:=["text","numbers"]
abbrev zdX:List Str:=["text"]
theorem zfe:zax zjJ zdX (zal (top 34)):=⟨rfl,rfl,rfl,by decide +kernel,rfl,by decide +kernel,by decide +kernel⟩
abbrev zdv:List Str:=["text","numbers","part"]
theorem zhp:zdv.Nodup:=by decide +kernel
def zeh:DS:=(za6 (zb6 1 (dFz (zaH (dIt (dFz (zfg (zab 0) (dC (.str (Str.ofString ",")))))) (zbz 2) dTT (zae zch (dR (zab 2) dR0)) 1))) (za6 (dIf (zfr (dTB (dOp (gIn false) (dC .non) (zab 1))) (zaU (dTB (zae zfy (dR (zab 1) dR0))))) (zbi (dC .non)) dNx) (zbi (dFn zda (dA (zab 1) dA0)))))
def zdh:FD:=zap false [false] 1 zeh
theorem zjW(T:Tx K mg cls):Dfn false P w K mg base (CXe P w) (xvC cls) 6 (Str.ofString "read_party") [false] zdh:=by
  obtain ⟨f,fd,U,hm⟩:=T.u_read_party
  refine ⟨f,fd,zdX,?_,hm,U.kp,U.binds (ps:=zdX) fun _ _ _ _ _ _ us hl=>match us,hl with|[_],_=>rfl,zau⟩
  refine zaB (k:=5) false za9 U zfe rfl rfl fun X C hX hpp hxv hnw hr hx hpo=>?_
  obtain ⟨cG,cH,cw,cpp,cσ,cex,cxv,cnw⟩:=C
  dsimp only at hpp hxv hnw
  subst hpp hxv hnw
  have hnw:(false:Bool)=false:=rfl
  obtain ⟨cdv,A,outer,s,H,E,rfl⟩:=hX
  exact (zad (by exact (zhP (i:=1) zfe.nd rfl (by first|exact Or.inl rfl|exact Or.inr rfl) (show 1∉zbD [false] by decide) (zcX (zaI (zlB (zaa 0) zb2))) rfl (N':=zdv) (m:=1) (by kernel_rfl) rfl (zaF (by kernel_rfl)) (zaX (by kernel_rfl)) (zbv (by kernel_rfl)) (fun cl L s H fp G H' w σ=>⟨(zbc (i:=2) zhp rfl (by first|exact Or.inl rfl|exact Or.inr rfl) (show 2∉List.range 2 by decide)),zb9,(za7 (ziP T) hr (by omega) (zlr fun _ z=>z) (zag (zaa 2) zar))⟩))) (zad (by exact (zb5 (JW.jt (zhj (zu6 (hu65 hr) zff (zaa 1)) (zfh (zdN (zbN (za7 (zmT T) hr (by omega) hx (zag (zaa 1) zar))))))) (zai (by exact (zay hnw zff))) za8)) (zai (by exact (zay hnw (zgw T.b_tuple (zaa 1)))))))
abbrev zh7:List Str:=["n","text","parties"]
abbrev zdn:List Str:=["n","text"]
theorem zeo:zax zh7 zdn (zal (top 35)):=⟨rfl,rfl,rfl,by decide +kernel,rfl,by decide +kernel,by decide +kernel⟩
abbrev zcR:List Str:=["n","text","parties","part"]
theorem zf5:zcR.Nodup:=by decide +kernel
def zbM:DS:=(za6 (dEx (zae zan (dR (zab 0) dR0))) (za6 (dIf (dTB (dOp (gEq false) (zab 1) (dC (.str (Str.ofString "none"))))) (zbi (dFz (zc9 dA0))) dNx) (za6 (zb6 2 (zm5 (dTB (zcK "str" (zab 1))) (dFz (zaH (dIt (dFz (zfg (zab 1) (dC (.str (Str.ofString " ")))))) (zbz 3) dTT (zae zdh (dR (zab 3) dR0)) 1)) (dC .non))) (za6 (dIf (zaU (dTB (zae zbo (dR (zab 0) (dR (zab 2) dR0))))) (zgf 5 (dA (dC (.str (Str.ofString "this is no text of parties of so many guests"))) dA0)) dNx) (zbi (zab 2))))))
def zaO:FD:=zap false [false,false] 1 zbM
theorem zeB(T:Tx K mg cls):Dfn false P w K mg base (CXe P w) (xvC cls) 18 (Str.ofString "read_parties") [false,false] zaO:=by
  obtain ⟨f,fd,U,hm⟩:=T.u_read_parties
  refine ⟨f,fd,zdn,?_,hm,U.kp,U.binds (ps:=zdn) fun _ _ _ _ _ _ us hl=>match us,hl with|[_,_],_=>rfl,zau⟩
  refine zaB (k:=17) false za9 U zeo rfl rfl fun X C hX hpp hxv hnw hr hx hpo=>?_
  obtain ⟨cG,cH,cw,cpp,cσ,cex,cxv,cnw⟩:=C
  dsimp only at hpp hxv hnw
  subst hpp hxv hnw
  have hnw:(false:Bool)=false:=rfl
  obtain ⟨cdv,A,outer,s,H,E,rfl⟩:=hX
  exact (zad (by exact (zbF (za7 (zby T) hr (by omega) hx (zag (zaa 0) zar)))) (zad (by exact (zb5 (zfJ (zeP hr) (zaa 1) (zgv rfl T.g_NO_PARTIES.choose_spec)) (zai (by exact (zay hnw (zaI (zc1 zaG))))) za8)) (zad (by exact (zbq (i:=2) zeo.nd rfl (by first|exact Or.inl rfl|exact Or.inr rfl) (show 2∉zbD [false,false] by decide) (zjf (zbN (zcC zoc rfl T.b_isinstance zcv rfl T.b_str zhF (zaa 1))) (zaI (zce (zcX (zaI (zlB (zaa 1) zb2))) rfl (N':=zcR) (m:=1) (by kernel_rfl) rfl (zaF (by kernel_rfl)) (zaX (by kernel_rfl)) (zbv (by kernel_rfl)) (fun cl L s H fp G H' w σ=>⟨(zbc (i:=3) zf5 rfl (by first|exact Or.inl rfl|exact Or.inr rfl) (show 3∉List.range 3 by decide)),zb9,(za7 (zjW T) hr (by omega) (zlr fun _ z=>z) (zag (zaa 3) zar))⟩))) zff))) (zad (by exact (zb5 (zdN (zbN (za7 (zfQ T) hr (by omega) hx (zag (zaa 0) (zag (zaa 2) zar))))) (zai (by exact (zgo hx rfl (T.xc 5 (by decide)).cls T.xm5 rfl (zaw zb2 zaG)))) za8)) (zai (by exact (zay hnw (zaa 2))))))))
end
section
variable{P:Program}{w:World}{K:W.Frag}{mg:Str->Option Value}{base:Heap}{xv:Nat->Value}{cls:Nat->Addr}
abbrev zhv:List Str:=["text","words","branches","sign","fork"]
abbrev zdr:List Str:=["text"]
theorem zbC:zax zhv zdr (zal (top 36)):=⟨rfl,rfl,rfl,by decide +kernel,rfl,by decide +kernel,by decide +kernel⟩
def zdp:DS:=(za6 (zbO 1 (zc9 dA0)) (za6 (zoH 2) (za6 (zmx (zr7 (zab 0)) (zbz 3) (dIf (dTB (zjj [((Str.ofString "("),(Str.ofString "any")),((Str.ofString "["),(Str.ofString "row"))] (zab 3))) (za6 (dEx (zfO 1 (zph [((Str.ofString "("),(Str.ofString "any")),((Str.ofString "["),(Str.ofString "row"))] (zab 3)))) (dEx (zlz 2))) (dIf (dTB (dOp zkj (zab 3) (dC (.str (Str.ofString "0123456789"))))) (dEx (zjO 2 3 (zsa (dC (.int 1))))) (dIf (ze8 (dTB (dOp zkj (zab 3) (dC (.str (Str.ofString ")]"))))) (dTB (dOp gGt (zcy 1) (dC (.int 0))))) (za6 (zb6 4 (zlg (dA (zoI 1) (dA (zhU 2) dA0)))) (dEx (zg0 2 4 (zsa (dC (.int 1)))))) dNx)))) (zbi (zm5 (ze8 (dTB (dOp (gEq false) (zcy 1) (dC (.int 0)))) (dTB (dOp (gEq false) (zpA 2 0) (dC (.int 1))))) (ztU 2 0 0) (dC .non))))))
def zcp:FD:=zap false [false] 4 zdp
theorem zh1(T:Tx K mg cls):Dfn false P w K mg base (CXe P w) (xvC cls) 3 (Str.ofString "read_loosely") [false] zcp:=by
  obtain ⟨f,fd,U,hm⟩:=T.u_read_loosely
  refine ⟨f,fd,zdr,?_,hm,U.kp,U.binds (ps:=zdr) fun _ _ _ _ _ _ us hl=>match us,hl with|[_],_=>rfl,zau⟩
  refine zaB (k:=2) false za9 U zbC rfl rfl fun X C hX hpp hxv hnw hr hx hpo=>?_
  obtain ⟨cG,cH,cw,cpp,cσ,cex,cxv,cnw⟩:=C
  dsimp only at hpp hxv hnw
  subst hpp hxv hnw
  have hnw:(false:Bool)=false:=rfl
  obtain ⟨cdv,A,outer,s,H,E,rfl⟩:=hX
  exact (zad (by exact (zfG (i:=1) zbC.nd rfl (by first|exact Or.inl rfl|exact Or.inr rfl) (show 1∉zbD [false] by decide) (zc1 zaG))) (zad (by exact (zsg (i:=2) zbC.nd rfl (by first|exact Or.inl rfl|exact Or.inr rfl) (show 2∉zbD [false] by decide))) (zad (by exact (znP hpo rfl (zqc (zaa 0)) (zbc (i:=3) zbC.nd rfl (by first|exact Or.inl rfl|exact Or.inr rfl) (show 3∉zbD [false] by decide)) (zai (by exact (zb5 (zro rfl T.g_WORDS.choose_spec.1 T.g_WORDS.choose_spec.2 (zaa 3)) (zad (by exact (zbF (zk0 1 (zqZ rfl T.g_WORDS.choose_spec.1 T.g_WORDS.choose_spec.2 (zaa 3))))) (zai (by exact (zbF (zpw 2))))) (zai (by exact (zb5 (zq3 (zaa 3) (zgv rfl T.g_FIGURES.choose_spec)) (zai (by exact (zbF (zoY 2 3 rfl T.b_int zli (zo0 zam))))) (zai (by exact (zb5 (JW.jt (zjV (zq3 (zaa 3) zb2) (zhb (zmk (zeY 1 rfl T.b_len) zam)))) (zad (by exact (zbq (i:=4) zbC.nd rfl (by first|exact Or.inl rfl|exact Or.inr rfl) (show 4∉zbD [false] by decide) (zib (zaw (zq2 1) (zaw (zp1 2 rfl T.b_tuple zcF) zaG))))) (zai (by exact (zbF (znK 2 4 (zo0 zam)))))) za8))))))))))) (zai (by exact (zay hnw (zjf (JW.jt (zjV (zfJ (zeP hr) (zeY 1 rfl T.b_len) zam) (zhb (zfJ (zeP hr) (zrO 2 rfl T.b_len) zam)))) (ztw 2) zff)))))))
abbrev zkR:List Str:=["n","text","tree"]
abbrev zeN:List Str:=["n","text"]
theorem zfV:zax zkR zeN (zal (top 37)):=⟨rfl,rfl,rfl,by decide +kernel,rfl,by decide +kernel,by decide +kernel⟩
def zcQ:DS:=(za6 (dEx (zae zan (dR (zab 0) dR0))) (za6 (zb6 2 (zm5 (dTB (zcK "str" (zab 1))) (zae zcp (dR (zab 1) dR0)) (dC .non))) (za6 (dIf (zfr (zaU (dTB (zae zei (dR (zab 0) (dR (zab 2) dR0))))) (dTB (dOp (gEq true) (zae (zaP 8) (dR (zab 2) dR0)) (zab 1)))) (zgf 5 (dA (dC (.str (Str.ofString "this is no text of a tree of so many guests"))) dA0)) dNx) (zbi (zab 2)))))
def zbb:FD:=zap false [false,false] 1 zcQ
theorem zhe(T:Tx K mg cls):Dfn false P w K mg base (CXe P w) (xvC cls) 16 (Str.ofString "read_tree") [false,false] zbb:=by
  obtain ⟨f,fd,U,hm⟩:=T.u_read_tree
  refine ⟨f,fd,zeN,?_,hm,U.kp,U.binds (ps:=zeN) fun _ _ _ _ _ _ us hl=>match us,hl with|[_,_],_=>rfl,zau⟩
  refine zaB (k:=15) false za9 U zfV rfl rfl fun X C hX hpp hxv hnw hr hx hpo=>?_
  obtain ⟨cG,cH,cw,cpp,cσ,cex,cxv,cnw⟩:=C
  dsimp only at hpp hxv hnw
  subst hpp hxv hnw
  have hnw:(false:Bool)=false:=rfl
  obtain ⟨cdv,A,outer,s,H,E,rfl⟩:=hX
  exact (zad (by exact (zbF (za7 (zby T) hr (by omega) hx (zag (zaa 0) zar)))) (zad (by exact (zbq (i:=2) zfV.nd rfl (by first|exact Or.inl rfl|exact Or.inr rfl) (show 2∉zbD [false,false] by decide) (zjf (zbN (zcC zoc rfl T.b_isinstance zcv rfl T.b_str zhF (zaa 1))) (za7 (zh1 T) hr (by omega) hx (zag (zaa 1) zar)) zff))) (zad (by exact (zb5 (JW.jt (zhj (zdN (zbN (za7 (zoD T) hr (by omega) hx (zag (zaa 0) (zag (zaa 2) zar))))) (zfh (zgO (zeP hr) (za7 (zes T 8) hr (by omega) hx (zag (zaa 2) zar)) (zaa 1))))) (zai (by exact (zgo hx rfl (T.xc 5 (by decide)).cls T.xm5 rfl (zaw zb2 zaG)))) za8)) (zai (by exact (zay hnw (zaa 2)))))))
end
section
variable{P:Program}{w:World}{K:W.Frag}{mg:Str->Option Value}{base:Heap}{xv:Nat->Value}{cls:Nat->Addr}
abbrev zhD:List Str:=["script","k"]
abbrev zdl:List Str:=["script","k"]
theorem zgT:zax zhD zdl (zal (top 39)):=⟨rfl,rfl,rfl,by decide +kernel,rfl,by decide +kernel,by decide +kernel⟩
def zbJ:DS:=(za6 (dIf (dTB (dOp gLt (zab 1) (dFn zca (dA (zab 0) dA0)))) (zbi (dOp gIx (zab 0) (zab 1))) dNx) (zbi (dC (.int 0))))
def zco:FD:=zap false [false,false] 0 zbJ
theorem zhC(T:Tx K mg cls):Dfn false P w K mg base (CXe P w) (xvC cls) 3 (Str.ofString "_law_cell_at") [false,false] zco:=by
  obtain ⟨f,fd,U,hm⟩:=T.u__law_cell_at
  refine ⟨f,fd,zdl,?_,hm,U.kp,U.binds (ps:=zdl) fun _ _ _ _ _ _ us hl=>match us,hl with|[_,_],_=>rfl,zau⟩
  refine zaB (k:=2) false za9 U zgT rfl rfl fun X C hX hpp hxv hnw hr hx hpo=>?_
  obtain ⟨cG,cH,cw,cpp,cσ,cex,cxv,cnw⟩:=C
  dsimp only at hpp hxv hnw
  subst hpp hxv hnw
  have hnw:(false:Bool)=false:=rfl
  obtain ⟨cdv,A,outer,s,H,E,rfl⟩:=hX
  exact (zad (by exact (zb5 (zqH (zaa 1) (ze6 T.b_len (zaa 0))) (zai (by exact (zay hnw (zcV (zaa 0) (zaa 1))))) za8)) (zai (by exact (zay hnw zam))))
abbrev zjw:List Str:=["script","k","cell"]
abbrev zdW:List Str:=["script","k"]
theorem zfj:zax zjw zdW (zal (top 40)):=⟨rfl,rfl,rfl,by decide +kernel,rfl,by decide +kernel,by decide +kernel⟩
def zcu:DS:=(za6 (zb6 2 (zae zco (dR (zab 0) (dR (zab 1) dR0)))) (za6 (dIf (dTB (dOp gGe (zab 2) (dOp zpg (dC (.int 10)) (dC (.int 18))))) (zfd (zc9 (dA (dOp zhm (zab 2) (dOp zpg (dC (.int 10)) (dC (.int 18)))) (dA (dC (.bl true)) dA0)))) dNx) (zfd (zc9 (dA (dOp zmd (zab 2) (dC (.int 2147483647))) (dA (dC (.bl false)) dA0))))))
def zc3:FD:=zap true [false,false] 1 zcu
theorem zj5(T:Tx K mg cls):Dfn true P w K mg base (CXe P w) (xvC cls) 6 (Str.ofString "_law_state") [false,false] zc3:=by
  obtain ⟨f,fd,U,hm⟩:=T.u__law_state
  refine ⟨f,fd,zdW,?_,hm,U.kp,U.binds (ps:=zdW) fun _ _ _ _ _ _ us hl=>match us,hl with|[_,_],_=>rfl,zau⟩
  refine zaB (k:=5) true za9 U zfj rfl rfl fun X C hX hpp hxv hnw hr hx hpo=>?_
  obtain ⟨cG,cH,cw,cpp,cσ,cex,cxv,cnw⟩:=C
  dsimp only at hpp hxv hnw
  subst hpp hxv hnw
  have hnw:(true:Bool)=true:=rfl
  obtain ⟨cdv,A,outer,s,H,E,rfl⟩:=hX
  exact (zad (by exact (zbq (i:=2) zfj.nd rfl (by first|exact Or.inl rfl|exact Or.inr rfl) (show 2∉zbD [false,false] by decide) (za7 (zhC T) hr (by omega) hx (zag (zaa 0) (zag (zaa 1) zar))))) (zad (by exact (zb5 (zuk (zaa 2) (zq9 zam zam)) (zai (by exact (zkN hnw (zc1 (zaw (zlp (zaa 2) (zq9 zam zam)) (zaw zfb zaG)))))) za8)) (zai (by exact (zkN hnw (zc1 (zaw (zhW (zaa 2) zam) (zaw zfb zaG))))))))
abbrev zkL:List Str:=["state","many","found","stirred"]
abbrev zeD:List Str:=["state","many"]
theorem zdg:zax zkL zeD (zal (top 41)):=⟨rfl,rfl,rfl,by decide +kernel,rfl,by decide +kernel,by decide +kernel⟩
def zeR:DS:=(za6 (dIf (dTB (znm 0 (dC (.int 1)))) (za6 (zb6 2 (dOp zmd (znm 0 (dC (.int 0))) (zab 1))) (za6 (zo4 0 (dOp zp4 (znm 0 (dC (.int 0))) (zab 1)) (dC (.int 0))) (zbi (zab 2)))) dNx) (za6 (zo4 0 (dOp zmd (dOp zb4 (dOp zny (znm 0 (dC (.int 0))) (dC (.int 48271))) (dC (.int 29))) (dC (.int 2147483647))) (dC (.int 0))) (za6 (zb6 3 (dOp zmd (dOp zb4 (dOp zb4 (dOp zny (znm 0 (dC (.int 0))) (znm 0 (dC (.int 0)))) (dOp zny (dC (.int 39373)) (znm 0 (dC (.int 0))))) (dC (.int 7))) (dC (.int 2147483629)))) (za6 (zb6 3 (dOp zmd (dOp zb4 (dOp zny (zab 3) (zab 3)) (dOp zny (dC (.int 16807)) (zab 3))) (dC (.int 2147483587)))) (zbi (dOp zmd (dOp zp4 (zab 3) (dC (.int 8))) (zab 1)))))))
def zac:FD:=zap false [true,false] 2 zeR
theorem zaD(T:Tx K mg cls):Dfn false P w K mg base (CXe P w) (xvC cls) 3 (Str.ofString "_law_take") [true,false] zac:=by
  obtain ⟨f,fd,U,hm⟩:=T.u__law_take
  refine ⟨f,fd,zeD,?_,hm,U.kp,U.binds (ps:=zeD) fun _ _ _ _ _ _ us hl=>match us,hl with|[_,_],_=>rfl,zau⟩
  refine zaB (k:=2) false za9 U zdg rfl rfl fun X C hX hpp hxv hnw hr hx hpo=>?_
  obtain ⟨cG,cH,cw,cpp,cσ,cex,cxv,cnw⟩:=C
  dsimp only at hpp hxv hnw
  subst hpp hxv hnw
  have hnw:(false:Bool)=false:=rfl
  obtain ⟨cdv,A,outer,s,H,E,rfl⟩:=hX
  exact (zad (by exact (zb5 (zbN (zgB 0 (hb:=zam))) (zad (by exact (zbq (i:=2) zdg.nd rfl (by first|exact Or.inl rfl|exact Or.inr rfl) (show 2∉zbD [true,false] by decide) (zhW (zgB 0 (hb:=zam)) (zaa 1)))) (zad (by exact (znY 0 (zqf (zgB 0 (hb:=zam)) (zaa 1)) zam)) (zai (by exact (zay hnw (zaa 2)))))) za8)) (zad (by exact (znY 0 (zhW (zcT (zjX (zgB 0 (hb:=zam)) zam) zam) zam) zam)) (zad (by exact (zbq (i:=3) zdg.nd rfl (by first|exact Or.inl rfl|exact Or.inr rfl) (show 3∉zbD [true,false] by decide) (zhW (zcT (zcT (zjX (zgB 0 (hb:=zam)) (zgB 0 (hb:=zam))) (zjX zam (zgB 0 (hb:=zam)))) zam) zam))) (zad (by exact (zbq (i:=3) zdg.nd rfl (by first|exact Or.inl rfl|exact Or.inr rfl) (show 3∉zbD [true,false] by decide) (zhW (zcT (zjX (zaa 3) (zaa 3)) (zjX zam (zaa 3))) zam))) (zai (by exact (zay hnw (zhW (zqf (zaa 3) zam) (zaa 1)))))))))
abbrev zgl:List Str:=["state","things","left","found"]
abbrev zc6:List Str:=["state","things"]
theorem zcm:zax zgl zc6 (zal (top 42)):=⟨rfl,rfl,rfl,by decide +kernel,rfl,by decide +kernel,by decide +kernel⟩
def zc5:DS:=(za6 (zbO 2 (zoK zk5 (dA (zab 1) dA0))) (za6 (zbO 3 (zc9 dA0)) (za6 (zb1 (dTB (zsk true 2 (dFz (zc9 dA0)))) (dEx (zfO 3 (zhN 2 (zae zac (dRO 0 (dR (zcy 2) dR0)))))) 10) (zbi (ziV 3)))))
def zaL:FD:=zap false [true,false] 2 zc5
theorem zdM(T:Tx K mg cls):Dfn false P w K mg base (CXe P w) (xvC cls) 6 (Str.ofString "_law_mixed_row") [true,false] zaL:=by
  obtain ⟨f,fd,U,hm⟩:=T.u__law_mixed_row
  refine ⟨f,fd,zc6,?_,hm,U.kp,U.binds (ps:=zc6) fun _ _ _ _ _ _ us hl=>match us,hl with|[_,_],_=>rfl,zau⟩
  refine zaB (k:=5) false za9 U zcm rfl rfl fun X C hX hpp hxv hnw hr hx hpo=>?_
  obtain ⟨cG,cH,cw,cpp,cσ,cex,cxv,cnw⟩:=C
  dsimp only at hpp hxv hnw
  subst hpp hxv hnw
  have hnw:(false:Bool)=false:=rfl
  obtain ⟨cdv,A,outer,s,H,E,rfl⟩:=hX
  exact (zad (by exact (zfG (i:=2) zcm.nd rfl (by first|exact Or.inl rfl|exact Or.inr rfl) (show 2∉zbD [true,false] by decide) (ztt T.b_list (zaa 1)))) (zad (by exact (zfG (i:=3) zcm.nd rfl (by first|exact Or.inl rfl|exact Or.inr rfl) (show 3∉zbD [true,false] by decide) (zc1 zaG))) (zad (by exact (zlC 10 hpo (ztg 2 (zeP hr) (zaI (zc1 zaG))) (zai (by exact (zbF (zk0 3 (zoQ 2 (za7 (zaD T) hr (by omega) hx (zb8 0 (zag (zeY 2 rfl T.b_len) zar)))))))))) (zai (by exact (zay hnw (zlH 3)))))))
abbrev zjk:List Str:=["state","n","found"]
abbrev zeq:List Str:=["state","n"]
theorem zfq:zax zjk zeq (zal (top 43)):=⟨rfl,rfl,rfl,by decide +kernel,rfl,by decide +kernel,by decide +kernel⟩
abbrev zd0:List Str:=["state","n","found","guest"]
theorem zgW:zd0.Nodup:=by decide +kernel
def zc2:DS:=(za6 (zb6 2 (dFn zda (dA (dFz (zaH (zcb (zab 1)) (zbz 3) (dTB (dOp (gEq false) (zae zac (dRO 0 (dR (dC (.int 2)) dR0))) (dC (.int 1)))) (zab 3) 1)) dA0))) (za6 (dIf (dTB (dOp (gEq false) (zab 2) (zlg dA0))) (zbi (zlg (dA (zae zac (dRO 0 (dR (zab 1) dR0))) dA0))) dNx) (zbi (zab 2))))
def zbp:FD:=zap false [true,false] 1 zc2
theorem zfW(T:Tx K mg cls):Dfn false P w K mg base (CXe P w) (xvC cls) 6 (Str.ofString "_law_party") [true,false] zbp:=by
  obtain ⟨f,fd,U,hm⟩:=T.u__law_party
  refine ⟨f,fd,zeq,?_,hm,U.kp,U.binds (ps:=zeq) fun _ _ _ _ _ _ us hl=>match us,hl with|[_,_],_=>rfl,zau⟩
  refine zaB (k:=5) false za9 U zfq rfl rfl fun X C hX hpp hxv hnw hr hx hpo=>?_
  obtain ⟨cG,cH,cw,cpp,cσ,cex,cxv,cnw⟩:=C
  dsimp only at hpp hxv hnw
  subst hpp hxv hnw
  have hnw:(false:Bool)=false:=rfl
  obtain ⟨cdv,A,outer,s,H,E,rfl⟩:=hX
  exact (zad (by exact (zbq (i:=2) zfq.nd rfl (by first|exact Or.inl rfl|exact Or.inr rfl) (show 2∉zbD [true,false] by decide) (zgw T.b_tuple (zaI (zce (zek rfl T.b_range (zaa 1)) rfl (N':=zd0) (m:=1) (by kernel_rfl) rfl (zaF (by kernel_rfl)) (zaX (by kernel_rfl)) (zbv (by kernel_rfl)) (fun cl L s H fp G H' w σ=>⟨(zbc (i:=3) zgW rfl (by first|exact Or.inl rfl|exact Or.inr rfl) (show 3∉List.range 3 by decide)),(znz (zfJ (zeP hr) (za7 (zaD T) hr (by omega) (zlr fun _ z=>z) (zb8 0 (zag zam zar))) zam)),(zaa 3)⟩)))))) (zad (by exact (zb5 (zfJ (zeP hr) (zaa 2) (zib zaG)) (zai (by exact (zay hnw (zib (zaw (za7 (zaD T) hr (by omega) hx (zb8 0 (zag (zaa 1) zar))) zaG))))) za8)) (zai (by exact (zay hnw (zaa 2))))))
abbrev zkE:List Str:=["state","row","first"]
abbrev zeC:List Str:=["state","row"]
theorem zge:zax zkE zeC (zal (top 44)):=⟨rfl,rfl,rfl,by decide +kernel,rfl,by decide +kernel,by decide +kernel⟩
def zeX:DS:=(za6 (zb6 2 (zae zac (dRO 0 (dR (dFn zca (dA (zab 1) dA0)) dR0)))) (zbi (dFn zda (dA (dFz (zoK zfY (dA (dFz (znG (zab 1) (dO1 (zab 2)) (dO1 (dOp zb4 (dOp zb4 (zab 2) (dC (.int 1))) (zae zac (dRO 0 (dR (dOp zhm (dFn zca (dA (zab 1) dA0)) (zab 2)) dR0))))))) dA0))) dA0))))
def zbu:FD:=zap false [true,false] 1 zeX
theorem zg2(T:Tx K mg cls):Dfn false P w K mg base (CXe P w) (xvC cls) 6 (Str.ofString "_law_side") [true,false] zbu:=by
  obtain ⟨f,fd,U,hm⟩:=T.u__law_side
  refine ⟨f,fd,zeC,?_,hm,U.kp,U.binds (ps:=zeC) fun _ _ _ _ _ _ us hl=>match us,hl with|[_,_],_=>rfl,zau⟩
  refine zaB (k:=5) false za9 U zge rfl rfl fun X C hX hpp hxv hnw hr hx hpo=>?_
  obtain ⟨cG,cH,cw,cpp,cσ,cex,cxv,cnw⟩:=C
  dsimp only at hpp hxv hnw
  subst hpp hxv hnw
  have hnw:(false:Bool)=false:=rfl
  obtain ⟨cdv,A,outer,s,H,E,rfl⟩:=hX
  exact (zad (by exact (zbq (i:=2) zge.nd rfl (by first|exact Or.inl rfl|exact Or.inr rfl) (show 2∉zbD [true,false] by decide) (za7 (zaD T) hr (by omega) hx (zb8 0 (zag (ze6 T.b_len (zaa 1)) zar))))) (zai (by exact (zay hnw (zgw T.b_tuple (zaI (zp3 rfl T.b_sorted (zaI (zoo (zaa 1) (ziQ (zaa 2)) (ziQ (zcT (zcT (zaa 2) zam) (za7 (zaD T) hr (by omega) hx (zb8 0 (zag (zlp (ze6 T.b_len (zaa 1)) (zaa 2)) zar))))))))))))))
abbrev zhw:List Str:=["state","n","most","row","way","found"]
abbrev zdj:List Str:=["state","n","most"]
theorem zbB:zax zhw zdj (zal (top 45)):=⟨rfl,rfl,rfl,by decide +kernel,rfl,by decide +kernel,by decide +kernel⟩
abbrev zcP:List Str:=["state","n","most","row","way","found","turn"]
theorem zf9:zcP.Nodup:=by decide +kernel
abbrev zcL:List Str:=["state","n","most","row","way","found","party"]
theorem zfF:zcL.Nodup:=by decide +kernel
def zdm:DS:=(za6 (zb6 3 (zae zaL (dRO 0 (dR (dFz (zi0 (zab 1))) dR0)))) (za6 (zb6 4 (zae zac (dRO 0 (dR (dC (.int 4)) dR0)))) (za6 (zbO 5 (zaH (zcb (zae zac (dRO 0 (dR (dOp zb4 (zab 2) (dC (.int 1))) dR0)))) (zbz 6) dTT (zae zbu (dRO 0 (dR (zab 3) dR0))) 1)) (za6 (dIf (ze8 (dTB (dOp (gEq false) (zab 4) (dC (.int 1)))) (dTB (dOp gLt (zcy 5) (zab 2)))) (dEx (zlZ 5 (zae zac (dRO 0 (dR (dOp zb4 (zcy 5) (dC (.int 1))) dR0))) (zae zbp (dRO 0 (dR (zab 1) dR0))))) dNx) (za6 (dIf (dTB (dOp gGt (zab 4) (dC (.int 1)))) (zbO 5 (zaH (dIt (ziV 5)) (zbz 6) dTT (dOp gIx (dFz (zc9 (dA (zae zbu (dRO 0 (dR (zab 3) dR0))) (dA (zae zbp (dRO 0 (dR (zab 1) dR0))) dA0)))) (zae zac (dRO 0 (dR (dC (.int 2)) dR0)))) 1)) dNx) (zbi (ziV 5)))))))
def zbL:FD:=zap false [true,false,false] 3 zdm
theorem zhx(T:Tx K mg cls):Dfn false P w K mg base (CXe P w) (xvC cls) 9 (Str.ofString "_law_parties") [true,false,false] zbL:=by
  obtain ⟨f,fd,U,hm⟩:=T.u__law_parties
  refine ⟨f,fd,zdj,?_,hm,U.kp,U.binds (ps:=zdj) fun _ _ _ _ _ _ us hl=>match us,hl with|[_,_,_],_=>rfl,zau⟩
  refine zaB (k:=8) false za9 U zbB rfl rfl fun X C hX hpp hxv hnw hr hx hpo=>?_
  obtain ⟨cG,cH,cw,cpp,cσ,cex,cxv,cnw⟩:=C
  dsimp only at hpp hxv hnw
  subst hpp hxv hnw
  have hnw:(false:Bool)=false:=rfl
  obtain ⟨cdv,A,outer,s,H,E,rfl⟩:=hX
  exact (zad (by exact (zbq (i:=3) zbB.nd rfl (by first|exact Or.inl rfl|exact Or.inr rfl) (show 3∉zbD [true,false,false] by decide) (za7 (zdM T) hr (by omega) hx (zb8 0 (zag (zaI (zmR rfl rfl T.b_list rfl T.b_range (zaa 1))) zar))))) (zad (by exact (zbq (i:=4) zbB.nd rfl (by first|exact Or.inl rfl|exact Or.inr rfl) (show 4∉zbD [true,false,false] by decide) (za7 (zaD T) hr (by omega) hx (zb8 0 (zag zam zar))))) (zad (by exact (zhn (i:=5) zbB.nd rfl (by first|exact Or.inl rfl|exact Or.inr rfl) (show 5∉zbD [true,false,false] by decide) (zek rfl T.b_range (za7 (zaD T) hr (by omega) hx (zb8 0 (zag (zcT (zaa 2) zam) zar)))) rfl (N':=zcP) (m:=1) (by kernel_rfl) rfl (zaF (by kernel_rfl)) (zaX (by kernel_rfl)) (zbv (by kernel_rfl)) (fun cl L s H fp G H' w σ=>⟨(zbc (i:=6) zf9 rfl (by first|exact Or.inl rfl|exact Or.inr rfl) (show 6∉List.range 6 by decide)),zb9,(za7 (zg2 T) hr (by omega) (zlr fun _ z=>z) (zb8 0 (zag (zaa 3) zar)))⟩))) (zad (by exact (zb5 (JW.jt (zjV (zfJ (zeP hr) (zaa 4) zam) (zhb (zqH (zeY 5 rfl T.b_len) (zaa 2))))) (zai (by exact (zbF (zri 5 (za7 (zaD T) hr (by omega) hx (zb8 0 (zag (zcT (zeY 5 rfl T.b_len) zam) zar))) (za7 (zfW T) hr (by omega) hx (zb8 0 (zag (zaa 1) zar))))))) za8)) (zad (by exact (zb5 (zmk (zaa 4) zam) (zai (by exact (zhn (i:=5) zbB.nd rfl (by first|exact Or.inl rfl|exact Or.inr rfl) (show 5∉zbD [true,false,false] by decide) (zcX (zlH 5)) rfl (N':=zcL) (m:=1) (by kernel_rfl) rfl (zaF (by kernel_rfl)) (zaX (by kernel_rfl)) (zbv (by kernel_rfl)) (fun cl L s H fp G H' w σ=>⟨(zbc (i:=6) zfF rfl (by first|exact Or.inl rfl|exact Or.inr rfl) (show 6∉List.range 6 by decide)),zb9,(zcV (zaI (zc1 (zaw (za7 (zg2 T) hr (by omega) (zlr fun _ z=>z) (zb8 0 (zag (zaa 3) zar))) (zaw (za7 (zfW T) hr (by omega) (zlr fun _ z=>z) (zb8 0 (zag (zaa 1) zar))) zaG)))) (za7 (zaD T) hr (by omega) (zlr fun _ z=>z) (zb8 0 (zag zam zar))))⟩)))) za8)) (zai (by exact (zay hnw (zlH 5)))))))))
abbrev zkH:List Str:=["state","guests","row","many","pieces","guest","branches"]
abbrev zdB:List Str:=["state","guests"]
theorem zbZ:zax zkH zdB (zal (top 46)):=⟨rfl,rfl,rfl,by decide +kernel,rfl,by decide +kernel,by decide +kernel⟩
abbrev zdL:List Str:=["state","guests","row","many","pieces","%5","branches","guest"]
theorem zh2:zdL.Nodup:=by decide +kernel
abbrev zdK:List Str:=["state","guests","row","many","pieces","guest","branches","piece"]
theorem zh6:zdK.Nodup:=by decide +kernel
def zcn(F_self:FD):DS:=(za6 (dIf (dTB (dOp (gEq false) (dFn zca (dA (zab 1) dA0)) (dC (.int 1)))) (zbi (dOp gIx (zab 1) (dC (.int 0)))) dNx) (za6 (zb6 2 (zae zaL (dRO 0 (dR (zab 1) dR0)))) (za6 (zb6 3 (dOp zb4 (dC (.int 2)) (zae zac (dRO 0 (dR (dOp zhm (dFn zca (dA (zab 2) dA0)) (dC (.int 1))) dR0))))) (za6 (zlF 4 (dIt (dFz (znG (zab 2) dO0 (dO1 (zab 3))))) (zbz 7) dTT (zc9 (dA (zab 7) dA0)) 1) (za6 (zmx (dIt (dFz (znG (zab 2) (dO1 (zab 3)) dO0))) (zbz 5) (dEx (zg0 4 5 (zae zac (dRO 0 (dR (zab 3) dR0)))))) (za6 (zb6 6 (dFn zda (dA (dFz (zaH (dIt (ziV 4)) (zbz 7) dTT (zae F_self (dRO 0 (dR (zab 7) dR0))) 1)) dA0))) (za6 (dIf (ze8 (dTB (dOp gGt (zab 3) (dC (.int 2)))) (dTB (dOp (gEq false) (zae zac (dRO 0 (dR (dC (.int 2)) dR0))) (dC (.int 1))))) (zbi (zlg (dA (dC (.str (Str.ofString "row"))) (dA (zab 6) dA0)))) dNx) (zbi (zlg (dA (dC (.str (Str.ofString "any"))) (dA (zab 6) dA0)))))))))))
def zaM:Nat->FD
 |0=>fun _=>.no
 |n+1=>zap false [true,false] 5 (zcn (zaM n))
theorem zg5(T:Tx K mg cls):∀ n,Dfn false P w K mg base (CXe P w) (xvC cls) (n+8) (Str.ofString "_law_tree") [true,false] (zaM n)
 |0=>by
  obtain ⟨f,fd,U,hm⟩:=T.u__law_tree
  exact zgt rfl U hm (U.binds (ps:=zdB) fun _ _ _ _ _ _ us hl=>match us,hl with|[_,_],_=>rfl)
 |n+1=>by
  have DS:=zg5 T n
  obtain ⟨f,fd,U,hm⟩:=T.u__law_tree
  refine ⟨f,fd,zdB,?_,hm,U.kp,U.binds (ps:=zdB) fun _ _ _ _ _ _ us hl=>match us,hl with|[_,_],_=>rfl,zau⟩
  refine zgi.mono (j:=(n+8)+1) ?_ (by omega)
  refine zaB (k:=n+8) false za9 U zbZ rfl rfl fun X C hX hpp hxv hnw hr hx hpo=>?_
  obtain ⟨cG,cH,cw,cpp,cσ,cex,cxv,cnw⟩:=C
  dsimp only at hpp hxv hnw
  subst hpp hxv hnw
  have hnw:(false:Bool)=false:=rfl
  obtain ⟨cdv,A,outer,s,H,E,rfl⟩:=hX
  exact (zad (by exact (zb5 (zfJ (zeP hr) (ze6 T.b_len (zaa 1)) zam) (zai (by exact (zay hnw (zcV (zaa 1) zam)))) za8)) (zad (by exact (zbq (i:=2) zbZ.nd rfl (by first|exact Or.inl rfl|exact Or.inr rfl) (show 2∉zbD [true,false] by decide) (za7 (zdM T) hr (by omega) hx (zb8 0 (zag (zaa 1) zar))))) (zad (by exact (zbq (i:=3) zbZ.nd rfl (by first|exact Or.inl rfl|exact Or.inr rfl) (show 3∉zbD [true,false] by decide) (zcT zam (za7 (zaD T) hr (by omega) hx (zb8 0 (zag (zlp (ze6 T.b_len (zaa 2)) zam) zar)))))) (zad (by exact (zkD (i:=4) zbZ.nd rfl (by first|exact Or.inl rfl|exact Or.inr rfl) (show 4∉zbD [true,false] by decide) (zcX (zaI (zoo (zaa 2) zoe (ziQ (zaa 3))))) rfl (N':=zdL) (m:=1) (by kernel_rfl) rfl (zaF (by kernel_rfl)) (zaX (by kernel_rfl)) (zbv (by kernel_rfl)) (fun cl L s H fp G H' w σ=>⟨(zbc (i:=7) zh2 rfl (by first|exact Or.inl rfl|exact Or.inr rfl) (show 7∉List.range 7 by decide)),zb9,(zc1 (zaw (zaa 7) zaG))⟩))) (zad (by exact (znP hpo rfl (zcX (zaI (zoo (zaa 2) (ziQ (zaa 3)) zoe))) (zbc (i:=5) zbZ.nd rfl (by first|exact Or.inl rfl|exact Or.inr rfl) (show 5∉zbD [true,false] by decide)) (zai (by exact (zbF (znK 4 5 (za7 (zaD T) hr (by omega) hx (zb8 0 (zag (zaa 3) zar))))))))) (zad (by exact (zbq (i:=6) zbZ.nd rfl (by first|exact Or.inl rfl|exact Or.inr rfl) (show 6∉zbD [true,false] by decide) (zgw T.b_tuple (zaI (zce (zcX (zlH 4)) rfl (N':=zdK) (m:=1) (by kernel_rfl) rfl (zaF (by kernel_rfl)) (zaX (by kernel_rfl)) (zbv (by kernel_rfl)) (fun cl L s H fp G H' w σ=>⟨(zbc (i:=7) zh6 rfl (by first|exact Or.inl rfl|exact Or.inr rfl) (show 7∉List.range 7 by decide)),zb9,(za7 DS hr (Nat.le_refl _) (zlr fun _ z=>z) (zb8 0 (zag (zaa 7) zar)))⟩)))))) (zad (by exact (zb5 (JW.jt (zjV (zmk (zaa 3) zam) (zhb (zfJ (zeP hr) (za7 (zaD T) hr (by omega) hx (zb8 0 (zag zam zar))) zam)))) (zai (by exact (zay hnw (zib (zaw zb2 (zaw (zaa 6) zaG)))))) za8)) (zai (by exact (zay hnw (zib (zaw zb2 (zaw (zaa 6) zaG)))))))))))))
end
section
variable{P:Program}{w:World}{K:W.Frag}{mg:Str->Option Value}{base:Heap}{xv:Nat->Value}{cls:Nat->Addr}
abbrev zkn:List Str:=["found","due"]
abbrev zdC:List Str:=["found","due"]
theorem zjH:zax zkn zdC (zal (top 47)):=⟨rfl,rfl,rfl,by decide +kernel,rfl,by decide +kernel,by decide +kernel⟩
abbrev zdJ:List Str:=["found","due","one","other"]
theorem zh0:zdJ.Nodup:=by decide +kernel
def zbR(F_self:FD):DS:=(za6 (dIf (dTB (zrU "tuple" "list" (zab 1))) (za6 (dIf (zfr (dTB (dOp (gEq true) (zcK "tuple" (zab 0)) (zcK "tuple" (zab 1)))) (dTB (dOp (gEq true) (zcK "list" (zab 0)) (zcK "list" (zab 1))))) (zbi (dC (.bl false))) dNx) (za6 (dIf (dTB (dOp (gEq true) (dFn zca (dA (zab 0) dA0)) (dFn zca (dA (zab 1) dA0)))) (zbi (dC (.bl false))) dNx) (zbi (dFn zlE (dA (dFz (zaH (zk8 (zab 0) (zab 1)) (ziv 2 3) dTT (zae F_self (dR (zab 2) (dR (zab 3) dR0))) 2)) dA0))))) dNx) (zbi (zh3 (dOp (gEq false) (zab 0) (zab 1)) (dOp (gEq false) (zcK "bool" (zab 0)) (zcK "bool" (zab 1))))))
def zas:Nat->FD
 |0=>fun _=>.no
 |n+1=>zap false [false,false] 0 (zbR (zas n))
theorem zeE(T:Tx K mg cls):∀ n,Dfn false P w K mg base (CXe P w) (xvC cls) (n+2) (Str.ofString "_law_same") [false,false] (zas n)
 |0=>by
  obtain ⟨f,fd,U,hm⟩:=T.u__law_same
  exact zgt rfl U hm (U.binds (ps:=zdC) fun _ _ _ _ _ _ us hl=>match us,hl with|[_,_],_=>rfl)
 |n+1=>by
  have DS:=zeE T n
  obtain ⟨f,fd,U,hm⟩:=T.u__law_same
  refine ⟨f,fd,zdC,?_,hm,U.kp,U.binds (ps:=zdC) fun _ _ _ _ _ _ us hl=>match us,hl with|[_,_],_=>rfl,zau⟩
  refine zgi.mono (j:=(n+2)+1) ?_ (by omega)
  refine zaB (k:=n+2) false za9 U zjH rfl rfl fun X C hX hpp hxv hnw hr hx hpo=>?_
  obtain ⟨cG,cH,cw,cpp,cσ,cex,cxv,cnw⟩:=C
  dsimp only at hpp hxv hnw
  subst hpp hxv hnw
  have hnw:(false:Bool)=false:=rfl
  obtain ⟨cdv,A,outer,s,H,E,rfl⟩:=hX
  exact (zad (by exact (zb5 (zbN (zrF zcU zgn rfl T.b_isinstance zcv rfl T.b_tuple zcF rfl T.b_list zgP (zaa 1))) (zad (by exact (zb5 (JW.jt (zhj (zgO (zeP hr) (zcC zcU rfl T.b_isinstance zcv rfl T.b_tuple zcF (zaa 0)) (zcC zcU rfl T.b_isinstance zcv rfl T.b_tuple zcF (zaa 1))) (zfh (zgO (zeP hr) (zcC zgn rfl T.b_isinstance zcv rfl T.b_list zgP (zaa 0)) (zcC zgn rfl T.b_isinstance zcv rfl T.b_list zgP (zaa 1)))))) (zai (by exact (zay hnw zfb))) za8)) (zad (by exact (zb5 (zgO (zeP hr) (ze6 T.b_len (zaa 0)) (ze6 T.b_len (zaa 1))) (zai (by exact (zay hnw zfb))) za8)) (zai (by exact (zay hnw (zmO rfl T.b_all (zaI (zce (zqP rfl T.b_zip (zaa 0) (zaa 1)) rfl (N':=zdJ) (m:=2) (by kernel_rfl) rfl (zaF (by kernel_rfl)) (zaX (by kernel_rfl)) (zbv (by kernel_rfl)) (fun cl L s H fp G H' w σ=>⟨(zrX (i:=2) (j:=3) rfl zh0 rfl rfl (by first|exact Or.inl rfl|exact Or.inr rfl) (by first|exact Or.inl rfl|exact Or.inr rfl) (show 2∉List.range 2 by decide) (show 3∉List.range 2 by decide)),zb9,(za7 DS hr (Nat.le_refl _) (zlr fun _ z=>z) (zag (zaa 2) (zag (zaa 3) zar)))⟩))))))))) za8)) (zai (by exact (zay hnw (zfX (zmt (zeP hr) (zaa 0) (zaa 1)) (zfU (zmt (zeP hr) (zcC zi5 rfl T.b_isinstance zcv rfl T.b_bool zkV (zaa 0)) (zcC zi5 rfl T.b_isinstance zcv rfl T.b_bool zkV (zaa 1)))))))))
abbrev zcs:List Str:=["call","error","e","kinds"]
theorem zaJ:zax zcs ["call"] (zal (top 48)):=⟨rfl,rfl,rfl,by decide +kernel,rfl,by decide +kernel,by decide +kernel⟩
abbrev zcM:List Str:=["call","error","e","kinds","k"]
theorem zf6:zcM.Nodup:=by decide +kernel
def zaC(n:Nat)(Cc:Addr):DS:=(za6 (zb6 1 (dC .non)) (za6 (zmE 0 1 2 Cc) (za6 (zb6 3 (dFz (zc9 (dA (zh9 1 Cc (n == 0)) (dA (zh9 1 Cc (n == 1)) (dA (zh9 1 Cc (n == 2)) dA0)))))) (za6 (zb6 3 (dFz (znH (zab 3) (dFz (zc9 (dA (zh9 1 Cc (n == 3)) (dA (zh9 1 Cc (n == 4)) (dA (zh9 1 Cc (n == 5)) dA0)))))))) (za6 (zb6 3 (dFz (znH (zab 3) (dFz (zc9 (dA (zh9 1 Cc (n == 6)) (dA (zh9 1 Cc (n == 7)) dA0))))))) (za6 (dIf (zaU (dTB (zh9 1 Cc true))) dNo dNx) (zfd (zaH (zcb (dC (.int 8))) (zbz 4) (dTB (dOp gIx (zab 3) (zab 4))) (zab 4) 1))))))))
theorem zdo(T:Tx K mg cls){C:Cn}{k:Nat}{f:Addr}(XR:Cx)(CR:Cn)(n:Nat)(Fa:Addr)(hn:n<8)(hX:∃ cdv A outer s H E,XR=zkX (CXe P w) P w K mg base zcs (Str.ofString "_law_refused") (zal (top 48)) f cdv A outer s H E)(hC:∃ G H,CR=zoP C G H (L2.start zcs [.ref Fa]))(hr:zdV (k+1) XR.A)
  (hF:∀ pins σ H s,L2.Inv XR pins σ H s->zcf CR.H₀ H->codeAny (model XR.prog XR.w) XR.A (.call (.ref Fa) ⟨[],[]⟩) (fun r s'=>∃ e,r=.error e/\CXf XR.prog XR.w XR.stack H s (EL (cls n) H) e s') s)
  (hFn:∀ pins σ H s,L2.Inv XR pins σ H s->zcf CR.H₀ H->W.FnAt Fa s.heap):JSs XR CR (zc7 (top 48)) (zaC n (cls n)):=by
  obtain ⟨cdv,A,outer,s,H,E,rfl⟩:=hX
  obtain ⟨G,H',rfl⟩:=hC
  obtain ⟨Cs,xs,hmS,hsub⟩:=T.xS
  have hnw:(zoP C G H' (L2.start zcs [.ref Fa])).nw=true:=rfl
  exact (zad (by exact (zbq (i:=1) zaJ.nd rfl (by first|exact Or.inl rfl|exact Or.inr rfl) (show 1∉([0]:List Nat) by decide) zff)) (zad (by exact (zmG rfl zaJ.nd rfl rfl rfl rfl rfl hF hFn xs (hsub n hn) hmS rfl rfl rfl rfl (by decide) (by decide) (by decide) rfl rfl rfl)) (zad (by exact (zbq (i:=3) zaJ.nd rfl (by first|exact Or.inl rfl|exact Or.inr rfl) (show 3∉([0]:List Nat) by decide) (zaI (zc1 (zaw (zgb 1 (T.xc n hn) (T.xi n 0 hn (by decide)) rfl T.b_isinstance rfl T.xm0) (zaw (zgb 1 (T.xc n hn) (T.xi n 1 hn (by decide)) rfl T.b_isinstance rfl T.xm1) (zaw (zgb 1 (T.xc n hn) (T.xi n 2 hn (by decide)) rfl T.b_isinstance rfl T.xm2) zaG))))))) (zad (by exact (zbq (i:=3) zaJ.nd rfl (by first|exact Or.inl rfl|exact Or.inr rfl) (show 3∉([0]:List Nat) by decide) (zaI (by refine zqp (zaa 3) ?_;exact (zaI (zc1 (zaw (zgb 1 (T.xc n hn) (T.xi n 3 hn (by decide)) rfl T.b_isinstance rfl T.xm3) (zaw (zgb 1 (T.xc n hn) (T.xi n 4 hn (by decide)) rfl T.b_isinstance rfl T.xm4) (zaw (zgb 1 (T.xc n hn) (T.xi n 5 hn (by decide)) rfl T.b_isinstance rfl T.xm5) zaG))))))))) (zad (by exact (zbq (i:=3) zaJ.nd rfl (by first|exact Or.inl rfl|exact Or.inr rfl) (show 3∉([0]:List Nat) by decide) (zaI (by refine zqp (zaa 3) ?_;exact (zaI (zc1 (zaw (zgb 1 (T.xc n hn) (T.xi n 6 hn (by decide)) rfl T.b_isinstance rfl T.xm6) (zaw (zgb 1 (T.xc n hn) (T.xi n 7 hn (by decide)) rfl T.b_isinstance rfl T.xm7) zaG)))))))) (zad (by exact (zb5 (zdN (zbN (zr3 1 (T.xc n hn) (T.xV n hn) rfl T.b_isinstance rfl T.b_ValueError rfl))) (zai zoR) za8)) (zai (by exact (zkN hnw (zce (zek rfl T.b_range zam) rfl (N':=zcM) (m:=1) (by kernel_rfl) rfl (zaF (by kernel_rfl)) (zaX (by kernel_rfl)) (zbv (by kernel_rfl)) (fun cl L s H fp G H' w σ=>⟨(zbc (i:=4) zf6 rfl (by first|exact Or.inl rfl|exact Or.inr rfl) (show 4∉List.range 4 by decide)),(znz (zbN (zcV (zaa 3) (zaa 4)))),(zaa 4)⟩)))))))))))
theorem zc8:∀(n:Nat)(Cc:Addr),n<8->∃ ρ,zaC n Cc (some .opq::List.replicate 3 none)=.ok (.rt (.lst [.int n]),ρ):=by
 intro n Cc h
 match n,h with
 |0,_=>exact ⟨_,by simp[zaC,za6,zmE,zh9,zb6,zbO,dFz,zc9,dA,dA0,dC,znH,zab,ziV,dIf,zaU,dTB,dNx,dNo,zfd,zaH,zb7,zcb,zaR,zbz,dOp,gIx,ixN,zd2,R.bind];try rfl⟩
 |1,_=>exact ⟨_,by simp[zaC,za6,zmE,zh9,zb6,zbO,dFz,zc9,dA,dA0,dC,znH,zab,ziV,dIf,zaU,dTB,dNx,dNo,zfd,zaH,zb7,zcb,zaR,zbz,dOp,gIx,ixN,zd2,R.bind];try rfl⟩
 |2,_=>exact ⟨_,by simp[zaC,za6,zmE,zh9,zb6,zbO,dFz,zc9,dA,dA0,dC,znH,zab,ziV,dIf,zaU,dTB,dNx,dNo,zfd,zaH,zb7,zcb,zaR,zbz,dOp,gIx,ixN,zd2,R.bind];try rfl⟩
 |3,_=>exact ⟨_,by simp[zaC,za6,zmE,zh9,zb6,zbO,dFz,zc9,dA,dA0,dC,znH,zab,ziV,dIf,zaU,dTB,dNx,dNo,zfd,zaH,zb7,zcb,zaR,zbz,dOp,gIx,ixN,zd2,R.bind];try rfl⟩
 |4,_=>exact ⟨_,by simp[zaC,za6,zmE,zh9,zb6,zbO,dFz,zc9,dA,dA0,dC,znH,zab,ziV,dIf,zaU,dTB,dNx,dNo,zfd,zaH,zb7,zcb,zaR,zbz,dOp,gIx,ixN,zd2,R.bind];try rfl⟩
 |5,_=>exact ⟨_,by simp[zaC,za6,zmE,zh9,zb6,zbO,dFz,zc9,dA,dA0,dC,znH,zab,ziV,dIf,zaU,dTB,dNx,dNo,zfd,zaH,zb7,zcb,zaR,zbz,dOp,gIx,ixN,zd2,R.bind];try rfl⟩
 |6,_=>exact ⟨_,by simp[zaC,za6,zmE,zh9,zb6,zbO,dFz,zc9,dA,dA0,dC,znH,zab,ziV,dIf,zaU,dTB,dNx,dNo,zfd,zaH,zb7,zcb,zaR,zbz,dOp,gIx,ixN,zd2,R.bind];try rfl⟩
 |7,_=>exact ⟨_,by simp[zaC,za6,zmE,zh9,zb6,zbO,dFz,zc9,dA,dA0,dC,znH,zab,ziV,dIf,zaU,dTB,dNx,dNo,zfd,zaH,zb7,zcb,zaR,zbz,dOp,gIx,ixN,zd2,R.bind];try rfl⟩
abbrev zeU:List Str:=["parties","words"]
abbrev zbQ:List Str:=["parties"]
theorem zcB:zax zeU zbQ (zal (top 49)):=⟨rfl,rfl,rfl,by decide +kernel,rfl,by decide +kernel,by decide +kernel⟩
abbrev zbY:List Str:=["parties","words","party"]
theorem zdQ:zbY.Nodup:=by decide +kernel
abbrev zbV:List Str:=["parties","words","party","guest"]
theorem zdT:zbV.Nodup:=by decide +kernel
def zbS:DS:=(za6 (zb6 1 (dFz (zaH (dIt (zab 0)) (zbz 2) dTT (ze7 (dC (.str (Str.ofString ","))) (dFz (zaH (dIt (zab 2)) (zbz 3) dTT (dFn zdF (dA (zab 3) dA0)) 1))) 1))) (zbi (zuE (ze7 (dC (.str (Str.ofString " "))) (zab 1)) (dC (.str (Str.ofString "none"))))))
def zaQ:FD:=zap false [false] 1 zbS
theorem zeS(T:Tx K mg cls):Dfn false P w K mg base (CXe P w) (xvC cls) 3 (Str.ofString "_law_parties_text") [false] zaQ:=by
  obtain ⟨f,fd,U,hm⟩:=T.u__law_parties_text
  refine ⟨f,fd,zbQ,?_,hm,U.kp,U.binds (ps:=zbQ) fun _ _ _ _ _ _ us hl=>match us,hl with|[_],_=>rfl,zau⟩
  refine zaB (k:=2) false za9 U zcB rfl rfl fun X C hX hpp hxv hnw hr hx hpo=>?_
  obtain ⟨cG,cH,cw,cpp,cσ,cex,cxv,cnw⟩:=C
  dsimp only at hpp hxv hnw
  subst hpp hxv hnw
  have hnw:(false:Bool)=false:=rfl
  obtain ⟨cdv,A,outer,s,H,E,rfl⟩:=hX
  exact (zad (by exact (zhP (i:=1) zcB.nd rfl (by first|exact Or.inl rfl|exact Or.inr rfl) (show 1∉zbD [false] by decide) (zcX (zaa 0)) rfl (N':=zbY) (m:=1) (by kernel_rfl) rfl (zaF (by kernel_rfl)) (zaX (by kernel_rfl)) (zbv (by kernel_rfl)) (fun cl L s H fp G H' w σ=>⟨(zbc (i:=2) zdQ rfl (by first|exact Or.inl rfl|exact Or.inr rfl) (show 2∉List.range 2 by decide)),zb9,(zfK zb2 (zaI (zce (zcX (zaa 2)) rfl (N':=zbV) (m:=1) (by kernel_rfl) rfl (zaF (by kernel_rfl)) (zaX (by kernel_rfl)) (zbv (by kernel_rfl)) (fun cl L s H fp G H' w σ=>⟨(zbc (i:=3) zdT rfl (by first|exact Or.inl rfl|exact Or.inr rfl) (show 3∉List.range 3 by decide)),zb9,(zi9 rfl T.b_str zhF (zaa 3))⟩))))⟩))) (zai (by exact (zay hnw (ztA (zfK zb2 (zaa 1)) (zfU zb2))))))
abbrev zgh:List Str:=["tree","signs"]
abbrev zbP:List Str:=["tree"]
theorem zdy:zax zgh zbP (zal (top 50)):=⟨rfl,rfl,rfl,by decide +kernel,rfl,by decide +kernel,by decide +kernel⟩
abbrev zcz:List Str:=["tree","signs","branch"]
theorem zeO:zcz.Nodup:=by decide +kernel
def zaY(F_self:FD):DS:=(za6 (dIf (dTB (zcK "int" (zab 0))) (zbi (dFn zdF (dA (zab 0) dA0))) dNx) (za6 (zb6 1 (zua (Str.ofString "any") (Str.ofString "row") (Str.ofString "()") (Str.ofString "[]") (dOp gIx (zab 0) (dC (.int 0))))) (zbi (dOp zjl (dOp zjl (dOp zm0 (zab 1) (dC (.int 0))) (ze7 (dC (.str (Str.ofString " "))) (dFz (zaH (dIt (dOp gIx (zab 0) (dC (.int 1)))) (zbz 2) dTT (zae F_self (dR (zab 2) dR0)) 1)))) (dOp zm0 (zab 1) (dC (.int 1)))))))
def za4:Nat->FD
 |0=>fun _=>.no
 |n+1=>zap false [false] 1 (zaY (za4 n))
theorem zdO(T:Tx K mg cls):∀ n,Dfn false P w K mg base (CXe P w) (xvC cls) (n+2) (Str.ofString "_law_tree_text") [false] (za4 n)
 |0=>by
  obtain ⟨f,fd,U,hm⟩:=T.u__law_tree_text
  exact zgt rfl U hm (U.binds (ps:=zbP) fun _ _ _ _ _ _ us hl=>match us,hl with|[_],_=>rfl)
 |n+1=>by
  have DS:=zdO T n
  obtain ⟨f,fd,U,hm⟩:=T.u__law_tree_text
  refine ⟨f,fd,zbP,?_,hm,U.kp,U.binds (ps:=zbP) fun _ _ _ _ _ _ us hl=>match us,hl with|[_],_=>rfl,zau⟩
  refine zgi.mono (j:=(n+2)+1) ?_ (by omega)
  refine zaB (k:=n+2) false za9 U zdy rfl rfl fun X C hX hpp hxv hnw hr hx hpo=>?_
  obtain ⟨cG,cH,cw,cpp,cσ,cex,cxv,cnw⟩:=C
  dsimp only at hpp hxv hnw
  subst hpp hxv hnw
  have hnw:(false:Bool)=false:=rfl
  obtain ⟨cdv,A,outer,s,H,E,rfl⟩:=hX
  exact (zad (by exact (zb5 (zbN (zcC znW rfl T.b_isinstance zcv rfl T.b_int zli (zaa 0))) (zai (by exact (zay hnw (zi9 rfl T.b_str zhF (zaa 0))))) za8)) (zad (by exact (zbq (i:=1) zdy.nd rfl (by first|exact Or.inl rfl|exact Or.inr rfl) (show 1∉zbD [false] by decide) (zsw (by decide) (zcV (zaa 0) zam)))) (zai (by exact (zay hnw (znj (znj (znp (zaa 1) zam) (zfK zb2 (zaI (zce (zcX (zcV (zaa 0) zam)) rfl (N':=zcz) (m:=1) (by kernel_rfl) rfl (zaF (by kernel_rfl)) (zaX (by kernel_rfl)) (zbv (by kernel_rfl)) (fun cl L s H fp G H' w σ=>⟨(zbc (i:=2) zeO rfl (by first|exact Or.inl rfl|exact Or.inr rfl) (show 2∉List.range 2 by decide)),zb9,(za7 DS hr (Nat.le_refl _) (zlr fun _ z=>z) (zag (zaa 2) zar))⟩))))) (znp (zaa 1) zam)))))))
end
section
variable{P:Program}{w:World}{K:W.Frag}{mg:Str->Option Value}{base:Heap}{xv:Nat->Value}{cls:Nat->Addr}
abbrev zuf:List Str:=["script","k","state","n","parties","tree","texts","bad","<tab>"]
abbrev zso:List Str:=["script"]
theorem zfS:zax zuf zso (zal (top 51)):=⟨rfl,rfl,rfl,by decide +kernel,rfl,by decide +kernel,by decide +kernel⟩
def zkP:DS:=(za6 (zmx (zcb (dFn ziL (dA (dC (.int 1)) (dA (dFn zi6 (dA (dFn zca (dA (zab 0) dA0)) (dA (dC (.int 8)) dA0))) dA0)))) (zbz 1) (za6 (zbO 2 (zgc zc3 (dR (zab 0) (dR (zab 1) dR0)))) (za6 (zb6 3 (dOp zb4 (dC (.int 1)) (zae zac (dRO 2 (dR (dC (.int 7)) dR0))))) (za6 (zb6 4 (zae zbL (dRO 2 (dR (zab 3) (dR (dC (.int 8)) dR0))))) (za6 (zb6 5 (zae (zaM 8) (dRO 2 (dR (dFz (zi0 (zab 3))) dR0)))) (za6 (zb6 6 (dFz (zc9 (dA (zae zaQ (dR (zab 4) dR0)) (dA (zae (za4 8) (dR (zab 5) dR0)) dA0))))) (za6 (dIf (zfr (dTB (dOp (gEq true) (zae zaq (dR (zab 3) (dR (zab 4) dR0))) (dOp gIx (zab 6) (dC (.int 0))))) (dTB (dOp (gEq true) (zae zcJ (dR (zab 3) (dR (zab 5) dR0))) (dOp gIx (zab 6) (dC (.int 1)))))) (zbi (dC (.bl false))) dNx) (za6 (dIf (zaU (dTB (zae (zas 16) (dR (zae zaO (dR (zab 3) (dR (dOp gIx (zab 6) (dC (.int 0))) dR0))) (dR (zab 4) dR0))))) (zbi (dC (.bl false))) dNx) (za6 (dIf (zaU (dTB (zae (zas 16) (dR (zae zbb (dR (zab 3) (dR (dOp gIx (zab 6) (dC (.int 1))) dR0))) (dR (zab 5) dR0))))) (zbi (dC (.bl false))) dNx) (za6 (zb6 7 (dOp gIx (dC (.lst [(.int 0),(.int 8),(.bl true),.non,(.str (Str.ofString "1"))])) (zae zac (dRO 2 (dR (dC (.int 5)) dR0))))) (za6 (dIf (dTB (dOp (gEq true) (dFz (zm3 8 zgZ (zae zaq (dR (zab 7) (dR (zab 4) dR0))))) (dC (.lst [(.int 0)])))) (zbi (dC (.bl false))) dNx) (za6 (dIf (dTB (dOp (gEq true) (dFz (zm3 8 zgZ (zae zbb (dR (zab 7) (dR (dOp gIx (zab 6) (dC (.int 1))) dR0))))) (dC (.lst [(.int 0)])))) (zbi (dC (.bl false))) dNx) (dIf (dTB (dOp (gEq true) (dFz (zm3 8 zgZ (zae zaq (dR (zab 3) (dR (dFn zda (dA (zab 4) dA0)) dR0))))) (dC (.lst [(.int 1)])))) (zbi (dC (.bl false))) dNx))))))))))))) (zbi (zh3 (dOp (gEq false) (zae zaq (dR (dC (.int 3)) (dR (dFz (zc9 dA0)) dR0))) (dC (.str (Str.ofString "none")))) (dOp (gEq false) (zae zaO (dR (dC (.int 1)) (dR (dC (.str (Str.ofString "none"))) dR0))) (dFz (zc9 dA0))))))
theorem zud(T:Tx K mg cls){f PT cL:Addr}{fd:FuncData}(U:Fun K "law" "law" (top 51) f fd)(hcL:fd.code=.ref cL)(hch:W.codeHdIn K cL PT=true)(hbm:base.BuiltinsAt mg PT)(hKb:K.In base):zgi P w K mg base (CXe P w) 27 f fd zso (spT K PT (zsm 7 zgZ zkP)):=by
  obtain ⟨fR,fdR,UR,hmR⟩:=T.u__law_refused
  refine zs2 (k:=26) (m:=7) (xt:="<tab>") (xv:=xvC cls) U hcL hch zfS rfl rfl (by unfold Vis;decide +kernel) hbm hKb fun X C hX hpp hσ0 hxv hnw hr hx hpo hLB=>?_
  obtain ⟨cdv,A,outer,s,H,E,rfl⟩:=hX
  obtain ⟨cG,cH,cw,cpp,cσ,cex,cxv,cnw⟩:=C
  dsimp only at hpp hσ0 hxv hnw
  subst hpp hxv hnw
  have hnw:(false:Bool)=false:=rfl
  exact (zad (by exact (znP hpo rfl (zek rfl T.b_range (zti rfl T.b_max zam (zss rfl T.b_min (ze6 T.b_len (zaa 0)) zam))) (zbc (i:=1) zfS.nd rfl (by first|exact Or.inl rfl|exact Or.inr rfl) (show 1∉([8]:List Nat) by decide)) (zad (by exact (zfG (i:=2) zfS.nd rfl (by first|exact Or.inl rfl|exact Or.inr rfl) (show 2∉([8]:List Nat) by decide) (zuH (zj5 T) hr (by omega) hx (zag (zaa 0) (zag (zaa 1) zar))))) (zad (by exact (zbq (i:=3) zfS.nd rfl (by first|exact Or.inl rfl|exact Or.inr rfl) (show 3∉([8]:List Nat) by decide) (zcT zam (za7 (zaD T) hr (by omega) hx (zb8 2 (zag zam zar)))))) (zad (by exact (zbq (i:=4) zfS.nd rfl (by first|exact Or.inl rfl|exact Or.inr rfl) (show 4∉([8]:List Nat) by decide) (za7 (zhx T) hr (by omega) hx (zb8 2 (zag (zaa 3) (zag zam zar)))))) (zad (by exact (zbq (i:=5) zfS.nd rfl (by first|exact Or.inl rfl|exact Or.inr rfl) (show 5∉([8]:List Nat) by decide) (za7 (zg5 T 8) hr (by omega) hx (zb8 2 (zag (zaI (zmR rfl rfl T.b_list rfl T.b_range (zaa 3))) zar))))) (zad (by exact (zbq (i:=6) zfS.nd rfl (by first|exact Or.inl rfl|exact Or.inr rfl) (show 6∉([8]:List Nat) by decide) (zaI (zc1 (zaw (za7 (zeS T) hr (by omega) hx (zag (zaa 4) zar)) (zaw (za7 (zdO T 8) hr (by omega) hx (zag (zaa 5) zar)) zaG)))))) (zad (by exact (zb5 (JW.jt (zhj (zgO (zeP hr) (za7 (zcq T) hr (by omega) hx (zag (zaa 3) (zag (zaa 4) zar))) (zcV (zaa 6) zam)) (zfh (zgO (zeP hr) (za7 (zko T) hr (by omega) hx (zag (zaa 3) (zag (zaa 5) zar))) (zcV (zaa 6) zam))))) (zai (by exact (zay hnw zfb))) za8)) (zad (by exact (zb5 (zdN (zbN (za7 (zeE T 16) hr (by omega) hx (zag (za7 (zeB T) hr (by omega) hx (zag (zaa 3) (zag (zcV (zaa 6) zam) zar))) (zag (zaa 4) zar))))) (zai (by exact (zay hnw zfb))) za8)) (zad (by exact (zb5 (zdN (zbN (za7 (zeE T 16) hr (by omega) hx (zag (za7 (zhe T) hr (by omega) hx (zag (zaa 3) (zag (zcV (zaa 6) zam) zar))) (zag (zaa 5) zar))))) (zai (by exact (zay hnw zfb))) za8)) (zad (by exact (zbq (i:=7) zfS.nd rfl (by first|exact Or.inl rfl|exact Or.inr rfl) (show 7∉([8]:List Nat) by decide) (zcV (by refine jd 40 ?_;kernel_rfl) (za7 (zaD T) hr (by omega) hx (zb8 2 (zag zam zar)))))) (zad (by exact (zb5 (zgO (zeP hr) (zaI (zow (k:=21) (st:=top 48) hLB rfl (show 8∈([8]:List Nat) by decide) hσ0 cls (fun _ _=>rfl) UR zaJ rfl (UR.binds (ps:=["call"]) fun _ _ _ _ _ _ us hl=>match us,hl with|[_],_=>rfl) hmR (hr.mono (by omega)) (zdo T) zc8 (fun XL CL hXL hcv hr hx=>by
   obtain ⟨⟨xp,xw,xK,xmg,xb,xA,xN,xs,xH,xenv,xo,xst,xex,xfn,xc,xpn,xxe⟩,cl,Fa,cdv,s,H,E,e1,e2,e3,e4,e5,rfl⟩:=hXL
   obtain ⟨cG,cH,cw,cpp,cσ,cex,cxv,cnw⟩:=CL
   dsimp only at e1 e2 e3 e4 e5 hcv
   subst e1 e2 e3 e4 e5 hcv
   exact (za7 (zcq T) hr (by omega) hx (zag (zaa 7) (zag (zaa 4) zar)))) (hfr:=zaX (by kernel_rfl)) (hbind:=fun _ _ _ _=>rfl))) (by refine jd 40 ?_;kernel_rfl)) (zai (by exact (zay hnw zfb))) za8)) (zad (by exact (zb5 (zgO (zeP hr) (zaI (zow (k:=16) (st:=top 48) hLB rfl (show 8∈([8]:List Nat) by decide) hσ0 cls (fun _ _=>rfl) UR zaJ rfl (UR.binds (ps:=["call"]) fun _ _ _ _ _ _ us hl=>match us,hl with|[_],_=>rfl) hmR (hr.mono (by omega)) (zdo T) zc8 (fun XL CL hXL hcv hr hx=>by
   obtain ⟨⟨xp,xw,xK,xmg,xb,xA,xN,xs,xH,xenv,xo,xst,xex,xfn,xc,xpn,xxe⟩,cl,Fa,cdv,s,H,E,e1,e2,e3,e4,e5,rfl⟩:=hXL
   obtain ⟨cG,cH,cw,cpp,cσ,cex,cxv,cnw⟩:=CL
   dsimp only at e1 e2 e3 e4 e5 hcv
   subst e1 e2 e3 e4 e5 hcv
   exact (za7 (zhe T) hr (by omega) hx (zag (zaa 7) (zag (zcV (zaa 6) zam) zar)))) (hfr:=zaX (by kernel_rfl)) (hbind:=fun _ _ _ _=>rfl))) (by refine jd 40 ?_;kernel_rfl)) (zai (by exact (zay hnw zfb))) za8)) (zai (by exact (zb5 (zgO (zeP hr) (zaI (zow (k:=21) (st:=top 48) hLB rfl (show 8∈([8]:List Nat) by decide) hσ0 cls (fun _ _=>rfl) UR zaJ rfl (UR.binds (ps:=["call"]) fun _ _ _ _ _ _ us hl=>match us,hl with|[_],_=>rfl) hmR (hr.mono (by omega)) (zdo T) zc8 (fun XL CL hXL hcv hr hx=>by
   obtain ⟨⟨xp,xw,xK,xmg,xb,xA,xN,xs,xH,xenv,xo,xst,xex,xfn,xc,xpn,xxe⟩,cl,Fa,cdv,s,H,E,e1,e2,e3,e4,e5,rfl⟩:=hXL
   obtain ⟨cG,cH,cw,cpp,cσ,cex,cxv,cnw⟩:=CL
   dsimp only at e1 e2 e3 e4 e5 hcv
   subst e1 e2 e3 e4 e5 hcv
   exact (za7 (zcq T) hr (by omega) hx (zag (zaa 3) (zag (zgw T.b_tuple (zaa 4)) zar)))) (hfr:=zaX (by kernel_rfl)) (hbind:=fun _ _ _ _=>rfl))) (by refine jd 40 ?_;kernel_rfl)) (zai (by exact (zay hnw zfb))) za8)))))))))))))))) (zai (by exact (zay hnw (zfX (zmt (zeP hr) (za7 (zcq T) hr (by omega) hx (zag zam (zag (zaI (zc1 zaG)) zar))) zb2) (zfU (zmt (zeP hr) (za7 (zeB T) hr (by omega) hx (zag zam (zag zb2 zar))) (zaI (zc1 zaG)))))))))
end
theorem zkz{x y:Dt}{bs:List B}:∀{ρ:Ev}{k:Nat},zgd [.d x,.d y] bs k ρ = ρ
 |[],_=>rfl
 |o::r,k=>by
  show (match zdR [.d x,.d y] k with|some j=>bs[j]?|none=>o)::zgd [.d x,.d y] bs (k+1) r=_
  rw[zkz (ρ:=r)];rfl
theorem zcD{F:FD}{fa:De}{ρ ρ':Ev}{d y:Dt}{l:List B}(h:fa ρ=.ok (d,ρ'))(hF:F [.val d]=.ok (y,l)):zae F (dR fa dR0) ρ=.ok (y,ρ'):=by
 unfold zae dR dR0
 rw[h]
 simp only[R.bind_ok,zkm,zaZ,if_true,za1,hF]
 rw[zq4]
theorem zdz{F:FD}{fa fb:De}{ρ ρ' ρ'':Ev}{d e y:Dt}{l:List B}(h:fa ρ=.ok (d,ρ'))(h2:fb ρ'=.ok (e,ρ''))(hF:F [.val d,.val e]=.ok (y,l)):zae F (dR fa (dR fb dR0)) ρ=.ok (y,ρ''):=by
 unfold zae dR dR0
 rw[h]
 simp only[R.bind_ok,h2,zkm,zaZ,if_true,za1,hF]
 rw[zkz]
theorem zkG{i k:Nat}{d:Dt}:zdR [.s i,.d d] k=if i=k then some 0 else none:=by
 unfold zdR zdG
 split <;> rfl
theorem zqt{i:Nat}{d:Dt}{b:B}{bs:List B}:∀{ρ:Ev}{k:Nat},k<=i->zgd [.s i,.d d] (b::bs) k ρ = ρ.set (i-k) (some b)
 |[],k,_=>by simp[zgd]
 |o::r,k,h=>by
  unfold zgd
  rw[zkG]
  by_cases e:i=k
  ·subst e
   simp only[if_true,Nat.sub_self,List.set_cons_zero]
   have:∀(r:Ev)(m:Nat),i<m->zgd [.s i,.d d] (b::bs) m r=r:=by
    intro r
    induction r with
    |nil=>intro m _;rfl
    |cons o r ih =>
     intro m hm
     unfold zgd
     rw[zkG,if_neg (by omega),ih (m+1) (by omega)]
   rw[this r (i+1) (by omega)];rfl
  ·rw[if_neg e,zqt (k:=k+1) (by omega)]
   have:i-k=(i-(k+1))+1:=by omega
   rw[this,List.set_cons_succ]
theorem zf8{F:FD}{fb:De}{i:Nat}{ρ:Ev}{d y:Dt}{st st':List Dt}{l:List B}(hi:ρ[i]? = some (some (.own st)))(h:fb ρ=.ok (d,ρ))(hF:F [.own st,.val d]=.ok (y,.own st'::l)):zae F (dRO i (dR fb dR0)) ρ=.ok (y,ρ.set i (some (.own st'))):=by
 have u:zkm [.s i,.d d]=true:=by
  unfold zkm zaZ
  rw[zkG]
  simp[zaZ]
 unfold zae dRO dR dR0
 simp only[hi,h,R.bind_ok,u,if_true,za1,zgr,hF]
 rw[zqt (Nat.zero_le _)]
 rfl
theorem zao{nw:Bool}{ks:List Bool}{m:Nat}{body:DS}{bs:List B}{d:Dt}{ρ':Ev}{l:List B}(hk:zaV bs=ks)(hb:body (bs.map some++List.replicate m none)=.ok (.rt d,ρ'))(hl:zav ks ρ'=.ok l):zap nw ks m body bs=.ok (d,l):=by
 unfold zap
 rw[if_pos hk,hb]
 simp only[R.bind_ok,hl]
theorem zon{ks:List Bool}{m:Nat}{body:DS}{bs:List B}{ρ':Ev}{l:List B}(hk:zaV bs=ks)(hb:body (bs.map some++List.replicate m none)=.ok (.nx,ρ'))(hl:zav ks ρ'=.ok l):zap false ks m body bs=.ok (.non,l):=by
 unfold zap
 rw[if_pos hk,hb]
 simp only[R.bind_ok,hl]
 rfl
def St(st:List Dt):Prop:=∃ s b,st=[.int s,.bl b]
theorem zba{st:List Dt}{m:Int}(h:St st)(h0:0<m)(h1:m<1073741824):∃(v:Int)(st':List Dt),zac [.own st,.val (.int m)]=.ok (.int v,[.own st',.val .non])/\St st'/\0<=v/\v<m:=by
 obtain ⟨s,b,rfl⟩:=h
 cases b with
 |true =>
  refine ⟨s % m,[.int (s / m),.bl true],?_,⟨_,_,rfl⟩,Int.emod_nonneg _ (by omega),Int.emod_lt_of_pos _ h0⟩
  unfold zac zap zeR
  simp[zaV,zgr,za6,dIf,dTB,znm,dC,atI,ixN,zb6,dOp,zmd,zab,zo4,zp4,zbi,zav,h0,h1]
 |false =>
  have e1:∃ a,(s * 48271+29) % 2147483647=a/\0<=a/\a<2147483647:=⟨_,rfl,Int.emod_nonneg _ (by decide),Int.emod_lt_of_pos _ (by decide)⟩
  obtain ⟨a,ea,a0,a1⟩:=e1
  have e2:∃ c,(a * a+39373 * a+7) % 2147483629=c/\0<=c/\c<2147483629:=⟨_,rfl,Int.emod_nonneg _ (by decide),Int.emod_lt_of_pos _ (by decide)⟩
  obtain ⟨c,ec,c0,c1⟩:=e2
  have sa:zcO a=true:=by unfold zcO;simp;omega
  have sc:zcO c=true:=by unfold zcO;simp;omega
  have s1:zcO 48271=true:=by decide
  have s2:zcO 39373=true:=by decide
  have s3:zcO 16807=true:=by decide
  refine ⟨(c * c+16807 * c) % 2147483587 / 8 % m,[.int a,.bl false],?_,⟨_,_,rfl⟩,Int.emod_nonneg _ (by omega),Int.emod_lt_of_pos _ h0⟩
  unfold zac zap zeR
  simp[zaV,zgr,za6,dIf,dTB,znm,dC,atI,ixN,zb6,dOp,zmd,zny,zb4,zab,zo4,zp4,zbi,dNx,zav,h0,h1,ea,ec,sa,sc,s1,s2,s3]
theorem zfl:∀(n:Nat)(d:Dt),okN n d=true->okN (n+1) d=true
 |_,.non,_=>by simp[okN]
 |_,.bl _,_=>by simp[okN]
 |_,.int _,_=>by simp[okN]
 |n,.str x,h=>by cases n <;> simpa [okN] using h
 |0,.tup l,h=>by simp[okN] at h
 |0,.lst l,h=>by simp[okN] at h
 |n+1,.tup l,h=>by
  simp only[okN,List.all_eq_true] at h ⊢
  exact fun d hd=>zfl n d (h d hd)
 |n+1,.lst l,h=>by
  simp only[okN,List.all_eq_true] at h ⊢
  exact fun d hd=>zfl n d (h d hd)
 |n,.dct,h=>by cases n <;> simp[okN] at h
 |n,.scr _,h=>by cases n <;> simp[okN] at h
theorem zsq{n m:Nat}{d:Dt}(h:okN n d=true)(hl:n<=m):okN m d=true:=by
 induction hl with
 |refl=>exact h
 |step _ ih=>exact zfl _ _ ih
theorem zkY{n:Nat}{v:Int}(h0:0<=v)(h1:v<n):ixN n v=some v.toNat:=by
 unfold ixN
 rw[if_pos h0,if_pos h1]
theorem zhL{α:Type}:∀{l:List α}{j:Nat}{d:α},l[j]? = some d->(d::l.eraseIdx j).Perm l
 |[],_,_,h=>by simp at h
 |a::l,0,d,h=>by simp at h;subst h;exact .refl _
 |a::l,j+1,d,h=>by
  have:=zhL (l:=l) (j:=j) (d:=d) (by simpa using h)
  exact (List.Perm.swap a d _).trans (this.cons a)
theorem zbx{neg:Bool}{x y:Dt}(h1:okN 60 x=true)(h2:okN 60 y=true):gEq neg x y=.ok (.bl (if neg then !eqD x y else eqD x y)):=by
 unfold gEq
 rw[h1,h2];rfl
theorem zjA{d:Dt}{l:List Dt}:eqD (.lst (d::l)) (.lst [])=false:=by rw[eqD];simp[zl3]
theorem zgL:eqD (.lst []) (.lst [])=true:=by rw[eqD,zl3]
theorem zt7{st found l:List Dt}{o:Option B}{b:Bool}(h:okN 60 (.lst l)=true)(e:(!eqD (.lst l) (.lst []))=b):dTB (zsk true 2 (dFz (zc9 dA0))) [some (.own st),o,some (.own l),some (.own found)]=.ok (b,[some (.own st),o,some (.own l),some (.own found)]):=by
 show (((gEq true (.lst l) (.lst [])).bind fun z=>.ok (z,[some (.own st),o,some (.own l),some (.own found)])).bind fun (a:Dt×Ev)=>match a.1 with|.bl b=>.ok (b,a.2)|_=>.no)=_
 rw[zbx h rfl]
 simp only[if_true,e]
 rfl
theorem zik{things:Option B}:∀(n:Nat)(left found:List Dt)(st:List Dt),left.length<n->left.length+found.length<=1000->(∀ d∈left,okN 59 d=true)->St st->∃ st' p,St st'/\p.Perm left /\
  zb1 (dTB (zsk true 2 (dFz (zc9 dA0)))) (dEx (zfO 3 (zhN 2 (zae zac (dRO 0 (dR (zcy 2) dR0)))))) n [some (.own st),things,some (.own left),some (.own found)]=.ok (.nx,[some (.own st'),things,some (.own []),some (.own (found++p))])
 |0,left,found,st,h,_,_,_=>absurd h (Nat.not_lt_zero _)
 |n+1,[],found,st,h,hl,hk,hs=>by
  refine ⟨st,[],hs,.refl _,?_⟩
  unfold zb1
  rw[zt7 (b:=false) rfl (by rw[zgL];rfl)]
  simp
 |n+1,d::left,found,st,h,hl,hk,hs=>by
  obtain ⟨v,st1,e,hs1,v0,v1⟩:=zba (m:=((d::left).length:Nat)) hs (by simp only[List.length_cons];omega) (by simp only[List.length_cons] at hl ⊢;omega)
  have hv:v.toNat<(d::left).length:=by omega
  have hget:(d::left)[v.toNat]? = some (d::left)[v.toNat]:=by simp[hv]
  have hel:=zhL hget
  have hlen:((d::left).eraseIdx v.toNat).length=left.length:=by
   have:=hel.length_eq
   simp only[List.length_cons] at this
   omega
  obtain ⟨st',p,hs',hp,hw⟩:=zik (things:=things) n ((d::left).eraseIdx v.toNat) (found++[(d::left)[v.toNat]]) st1 (by simp only[List.length_cons] at h;omega) (by simp only[List.length_append,List.length_cons,List.length_nil] at hl ⊢;omega)
   (fun x hx=>hk x (hel.mem_iff.mp (List.mem_cons_of_mem _ hx))) hs1
  refine ⟨st',(d::left)[v.toNat]::p,hs',((hp.cons _).trans hel),?_⟩
  have hall:((d::left).all (okN 59))=true:=List.all_eq_true.mpr hk
  have ec:zae zac (dRO 0 (dR (zcy 2) dR0)) [some (.own st),things,some (.own (d::left)),some (.own found)]=.ok (.int v,[some (.own st1),things,some (.own (d::left)),some (.own found)]):=zf8 (ρ:=[some (.own st),things,some (.own (d::left)),some (.own found)]) rfl rfl e
  have hm:zf1 v=true:=by unfold zf1;simp;simp only[List.length_cons] at hl v1;omega
  unfold zb1
  have t1:=zt7 (st:=st) (found:=found) (l:=d::left) (o:=things) (b:=true) (show okN 60 (.lst (d::left))=true from hall) (by rw[zjA];rfl)
  rw[t1]
  simp only[R.bind_ok,if_true]
  have t2:dEx (zfO 3 (zhN 2 (zae zac (dRO 0 (dR (zcy 2) dR0))))) [some (.own st),things,some (.own (d::left)),some (.own found)]=.ok (.nx,[some (.own st1),things,some (.own ((d::left).eraseIdx v.toNat)),some (.own (found++[(d::left)[v.toNat]]))]):=by
   have hpop:zp8 (d::left) v=some ((d::left)[v.toNat],(d::left).eraseIdx v.toNat):=by
    unfold zp8
    rw[if_pos hm,zkY v0 v1]
    simp only[hget]
   unfold dEx zfO zhN
   simp only[List.getElem?_cons_succ,List.getElem?_cons_zero,ec,R.bind_ok,hpop,List.set_cons_succ,List.set_cons_zero]
   rw[if_pos (by omega)]
   rfl
  rw[t2]
  simp only[R.bind_ok]
  rw[hw]
  simp
theorem zhK{l:List Dt}{st:List Dt}(hs:St st)(hl:l.length<10)(hk:∀ d∈l,okN 59 d=true):∃ st' p,St st'/\p.Perm l/\zaL [.own st,.val (.lst l)]=.ok (.lst p,[.own st',.val .non]):=by
 obtain ⟨st',p,hs',hp,hw⟩:=zik (things:=some (.val (.lst l))) 10 l [] st hl (by simp;omega) hk hs
 refine ⟨st',p,hs',hp,?_⟩
 have hd:zc5 [some (.own st),some (.val (.lst l)),none,none]=.ok (.rt (.lst p),[some (.own st'),some (.val (.lst l)),some (.own []),some (.val (.lst p))]):=by
  unfold zc5
  have e1:zbO 2 (zoK zk5 (dA (zab 1) dA0)) [some (.own st),some (.val (.lst l)),none,none]=.ok (.nx,[some (.own st),some (.val (.lst l)),some (.own l),none]):=rfl
  have e2:zbO 3 (zc9 dA0) [some (.own st),some (.val (.lst l)),some (.own l),none]=.ok (.nx,[some (.own st),some (.val (.lst l)),some (.own l),some (.own [])]):=rfl
  unfold za6
  rw[e1]
  simp only[R.bind_ok]
  rw[e2]
  simp only[R.bind_ok]
  rw[hw]
  rfl
 exact zao rfl hd rfl
theorem zat{g:Dt->Dt->R Dt}{fa fb:De}{ρ ρ1 ρ2:Ev}{d e z:Dt}(h1:fa ρ=.ok (d,ρ1))(h2:fb ρ1=.ok (e,ρ2))(h3:g d e=.ok z):dOp g fa fb ρ=.ok (z,ρ2):=by
 unfold dOp
 rw[h1]
 simp only[R.bind_ok,h2,h3]
theorem zaA{f:De}{ρ ρ1:Ev}{b:Bool}(h:f ρ=.ok (.bl b,ρ1)):dTB f ρ=.ok (b,ρ1):=by
 unfold dTB
 rw[h];rfl
theorem zds{c:DT}{f g:DS}{ρ ρ1:Ev}(h:c ρ=.ok (true,ρ1)):dIf c f g ρ=f ρ1:=by
 unfold dIf
 rw[h];rfl
theorem zbA{c:DT}{f g:DS}{ρ ρ1:Ev}(h:c ρ=.ok (false,ρ1)):dIf c f g ρ=g ρ1:=by
 unfold dIf
 rw[h];rfl
theorem zak{f g:DS}{ρ ρ1:Ev}(h:f ρ=.ok (.nx,ρ1)):za6 f g ρ=g ρ1:=by
 unfold za6
 rw[h];rfl
theorem zcg{f g:DS}{ρ ρ1:Ev}{d:Dt}(h:f ρ=.ok (.rt d,ρ1)):za6 f g ρ=.ok (.rt d,ρ1):=by
 unfold za6
 rw[h];rfl
theorem zaW{f:De}{ρ ρ1:Ev}{d:Dt}(h:f ρ=.ok (d,ρ1)):zbi f ρ=.ok (.rt d,ρ1):=by
 unfold zbi
 rw[h];rfl
theorem zbm{f:De}{i:Nat}{ρ ρ1:Ev}{d:Dt}(h:f ρ=.ok (d,ρ1))(hi:i < ρ1.length):zb6 i f ρ=.ok (.nx,ρ1.set i (some (.val d))):=by
 unfold zb6
 rw[h]
 simp only[R.bind_ok,hi,if_true]
theorem zir{f:DN}{i:Nat}{ρ ρ1:Ev}{d:List Dt}(h:f ρ=.ok (d,ρ1))(hi:i < ρ1.length):zbO i f ρ=.ok (.nx,ρ1.set i (some (.own d))):=by
 unfold zbO
 rw[h]
 simp only[R.bind_ok,hi,if_true]
theorem zb0{f:DN}{ρ ρ1:Ev}{d:List Dt}(h:f ρ=.ok (d,ρ1)):dFz f ρ=.ok (.lst d,ρ1):=by
 unfold dFz
 rw[h];rfl
theorem zd8{f:De}{ρ ρ1:Ev}{d:Dt}(h:f ρ=.ok (d,ρ1)):dEx f ρ=.ok (.nx,ρ1):=by
 unfold dEx
 rw[h];rfl
theorem zbK{g:List Dt->R Dt}{f:De}{ρ ρ1:Ev}{d z:Dt}(h:f ρ=.ok (d,ρ1))(hg:g [d]=.ok z):dFn g (dA f dA0) ρ=.ok (z,ρ1):=by
 unfold dFn dA dA0
 rw[h]
 simp only[R.bind_ok,hg]
theorem zgU{f g:DT}{ρ ρ1:Ev}(h:f ρ=.ok (false,ρ1)):zfr f g ρ=g ρ1:=by
 unfold zfr
 rw[h];rfl
theorem ztm{f g:DT}{ρ ρ1:Ev}(h:f ρ=.ok (true,ρ1)):zfr f g ρ=.ok (true,ρ1):=by
 unfold zfr
 rw[h];rfl
theorem zeG{f g:DT}{ρ ρ1:Ev}(h:f ρ=.ok (true,ρ1)):ze8 f g ρ=g ρ1:=by
 unfold ze8
 rw[h];rfl
theorem ziA{f g:DT}{ρ ρ1:Ev}(h:f ρ=.ok (false,ρ1)):ze8 f g ρ=.ok (false,ρ1):=by
 unfold ze8
 rw[h];rfl
theorem zdI{f:DT}{ρ ρ1:Ev}{b:Bool}(h:f ρ=.ok (b,ρ1)):zaU f ρ=.ok (!b,ρ1):=by
 unfold zaU
 rw[h];rfl
theorem znS{ρ0:Ev}{o:Option B}{d:Dt}:zbz ρ0.length d (ρ0++[o])=.ok (ρ0++[some (.val d)]):=by
 unfold zbz
 rw[if_pos (by simp)]
 simp
theorem zfI{ρ0:Ev}{d:Dt}:zab ρ0.length (ρ0++[some (.val d)])=.ok (d,ρ0++[some (.val d)]):=by
 unfold zab
 simp
theorem zj1{α:Type}{u f:α->Dt}{fe:De}{ρ0:Ev}:∀{l:List α}{o:Option B},(∀ a∈l,fe (ρ0++[some (.val (u a))])=.ok (f a,ρ0++[some (.val (u a))]))->∃ o',zb7 (zbz ρ0.length) dTT fe (l.map u) (ρ0++[o])=.ok (l.map f,ρ0++[o'])
 |[],o,_=>⟨o,rfl⟩
 |a::l,o,h=>by
  obtain ⟨o',e⟩:=zj1 (l:=l) (o:=some (.val (u a))) fun b hb=>h b (by simp[hb])
  refine ⟨o',?_⟩
  rw[List.map_cons,zb7,znS]
  simp only[R.bind_ok,dTT,if_true]
  rw[h a (by simp)]
  simp only[R.bind_ok]
  rw[e]
  rfl
theorem zbl{α:Type}{u f:α->Dt}{fe:De}{ρ0:Ev}{fi:DA}{l:List α}{ds:List Dt}(hi:fi ρ0=.ok (ds,ρ0))(hd:ds=l.map u)(hl:l.length<=1000)(h:∀ a∈l,fe (ρ0++[some (.val (u a))])=.ok (f a,ρ0++[some (.val (u a))])){j:Nat}(hj:j = ρ0.length) :
  zaH fi (zbz j) dTT fe 1 ρ0=.ok (l.map f,ρ0):=by
 subst hd;subst hj
 obtain ⟨o',e⟩:=zj1 (o:=none) h
 unfold zaH
 rw[hi]
 simp only[R.bind_ok]
 rw[if_pos (by unfold zd2;simp;omega)]
 show (match zb7 (zbz ρ0.length) dTT fe (l.map u) (ρ0++[none]) with|.ok z=>R.ok (z.1,z.2.take ρ0.length)|_=>.no)=_
 rw[e]
 simp
theorem eqI{a b:Int}:eqD (.int a) (.int b)=(a == b):=by rw[eqD]
theorem ziN{x:Option B}{zbr:Ev}{o:Option B}{d:Dt}:zbz (zbr.length+1) d (x::(zbr++[o]))=.ok (x::(zbr++[some (.val d)])):=by
 unfold zbz
 rw[if_pos (by simp)]
 simp
theorem zok{α β:Type}{Rl:α->β->Prop}{u:α->Dt}{v:β->Dt}{fe:De}{zbr:Ev}:∀{l:List α}{st:List Dt}{o:Option B},
  (∀ a∈l,∀ st,St st->∃ y st',St st'/\Rl a y/\fe (some (.own st)::(zbr++[some (.val (u a))]))=.ok (v y,some (.own st')::(zbr++[some (.val (u a))])))->St st ->
  ∃ ys st' o',St st'/\Paired Rl l ys/\zb7 (zbz (zbr.length+1)) dTT fe (l.map u) (some (.own st)::(zbr++[o]))=.ok (ys.map v,some (.own st')::(zbr++[o']))
 |[],st,o,_,hs=>⟨[],st,o,hs,.nil,rfl⟩
 |a::l,st,o,h,hs=>by
  obtain ⟨y,st1,hs1,hr,e1⟩:=h a (by simp) st hs
  obtain ⟨ys,st',o',hs',hp,e⟩:=zok (l:=l) (st:=st1) (o:=some (.val (u a))) (fun b hb=>h b (List.mem_cons_of_mem _ hb)) hs1
  refine ⟨y::ys,st',o',hs',.cons hr hp,?_⟩
  rw[List.map_cons,zb7,ziN]
  simp only[R.bind_ok,dTT,if_true]
  rw[e1]
  simp only[R.bind_ok]
  rw[e]
  rfl
theorem ziU{α β:Type}{Rl:α->β->Prop}{u:α->Dt}{v:β->Dt}{fe:De}{zbr:Ev}{fi:DA}{ρ:Ev}{l:List α}{ds:List Dt}{st:List Dt}{j:Nat}(hi:fi ρ=.ok (ds,some (.own st)::zbr))(hd:ds=l.map u)(hl:l.length<=1000)(hj:j=zbr.length+1)
  (h:∀ a∈l,∀ st,St st->∃ y st',St st'/\Rl a y/\fe (some (.own st)::(zbr++[some (.val (u a))]))=.ok (v y,some (.own st')::(zbr++[some (.val (u a))]))) (hs:St st) :
  ∃ ys st',St st'/\Paired Rl l ys/\zaH fi (zbz j) dTT fe 1 ρ=.ok (ys.map v,some (.own st')::zbr):=by
 subst hd;subst hj
 obtain ⟨ys,st',o',hs',hp,e⟩:=zok (o:=none) h hs
 refine ⟨ys,st',hs',hp,?_⟩
 unfold zaH
 rw[hi]
 simp only[R.bind_ok]
 rw[if_pos (by unfold zd2;simp only[List.length_map,decide_eq_true_eq];omega)]
 show (match zb7 (zbz (zbr.length+1)) dTT fe (l.map u) (some (.own st)::(zbr++[none])) with|.ok z=>R.ok (z.1,z.2.take (zbr.length+1))|_=>.no)=_
 rw[e]
 simp
theorem zdt{α β:Type}{F:α->β->Prop}:∀{l:List α}{r:List β},Paired F l r->l.length=r.length
 |_,_,.nil=>rfl
 |_,_,.cons _ t=>by simp[zdt t]
theorem zfT{p:List Dt}{l:List Int}(h:p.Perm (l.map .int)):∃ q:List Int,q.Perm l/\p=q.map .int:=by
 refine ⟨p.map fun d=>match d with|.int i=>i|_=>0,?_,?_⟩
 ·have:=h.map fun d=>match d with|.int i=>i|_=>0
  rw[List.map_map] at this
  have e:((fun d=>match d with|.int i=>i|_=>0) ∘ Dt.int)=(id:Int->Int):=rfl
  rw[e,List.map_id] at this
  exact this
 ·rw[List.map_map]
  conv=>lhs;rw[<- List.map_id p]
  refine List.map_congr_left fun d hd=>?_
  obtain ⟨i,_,rfl⟩:=List.mem_map.mp (h.mem_iff.mp hd)
  rfl
def isW:Dt->Bool
 |.int _=>true
 |_=>false
theorem zfx(d:Dt):zbT [.val d]=.ok (.bl (isW d),[.val .non]):=by
 cases d <;> simp[zbT,zap,zhJ,zaV,zgr,zbi,zh3,zcK,zab,ztY,zfv,tyD,zav,isW]
theorem zey{n:Int}(h1:1<=n)(h7:n<=7):zan [.val (.int n)]=.ok (.non,[.val .non]):=by
 have e:zae zbT (dR (zab 0) dR0) [some (.val (.int n))]=.ok (.bl true,[some (.val (.int n))]):=zcD (ρ':=[some (.val (.int n))]) rfl (zfx _)
 have a1:decide (n<1)=false:=by simp;omega
 have a2:decide (7<n)=false:=by simp;omega
 simp[zan,zap,zbI,zaV,zgr,dIf,zfr,zaU,dTB,e,dOp,zab,dC,zhQ,a1,a2,dNx,zav]
theorem zjx{d:Dt}(h:isW d=false\/∃ n,d=.int n/\(n<1\/7<n)):zan [.val d]=.er 0:=by
 have e:zae zbT (dR (zab 0) dR0) [some (.val d)]=.ok (.bl (isW d),[some (.val d)]):=zcD (ρ':=[some (.val d)]) rfl (zfx _)
 rcases h with h|⟨n,rfl,h⟩
 ·simp[zan,zap,zbI,zaV,zgr,dIf,zfr,zaU,dTB,e,h,zgf,dA,dC,dA0,zd2]
 ·have hw:isW (.int n)=true:=rfl
  by_cases h1:n<1
  ·simp[zan,zap,zbI,zaV,zgr,dIf,zfr,zaU,dTB,e,hw,dOp,zab,dC,zhQ,h1,zgf,dA,dA0,zd2]
  ·have h7:7<n:=by omega
   simp[zan,zap,zbI,zaV,zgr,dIf,zfr,zaU,dTB,e,hw,dOp,zab,dC,zhQ,h1,h7,zgf,dA,dA0,zd2]
def isG(n:Int):Dt->Bool
 |.int i=>decide (0<=i) && decide (i<n)
 |_=>false
theorem zhX(n:Int)(d:Dt):zbn [.val (.int n),.val d]=.ok (.bl (isG n d),[.val .non,.val .non]):=by
 have e:zae zbT (dR (zab 1) dR0) [some (.val (.int n)),some (.val d)]=.ok (.bl (isW d),[some (.val (.int n)),some (.val d)]):=zcD (ρ':=[some (.val (.int n)),some (.val d)]) rfl (zfx _)
 cases d with
 |int i =>
  by_cases h:0<=i
  ·simp[zbn,zap,ze3,zaV,zgr,zbi,zh3,e,isW,zjN,dC,zab,zhQ,h,isG,zav]
  ·simp[zbn,zap,ze3,zaV,zgr,zbi,zh3,e,isW,zjN,dC,zab,zhQ,h,isG,zav]
 |_=>simp[zbn,zap,ze3,zaV,zgr,zbi,zh3,e,isW,isG,zav]
theorem zqk{α:Type}(l:List α)(k:Nat):decide ((k:Int)<=(l.length:Nat))=decide (k<=l.length):=by
 by_cases h:k<=l.length
 ·rw[decide_eq_true h,decide_eq_true (by omega)]
 ·rw[decide_eq_false h,decide_eq_false (by omega)]
theorem zn3{neg:Bool}{i j:Int}:gEq neg (.int i) (.int j)=.ok (.bl (if neg then !(i == j) else (i == j))):=by
 rw[zbx rfl rfl,eqI]
def zbj(n:Nat):List Int:=(List.range n).map fun (k:Nat)=>(k:Int)
theorem zl9(n:Nat):zaR 0 n=(zbj n).map .int:=by
 unfold zaR zbj
 rw[List.map_map]
 refine List.map_congr_left fun k _=>?_
 simp
theorem zkM(i:Int):∀ l:List Int,inD (.int i) (l.map .int)=decide (i∈l)
 |[]=>by simp[inD]
 |a::r=>by
  have:=zkM i r
  unfold inD at this ⊢
  rw[List.map_cons,List.any_cons,this,eqI]
  by_cases h:a=i
  ·subst h;simp
  ·have h':¬ i=a:=fun z=>h z.symm
   by_cases h2:i∈r <;> simp[h,h',h2]
theorem zid:∀(a b:List Int),a.Nodup->(∀ x∈a,x∈b)->b.length<=a.length->a.Perm b
 |[],b,_,_,h=>by
  have:b=[]:=List.length_eq_zero_iff.mp (by simpa using h)
  subst this;exact .refl _
 |x::a,b,hn,hs,hl=>by
  rw[List.nodup_cons] at hn
  have hx:x∈b:=hs x (by simp)
  have hp:=List.perm_cons_erase hx
  have hlen:=hp.length_eq
  simp only[List.length_cons] at hlen hl
  have:=zid a (b.erase x) hn.2 (fun y hy=>(List.mem_erase_of_ne (fun (e:y=x)=>hn.1 (e ▸ hy))).mpr (hs y (by simp[hy]))) (by omega)
  exact (this.cons x).trans hp.symm
theorem zdw{n:Nat}{x:Int}:x∈zbj n ↔ 0<=x/\x<n:=by
 unfold zbj
 rw[List.mem_map]
 constructor
 ·rintro ⟨k,hk,rfl⟩
  have:=List.mem_range.mp hk
  omega
 ·rintro ⟨h0,h1⟩
  exact ⟨x.toNat,List.mem_range.mpr (by omega),by omega⟩
theorem zbU(n:Nat):(zbj n).length=n:=by unfold zbj;simp
theorem zic(n:Nat):(zbj n).Pairwise (· <= ·):=by
 unfold zbj
 rw[List.pairwise_map]
 refine List.Pairwise.imp (R:=fun a b=>a<b) (fun {a b} h=>by omega) List.pairwise_lt_range
theorem zga(n:Nat):(zbj n).Nodup:=by
 unfold zbj
 unfold List.Nodup
 rw[List.pairwise_map]
 refine List.Pairwise.imp (R:=fun a b=>a<b) (fun {a b} h=>by omega) List.pairwise_lt_range
theorem zie{n:Nat}{l:List Int}:zfk l=zbj n ↔ l.Nodup/\(∀ x∈l,0<=x/\x<n)/\l.length=n:=by
 constructor
 ·intro h
  have hp:l.Perm (zbj n):=by rw[<- h];exact (zcl l).symm
  exact ⟨hp.nodup_iff.mpr (zga n),fun x hx=>zdw.mp (hp.mem_iff.mp hx),by rw[hp.length_eq,zbU]⟩
 ·rintro ⟨h1,h2,h3⟩
  have hp:l.Perm (zbj n):=zid _ _ h1 (fun x hx=>zdw.mpr (h2 x hx)) (by rw[zbU];omega)
  exact W.lks_uniq ((zcl l).trans hp) (zem l) (zic n)
theorem ziF{α:Type}{l:List α}{v:Int}(h0:0<=v)(h1:v<l.length):atI l v=l[v.toNat]? := by
 unfold atI
 rw[zkY h0 h1];rfl
theorem zn0{l:List Dt}{v:Int}{d:Dt}(h0:0<=v)(h1:v<l.length)(hd:l[v.toNat]? = some d):gIx (.tup l) (.int v)=.ok d:=by
 unfold gIx
 simp only[ziF h0 h1,hd]
theorem zkF{l:List Dt}{v:Int}{d:Dt}(h0:0<=v)(h1:v<l.length)(hd:l[v.toNat]? = some d):gIx (.lst l) (.int v)=.ok d:=by
 unfold gIx
 simp only[ziF h0 h1,hd]
theorem zsD{F:FD}{fb fc:De}{i:Nat}{ρ:Ev}{d d2 y:Dt}{st st':List Dt}{l:List B}(hi:ρ[i]? = some (some (.own st)))(h:fb ρ=.ok (d,ρ))(h2:fc ρ=.ok (d2,ρ))(hF:F [.own st,.val d,.val d2]=.ok (y,.own st'::l)):zae F (dRO i (dR fb (dR fc dR0))) ρ=.ok (y,ρ.set i (some (.own st'))):=by
 have hp:∀ k,zdR [.s i,.d d,.d d2] k=if i=k then some 0 else none:=by
  intro k
  unfold zdR zdG
  split <;> rfl
 have u:zkm [.s i,.d d,.d d2]=true:=by
  unfold zkm zaZ
  rw[hp]
  simp[zaZ]
 have hput:∀(ρ:Ev)(k:Nat)(b:B)(bs:List B),k<=i->zgd [.s i,.d d,.d d2] (b::bs) k ρ = ρ.set (i-k) (some b):=by
  intro ρ
  induction ρ with
  |nil=>intro k b bs _;simp[zgd]
  |cons o r ih =>
   intro k b bs h
   unfold zgd
   rw[hp]
   by_cases e:i=k
   ·subst e
    simp only[if_true,Nat.sub_self,List.set_cons_zero]
    have:∀(r:Ev)(m:Nat),i<m->zgd [.s i,.d d,.d d2] (b::bs) m r=r:=by
     intro r
     induction r with
     |nil=>intro m _;rfl
     |cons o r ih =>
      intro m hm
      unfold zgd
      rw[hp,if_neg (by omega),ih (m+1) (by omega)]
    rw[this r (i+1) (by omega)];rfl
   ·rw[if_neg e,ih (k+1) b bs (by omega)]
    have:i-k=(i-(k+1))+1:=by omega
    rw[this,List.set_cons_succ]
 unfold zae dRO dR dR0
 simp only[hi,h,h2,R.bind_ok,u,if_true,za1,zgr,hF]
 rw[hput _ _ _ _ (Nat.zero_le _)]
 rfl
theorem zjB{fa:De}{fr:DA}{ρ ρ1 ρ2:Ev}{d:Dt}{ds:List Dt}(h1:fa ρ=.ok (d,ρ1))(h2:fr ρ1=.ok (ds,ρ2)):dA fa fr ρ=.ok (d::ds,ρ2):=by
 unfold dA
 rw[h1];simp only[R.bind_ok]
 rw[h2];rfl
theorem zod{f:DA}{ρ ρ1:Ev}{ds:List Dt}(h:f ρ=.ok (ds,ρ1))(hl:ds.length<=16777216):zc9 f ρ=.ok (ds,ρ1):=by
 unfold zc9
 rw[h];simp only[R.bind_ok]
 rw[if_pos (by unfold zd2;simpa using hl)]
theorem zop{f:DA}{ρ ρ1:Ev}{ds:List Dt}(h:f ρ=.ok (ds,ρ1))(hl:ds.length<=16777216):zlg f ρ=.ok (.tup ds,ρ1):=by
 unfold zlg
 rw[h];simp only[R.bind_ok]
 rw[if_pos (by unfold zd2;simpa using hl)]
theorem zmU{ns:List Int}{k:Nat}:∃ c:Int,zco [.val (.scr ns),.val (.int k)]=.ok (.int c,[.val .non,.val .non]):=by
 have e0:dTB (dOp gLt (zab 1) (dFn zca (dA (zab 0) dA0))) [some (.val (.scr ns)),some (.val (.int k))]=.ok (decide ((k:Int)<ns.length),[some (.val (.scr ns)),some (.val (.int k))]):=zaA (zat (d:=.int k) (e:=.int ns.length) rfl rfl rfl)
 by_cases h:k<ns.length
 ·refine ⟨ns[k],zao (ρ':=[some (.val (.scr ns)),some (.val (.int k))]) rfl ?_ rfl⟩
  show zbJ [some (.val (.scr ns)),some (.val (.int k))]=_
  unfold zbJ
  refine zcg ?_
  rw[zds (by rw[e0,decide_eq_true (by omega)])]
  refine zaW (zat (d:=.scr ns) (e:=.int k) rfl rfl ?_)
  unfold gIx
  simp only[ziF (l:=ns) (v:=(k:Int)) (by omega) (by omega),Int.toNat_natCast,List.getElem?_eq_getElem h]
 ·refine ⟨0,zao (ρ':=[some (.val (.scr ns)),some (.val (.int k))]) rfl ?_ rfl⟩
  show zbJ [some (.val (.scr ns)),some (.val (.int k))]=_
  unfold zbJ
  rw[zak (ρ1:=[some (.val (.scr ns)),some (.val (.int k))]) (by rw[zbA (by rw[e0,decide_eq_false (by omega)])];rfl)]
  rfl
theorem zlU{ns:List Int}{k:Nat}:∃ st,St st/\zc3 [.val (.scr ns),.val (.int k)]=.ok (.lst st,[.val .non,.val .non]):=by
 obtain ⟨c,hc⟩:=zmU (ns:=ns) (k:=k)
 have e1:zb6 2 (zae zco (dR (zab 0) (dR (zab 1) dR0))) [some (.val (.scr ns)),some (.val (.int k)),none]=.ok (.nx,[some (.val (.scr ns)),some (.val (.int k)),some (.val (.int c))]):=zbm (zdz (ρ':=[some (.val (.scr ns)),some (.val (.int k)),none]) (ρ'':=[some (.val (.scr ns)),some (.val (.int k)),none]) rfl rfl hc) (by simp)
 have ep:dOp zpg (dC (.int 10)) (dC (.int 18)) [some (.val (.scr ns)),some (.val (.int k)),some (.val (.int c))]=.ok (.int 1000000000000000000,[some (.val (.scr ns)),some (.val (.int k)),some (.val (.int c))]):=by
  refine zat rfl rfl ?_
  show (if 0<=(18:Int)/\(18:Int)<=1000/\(10:Int).natAbs<18446744073709551616 then R.ok (Dt.int ((10:Int) ^ (18:Int).toNat)) else R.no)=_
  rw[if_pos (by decide)]
  rfl
 have e2:dTB (dOp gGe (zab 2) (dOp zpg (dC (.int 10)) (dC (.int 18)))) [some (.val (.scr ns)),some (.val (.int k)),some (.val (.int c))]=.ok (decide ((1000000000000000000:Int)<=c),[some (.val (.scr ns)),some (.val (.int k)),some (.val (.int c))]):=zaA (zat (d:=.int c) rfl ep rfl)
 by_cases h:(1000000000000000000:Int)<=c
 ·refine ⟨[.int (c-1000000000000000000),.bl true],⟨_,_,rfl⟩,zao (ρ':=[some (.val (.scr ns)),some (.val (.int k)),some (.val (.int c))]) rfl ?_ rfl⟩
  show zcu [some (.val (.scr ns)),some (.val (.int k)),none]=_
  unfold zcu
  rw[zak e1]
  refine zcg ?_
  rw[zds (by rw[e2,decide_eq_true h])]
  unfold zfd zc9
  rw[dA,zat (d:=.int c) (z:=.int (c-1000000000000000000)) rfl ep rfl]
  rfl
 ·refine ⟨[.int (c % 2147483647),.bl false],⟨_,_,rfl⟩,zao (ρ':=[some (.val (.scr ns)),some (.val (.int k)),some (.val (.int c))]) rfl ?_ rfl⟩
  show zcu [some (.val (.scr ns)),some (.val (.int k)),none]=_
  unfold zcu
  rw[zak e1,zak (ρ1:=[some (.val (.scr ns)),some (.val (.int k)),some (.val (.int c))]) (by rw[zbA (by rw[e2,decide_eq_false h])];rfl)]
  unfold zfd zc9
  rw[dA,zat (d:=.int c) (z:=.int (c % 2147483647)) rfl rfl rfl]
  rfl
theorem zt6{F:FD}{fa fb:De}{ρ ρ' ρ'':Ev}{d e:Dt}{y:List Dt}{l:List B}(h:fa ρ=.ok (d,ρ'))(h2:fb ρ'=.ok (e,ρ''))(hF:F [.val d,.val e]=.ok (.lst y,l)):zgc F (dR fa (dR fb dR0)) ρ=.ok (y,ρ''):=by
 unfold zgc dR dR0
 rw[h]
 simp only[R.bind_ok,h2,zkm,zaZ,if_true,za1,hF]
 rw[zkz]
theorem zll{g:DG}{body:DS}{I:Ev->Prop}:∀{ds:List Dt}{ρ:Ev},(∀ d∈ds,∀ ρ,I ρ->∃ ρ1 ρ2,g d ρ=.ok ρ1/\body ρ1=.ok (.nx,ρ2)/\I ρ2)->I ρ->∃ ρ',I ρ'/\zmz g body ds ρ=.ok (.nx,ρ')
 |[],ρ,_,h=>⟨ρ,h,rfl⟩
 |d::ds,ρ,hb,h=>by
  obtain ⟨ρ1,ρ2,e1,e2,h2⟩:=hb d (by simp) ρ h
  obtain ⟨ρ',h',e⟩:=zll (ds:=ds) (ρ:=ρ2) (fun c hc=>hb c (List.mem_cons_of_mem _ hc)) h2
  refine ⟨ρ',h',?_⟩
  rw[zmz,e1]
  simp only[R.bind_ok]
  rw[e2]
  exact e
theorem zfo{F:FD}{fa fb:De}{ρ ρ' ρ'':Ev}{d e:Dt}{n:Nat}(h:fa ρ=.ok (d,ρ'))(h2:fb ρ'=.ok (e,ρ''))(hF:F [.val d,.val e]=.er n):zae F (dR fa (dR fb dR0)) ρ=.er n:=by
 unfold zae dR dR0
 rw[h]
 simp only[R.bind_ok,h2,zkm,zaZ,if_true,za1,hF,R.bind_er]
def tz(p:List Int):Dt:=.tup (p.map .int)
theorem zjZ(l:List Int)(n:Nat):(l.map Dt.int).all (okN n)=true:=by
 rw[List.all_eq_true]
 intro d hd
 obtain ⟨i,_,rfl⟩:=List.mem_map.mp hd
 cases n <;> rfl
theorem zqI{α:Type}{l:List α}{f m:Nat}(h:f<=l.length):zmy l (some (f:Int)) (some ((f:Int)+m))=(l.drop f).take m:=by
 unfold zmy
 rw[show (f:Int)+m=((f+m:Nat):Int) from rfl,HT.sIx_nat,HT.sIx_nat,Nat.min_eq_left h]
 by_cases z:f+m<=l.length
 ·rw[Nat.min_eq_left z,show f+m-f=m by omega]
 ·rw[Nat.min_eq_right (by omega),List.take_of_length_le (by simp),List.take_of_length_le (by simp;omega)]
theorem znF{m:Nat}(hm:m<=1000):zf1 (m:Int)=true:=by
 unfold zf1
 rw[Bool.and_eq_true,decide_eq_true_eq,decide_eq_true_eq]
 omega
def Pty(n:Nat)(p:List Int):Prop:=p≠[]/\p.Pairwise (· < ·)/\∀ x∈p,0<=x/\x<n
theorem zlD{ft:DT}{zbr:Ev}:∀{l:List Dt}{st:List Dt}{o:Option B},(∀ d∈l,∀ st,St st->∃ b st',St st'/\ft (some (.own st)::(zbr++[some (.val d)]))=.ok (b,some (.own st')::(zbr++[some (.val d)])))->St st ->
  ∃ ys st' o',St st'/\ys.Sublist l/\zb7 (zbz (zbr.length+1)) ft (zab (zbr.length+1)) l (some (.own st)::(zbr++[o]))=.ok (ys,some (.own st')::(zbr++[o']))
 |[],st,o,_,hs=>⟨[],st,o,hs,.slnil,rfl⟩
 |d::l,st,o,h,hs=>by
  obtain ⟨b,st1,hs1,e1⟩:=h d (by simp) st hs
  obtain ⟨ys,st',o',hs',hp,e⟩:=zlD (l:=l) (st:=st1) (o:=some (.val d)) (fun b hb=>h b (List.mem_cons_of_mem _ hb)) hs1
  have hv:zab (zbr.length+1) (some (.own st1)::(zbr++[some (.val d)]))=.ok (d,some (.own st1)::(zbr++[some (.val d)])):=by
   simp[zab]
  cases b with
  |true =>
   refine ⟨d::ys,st',o',hs',hp.cons_cons d,?_⟩
   rw[zb7,ziN]
   simp only[R.bind_ok]
   rw[e1]
   simp only[R.bind_ok,if_true]
   rw[hv]
   simp only[R.bind_ok]
   rw[e]
   rfl
  |false =>
   refine ⟨ys,st',o',hs',hp.cons d,?_⟩
   rw[zb7,ziN]
   simp only[R.bind_ok]
   rw[e1]
   simp only[R.bind_ok,Bool.false_eq_true,if_false]
   exact e
theorem zn4(n:Nat):(zbj n).Pairwise (· < ·):=by
 unfold zbj
 rw[List.pairwise_map]
 refine List.Pairwise.imp (R:=fun a b=>a<b) (fun {a b} h=>by omega) List.pairwise_lt_range
theorem zke{zbr:Ev}{st:List Dt}{fb:De}{m:Int}{v:Int}{st':List Dt}(e:zac [.own st,.val (.int m)]=.ok (.int v,[.own st',.val .non]))(h:fb (some (.own st)::zbr)=.ok (.int m,some (.own st)::zbr)):zae zac (dRO 0 (dR fb dR0)) (some (.own st)::zbr)=.ok (.int v,some (.own st')::zbr) :=
 zf8 (ρ:=some (.own st)::zbr) rfl h e
theorem zr1{α:Type}{l:List α}(h:l.length<=1000):zd2 l=true:=by
 unfold zd2
 rw[decide_eq_true_eq]
 omega
def zuG(j:Int)(ρ:Ev):R (List Dt×Ev):=if zf1 j=true then .ok (zaR 0 j.toNat,ρ) else .no
theorem zrw{j:Int}{ρ:Ev}(h:zf1 j=true):zuG j ρ=.ok (zaR 0 j.toNat,ρ):=if_pos h
theorem zt0{fa:De}{ρ ρ1:Ev}{j:Int}(h:fa ρ=.ok (.int j,ρ1)):zcb fa ρ=zuG j ρ1:=by
 unfold zcb zuG
 rw[h]
 rfl
theorem zi8{fa:De}{ρ ρ1:Ev}{j:Nat}(h:fa ρ=.ok (.int j,ρ1))(hj:j<=1000):zcb fa ρ=.ok (zaR 0 j,ρ1):=by
 rw[zt0 h,zrw (znF hj),Int.toNat_natCast]
theorem zmg{n:Nat}{st:List Dt}(h1:1<=n)(h7:n<=7)(hs:St st):∃ p st',St st'/\Pty n p/\zbp [.own st,.val (.int n)]=.ok (tz p,[.own st',.val .non]):=by
 obtain ⟨ys,st1,o',hs1,hsub,e⟩:=zlD (ft:=dTB (dOp (gEq false) (zae zac (dRO 0 (dR (dC (.int 2)) dR0))) (dC (.int 1)))) (zbr:=[some (.val (.int n)),none]) (l:=zaR 0 n) (st:=st) (o:=none) (fun d _ st hs=>by
  obtain ⟨v,st',e,hs',v0,v1⟩:=zba (m:=2) hs (by decide) (by decide)
  exact ⟨v == 1,st',hs',zaA (zat (zke e rfl) rfl (by rw[zn3];rfl))⟩) hs
 rw[zl9] at hsub
 obtain ⟨zs,hz,rfl⟩:=List.sublist_map_iff.mp hsub
 let ρ0:Ev:=[some (.own st),some (.val (.int n)),none]
 have hc:zaH (zcb (zab 1)) (zbz 3) (dTB (dOp (gEq false) (zae zac (dRO 0 (dR (dC (.int 2)) dR0))) (dC (.int 1)))) (zab 3) 1 ρ0=.ok (zs.map .int,[some (.own st1),some (.val (.int n)),none]):=by
  unfold zaH
  rw[show zcb (zab 1) ρ0=.ok (zaR 0 n,ρ0) from zi8 (j:=n) rfl (by omega)]
  simp only[R.bind_ok]
  rw[if_pos (zr1 (by unfold zaR;rw[List.length_map,List.length_range];omega))]
  show (match zb7 (zbz 3) _ (zab 3) (zaR 0 n) [some (.own st),some (.val (.int n)),none,none] with|.ok z=>R.ok (z.1,z.2.take 3)|_=>.no)=_
  have e':zb7 (zbz 3) (dTB (dOp (gEq false) (zae zac (dRO 0 (dR (dC (.int 2)) dR0))) (dC (.int 1)))) (zab 3) (zaR 0 n) [some (.own st),some (.val (.int n)),none,none]=_:=e
  rw[e']
  rfl
 have e1:zb6 2 (dFn zda (dA (dFz (zaH (zcb (zab 1)) (zbz 3) (dTB (dOp (gEq false) (zae zac (dRO 0 (dR (dC (.int 2)) dR0))) (dC (.int 1)))) (zab 3) 1)) dA0)) ρ0=.ok (.nx,[some (.own st1),some (.val (.int n)),some (.val (tz zs))]) :=
  zbm (i:=2) (zbK (zb0 hc) rfl) (by simp)
 have hpw:zs.Pairwise (· < ·):=(zn4 n).sublist hz
 have hin:∀ x∈zs,0<=x/\x<n:=fun x hx=>zdw.mp (hz.subset hx)
 cases zs with
 |nil =>
  obtain ⟨v,st2,e2,hs2,v0,v1⟩:=zba (m:=(n:Nat)) hs1 (by omega) (by omega)
  refine ⟨[v],st2,hs2,⟨by simp,by simp,fun x hx=>(by have:x=v:=(by simpa using hx);omega)⟩,zao (ρ':=[some (.own st2),some (.val (.int n)),some (.val (tz []))]) rfl ?_ rfl⟩
  show zc2 ρ0=_
  unfold zc2
  rw[zak e1]
  refine zcg ?_
  have hc:dTB (dOp (gEq false) (zab 2) (zlg dA0)) [some (.own st1),some (.val (.int n)),some (.val (tz []))]=.ok (true,[some (.own st1),some (.val (.int n)),some (.val (tz []))]):=by
   refine zaA (zat (d:=tz []) (e:=.tup []) (ρ1:=[some (.own st1),some (.val (.int n)),some (.val (tz []))]) rfl rfl ?_)
   rw[zbx rfl rfl]
   show R.ok (Dt.bl (eqD (.tup []) (.tup [])))=_
   rw[eqD,zl3]
  rw[zds hc]
  exact zaW (zop (zjB (zke e2 rfl) rfl) (by simp))
 |cons a r =>
  refine ⟨a::r,st1,hs1,⟨by simp,hpw,hin⟩,zao (ρ':=[some (.own st1),some (.val (.int n)),some (.val (tz (a::r)))]) rfl ?_ rfl⟩
  show zc2 ρ0=_
  unfold zc2
  rw[zak e1]
  have hc:dTB (dOp (gEq false) (zab 2) (zlg dA0)) [some (.own st1),some (.val (.int n)),some (.val (tz (a::r)))]=.ok (false,[some (.own st1),some (.val (.int n)),some (.val (tz (a::r)))]):=by
   refine zaA (zat (d:=tz (a::r)) (e:=.tup []) (ρ1:=[some (.own st1),some (.val (.int n)),some (.val (tz (a::r)))]) rfl rfl ?_)
   rw[zbx (by show okN 60 (.tup ((a::r).map .int))=true;simp[okN]) rfl]
   show R.ok (Dt.bl (eqD (.tup ((a::r).map .int)) (.tup [])))=_
   rw[eqD,List.map_cons,zl3]
   all_goals (intros;simp at *)
  rw[zak (ρ1:=[some (.own st1),some (.val (.int n)),some (.val (tz (a::r)))]) (by rw[zbA hc];rfl)]
  rfl
theorem zot{n:Nat}{st:List Dt}{row:List Int}(h1:1<=n)(h7:n<=7)(hr:row.Perm (zbj n))(hs:St st):∃ p st',St st'/\Pty n p/\zbu [.own st,.val (.lst (row.map .int))]=.ok (tz p,[.own st',.val .non]):=by
 have hlen:row.length=n:=by rw[hr.length_eq,zbU]
 obtain ⟨v,st1,e1,hs1,v0,v1⟩:=zba (m:=(n:Nat)) hs (by omega) (by omega)
 obtain ⟨f,hf⟩ : ∃ f:Nat,v=f:=⟨v.toNat,by omega⟩
 subst hf
 obtain ⟨w,st2,e2,hs2,w0,w1⟩:=zba (m:=(n:Nat)-(f:Nat)) hs1 (by omega) (by omega)
 obtain ⟨m,hm⟩ : ∃ m:Nat,w=m:=⟨w.toNat,by omega⟩
 subst hm
 let q:=(row.drop f).take (1+m)
 have hqs:q.Sublist row:=(List.take_sublist _ _).trans (List.drop_sublist _ _)
 have hqne:q≠[]:=by
  intro z
  have:q.length=0:=by rw[z];rfl
  simp only[q,List.length_take,List.length_drop] at this
  omega
 have hql:q.length<=7:=by have:=hqs.length_le;omega
 have hnd:q.Nodup:=(hr.nodup_iff.mpr (zga n)).sublist hqs
 have hsp:=zcl q
 have hlt:(zfk q).Pairwise (· < ·):=by
  have h1:=zem q
  have h2:(zfk q).Nodup:=hsp.nodup_iff.mpr hnd
  exact List.Pairwise.imp₂ (fun a b hab hne=>by omega) h1 h2
 refine ⟨zfk q,st2,hs2,⟨fun z=>hqne (by rw[z] at hsp;exact hsp.symm.eq_nil),hlt,fun x hx=>zdw.mp (hr.mem_iff.mp (hqs.subset (hsp.mem_iff.mp hx)))⟩,?_⟩
 let L:Option B:=some (.val (.lst (row.map .int)))
 have x1:zb6 2 (zae zac (dRO 0 (dR (dFn zca (dA (zab 1) dA0)) dR0))) [some (.own st),L,none]=.ok (.nx,[some (.own st1),L,some (.val (.int f))]):=by
  refine zbm (i:=2) (ρ1:=[some (.own st1),L,none]) (zke e1 ?_) (by simp)
  refine zbK (d:=.lst (row.map .int)) rfl ?_
  rw[zca,List.length_map,hlen]
 refine zao (ρ':=[some (.own st2),L,some (.val (.int f))]) rfl ?_ rfl
 show zeX [some (.own st),L,none]=_
 unfold zeX
 rw[zak x1]
 have hi:dOp zb4 (dOp zb4 (zab 2) (dC (.int 1))) (zae zac (dRO 0 (dR (dOp zhm (dFn zca (dA (zab 1) dA0)) (zab 2)) dR0))) [some (.own st1),L,some (.val (.int f))]=.ok (.int ((f:Int)+((1+m:Nat):Int)),[some (.own st2),L,some (.val (.int f))]):=by
  refine zat (d:=.int ((f:Int)+1)) (ρ1:=[some (.own st1),L,some (.val (.int f))]) rfl (zke e2 ?_) (e:=.int m) ?_
  ·refine zat (d:=.int n) (e:=.int f) (ρ1:=[some (.own st1),L,some (.val (.int f))]) (zbK (d:=.lst (row.map .int)) rfl ?_) rfl rfl
   rw[zca,List.length_map,hlen]
  ·show R.ok (Dt.int ((f:Int)+1+m))=_
   congr 2
   omega
 have ecut:dFz (znG (zab 1) (dO1 (zab 2)) (dO1 (dOp zb4 (dOp zb4 (zab 2) (dC (.int 1))) (zae zac (dRO 0 (dR (dOp zhm (dFn zca (dA (zab 1) dA0)) (zab 2)) dR0)))))) [some (.own st1),L,some (.val (.int f))]=.ok (.lst (q.map .int),[some (.own st2),L,some (.val (.int f))]):=by
  refine zb0 ?_
  unfold znG
  show ((dO1 (dOp zb4 (dOp zb4 (zab 2) (dC (.int 1))) (zae zac (dRO 0 (dR (dOp zhm (dFn zca (dA (zab 1) dA0)) (zab 2)) dR0)))) [some (.own st1),L,some (.val (.int f))]).bind fun h=>R.ok (zmy (row.map Dt.int) (some (f:Int)) h.1,h.2))=_
  unfold dO1
  rw[hi]
  simp only[R.bind_ok]
  rw[zqI (by simp;omega),List.map_take,List.map_drop]
 have esort:dFz (zoK zfY (dA (dFz (znG (zab 1) (dO1 (zab 2)) (dO1 (dOp zb4 (dOp zb4 (zab 2) (dC (.int 1))) (zae zac (dRO 0 (dR (dOp zhm (dFn zca (dA (zab 1) dA0)) (zab 2)) dR0))))))) dA0)) [some (.own st1),L,some (.val (.int f))]=.ok (.lst ((zfk q).map .int),[some (.own st2),L,some (.val (.int f))]):=by
  refine zb0 ?_
  unfold zoK
  rw[zjB ecut rfl]
  simp only[R.bind_ok]
  unfold zfY
  simp only[znM]
  rw[if_pos (by omega)]
  rfl
 exact zaW (zbK esort rfl)
def zki(n:Nat)(ps:List (List Int)):Prop:=∀ p∈ps,Pty n p
def lp(ps:List (List Int)):List Dt:=ps.map tz
theorem zfw{α β:Type}{P:β->Prop}:∀{l:List α}{r:List β},Paired (fun _ y=>P y) l r->∀ y∈r,P y
 |_,_,.nil=>by simp
 |_,_,.cons h t=>by
  intro y hy
  rcases List.mem_cons.mp hy with rfl|hy
  ·exact h
  ·exact zfw t y hy
theorem zoZ{n:Nat}{st:List Dt}(h7:n<=7)(hs:St st):∃(row:List Int)(st':List Dt),St st'/\row.Perm (zbj n)/\zaL [.own st,.val (.lst ((zbj n).map .int))]=.ok (.lst (row.map .int),[.own st',.val .non]):=by
 obtain ⟨st',p,hs',hp,e⟩:=zhK (l:=(zbj n).map .int) hs (by rw[List.length_map,zbU];omega) (fun d hd=>by
  obtain ⟨i,_,rfl⟩:=List.mem_map.mp hd
  rfl)
 obtain ⟨q,hq,rfl⟩:=zfT hp
 exact ⟨q,st',hs',hq,e⟩
theorem zoa{fa:De}{ρ ρ1:Ev}{n:Nat}(h:fa ρ=.ok (.int n,ρ1))(hn:n<=1000):zi0 fa ρ=.ok ((zbj n).map .int,ρ1):=by
 have hc:(0:Int)<=n/\(n:Int)<=16777216:=by omega
 unfold zi0
 rw[h]
 show (if 0<=(n:Int)/\(n:Int)<=16777216 then R.ok (zaR 0 (n:Int).toNat,ρ1) else .no)=_
 rw[if_pos hc,Int.toNat_natCast,zl9]
theorem ztP{n:Nat}{row:List Int}{st:List Dt}{o1 o2:Option B}{zbr:Ev}(h1:1<=n)(h7:n<=7)(hr:row.Perm (zbj n))(hs:St st):∃ p st',St st'/\Pty n p/\zae zbu (dRO 0 (dR (zab 3) dR0)) (some (.own st)::o1::o2::some (.val (.lst (row.map .int)))::zbr)=.ok (tz p,some (.own st')::o1::o2::some (.val (.lst (row.map .int)))::zbr):=by
 obtain ⟨p,st',hs',hp,e⟩:=zot (st:=st) h1 h7 hr hs
 exact ⟨p,st',hs',hp,zf8 (ρ:=some (.own st)::o1::o2::some (.val (.lst (row.map .int)))::zbr) rfl rfl e⟩
theorem zqv{n:Nat}{st:List Dt}{zbr:Ev}(h1:1<=n)(h7:n<=7)(hs:St st):∃ p st',St st'/\Pty n p/\zae zbp (dRO 0 (dR (zab 1) dR0)) (some (.own st)::some (.val (.int n))::zbr)=.ok (tz p,some (.own st')::some (.val (.int n))::zbr):=by
 obtain ⟨p,st',hs',hp,e⟩:=zmg (st:=st) h1 h7 hs
 exact ⟨p,st',hs',hp,zf8 (ρ:=some (.own st)::some (.val (.int n))::zbr) rfl rfl e⟩
theorem ztC{i:Nat}{fk fv:De}{ρ ρ1 ρ2:Ev}{l0 ds:List Dt}{k:Nat}{v:Dt}(h0:ρ[i]? = some (some (.own l0)))(h1:fk ρ=.ok (.int k,ρ1))(h2:fv ρ1=.ok (v,ρ2))(h3:ρ2[i]? = some (some (.own ds)))(hk:k<=ds.length)(hl:ds.length<=1000) :
  zlZ i fk fv ρ=.ok (.non,ρ2.set i (some (.own (ds.take k++v::ds.drop k)))):=by
 have hc:(0:Int)<=k/\(k:Int)<=ds.length/\ds.length<16777216:=by omega
 unfold zlZ
 rw[h0]
 simp only[h1,R.bind_ok,h2,h3]
 rw[if_pos hc,Int.toNat_natCast]
theorem zjz{n:Nat}{st:List Dt}(h1:1<=n)(h7:n<=7)(hs:St st):∃ ps st',St st'/\zki n ps/\ps.length<=8/\zbL [.own st,.val (.int n),.val (.int 8)]=.ok (.lst (lp ps),[.own st',.val .non,.val .non]):=by
 obtain ⟨row,st1,hs1,hr,er⟩:=zoZ (n:=n) h7 hs
 obtain ⟨way,st2,ew,hs2,w0,w1⟩:=zba (m:=4) hs1 (by decide) (by decide)
 obtain ⟨c,st3,ec,hs3,c0,c1⟩:=zba (m:=9) hs2 (by decide) (by decide)
 let N:Option B:=some (.val (.int n))
 let M:Option B:=some (.val (.int 8))
 let L:Option B:=some (.val (.lst (row.map .int)))
 let W:Option B:=some (.val (.int way))
 have x1:zb6 3 (zae zaL (dRO 0 (dR (dFz (zi0 (zab 1))) dR0))) [some (.own st),N,M,none,none,none]=.ok (.nx,[some (.own st1),N,M,L,none,none]) :=
  zbm (i:=3) (zf8 (ρ:=[some (.own st),N,M,none,none,none]) rfl (zb0 (zoa rfl (by omega))) er) (by simp)
 have x2:zb6 4 (zae zac (dRO 0 (dR (dC (.int 4)) dR0))) [some (.own st1),N,M,L,none,none]=.ok (.nx,[some (.own st2),N,M,L,W,none]) :=
  zbm (i:=4) (zke ew rfl) (by simp)
 obtain ⟨cn,hcn⟩ : ∃ cn:Nat,c=cn:=⟨c.toNat,by omega⟩
 subst hcn
 obtain ⟨ps,st4,hs4,hp4,e4⟩:=ziU (α:=Nat) (β:=List Int) (Rl:=fun _ p=>Pty n p) (u:=fun k=>.int (0+(k:Nat))) (v:=tz) (fe:=zae zbu (dRO 0 (dR (zab 3) dR0))) (zbr:=[N,M,L,W,none]) (fi:=zcb (zae zac (dRO 0 (dR (dOp zb4 (zab 2) (dC (.int 1))) dR0)))) (ρ:=[some (.own st2),N,M,L,W,none]) (l:=List.range cn) (ds:=zaR 0 cn) (st:=st3) (j:=6)
  (zi8 (zke ec rfl) (by omega)) rfl (by rw[List.length_range];omega) rfl (fun a _ st hs=>by
   obtain ⟨p,st',hs',hp,e⟩:=ztP (o1:=N) (o2:=M) (zbr:=[W,none,some (.val (.int (0+(a:Nat))))]) h1 h7 hr hs
   exact ⟨p,st',hs',hp,e⟩) hs3
 have hps4:zki n ps:=zfw hp4
 have hl4:ps.length<=8:=by have:=zdt hp4;rw[List.length_range] at this;omega
 have x3:zbO 5 (zaH (zcb (zae zac (dRO 0 (dR (dOp zb4 (zab 2) (dC (.int 1))) dR0)))) (zbz 6) dTT (zae zbu (dRO 0 (dR (zab 3) dR0))) 1) [some (.own st2),N,M,L,W,none]=.ok (.nx,[some (.own st4),N,M,L,W,some (.own (lp ps))]):=zir (i:=5) e4 (by simp)
 have hlp:∀ ps:List (List Int),(lp ps).length=ps.length:=fun ps=>by unfold lp;simp
 obtain ⟨ps5,st5,hs5,hps5,hl5,x4⟩ : ∃ ps5 st5,St st5/\zki n ps5/\ps5.length<=8/\dIf (ze8 (dTB (dOp (gEq false) (zab 4) (dC (.int 1)))) (dTB (dOp gLt (zcy 5) (zab 2)))) (dEx (zlZ 5 (zae zac (dRO 0 (dR (dOp zb4 (zcy 5) (dC (.int 1))) dR0))) (zae zbp (dRO 0 (dR (zab 1) dR0))))) dNx [some (.own st4),N,M,L,W,some (.own (lp ps))]=.ok (.nx,[some (.own st5),N,M,L,W,some (.own (lp ps5))]):=by
  have t1:dTB (dOp (gEq false) (zab 4) (dC (.int 1))) [some (.own st4),N,M,L,W,some (.own (lp ps))]=.ok (way == 1,[some (.own st4),N,M,L,W,some (.own (lp ps))]):=zaA (zat (d:=.int way) rfl rfl (by rw[zn3];rfl))
  cases hw:(way == 1) with
  |false =>
   rw[hw] at t1
   exact ⟨ps,st4,hs4,hps4,hl4,by rw[zbA (ziA t1)];rfl⟩
  |true =>
   rw[hw] at t1
   have t2:dTB (dOp gLt (zcy 5) (zab 2)) [some (.own st4),N,M,L,W,some (.own (lp ps))]=.ok (decide ((ps.length:Int)<8),[some (.own st4),N,M,L,W,some (.own (lp ps))]):=by
    refine zaA (zat (d:=.int ps.length) (e:=.int 8) (ρ1:=[some (.own st4),N,M,L,W,some (.own (lp ps))]) ?_ rfl rfl)
    simp[zcy,hlp]
   by_cases hlt:(ps.length:Int)<8
   ·rw[decide_eq_true hlt] at t2
    obtain ⟨v,st5,e5,hs5,v0,v1⟩:=zba (m:=(ps.length:Int)+1) hs4 (by omega) (by omega)
    obtain ⟨k,hk⟩ : ∃ k:Nat,v=k:=⟨v.toNat,by omega⟩
    subst hk
    obtain ⟨p,st6,hs6,hp6,e6⟩:=zqv (zbr:=[M,L,W,some (.own (lp ps))]) h1 h7 hs5
    refine ⟨ps.take k++p::ps.drop k,st6,hs6,?_,by simp;omega,?_⟩
    ·intro q hq
     rcases List.mem_append.mp hq with h|h
     ·exact hps4 q (List.mem_of_mem_take h)
     ·rcases List.mem_cons.mp h with rfl|h
      ·exact hp6
      ·exact hps4 q (List.mem_of_mem_drop h)
    ·rw[zds (by rw[zeG t1];exact t2)]
     have el:dOp zb4 (zcy 5) (dC (.int 1)) [some (.own st4),N,M,L,W,some (.own (lp ps))]=.ok (.int ((ps.length:Int)+1),[some (.own st4),N,M,L,W,some (.own (lp ps))]):=by
      refine zat (d:=.int ps.length) (e:=.int 1) (ρ1:=[some (.own st4),N,M,L,W,some (.own (lp ps))]) ?_ rfl rfl
      simp[zcy,hlp]
     refine zd8 (d:=.non) ?_
     have:=ztC (i:=5) (ρ:=[some (.own st4),N,M,L,W,some (.own (lp ps))]) (l0:=lp ps) (ds:=lp ps) rfl (zke e5 el) e6 rfl (by rw[hlp];omega) (by rw[hlp];omega)
     have hmap:lp (ps.take k++p::ps.drop k)=(lp ps).take k++tz p::(lp ps).drop k:=by
      unfold lp
      rw[List.map_append,List.map_cons,List.map_take,List.map_drop]
     rw[hmap]
     exact this
   ·rw[decide_eq_false hlt] at t2
    exact ⟨ps,st4,hs4,hps4,hl4,by rw[zbA (by rw[zeG t1];exact t2)];rfl⟩
 obtain ⟨ps6,st6,hs6,hps6,hl6,x5⟩ : ∃ ps6 st6,St st6/\zki n ps6/\ps6.length<=8/\dIf (dTB (dOp gGt (zab 4) (dC (.int 1)))) (zbO 5 (zaH (dIt (ziV 5)) (zbz 6) dTT (dOp gIx (dFz (zc9 (dA (zae zbu (dRO 0 (dR (zab 3) dR0))) (dA (zae zbp (dRO 0 (dR (zab 1) dR0))) dA0)))) (zae zac (dRO 0 (dR (dC (.int 2)) dR0)))) 1)) dNx [some (.own st5),N,M,L,W,some (.own (lp ps5))]=.ok (.nx,[some (.own st6),N,M,L,W,some (.own (lp ps6))]):=by
  have t1:dTB (dOp gGt (zab 4) (dC (.int 1))) [some (.own st5),N,M,L,W,some (.own (lp ps5))]=.ok (decide (1<way),[some (.own st5),N,M,L,W,some (.own (lp ps5))]):=zaA (zat (d:=.int way) rfl rfl rfl)
  by_cases hw:1<way
  ·rw[decide_eq_true hw] at t1
   obtain ⟨qs,st6,hs6,hp6,e6⟩:=ziU (α:=List Int) (β:=List Int) (Rl:=fun _ p=>Pty n p) (u:=tz) (v:=tz) (fe:=dOp gIx (dFz (zc9 (dA (zae zbu (dRO 0 (dR (zab 3) dR0))) (dA (zae zbp (dRO 0 (dR (zab 1) dR0))) dA0)))) (zae zac (dRO 0 (dR (dC (.int 2)) dR0)))) (zbr:=[N,M,L,W,some (.val (.lst (lp ps5)))]) (fi:=dIt (ziV 5)) (ρ:=[some (.own st5),N,M,L,W,some (.own (lp ps5))]) (l:=ps5) (ds:=lp ps5) (st:=st5) (j:=6)
    rfl rfl (by omega) rfl (fun a _ st hs=>by
     obtain ⟨p,sta,hsa,hpa,ea⟩:=ztP (o1:=N) (o2:=M) (zbr:=[W,some (.val (.lst (lp ps5))),some (.val (tz a))]) h1 h7 hr hs
     obtain ⟨q,stb,hsb,hpb,eb⟩:=zqv (zbr:=[M,L,W,some (.val (.lst (lp ps5))),some (.val (tz a))]) h1 h7 hsa
     obtain ⟨v,stc,ec,hsc,v0,v1⟩:=zba (m:=2) hsb (by decide) (by decide)
     have hlst:=zb0 (zod (ds:=[tz p,tz q]) (zjB ea (zjB (fr:=dA0) eb rfl)) (by simp))
     have htk:=zke (zbr:=[N,M,L,W,some (.val (.lst (lp ps5))),some (.val (tz a))]) (fb:=dC (.int 2)) ec rfl
     rcases (by omega:v=0\/v=1) with rfl|rfl
     ·exact ⟨p,stc,hsc,hpa,zat hlst htk rfl⟩
     ·exact ⟨q,stc,hsc,hpb,zat hlst htk rfl⟩) hs5
   refine ⟨qs,st6,hs6,zfw hp6,by have:=zdt hp6;omega,?_⟩
   rw[zds t1]
   exact zir (i:=5) e6 (by simp)
  ·rw[decide_eq_false hw] at t1
   exact ⟨ps5,st5,hs5,hps5,hl5,by rw[zbA t1];rfl⟩
 refine ⟨ps6,st6,hs6,hps6,hl6,zao (ρ':=[some (.own st6),N,M,L,W,some (.val (.lst (lp ps6)))]) rfl ?_ rfl⟩
 show zdm [some (.own st),N,M,none,none,none]=_
 unfold zdm
 rw[zak x1,zak x2,zak x3,zak x4,zak x5]
 rfl
theorem zlI{α:Type}(f:α->Bool):∀ l:List α,ze5 (l.map fun d=>.bl (f d))=some (l.map f)
 |[]=>rfl
 |a::r=>by rw[List.map_cons,ze5,zlI f r];rfl
theorem zkZ{α:Type}(f:α->Bool)(l:List α):zlE [.lst (l.map fun d=>.bl (f d))]=.ok (.bl (l.all f)):=by
 unfold zlE
 simp only[zlI]
 rw[List.all_map]
 rfl
theorem zi1:∀ l:List Int,l.Pairwise (· < ·) ↔ ∀ k (h:k+1<l.length),l[k]<l[k+1]
 |[]=>by simp
 |[a]=>by simp
 |a::b::r=>by
  rw[List.pairwise_cons,zi1 (b::r)]
  constructor
  ·rintro ⟨h1,h2⟩ k hk
   cases k with
   |zero=>exact h1 b (by simp)
   |succ k=>exact h2 k (by simpa using hk)
  ·intro h
   have h2:∀ k (hk:k+1<(b::r).length),(b::r)[k]<(b::r)[k+1]:=fun k hk=>h (k+1) (by simpa using hk)
   refine ⟨fun x hx=>?_,h2⟩
   have hab:a<b:=h 0 (by simp)
   have:=(zi1 (b::r)).mpr h2
   rw[List.pairwise_cons] at this
   rcases List.mem_cons.mp hx with rfl|hx
   ·exact hab
   ·have:=this.1 x hx;omega
theorem zmc(p:List Int)(hl:p.length<=1000):zfy [.val (tz p)]=.ok (.bl (decide (p.Pairwise (· < ·))),[.val .non]):=by
 let ρ0:Ev:=[some (.val (tz p))]
 have elen:dFn zca (dA (zab 0) dA0) ρ0=.ok (.int p.length,ρ0):=zbK (d:=tz p) rfl (by simp[tz,zca])
 obtain ⟨m,hm,em⟩ : ∃ m:Nat,m=p.length-1/\zcb (dOp zhm (dFn zca (dA (zab 0) dA0)) (dC (.int 1))) ρ0=.ok (zaR 0 m,ρ0):=by
  refine ⟨p.length-1,rfl,?_⟩
  have es:dOp zhm (dFn zca (dA (zab 0) dA0)) (dC (.int 1)) ρ0=.ok (.int ((p.length:Int)-1),ρ0):=zat elen rfl rfl
  cases p with
  |nil=>rfl
  |cons a r =>
   have e':((a::r).length:Int)-1=((r.length:Nat):Int):=by simp
   rw[e'] at es
   rw[zi8 es (by simp at hl;omega)]
   rfl
 let f:Nat->Bool:=fun k=>decide (p.getD k 0<p.getD (k+1) 0)
 have hc:zaH (zcb (dOp zhm (dFn zca (dA (zab 0) dA0)) (dC (.int 1)))) (zbz 1) dTT (dOp gLt (dOp gIx (zab 0) (zab 1)) (dOp gIx (zab 0) (dOp zb4 (zab 1) (dC (.int 1))))) 1 ρ0=.ok ((List.range m).map fun k=>.bl (f k),ρ0):=by
  refine zbl (l:=List.range m) (u:=fun k=>.int (0+(k:Nat))) (f:=fun k=>.bl (f k)) (ds:=zaR 0 m) em rfl (by rw[List.length_range];omega) (fun k hk=>?_) rfl
  have hkm:=List.mem_range.mp hk
  show dOp gLt (dOp gIx (zab 0) (zab 1)) (dOp gIx (zab 0) (dOp zb4 (zab 1) (dC (.int 1)))) [some (.val (tz p)),some (.val (.int (0+(k:Nat))))]=_
  have hk1:k<p.length:=by omega
  have hk2:k+1<p.length:=by omega
  have g1:gIx (tz p) (.int (0+(k:Nat)))=.ok (.int (p.getD k 0)):=by
   refine zn0 (by omega) (by simp;omega) ?_
   rw[show (0+((k:Nat):Int)).toNat=k by omega,List.getElem?_map,List.getElem?_eq_getElem hk1,List.getD_eq_getElem?_getD,List.getElem?_eq_getElem hk1]
   rfl
  have g2:gIx (tz p) (.int (0+(k:Nat)+1))=.ok (.int (p.getD (k+1) 0)):=by
   refine zn0 (by omega) (by simp;omega) ?_
   rw[show (0+((k:Nat):Int)+1).toNat=k+1 by omega,List.getElem?_map,List.getElem?_eq_getElem hk2,List.getD_eq_getElem?_getD,List.getElem?_eq_getElem hk2]
   rfl
  exact zat (zat rfl rfl g1) (zat rfl (zat rfl rfl rfl) g2) rfl
 refine zao (ρ':=ρ0) rfl ?_ rfl
 show zgI ρ0=_
 unfold zgI
 refine zaW (zbK (zb0 hc) ?_)
 rw[zkZ]
 congr 2
 rw[Bool.eq_iff_iff,List.all_eq_true,decide_eq_true_eq,zi1]
 constructor
 ·intro h k hk
  have:=h k (List.mem_range.mpr (by omega))
  simp only[f,decide_eq_true_eq,List.getD_eq_getElem?_getD,List.getElem?_eq_getElem hk,List.getElem?_eq_getElem (show k<p.length by omega),Option.getD_some] at this
  exact this
 ·intro h k hk
  have hkm:=List.mem_range.mp hk
  have hk2:k+1<p.length:=by omega
  have:=h k hk2
  simp only[f,decide_eq_true_eq,List.getD_eq_getElem?_getD,List.getElem?_eq_getElem hk2,List.getElem?_eq_getElem (show k<p.length by omega),Option.getD_some]
  exact this
theorem zpI(n:Int)(d:Dt)(hl:∀ l,d=.tup l->l.length<=1000):zct [.val (.int n),.val d]=.ok (.bl (match d with|.tup l=>l.all (isG n)|_=>false),[.val .non,.val .non]):=by
 cases d with
 |tup l =>
  let ρ0:Ev:=[some (.val (.int n)),some (.val (.tup l))]
  have hc:zaH (dIt (zab 1)) (zbz 2) dTT (zae zbn (dR (zab 0) (dR (zab 2) dR0))) 1 ρ0=.ok (l.map fun x=>.bl (isG n x),ρ0):=by
   refine zbl (l:=l) (u:=id) (f:=fun x=>.bl (isG n x)) (ds:=l) rfl (by rw[List.map_id]) (hl l rfl) (fun x hx=>?_) rfl
   exact zdz (ρ':=[some (.val (.int n)),some (.val (.tup l)),some (.val x)]) (ρ'':=[some (.val (.int n)),some (.val (.tup l)),some (.val x)]) rfl rfl (zhX n x)
  refine zao (ρ':=ρ0) rfl ?_ rfl
  show zcW ρ0=_
  unfold zcW
  refine zaW ?_
  unfold zh3
  have e1:zcK "tuple" (zab 1) ρ0=.ok (.bl true,ρ0):=by simp[zcK,zab,ρ0,zfv,tyD]
  rw[e1]
  simp only[R.bind_ok]
  exact zbK (zb0 hc) (zkZ _ _)
 |_=>simp[zct,zap,zcW,zaV,zgr,zbi,zh3,zcK,zab,zfv,tyD,zav]
theorem zl4{n:Int}:∀{l:List Dt},l.all (isG n)=true->∃ zs:List Int,l=zs.map .int/\∀ x∈zs,0<=x/\x<n
 |[],_=>⟨[],rfl,by simp⟩
 |d::r,h=>by
  rw[List.all_cons,Bool.and_eq_true] at h
  obtain ⟨zs,rfl,hz⟩:=zl4 h.2
  have h1:=h.1
  unfold isG at h1
  split at h1
  ·rename_i i
   simp only[Bool.and_eq_true,decide_eq_true_eq] at h1
   exact ⟨i::zs,rfl,fun x hx=>by
    rcases List.mem_cons.mp hx with rfl|hx
    ·exact h1
    ·exact hz x hx⟩
  ·cases h1
def zm4(n:Int):Dt->Bool
 |.tup l=>l.all (isG n) && (match zkl l with|some zs=>decide (0<zs.length) && decide (zs.Pairwise (· < ·))|none=>false)
 |_=>false
theorem ziZ{n:Nat}(h1:1<=n)(h7:n<=7)(d:Dt)(hl:∀ l,d=.tup l->l.length<=1000):ze0 [.val (.int n),.val d]=.ok (.bl (zm4 n d),[.val .non,.val .non]):=by
 let ρ0:Ev:=[some (.val (.int n)),some (.val d)]
 have ec:dEx (zae zan (dR (zab 0) dR0)) ρ0=.ok (.nx,ρ0):=zd8 (zcD (ρ':=ρ0) rfl (zey (by omega) (by omega)))
 refine zao (ρ':=ρ0) rfl ?_ rfl
 show zfB ρ0=_
 unfold zfB
 rw[zak ec]
 refine zaW ?_
 have ea:zae zct (dR (zab 0) (dR (zab 1) dR0)) ρ0=.ok (.bl (match d with|.tup l=>l.all (isG n)|_=>false),ρ0):=zdz (ρ':=ρ0) (ρ'':=ρ0) rfl rfl (zpI n d hl)
 unfold zh3
 rw[ea]
 simp only[R.bind_ok]
 cases d with
 |tup l =>
  cases ha:l.all (isG n) with
  |false =>
   simp only[ha]
   show R.ok (Dt.bl false,ρ0)=R.ok (Dt.bl (zm4 n (.tup l)),ρ0)
   have:zm4 n (.tup l)=false:=by
    show (l.all (isG n) && _)=false
    rw[ha];rfl
   rw[this]
  |true =>
   obtain ⟨zs,rfl,hz⟩:=zl4 ha
   simp only[ha]
   have hpt:zm4 n (.tup (zs.map .int))=(decide (0<zs.length) && decide (zs.Pairwise (· < ·))):=by
    show ((zs.map Dt.int).all (isG n) && (match zkl (zs.map Dt.int) with|some zs=>decide (0<zs.length) && decide (zs.Pairwise (· < ·))|none=>false))=_
    rw[ha,znM]
    rfl
   rw[hpt]
   have hlz:zs.length<=1000:=by have:=hl _ rfl;simpa using this
   have e2:dOp gGt (dFn zca (dA (zab 1) dA0)) (dC (.int 0)) ρ0=.ok (.bl (decide (0<zs.length)),ρ0):=by
    refine zat (d:=.int zs.length) (e:=.int 0) (ρ1:=ρ0) (zbK (d:=.tup (zs.map .int)) rfl (by simp[zca])) rfl ?_
    show R.ok (Dt.bl (decide ((0:Int)<(zs.length:Nat))))=_
    congr 2
    by_cases h:0<zs.length
    ·rw[decide_eq_true h,decide_eq_true (by omega)]
    ·rw[decide_eq_false h,decide_eq_false (by omega)]
   rw[e2]
   simp only[R.bind_ok]
   cases hp:decide (0<zs.length) with
   |false=>simp
   |true =>
    simp only[Bool.true_and]
    exact zcD (ρ':=ρ0) rfl (zmc zs hlz)
 |_=>rfl
theorem zrY{n:Nat}{p:List Int}(h:Pty n p):zm4 n (tz p)=true:=by
 obtain ⟨h1,h2,h3⟩:=h
 unfold zm4 tz
 simp only[znM,Bool.and_eq_true,decide_eq_true_eq,List.all_eq_true]
 refine ⟨fun d hd=>?_,List.length_pos_iff.mpr h1,h2⟩
 obtain ⟨i,hi,rfl⟩:=List.mem_map.mp hd
 have:=h3 i hi
 unfold isG
 simp only[Bool.and_eq_true,decide_eq_true_eq]
 exact this
def znD(n:Int):Dt->Bool
 |.lst l=>decide (l.length<=8) && l.all (zm4 n)
 |_=>false
def Lens:Dt->Prop
 |.lst l=>∀ d∈l,∀ t,d=.tup t->t.length<=1000
 |.scr _=>False
 |_=>True
theorem ze9{n:Nat}(h1:1<=n)(h7:n<=7)(d:Dt)(hl:Lens d):zbo [.val (.int n),.val d]=.ok (.bl (znD n d),[.val .non,.val .non]):=by
 let ρ0:Ev:=[some (.val (.int n)),some (.val d)]
 have ec:dEx (zae zan (dR (zab 0) dR0)) ρ0=.ok (.nx,ρ0):=zd8 (zcD (ρ':=ρ0) rfl (zey (by omega) (by omega)))
 refine zao (ρ':=ρ0) rfl ?_ rfl
 show zcx ρ0=_
 unfold zcx
 rw[zak ec]
 cases d with
 |lst l =>
  have t1:zaU (dTB (zcK "list" (zab 1))) ρ0=.ok (false,ρ0):=by simp[zaU,dTB,zcK,zab,ρ0,zfv,tyD]
  have t2:dTB (dOp gGt (dFn zca (dA (zab 1) dA0)) (dC (.int 8))) ρ0=.ok (decide (8<l.length),ρ0):=by
   refine zaA (zat (d:=.int l.length) (e:=.int 8) (ρ1:=ρ0) (zbK (d:=.lst l) rfl rfl) rfl ?_)
   show R.ok (Dt.bl (decide ((8:Int)<(l.length:Nat))))=_
   congr 2
   by_cases h:8<l.length
   ·rw[decide_eq_true h,decide_eq_true (by omega)]
   ·rw[decide_eq_false h,decide_eq_false (by omega)]
  by_cases h8:l.length<=8
  ·rw[decide_eq_false (by omega)] at t2
   rw[zak (ρ1:=ρ0) (by rw[zbA (by rw[zgU t1];exact t2)];rfl)]
   have hc:zaH (dIt (zab 1)) (zbz 2) dTT (zae ze0 (dR (zab 0) (dR (zab 2) dR0))) 1 ρ0=.ok (l.map fun x=>.bl (zm4 n x),ρ0):=by
    refine zbl (l:=l) (u:=id) (f:=fun x=>.bl (zm4 n x)) (ds:=l) rfl (by rw[List.map_id]) (by omega) (fun x hx=>?_) rfl
    exact zdz (ρ':=[some (.val (.int n)),some (.val (.lst l)),some (.val x)]) (ρ'':=[some (.val (.int n)),some (.val (.lst l)),some (.val x)]) rfl rfl (ziZ h1 h7 x (hl x hx))
   refine zaW (zbK (zb0 hc) ?_)
   rw[zkZ]
   have:znD n (.lst l)=l.all (zm4 n):=by
    show (decide (l.length<=8) && l.all (zm4 n))=_
    rw[decide_eq_true h8,Bool.true_and]
   rw[this]
  ·rw[decide_eq_true (by omega)] at t2
   rw[zcg (ρ1:=ρ0) (d:=.bl false) (by rw[zds (by rw[zgU t1];exact t2)];rfl)]
   have:znD n (.lst l)=false:=by
    show (decide (l.length<=8) && l.all (zm4 n))=_
    rw[decide_eq_false h8,Bool.false_and]
   rw[this]
 |scr _=>exact hl.elim
 |_ =>
  rw[zcg (ρ1:=ρ0) (d:=.bl false)]
  ·rfl
  ·rw[zds (ρ1:=ρ0) (ztm (by simp[zaU,dTB,zcK,zab,ρ0,zfv,tyD]))];rfl
theorem ziM{d t:Dt}(h:isW d=false\/∃ n,d=.int n/\(n<1\/7<n)):zbo [.val d,.val t]=.er 0:=by
 have ec:dEx (zae zan (dR (zab 0) dR0)) [some (.val d),some (.val t)]=.er 0:=by
  unfold dEx zae dR dR0
  simp only[zab,List.getElem?_cons_zero,R.bind_ok,zkm,zaZ,if_true,za1,zjx h,R.bind_er]
 unfold zbo zap
 rw[if_pos (show zaV [.val d,.val t]=[false,false] from rfl)]
 show (zcx [some (.val d),some (.val t)]).bind _=_
 unfold zcx za6
 rw[ec]
 rfl
inductive Tr where
 |lf (i:Int)|nd (row:Bool) (l:List Tr)
def wd(r:Bool):Str:=if r then Str.ofString "row" else Str.ofString "any"
mutual
def toD:Tr->Dt
 |.lf i=>.int i
 |.nd r l=>.tup [.str (wd r),.tup (zdS l)]
def zdS:List Tr->List Dt
 |[]=>[]
 |t::r=>toD t::zdS r
end
mutual
def za5:Tr->List Int
 |.lf i=>[i]
 |.nd _ l=>zaz l
def zaz:List Tr->List Int
 |[]=>[]
 |t::r=>za5 t++zaz r
end
mutual
def dep:Tr->Nat
 |.lf _=>1
 |.nd _ l=>zg3 l+1
def zg3:List Tr->Nat
 |[]=>0
 |t::r=>max (dep t) (zg3 r)
end
mutual
def okT:Tr->Bool
 |.lf _=>true
 |.nd r l=>decide ((if r then 3 else 2)<=l.length) && zgq l
def zgq:List Tr->Bool
 |[]=>true
 |t::r=>okT t && zgq r
end
theorem zdH:∀ l:List Tr,zdS l=l.map toD
 |[]=>by simp[zdS]
 |t::r=>by simp[zdS,zdH r]
theorem zhk:∀ l:List Tr,zaz l=l.flatMap za5
 |[]=>by simp[zaz]
 |t::r=>by simp[zaz,zhk r]
theorem zi7:∀ l:List Tr,zgq l=l.all okT
 |[]=>by simp[zgq]
 |t::r=>by simp[zgq,zi7 r]
theorem zgK{n:Nat}:∀{l:List Tr},zg3 l<=n ↔ ∀ t∈l,dep t<=n
 |[]=>by simp[zg3]
 |t::r=>by
  have:=zgK (n:=n) (l:=r)
  simp only[zg3,List.mem_cons,forall_eq_or_imp]
  rw[<- this]
  omega
theorem zj6:∀(n:Nat)(t:Tr),dep t<=n->okT t=true->za5 t≠[]
 |n,.lf i,_,_=>by simp[za5]
 |0,.nd r l,h,_=>by simp[dep] at h
 |n+1,.nd r l,h,ho=>by
  simp only[dep,okT,Bool.and_eq_true,decide_eq_true_eq] at h ho
  cases l with
  |nil=>have:=ho.1;cases r <;> simp at this
  |cons t q =>
   simp only[zgq,Bool.and_eq_true] at ho
   have:=zj6 n t (by simp only[zg3] at h;omega) ho.2.1
   simp only[za5,zaz]
   intro z
   exact this (List.append_eq_nil_iff.mp z).1
theorem zig{α:Type}{u:α->Dt}{f:α->List Dt}{fe:DN}{ρ0:Ev}:∀{l:List α}{o:Option B},(∀ a∈l,fe (ρ0++[some (.val (u a))])=.ok (f a,ρ0++[some (.val (u a))]))->∃ o',zdP (zbz ρ0.length) dTT fe (l.map u) (ρ0++[o])=.ok (l.map f,ρ0++[o'])
 |[],o,_=>⟨o,rfl⟩
 |a::l,o,h=>by
  obtain ⟨o',e⟩:=zig (l:=l) (o:=some (.val (u a))) fun b hb=>h b (List.mem_cons_of_mem _ hb)
  refine ⟨o',?_⟩
  rw[List.map_cons,zdP,znS]
  simp only[R.bind_ok,dTT,if_true]
  rw[h a (by simp)]
  simp only[R.bind_ok]
  rw[e]
  rfl
theorem zg9{g:Int}:∀{l:List (List Int)}{j:Nat}{p:List Int},l[j]? = some p->(l.set j (p++[g])).flatten.Perm (l.flatten++[g])
 |[],j,p,h=>by simp at h
 |a::l,0,p,h=>by
  simp at h;subst h
  simp only[List.set_cons_zero,List.flatten_cons,List.append_assoc]
  exact List.Perm.append_left _ List.perm_append_comm
 |a::l,j+1,p,h=>by
  have:=zg9 (g:=g) (l:=l) (j:=j) (p:=p) (by simpa using h)
  simp only[List.set_cons_succ,List.flatten_cons,List.append_assoc]
  exact this.append_left a
def lz(p:List Int):List Dt:=p.map .int
theorem zjF{g r b6:Option B}{m:Nat}:∀{gs:List Int}{pss:List (List Int)}{st:List Dt}{o:Option B},0<m->m<=100->pss.length=m->(∀ p∈pss,p≠[])->pss.flatten.length+gs.length<=1000->St st ->
  ∃(pss':List (List Int))(st':List Dt)(o':Option B),St st'/\pss'.length=m/\(∀ p∈pss',p≠[])/\pss'.flatten.Perm (pss.flatten++gs) /\
   zmz (zbz 5) (dEx (zg0 4 5 (zae zac (dRO 0 (dR (zab 3) dR0))))) (gs.map .int) [some (.own st),g,r,some (.val (.int m)),some (.own2 (pss.map lz)),o,b6]=.ok (.nx,[some (.own st'),g,r,some (.val (.int m)),some (.own2 (pss'.map lz)),o',b6])
 |[],pss,st,o,_,_,hl,hne,_,hs=>⟨pss,st,o,hs,hl,hne,by simp,rfl⟩
 |x::gs,pss,st,o,m0,m1,hl,hne,hb,hs=>by
  obtain ⟨v,st1,e,hs1,v0,v1⟩:=zba (m:=(m:Nat)) hs (by omega) (by omega)
  have hj:v.toNat<pss.length:=by omega
  obtain ⟨p,hp⟩ : ∃ p,pss[v.toNat]? = some p:=⟨_,List.getElem?_eq_getElem hj⟩
  have hfs:=zg9 (g:=x) hp
  have hpl:p.length<=pss.flatten.length:=(List.sublist_flatten_of_mem (List.mem_of_getElem? hp)).length_le
  obtain ⟨pss',st',o',hs',hl',hne',hp',e'⟩:=zjF (g:=g) (r:=r) (b6:=b6) (m:=m) (gs:=gs) (pss:=pss.set v.toNat (p++[x])) (st:=st1) (o:=some (.val (.int x))) m0 m1 (by simpa using hl) (fun q hq=>by
    rcases List.mem_or_eq_of_mem_set hq with z|z
    ·exact hne q z
    ·rw[z];simp) (by rw[hfs.length_eq];simp only[List.length_append,List.length_cons,List.length_nil] at hb ⊢;omega) hs1
  refine ⟨pss',st',o',hs',hl',hne',?_,?_⟩
  ·refine hp'.trans ((hfs.append_right gs).trans ?_)
   simp
  ·rw[List.map_cons,zmz]
   show ((dEx (zg0 4 5 (zae zac (dRO 0 (dR (zab 3) dR0))))) [some (.own st),g,r,some (.val (.int m)),some (.own2 (pss.map lz)),some (.val (.int x)),b6]).bind _=_
   have ec:=zf8 (F:=zac) (fb:=zab 3) (i:=0) (ρ:=[some (.own st),g,r,some (.val (.int m)),some (.own2 (pss.map lz)),some (.val (.int x)),b6]) rfl rfl e
   have eB:dEx (zg0 4 5 (zae zac (dRO 0 (dR (zab 3) dR0)))) [some (.own st),g,r,some (.val (.int m)),some (.own2 (pss.map lz)),some (.val (.int x)),b6]=.ok (.nx,[some (.own st1),g,r,some (.val (.int m)),some (.own2 ((pss.set v.toNat (p++[x])).map lz)),some (.val (.int x)),b6]):=by
    refine zd8 (d:=.non) ?_
    have hx:(pss.map lz)[v.toNat]? = some (lz p):=by rw[List.getElem?_map,hp];rfl
    have hix:ixN (pss.map lz).length v=some v.toNat:=zkY v0 (by rw[List.length_map];omega)
    unfold zg0
    simp only[List.getElem?_cons_succ,List.getElem?_cons_zero,ec,R.bind_ok,List.set_cons_zero,hix,hx]
    rw[if_pos (by unfold lz;rw[List.length_map];simp only[List.length_cons] at hb;omega)]
    simp only[List.set_cons_succ,List.set_cons_zero]
    rw[List.map_set]
    unfold lz
    simp
   rw[eB]
   simp only[R.bind_ok]
   exact e'
theorem zs4{m:Nat}{pss:List (List Int)}(hl:pss.length=m)(h2:2<=m)(hne:∀ p∈pss,p≠[]):∀ p∈pss,p.length<pss.flatten.length:=by
 intro p hp
 obtain ⟨a,b,rfl⟩:=List.append_of_mem hp
 have:0<a.flatten.length+b.flatten.length:=by
  cases a with
  |cons q a =>
   have:=List.length_pos_iff.mpr (hne q (by simp))
   simp only[List.flatten_cons,List.length_append]
   omega
  |nil =>
   cases b with
   |cons q b =>
    have:=List.length_pos_iff.mpr (hne q (by simp))
    simp only[List.flatten_cons,List.length_append]
    omega
   |nil=>simp at hl;omega
 simp only[List.flatten_append,List.flatten_cons,List.length_append]
 omega
def ztZ(p:List Int)(t:Tr):Prop:=okT t=true/\(za5 t).Perm p/\dep t<=p.length
theorem zjc{k:Nat}:∀{pss:List (List Int)}{ts:List Tr},Paired ztZ pss ts->(∀ p∈pss,p.length<=k)->zgq ts=true/\(zaz ts).Perm pss.flatten/\zg3 ts<=k/\ts.length=pss.length
 |_,_,.nil,_=>by simp[zgq,zaz,zg3]
 |p::pss,t::ts,.cons h r,hk=>by
  obtain ⟨a1,a2,a3,a4⟩:=zjc (k:=k) r fun q hq=>hk q (List.mem_cons_of_mem _ hq)
  have:=hk p (by simp)
  obtain ⟨b1,b2,b3⟩:=h
  simp only[zgq,zaz,zg3,List.flatten_cons,List.length_cons]
  exact ⟨by rw[b1,a1];rfl,b2.append a2,by omega,by omega⟩
theorem ziW:∀(n:Nat)(gs:List Int)(st:List Dt),gs.length<=n->n<=8->1<=gs.length->gs.length<=7->St st->∃ t st',St st'/\ztZ gs t/\zaM n [.own st,.val (.lst (gs.map .int))]=.ok (toD t,[.own st',.val .non])
 |0,gs,st,h,_,h1,_,_=>by omega
 |n+1,gs,st,h,h8,h1,h7,hs=>by
  by_cases hone:gs.length=1
  ·obtain ⟨g,rfl⟩:=List.length_eq_one_iff.mp hone
   refine ⟨.lf g,st,hs,⟨rfl,.refl _,by simp[dep]⟩,zao (ρ':=[some (.own st),some (.val (.lst [.int g])),none,none,none,none,none]) rfl ?_ rfl⟩
   rw[toD]
   show zcn (zaM n) [some (.own st),some (.val (.lst [.int g])),none,none,none,none,none]=_
   unfold zcn
   refine zcg ?_
   rw[zds (ρ1:=[some (.own st),some (.val (.lst [.int g])),none,none,none,none,none]) (zaA (zat (d:=.int 1) (e:=.int 1) rfl rfl (by rw[zbx rfl rfl,eqI];rfl)))]
   rfl
  ·
   obtain ⟨st1,p,hs1,hp,e1⟩:=zhK (l:=gs.map .int) hs (by rw[List.length_map];omega) (fun d hd=>by obtain ⟨i,_,rfl⟩:=List.mem_map.mp hd;rfl)
   obtain ⟨q,hq,rfl⟩:=zfT hp
   have hql:=hq.length_eq
   obtain ⟨v,st2,e2,hs2,v0,v1⟩:=zba (m:=(q.length:Int)-1) hs1 (by omega) (by omega)
   obtain ⟨m,hm⟩ : ∃ m:Nat,(m:Int)=2+v:=⟨(2+v).toNat,by omega⟩
   have m2:2<=m:=by omega
   have mq:m<=q.length:=by omega
   have cut1:zmy (q.map Dt.int) none (some (m:Int))=(q.take m).map .int:=by
    unfold zmy
    rw[HT.sIx_nat]
    simp only[HT.sIx_none,List.drop_zero,Nat.sub_zero,List.length_map]
    rw[Nat.min_eq_left mq,List.map_take]
   have cut2:zmy (q.map Dt.int) (some (m:Int)) none=(q.drop m).map .int:=by
    unfold zmy
    rw[HT.sIx_nat]
    simp only[HT.sIx_none,List.length_map]
    rw[Nat.min_eq_left mq,List.map_drop,List.take_of_length_le (by simp)]
   let G:Option B:=some (.val (.lst (gs.map .int)))
   let Rw:Option B:=some (.val (.lst (q.map .int)))
   let Mn:Option B:=some (.val (.int m))
   have x1:zb6 2 (zae zaL (dRO 0 (dR (zab 1) dR0))) [some (.own st),G,none,none,none,none,none]=.ok (.nx,[some (.own st1),G,Rw,none,none,none,none]) :=
    zbm (zf8 (ρ:=[some (.own st),G,none,none,none,none,none]) rfl rfl e1) (by simp)
   have x2:zb6 3 (dOp zb4 (dC (.int 2)) (zae zac (dRO 0 (dR (dOp zhm (dFn zca (dA (zab 2) dA0)) (dC (.int 1))) dR0)))) [some (.own st1),G,Rw,none,none,none,none]=.ok (.nx,[some (.own st2),G,Rw,Mn,none,none,none]):=by
    have ea:dOp zhm (dFn zca (dA (zab 2) dA0)) (dC (.int 1)) [some (.own st1),G,Rw,none,none,none,none]=.ok (.int ((q.length:Int)-1),[some (.own st1),G,Rw,none,none,none,none]):=by
     refine zat (d:=.int (q.map Dt.int).length) rfl rfl ?_
     rw[List.length_map];rfl
    refine zbm (zat rfl (zf8 (ρ:=[some (.own st1),G,Rw,none,none,none,none]) rfl ea e2) (z:=.int m) ?_) (by simp)
    rw[hm];rfl
   obtain ⟨o7,c1⟩:=zig (ρ0:=[some (.own st2),G,Rw,Mn,none,none,none]) (u:=Dt.int) (f:=fun g=>[.int g]) (fe:=zc9 (dA (zab 7) dA0)) (l:=q.take m) (o:=none) fun g _=>rfl
   have hpm:(q.take m).map (fun g=>[Dt.int g])=((q.take m).map fun g=>[g]).map lz:=by rw[List.map_map];rfl
   have x3:zlF 4 (dIt (dFz (znG (zab 2) dO0 (dO1 (zab 3))))) (zbz 7) dTT (zc9 (dA (zab 7) dA0)) 1 [some (.own st2),G,Rw,Mn,none,none,none]=.ok (.nx,[some (.own st2),G,Rw,Mn,some (.own2 (((q.take m).map fun g=>[g]).map lz)),none,none]):=by
    have ei:dIt (dFz (znG (zab 2) dO0 (dO1 (zab 3)))) [some (.own st2),G,Rw,Mn,none,none,none]=.ok ((q.take m).map .int,[some (.own st2),G,Rw,Mn,none,none,none]):=by
     show R.ok (zmy (q.map Dt.int) none (some (m:Int)),_)=_
     rw[cut1]
    unfold zlF
    rw[ei]
    simp only[R.bind_ok]
    rw[if_pos (by unfold zd2;simp only[List.length_map,List.length_take,decide_eq_true_eq];omega)]
    show (match zdP (zbz 7) dTT (zc9 (dA (zab 7) dA0)) ((q.take m).map .int) ([some (.own st2),G,Rw,Mn,none,none,none]++[none]) with|.ok z=>if 4<7 then R.ok (Fl.nx,(z.2.take 7).set 4 (some (.own2 z.1))) else .no|_=>.no)=_
    have c1':zdP (zbz 7) dTT (zc9 (dA (zab 7) dA0)) ((q.take m).map .int) ([some (.own st2),G,Rw,Mn,none,none,none]++[none])=.ok ((q.take m).map (fun g=>[Dt.int g]),[some (.own st2),G,Rw,Mn,none,none,none]++[o7]):=c1
    rw[c1',hpm]
    rfl
   have hfl:((q.take m).map fun g=>[g]).flatten=q.take m:=by
    induction q.take m with
    |nil=>rfl
    |cons a r ih=>simp[ih]
   obtain ⟨pss,st3,o5,hs3,hl3,hne3,hp3,e3⟩:=zjF (g:=G) (r:=Rw) (b6:=none) (m:=m) (gs:=q.drop m) (pss:=(q.take m).map fun g=>[g]) (st:=st2) (o:=none) (by omega) (by omega) (by rw[List.length_map,List.length_take];omega) (fun p hp=>by obtain ⟨g,_,rfl⟩:=List.mem_map.mp hp;simp) (by rw[hfl,List.length_take,List.length_drop];omega) hs2
   have hflp:pss.flatten.Perm gs:=by
    refine hp3.trans ?_
    rw[hfl,List.take_append_drop]
    exact hq
   have x4:zmx (dIt (dFz (znG (zab 2) (dO1 (zab 3)) dO0))) (zbz 5) (dEx (zg0 4 5 (zae zac (dRO 0 (dR (zab 3) dR0))))) [some (.own st2),G,Rw,Mn,some (.own2 (((q.take m).map fun g=>[g]).map lz)),none,none]=.ok (.nx,[some (.own st3),G,Rw,Mn,some (.own2 (pss.map lz)),o5,none]):=by
    have ei:dIt (dFz (znG (zab 2) (dO1 (zab 3)) dO0)) [some (.own st2),G,Rw,Mn,some (.own2 (((q.take m).map fun g=>[g]).map lz)),none,none]=.ok ((q.drop m).map .int,[some (.own st2),G,Rw,Mn,some (.own2 (((q.take m).map fun g=>[g]).map lz)),none,none]):=by
     show R.ok (zmy (q.map Dt.int) (some (m:Int)) none,_)=_
     rw[cut2]
    unfold zmx
    rw[ei]
    exact e3
   have hlt:=zs4 hl3 m2 hne3
   have hfll:=hflp.length_eq
   let Fz:Option B:=some (.val (.lst ((pss.map lz).map .lst)))
   obtain ⟨ts,st4,hs4,hp4,e4⟩:=ziU (Rl:=ztZ) (u:=fun p=>.lst (lz p)) (v:=toD) (zbr:=[G,Rw,Mn,Fz,o5,none]) (fi:=dIt (ziV 4)) (fe:=zae (zaM n) (dRO 0 (dR (zab 7) dR0))) (l:=pss) (ds:=(pss.map lz).map .lst) (j:=7) (ρ:=[some (.own st3),G,Rw,Mn,some (.own2 (pss.map lz)),o5,none]) (st:=st3) rfl (by rw[List.map_map];rfl) (by omega) rfl
    (fun p hp st' hs'=>by
     have:=hlt p hp
     have hpos:=List.length_pos_iff.mpr (hne3 p hp)
     obtain ⟨t,st5,h5,h6,h7'⟩:=ziW n p st' (by omega) (by omega) (by omega) (by omega) hs'
     exact ⟨t,st5,h5,h6,zf8 (ρ:=some (.own st')::([G,Rw,Mn,Fz,o5,none]++[some (.val (.lst (lz p)))])) rfl rfl h7'⟩) hs3
   obtain ⟨k1,k2,k3,k4⟩:=zjc (k:=gs.length-1) hp4 fun p hp=>by have:=hlt p hp;omega
   have x5:zb6 6 (dFn zda (dA (dFz (zaH (dIt (ziV 4)) (zbz 7) dTT (zae (zaM n) (dRO 0 (dR (zab 7) dR0))) 1)) dA0)) [some (.own st3),G,Rw,Mn,some (.own2 (pss.map lz)),o5,none]=.ok (.nx,[some (.own st4),G,Rw,Mn,Fz,o5,some (.val (.tup (ts.map toD)))]):=zbm (zbK (zb0 e4) rfl) (by simp)
   have pre:∀ X,zcn (zaM n) [some (.own st),G,none,none,none,none,none]=X ↔ za6 (dIf (ze8 (dTB (dOp gGt (zab 3) (dC (.int 2)))) (dTB (dOp (gEq false) (zae zac (dRO 0 (dR (dC (.int 2)) dR0))) (dC (.int 1))))) (zbi (zlg (dA (dC (.str (Str.ofString "row"))) (dA (zab 6) dA0)))) dNx) (zbi (zlg (dA (dC (.str (Str.ofString "any"))) (dA (zab 6) dA0)))) [some (.own st4),G,Rw,Mn,Fz,o5,some (.val (.tup (ts.map toD)))]=X:=fun X=>by
    unfold zcn
    have x0:dTB (dOp (gEq false) (dFn zca (dA (zab 1) dA0)) (dC (.int 1))) [some (.own st),G,none,none,none,none,none]=.ok (false,[some (.own st),G,none,none,none,none,none]):=by
     refine zaA (zat (d:=.int (gs.map Dt.int).length) rfl rfl ?_)
     rw[zbx rfl rfl,eqI,List.length_map]
     have:((gs.length:Int) == 1)=false:=by simp;omega
     rw[this];rfl
    rw[zak (ρ1:=[some (.own st),G,none,none,none,none,none]) (by rw[zbA x0];rfl),zak x1,zak x2,zak x3,zak x4,zak x5]
   have fin:∀(r:Bool)(st5:List Dt),(r=true->3<=m)->St st5->zcn (zaM n) [some (.own st),G,none,none,none,none,none]=.ok (.rt (toD (.nd r ts)),[some (.own st5),G,Rw,Mn,Fz,o5,some (.val (.tup (ts.map toD)))])->∃ t st',St st'/\ztZ gs t/\zaM (n+1) [.own st,.val (.lst (gs.map .int))]=.ok (toD t,[.own st',.val .non]):=fun r st5 hr hs5 hd=>by
    refine ⟨.nd r ts,st5,hs5,⟨?_,k2.trans hflp,?_⟩,zao (ρ':=[some (.own st5),G,Rw,Mn,Fz,o5,some (.val (.tup (ts.map toD)))]) rfl hd rfl⟩
    ·simp only[okT,k1,Bool.and_true,decide_eq_true_eq,k4,hl3]
     cases r with
     |false=>simpa using m2
     |true=>simpa using hr rfl
    ·simp only[dep];omega
   have hD:∀ r,toD (.nd r ts)=.tup [.str (wd r),.tup (ts.map toD)]:=fun r=>by rw[toD,zdH]
   by_cases h3:2<m
   ·have y1:dTB (dOp gGt (zab 3) (dC (.int 2))) [some (.own st4),G,Rw,Mn,Fz,o5,some (.val (.tup (ts.map toD)))]=.ok (true,[some (.own st4),G,Rw,Mn,Fz,o5,some (.val (.tup (ts.map toD)))]):=by
     refine zaA (zat (d:=.int m) rfl rfl ?_)
     simp only[zhQ]
     rw[decide_eq_true (by omega:(2:Int)<m)]
    obtain ⟨u,st5,e5,hs5,u0,u1⟩:=zba (m:=2) hs4 (by decide) (by decide)
    have ec:=zf8 (F:=zac) (fb:=dC (.int 2)) (i:=0) (ρ:=[some (.own st4),G,Rw,Mn,Fz,o5,some (.val (.tup (ts.map toD)))]) rfl rfl e5
    have y2:dTB (dOp (gEq false) (zae zac (dRO 0 (dR (dC (.int 2)) dR0))) (dC (.int 1))) [some (.own st4),G,Rw,Mn,Fz,o5,some (.val (.tup (ts.map toD)))]=.ok (u == 1,[some (.own st5),G,Rw,Mn,Fz,o5,some (.val (.tup (ts.map toD)))]):=zaA (zat ec rfl (by rw[zbx rfl rfl,eqI];rfl))
    by_cases hu:u=1
    ·refine fin true st5 (fun _=>by omega) hs5 ((pre _).mpr (zcg ?_))
     rw[zds (by rw[zeG y1,y2,hu];rfl),hD]
     rfl
    ·have hu':(u == 1)=false:=by simpa using hu
     refine fin false st5 (fun z=>by cases z) hs5 ((pre _).mpr ?_)
     rw[zak (ρ1:=[some (.own st5),G,Rw,Mn,Fz,o5,some (.val (.tup (ts.map toD)))]) (by rw[zbA (by rw[zeG y1,y2,hu'])];rfl),hD]
     rfl
   ·have y1:dTB (dOp gGt (zab 3) (dC (.int 2))) [some (.own st4),G,Rw,Mn,Fz,o5,some (.val (.tup (ts.map toD)))]=.ok (false,[some (.own st4),G,Rw,Mn,Fz,o5,some (.val (.tup (ts.map toD)))]):=by
     refine zaA (zat (d:=.int m) rfl rfl ?_)
     simp only[zhQ]
     rw[decide_eq_false (by omega:¬ (2:Int)<m)]
    refine fin false st4 (fun z=>by cases z) hs4 ((pre _).mpr ?_)
    rw[zak (ρ1:=[some (.own st4),G,Rw,Mn,Fz,o5,some (.val (.tup (ts.map toD)))]) (by rw[zbA (by rw[ziA y1])];rfl),hD]
    rfl
abbrev zm1:Str:=Str.ofString "any"
abbrev zm2:Str:=Str.ofString "row"
def zhV(h:Dt)(n:Nat):Bool:=match h with
 |.str x=>(x == zm1 && decide (2<=n)) || (x == zm2 && decide (3<=n))
 |_=>false
def zm7:Dt->Bool
 |.tup [h,.tup bs]=>zhV h bs.length
 |_=>false
def okH:Dt->Bool
 |.tup [h,.tup _]=>okN 60 h
 |_=>true
theorem zur:okN 60 (.str zm1)=true:=by decide +kernel
theorem zuu:okN 60 (.str zm2)=true:=by decide +kernel
theorem zpR:(zm1 == zm2)=false:=by decide +kernel
theorem znt(h:Dt)(n:Nat):zhV h n=((eqD h (.str zm1) && decide (2<=n)) || (eqD h (.str zm2) && decide (3<=n))):=by
 cases h <;> (unfold zhV;rw[eqD,eqD]) <;> first|rfl|simp
theorem zna(d:Dt)(hk:okH d=true):zbk [.val d]=.ok (.bl (zm7 d),[.val .non]):=by
 cases d with
 |tup l =>
  match l with
  |[]=>simp[zbk,zap,zcd,zaV,zgr,za6,dIf,zfr,zaU,dTB,zcK,zab,zfv,tyD,dOp,dFn,dA,dA0,zca,dC,zn3,zbi,zav,zm7]
  |[_]=>simp[zbk,zap,zcd,zaV,zgr,za6,dIf,zfr,zaU,dTB,zcK,zab,zfv,tyD,dOp,dFn,dA,dA0,zca,dC,zn3,zbi,zav,zm7]
  |a::b::c::r =>
   have e:((r.length:Int)+1+1+1 == 2)=false:=by rw[beq_eq_false_iff_ne];omega
   simp[zbk,zap,zcd,zaV,zgr,za6,dIf,zfr,zaU,dTB,zcK,zab,zfv,tyD,dOp,dFn,dA,dA0,zca,dC,zn3,zbi,zav,zm7,e]
  |[h,b] =>
   cases b with
   |tup bs =>
    have hk:okN 60 h=true:=hk
    have g1:gEq false h (.str zm1)=.ok (.bl (eqD h (.str zm1))):=zbx hk zur
    have g2:gEq false h (.str zm2)=.ok (.bl (eqD h (.str zm2))):=zbx hk zuu
    have n2:=zqk bs 2
    have n3:=zqk bs 3
    have hH:=znt h bs.length
    have hz:zm7 (.tup [h,.tup bs])=zhV h bs.length:=rfl
    rw[hz,hH]
    have x2:((2:Nat):Int)=2:=rfl
    have x3:((3:Nat):Int)=3:=rfl
    rw[x2] at n2
    rw[x3] at n3
    rw[<- n2,<- n3]
    cases ea:eqD h (.str zm1) with
    |true =>
     have er:eqD h (.str zm2)=false:=by
      cases h <;> rw[eqD] at ea ⊢ <;> first|rfl|(try cases ea)
      have:_=zm1:=eq_of_beq ea
      rw[this];exact zpR
     rw[ea] at g1
     rw[er]
     simp[zbk,zap,zcd,zaV,zgr,za6,dIf,zfr,zaU,dTB,zcK,zab,zfv,tyD,dOp,dFn,dA,dA0,zca,dC,zn3,zbi,zav,gIx,atI,ixN,g1,zhQ,dNx]
    |false =>
     rw[ea] at g1
     cases er:eqD h (.str zm2) with
     |true =>
      rw[er] at g2
      simp[zbk,zap,zcd,zaV,zgr,za6,dIf,zfr,zaU,dTB,zcK,zab,zfv,tyD,dOp,dFn,dA,dA0,zca,dC,zn3,zbi,zav,gIx,atI,ixN,g1,g2,zhQ,dNx,zh3]
     |false =>
      rw[er] at g2
      simp[zbk,zap,zcd,zaV,zgr,za6,dIf,zfr,zaU,dTB,zcK,zab,zfv,tyD,dOp,dFn,dA,dA0,zca,dC,zn3,zbi,zav,gIx,atI,ixN,g1,g2,zhQ,dNx,zh3]
   |_=>simp[zbk,zap,zcd,zaV,zgr,za6,dIf,zfr,zaU,dTB,zcK,zab,zfv,tyD,dOp,dFn,dA,dA0,zca,dC,zn3,zbi,zav,zm7,gIx,atI,ixN]
 |_=>simp[zbk,zap,zcd,zaV,zgr,za6,dIf,zfr,zaU,dTB,zcK,zab,zfv,tyD,zbi,dC,zav,zm7]
mutual
def zgy:Dt->Bool
 |.int _=>true
 |.tup [h,.tup bs]=>zhV h bs.length && zbE bs
 |_=>false
def zbE:List Dt->Bool
 |[]=>true
 |d::r=>zgy d && zbE r
end
mutual
def lvD:Dt->List Int
 |.int i=>[i]
 |.tup [_,.tup bs]=>zdU bs
 |_=>[]
def zdU:List Dt->List Int
 |[]=>[]
 |d::r=>lvD d++zdU r
end
mutual
def szD:Dt->Nat
 |.tup [_,.tup bs]=>zht bs+1
 |_=>1
def zht:List Dt->Nat
 |[]=>0
 |d::r=>szD d+zht r
end
mutual
def gdD:Dt->Bool
 |.tup [h,.tup bs]=>okN 60 h && zmw bs
 |_=>true
def zmw:List Dt->Bool
 |[]=>true
 |d::r=>gdD d && zmw r
end
theorem znq(d:Dt):1<=szD d:=by
 unfold szD
 split <;> omega
theorem zk6:∀ l:List Dt,l.length<=zht l
 |[]=>by simp
 |d::r=>by
  have:=zk6 r
  have:=znq d
  rw[zht,List.length_cons];omega
theorem zfE:∀ l:List Dt,zmw l=l.all gdD
 |[]=>by rw[zmw];rfl
 |d::r=>by rw[zmw,zfE r];rfl
theorem zft:∀ l:List Dt,zbE l=l.all zgy
 |[]=>by rw[zbE];rfl
 |d::r=>by rw[zbE,zft r];rfl
theorem ze1:∀ a b:List Dt,zht (a++b)=zht a+zht b
 |[],b=>by simp[zht]
 |d::a,b=>by rw[List.cons_append,zht,zht,ze1 a b];omega
theorem zbW:∀ a b:List Dt,zdU (a++b)=zdU a++zdU b
 |[],b=>by simp[zdU]
 |d::a,b=>by rw[List.cons_append,zdU,zdU,zbW a b];simp
theorem ztz{d:Dt}(h:gdD d=true):okH d=true:=by
 unfold okH
 split
 ·rw[gdD] at h
  simp only[Bool.and_eq_true] at h
  exact h.1
 ·rfl
def zsl(n:Nat)(d:Dt):Bool:=zgy d && (zfk (lvD d) == zbj n)
abbrev zj9:DT:=dTB (dOp gGt (zcy 3) (dC (.int 0)))
abbrev zf7:DS:=za6 (zb6 4 (zoI 3)) (dIf (dTB (zae zbk (dR (zab 4) dR0))) (dEx (znL 3 (dOp gIx (zab 4) (dC (.int 1))))) (dIf (ze8 (dTB (zae zbn (dR (zab 0) (dR (zab 4) dR0)))) (dTB (zq1 true 2 (zab 4)))) (dEx (zfO 2 (zab 4))) (zbi (dC (.bl false)))))
def LP(n:Int)(found:List Int)(w:List Dt):Prop:=zbE w=true/\(found++zdU w).Nodup/\∀ x∈zdU w,0<=x/\x<n
theorem zdi(a b:List Dt):zbE (a++b)=(zbE a && zbE b):=by
 rw[zft,zft,zft,List.all_append]
theorem zhM(a b:List Dt):zmw (a++b)=(zmw a && zmw b):=by
 rw[zfE,zfE,zfE,List.all_append]
theorem zmX{d:Dt}(h:zgy d=true):zm7 d=true\/∃ i,d=.int i:=by
 unfold zgy at h
 split at h
 ·exact .inr ⟨_,rfl⟩
 ·rw[Bool.and_eq_true] at h
  exact .inl h.1
 ·cases h
theorem zps{d:Dt}(h:zm7 d=true):∃ x bs,d=.tup [x,.tup bs]/\zhV x bs.length=true:=by
 unfold zm7 at h
 split at h
 ·exact ⟨_,_,rfl,h⟩
 ·cases h
theorem zrv{n:Int}{d:Dt}(h:isG n d=true):∃ i,d=.int i/\0<=i/\i<n:=by
 unfold isG at h
 split at h
 ·simp only[Bool.and_eq_true,decide_eq_true_eq] at h
  exact ⟨_,rfl,h⟩
 ·cases h
theorem zk2{N T o4:Option B}{f:List Dt}{w:List Dt}{d:Dt}:zb6 4 (zoI 3) [N,T,some (.own f),some (.own (w++[d])),o4]=.ok (.nx,[N,T,some (.own f),some (.own w),some (.val d)]):=by
 simp[zb6,zoI]
theorem zhc{n:Int}{T:Option B}:∀(fuel:Nat)(w:List Dt)(found:List Int)(o:Option B),zht w<fuel->zmw w=true->found.length+zht w<=1000 ->
  (LP n found w/\∃(f':List Int)(o':Option B),f'.length=found.length+(zdU w).length/\zb1 zj9 zf7 fuel [some (.val (.int n)),T,some (.own (found.map .int)),some (.own w),o]=.ok (.nx,[some (.val (.int n)),T,some (.own (f'.map Dt.int)),some (.own []),o'])) \/
  (¬ LP n found w/\∃ a b c,zb1 zj9 zf7 fuel [some (.val (.int n)),T,some (.own (found.map .int)),some (.own w),o]=.ok (.rt (.bl false),[some (.val (.int n)),T,a,b,c]))\/¬ found.Nodup
 |0,w,found,o,h,_,_=>absurd h (Nat.not_lt_zero _)
 |k+1,w,found,o,hf,hg,hl=>by
  by_cases hnd:found.Nodup
  rotate_left
  ·exact .inr (.inr hnd)
  have hcc:w=[]\/∃ w' d,w=w'++[d]:=by
   rcases List.eq_nil_or_concat w with h|⟨w',d,h⟩
   ·exact .inl h
   ·exact .inr ⟨w',d,by rw[h,List.concat_eq_append]⟩
  rcases hcc with rfl|⟨w',d,rfl⟩
  ·refine .inl ⟨⟨by rw[zbE],by rw[zdU,List.append_nil];exact hnd,by rw[zdU];simp⟩,found,o,by rw[zdU];simp,?_⟩
   unfold zb1
   simp[dTB,dOp,zcy,dC,zhQ]
  ·have ht:zj9 [some (.val (.int n)),T,some (.own (found.map .int)),some (.own (w'++[d])),o]=.ok (true,[some (.val (.int n)),T,some (.own (found.map .int)),some (.own (w'++[d])),o]):=by
    have:(0:Int)<(w'.length:Int)+1:=by omega
    simp[dTB,dOp,zcy,dC,zhQ,this]
   rw[zhM,Bool.and_eq_true] at hg
   have hgd:gdD d=true:=by
    have:=hg.2
    rw[zfE] at this
    simpa using this
   have hsz:zht (w'++[d])=zht w'+szD d:=by rw[ze1,zht,zht];omega
   rw[hsz] at hf hl
   have ef:dTB (zae zbk (dR (zab 4) dR0)) [some (.val (.int n)),T,some (.own (found.map .int)),some (.own w'),some (.val d)]=.ok (zm7 d,[some (.val (.int n)),T,some (.own (found.map .int)),some (.own w'),some (.val d)]) :=
    zaA (zcD (ρ':=[some (.val (.int n)),T,some (.own (found.map .int)),some (.own w'),some (.val d)]) rfl (zna d (ztz hgd)))
   have eg:dTB (zae zbn (dR (zab 0) (dR (zab 4) dR0))) [some (.val (.int n)),T,some (.own (found.map .int)),some (.own w'),some (.val d)]=.ok (isG n d,[some (.val (.int n)),T,some (.own (found.map .int)),some (.own w'),some (.val d)]) :=
    zaA (zdz (ρ':=[some (.val (.int n)),T,some (.own (found.map .int)),some (.own w'),some (.val d)]) rfl rfl (zhX n d))
   cases hfk:zm7 d with
   |true =>
    rw[hfk] at ef
    obtain ⟨x,bs,rfl,hh⟩:=zps hfk
    rw[gdD,Bool.and_eq_true] at hgd
    have hb:zf7 [some (.val (.int n)),T,some (.own (found.map .int)),some (.own (w'++[.tup [x,.tup bs]])),o]=.ok (.nx,[some (.val (.int n)),T,some (.own (found.map .int)),some (.own (w'++bs)),some (.val (.tup [x,.tup bs]))]):=by
     unfold zf7
     rw[zak zk2,zds ef]
     have h1:=zk6 w'
     have h2:=zk6 bs
     rw[szD] at hl
     have h3:w'.length+bs.length<=16777216:=by omega
     simp[dEx,znL,dOp,zab,dC,gIx,atI,ixN,zq6,h3]
    have hLP:LP n found (w'++[.tup [x,.tup bs]]) ↔ LP n found (w'++bs):=by
     unfold LP
     rw[zdi,zdi,zbW,zbW,zbE,zbE,zgy,hh,zdU,zdU,lvD]
     simp
    have hlen:(zdU (w'++[.tup [x,.tup bs]])).length=(zdU (w'++bs)).length:=by
     rw[zbW,zbW,zdU,zdU,lvD];simp
    rw[szD] at hf hl
    have ih:=zhc (n:=n) (T:=T) k (w'++bs) found (some (.val (.tup [x,.tup bs]))) (by rw[ze1];omega) (by rw[zhM,Bool.and_eq_true];exact ⟨hg.1,hgd.2⟩) (by rw[ze1];omega)
    have hw:zb1 zj9 zf7 (k+1) [some (.val (.int n)),T,some (.own (found.map .int)),some (.own (w'++[.tup [x,.tup bs]])),o]=zb1 zj9 zf7 k [some (.val (.int n)),T,some (.own (found.map .int)),some (.own (w'++bs)),some (.val (.tup [x,.tup bs]))]:=by
     conv=>lhs;unfold zb1
     rw[ht]
     simp only[R.bind_ok,if_true]
     rw[hb]
     simp only[R.bind_ok]
    rw[hw,hLP,hlen]
    exact ih
   |false =>
    rw[hfk] at ef
    by_cases hq:∃ i,d=.int i/\0<=i/\i<n/\i∉found
    ·obtain ⟨i,rfl,i0,i1,hni⟩:=hq
     have hgi:isG n (.int i)=true:=by unfold isG;simp[i0,i1]
     rw[hgi] at eg
     have hb:zf7 [some (.val (.int n)),T,some (.own (found.map .int)),some (.own (w'++[.int i])),o]=.ok (.nx,[some (.val (.int n)),T,some (.own ((found++[i]).map .int)),some (.own w'),some (.val (.int i))]):=by
      unfold zf7
      rw[zak zk2,zbA ef]
      have hin:dTB (zq1 true 2 (zab 4)) [some (.val (.int n)),T,some (.own (found.map .int)),some (.own w'),some (.val (.int i))]=.ok (true,[some (.val (.int n)),T,some (.own (found.map .int)),some (.own w'),some (.val (.int i))]):=by
       have ok1:(okN 60 (.int i) && (found.map Dt.int).all (okN 60))=true:=by simp[okN]
       have:=zkM i found
       simp only[dTB,zq1,zab,List.getElem?_cons_succ,List.getElem?_cons_zero,R.bind_ok,gIn,ok1,if_true,this]
       simp[hni]
      rw[zds (by rw[zeG eg];exact hin)]
      have h3:found.length<16777216:=by omega
      simp[dEx,zfO,zab,h3]
     have hLP:LP n found (w'++[.int i]) ↔ LP n (found++[i]) w':=by
      unfold LP
      rw[zdi,zbW,zbE,zbE,zgy,zdU,zdU,lvD]
      have hp:(found++(zdU w'++([i]++[]))).Perm (found++[i]++zdU w'):=by
       rw[List.append_nil,List.append_assoc]
       exact List.Perm.append_left _ List.perm_append_comm
      rw[hp.nodup_iff]
      constructor
      ·rintro ⟨a,b,c⟩
       exact ⟨by simpa using a,b,fun x hx=>c x (by simp[hx])⟩
      ·rintro ⟨a,b,c⟩
       refine ⟨by simpa using a,b,fun x hx=>?_⟩
       rcases List.mem_append.mp hx with h|h
       ·exact c x h
       ·have:x=i:=by simpa using h
        subst this;exact ⟨i0,i1⟩
     have hlen:(zdU (w'++[.int i])).length=(zdU w').length+1:=by
      rw[zbW,zdU,zdU,lvD];simp
     have hs1:=znq (.int i)
     have ih:=zhc (n:=n) (T:=T) k w' (found++[i]) (some (.val (.int i))) (by omega) hg.1 (by simp;omega)
     have hw:zb1 zj9 zf7 (k+1) [some (.val (.int n)),T,some (.own (found.map .int)),some (.own (w'++[.int i])),o]=zb1 zj9 zf7 k [some (.val (.int n)),T,some (.own ((found++[i]).map .int)),some (.own w'),some (.val (.int i))]:=by
      conv=>lhs;unfold zb1
      rw[ht]
      simp only[R.bind_ok,if_true]
      rw[hb]
      simp only[R.bind_ok]
     rw[hw,hLP,hlen]
     rcases ih with ⟨h1,f',o',h2,h3⟩|h|h
     ·exact .inl ⟨h1,f',o',by rw[h2];simp;omega,h3⟩
     ·exact .inr (.inl h)
     ·exfalso
      apply h
      rw[List.nodup_append]
      refine ⟨hnd,by simp,fun a ha b hb=>?_⟩
      have:b=i:=by simpa using hb
      subst this
      exact fun e=>hni (e ▸ ha)
    ·refine .inr (.inl ⟨?_,some (.own (found.map .int)),some (.own w'),some (.val d),?_⟩)
     ·rintro ⟨a,b,c⟩
      rw[zdi,Bool.and_eq_true,zbE,zbE,Bool.and_true] at a
      rw[zbW,zdU,zdU,List.append_nil] at b c
      rcases zmX a.2 with h|⟨i,rfl⟩
      ·rw[hfk] at h;cases h
      ·rw[lvD] at b c
       have:=c i (by simp)
       refine hq ⟨i,rfl,this.1,this.2,fun hi=>?_⟩
       rw[List.nodup_append] at b
       exact b.2.2 i hi i (by simp) rfl
     ·have hb:zf7 [some (.val (.int n)),T,some (.own (found.map .int)),some (.own (w'++[d])),o]=.ok (.rt (.bl false),[some (.val (.int n)),T,some (.own (found.map .int)),some (.own w'),some (.val d)]):=by
       unfold zf7
       rw[zak zk2,zbA ef]
       have hc:ze8 (dTB (zae zbn (dR (zab 0) (dR (zab 4) dR0)))) (dTB (zq1 true 2 (zab 4))) [some (.val (.int n)),T,some (.own (found.map .int)),some (.own w'),some (.val d)]=.ok (false,[some (.val (.int n)),T,some (.own (found.map .int)),some (.own w'),some (.val d)]):=by
        cases hgd':isG n d with
        |false=>rw[hgd'] at eg;exact ziA eg
        |true =>
         rw[hgd'] at eg
         obtain ⟨i,rfl,i0,i1⟩:=zrv hgd'
         have hi:i∈found:=by
          by_cases z:i∈found
          ·exact z
          ·exact absurd ⟨i,rfl,i0,i1,z⟩ hq
         rw[zeG eg]
         have ok1:(okN 60 (.int i) && (found.map Dt.int).all (okN 60))=true:=by simp[okN]
         have:=zkM i found
         simp only[dTB,zq1,zab,List.getElem?_cons_succ,List.getElem?_cons_zero,R.bind_ok,gIn,ok1,if_true,this]
         simp[hi]
       rw[zbA hc]
       rfl
      unfold zb1
      rw[ht]
      simp only[R.bind_ok,if_true]
      rw[hb]
      simp only[R.bind_ok]
theorem zk9{n:Nat}{d:Dt}(h1:1<=n)(h7:n<=7)(hs:szD d<60)(hg:gdD d=true):zei [.val (.int n),.val d]=.ok (.bl (zsl n d),[.val .non,.val .non]):=by
 have ec:dEx (zae zan (dR (zab 0) dR0)) [some (.val (.int n)),some (.val d),none,none,none]=.ok (.nx,[some (.val (.int n)),some (.val d),none,none,none]) :=
  zd8 (zcD (ρ':=[some (.val (.int n)),some (.val d),none,none,none]) rfl (zey (by omega) (by omega)))
 have e2:zbO 2 (zc9 dA0) [some (.val (.int n)),some (.val d),none,none,none]=.ok (.nx,[some (.val (.int n)),some (.val d),some (.own []),none,none]):=rfl
 have e3:zbO 3 (zc9 (dA (zab 1) dA0)) [some (.val (.int n)),some (.val d),some (.own []),none,none]=.ok (.nx,[some (.val (.int n)),some (.val d),some (.own []),some (.own [d]),none]):=rfl
 have hss:zht [d]=szD d:=by rw[zht,zht];omega
 have hll:zdU [d]=lvD d:=by rw[zdU,zdU,List.append_nil]
 have hnn:zbE [d]=zgy d:=by rw[zbE,zbE,Bool.and_true]
 have hloop:=zhc (n:=(n:Int)) (T:=some (.val d)) 60 [d] [] none (by rw[hss];exact hs) (by rw[zfE];simp[hg]) (by rw[hss];simp;omega)
 have hd:zfa=za6 (dEx (zae zan (dR (zab 0) dR0))) (za6 (zbO 2 (zc9 dA0)) (za6 (zbO 3 (zc9 (dA (zab 1) dA0))) (za6 (zb1 zj9 zf7 60) (zbi (dOp (gEq false) (zcy 2) (zab 0)))))):=rfl
 rcases hloop with ⟨hp,f',o',hf,e4⟩|⟨hp,a,b,c,e4⟩|h
 ·refine zao (ρ':=[some (.val (.int n)),some (.val d),some (.own (f'.map .int)),some (.own []),o']) rfl ?_ rfl
  show zfa [some (.val (.int n)),some (.val d),none,none,none]=_
  rw[hd,zak ec,zak e2,zak e3]
  simp only[List.map_nil] at e4
  rw[zak e4]
  refine zaW (zat (d:=.int f'.length) (e:=.int n) (ρ1:=[some (.val (.int n)),some (.val d),some (.own (f'.map .int)),some (.own []),o']) (by simp[zcy]) rfl ?_)
  rw[zn3]
  unfold LP at hp
  rw[hll,hnn] at hp
  rw[hll] at hf
  unfold zsl
  rw[hp.1,Bool.true_and]
  simp only[Bool.false_eq_true,if_false]
  congr 2
  rw[Bool.eq_iff_iff,beq_iff_eq,beq_iff_eq,zie]
  simp only[List.nil_append,List.length_nil,Nat.zero_add] at hp hf
  constructor
  ·intro h
   exact ⟨hp.2.1,hp.2.2,by omega⟩
  ·rintro ⟨_,_,h⟩
   omega
 ·refine zao (ρ':=[some (.val (.int n)),some (.val d),a,b,c]) rfl ?_ rfl
  show zfa [some (.val (.int n)),some (.val d),none,none,none]=_
  rw[hd,zak ec,zak e2,zak e3]
  simp only[List.map_nil] at e4
  rw[zcg e4]
  have:zsl n d=false:=by
   rw[Bool.eq_false_iff]
   intro z
   unfold zsl at z
   rw[Bool.and_eq_true,beq_iff_eq,zie] at z
   apply hp
   unfold LP
   rw[hll,hnn,List.nil_append]
   exact ⟨z.1,z.2.1,z.2.2.1⟩
  rw[this]
 ·exact absurd List.nodup_nil h
mutual
theorem zlG:∀ t:Tr,zgy (toD t)=okT t
 |.lf i=>by rw[toD,zgy,okT]
 |.nd r l=>by
  rw[toD,zgy,okT,zjo l]
  have:(zdS l).length=l.length:=by rw[zdH,List.length_map]
  rw[this]
  congr 1
  cases r with
  |true =>
   show ((wd true == zm1 && decide (2<=l.length)) || (wd true == zm2 && decide (3<=l.length)))=_
   have e1:(wd true == zm1)=false:=by decide +kernel
   have e2:(wd true == zm2)=true:=by decide +kernel
   rw[e1,e2];simp
  |false =>
   show ((wd false == zm1 && decide (2<=l.length)) || (wd false == zm2 && decide (3<=l.length)))=_
   have e1:(wd false == zm1)=true:=by decide +kernel
   have e2:(wd false == zm2)=false:=by decide +kernel
   rw[e1,e2];simp
theorem zjo:∀ l:List Tr,zbE (zdS l)=zgq l
 |[]=>by rw[zdS,zbE,zgq]
 |t::l=>by rw[zdS,zbE,zgq,zlG t,zjo l]
end
mutual
theorem zqr:∀ t:Tr,lvD (toD t)=za5 t
 |.lf i=>by rw[toD,lvD,za5]
 |.nd r l=>by rw[toD,lvD,za5,znI l]
theorem znI:∀ l:List Tr,zdU (zdS l)=zaz l
 |[]=>by rw[zdS,zdU,zaz]
 |t::l=>by rw[zdS,zdU,zaz,zqr t,znI l]
end
theorem zqA(r:Bool):okN 60 (.str (wd r))=true:=by cases r <;> decide +kernel
mutual
theorem zqn:∀ t:Tr,gdD (toD t)=true
 |.lf i=>by rw[toD,gdD];all_goals (intros;simp at *)
 |.nd r l=>by rw[toD,gdD,zqA,zo9 l];rfl
theorem zo9:∀ l:List Tr,zmw (zdS l)=true
 |[]=>by rw[zdS,zmw]
 |t::l=>by rw[zdS,zmw,zqn t,zo9 l];rfl
end
mutual
theorem zqe:∀ t:Tr,okT t=true->szD (toD t)+1<=2 * (za5 t).length
 |.lf i,_=>by rw[toD,szD,za5];simp;all_goals (intros;simp at *)
 |.nd r l,h=>by
  rw[okT,Bool.and_eq_true,decide_eq_true_eq] at h
  have:=znQ l h.2
  have h2:2<=l.length:=by have:=h.1;cases r <;> simp at this <;> omega
  rw[toD,szD,za5];omega
theorem znQ:∀ l:List Tr,zgq l=true->zht (zdS l)+l.length<=2 * (zaz l).length
 |[],_=>by rw[zdS,zht,zaz];simp
 |t::l,h=>by
  rw[zgq,Bool.and_eq_true] at h
  have h1:=zqe t h.1
  have h2:=znQ l h.2
  rw[zdS,zht,zaz,List.length_append,List.length_cons];omega
end
theorem zlv(r:Bool):PySem.PyData.strOk (wd r)=true:=by cases r <;> decide +kernel
theorem znN:∀(n:Nat)(t:Tr),dep t<=n->okN (2 * n) (toD t)=true
 |n,.lf i,_=>by simp[toD,okN]
 |0,.nd r l,h=>by simp[dep] at h
 |n+1,.nd r l,h=>by
  simp only[dep] at h
  have e:2 * (n+1)=(2 * n+1)+1:=by omega
  rw[e,toD]
  have h2:okN (2 * n+1) (.tup (zdS l))=true:=by
   simp only[okN,zdH,List.all_eq_true,List.mem_map]
   rintro d ⟨t,ht,rfl⟩
   exact znN n t (zgK.mp (by omega:zg3 l<=n) t ht)
  have h1:okN (2 * n+1) (.str (wd r))=true:=by
   rw[okN];exact zlv r
  rw[okN]
  simp only[List.all_cons,List.all_nil,h1,h2,Bool.and_self]
theorem ok60{t:Tr}(h:dep t<=9):okN 59 (toD t)=true:=zsq (znN 9 t h) (by decide)
def isLf:Tr->Bool
 |.lf _=>true
 |.nd _ _=>false
theorem ziX(t:Tr):zfm [.val (toD t)]=.ok (.bl (isLf t),[.val .non]):=by
 cases t with
 |lf i=>rw[toD];rfl
 |nd r l=>rw[toD];rfl
theorem zgE:∀{l:List Tr}{t:Tr},t∈l->(za5 t).length<=(zaz l).length
 |[],_,h=>by cases h
 |u::l,t,h=>by
  simp only[zaz,List.length_append]
  rcases List.mem_cons.mp h with rfl|h
  ·omega
  ·have:=zgE h;omega
theorem eqS{x y:Str}:eqD (.str x) (.str y)=(x == y):=by rw[eqD]
theorem ztI(r:Bool):(wd r == Str.ofString "any") = !r:=by cases r <;> decide +kernel
def tdN:Nat->Dt->Bool
 |_,.int _=>true
 |_,.str x=>PySem.PyData.strOk x
 |n+1,.tup l=>decide (l.length<=1000) && l.all (tdN n)
 |_,_=>false
theorem zkA{n:Nat}:∀(l:List Tr),zg3 l<=n->zgq l=true->l.length<=(zaz l).length
 |[],_,_=>by simp
 |t::q,hd,ho=>by
  simp only[zg3] at hd
  simp only[zgq,Bool.and_eq_true] at ho
  have h1:=List.length_pos_iff.mpr (zj6 n t (by omega) ho.1)
  have h2:=zkA (n:=n) q (by omega) ho.2
  simp only[zaz,List.length_append,List.length_cons]
  omega
theorem zmI:∀(n:Nat)(t:Tr),dep t<=n->okT t=true->(za5 t).length<64->tdN (2 * n) (toD t)=true
 |n,.lf i,_,_,_=>by rw[toD];cases n <;> rfl
 |0,.nd r l,h,_,_=>by simp[dep] at h
 |n+1,.nd r l,h,ho,hl=>by
  simp only[dep] at h
  simp only[okT,Bool.and_eq_true] at ho
  simp only[za5] at hl
  have e:2 * (n+1)=(2 * n+1)+1:=by omega
  rw[e,toD]
  have hk:=zkA (n:=n) l (by omega) ho.2
  have ho2:=ho.2
  rw[zi7,List.all_eq_true] at ho2
  have h2:tdN (2 * n+1) (.tup (zdS l))=true:=by
   rw[tdN,zdH,Bool.and_eq_true,List.all_eq_true]
   refine ⟨by simp only[List.length_map,decide_eq_true_eq];omega,fun d hd=>?_⟩
   obtain ⟨t,ht,rfl⟩:=List.mem_map.mp hd
   exact zmI n t (zgK.mp (by omega:zg3 l<=n) t ht) (ho2 t ht) (by have:=zgE ht;omega)
  have h1:tdN (2 * n+1) (.str (wd r))=true:=zlv r
  rw[tdN]
  simp only[List.all_cons,List.all_nil,h1,h2,Bool.and_self,List.length_cons,List.length_nil]
  rfl
theorem okB{b:Bool}:okN 60 (.bl b)=true:=rfl
theorem eqB{a b:Bool}:eqD (.bl a) (.bl b)=(a == b):=by rw[eqD]
theorem ziS{f:Dt->Dt}{fe:De}{a b:Option B}:∀{l:List Dt}{o o2:Option B},(∀ d∈l,fe [a,b,some (.val d),some (.val d)]=.ok (f d,[a,b,some (.val d),some (.val d)]))->∃ o' o2',zb7 (ziv 2 3) dTT fe (l.map fun d=>.tup [d,d]) [a,b,o,o2]=.ok (l.map f,[a,b,o',o2'])
 |[],o,o2,_=>⟨o,o2,rfl⟩
 |d::l,o,o2,h=>by
  obtain ⟨o',o2',e⟩:=ziS (l:=l) (o:=some (.val d)) (o2:=some (.val d)) fun c hc=>h c (List.mem_cons_of_mem _ hc)
  refine ⟨o',o2',?_⟩
  rw[List.map_cons,zb7]
  show (((fe [a,b,some (.val d),some (.val d)]).bind fun y=>(zb7 (ziv 2 3) dTT fe (l.map fun d=>.tup [d,d]) y.2).bind fun z=>R.ok (y.1::z.1,z.2)):R _)=_
  rw[h d (by simp)]
  simp only[R.bind_ok]
  rw[e]
  rfl
theorem zf0:∀(l:List Dt),ze5 (l.map fun _=>Dt.bl true)=some (l.map fun _=>true)
 |[]=>rfl
 |d::l=>by simp[ze5,zf0 l]
theorem zkf{F:FD}{d:Dt}(h1:(zfv (tyD d) "tuple" || zfv (tyD d) "list")=false)(h2:okN 60 d=true)(h3:eqD d d=true):zbR F [some (.val d),some (.val d)]=.ok (.rt (.bl true),[some (.val d),some (.val d)]):=by
 unfold zbR
 have e0:dTB (zrU "tuple" "list" (zab 1)) [some (.val d),some (.val d)]=.ok (false,[some (.val d),some (.val d)]):=by
  show R.ok ((zfv (tyD d) "tuple" || zfv (tyD d) "list"),[some (B.val d),some (.val d)])=_
  rw[h1]
 rw[zak (ρ1:=[some (.val d),some (.val d)]) (by rw[zbA e0];rfl)]
 refine zaW ?_
 have e1:dOp (gEq false) (zab 0) (zab 1) [some (.val d),some (.val d)]=.ok (.bl true,[some (.val d),some (.val d)]):=zat rfl rfl (by rw[zbx h2 h2,h3];rfl)
 have e2:dOp (gEq false) (zcK "bool" (zab 0)) (zcK "bool" (zab 1)) [some (.val d),some (.val d)]=.ok (.bl true,[some (.val d),some (.val d)]):=zat rfl rfl (by
  rw[zbx okB okB,eqB];simp)
 unfold zh3
 rw[e1]
 simp only[R.bind_ok]
 rw[e2]
theorem zl2{n:Nat}{l:List Dt}(hl:l.length<=1000)(hs:∀ d∈l,zas (n+1) [.val d,.val d]=.ok (.bl true,[.val .non,.val .non])):zas (n+2) [.val (.tup l),.val (.tup l)]=.ok (.bl true,[.val .non,.val .non]):=by
  refine zao (ρ':=[some (.val (.tup l)),some (.val (.tup l))]) rfl ?_ rfl
  show zbR (zas (n+1)) [some (.val (.tup l)),some (.val (.tup l))]=_
  unfold zbR
  refine zcg ?_
  rw[zds (ρ1:=[some (.val (.tup l)),some (.val (.tup l))]) rfl]
  have t1:dTB (dOp (gEq true) (zcK "tuple" (zab 0)) (zcK "tuple" (zab 1))) [some (.val (.tup l)),some (.val (.tup l))]=.ok (false,[some (.val (.tup l)),some (.val (.tup l))]):=zaA (zat rfl rfl (by rw[zbx okB okB,eqB];simp))
  have t2:dTB (dOp (gEq true) (zcK "list" (zab 0)) (zcK "list" (zab 1))) [some (.val (.tup l)),some (.val (.tup l))]=.ok (false,[some (.val (.tup l)),some (.val (.tup l))]):=zaA (zat rfl rfl (by rw[zbx okB okB,eqB];simp))
  have t3:dTB (dOp (gEq true) (dFn zca (dA (zab 0) dA0)) (dFn zca (dA (zab 1) dA0))) [some (.val (.tup l)),some (.val (.tup l))]=.ok (false,[some (.val (.tup l)),some (.val (.tup l))]):=zaA (zat (d:=.int l.length) (e:=.int l.length) rfl rfl (by rw[zbx rfl rfl,eqI];simp))
  rw[zak (ρ1:=[some (.val (.tup l)),some (.val (.tup l))]) (by rw[zbA (ρ1:=[some (.val (.tup l)),some (.val (.tup l))]) (by rw[zgU t1,t2])];rfl)]
  rw[zak (ρ1:=[some (.val (.tup l)),some (.val (.tup l))]) (by rw[zbA t3];rfl)]
  refine zaW ?_
  obtain ⟨o',o2',e⟩:=ziS (a:=some (.val (.tup l))) (b:=some (.val (.tup l))) (fe:=zae (zas (n+1)) (dR (zab 2) (dR (zab 3) dR0))) (f:=fun _=>.bl true) (l:=l) (o:=none) (o2:=none) fun d hd =>
   zdz (ρ':=[some (.val (.tup l)),some (.val (.tup l)),some (.val d),some (.val d)]) rfl rfl (hs d hd)
  have ez:∀(l:List Dt),(l.zip l).map (fun z=>Dt.tup [z.1,z.2])=l.map fun d=>.tup [d,d]:=fun l=>by
   induction l with
   |nil=>rfl
   |cons d l ih=>simp[ih]
  have ec:dFz (zaH (zk8 (zab 0) (zab 1)) (ziv 2 3) dTT (zae (zas (n+1)) (dR (zab 2) (dR (zab 3) dR0))) 2) [some (.val (.tup l)),some (.val (.tup l))]=.ok (.lst (l.map fun _=>.bl true),[some (.val (.tup l)),some (.val (.tup l))]):=by
   refine zb0 ?_
   have eZ:zk8 (zab 0) (zab 1) [some (.val (.tup l)),some (.val (.tup l))]=.ok (l.map fun d=>.tup [d,d],[some (.val (.tup l)),some (.val (.tup l))]):=by
    show (if l.length=l.length then R.ok ((l.zip l).map (fun z=>Dt.tup [z.1,z.2]),[some (B.val (.tup l)),some (.val (.tup l))]) else .no)=_
    rw[if_pos rfl,ez]
   unfold zaH
   rw[eZ]
   simp only[R.bind_ok]
   rw[if_pos (by unfold zd2;simp only[List.length_map,decide_eq_true_eq];omega)]
   show (match zb7 (ziv 2 3) dTT (zae (zas (n+1)) (dR (zab 2) (dR (zab 3) dR0))) (l.map fun d=>.tup [d,d]) [some (.val (.tup l)),some (.val (.tup l)),none,none] with|.ok z=>R.ok (z.1,z.2.take 2)|_=>.no)=_
   rw[e]
   rfl
  refine zbK ec ?_
  unfold zlE
  simp only[zf0]
  simp
theorem zpk{n:Nat}{l:List Dt}(hl:l.length<=1000)(hs:∀ d∈l,zas (n+1) [.val d,.val d]=.ok (.bl true,[.val .non,.val .non])):zas (n+2) [.val (.lst l),.val (.lst l)]=.ok (.bl true,[.val .non,.val .non]):=by
  refine zao (ρ':=[some (.val (.lst l)),some (.val (.lst l))]) rfl ?_ rfl
  show zbR (zas (n+1)) [some (.val (.lst l)),some (.val (.lst l))]=_
  unfold zbR
  refine zcg ?_
  rw[zds (ρ1:=[some (.val (.lst l)),some (.val (.lst l))]) rfl]
  have t1:dTB (dOp (gEq true) (zcK "tuple" (zab 0)) (zcK "tuple" (zab 1))) [some (.val (.lst l)),some (.val (.lst l))]=.ok (false,[some (.val (.lst l)),some (.val (.lst l))]):=zaA (zat rfl rfl (by rw[zbx okB okB,eqB];simp))
  have t2:dTB (dOp (gEq true) (zcK "list" (zab 0)) (zcK "list" (zab 1))) [some (.val (.lst l)),some (.val (.lst l))]=.ok (false,[some (.val (.lst l)),some (.val (.lst l))]):=zaA (zat rfl rfl (by rw[zbx okB okB,eqB];simp))
  have t3:dTB (dOp (gEq true) (dFn zca (dA (zab 0) dA0)) (dFn zca (dA (zab 1) dA0))) [some (.val (.lst l)),some (.val (.lst l))]=.ok (false,[some (.val (.lst l)),some (.val (.lst l))]):=zaA (zat (d:=.int l.length) (e:=.int l.length) rfl rfl (by rw[zbx rfl rfl,eqI];simp))
  rw[zak (ρ1:=[some (.val (.lst l)),some (.val (.lst l))]) (by rw[zbA (ρ1:=[some (.val (.lst l)),some (.val (.lst l))]) (by rw[zgU t1,t2])];rfl)]
  rw[zak (ρ1:=[some (.val (.lst l)),some (.val (.lst l))]) (by rw[zbA t3];rfl)]
  refine zaW ?_
  obtain ⟨o',o2',e⟩:=ziS (a:=some (.val (.lst l))) (b:=some (.val (.lst l))) (fe:=zae (zas (n+1)) (dR (zab 2) (dR (zab 3) dR0))) (f:=fun _=>.bl true) (l:=l) (o:=none) (o2:=none) fun d hd =>
   zdz (ρ':=[some (.val (.lst l)),some (.val (.lst l)),some (.val d),some (.val d)]) rfl rfl (hs d hd)
  have ez:∀(l:List Dt),(l.zip l).map (fun z=>Dt.tup [z.1,z.2])=l.map fun d=>.tup [d,d]:=fun l=>by
   induction l with
   |nil=>rfl
   |cons d l ih=>simp[ih]
  have ec:dFz (zaH (zk8 (zab 0) (zab 1)) (ziv 2 3) dTT (zae (zas (n+1)) (dR (zab 2) (dR (zab 3) dR0))) 2) [some (.val (.lst l)),some (.val (.lst l))]=.ok (.lst (l.map fun _=>.bl true),[some (.val (.lst l)),some (.val (.lst l))]):=by
   refine zb0 ?_
   have eZ:zk8 (zab 0) (zab 1) [some (.val (.lst l)),some (.val (.lst l))]=.ok (l.map fun d=>.tup [d,d],[some (.val (.lst l)),some (.val (.lst l))]):=by
    show (if l.length=l.length then R.ok ((l.zip l).map (fun z=>Dt.tup [z.1,z.2]),[some (B.val (.lst l)),some (.val (.lst l))]) else .no)=_
    rw[if_pos rfl,ez]
   unfold zaH
   rw[eZ]
   simp only[R.bind_ok]
   rw[if_pos (by unfold zd2;simp only[List.length_map,decide_eq_true_eq];omega)]
   show (match zb7 (ziv 2 3) dTT (zae (zas (n+1)) (dR (zab 2) (dR (zab 3) dR0))) (l.map fun d=>.tup [d,d]) [some (.val (.lst l)),some (.val (.lst l)),none,none] with|.ok z=>R.ok (z.1,z.2.take 2)|_=>.no)=_
   rw[e]
   rfl
  refine zbK ec ?_
  unfold zlE
  simp only[zf0]
  simp
theorem zhg:∀(n:Nat)(d:Dt),tdN n d=true->okN 60 d=true->zas (n+1) [.val d,.val d]=.ok (.bl true,[.val .non,.val .non])
 |n,.int i,ht,ho=>zao rfl (zkf rfl ho (by rw[eqI];simp)) rfl
 |n,.str x,ht,ho=>zao rfl (zkf rfl ho (by rw[eqS];simp)) rfl
 |0,.tup l,ht,ho=>by simp[tdN] at ht
 |n+1,.tup l,ht,ho=>by
  rw[tdN,Bool.and_eq_true,List.all_eq_true,decide_eq_true_eq] at ht
  exact zl2 ht.1 fun d hd=>zhg n d (ht.2 d hd) (by
   rw[okN,List.all_eq_true] at ho
   exact zfl _ _ (ho d hd))
 |n,.non,ht,ho=>by cases n <;> simp[tdN] at ht
 |n,.bl _,ht,ho=>by cases n <;> simp[tdN] at ht
 |n,.lst _,ht,ho=>by cases n <;> simp[tdN] at ht
 |n,.dct,ht,ho=>by cases n <;> simp[tdN] at ht
 |n,.scr _,ht,ho=>by cases n <;> simp[tdN] at ht
theorem zlw:∀(n:Nat)(d:Dt),tdN n d=true->tdN (n+1) d=true
 |n,.int _,_=>rfl
 |n,.str x,h=>by cases n <;> simpa [tdN] using h
 |0,.tup l,h=>by simp[tdN] at h
 |n+1,.tup l,h=>by
  rw[tdN,Bool.and_eq_true,List.all_eq_true] at h ⊢
  exact ⟨h.1,fun d hd=>zlw n d (h.2 d hd)⟩
 |n,.non,h=>by cases n <;> simp[tdN] at h
 |n,.bl _,h=>by cases n <;> simp[tdN] at h
 |n,.lst _,h=>by cases n <;> simp[tdN] at h
 |n,.dct,h=>by cases n <;> simp[tdN] at h
 |n,.scr _,h=>by cases n <;> simp[tdN] at h
theorem zo2{t:Tr}(h:dep t<=7)(ho:okT t=true)(hl:(za5 t).length<64):zas 16 [.val (toD t),.val (toD t)]=.ok (.bl true,[.val .non,.val .non]) :=
 zhg 15 _ (zlw _ _ (zmI 7 t h ho hl)) (zfl _ _ (ok60 (by omega)))
theorem zr9{k:Nat}(p:List Int)(hl:p.length<=1000):zas (k+2) [.val (tz p),.val (tz p)]=.ok (.bl true,[.val .non,.val .non]):=by
 unfold tz
 refine zl2 (by simpa using hl) fun d hd=>?_
 obtain ⟨i,_,rfl⟩:=List.mem_map.mp hd
 exact zhg k (.int i) (by cases k <;> rfl) rfl
theorem zrV{k:Nat}(ps:List (List Int))(hl:ps.length<=1000)(h:∀ p∈ps,p.length<=1000):zas (k+3) [.val (.lst (lp ps)),.val (.lst (lp ps))]=.ok (.bl true,[.val .non,.val .non]):=by
 refine zpk (by unfold lp;simpa using hl) fun d hd=>?_
 obtain ⟨p,hp,rfl⟩:=List.mem_map.mp hd
 exact zr9 p (h p hp)
def sL(l:List Nat):Str:=⟨l.toArray⟩
theorem ziY(l:List Nat):(sL l).cps.toList=l:=by simp[sL]
theorem zu2(x:Str):sL x.cps.toList=x:=by cases x;simp[sL]
theorem ztc{a b:List Nat}(h:sL a=sL b):a=b:=by rw[<- ziY a,h,ziY]
theorem zih(a b:List Nat):sL a++sL b=sL (a++b):=by
 show Str.mk _=Str.mk _
 simp[sL]
theorem zcA(a:List Nat):(sL a).length=a.length:=by simp[sL,Str.length]
def jn(c:Nat):List (List Nat)->List Nat
 |[]=>[]
 |[x]=>x
 |x::y::r=>x++c::jn c (y::r)
theorem zrm(c:Nat):∀ ls:List (List Nat),Str.join (sL [c]) (ls.map sL)=sL (jn c ls)
 |[]=>rfl
 |[x]=>rfl
 |x::y::r=>by
  have ih:=zrm c (y::r)
  show sL x++sL [c]++Str.join (sL [c]) ((y::r).map sL)=_
  rw[ih,zih,zih,jn]
  simp
theorem zqL(c:Nat)(ls:List (List Nat)):Txt.join (sL [c]) (ls.map sL)=sL (jn c ls):=by
 rw[<- zrm];exact StrLaws.glued_eq_join _ _
theorem zlm{c:Nat}:∀{x y A B:List Nat},c∉x->c∉y->x++c::A=y++c::B->x=y/\A=B
 |[],[],A,B,_,_,h=>by simp at h;exact ⟨rfl,h⟩
 |[],b::y,A,B,_,hy,h=>by simp at h;exact absurd h.1 (fun z=>hy (by simp[z]))
 |a::x,[],A,B,hx,_,h=>by simp at h;exact absurd h.1 (fun z=>hx (by simp[z]))
 |a::x,b::y,A,B,hx,hy,h=>by
  simp only[List.cons_append,List.cons.injEq] at h
  obtain ⟨e1,e2⟩:=zlm (fun z=>hx (by simp[z])) (fun z=>hy (by simp[z])) h.2
  exact ⟨by rw[h.1,e1],e2⟩
theorem zql{c:Nat}:∀{a b:List (List Nat)},a≠[]->b≠[]->(∀ l∈a,c∉l)->(∀ l∈b,c∉l)->jn c a=jn c b->a=b
 |[],_,h,_,_,_,_=>absurd rfl h
 |_,[],_,h,_,_,_=>absurd rfl h
 |[x],[y],_,_,_,_,h=>by rw[show x=y from h]
 |[x],y::z::r,_,_,hx,_,h=>absurd (show c∈x by rw[show x=y++c::jn c (z::r) from h];simp) (hx x (by simp))
 |x::z::r,[y],_,_,_,hy,h=>absurd (show c∈y by rw[<- show x++c::jn c (z::r)=y from h];simp) (hy y (by simp))
 |x::x2::r,y::y2::s,_,_,hx,hy,h=>by
  obtain ⟨e1,e2⟩:=zlm (hx x (by simp)) (hy y (by simp)) (show x++c::jn c (x2::r)=y++c::jn c (y2::s) from h)
  rw[e1,zql (by simp) (by simp) (fun l hl=>hx l (List.mem_cons_of_mem _ hl)) (fun l hl=>hy l (List.mem_cons_of_mem _ hl)) e2]
theorem zl8{c:Nat}{ls:List (List Nat)}(hne:ls≠[])(hf:∀ l∈ls,c∉l):Txt.split (sL (jn c ls)) (sL [c])=ls.map sL:=by
 have h1:=StrLaws.join_split (sL (jn c ls)) (sL [c])
 have e:Txt.split (sL (jn c ls)) (sL [c])=((Txt.split (sL (jn c ls)) (sL [c])).map fun x=>x.cps.toList).map sL:=by
  rw[List.map_map]
  conv=>lhs;rw[<- List.map_id (Txt.split (sL (jn c ls)) (sL [c]))]
  exact List.map_congr_left fun x _=>(zu2 x).symm
 rw[e,zrm] at h1
 have h2:=zql (c:=c) (fun z=>?_) hne (fun l hl=>?_) hf (ztc h1)
 ·rw[e,h2]
 ·have:=PyProof.Rows.split_pos (sL (jn c ls)) (sL [c])
  rw[List.map_eq_nil_iff] at z
  rw[z] at this
  simp at this
 ·obtain ⟨x,hx,rfl⟩:=List.mem_map.mp hl
  exact StrLaws.split_free (sL (jn c ls)) c x hx
theorem zgQ{sep:Str}{texts:List Str}{m:Nat}(hm:∀ t∈texts,t.length<=m)(h:texts.length * (m+sep.length)<=16777216):JoinOk sep texts=true:=by
 unfold JoinOk
 rw[StrLaws.joinTotal]
 have hs:(texts.map (·.length)).sum<=texts.length * m:=by
  clear h
  induction texts with
  |nil=>simp
  |cons t r ih =>
   have h1:=hm t (by simp)
   have h2:=ih fun t ht=>hm t (by simp[ht])
   simp only[List.map_cons,List.sum_cons,List.length_cons,Nat.succ_mul]
   omega
 rw[Nat.mul_add] at h
 have:¬ ((texts.map (·.length)).sum+texts.length * sep.length > sizeLine):=by rw[zci];omega
 simp[Builtin.Str.tooLong,this]
theorem zhI:∀ xs:List Str,zii (xs.map Dt.str)=some xs
 |[]=>rfl
 |x::r=>by simp[zii,zhI r]
theorem ziD{fs fl:De}{ρ ρ1 ρ2:Ev}{sep:Str}{xs:List Str}(h1:fs ρ=.ok (.str sep,ρ1))(h2:fl ρ1=.ok (.lst (xs.map Dt.str),ρ2))(hk:JoinOk sep xs=true):ze7 fs fl ρ=.ok (.str (Txt.join sep xs),ρ2):=by
 unfold ze7
 rw[h1]
 simp only[R.bind_ok]
 rw[h2]
 simp only[R.bind_ok,zhI,hk,if_true]
def dg(i:Int):List Nat:=[48+i.toNat]
theorem zsu(i:Int):(dg i).length=1:=rfl
theorem znA{i:Int}(h0:0<=i)(h7:i<7):zdF [.int i]=.ok (.str (sL (dg i))):=by
 have h:∀ g:_root_.Fin 7,(Str.ofString (toString ((g.val:Nat):Int)))=sL (dg ((g.val:Nat):Int))/\(((g.val:Nat):Int)).natAbs.log2<1920:=by decide +kernel
 obtain ⟨e1,e2⟩:=h ⟨i.toNat,by omega⟩
 have e:(((⟨i.toNat,by omega⟩ : _root_.Fin 7).val:Nat):Int)=i:=by show ((i.toNat:Nat):Int)=i;omega
 rw[e] at e1 e2
 unfold zdF
 simp only[e2,if_true]
 rw[<- e1]
theorem znT:Str.ofString ","=sL [44]:=by decide +kernel
theorem zjs:Str.ofString " "=sL [32]:=by decide +kernel
def tp(p:List Int):List Nat:=jn 44 (p.map dg)
def tps(ps:List (List Int)):List Nat:=jn 32 (ps.map tp)
theorem zmW{c m:Nat}:∀{ls:List (List Nat)},(∀ l∈ls,l.length<=m)->(jn c ls).length<=ls.length * (m+1)
 |[],_=>Nat.zero_le _
 |[x],h=>by
  have:=h x (by simp)
  show x.length<=1 * (m+1)
  omega
 |x::y::r,h=>by
  have h1:=h x (by simp)
  have h2:=zmW (c:=c) (ls:=y::r) fun l hl=>h l (List.mem_cons_of_mem _ hl)
  rw[jn,List.length_append,List.length_cons,List.length_cons (a:=x),Nat.succ_mul]
  omega
theorem zox{n:Int}:∀{p:List Int}{lo:Int},p.Pairwise (· < ·)->(∀ x∈p,lo<=x/\x<n)->p.length<=(n-lo).toNat
 |[],_,_,_=>Nat.zero_le _
 |x::r,lo,hp,h=>by
  rw[List.pairwise_cons] at hp
  have h1:=h x (by simp)
  have ih:=zox (p:=r) (lo:=x+1) hp.2 fun y hy=>⟨by have:=hp.1 y hy;omega,(h y (by simp[hy])).2⟩
  rw[List.length_cons]
  omega
theorem zep{n:Nat}{p:List Int}(h7:n<=7)(h:Pty n p):p.length<=7:=by
 have:=zox (lo:=0) h.2.1 h.2.2
 omega
theorem ziO{n:Nat}{p:List Int}(h7:n<=7)(h:Pty n p):∀ x∈p,0<=x/\x<7:=fun x hx=>by
 have:=h.2.2 x hx
 omega
theorem zmV{p:List Int}(h:p.length<=7):(tp p).length<=14:=by
 have:=zmW (c:=44) (m:=1) (ls:=p.map dg) fun l hl=>by
  obtain ⟨x,_,rfl⟩:=List.mem_map.mp hl
  exact Nat.le_refl _
 rw[List.length_map] at this
 unfold tp
 omega
theorem znn{ps:List (List Int)}(hl:ps.length<=8)(h:∀ p∈ps,p.length<=7):(tps ps).length<=120:=by
 have:=zmW (c:=32) (m:=14) (ls:=ps.map tp) fun l hl=>by
  obtain ⟨x,hx,rfl⟩:=List.mem_map.mp hl
  exact zmV (h x hx)
 rw[List.length_map] at this
 unfold tps
 omega
theorem zo7{ρ0:Ev}{fi:DA}{p:List Int}{j:Nat}(hi:fi ρ0=.ok (p.map .int,ρ0))(hj:j = ρ0.length)(hp:∀ x∈p,0<=x/\x<7)(hl:p.length<=100) :
  ze7 (dC (.str (Str.ofString ","))) (dFz (zaH fi (zbz j) dTT (dFn zdF (dA (zab j) dA0)) 1)) ρ0=.ok (.str (sL (tp p)),ρ0):=by
 have e:=zbl (u:=Dt.int) (f:=fun x=>Dt.str (sL (dg x))) (fe:=dFn zdF (dA (zab j) dA0)) (l:=p) hi rfl (by omega) (fun a ha=>zbK (by rw[hj];exact zfI) (znA (hp a ha).1 (hp a ha).2)) hj
 have h2:dFz (zaH fi (zbz j) dTT (dFn zdF (dA (zab j) dA0)) 1) ρ0=.ok (.lst (((p.map dg).map sL).map Dt.str),ρ0):=by
  rw[zb0 e,List.map_map,List.map_map]
  rfl
 have h3:=ziD (fs:=dC (.str (Str.ofString ","))) (ρ:=ρ0) rfl h2 (zgQ (m:=1) (fun t ht=>by
  obtain ⟨x,hx,rfl⟩:=List.mem_map.mp ht
  obtain ⟨y,_,rfl⟩:=List.mem_map.mp hx
  rw[zcA];exact Nat.le_refl _) (by rw[znT,zcA,List.length_map,List.length_map];simp;omega))
 rw[h3,znT,zqL]
 rfl
theorem zlT{p:List Int}(hp:∀ x∈p,0<=x/\x<7)(hl:p.length<=100):zd9 [.val (tz p)]=.ok (.str (sL (tp p)),[.val .non]):=by
 refine zao rfl (zaW (zo7 (ρ0:=[some (.val (tz p))]) (fi:=dIt (zab 0)) rfl rfl hp hl)) rfl
theorem zkU(p:List Int)(hl:p.length<=1000):zfy [.val (.lst (p.map .int))]=.ok (.bl (decide (p.Pairwise (· < ·))),[.val .non]):=by
 let ρ0:Ev:=[some (.val (.lst (p.map .int)))]
 have elen:dFn zca (dA (zab 0) dA0) ρ0=.ok (.int p.length,ρ0):=zbK (d:=.lst (p.map .int)) rfl (by simp[zca])
 obtain ⟨m,hm,em⟩ : ∃ m:Nat,m=p.length-1/\zcb (dOp zhm (dFn zca (dA (zab 0) dA0)) (dC (.int 1))) ρ0=.ok (zaR 0 m,ρ0):=by
  refine ⟨p.length-1,rfl,?_⟩
  have es:dOp zhm (dFn zca (dA (zab 0) dA0)) (dC (.int 1)) ρ0=.ok (.int ((p.length:Int)-1),ρ0):=zat elen rfl rfl
  cases p with
  |nil=>rfl
  |cons a r =>
   have e':((a::r).length:Int)-1=((r.length:Nat):Int):=by simp
   rw[e'] at es
   rw[zi8 es (by simp at hl;omega)]
   rfl
 let f:Nat->Bool:=fun k=>decide (p.getD k 0<p.getD (k+1) 0)
 have hc:zaH (zcb (dOp zhm (dFn zca (dA (zab 0) dA0)) (dC (.int 1)))) (zbz 1) dTT (dOp gLt (dOp gIx (zab 0) (zab 1)) (dOp gIx (zab 0) (dOp zb4 (zab 1) (dC (.int 1))))) 1 ρ0=.ok ((List.range m).map fun k=>.bl (f k),ρ0):=by
  refine zbl (l:=List.range m) (u:=fun k=>.int (0+(k:Nat))) (f:=fun k=>.bl (f k)) (ds:=zaR 0 m) em rfl (by rw[List.length_range];omega) (fun k hk=>?_) rfl
  have hkm:=List.mem_range.mp hk
  show dOp gLt (dOp gIx (zab 0) (zab 1)) (dOp gIx (zab 0) (dOp zb4 (zab 1) (dC (.int 1)))) [some (.val (.lst (p.map .int))),some (.val (.int (0+(k:Nat))))]=_
  have hk1:k<p.length:=by omega
  have hk2:k+1<p.length:=by omega
  have g1:gIx (.lst (p.map .int)) (.int (0+(k:Nat)))=.ok (.int (p.getD k 0)):=by
   refine zkF (by omega) (by simp;omega) ?_
   rw[show (0+((k:Nat):Int)).toNat=k by omega,List.getElem?_map,List.getElem?_eq_getElem hk1,List.getD_eq_getElem?_getD,List.getElem?_eq_getElem hk1]
   rfl
  have g2:gIx (.lst (p.map .int)) (.int (0+(k:Nat)+1))=.ok (.int (p.getD (k+1) 0)):=by
   refine zkF (by omega) (by simp;omega) ?_
   rw[show (0+((k:Nat):Int)+1).toNat=k+1 by omega,List.getElem?_map,List.getElem?_eq_getElem hk2,List.getD_eq_getElem?_getD,List.getElem?_eq_getElem hk2]
   rfl
  exact zat (zat rfl rfl g1) (zat rfl (zat rfl rfl rfl) g2) rfl
 refine zao (ρ':=ρ0) rfl ?_ rfl
 show zgI ρ0=_
 unfold zgI
 refine zaW (zbK (zb0 hc) ?_)
 rw[zkZ]
 congr 2
 rw[Bool.eq_iff_iff,List.all_eq_true,decide_eq_true_eq,zi1]
 constructor
 ·intro h k hk
  have:=h k (List.mem_range.mpr (by omega))
  simp only[f,decide_eq_true_eq,List.getD_eq_getElem?_getD,List.getElem?_eq_getElem hk,List.getElem?_eq_getElem (show k<p.length by omega),Option.getD_some] at this
  exact this
 ·intro h k hk
  have hkm:=List.mem_range.mp hk
  have hk2:k+1<p.length:=by omega
  have:=h k hk2
  simp only[f,decide_eq_true_eq,List.getD_eq_getElem?_getD,List.getElem?_eq_getElem hk2,List.getElem?_eq_getElem (show k<p.length by omega),Option.getD_some]
  exact this
def ptx(ps:List (List Int)):Str:=if ps=[] then Str.ofString "none" else sL (tps ps)
theorem zpU{n:Nat}{ps:List (List Int)}(hp:zki n ps)(hl:ps.length<=8):znD n (.lst (lp ps))=true:=by
 unfold znD
 dsimp only
 rw[Bool.and_eq_true,List.all_eq_true]
 refine ⟨by simp[lp,hl],fun d hd=>?_⟩
 obtain ⟨p,hp',rfl⟩:=List.mem_map.mp hd
 exact zrY (hp p hp')
theorem zrG{n:Nat}{ps:List (List Int)}(h7:n<=7)(hp:zki n ps):Lens (.lst (lp ps)):=fun d hd t e=>by
 obtain ⟨p,hp',rfl⟩:=List.mem_map.mp hd
 cases e
 have:=zep h7 (hp p hp')
 rw[List.length_map];omega
theorem zjR{n:Nat}{ps:List (List Int)}(h1:1<=n)(h7:n<=7)(hp:zki n ps)(hl:ps.length<=8):zbo [.val (.int n),.val (.lst (lp ps))]=.ok (.bl true,[.val .non,.val .non]):=by
 rw[ze9 h1 h7 _ (zrG h7 hp),zpU hp hl]
theorem zrZ{n:Nat}{ps:List (List Int)}(h1:1<=n)(h7:n<=7)(hp:zki n ps)(hl:ps.length<=8):zaK [.val (.int n),.val (.lst (lp ps))]=.ok (.non,[.val .non,.val .non]):=by
 refine zon (ρ':=[some (.val (.int n)),some (.val (.lst (lp ps)))]) rfl ?_ rfl
 show zaS _=_
 unfold zaS
 rw[zbA (zdI (zaA (zdz rfl rfl (zjR h1 h7 hp hl))))]
 rfl
theorem znR{ρ0:Ev}{fl:De}{n:Nat}{ps:List (List Int)}(h7:n<=7)(hp:zki n ps)(hl:ps.length<=8)(h:fl ρ0=.ok (.lst (ps.map fun p=>Dt.str (sL (tp p))),ρ0)):ze7 (dC (.str (Str.ofString " "))) fl ρ0=.ok (.str (sL (tps ps)),ρ0):=by
 have h2:fl ρ0=.ok (.lst (((ps.map tp).map sL).map Dt.str),ρ0):=by
  rw[h,List.map_map,List.map_map];rfl
 have h3:=ziD (fs:=dC (.str (Str.ofString " "))) (ρ:=ρ0) rfl h2 (zgQ (m:=14) (fun t ht=>by
  obtain ⟨x,hx,rfl⟩:=List.mem_map.mp ht
  obtain ⟨y,hy,rfl⟩:=List.mem_map.mp hx
  rw[zcA];exact zmV (zep h7 (hp y hy))) (by rw[zjs,zcA,List.length_map,List.length_map];simp;omega))
 rw[h3,zjs,zqL]
 rfl
theorem zhH{n:Nat}{ps:List (List Int)}(h1:1<=n)(h7:n<=7)(hp:zki n ps)(hl:ps.length<=8):zaq [.val (.int n),.val (.lst (lp ps))]=.ok (.str (ptx ps),[.val .non,.val .non]):=by
 let ρ0:Ev:=[some (.val (.int n)),some (.val (.lst (lp ps)))]
 have e1:dEx (zae zaK (dR (zab 0) (dR (zab 1) dR0))) ρ0=.ok (.nx,ρ0):=zd8 (zdz rfl rfl (zrZ h1 h7 hp hl))
 have e2:dTB (dOp (gEq false) (dFn zca (dA (zab 1) dA0)) (dC (.int 0))) ρ0=.ok (decide (ps=[]),ρ0):=by
  refine zaA (zat (d:=.int ps.length) (zbK (d:=.lst (lp ps)) rfl (by simp[zca,lp])) rfl ?_)
  rw[zn3]
  congr 2
  cases ps <;> simp
  omega
 refine zao (ρ':=ρ0) rfl ?_ rfl
 show zbf ρ0=_
 unfold zbf
 rw[zak e1]
 by_cases h0:ps=[]
 ·rw[decide_eq_true h0] at e2
  rw[zcg (d:=.str (Str.ofString "none")) (ρ1:=ρ0) (by rw[zds e2];rfl)]
  unfold ptx
  rw[if_pos h0]
 ·rw[decide_eq_false h0] at e2
  rw[zak (ρ1:=ρ0) (by rw[zbA e2];rfl)]
  unfold ptx
  rw[if_neg h0]
  refine zaW (znR h7 hp hl (zb0 ?_))
  exact zbl (u:=tz) (f:=fun p=>Dt.str (sL (tp p))) (l:=ps) rfl rfl (by omega) (fun p hq=>zcD (zfI (ρ0:=ρ0)) (zlT (ziO h7 (hp p hq)) (by have:=zep h7 (hp p hq);omega))) rfl
theorem zq7{n:Nat}{ps:List (List Int)}(hp:zki n ps)(h0:ps≠[]):∃(x:Int)(r:List Nat),0<=x/\x<n/\tps ps=(48+x.toNat)::r:=by
 cases ps with
 |nil=>exact absurd rfl h0
 |cons p q =>
  obtain ⟨a1,a2,a3⟩:=hp p (by simp)
  cases p with
  |nil=>exact absurd rfl a1
  |cons x r =>
   have hx:=a3 x (by simp)
   have e:∃ r',tp (x::r)=(48+x.toNat)::r':=by
    cases r with
    |nil=>exact ⟨[],rfl⟩
    |cons y s=>exact ⟨_,rfl⟩
   obtain ⟨r',e⟩:=e
   refine ⟨x,?_⟩
   cases q with
   |nil=>exact ⟨r',hx.1,hx.2,e⟩
   |cons p2 q2 =>
    refine ⟨r'++32::jn 32 ((p2::q2).map tp),hx.1,hx.2,?_⟩
    show tp (x::r)++32::jn 32 ((p2::q2).map tp)=_
    rw[e];rfl
theorem zkO{n:Nat}{ps:List (List Int)}(h7:n<=7)(hp:zki n ps)(hl:ps.length<=8):zaQ [.val (.lst (lp ps))]=.ok (.str (ptx ps),[.val .non]):=by
 let ρ0:Ev:=[some (.val (.lst (lp ps))),none]
 let W:Dt:=.lst (ps.map fun p=>Dt.str (sL (tp p)))
 have e1:zb6 1 (dFz (zaH (dIt (zab 0)) (zbz 2) dTT (ze7 (dC (.str (Str.ofString ","))) (dFz (zaH (dIt (zab 2)) (zbz 3) dTT (dFn zdF (dA (zab 3) dA0)) 1))) 1)) ρ0=.ok (.nx,[some (.val (.lst (lp ps))),some (.val W)]):=by
  refine zbm (i:=1) (zb0 (zbl (u:=tz) (f:=fun p=>Dt.str (sL (tp p))) (l:=ps) (ρ0:=ρ0) rfl rfl (by omega) (fun p hq=>?_) rfl)) (by simp[ρ0])
  exact zo7 (ρ0:=[some (.val (.lst (lp ps))),none,some (.val (tz p))]) (fi:=dIt (zab 2)) rfl rfl (ziO h7 (hp p hq)) (by have:=zep h7 (hp p hq);omega)
 have e2:ze7 (dC (.str (Str.ofString " "))) (zab 1) [some (.val (.lst (lp ps))),some (.val W)]=.ok (.str (sL (tps ps)),[some (.val (.lst (lp ps))),some (.val W)]):=znR h7 hp hl rfl
 refine zao (ρ':=[some (.val (.lst (lp ps))),some (.val W)]) rfl ?_ rfl
 show zbS ρ0=_
 unfold zbS
 rw[zak e1]
 refine zaW ?_
 unfold zuE
 rw[e2]
 simp only[R.bind_ok]
 have hlen:=znn hl fun p hq=>zep h7 (hp p hq)
 rw[if_pos (by rw[zcA];omega)]
 unfold ptx
 by_cases h0:ps=[]
 ·rw[if_pos h0,h0]
  rfl
 ·rw[if_neg h0]
  obtain ⟨x,r,_,_,e⟩:=zq7 hp h0
  rw[if_neg (by rw[zcA,e];simp)]
theorem fin7{P:Int->Prop}(h:∀ g:_root_.Fin 7,P ((g.val:Nat):Int)){x:Int}(h0:0<=x)(h7:x<7):P x:=by
 have:=h ⟨x.toNat,by omega⟩
 rwa [show (((⟨x.toNat,by omega⟩ : _root_.Fin 7).val:Nat):Int)=x by show ((x.toNat:Nat):Int)=x;omega] at this
theorem zmQ{x:Int}(h0:0<=x)(h7:x<7):zch [.val (.str (sL (dg x)))]=.ok (.int x,[.val .non]):=by
 refine fin7 (P:=fun x=>zch [.val (.str (sL (dg x)))]=.ok (.int x,[.val .non])) (fun g=>?_) h0 h7
 match g with
 |⟨0,_⟩=>kernel_rfl
 |⟨1,_⟩=>kernel_rfl
 |⟨2,_⟩=>kernel_rfl
 |⟨3,_⟩=>kernel_rfl
 |⟨4,_⟩=>kernel_rfl
 |⟨5,_⟩=>kernel_rfl
 |⟨6,_⟩=>kernel_rfl
theorem zo1{f:De}{ρ ρ1:Ev}{l:List Dt}(h:f ρ=.ok (.lst l,ρ1)):dIt f ρ=.ok (l,ρ1):=by
 unfold dIt;rw[h];rfl
theorem zj7{fa fb:De}{ρ ρ1 ρ2:Ev}{z y:Str}(h1:fa ρ=.ok (.str z,ρ1))(h2:fb ρ1=.ok (.str y,ρ2))(hy:(y.length == 0)=false)(hz:z.length+2<=16777216):zfg fa fb ρ=.ok ((Txt.split z y).map Dt.str,ρ2):=by
 unfold zfg
 rw[h1]
 simp only[R.bind_ok]
 rw[h2]
 simp only[R.bind_ok]
 rw[if_pos ⟨hy,hz⟩]
theorem znC:∀ l:List Int,inD .non (l.map .int)=false
 |[]=>rfl
 |a::r=>by
  have:=znC r
  unfold inD at this ⊢
  rw[List.map_cons,List.any_cons,this,Bool.or_false,eqD]
  all_goals simp
theorem zmF{c:Nat}(hc:c<48){p:List Int}:∀ l∈p.map dg,c∉l:=fun l hl hm=>by
 obtain ⟨x,_,rfl⟩:=List.mem_map.mp hl
 have:=List.mem_singleton.mp hm
 omega
theorem zjI{c y:Nat}:∀{ls:List (List Nat)},y∈jn c ls->y=c\/∃ l∈ls,y∈l
 |[],h=>by cases h
 |[x],h=>.inr ⟨x,by simp,h⟩
 |x::z::r,h=>by
  rw[jn] at h
  rcases List.mem_append.mp h with h|h
  ·exact .inr ⟨x,by simp,h⟩
  ·rcases List.mem_cons.mp h with h|h
   ·exact .inl h
   ·rcases zjI h with h|⟨l,hl,h⟩
    ·exact .inl h
    ·exact .inr ⟨l,List.mem_cons_of_mem _ hl,h⟩
theorem zrW{ps:List (List Int)}:∀ l∈ps.map tp,32∉l:=fun l hl hm=>by
 obtain ⟨p,_,rfl⟩:=List.mem_map.mp hl
 rcases zjI hm with h|⟨l,hl,h⟩
 ·omega
 ·exact zmF (by decide) l hl h
theorem zky{n:Nat}{p:List Int}(h7:n<=7)(hp:Pty n p):zdh [.val (.str (sL (tp p)))]=.ok (tz p,[.val .non]):=by
 let ρ0:Ev:=[some (.val (.str (sL (tp p)))),none]
 let ρ1:Ev:=[some (.val (.str (sL (tp p)))),some (.val (.lst (p.map .int)))]
 have hl:=zep h7 hp
 have es:dIt (dFz (zfg (zab 0) (dC (.str (Str.ofString ","))))) ρ0=.ok ((p.map dg).map fun l=>Dt.str (sL l),ρ0):=by
  have e:=zj7 (fa:=zab 0) (fb:=dC (.str (Str.ofString ","))) (ρ:=ρ0) (z:=sL (tp p)) rfl rfl (by decide +kernel) (by rw[zcA];have:=zmV hl;omega)
  rw[zo1 (zb0 e),znT]
  unfold tp
  rw[zl8 (by simpa using hp.1) (zmF (by decide)),List.map_map]
  rfl
 have e1:zb6 1 (dFz (zaH (dIt (dFz (zfg (zab 0) (dC (.str (Str.ofString ",")))))) (zbz 2) dTT (zae zch (dR (zab 2) dR0)) 1)) ρ0=.ok (.nx,ρ1):=by
  refine zbm (i:=1) (zb0 (zbl (u:=fun x=>Dt.str (sL (dg x))) (f:=Dt.int) (l:=p) (ρ0:=ρ0) es (by rw[List.map_map];rfl) (by omega) (fun x hx=>?_) rfl)) (by simp[ρ0])
  have:=ziO h7 hp x hx
  exact zcD (zfI (ρ0:=ρ0)) (zmQ this.1 this.2)
 have e2:dTB (dOp (gIn false) (dC .non) (zab 1)) ρ1=.ok (false,ρ1):=by
  refine zaA (zat rfl rfl ?_)
  show (if (okN 60 .non && (p.map Dt.int).all (okN 60))=true then R.ok (Dt.bl (if false=true then !inD .non (p.map .int) else inD .non (p.map .int))) else R.no)=_
  rw[zjZ,znC]
  rfl
 have e3:zaU (dTB (zae zfy (dR (zab 1) dR0))) ρ1=.ok (false,ρ1):=by
  have:=zdI (zaA (zcD (fa:=zab 1) (ρ:=ρ1) rfl (zkU p (by omega))))
  rw[decide_eq_true hp.2.1] at this
  exact this
 refine zao (ρ':=ρ1) rfl ?_ rfl
 show zeh ρ0=_
 unfold zeh
 rw[zak e1,zak (ρ1:=ρ1) (by rw[zbA (by rw[zgU e2];exact e3)];rfl)]
 exact zaW (zbK (d:=.lst (p.map .int)) rfl rfl)
theorem zlb{l:List Nat}(h:∀ x∈l,x<1114112):okN 60 (.str (sL l))=true:=by
 show PySem.PyData.strOk (sL l)=true
 unfold PySem.PyData.strOk sL
 rw[<- Array.all_toList,List.all_eq_true]
 intro x hx
 exact decide_eq_true (h x (by simpa using hx))
theorem znB{n:Nat}{ps:List (List Int)}(h7:n<=7)(hp:zki n ps):∀ x∈tps ps,x<1114112:=fun y hy=>by
 rcases zjI hy with h|⟨l,hl,h⟩
 ·omega
 ·obtain ⟨p,hp',rfl⟩:=List.mem_map.mp hl
  rcases zjI h with h|⟨l,hl,h⟩
  ·omega
  ·obtain ⟨x,hx,rfl⟩:=List.mem_map.mp hl
   have:=List.mem_singleton.mp h
   have:=ziO h7 (hp p hp') x hx
   omega
theorem zlk:okN 60 (.str (Str.ofString "none"))=true:=by decide +kernel
theorem zn7{n:Nat}{ps:List (List Int)}(h7:n<=7)(hp:zki n ps):okN 60 (.str (ptx ps))=true:=by
 unfold ptx
 split
 ·exact zlk
 ·exact zlb (znB h7 hp)
theorem zpu{n:Nat}{ps:List (List Int)}(h7:n<=7)(hp:zki n ps):(ptx ps == Str.ofString "none")=decide (ps=[]):=by
 unfold ptx
 by_cases h0:ps=[]
 ·simp[h0]
 ·rw[if_neg h0,decide_eq_false h0]
  obtain ⟨x,r,a1,a2,e⟩:=zq7 hp h0
  rw[beq_eq_false_iff_ne]
  intro z
  have:=congrArg (fun s:Str=>s.cps.toList) z
  rw[ziY,e,show (Str.ofString "none").cps.toList=[110,111,110,101] by decide +kernel] at this
  simp only[List.cons.injEq] at this
  omega
theorem zfp{n:Nat}{ps:List (List Int)}(h1:1<=n)(h7:n<=7)(hp:zki n ps)(hl:ps.length<=8):zaO [.val (.int n),.val (.str (ptx ps))]=.ok (.lst (lp ps),[.val .non,.val .non]):=by
 let ρ0:Ev:=[some (.val (.int n)),some (.val (.str (ptx ps))),none]
 let ρ1:Ev:=[some (.val (.int n)),some (.val (.str (ptx ps))),some (.val (.lst (lp ps)))]
 have e1:dEx (zae zan (dR (zab 0) dR0)) ρ0=.ok (.nx,ρ0):=zd8 (zcD rfl (zey (by omega) (by omega)))
 have e2:dTB (dOp (gEq false) (zab 1) (dC (.str (Str.ofString "none")))) ρ0=.ok (decide (ps=[]),ρ0):=by
  refine zaA (zat rfl rfl ?_)
  rw[zbx (zn7 h7 hp) zlk,eqS,zpu h7 hp]
  rfl
 by_cases h0:ps=[]
 ·rw[decide_eq_true h0] at e2
  refine zao (ρ':=ρ0) rfl ?_ rfl
  show zbM ρ0=_
  unfold zbM
  rw[zak e1,zcg (d:=.lst []) (ρ1:=ρ0) (by rw[zds e2];rfl),h0]
  rfl
 ·rw[decide_eq_false h0] at e2
  have ht:ptx ps=sL (tps ps):=if_neg h0
  have es:dIt (dFz (zfg (zab 1) (dC (.str (Str.ofString " "))))) ρ0=.ok ((ps.map tp).map fun l=>Dt.str (sL l),ρ0):=by
   have e:=zj7 (fa:=zab 1) (fb:=dC (.str (Str.ofString " "))) (ρ:=ρ0) (z:=ptx ps) rfl rfl (by decide +kernel) (by rw[ht,zcA];have:=znn hl fun p hq=>zep h7 (hp p hq);omega)
   rw[zo1 (zb0 e),zjs,ht]
   unfold tps
   rw[zl8 (by simpa using h0) zrW,List.map_map]
   rfl
  have e3:zb6 2 (zm5 (dTB (zcK "str" (zab 1))) (dFz (zaH (dIt (dFz (zfg (zab 1) (dC (.str (Str.ofString " ")))))) (zbz 3) dTT (zae zdh (dR (zab 3) dR0)) 1)) (dC .non)) ρ0=.ok (.nx,ρ1):=by
   refine zbm (i:=2) (ρ1:=ρ0) ?_ (by simp[ρ0])
   have et:dTB (zcK "str" (zab 1)) ρ0=.ok (true,ρ0):=rfl
   unfold zm5
   rw[et]
   simp only[R.bind_ok,if_true]
   exact zb0 (zbl (u:=fun p=>Dt.str (sL (tp p))) (f:=tz) (l:=ps) (ρ0:=ρ0) es (by rw[List.map_map];rfl) (by omega) (fun p hq=>zcD (zfI (ρ0:=ρ0)) (zky h7 (hp p hq))) rfl)
  have e4:zaU (dTB (zae zbo (dR (zab 0) (dR (zab 2) dR0)))) ρ1=.ok (false,ρ1):=zdI (zaA (zdz rfl rfl (zjR h1 h7 hp hl)))
  refine zao (ρ':=ρ1) rfl ?_ rfl
  show zbM ρ0=_
  unfold zbM
  rw[zak e1,zak (ρ1:=ρ0) (by rw[zbA e2];rfl),zak e3,zak (ρ1:=ρ1) (by rw[zbA e4];rfl)]
  rfl
def op(r:Bool):Nat:=if r then 91 else 40
def cl(r:Bool):Nat:=if r then 93 else 41
mutual
def tx:Tr->List Nat
 |.lf i=>dg i
 |.nd r l=>op r::(jn 32 (txs l)++[cl r])
def txs:List Tr->List (List Nat)
 |[]=>[]
 |t::r=>tx t::txs r
end
theorem zgA:∀ l:List Tr,txs l=l.map tx
 |[]=>by simp[txs]
 |t::r=>by simp[txs,zgA r]
theorem zoF{c:Nat}:∀{ls:List (List Nat)},ls≠[]->(jn c ls).length+1=(ls.map fun l=>l.length+1).sum
 |[],h=>absurd rfl h
 |[x],_=>by simp[jn]
 |x::y::r,_=>by
  have:=zoF (c:=c) (ls:=y::r) (by simp)
  rw[jn,List.length_append,List.length_cons,List.map_cons,List.sum_cons]
  omega
mutual
theorem zqw:∀ t:Tr,okT t=true->(tx t).length+3<=5 * (za5 t).length
 |.lf i,_=>by simp[tx,za5,dg]
 |.nd r l,h=>by
  simp only[okT,Bool.and_eq_true,decide_eq_true_eq] at h
  have h2:2<=l.length:=by have:=h.1;split at this <;> omega
  have hs:=zku l h.2
  have hj:=zoF (c:=32) (ls:=txs l) (by rw[zgA];intro z;rw[List.map_eq_nil_iff] at z;rw[z] at h2;simp at h2)
  simp only[tx,za5,List.length_cons,List.length_append,List.length_nil]
  omega
theorem zku:∀ l:List Tr,zgq l=true->((txs l).map fun x=>x.length+1).sum+2 * l.length<=5 * (zaz l).length
 |[],_=>by simp[txs]
 |t::r,h=>by
  simp only[zgq,Bool.and_eq_true] at h
  have h1:=zqw t h.1
  have h2:=zku r h.2
  simp only[txs,zaz,List.map_cons,List.sum_cons,List.length_cons,List.length_append]
  omega
end
def Lv(t:Tr):Prop:=∀ x∈za5 t,0<=x/\x<7
theorem zqs:∀{l:List Tr}{t:Tr},t∈l->∀ x∈za5 t,x∈zaz l:=fun {l t} ht x hx=>by
 rw[zhk]
 exact List.mem_flatMap.mpr ⟨t,ht,hx⟩
theorem ztF:Str.ofString "("=sL [40]:=by decide +kernel
theorem zrJ:Str.ofString ")"=sL [41]:=by decide +kernel
theorem zt8:Str.ofString "["=sL [91]:=by decide +kernel
theorem zrx:Str.ofString "]"=sL [93]:=by decide +kernel
theorem zmH{a z:Nat}{u v:Str}{fa:De}{ρ ρ1:Ev}{y:List Nat}(hu:u=sL [a])(hv:v=sL [z])(h:fa ρ=.ok (.str (sL y),ρ1))(hl:y.length<=1000):zs8 u v fa ρ=.ok (.str (sL (a::(y++[z]))),ρ1):=by
 subst hu hv
 unfold zs8
 rw[h]
 simp only[R.bind_ok]
 rw[if_pos (by rw[zcA,zcA,zcA];simp;omega)]
 rw[show Str.empty=sL [] from rfl,zih,zih,zih]
 simp
theorem zrc{r:Bool}{l:List Tr}(ho:okT (.nd r l)=true)(hl:(zaz l).length<=7):l.length<=7/\∀ t∈l,okT t=true:=by
 simp only[okT,Bool.and_eq_true] at ho
 exact ⟨Nat.le_trans (zkA (n:=zg3 l) l (Nat.le_refl _) ho.2) hl,fun t ht=>by
  have:=ho.2
  rw[zi7,List.all_eq_true] at this
  exact this t ht⟩
theorem zo8{ρ0:Ev}{fl:De}{l:List Tr}(hk:l.length<=7)(ho:∀ t∈l,okT t=true)(hl:(zaz l).length<=7)(h:fl ρ0=.ok (.lst (l.map fun t=>Dt.str (sL (tx t))),ρ0)):ze7 (dC (.str (Str.ofString " "))) fl ρ0=.ok (.str (sL (jn 32 (txs l))),ρ0):=by
 have h2:fl ρ0=.ok (.lst (((txs l).map sL).map Dt.str),ρ0):=by
  rw[h,zgA,List.map_map,List.map_map];rfl
 have h3:=ziD (fs:=dC (.str (Str.ofString " "))) (ρ:=ρ0) rfl h2 (zgQ (m:=35) (fun t ht=>by
  obtain ⟨x,hx,rfl⟩:=List.mem_map.mp ht
  rw[zgA] at hx
  obtain ⟨y,hy,rfl⟩:=List.mem_map.mp hx
  have a1:=zqw y (ho y hy)
  have a2:=zgE hy
  rw[zcA];omega) (by rw[zjs,zcA,List.length_map,zgA,List.length_map];simp;omega))
 rw[h3,zjs,zqL]
theorem jn7{l:List Tr}(ho:zgq l=true)(hl:(zaz l).length<=7):(jn 32 (txs l)).length<=35:=by
 have h:=zku l ho
 cases l with
 |nil=>simp[txs,jn]
 |cons t r =>
  have:=zoF (c:=32) (ls:=txs (t::r)) (by simp[txs])
  omega
theorem zfA:∀(n:Nat)(t:Tr),n<=8->dep t<=n->okT t=true->(za5 t).length<=7->Lv t->zaP n [.val (toD t)]=.ok (.str (sL (tx t)),[.val .non])
 |0,t,_,h,_,_,_=>by cases t <;> simp[dep] at h
 |n+1,.lf i,h8,h,_,_,hv=>by
  have hx:=hv i (by simp[za5])
  refine zao (ρ':=[some (.val (.int i)),none]) rfl ?_ rfl
  show zbX (zaP n) [some (.val (toD (.lf i))),none]=_
  unfold zbX
  rw[zcg (d:=.str (sL (tx (.lf i)))) (ρ1:=[some (.val (.int i)),none]) (by
   rw[zds (zaA (zcD (fa:=zab 0) (ρ:=[some (.val (toD (.lf i))),none]) rfl (ziX (.lf i))))]
   have:=zaW (zbK (g:=zdF) (f:=zab 0) (ρ:=[some (.val (.int i)),none]) (d:=.int i) rfl (znA hx.1 hx.2))
   simpa [tx,toD] using this)]
 |n+1,.nd r l,h8,h,ho,hl,hv=>by
  have hl':(zaz l).length<=7:=by simpa [za5] using hl
  have hd:zg3 l<=n:=by simp only[dep] at h;omega
  obtain ⟨k7,ok⟩:=zrc ho hl'
  let ρ0:Ev:=[some (.val (.tup [.str (wd r),.tup (zdS l)])),none]
  let ρ1:Ev:=[some (.val (.tup [.str (wd r),.tup (zdS l)])),some (.val (.str (sL (jn 32 (txs l)))))]
  have e1:dIf (dTB (zae zfm (dR (zab 0) dR0))) (zbi (dFn zdF (dA (zab 0) dA0))) dNx ρ0=.ok (.nx,ρ0):=by
   rw[zbA (zaA (zcD (fa:=zab 0) (ρ:=ρ0) (d:=toD (.nd r l)) (by simp[toD];rfl) (ziX (.nd r l))))]
   rfl
  have e2:zb6 1 (ze7 (dC (.str (Str.ofString " "))) (dFz (zaH (dIt (dOp gIx (zab 0) (dC (.int 1)))) (zbz 2) dTT (zae (zaP n) (dR (zab 2) dR0)) 1))) ρ0=.ok (.nx,ρ1):=by
   refine zbm (i:=1) (zo8 k7 ok hl' (zb0 ?_)) (by simp[ρ0])
   refine zbl (u:=toD) (f:=fun t=>Dt.str (sL (tx t))) (l:=l) (ρ0:=ρ0) rfl (zdH l) (by omega) (fun t ht=>?_) rfl
   exact zcD (zfI (ρ0:=ρ0)) (zfA n t (by omega) ((zgK.mp hd) t ht) (ok t ht) (Nat.le_trans (zgE ht) hl') fun x hx=>hv x (by simp only[za5];exact zqs ht x hx))
  have e3:dTB (dOp (gEq false) (dOp gIx (zab 0) (dC (.int 0))) (dC (.str (Str.ofString "any")))) ρ1=.ok (!r,ρ1):=by
   refine zaA (zat (d:=.str (wd r)) (ρ1:=ρ1) rfl rfl ?_)
   rw[zbx (zqA r) (by decide +kernel),eqS,ztI]
   rfl
  have hj:=jn7 (by simp only[okT,Bool.and_eq_true] at ho;exact ho.2) hl'
  refine zao (ρ':=ρ1) rfl ?_ rfl
  show zbX (zaP n) [some (.val (toD (.nd r l))),none]=_
  rw[show toD (.nd r l)=.tup [.str (wd r),.tup (zdS l)] by simp[toD]]
  show zbX (zaP n) ρ0=_
  unfold zbX
  rw[zak e1,zak e2]
  refine zaW ?_
  unfold zm5
  rw[e3]
  simp only[R.bind_ok]
  cases r with
  |false=>exact zmH (a:=40) (z:=41) ztF zrJ (fa:=zab 1) (y:=jn 32 (txs l)) rfl (by omega)
  |true=>exact zmH (a:=91) (z:=93) zt8 zrx (fa:=zab 1) (y:=jn 32 (txs l)) rfl (by omega)
def sg2(r:Bool):Str:=if r then Str.ofString "[]" else Str.ofString "()"
theorem sg0(r:Bool):zm0 (.str (sg2 r)) (.int 0)=.ok (.str (sL [op r])):=by cases r <;> kernel_rfl
theorem sg1(r:Bool):zm0 (.str (sg2 r)) (.int 1)=.ok (.str (sL [cl r])):=by cases r <;> kernel_rfl
theorem wdNe:¬ (wd true=Str.ofString "any"):=by decide +kernel
theorem zm9{a b:List Nat}(h:a.length+b.length<=1000):zjl (.str (sL a)) (.str (sL b))=.ok (.str (sL (a++b))):=by
 show (if (sL a).length+(sL b).length<=16777216 then R.ok (Dt.str (sL a++sL b)) else R.no)=_
 rw[if_pos (by rw[zcA,zcA];omega),zih]
theorem zhT:∀(n:Nat)(t:Tr),n<=8->dep t<=n->okT t=true->(za5 t).length<=7->Lv t->za4 n [.val (toD t)]=.ok (.str (sL (tx t)),[.val .non])
 |0,t,_,h,_,_,_=>by cases t <;> simp[dep] at h
 |n+1,.lf i,h8,h,_,_,hv=>by
  have hx:=hv i (by simp[za5])
  refine zao (ρ':=[some (.val (.int i)),none]) rfl ?_ rfl
  show zaY (za4 n) [some (.val (toD (.lf i))),none]=_
  rw[show toD (.lf i)=.int i by simp[toD]]
  unfold zaY
  rw[zcg (d:=.str (sL (tx (.lf i)))) (ρ1:=[some (.val (.int i)),none]) (by
   rw[zds (ρ1:=[some (.val (.int i)),none]) rfl]
   have:=zaW (zbK (g:=zdF) (f:=zab 0) (ρ:=[some (.val (.int i)),none]) (d:=.int i) rfl (znA hx.1 hx.2))
   simpa [tx] using this)]
 |n+1,.nd r l,h8,h,ho,hl,hv=>by
  have hl':(zaz l).length<=7:=by simpa [za5] using hl
  have hd:zg3 l<=n:=by simp only[dep] at h;omega
  obtain ⟨k7,ok⟩:=zrc ho hl'
  let ρ0:Ev:=[some (.val (.tup [.str (wd r),.tup (zdS l)])),none]
  let ρ1:Ev:=[some (.val (.tup [.str (wd r),.tup (zdS l)])),some (.val (.str (sg2 r)))]
  have e1:dIf (dTB (zcK "int" (zab 0))) (zbi (dFn zdF (dA (zab 0) dA0))) dNx ρ0=.ok (.nx,ρ0):=rfl
  have e2:zb6 1 (zua (Str.ofString "any") (Str.ofString "row") (Str.ofString "()") (Str.ofString "[]") (dOp gIx (zab 0) (dC (.int 0)))) ρ0=.ok (.nx,ρ1):=by
   refine zbm (i:=1) (ρ1:=ρ0) ?_ (by simp[ρ0])
   have eg:dOp gIx (zab 0) (dC (.int 0)) ρ0=.ok (.str (wd r),ρ0):=rfl
   unfold zua
   rw[eg]
   simp only[R.bind_ok]
   cases r with
   |false=>rw[if_pos (show wd false=Str.ofString "any" from rfl)];rfl
   |true=>rw[if_neg wdNe,if_pos (show wd true=Str.ofString "row" from rfl)];rfl
  have e3:ze7 (dC (.str (Str.ofString " "))) (dFz (zaH (dIt (dOp gIx (zab 0) (dC (.int 1)))) (zbz 2) dTT (zae (za4 n) (dR (zab 2) dR0)) 1)) ρ1=.ok (.str (sL (jn 32 (txs l))),ρ1):=by
   refine zo8 k7 ok hl' (zb0 ?_)
   refine zbl (u:=toD) (f:=fun t=>Dt.str (sL (tx t))) (l:=l) (ρ0:=ρ1) rfl (zdH l) (by omega) (fun t ht=>?_) rfl
   exact zcD (zfI (ρ0:=ρ1)) (zhT n t (by omega) ((zgK.mp hd) t ht) (ok t ht) (Nat.le_trans (zgE ht) hl') fun x hx=>hv x (by simp only[za5];exact zqs ht x hx))
  have hj:=jn7 (by simp only[okT,Bool.and_eq_true] at ho;exact ho.2) hl'
  refine zao (ρ':=ρ1) rfl ?_ rfl
  show zaY (za4 n) [some (.val (toD (.nd r l))),none]=_
  rw[show toD (.nd r l)=.tup [.str (wd r),.tup (zdS l)] by simp[toD]]
  show zaY (za4 n) ρ0=_
  unfold zaY
  rw[zak e1,zak e2]
  refine zaW ?_
  have a1:dOp zm0 (zab 1) (dC (.int 0)) ρ1=.ok (.str (sL [op r]),ρ1):=zat (d:=.str (sg2 r)) (ρ1:=ρ1) rfl rfl (sg0 r)
  have a2:dOp zm0 (zab 1) (dC (.int 1)) ρ1=.ok (.str (sL [cl r]),ρ1):=zat (d:=.str (sg2 r)) (ρ1:=ρ1) rfl rfl (sg1 r)
  have a3:=zat a1 e3 (zm9 (by simp;omega))
  have a4:=zat a3 a2 (zm9 (by simp;omega))
  rw[a4]
  simp[tx]
abbrev TB:List (Str×Str):=[((Str.ofString "("),(Str.ofString "any")),((Str.ofString "["),(Str.ofString "row"))]
abbrev zfu:DS:=(dIf (dTB (zjj TB (zab 3))) (za6 (dEx (zfO 1 (zph TB (zab 3)))) (dEx (zlz 2))) (dIf (dTB (dOp zkj (zab 3) (dC (.str (Str.ofString "0123456789"))))) (dEx (zjO 2 3 (zsa (dC (.int 1))))) (dIf (ze8 (dTB (dOp zkj (zab 3) (dC (.str (Str.ofString ")]"))))) (dTB (dOp gGt (zcy 1) (dC (.int 0))))) (za6 (zb6 4 (zlg (dA (zoI 1) (dA (zhU 2) dA0)))) (dEx (zg0 2 4 (zsa (dC (.int 1)))))) dNx)))
abbrev endR:DS:=(zbi (zm5 (ze8 (dTB (dOp (gEq false) (zcy 1) (dC (.int 0)))) (dTB (dOp (gEq false) (zpA 2 0) (dC (.int 1))))) (ztU 2 0 0) (dC .non)))
theorem zkS:zdp=za6 (zbO 1 (zc9 dA0)) (za6 (zoH 2) (za6 (zmx (zr7 (zab 0)) (zbz 3) zfu) endR)):=rfl
abbrev stR(T:Option B)(ws:List Dt)(bs:List (List Dt))(s f:Option B):Ev:=[T,some (.own ws),some (.own2 bs),s,f]
inductive Rn(g:DG)(b:DS):List Dt->Ev->Ev->Prop
 |nil {ρ:Ev}:Rn g b [] ρ ρ
 |cons {d:Dt} {r:List Dt} {ρ ρ1 ρ2 ρ3:Ev}:g d ρ=.ok ρ1->b ρ1=.ok (.nx,ρ2)->Rn g b r ρ2 ρ3->Rn g b (d::r) ρ ρ3
theorem Rn.app{g:DG}{b:DS}{ys:List Dt}{ρ'':Ev}:∀{xs:List Dt}{ρ ρ':Ev},Rn g b xs ρ ρ'->Rn g b ys ρ' ρ''->Rn g b (xs++ys) ρ ρ''
 |_,_,_,.nil,h=>h
 |_,_,_,.cons h1 h2 h3,h=>.cons h1 h2 (h3.app h)
theorem Rn.run{g:DG}{b:DS}:∀{xs:List Dt}{ρ ρ':Ev},Rn g b xs ρ ρ'->zmz g b xs ρ=.ok (.nx,ρ')
 |_,_,_,.nil=>rfl
 |_,_,_,.cons h1 h2 h3=>by
  unfold zmz
  rw[h1]
  simp only[R.bind_ok]
  rw[h2]
  simp only[R.bind_ok]
  exact h3.run
def sg(l:List Nat):List Dt:=l.map fun c=>Dt.str (sL [c])
theorem zpM(l:List Nat):zgR (sL l)=sg l:=by
 unfold zgR sg
 rw[ziY]
 rfl
abbrev sv(c:Nat):Option B:=some (.val (.str (sL [c])))
variable{T s f:Option B}{ws:List Dt}{bs:List (List Dt)}
theorem one{c:Nat}{ρ2:Ev}(h:zfu (stR T ws bs (sv c) f)=.ok (.nx,ρ2)):Rn (zbz 3) zfu (sg [c]) (stR T ws bs s f) ρ2:=.cons rfl h .nil
theorem zrN{i:Nat}{fa:De}{ρ ρ1:Ev}{l0 ds:List Dt}{v:Dt}(h0:ρ[i]? = some (some (.own l0)))(h1:fa ρ=.ok (v,ρ1))(h2:ρ1[i]? = some (some (.own ds)))(hl:ds.length<=1000):zfO i fa ρ=.ok (.non,ρ1.set i (some (.own (ds++[v])))):=by
 unfold zfO
 rw[h0]
 dsimp only
 rw[h1]
 simp only[R.bind_ok]
 rw[h2]
 dsimp only
 rw[if_pos (by omega)]
theorem ixL{α:Type}(l:List α)(b:α):ixN (l++[b]).length (-1)=some l.length:=by
 unfold ixN
 rw[if_neg (by omega),if_pos (by simp;omega)]
 simp
 omega
theorem setL{α:Type}(l:List α)(b c:α):(l++[b]).set l.length c=l++[c]:=by simp
theorem ztT{α:Type}(l:List α)(b:α):(l++[b])[l.length]? = some b:=by simp
theorem zov(r:Bool)(hw:ws.length<=1000)(hb:bs.length<=1000):zfu (stR T ws bs (sv (op r)) f)=.ok (.nx,stR T (ws++[.str (wd r)]) (bs++[[]]) (sv (op r)) f):=by
 have e1:dTB (zjj TB (zab 3)) (stR T ws bs (sv (op r)) f)=.ok (true,stR T ws bs (sv (op r)) f):=by cases r <;> kernel_rfl
 have e2:zph TB (zab 3) (stR T ws bs (sv (op r)) f)=.ok (.str (wd r),stR T ws bs (sv (op r)) f):=by cases r <;> kernel_rfl
 have e3:=zrN (i:=1) (ρ:=stR T ws bs (sv (op r)) f) rfl e2 rfl hw
 unfold zfu
 rw[zds e1,zak (zd8 e3)]
 refine zd8 (d:=.non) ?_
 show (if bs.length<16777216 then R.ok (Dt.non,stR T (ws++[.str (wd r)]) (bs++[[]]) (sv (op r)) f) else R.no)=_
 rw[if_pos (by omega)]
theorem zpL{bs0:List (List Dt)}{b:List Dt}{z:Str}{m:Int}(hz:PySem.intText? z=some m)(hl:z.length<=640)(hb:b.length<=1000) :
  zjO 2 3 (zsa (dC (.int 1))) (stR T ws (bs0++[b]) (some (.val (.str z))) f)=.ok (.non,stR T ws (bs0++[b++[.int m]]) (some (.val (.str z))) f):=by
 show (match ixN (bs0++[b]).length (-1),PySem.intText? z with
   |some j,some m=>match (bs0++[b])[j]? with
    |some ds=>if ds.length<16777216/\z.length<=640 then R.ok (Dt.non,(stR T ws (bs0++[b]) (some (.val (.str z))) f).set 2 (some (.own2 ((bs0++[b]).set j (ds++[Dt.int m]))))) else .no
    |none=>.no
   |_,_=>.no)=_
 rw[ixL,hz]
 dsimp only
 rw[ztT]
 dsimp only
 rw[if_pos ⟨by omega,hl⟩,setL]
 rfl
theorem zs6{x:Int}(h0:0<=x)(h7:x<7):PyProof.Rows.KTD.inKeys (sL (dg x)) (zm6 TB)=false/\(!(Builtin.Str.occurrences (Str.ofString "0123456789") (sL (dg x)) 0 (Str.ofString "0123456789").length 1).isEmpty)=true/\PySem.intText? (sL (dg x))=some x:=by
 refine fin7 (P:=fun x=>PyProof.Rows.KTD.inKeys (sL (dg x)) (zm6 TB)=false/\(!(Builtin.Str.occurrences (Str.ofString "0123456789") (sL (dg x)) 0 (Str.ofString "0123456789").length 1).isEmpty)=true/\PySem.intText? (sL (dg x))=some x) ?_ h0 h7
 decide +kernel
theorem zpn{bs0:List (List Dt)}{b:List Dt}{x:Int}(h0:0<=x)(h7:x<7)(hb:b.length<=1000):zfu (stR T ws (bs0++[b]) (sv (48+x.toNat)) f)=.ok (.nx,stR T ws (bs0++[b++[.int x]]) (sv (48+x.toNat)) f):=by
 obtain ⟨a1,a2,a3⟩:=zs6 h0 h7
 have e1:dTB (zjj TB (zab 3)) (stR T ws (bs0++[b]) (sv (48+x.toNat)) f)=.ok (false,stR T ws (bs0++[b]) (sv (48+x.toNat)) f):=by
  refine zaA ?_
  show R.ok (Dt.bl (PyProof.Rows.KTD.inKeys (sL (dg x)) (zm6 TB)),stR T ws (bs0++[b]) (sv (48+x.toNat)) f)=_
  rw[a1]
 have e2:dTB (dOp zkj (zab 3) (dC (.str (Str.ofString "0123456789")))) (stR T ws (bs0++[b]) (sv (48+x.toNat)) f)=.ok (true,stR T ws (bs0++[b]) (sv (48+x.toNat)) f):=by
  refine zaA (zat rfl rfl ?_)
  show R.ok (Dt.bl (!(Builtin.Str.occurrences (Str.ofString "0123456789") (sL (dg x)) 0 (Str.ofString "0123456789").length 1).isEmpty))=_
  rw[a2]
 unfold zfu
 rw[zbA e1,zds e2]
 exact zd8 (zpL (z:=sL (dg x)) a3 (by rw[zcA,zsu];omega) hb)
theorem zqN{bs0:List (List Dt)}{b:List Dt}{d:Dt}(hb:b.length<=1000):zg0 2 4 (zsa (dC (.int 1))) (stR T ws (bs0++[b]) s (some (.val d)))=.ok (.non,stR T ws (bs0++[b++[d]]) s (some (.val d))):=by
 show (match ixN (bs0++[b]).length (-1) with
   |some j=>match (bs0++[b])[j]? with
    |some ds=>if ds.length<16777216 then R.ok (Dt.non,(stR T ws (bs0++[b]) s (some (.val d))).set 2 (some (.own2 ((bs0++[b]).set j (ds++[d]))))) else .no
    |none=>.no
   |none=>.no)=_
 rw[ixL]
 dsimp only
 rw[ztT]
 dsimp only
 rw[if_pos (by omega),setL]
 rfl
theorem zqa{bs0:List (List Dt)}{b:List Dt}:zhU 2 (stR T ws (bs0++[b]) s f)=.ok (.tup b,stR T ws bs0 s f):=by
 show (match (bs0++[b])[(bs0++[b]).length-1]? with
  |some ds=>R.ok (Dt.tup ds,(stR T ws (bs0++[b]) s f).set 2 (some (.own2 (bs0++[b]).dropLast)))
  |none=>.no)=_
 rw[show (bs0++[b]).length-1=bs0.length by simp,ztT]
 simp
theorem zsK{w0:List Dt}{w:Dt}:zoI 1 (stR T (w0++[w]) bs s f)=.ok (w,stR T w0 bs s f):=by
 show (match (w0++[w])[(w0++[w]).length-1]? with
  |some d=>R.ok (d,(stR T (w0++[w]) bs s f).set 1 (some (.own (w0++[w]).dropLast)))
  |none=>.no)=_
 rw[show (w0++[w]).length-1=w0.length by simp,ztT]
 simp
theorem zlY(r:Bool){w0:List Dt}{w:Dt}{bs0:List (List Dt)}{b1 b2:List Dt}(hb:b1.length<=1000):zfu (stR T (w0++[w]) (bs0++[b1]++[b2]) (sv (cl r)) f)=.ok (.nx,stR T w0 (bs0++[b1++[.tup [w,.tup b2]]]) (sv (cl r)) (some (.val (.tup [w,.tup b2])))):=by
 let ρ:=stR T (w0++[w]) (bs0++[b1]++[b2]) (sv (cl r)) f
 have e1:dTB (zjj TB (zab 3)) ρ=.ok (false,ρ):=by cases r <;> kernel_rfl
 have e2:dTB (dOp zkj (zab 3) (dC (.str (Str.ofString "0123456789")))) ρ=.ok (false,ρ):=by cases r <;> kernel_rfl
 have e3:dTB (dOp zkj (zab 3) (dC (.str (Str.ofString ")]")))) ρ=.ok (true,ρ):=by cases r <;> kernel_rfl
 have e4:dTB (dOp gGt (zcy 1) (dC (.int 0))) ρ=.ok (true,ρ):=by
  refine zaA (zat (d:=.int (w0++[w]).length) rfl rfl ?_)
  show R.ok (Dt.bl (decide ((0:Int)<((w0++[w]).length:Nat))))=_
  rw[decide_eq_true (by simp)]
 have e5:zb6 4 (zlg (dA (zoI 1) (dA (zhU 2) dA0))) ρ=.ok (.nx,stR T w0 (bs0++[b1]) (sv (cl r)) (some (.val (.tup [w,.tup b2])))) :=
  zbm (i:=4) (zop (ds:=[w,.tup b2]) (ρ1:=stR T w0 (bs0++[b1]) (sv (cl r)) f) (zjB zsK (zjB zqa rfl)) (by simp)) (by simp)
 unfold zfu
 show dIf _ _ _ ρ=_
 rw[zbA e1,zbA e2,zds (by rw[zeG e3];exact e4),zak e5]
 exact zd8 (zqN hb)
theorem zmm:zfu (stR T ws bs (sv 32) f)=.ok (.nx,stR T ws bs (sv 32) f):=by
 have e1:dTB (zjj TB (zab 3)) (stR T ws bs (sv 32) f)=.ok (false,stR T ws bs (sv 32) f):=by kernel_rfl
 have e2:dTB (dOp zkj (zab 3) (dC (.str (Str.ofString "0123456789")))) (stR T ws bs (sv 32) f)=.ok (false,stR T ws bs (sv 32) f):=by kernel_rfl
 have e3:dTB (dOp zkj (zab 3) (dC (.str (Str.ofString ")]")))) (stR T ws bs (sv 32) f)=.ok (false,stR T ws bs (sv 32) f):=by kernel_rfl
 unfold zfu
 rw[zbA e1,zbA e2,zbA (ziA e3)]
 rfl
theorem zqx(a b:List Nat):sg (a++b)=sg a++sg b:=by simp[sg]
theorem zmY(c:Nat)(b:List Nat):sg (c::b)=sg [c]++sg b:=by simp[sg]
variable{T:Option B}
mutual
theorem zi3:∀(t:Tr)(ws:List Dt)(bs0:List (List Dt))(b:List Dt)(s f:Option B),okT t=true->Lv t->(za5 t).length<=7->ws.length+dep t<=100->bs0.length+dep t<=100->b.length<=100 ->
  ∃ s' f',Rn (zbz 3) zfu (sg (tx t)) (stR T ws (bs0++[b]) s f) (stR T ws (bs0++[b++[toD t]]) s' f')
 |.lf i,ws,bs0,b,s,f,_,hv,_,_,_,hb=>by
  have hx:=hv i (by simp[za5])
  exact ⟨_,_,by simpa [tx,toD,dg] using one (zpn (ws:=ws) (f:=f) hx.1 hx.2 (by omega))⟩
 |.nd r l,ws,bs0,b,s,f,ho,hv,hl,hw,hb0,hb=>by
  simp only[dep] at hw hb0
  have hl':(zaz l).length<=7:=by simpa [za5] using hl
  obtain ⟨k7,ok⟩:=zrc ho hl'
  have hos:zgq l=true:=by simp only[okT,Bool.and_eq_true] at ho;exact ho.2
  have h1:=one (s:=s) (zov (T:=T) (f:=f) r (ws:=ws) (bs:=bs0++[b]) (by omega) (by simp;omega))
  obtain ⟨s2,f2,h2⟩:=zjK l (ws++[.str (wd r)]) (bs0++[b]) [] (sv (op r)) f hos (by simpa [Lv,za5] using hv) hl' (by simp;omega) (by simp;omega) (by simp;omega)
  have h3:=one (s:=s2) (zlY (T:=T) (f:=f2) r (w0:=ws) (w:=.str (wd r)) (bs0:=bs0) (b1:=b) (b2:=zdS l) (by omega))
  rw[show ([]:List Dt)++zdS l=zdS l from rfl] at h2
  refine ⟨sv (cl r),some (.val (.tup [.str (wd r),.tup (zdS l)])),?_⟩
  rw[show tx (.nd r l)=op r::(jn 32 (txs l)++[cl r]) by simp[tx],zmY,zqx,show toD (.nd r l)=.tup [.str (wd r),.tup (zdS l)] by simp[toD]]
  exact h1.app (h2.app h3)
theorem zjK:∀(l:List Tr)(ws:List Dt)(bs0:List (List Dt))(b:List Dt)(s f:Option B),zgq l=true->(∀ x∈zaz l,0<=x/\x<7)->(zaz l).length<=7->ws.length+zg3 l<=100->bs0.length+zg3 l<=100->b.length+l.length<=100 ->
  ∃ s' f',Rn (zbz 3) zfu (sg (jn 32 (txs l))) (stR T ws (bs0++[b]) s f) (stR T ws (bs0++[b++zdS l]) s' f')
 |[],ws,bs0,b,s,f,_,_,_,_,_,_=>⟨s,f,by simpa [txs,jn,sg,zdS] using Rn.nil⟩
 |[t],ws,bs0,b,s,f,ho,hv,hl,hw,hb0,hb=>by
  simp only[zgq,Bool.and_eq_true] at ho
  simp only[zg3] at hw hb0
  simp only[List.length_cons,List.length_nil] at hb
  obtain ⟨s',f',h⟩:=zi3 t ws bs0 b s f ho.1 (fun x hx=>hv x (by simp[zaz,hx])) (by simpa [zaz] using hl) (by omega) (by omega) (by omega)
  exact ⟨s',f',by simpa [txs,jn,zdS] using h⟩
 |t::u::r,ws,bs0,b,s,f,ho,hv,hl,hw,hb0,hb=>by
  simp only[zgq,Bool.and_eq_true] at ho
  have hd:dep t<=zg3 (t::u::r)/\zg3 (u::r)<=zg3 (t::u::r):=by simp only[zg3];omega
  simp only[List.length_cons] at hb
  have hlen:(za5 t).length<=7/\(zaz (u::r)).length<=7:=by
   simp only[zaz,List.length_append] at hl ⊢
   omega
  obtain ⟨s1,f1,h1⟩:=zi3 t ws bs0 b s f ho.1 (fun x hx=>hv x (by simp[zaz,hx])) hlen.1 (by omega) (by omega) (by omega)
  have h2:=one (s:=s1) (zmm (T:=T) (ws:=ws) (bs:=bs0++[b++[toD t]]) (f:=f1))
  obtain ⟨s3,f3,h3⟩:=zjK (u::r) ws bs0 (b++[toD t]) (sv 32) f1 (by simp only[zgq,Bool.and_eq_true];exact ho.2) (fun x hx=>hv x (by simp only[zaz,List.mem_append] at hx ⊢;exact .inr hx)) hlen.2 (by omega) (by omega) (by simp only[List.length_append,List.length_cons,List.length_nil];omega)
  refine ⟨s3,f3,?_⟩
  rw[show jn 32 (txs (t::u::r))=tx t++32::jn 32 (txs (u::r)) by simp[txs,jn],zqx,zmY,show b++zdS (t::u::r)=b++[toD t]++zdS (u::r) by simp[zdS]]
  exact h1.app (h2.app h3)
end
mutual
theorem ziH:∀ t:Tr,Lv t->∀ c∈tx t,c<128
 |.lf i,hv,c,hc=>by
  have:=hv i (by simp[za5])
  simp only[tx,dg,List.mem_singleton] at hc
  omega
 |.nd r l,hv,c,hc=>by
  simp only[tx,List.mem_cons,List.mem_append,List.mem_singleton,List.not_mem_nil,or_false] at hc
  rcases hc with h|h|h
  ·subst h;cases r <;> decide
  ·rcases zjI h with h|⟨x,hx,h⟩
   ·omega
   ·exact zju l (by simpa [Lv,za5] using hv) x hx c h
  ·subst h;cases r <;> decide
theorem zju:∀ l:List Tr,(∀ x∈zaz l,0<=x/\x<7)->∀ y∈txs l,∀ c∈y,c<128
 |[],_,y,hy,c,hc=>by simp[txs] at hy
 |t::r,hv,y,hy,c,hc=>by
  simp only[txs,List.mem_cons] at hy
  rcases hy with h|h
  ·subst h;exact ziH t (fun x hx=>hv x (by simp[zaz,hx])) c hc
  ·exact zju r (fun x hx=>hv x (by simp[zaz,hx])) y h c hc
end
theorem zka{t:Tr}(hd:dep t<=8)(ho:okT t=true)(hl:(za5 t).length<=7)(hv:Lv t):zcp [.val (.str (sL (tx t)))]=.ok (toD t,[.val .non]):=by
 let TX:Option B:=some (.val (.str (sL (tx t))))
 obtain ⟨s',f',h⟩:=zi3 (T:=TX) t [] [] [] none none ho hv hl (by simp;omega) (by simp;omega) (by simp)
 have e1:zbO 1 (zc9 dA0) [TX,none,none,none,none]=.ok (.nx,[TX,some (.own []),none,none,none]):=rfl
 have e2:zoH 2 [TX,some (.own []),none,none,none]=.ok (.nx,stR TX [] [[]] none none):=rfl
 have e3:zmx (zr7 (zab 0)) (zbz 3) zfu (stR TX [] [[]] none none)=.ok (.nx,stR TX [] [[toD t]] s' f'):=by
  have ei:zr7 (zab 0) (stR TX [] [[]] none none)=.ok (sg (tx t),stR TX [] [[]] none none):=by
   show (if (sL (tx t)).cps.all (·<128)=true then R.ok (zgR (sL (tx t)),stR TX [] [[]] none none) else R.no)=_
   rw[if_pos,zpM]
   rw[<- Array.all_toList,List.all_eq_true,ziY]
   exact fun c hc=>decide_eq_true (ziH t hv c hc)
  unfold zmx
  rw[ei]
  simp only[R.bind_ok]
  exact h.run
 have e4:endR (stR TX [] [[toD t]] s' f')=.ok (.rt (toD t),stR TX [] [[toD t]] s' f'):=rfl
 refine zao (ρ':=stR TX [] [[toD t]] s' f') rfl ?_ rfl
 show zdp [TX,none,none,none,none]=_
 rw[zkS,zak e1,zak e2,zak e3]
 exact e4
theorem zoN{t:Tr}(hv:Lv t):okN 60 (.str (sL (tx t)))=true:=zlb fun c hc=>by have:=ziH t hv c hc;omega
theorem zoi{n:Nat}{t:Tr}(h1:1<=n)(h7:n<=7)(ho:okT t=true)(hp:(za5 t).Perm (zbj n)):zei [.val (.int n),.val (toD t)]=.ok (.bl true,[.val .non,.val .non]):=by
 have hl:(za5 t).length=n:=by rw[hp.length_eq,zbU]
 have hs:=zqe t ho
 rw[zk9 h1 h7 (by omega) (zqn t)]
 have:zsl n (toD t)=true:=by
  unfold zsl
  rw[zlG,ho,zqr,Bool.true_and,beq_iff_eq]
  exact W.lks_uniq ((zcl _).trans hp) (zem _) (zic n)
 rw[this]
theorem zmP{n:Nat}{t:Tr}(h7:n<=7)(hp:(za5 t).Perm (zbj n)):Lv t:=fun x hx=>by
 have:=zdw.mp (hp.mem_iff.mp hx)
 omega
theorem zms{n:Nat}{t:Tr}(h1:1<=n)(h7:n<=7)(hd:dep t<=8)(ho:okT t=true)(hp:(za5 t).Perm (zbj n)):zbb [.val (.int n),.val (.str (sL (tx t)))]=.ok (toD t,[.val .non,.val .non]):=by
 have hv:=zmP h7 hp
 have hl:(za5 t).length<=7:=by rw[hp.length_eq,zbU];exact h7
 let ρ0:Ev:=[some (.val (.int n)),some (.val (.str (sL (tx t)))),none]
 let ρ1:Ev:=[some (.val (.int n)),some (.val (.str (sL (tx t)))),some (.val (toD t))]
 have e1:dEx (zae zan (dR (zab 0) dR0)) ρ0=.ok (.nx,ρ0):=zd8 (zcD rfl (zey (by omega) (by omega)))
 have e2:zb6 2 (zm5 (dTB (zcK "str" (zab 1))) (zae zcp (dR (zab 1) dR0)) (dC .non)) ρ0=.ok (.nx,ρ1):=by
  refine zbm (i:=2) (ρ1:=ρ0) ?_ (by simp[ρ0])
  have et:dTB (zcK "str" (zab 1)) ρ0=.ok (true,ρ0):=rfl
  unfold zm5
  rw[et]
  simp only[R.bind_ok,if_true]
  exact zcD rfl (zka hd ho hl hv)
 have e3:zaU (dTB (zae zei (dR (zab 0) (dR (zab 2) dR0)))) ρ1=.ok (false,ρ1):=zdI (zaA (zdz rfl rfl (zoi h1 h7 ho hp)))
 have e4:dTB (dOp (gEq true) (zae (zaP 8) (dR (zab 2) dR0)) (zab 1)) ρ1=.ok (false,ρ1):=by
  refine zaA (zat (zcD rfl (zfA 8 t (by decide) hd ho hl hv)) rfl ?_)
  rw[zbx (zoN hv) (zoN hv),eqS]
  simp
 refine zao (ρ':=ρ1) rfl ?_ rfl
 show zcQ ρ0=_
 unfold zcQ
 rw[zak e1,zak e2,zak (ρ1:=ρ1) (by rw[zbA (by rw[zgU e3];exact e4)];rfl)]
 rfl
theorem zmb{n:Nat}{t:Tr}(h1:1<=n)(h7:n<=7)(hd:dep t<=8)(ho:okT t=true)(hp:(za5 t).Perm (zbj n)):zcJ [.val (.int n),.val (toD t)]=.ok (.str (sL (tx t)),[.val .non,.val .non]):=by
 have hl:(za5 t).length<=7:=by rw[hp.length_eq,zbU];exact h7
 let ρ0:Ev:=[some (.val (.int n)),some (.val (toD t))]
 have e1:dEx (zae zan (dR (zab 0) dR0)) ρ0=.ok (.nx,ρ0):=zd8 (zcD rfl (zey (by omega) (by omega)))
 refine zao (ρ':=ρ0) rfl ?_ rfl
 show zeW ρ0=_
 unfold zeW
 rw[zak e1]
 exact zaW (zcD rfl (zfA 8 t (by decide) hd ho hl (zmP h7 hp)))
def zmB:List Dt:=[(.int 0),(.int 8),(.bl true),.non,(.str (Str.ofString "1"))]
def outer:DS:=(za6 (zbO 2 (zgc zc3 (dR (zab 0) (dR (zab 1) dR0)))) (za6 (zb6 3 (dOp zb4 (dC (.int 1)) (zae zac (dRO 2 (dR (dC (.int 7)) dR0))))) (za6 (zb6 4 (zae zbL (dRO 2 (dR (zab 3) (dR (dC (.int 8)) dR0))))) (za6 (zb6 5 (zae (zaM 8) (dRO 2 (dR (dFz (zi0 (zab 3))) dR0)))) (za6 (zb6 6 (dFz (zc9 (dA (zae zaQ (dR (zab 4) dR0)) (dA (zae (za4 8) (dR (zab 5) dR0)) dA0))))) (za6 (dIf (zfr (dTB (dOp (gEq true) (zae zaq (dR (zab 3) (dR (zab 4) dR0))) (dOp gIx (zab 6) (dC (.int 0))))) (dTB (dOp (gEq true) (zae zcJ (dR (zab 3) (dR (zab 5) dR0))) (dOp gIx (zab 6) (dC (.int 1)))))) (zbi (dC (.bl false))) dNx) (za6 (dIf (zaU (dTB (zae (zas 16) (dR (zae zaO (dR (zab 3) (dR (dOp gIx (zab 6) (dC (.int 0))) dR0))) (dR (zab 4) dR0))))) (zbi (dC (.bl false))) dNx) (za6 (dIf (zaU (dTB (zae (zas 16) (dR (zae zbb (dR (zab 3) (dR (dOp gIx (zab 6) (dC (.int 1))) dR0))) (dR (zab 5) dR0))))) (zbi (dC (.bl false))) dNx) (za6 (zb6 7 (dOp gIx (dC (.lst zmB)) (zae zac (dRO 2 (dR (dC (.int 5)) dR0))))) (za6 (dIf (dTB (dOp (gEq true) (dFz (zm3 8 zgZ (zae zaq (dR (zab 7) (dR (zab 4) dR0))))) (dC (.lst [(.int 0)])))) (zbi (dC (.bl false))) dNx) (za6 (dIf (dTB (dOp (gEq true) (dFz (zm3 8 zgZ (zae zbb (dR (zab 7) (dR (dOp gIx (zab 6) (dC (.int 1))) dR0))))) (dC (.lst [(.int 0)])))) (zbi (dC (.bl false))) dNx) (dIf (dTB (dOp (gEq true) (dFz (zm3 8 zgZ (zae zaq (dR (zab 3) (dR (dFn zda (dA (zab 4) dA0)) dR0))))) (dC (.lst [(.int 1)])))) (zbi (dC (.bl false))) dNx))))))))))))
def zu5:De:=(zh3 (dOp (gEq false) (zae zaq (dR (dC (.int 3)) (dR (dFz (zc9 dA0)) dR0))) (dC (.str (Str.ofString "none")))) (dOp (gEq false) (zae zaO (dR (dC (.int 1)) (dR (dC (.str (Str.ofString "none"))) dR0))) (dFz (zc9 dA0))))
theorem zrz:zkP=za6 (zmx (zcb (dFn ziL (dA (dC (.int 1)) (dA (dFn zi6 (dA (dFn zca (dA (zab 0) dA0)) (dA (dC (.int 8)) dA0))) dA0)))) (zbz 1) outer) (zbi zu5):=rfl
def Bad(d:Dt):Prop:=isW d=false\/∃ n,d=.int n/\(n<1\/7<n)
theorem zpK:∀ d∈zmB,Bad d:=by
 intro d hd
 simp only[zmB,List.mem_cons,List.not_mem_nil,or_false] at hd
 rcases hd with rfl|rfl|rfl|rfl|rfl
 ·exact .inr ⟨0,rfl,by omega⟩
 ·exact .inr ⟨8,rfl,by omega⟩
 ·exact .inl rfl
 ·exact .inl rfl
 ·exact .inl rfl
theorem zsx{F:FD}{fa fb:De}{g:DS}{ρ ρ' ρ'':Ev}{d e:Dt}{n:Nat}(h:fa ρ=.ok (d,ρ'))(h2:fb ρ'=.ok (e,ρ''))(hF:F [.val d,.val e]=.er n):za6 (dEx (zae F (dR fa (dR fb dR0)))) g ρ=.er n:=by
 unfold za6 dEx
 rw[zfo h h2 hF]
 rfl
theorem zoS{d t:Dt}(h:Bad d):zaK [.val d,.val t]=.er 0:=by
 unfold zaK zap
 rw[if_pos (show zaV [.val d,.val t]=[false,false] from rfl)]
 show (zaS [some (.val d),some (.val t)]).bind _=_
 unfold zaS dIf zaU dTB
 rw[zfo (ρ':=[some (.val d),some (.val t)]) (ρ'':=[some (.val d),some (.val t)]) rfl rfl (ziM h)]
 rfl
theorem znZ{d t:Dt}(h:Bad d):zaq [.val d,.val t]=.er 0:=by
 unfold zaq zap
 rw[if_pos (show zaV [.val d,.val t]=[false,false] from rfl)]
 show (zbf [some (.val d),some (.val t)]).bind _=_
 unfold zbf
 rw[zsx (ρ':=[some (.val d),some (.val t)]) (ρ'':=[some (.val d),some (.val t)]) rfl rfl (zoS h)]
 rfl
theorem zpP{n:Nat}{l:List Dt}(h1:1<=n)(h7:n<=7):zaK [.val (.int n),.val (.tup l)]=.er 1:=by
 unfold zaK zap
 rw[if_pos (show zaV [.val (.int n),.val (.tup l)]=[false,false] from rfl)]
 show (zaS [some (.val (.int n)),some (.val (.tup l))]).bind _=_
 unfold zaS
 rw[zds (zdI (zaA (zdz (ρ':=[some (.val (.int n)),some (.val (.tup l))]) (ρ'':=[some (.val (.int n)),some (.val (.tup l))]) rfl rfl (ze9 h1 h7 (.tup l) trivial))))]
 rfl
theorem zmZ{n:Nat}{l:List Dt}(h1:1<=n)(h7:n<=7):zaq [.val (.int n),.val (.tup l)]=.er 1:=by
 unfold zaq zap
 rw[if_pos (show zaV [.val (.int n),.val (.tup l)]=[false,false] from rfl)]
 show (zbf [some (.val (.int n)),some (.val (.tup l))]).bind _=_
 unfold zbf
 rw[zsx (ρ':=[some (.val (.int n)),some (.val (.tup l))]) (ρ'':=[some (.val (.int n)),some (.val (.tup l))]) rfl rfl (zpP h1 h7)]
 rfl
theorem zns{d t:Dt}(h:Bad d):zbb [.val d,.val t]=.er 0:=by
 have ec:dEx (zae zan (dR (zab 0) dR0)) [some (.val d),some (.val t),none]=.er 0:=by
  unfold dEx zae dR dR0
  simp only[zab,List.getElem?_cons_zero,R.bind_ok,zkm,zaZ,if_true,za1,zjx h,R.bind_er]
 unfold zbb zap
 rw[if_pos (show zaV [.val d,.val t]=[false,false] from rfl)]
 show (zcQ [some (.val d),some (.val t),none]).bind _=_
 unfold zcQ za6
 rw[ec]
 rfl
theorem zn9{fE:De}{ρ:Ev}{n:Nat}{z:Int}(hz:z=n)(h8:ρ[8]? = some (some (.tab zgZ)))(h:fE (zeF ρ)=.er n)(hn:n<8):dIf (dTB (dOp (gEq true) (dFz (zm3 8 zgZ fE)) (dC (.lst [(.int z)])))) (zbi (dC (.bl false))) dNx ρ=.ok (.nx,ρ):=by
 subst hz
 have hr:zm3 8 zgZ fE ρ=.ok ([.int n],ρ):=by
  unfold zm3
  rw[h8]
  simp only[if_true]
  rw[h]
  simp only[hn,if_true]
 have:dTB (dOp (gEq true) (dFz (zm3 8 zgZ fE)) (dC (.lst [(.int n)]))) ρ=.ok (false,ρ):=by
  refine zaA (zat (zb0 hr) (e:=.lst [.int n]) rfl ?_)
  rw[zbx rfl rfl]
  rw[show eqD (.lst [.int n]) (.lst [.int n])=true by rw[eqD,zl3,zl3,eqD];simp]
  rfl
 rw[zbA this]
 rfl
theorem zmf{ns:List Int}{k:Nat}{o2 o3 o4 o5 o6 o7:Option B}:∃ b2 b3 b4 b5 b6 b7,outer [some (.val (.scr ns)),some (.val (.int k)),o2,o3,o4,o5,o6,o7,some (.tab zgZ)]=.ok (.nx,[some (.val (.scr ns)),some (.val (.int k)),b2,b3,b4,b5,b6,b7,some (.tab zgZ)]):=by
 let S:Option B:=some (.val (.scr ns))
 let K:Option B:=some (.val (.int k))
 let Q:Option B:=some (.tab zgZ)
 obtain ⟨st,hs,e1⟩:=zlU (ns:=ns) (k:=k)
 have x1:zbO 2 (zgc zc3 (dR (zab 0) (dR (zab 1) dR0))) [S,K,o2,o3,o4,o5,o6,o7,Q]=.ok (.nx,[S,K,some (.own st),o3,o4,o5,o6,o7,Q]) :=
  zir (zt6 (ρ':=[S,K,o2,o3,o4,o5,o6,o7,Q]) (ρ'':=[S,K,o2,o3,o4,o5,o6,o7,Q]) rfl rfl e1) (by simp)
 obtain ⟨v,st1,e2,hs1,v0,v1⟩:=zba (m:=7) hs (by decide) (by decide)
 obtain ⟨N,hN⟩ : ∃ N:Nat,(N:Int)=1+v:=⟨(1+v).toNat,by omega⟩
 have n1:1<=N:=by omega
 have n7:N<=7:=by omega
 let NV:Option B:=some (.val (.int N))
 have x2:zb6 3 (dOp zb4 (dC (.int 1)) (zae zac (dRO 2 (dR (dC (.int 7)) dR0)))) [S,K,some (.own st),o3,o4,o5,o6,o7,Q]=.ok (.nx,[S,K,some (.own st1),NV,o4,o5,o6,o7,Q]):=by
  refine zbm (zat rfl (zf8 (ρ:=[S,K,some (.own st),o3,o4,o5,o6,o7,Q]) rfl rfl e2) (z:=.int N) ?_) (by simp)
  rw[hN];rfl
 obtain ⟨ps,st2,hs2,hp,hl,e3⟩:=zjz (n:=N) n1 n7 hs1
 let PV':Option B:=some (.val (.lst (lp ps)))
 have x3:zb6 4 (zae zbL (dRO 2 (dR (zab 3) (dR (dC (.int 8)) dR0)))) [S,K,some (.own st1),NV,o4,o5,o6,o7,Q]=.ok (.nx,[S,K,some (.own st2),NV,PV',o5,o6,o7,Q]) :=
  zbm (zsD (ρ:=[S,K,some (.own st1),NV,o4,o5,o6,o7,Q]) rfl rfl rfl e3) (by simp)
 have hgl:(zbj N).length=N:=zbU N
 obtain ⟨t,st3,hs3,⟨ho,hpm,hd⟩,e4⟩:=ziW 8 (zbj N) st2 (by omega) (by decide) (by omega) (by omega) hs2
 have hd8:dep t<=8:=by omega
 have hlv:(za5 t).length<=7:=by rw[hpm.length_eq];omega
 let TV:Option B:=some (.val (toD t))
 have x4:zb6 5 (zae (zaM 8) (dRO 2 (dR (dFz (zi0 (zab 3))) dR0))) [S,K,some (.own st2),NV,PV',o5,o6,o7,Q]=.ok (.nx,[S,K,some (.own st3),NV,PV',TV,o6,o7,Q]) :=
  zbm (zf8 (ρ:=[S,K,some (.own st2),NV,PV',o5,o6,o7,Q]) rfl (zb0 (zoa rfl (by omega))) e4) (by simp)
 let XV:Option B:=some (.val (.lst [.str (ptx ps),.str (sL (tx t))]))
 let ρ5:Ev:=[S,K,some (.own st3),NV,PV',TV,o6,o7,Q]
 let ρ6:Ev:=[S,K,some (.own st3),NV,PV',TV,XV,o7,Q]
 have x5:zb6 6 (dFz (zc9 (dA (zae zaQ (dR (zab 4) dR0)) (dA (zae (za4 8) (dR (zab 5) dR0)) dA0)))) ρ5=.ok (.nx,ρ6):=by
  refine zbm (i:=6) (ρ1:=ρ5) (zb0 (zod (zjB (ρ1:=ρ5) (zcD rfl (zkO n7 hp hl)) (zjB (ρ1:=ρ5) (zcD rfl (zhT 8 t (by decide) hd8 ho hlv (zmP n7 hpm))) rfl)) (by simp))) (by simp[ρ5])
 have i0:dOp gIx (zab 6) (dC (.int 0)) ρ6=.ok (.str (ptx ps),ρ6):=rfl
 have i1:dOp gIx (zab 6) (dC (.int 1)) ρ6=.ok (.str (sL (tx t)),ρ6):=rfl
 have c1:dTB (dOp (gEq true) (zae zaq (dR (zab 3) (dR (zab 4) dR0))) (dOp gIx (zab 6) (dC (.int 0)))) ρ6=.ok (false,ρ6):=by
  refine zaA (zat (zdz (ρ':=ρ6) (ρ'':=ρ6) rfl rfl (zhH n1 n7 hp hl)) i0 ?_)
  rw[zbx (zn7 n7 hp) (zn7 n7 hp),eqS];simp
 have c2:dTB (dOp (gEq true) (zae zcJ (dR (zab 3) (dR (zab 5) dR0))) (dOp gIx (zab 6) (dC (.int 1)))) ρ6=.ok (false,ρ6):=by
  refine zaA (zat (zdz (ρ':=ρ6) (ρ'':=ρ6) rfl rfl (zmb n1 n7 hd8 ho hpm)) i1 ?_)
  rw[zbx (zoN (zmP n7 hpm)) (zoN (zmP n7 hpm)),eqS];simp
 have c3:zaU (dTB (zae (zas 16) (dR (zae zaO (dR (zab 3) (dR (dOp gIx (zab 6) (dC (.int 0))) dR0))) (dR (zab 4) dR0)))) ρ6=.ok (false,ρ6) :=
  zdI (zaA (zdz (ρ':=ρ6) (ρ'':=ρ6) (zdz (ρ':=ρ6) (ρ'':=ρ6) rfl i0 (zfp n1 n7 hp hl)) rfl (zrV (k:=13) ps (by omega) fun p hq=>by have:=zep n7 (hp p hq);omega)))
 have c4:zaU (dTB (zae (zas 16) (dR (zae zbb (dR (zab 3) (dR (dOp gIx (zab 6) (dC (.int 1))) dR0))) (dR (zab 5) dR0)))) ρ6=.ok (false,ρ6) :=
  zdI (zaA (zdz (ρ':=ρ6) (ρ'':=ρ6) (zdz (ρ':=ρ6) (ρ'':=ρ6) rfl i1 (zms n1 n7 hd8 ho hpm)) rfl (zo2 (by omega) ho (by omega))))
 obtain ⟨u,st4,eu,hs4,u0,u1⟩:=zba (m:=5) hs3 (by decide) (by decide)
 have hul:u.toNat<zmB.length:=by show u.toNat<5;omega
 let ρ7:Ev:=[S,K,some (.own st4),NV,PV',TV,XV,some (.val zmB[u.toNat]),Q]
 have x7:zb6 7 (dOp gIx (dC (.lst zmB)) (zae zac (dRO 2 (dR (dC (.int 5)) dR0)))) ρ6=.ok (.nx,ρ7) :=
  zbm (zat (ρ1:=ρ6) rfl (zf8 (ρ:=ρ6) rfl rfl eu) (zkF u0 (by show u<5;omega) (List.getElem?_eq_getElem hul))) (by simp[ρ6])
 have hb:=zpK zmB[u.toNat] (List.getElem_mem hul)
 let ρv:Ev:=[S,K,none,NV,PV',TV,XV,some (.val zmB[u.toNat]),none]
 have hv:zeF ρ7 = ρv:=rfl
 have r1:=zn9 (z:=0) (n:=0) (ρ:=ρ7) (fE:=zae zaq (dR (zab 7) (dR (zab 4) dR0))) rfl rfl (by rw[hv];exact zfo (ρ':=ρv) (ρ'':=ρv) (d:=zmB[u.toNat]) (e:=.lst (lp ps)) rfl rfl (znZ hb)) (by decide)
 have r2:=zn9 (z:=0) (n:=0) (ρ:=ρ7) (fE:=zae zbb (dR (zab 7) (dR (dOp gIx (zab 6) (dC (.int 1))) dR0))) rfl rfl (by rw[hv];exact zfo (ρ':=ρv) (ρ'':=ρv) (d:=zmB[u.toNat]) (e:=.str (sL (tx t))) rfl rfl (zns hb)) (by decide)
 have r3:=zn9 (z:=1) (n:=1) (ρ:=ρ7) (fE:=zae zaq (dR (zab 3) (dR (dFn zda (dA (zab 4) dA0)) dR0))) rfl rfl (by rw[hv];exact zfo (ρ':=ρv) (ρ'':=ρv) (d:=.int N) (e:=.tup (lp ps)) rfl (zbK (d:=.lst (lp ps)) (ρ1:=ρv) rfl rfl) (zmZ n1 n7)) (by decide)
 refine ⟨some (.own st4),NV,PV',TV,XV,some (.val zmB[u.toNat]),?_⟩
 unfold outer
 rw[zak x1,zak x2,zak x3,zak x4,zak x5,zak (ρ1:=ρ6) (by rw[zbA (by rw[zgU c1];exact c2)];rfl),zak (ρ1:=ρ6) (by rw[zbA c3];rfl),zak (ρ1:=ρ6) (by rw[zbA c4];rfl),zak x7,zak r1,zak r2]
 exact r3
theorem zoO(ρ:Ev):zu5 ρ=.ok (.bl true,ρ):=by
 have b1:=zhH (n:=3) (ps:=[]) (by decide) (by decide) (fun p hp=>by cases hp) (by decide)
 have b2:=zfp (n:=1) (ps:=[]) (by decide) (by decide) (fun p hp=>by cases hp) (by decide)
 have c1:dOp (gEq false) (zae zaq (dR (dC (.int 3)) (dR (dFz (zc9 dA0)) dR0))) (dC (.str (Str.ofString "none"))) ρ=.ok (.bl true,ρ):=by
  refine zat (zdz (ρ':=ρ) (ρ'':=ρ) rfl rfl b1) rfl ?_
  rw[show ptx []=Str.ofString "none" from rfl,zbx zlk zlk,eqS];simp
 have c2:dOp (gEq false) (zae zaO (dR (dC (.int 1)) (dR (dC (.str (Str.ofString "none"))) dR0))) (dFz (zc9 dA0)) ρ=.ok (.bl true,ρ):=by
  refine zat (zdz (ρ':=ρ) (ρ'':=ρ) rfl rfl b2) (e:=.lst []) rfl ?_
  show gEq false (.lst []) (.lst [])=_
  rw[zbx rfl rfl,zgL];rfl
 unfold zu5 zh3
 rw[c1]
 simp only[R.bind_ok]
 exact c2
theorem zpQ(ns:List Int):zsm 7 zgZ zkP ns:=by
 let ρ0:Ev:=[some (.val (.scr ns)),none,none,none,none,none,none,none,some (.tab zgZ)]
 obtain ⟨j,hj,ej⟩ : ∃ j:Int,zf1 j=true/\dFn ziL (dA (dC (.int 1)) (dA (dFn zi6 (dA (dFn zca (dA (zab 0) dA0)) (dA (dC (.int 8)) dA0))) dA0)) ρ0=.ok (.int j,ρ0):=by
  refine ⟨(if (if (8:Int)<ns.length then (8:Int) else ns.length) > 1 then (if (8:Int)<ns.length then (8:Int) else ns.length) else 1),?_,rfl⟩
  unfold zf1
  simp only[Bool.and_eq_true,decide_eq_true_eq]
  split <;> split <;> omega
 obtain ⟨ρ',⟨a1,a2,a3,a4,a5,a6,a7,rfl⟩,e⟩:=zll (g:=zbz 1) (body:=outer) (ds:=zaR 0 j.toNat) (ρ:=ρ0)
  (I:=fun ρ=>∃ a1 a2 a3 a4 a5 a6 a7,ρ=[some (.val (.scr ns)),a1,a2,a3,a4,a5,a6,a7,some (.tab zgZ)])
  (fun d hd ρ ⟨a1,a2,a3,a4,a5,a6,a7,hρ⟩=>by
   subst hρ
   obtain ⟨k,_,rfl⟩:=List.mem_map.mp hd
   obtain ⟨b2,b3,b4,b5,b6,b7,e⟩:=zmf (ns:=ns) (k:=k) (o2:=a2) (o3:=a3) (o4:=a4) (o5:=a5) (o6:=a6) (o7:=a7)
   refine ⟨[some (.val (.scr ns)),some (.val (.int k)),a2,a3,a4,a5,a6,a7,some (.tab zgZ)],_,?_,e,_,_,_,_,_,_,_,rfl⟩
   rw[Int.zero_add]
   rfl) ⟨none,none,none,none,none,none,none,rfl⟩
 have x:zmx (zcb (dFn ziL (dA (dC (.int 1)) (dA (dFn zi6 (dA (dFn zca (dA (zab 0) dA0)) (dA (dC (.int 8)) dA0))) dA0)))) (zbz 1) outer ρ0=.ok (.nx,[some (.val (.scr ns)),a1,a2,a3,a4,a5,a6,a7,some (.tab zgZ)]):=by
  unfold zmx zcb
  rw[ej]
  simp only[R.bind_ok,hj,if_true]
  exact e
 refine ⟨[some (.val (.scr ns)),a1,a2,a3,a4,a5,a6,a7,some (.tab zgZ)],?_⟩
 show zkP ρ0=_
 rw[zrz,zak x]
 exact zaW (zoO _)
theorem at8{α:Type}{f g:Nat->α}(h:(List.range 8).map f=(List.range 8).map g):∀ n,n<8->f n=g n:=fun n hn=>List.map_inj_left.mp h n (List.mem_range.mpr hn)
theorem xc_of{K:W.Frag}{cls:Nat->Addr}(h:((List.range 8).map fun n=>(W.excIn K (cls n) bmV "ValueError.__new__",W.findIn K (.ref (cls n)) "__getattribute__",W.findIn K (.ref (cls n)) "__getattr__",W.findIn K (.ref (cls n)) "__class__",W.subIn K (.ref (cls n)) (.type "BaseException")))=(List.range 8).map fun _=>(true,some (some (.builtin "BaseException.__getattribute__")),some none,some (some (.builtin "object.__class__")),some true)):∀ n,n<8->Xin K (cls n):=fun n hn=>by
 have e:=at8 h n hn
 simp only[Prod.mk.injEq] at e
 exact ⟨e.1,e.2.1,e.2.2.1,e.2.2.2.1,e.2.2.2.2⟩
theorem xi_of{K:W.Frag}{cls:Nat->Addr}(h:((List.range 8).map fun n=>(List.range 8).map fun k=>W.kitOne K (.ref (cls n)) (.ref (cls k)))=(List.range 8).map fun n=>(List.range 8).map fun k=>some (n == k)):∀ n k,n<8->k<8->W.kitOne K (.ref (cls n)) (.ref (cls k))=some (n == k):=fun n k hn hk=>at8 (at8 h n hn) k hk
abbrev c8(a b c d e f g h:Addr):Nat->Addr:=fun n=>match n with|0=>a|1=>b|2=>c|3=>d|4=>e|5=>f|6=>g|_=>h
section
variable{K:W.Frag}{h:Heap}{mg:Str->Option Value}(X:K.In h)(G:h.Ns mainGlobals mg)
include X G in
theorem fe{x:String}{i:Nat}{f:Addr}{od an:Option Addr}{sl:Array (Option Value)}{oc kV dc pm cd ct:Value}(a:W.nsIn K mainGlobals (Str.ofString x)=some (some (.ref f)))(l:K.lookup f=some ⟨oc,od,.func (W.fnOf (Str.ofString x) (Str.ofString x) (zeJ (top i)) (zc7 (top i)) (zal (top i)) .none kV dc pm an cd ct),sl⟩)(c:W.codeIn K cd (Str.ofString x)=true)(k:W.keepIn K (.ref f)=true):Uf K mg x i:=⟨_,_,zqh (st:=top i) l c k,W.mg_of X G a⟩
include X G in
theorem xs_of{CS:Addr}{x:Str}{cls:Nat->Addr}(m:W.nsIn K mainGlobals x=some (some (.ref CS)))(i:Xin K CS)(s:∀ n,n<8->W.subIn K (.ref (cls n)) (.ref CS)=some true):∃ Cs,Xin K Cs/\mg x=some (.ref Cs)/\∀ n,n<8->W.subIn K (.ref (cls n)) (.ref Cs)=some true:=⟨_,i,W.mg_of X G m,s⟩
include X G in
theorem ct{x:Str}{i:Int}{t:Tok}(m:W.nsIn K mainGlobals x=some (some (.int i t))):∃ t,mg x=some (.int i t):=⟨_,W.mg_of X G m⟩
include X G in
theorem cts{x:Str}{z:Str}{t:Tok}(m:W.nsIn K mainGlobals x=some (some (.str z t))):∃ t,mg x=some (.str z t):=⟨_,W.mg_of X G m⟩
include X G in
theorem ctb{x:Str}{a:Addr}{D:List (Str×Str)}(m:W.nsIn K mainGlobals x=some (some (.ref a)))(d:PyProof.Rows.KTD.tabLook (PyProof.Rows.KTD.datLooks fun b=>K.lookup b) (fun b=>K.lookup b) a (zm6 D)=true):∃ a,mg x=some (.ref a)/\zkW K a D:=⟨_,W.mg_of X G m,d⟩
include X G in
theorem fin{l:W.OpenLaw}{w:World}{fa g cM QT:Addr}{C0 C1 C2 C3 C4 C5 C6 C7:Addr}(hfa:mg "law"=some (.ref fa)){oe ao:Option Addr}{sm:Array (Option Value)}{o2 k2 d2 p2 c2:Value}(T:Tx K mg (c8 C0 C1 C2 C3 C4 C5 C6 C7))
  (b:W.nsIn K mainGlobals (Str.ofString "law")=some (some (.ref g))) (lb:K.lookup g=some ⟨o2,oe,.func (W.fnOf (Str.ofString "law") (Str.ofString "law") (zeJ (top 51)) (zc7 (top 51)) (zal (top 51)) .none k2 d2 p2 ao (.ref cM) c2),sm⟩) (cb:W.codeIn K (.ref cM) (Str.ofString "law")=true) (kb:W.keepIn K (.ref g)=true)
  (ch2:W.codeHdIn K cM QT=true) :
  ∃(fd:FuncData)(cM:Addr),(∀(s:Shared)(v:Value),BindsTo s fd ⟨[v],[]⟩ [("script",v)])/\W.codeHdIn K cM QT=true/\∀ base:Heap,K.In base->base.Ns mainGlobals mg->base.BuiltinsAt mg QT->zgi l.prog w K mg base (CXe l.prog w) 27 fa fd ["script"] (spT K QT (zsm 7 zgZ zkP)):=by
 have e:=hfa.symm.trans (W.mg_of X G b)
 cases e
 exact ⟨W.fnOf "law" "law" (zeJ (top 51)) (zc7 (top 51)) (zal (top 51)) .none k2 d2 p2 ao (.ref cM) c2,cM,fun s v=>.of_eq rfl,ch2,fun base hK _ hb=>zud T (zqh (st:=top 51) lb cb kb) rfl ch2 hb hK⟩
end
theorem walk{l:W.OpenLaw}{q:Program}{loose:List Str}{XP:(Str->Option Value)->Heap->Prop}{YP:World->Heap->Prop}{d:DefRec}{K:Params->W.Frag}{QT:Addr}(hn:l.most=some 63)(hdf:d.params.defaults=[])
  (hY:∀(w:World)(h:Heap),YP w h->(K w.params).In h) (hYQ:∀(w:World)(h:Heap),YP w h->h.get? QT=some (W.tabObj #[])) (hnt:∀ w:World,W.noTabs (K w.params)=true)
  (F:∀(w:World)(mg:Str->Option Value)(fa:Addr)(h:Heap),(K w.params).In h->h.Ns mainGlobals mg->mg d.name=some (.ref fa) ->
   ∃(fd:FuncData)(cM:Addr),(∀(s:Shared)(u:Value),BindsTo s fd ⟨[u],[]⟩ [("script",u)])/\W.codeHdIn (K w.params) cM QT=true/\∀ base:Heap,(K w.params).In base->base.Ns mainGlobals mg->base.BuiltinsAt mg QT->zgi l.prog w (K w.params) mg base (CXe l.prog w) 27 fa fd ["script"] (spT (K w.params) QT (zsm 7 zgZ zkP))) :
  W.WalkO q loose XP YP l.row.toRowW d [] (fun f vs=>PySem.call f vs) :=
 zpi (n:=63) (k:=27) (x:="script") (CX:=fun w=>CXe l.prog w) (sp:=fun w=>spT (K w.params) QT (zsm 7 zgZ zkP)) hn (by decide) hdf ⟨rfl,by decide,by decide⟩ hY hYQ hnt F (fun w H a ns hl hP hS=>⟨a,ns,rfl,hS,hP,zpQ ns,fun _=>rfl⟩) fun _ _ _ _ _ z=>CXe.none z
end Lw
def PySem.W.Fast.tw908503968912325906:=0
def PySem.W.Fast.tw6588861698486654677:=0
def PySem.W.Fast.tw17375957424152259311:=0
def PySem.W.Fast.tw13846453580743257136:=0
def PySem.W.Fast.tw12393298228261442909:=0
def PySem.W.Fast.tw12565784845859489218:=0
def PySem.W.Fast.tw1531059960799872967:=0
def PySem.W.Fast.tw10499453160886560203:=0
def PySem.W.Fast.tw16705471701573499531:=0
def PySem.W.Fast.tw11142000317019636454:=0
def PySem.W.Fast.tw6099994727522047804:=0
def PySem.W.Fast.tw11197592842142260095:=0
def PySem.W.Fast.tw17448243615299319091:=0
def PySem.W.Fast.tw3984808345655975060:=0
def PySem.W.Fast.tw11557968149080429491:=0
open PySem PySem.W PyProof.Rows
set_option maxRecDepth 100000 in
set_option maxHeartbeats 0 in
theorem PySem.Challenge.cw_standtogether_k90_texts_of_parties_and_t_holds : PySem.Challenge.rw_standtogether_k90_texts_of_parties_and_t.Holds := by
  w_on; o_law; k_head; (case hw => w_witness2)
  k_fill
  refine Lw.walk (l := PySem.Challenge.rw_standtogether_k90_texts_of_parties_and_t) rfl rfl (fun w h Y => PySem.W.km_in_of Y) (fun w h Y => PySem.W.km_tabs_of Y _ List.mem_cons_self) (fun w => by kernel_rfl) ?F
  case F =>
    intro w mg fa h KX G hmg
    refine' Lw.fin KX G hmg ⟨Lw.xc_of ?_,PySem.W.mg_of KX G ?x0,PySem.W.mg_of KX G ?x1,PySem.W.mg_of KX G ?x2,PySem.W.mg_of KX G ?x3,PySem.W.mg_of KX G ?x4,PySem.W.mg_of KX G ?x5,PySem.W.mg_of KX G ?x6,
     PySem.W.mg_of KX G ?x7,Lw.xs_of KX G ?x8 ⟨?_,?_,?_,?_,?_⟩ (Lw.at8 ?_),Lw.xi_of ?_,Lw.at8 ?_,Lw.fe KX G ?_ ?_ ?_ ?_,Lw.fe KX G ?_ ?_ ?_ ?_,Lw.fe KX G ?_ ?_ ?_ ?_,Lw.fe KX G ?_ ?_ ?_ ?_,
     Lw.fe KX G ?_ ?_ ?_ ?_,Lw.fe KX G ?_ ?_ ?_ ?_,Lw.fe KX G ?_ ?_ ?_ ?_,Lw.fe KX G ?_ ?_ ?_ ?_,Lw.fe KX G ?_ ?_ ?_ ?_,Lw.fe KX G ?_ ?_ ?_ ?_,Lw.fe KX G ?_ ?_ ?_ ?_,Lw.fe KX G ?_ ?_ ?_ ?_,
     Lw.fe KX G ?_ ?_ ?_ ?_,Lw.fe KX G ?_ ?_ ?_ ?_,Lw.fe KX G ?_ ?_ ?_ ?_,Lw.fe KX G ?_ ?_ ?_ ?_,Lw.fe KX G ?_ ?_ ?_ ?_,Lw.fe KX G ?_ ?_ ?_ ?_,Lw.fe KX G ?_ ?_ ?_ ?_,Lw.fe KX G ?_ ?_ ?_ ?_,
     Lw.fe KX G ?_ ?_ ?_ ?_,Lw.fe KX G ?_ ?_ ?_ ?_,Lw.fe KX G ?_ ?_ ?_ ?_,Lw.fe KX G ?_ ?_ ?_ ?_,Lw.fe KX G ?_ ?_ ?_ ?_,Lw.fe KX G ?_ ?_ ?_ ?_,Lw.fe KX G ?_ ?_ ?_ ?_,Lw.fe KX G ?_ ?_ ?_ ?_,
     Lw.fe KX G ?_ ?_ ?_ ?_,Lw.fe KX G ?_ ?_ ?_ ?_,Lw.fe KX G ?_ ?_ ?_ ?_,Lw.fe KX G ?_ ?_ ?_ ?_,Lw.fe KX G ?_ ?_ ?_ ?_,PySem.W.mg_none_of KX G ?_,PySem.W.mg_none_of KX G ?_,PySem.W.mg_none_of KX G ?_,
     PySem.W.mg_none_of KX G ?_,PySem.W.mg_none_of KX G ?_,PySem.W.mg_none_of KX G ?_,PySem.W.mg_none_of KX G ?_,PySem.W.mg_none_of KX G ?_,PySem.W.mg_none_of KX G ?_,PySem.W.mg_none_of KX G ?_,PySem.W.mg_none_of KX G ?_,
     PySem.W.mg_none_of KX G ?_,PySem.W.mg_none_of KX G ?_,PySem.W.mg_none_of KX G ?_,Lw.ct KX G ?_,Lw.ct KX G ?_,Lw.cts KX G ?_,Lw.cts KX G ?_,Lw.ctb KX G ?_ ?_⟩ ?_ ?_ ?_ ?_ ?_
    (case x0|x1|x2|x3|x4|x5|x6|x7|x8 => k_is)
    all_goals try first | k_is | kernel_rfl
end
