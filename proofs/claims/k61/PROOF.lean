import PyProof.Rows.All
import Wide.All
import OpenK.AllK
import Wide.FinOn
import Lean
import PyProof.EqAt
import PyProof.EqKinds
import PyProof.TupleCall
import PySem.Challenge.RW_standtogether_k61_benches_put_in
set_option Elab.async false
set_option linter.all false
set_option maxRecDepth 100000
set_option maxHeartbeats 4000000
section
namespace L2
open PySem PySem.Spec PyProof.Rows
abbrev Key:=Sum Int Str
def ztk:Key->Value->Bool
 |.inl k,v=>Value.isInt k v
 |.inr x,v=>Value.isStrOf x v
def keyH(w:World):Key->Int
 |.inl k=>hashInt k
 |.inr x=>hashStr w x
theorem zb4:∀{k:Key}{v:Value},ztk k v=true->(∃ i t,k=Sum.inl i/\v=Value.int i t)\/(∃ x t,k=Sum.inr x/\v=Value.str x t)
 |.inl i,v,h=>by
  obtain ⟨t,e⟩:=Value.isInt_shape (k:=i) (v:=v) h
  exact .inl ⟨i,t,rfl,e⟩
 |.inr x,v,h=>by
  obtain ⟨t,e⟩:=Value.isStrOf_shape (x:=x) (v:=v) h
  exact .inr ⟨x,t,rfl,e⟩
theorem ztW(a b:Int):decide ((Sum.inl a:Key)=Sum.inl b)=(a == b):=by
 by_cases e:a=b
 ·subst e;simp
 ·have h:¬ (Sum.inl a:Key)=Sum.inl b:=fun q=>e (Sum.inl.inj q)
  rw[decide_eq_false h]
  exact (beq_eq_false_iff_ne.mpr e).symm
theorem zun(a b:Str):decide ((Sum.inr a:Key)=Sum.inr b)=decide (a=b):=by
 by_cases e:a=b
 ·subst e;simp
 ·have h:¬ (Sum.inr a:Key)=Sum.inr b:=fun q=>e (Sum.inr.inj q)
  rw[decide_eq_false h,decide_eq_false e]
theorem zuw(a:Int)(b:Str):decide ((Sum.inl a:Key)=Sum.inr b)=false:=decide_eq_false (fun q=>nomatch q)
theorem zuI(a:Str)(b:Int):decide ((Sum.inr a:Key)=Sum.inl b)=false:=decide_eq_false (fun q=>nomatch q)
def zog(prog:Program)(w:World):PySem.KeyKind prog w Key where
 is:=ztk
 hash:=keyH w
 inj:=fun v a b ha hb=>by
  rcases zb4 ha with ⟨i,t,rfl,rfl⟩|⟨x,t,rfl,rfl⟩
  ·rcases zb4 hb with ⟨j,u,rfl,e⟩|⟨y,u,rfl,e⟩
   ·injection e with e1 _;rw[e1]
   ·exact nomatch e
  ·rcases zb4 hb with ⟨j,u,rfl,e⟩|⟨y,u,rfl,e⟩
   ·exact nomatch e
   ·injection e with e1 _;rw[e1]
 byValue:=fun k v h=>by
  rcases zb4 h with ⟨i,t,rfl,rfl⟩|⟨x,t,rfl,rfl⟩ <;> rfl
 pyHash:=fun hv h=>by
  rcases zb4 hv with ⟨i,t,rfl,rfl⟩|⟨x,t,rfl,rfl⟩
  ·exact wpAny_pyHash_int h
  ·exact wpAny_pyHash_str h
 eqBool:=fun hu hv h=>by
  rcases zb4 hu with ⟨i,t,rfl,rfl⟩|⟨x,t,rfl,rfl⟩
  ·rcases zb4 hv with ⟨j,u,rfl,rfl⟩|⟨y,u,rfl,rfl⟩
   ·rw[ztW] at h;exact wpAny_eqBool_int h
   ·rw[zuw] at h;exact SeqAt.EqAt.int_str i t y u _ _ _ _ h
  ·rcases zb4 hv with ⟨j,u,rfl,rfl⟩|⟨y,u,rfl,rfl⟩
   ·rw[zuI] at h;exact SeqAt.EqAt.str_int x t j u _ _ _ _ h
   ·rw[zun] at h;exact wpAny_eqBool_str h
 «strs» := fun k x t v h=>by
  rcases zb4 h with ⟨i,u,rfl,e⟩|⟨y,u,rfl,e⟩
  ·exact nomatch e
  ·injection e with e1 _
   subst e1
   cases v <;> rfl
end L2
namespace L2
open PySem PySem.Spec PyProof.Rows
inductive V where
 |non|bl (b:Bool)|int (i:Int)|str (x:Str)|byt (b:Array UInt8)|flt (b:UInt64)|ref (a:Addr)|ty (n:String)
 deriving DecidableEq
def zcx:V->Value->Prop
 |.non,u=>u=Value.none
 |.bl b,u=>u=Value.bool b
 |.int i,u=>∃ t,u=Value.int i t
 |.str x,u=>∃ t,u=Value.str x t
 |.byt b,u=>∃ t,u=Value.bytes b t
 |.flt b,u=>∃ t,u=Value.float b t
 |.ref a,u=>u=Value.ref a
 |.ty n,u=>u=Value.type n
abbrev zbp:List V->List Value->Prop:=Paired zcx
theorem zbp.length{xs:List V}{us:List Value}(r:zbp xs us):xs.length=us.length:=Paired.length r
theorem zbp.get:∀{xs:List V}{us:List Value}{i:Nat}{x:V},zbp xs us->xs[i]? = some x->∃ u,us[i]? = some u/\zcx x u
 |_,_,_,_,.nil,e=>by simp at e
 |_,_,0,_,.cons r _,e=>by simp at e;subst e;exact ⟨_,rfl,r⟩
 |_,_,i+1,x,.cons _ t,e=>by
  obtain ⟨u,h1,h2⟩:=zbp.get (i:=i) (x:=x) t (by simpa using e)
  exact ⟨u,by simpa using h1,h2⟩
theorem zbp.set{x:V}{u:Value}(r:zcx x u):∀{xs:List V}{us:List Value}(i:Nat),zbp xs us->zbp (xs.set i x) (us.set i u)
 |_,_,_,.nil=>.nil
 |_,_,0,.cons _ t=>.cons r t
 |_,_,i+1,.cons q t=>.cons q (zbp.set r i t)
theorem zbp.append:∀{xs ys:List V}{us ws:List Value},zbp xs us->zbp ys ws->zbp (xs++ys) (us++ws)
 |_,_,_,_,.nil,s=>s
 |_,_,_,_,.cons r t,s=>.cons r (zbp.append t s)
theorem zbp.take:∀{xs:List V}{us:List Value}(n:Nat),zbp xs us->zbp (xs.take n) (us.take n)
 |_,_,0,_=>.nil
 |_,_,_+1,.nil=>.nil
 |_,_,n+1,.cons r t=>.cons r (zbp.take n t)
theorem zbp.drop:∀{xs:List V}{us:List Value}(n:Nat),zbp xs us->zbp (xs.drop n) (us.drop n)
 |_,_,0,r=>r
 |_,_,_+1,.nil=>.nil
 |_,_,n+1,.cons _ t=>zbp.drop n t
def RelO:Option V->Option Value->Prop
 |some v,some u=>zcx v u
 |none,none=>True
 |_,_=>False
def KV{κ:Type}:List (κ×V)->List (κ×Value)->Prop:=Paired fun (p:κ×V) (q:κ×Value)=>p.1=q.1/\zcx p.2 q.2
def kV:Key->V
 |.inl i=>.int i
 |.inr x=>.str x
inductive HO where
  |lst (xs:List V)
  |tup (xs:List V)
  |dK (kvs:List (Key×V))|dT (kvs:List (List Key×V))
  |set (S:Int->Bool) (n:Nat)
  |ins (C dx:Addr) (fs:List (Str×V))
  |own (x:Addr)
  |xd (fs:List (Str×V))
  |met (f x:Addr)
  |rng (lo hi:Int)
  |frz (o:Obj) (u:HO)
  |tbl (ps:Array Value)
  |ext (φ : Heap->Prop)
abbrev Hp:=Addr->Option HO
def upd(H:Hp)(a:Addr)(o:HO):Hp:=fun b=>if b=a then some o else H b
theorem zan{H:Hp}{a:Addr}{o:HO}:upd H a o a=some o:=by unfold upd;rw[if_pos rfl]
theorem zai{H:Hp}{a b:Addr}{o:HO}(h:b≠a):upd H a o b=H b:=by unfold upd;rw[if_neg h]
theorem zah{H:Hp}{a b:Addr}{o:HO}(h:H a=some o)(h':H b=none):a≠b:=by
 intro e;subst e;rw[h] at h';cases h'
section
variable(P:Program)(w:World)
def zct(H:Hp)(h:Heap)(a:Addr):HO->Prop
 |.lst xs=>xs.length<=sizeLine/\∃(its:List Value)(n:Nat),zbp xs its/\h.get? a=some { cls:=.type "list",data:=.seq its.toArray n }
 |.tup xs=>xs.length<=sizeLine/\∃ its:List Value,zbp xs its/\∃ n,h.get? a=some { cls:=.type "tuple",data:=.seq its.toArray n }
 |.dK kvs=>kvs.length<=sizeLine/\(a == sysModules)=false/\∃ vs,KV kvs vs/\h.DictOf (zog P w) a vs
 |.dT kvs=>kvs.length<=sizeLine/\(a == sysModules)=false/\∃ xs:List (List Key×Addr×Value),
   Paired (fun (p:List Key×V) (q:List Key×Addr×Value)=>p.1=q.1/\H q.2.1=some (.tup (p.1.map kV))/\zcx p.2 q.2.2) kvs xs /\
   ∃ o es ep,h.get? a=some o/\o.ExactDict/\o.data=.dict es ep/\es.toList=xs.map (entryOfKey (tupleKind (zog P w)))/\(xs.map (·.1)).Nodup
 |.set S n=>h.SetOf (intKind P w) a S n
 |.ins C dx fs=>H dx=some (.own a)/\fs.length<=1000/\dx≠a/\h.get? a=some (W.instObj C dx) /\
   ∃ mA,h.Ns1 dx mA/\(∀ f,RelO (fs.lookup f) (mA f))/\PySem.Within mA (fs.map (·.1))
 |.own _=>∃ o,h.get? a=some o
 |.xd fs=>∃ mA,h.Ns1 a mA/\∀ f,RelO (fs.lookup f) (mA f)
 |.rng lo hi=>∃ t u v,h.get? a=some { cls:=.type "range",data:=.fields #[.int lo t,.int hi u,.int 1 v] }
 |.frz o u=>h.get? a=some o/\zct H h a u
 |.tbl ps=>h.get? a=some { cls:=.none,data:=.fields ps }
 |.met f x=>h.get? a=some (W.methodObj (.ref f) (.ref x))
 |.ext φ => φ h/\(∃ o,h.get? a=some o)/\∀ h1 h2:Heap,φ h1->(∀ o,h1.get? a=some o->h2.get? a=some o)->φ h2
def HOk(H:Hp)(h:Heap):Prop:=∀ a o,H a=some o->zct P w H h a o
end
section
variable{P:Program}{w:World}{H H':Hp}{h h':Heap}{a:Addr}{o:HO}
theorem zct.lt(x:zct P w H h a o):a<h.objs.size:=by
 cases o with
 |lst xs=>obtain ⟨_,_,_,_,e⟩:=x;exact Heap.lt_size e
 |tup xs=>obtain ⟨_,_,_,_,e⟩:=x;exact Heap.lt_size e
 |dK kvs=>obtain ⟨_,_,_,_,o,_,_,e,_⟩:=x;exact Heap.lt_size e
 |dT kvs=>obtain ⟨_,_,_,_,o,_,_,e,_⟩:=x;exact Heap.lt_size e
 |set S n=>obtain ⟨o,_,_,_,e,_⟩:=x;exact Heap.lt_size e
 |ins C dx fs=>obtain ⟨_,_,_,e,_⟩:=x;exact Heap.lt_size e
 |own y=>obtain ⟨_,e⟩:=x;exact Heap.lt_size e
 |xd fs=>obtain ⟨_,⟨_,_,_,e,_⟩,_⟩:=x;exact Heap.lt_size e
 |rng lo hi=>obtain ⟨_,_,_,e⟩:=x;exact Heap.lt_size e
 |frz ob u=>obtain ⟨e,_⟩:=x;exact Heap.lt_size e
 |tbl ps=>exact Heap.lt_size (show h.get? a=some _ from x)
 |met f y=>exact Heap.lt_size (show h.get? a=some _ from x)
 |ext φ => obtain ⟨_,⟨_,e⟩,_⟩:=x;exact Heap.lt_size e
theorem Paired.mapP{α β:Type}{F G:α->β->Prop}:∀{l₁:List α}{l₂:List β},Paired F l₁ l₂->(∀ a b,F a b->G a b)->Paired G l₁ l₂
 |_,_,.nil,_=>.nil
 |_,_,.cons r t,f=>.cons (f _ _ r) (Paired.mapP t f)
theorem zct.stay(x:zct P w H h a o)(k:∀ b u,(b=a\/H b=some (.own a))->h.get? b=some u->h'.get? b=some u)
  (ho:∀ b,H b=some (.own a)->H' b=some (.own a)) (ht:∀ b xs,H b=some (.tup xs)->H' b=some (.tup xs)):zct P w H' h' a o:=by
 induction o with
 |lst xs=>obtain ⟨z,its,n,r,e⟩:=x;exact ⟨z,its,n,r,k _ _ (.inl rfl) e⟩
 |tup xs=>obtain ⟨z,its,r,n,e⟩:=x;exact ⟨z,its,r,n,k _ _ (.inl rfl) e⟩
 |dK kvs=>obtain ⟨z,y,vs,r,ob,es,ep,e,c⟩:=x;exact ⟨z,y,vs,r,ob,es,ep,k _ _ (.inl rfl) e,c⟩
 |dT kvs =>
  obtain ⟨z,y,xs,r,ob,es,ep,e,c⟩:=x
  exact ⟨z,y,xs,Paired.mapP r fun p q z=>⟨z.1,ht _ _ z.2.1,z.2.2⟩,ob,es,ep,k _ _ (.inl rfl) e,c⟩
 |set S n=>obtain ⟨ob,es,ep,t,e,c⟩:=x;exact ⟨ob,es,ep,t,k _ _ (.inl rfl) e,c⟩
 |ins C dx fs =>
  obtain ⟨d,z,ne,e,mA,⟨od,es,ep,e2,c⟩,r⟩:=x
  exact ⟨ho _ d,z,ne,k _ _ (.inl rfl) e,mA,⟨od,es,ep,k _ _ (.inr d) e2,c⟩,r⟩
 |own y=>obtain ⟨ob,e⟩:=x;exact ⟨ob,k _ _ (.inl rfl) e⟩
 |xd fs=>obtain ⟨mA,⟨od,es,ep,e,c⟩,r⟩:=x;exact ⟨mA,⟨od,es,ep,k _ _ (.inl rfl) e,c⟩,r⟩
 |rng lo hi=>obtain ⟨t,u,v,e⟩:=x;exact ⟨t,u,v,k _ _ (.inl rfl) e⟩
 |frz ob u ih=>obtain ⟨e,q⟩:=x;exact ⟨k _ _ (.inl rfl) e,ih q⟩
 |tbl ps =>
  have e:h.get? a=some { cls:=.none,data:=.fields ps }:=x
  show h'.get? a=some { cls:=.none,data:=.fields ps }
  exact k a _ (.inl rfl) e
 |met f y =>
  have e:h.get? a=some (W.methodObj (.ref f) (.ref y)):=x
  show h'.get? a=some (W.methodObj (.ref f) (.ref y))
  exact k a _ (.inl rfl) e
 |ext φ => obtain ⟨p,⟨o,e⟩,st⟩:=x;exact ⟨st _ _ p fun o q=>k _ _ (.inl rfl) q,⟨o,k _ _ (.inl rfl) e⟩,st⟩
theorem HOk.lt(x:HOk P w H h)(e:H a=some o):a<h.objs.size:=(x a o e).lt
theorem HOk.fresh(x:HOk P w H h)(e:h.objs.size<=a):H a=none:=by
 cases q:H a with
 |none=>rfl
 |some u=>exact absurd (Nat.lt_of_lt_of_le (x.lt q) e) (Nat.lt_irrefl _)
theorem HOk.kept(x:HOk P w H h)(k:∀ b u,h.get? b=some u->h'.get? b=some u):HOk P w H h':=fun a o e =>
 (x a o e).stay (fun b u _ q=>k b u q) (fun _ q=>q) fun _ _ q=>q
theorem HOk.laid(x:HOk P w H h)(k:∀ b u,h.get? b=some u->h'.get? b=some u)(hp:h.objs.size<=a)(new:zct P w (upd H a o) h' a o):HOk P w (upd H a o) h':=fun b u e=>by
 have hn:=x.fresh hp
 by_cases hb:b=a
 ·subst hb;rw[zan] at e;cases e;exact new
 ·rw[zai hb] at e
  exact (x b u e).stay (fun c v _ q=>k c v q) (fun c q=>by rw[zai (zah q hn)];exact q) fun c xs q=>by rw[zai (zah q hn)];exact q
end
def Rd(H:Hp)(a:Addr)(u:HO):Prop:=H a=some u\/∃ o,H a=some (.frz o u)
theorem Rd.of{H:Hp}{a:Addr}{u:HO}(h:H a=some u):Rd H a u:=.inl h
theorem Rd.ok{P:Program}{w:World}{H:Hp}{h:Heap}{a:Addr}{u:HO}(r:Rd H a u)(x:HOk P w H h):zct P w H h a u:=by
 rcases r with r|⟨o,r⟩
 ·exact x a u r
 ·obtain ⟨_,q⟩:=x a _ r
  exact q
def Mut:Option HO->Prop
 |some (.lst _)=>True
 |some (.dK _)=>True
 |some (.dT _)=>True
 |some (.set _ _)=>True
 |some (.ins _ _ _)=>True
 |some (.ext _)=>True
 |_=>False
section
variable{P:Program}{w:World}{H:Hp}{h h':Heap}{x e:Addr}{o':HO}
theorem HOk.write(ok:HOk P w H h)(mu:Mut (H x))(he:e=x\/H e=some (.own x))(k:∀ b u,b≠e->h.get? b=some u->h'.get? b=some u)(heo:∃ u,h'.get? e=some u)
  (new:zct P w (upd H x o') h' x o'):HOk P w (upd H x o') h':=fun b u q=>by
 have nown:∀ c y,H c=some (.own y)->c≠x:=fun c y r z=>by subst z;rw[r] at mu;exact mu
 have ntup:∀ c xs,H c=some (.tup xs)->c≠x:=fun c xs r z=>by subst z;rw[r] at mu;exact mu
 by_cases hb:b=x
 ·subst hb;rw[zan] at q;cases q;exact new
 ·rw[zai hb] at q
  by_cases hbe:b=e
  ·have q':H b=some (.own x):=by
    rcases he with z|z
    ·exact absurd (hbe.trans z) hb
    ·rw[hbe];exact z
   rw[q] at q';cases q'
   obtain ⟨v,hv⟩:=heo
   exact ⟨v,by rw[hbe];exact hv⟩
  ·refine (ok b u q).stay (fun c v hc r=>k c v ?_ r) (fun c r=>by rw[zai (nown c b r)];exact r) fun c xs r=>by rw[zai (ntup c xs r)];exact r
   rcases hc with rfl|hc
   ·exact hbe
   ·rintro rfl
    rcases he with z|z
    ·exact nown c b hc z
    ·rw[hc] at z;cases z;exact hb rfl
end
structure Un(fs ex:List Addr)(H H':Hp)(h h':Heap):Prop where
 keep:∀ b o,h.get? b=some o->H b=none->b∉fs->b∉ex->h'.get? b=some o
 slot:∀ b o,h.get? b=some o->H b=none->b∈fs->b∉ex->∃ sl,h'.get? b=some { o with slots:=sl }
 free:∀ b o,h.get? b=some o->H b=none->b∉ex->H' b=none
 there:∀ b o,h.get? b=some o->b∉ex->∃ o',h'.get? b=some o'
 tups:∀ b xs,H b=some (.tup xs)->H' b=some (.tup xs)
 frzs:∀ b o u,H b=some (.frz o u)->H' b=some (.frz o u)
 tbls:∀ b ps,H b=some (.tbl ps)->∃ more,H' b=some (.tbl (ps++more))
section
variable{fs fs' ex ex':List Addr}{H H1 H2:Hp}{h h1 h2 h':Heap}{a x e:Addr}{o:HO}
theorem Un.any(u:Un fs ex H H1 h h1){b:Addr}{ob:Obj}(q:h.get? b=some ob)(n:H b=none)(hx:b∉ex):∃ sl,h1.get? b=some { ob with slots:=sl }:=by
 by_cases hb:b∈fs
 ·exact u.slot b ob q n hb hx
 ·exact ⟨ob.slots,u.keep b ob q n hb hx⟩
theorem Un.trans(a:Un fs ex H H1 h h1)(b:Un fs ex H1 H2 h1 h2):Un fs ex H H2 h h2 where
 keep:=fun c ob q n hc hx=>b.keep c ob (a.keep c ob q n hc hx) (a.free c ob q n hx) hc hx
 slot:=fun c ob q n hc hx=>by
  obtain ⟨sl,e1⟩:=a.slot c ob q n hc hx
  obtain ⟨sl',e2⟩:=b.slot c _ e1 (a.free c ob q n hx) hc hx
  exact ⟨sl',e2⟩
 free:=fun c ob q n hx=>by
  obtain ⟨o',e1⟩:=a.there c ob q hx
  exact b.free c o' e1 (a.free c ob q n hx) hx
 there:=fun c ob q hx=>by
  obtain ⟨o',e1⟩:=a.there c ob q hx
  exact b.there c o' e1 hx
 tups:=fun c xs q=>b.tups c xs (a.tups c xs q)
 frzs:=fun c ob xs q=>b.frzs c ob xs (a.frzs c ob xs q)
 tbls:=fun c ps q=>by
  obtain ⟨m1,e1⟩:=a.tbls c ps q
  obtain ⟨m2,e2⟩:=b.tbls c _ e1
  exact ⟨m1++m2,by rw[e2,Array.append_assoc]⟩
theorem Un.kept(k:∀ b u,h.get? b=some u->h'.get? b=some u):Un fs ex H H h h' :=
 ⟨fun b ob q _ _ _=>k b ob q,fun b ob q _ _ _=>⟨ob.slots,k b ob q⟩,fun _ _ _ n _=>n,fun b ob q _=>⟨ob,k b ob q⟩,fun _ _ q=>q,fun _ _ _ q=>q,fun _ ps q=>⟨#[],by rw[q];simp⟩⟩
theorem Un.refl:Un fs ex H H h h:=Un.kept fun _ _ q=>q
theorem Un.laid(k:∀ b u,h.get? b=some u->h'.get? b=some u)(hp:h.objs.size<=a)(hn:H a=none):Un fs ex H (upd H a o) h h' where
 keep:=fun b u q _ _ _=>k b u q
 slot:=fun b u q _ _ _=>⟨u.slots,k b u q⟩
 free:=fun b u q n _=>by rw[zai (Nat.ne_of_lt (Nat.lt_of_lt_of_le (Heap.lt_size q) hp))];exact n
 there:=fun b u q _=>⟨u,k b u q⟩
 tups:=fun b xs q=>by rw[zai (zah q hn)];exact q
 frzs:=fun b u xs q=>by rw[zai (zah q hn)];exact q
 tbls:=fun b ps q=>⟨#[],by rw[zai (zah q hn),q];simp⟩
theorem Un.write(mu:Mut (H x))(he:e=x\/H e=some (.own x))(k:∀ b u,b≠e->h.get? b=some u->h'.get? b=some u)(heo:∃ u,h'.get? e=some u):Un fs ex H (upd H x o) h h':=by
 have hx:∀ b,H b=none->b≠x:=fun b n z=>by subst z;rw[n] at mu;exact mu
 have hb:∀ b,H b=none->b≠e:=fun b n z=>by
  subst z
  rcases he with r|r
  ·exact hx b n r
  ·rw[n] at r;cases r
 have hm:∀ b u,H b=some u->¬ Mut (some u)->b≠x:=fun b u q nm z=>by subst z;rw[q] at mu;exact nm mu
 refine ⟨fun b u q n _ _=>k b u (hb b n) q,fun b u q n _ _=>⟨u.slots,k b u (hb b n) q⟩,fun b u q n _=>by rw[zai (hx b n)];exact n,fun b u q _=>?_,
  fun b xs q=>by rw[zai (hm b _ q fun z=>z)];exact q,fun b u xs q=>by rw[zai (hm b _ q fun z=>z)];exact q,fun b ps q=>⟨#[],by rw[zai (hm b _ q fun z=>z),q];simp⟩⟩
 by_cases hbe:b=e
 ·subst hbe;exact heo
 ·exact ⟨u,k b u hbe q⟩
theorem Un.mono(u:Un fs ex H H1 h h1)(hs:∀ b∈fs,b∈fs')(hx:∀ b∈ex,b∈ex'):Un fs' ex' H H1 h h1 :=
 ⟨fun b ob q n hb he=>u.keep b ob q n (fun z=>hb (hs b z)) fun z=>he (hx b z),fun _ _ q n _ he=>u.any q n fun z=>he (hx _ z),fun b ob q n he=>u.free b ob q n fun z=>he (hx b z),fun b ob q he=>u.there b ob q fun z=>he (hx b z),u.tups,u.frzs,u.tbls⟩
end
def trk(h:Heap)(H:Hp):List Addr:=(List.range h.objs.size).filter fun a=>(H a).isSome
def zoQ(h:Heap)(H:Hp):Heap:=W.hideAll h (trk h H)
theorem zoo(h:Heap)(H:Hp):(zoQ h H).objs.size=h.objs.size:=W.hideAll_size _ _
theorem zqt{h:Heap}{H:Hp}{b:Addr}{o:Obj}(e:h.get? b=some o)(n:H b=none):(zoQ h H).get? b=some o :=
 W.hideAll_get _ e fun hm=>by
  have q:(H b).isSome=true:=(List.mem_filter.mp hm).2
  rw[n] at q;simp at q
theorem zsb{h:Heap}{H:Hp}{b:Addr}{o:Obj}(e:(zoQ h H).get? b=some o):h.get? b=some o/\H b=none:=by
 have e':h.get? b=some o:=W.of_hideAll (trk h H) e
 refine ⟨e',?_⟩
 cases q:H b with
 |none=>rfl
 |some x =>
  have hm:b∈trk h H:=List.mem_filter.mpr ⟨List.mem_range.mpr (Heap.lt_size e'),by simp[q]⟩
  have z:(zoQ h H).get? b=none:=W.hideAll_none (trk h H) hm
  rw[z] at e;cases e
def zrV(g h:Heap)(L:Addr):List (Addr×Obj):=(List.range h.objs.size).filterMap fun a=>if a=L\/(g.get? a).isSome=true then none else (h.get? a).map fun o=>(a,o)
def zcc(g h:Heap)(L d:Addr):List (Addr×Obj):=(zrV g h L).filter fun p=>decide (p.1≠d)
end L2
namespace L2
open PySem PySem.Spec PyProof.Rows
structure Mod(K:W.Frag)(mg:Str->Option Value)(base:Heap):Prop where
 kin:K.In base
 glob:base.Ns mainGlobals mg
 blt:∃ mb,base.Ns builtinsNs mb/\∀ x:Str,x≠"__name__"->mb x=bootBuiltins x
 nolimit:base.NoLimit
structure Cx where
 prog:Program
 w:World
 K:W.Frag
 mg:Str->Option Value
 base:Heap
 A:Around
 N:List Str
 s₀:Shared
 H₀:Hp
 env:Env
 outer:List Env
 stack:List Env
 ex:List Addr
 fn:Str->Bool
 calm:Bool
 pn:List (Addr×Obj)
 xe:Value->Shared->Prop
def frs(l:List Env):List Addr:=l.filterMap (·.frame)
abbrev Cx.fs(X:Cx):List Addr:=frs X.outer
def Vis(sc:Scope)(x:Str):Prop:=sc.names.lookup x=some .local\/sc.names.lookup x=some .cell\/sc.names.lookup x=some .free
def Loc(sc:Scope)(x:Str):Prop:=sc.names.lookup x=some .local\/sc.names.lookup x=some .cell
def Look(env:Env)(h:Heap)(m:Str->Option Value)(x:Str)(u:Value):Prop :=
 (env.kindOf x=some .local/\m x=some u)\/((env.kindOf x=some .cell\/env.kindOf x=some .free)/\∃ c,env.cells.lookup x=some c/\h.IsCell c (some u))
structure Cx.Ok(X:Cx):Prop where
 mod:Mod X.K X.mg X.base
 kind:X.env.scope.kind=.function
 glob:X.env.globals=mainGlobals
 blt:X.env.builtins=builtinsNs
 above:X.s₀.heap.objs.size<=X.env.locals
 inj:∀ x y c,X.env.cells.lookup x=some c->X.env.cells.lookup y=some c->x=y
 has:∀ x,(X.env.kindOf x=some .cell\/X.env.kindOf x=some .free)->∃ c,X.env.cells.lookup x=some c
 cab:∀ x c,X.fn x=true->X.env.cells.lookup x=some c->X.s₀.heap.objs.size<=c
 hd:X.calm=true->X.A.handled=none
 frames:X.A.frames=some X.stack
 stk:X.stack=X.outer\/(X.stack=X.env::X.outer/\X.env.frame=some X.env.locals)
 exf:∀ b∈X.ex,b≠X.env.locals/\∀ x c,X.env.cells.lookup x=some c->c≠b
 bs:∀ b o,X.base.get? b=some o->X.s₀.heap.get? b=some o/\X.H₀ b=none
 bsz:X.base.objs.size<=X.s₀.heap.objs.size
 noex:∀ b o,X.base.get? b=some o->b∉X.ex
 exfs:∀ b∈X.ex,b∉X.fs
 funs:X.s₀.heap.FunFrames X.base X.outer
 frf:∀ b∈X.fs,X.H₀ b=none
structure Inv(X:Cx)(pins:List (Addr×Obj))(σ:List (Option V))(H:Hp)(s:Shared):Prop where
 ok:X.Ok
 os:s.os=X.s₀.os
 bare:AllBare s.gens
 base:Un X.fs X.ex X.H₀ H X.s₀.heap s.heap
 loc:∃ m,s.heap.Ns X.env.locals m/\∀(i:Nat)(x:Str)(v:V),X.N[i]? = some x->σ[i]? = some (some v)->Vis X.env.scope x->∃ u,zcx v u/\Look X.env s.heap m x u
 cell:∀ x c,X.env.cells.lookup x=some c->∃ v,s.heap.IsCell c v
 free:H X.env.locals=none
 freeC:∀ x c,X.env.cells.lookup x=some c->H c=none
 pin:∀ p∈X.pn++pins,s.heap.get? p.1=some p.2/\H p.1=none/\p.1≠X.env.locals/\p.1∉X.fs/\∀ v,p.2.data≠.cell v
 hok:HOk X.prog X.w H s.heap
 len:σ.length=X.N.length
section
variable{X:Cx}{pins:List (Addr×Obj)}{σ:List (Option V)}{H H':Hp}{s:Shared}{h':Heap}
theorem Cx.Ok.nofr(ok:X.Ok){b:Addr}{o:Obj}(e:X.base.get? b=some o):b∉X.fs:=fun hb=>by
 have:=(ok.funs.mem hb).1
 rw[e] at this;cases this
theorem Inv.bs(I:Inv X pins σ H s):∀ b o,X.base.get? b=some o->s.heap.get? b=some o/\H b=none:=fun b o e =>
 ⟨I.base.keep b o (I.ok.bs b o e).1 (I.ok.bs b o e).2 (I.ok.nofr e) (I.ok.noex b o e),I.base.free b o (I.ok.bs b o e).1 (I.ok.bs b o e).2 (I.ok.noex b o e)⟩
theorem Inv.bk(I:Inv X pins σ H s):∀ b o,X.base.get? b=some o->s.heap.get? b=some o:=fun b o e=>(I.bs b o e).1
theorem Inv.mod(I:Inv X pins σ H s):Mod X.K X.mg X.base:=I.ok.mod
theorem Inv.kIn(I:Inv X pins σ H s):X.K.In s.heap:=I.ok.mod.kin.keeps I.bk
theorem Inv.nolimit(I:Inv X pins σ H s):s.heap.NoLimit:=I.ok.mod.nolimit.keeps I.bk
theorem Inv.fr(I:Inv X pins σ H s):∃ m,Fr X.base X.env.locals s.heap m :=
 let ⟨m,hn,_⟩:=I.loc
 ⟨m,hn,I.bk,Nat.le_trans I.ok.bsz I.ok.above⟩
theorem Inv.lt(I:Inv X pins σ H s):X.env.locals<s.heap.objs.size:=let ⟨_,hn,_⟩:=I.loc;hn.lt
theorem Inv.sz(I:Inv X pins σ H s):X.s₀.heap.objs.size<=s.heap.objs.size:=Nat.le_trans I.ok.above (Nat.le_of_lt I.lt)
theorem Inv.nofs(I:Inv X pins σ H s){a:Addr}(h:s.heap.objs.size<=a):a∉X.fs:=fun hb=>by
 obtain ⟨_,o,ho,_⟩:=I.ok.funs.mem hb
 exact absurd (Nat.lt_of_lt_of_le (Heap.lt_size ho) (Nat.le_trans I.sz h)) (Nat.lt_irrefl _)
theorem Inv.cne(I:Inv X pins σ H s):∀ x c,X.env.cells.lookup x=some c->c≠X.env.locals:=fun x c e z=>by
 obtain ⟨v,o,ho,hd⟩:=I.cell x c e
 obtain ⟨m,⟨o',es,ep,ho',hd',_⟩,_⟩:=I.loc
 rw[z,ho'] at ho;cases ho;rw[hd'] at hd;cases hd
theorem Inv.funs(I:Inv X pins σ H s):s.heap.FunFrames X.base X.outer:=by
 have all:∀(l:List Env),(∀ b∈frs l,b∈X.fs)->X.s₀.heap.FunFrames X.base l->s.heap.FunFrames X.base l:=by
  intro l
  induction l with
  |nil=>intro _ _;trivial
  |cons env r ih =>
   intro hs hl
   obtain ⟨hk,⟨L,o,hf,hn,ho,hd⟩,hr⟩:=hl
   have hL:L∈X.fs:=hs L (by unfold frs;rw[List.filterMap_cons,hf];exact List.mem_cons_self)
   obtain ⟨sl,e⟩:=I.base.slot L o ho (I.ok.frf L hL) hL fun z=>I.ok.exfs L z hL
   exact ⟨hk,⟨L,_,hf,hn,e,hd⟩,ih (fun b hb=>hs b (by unfold frs;rw[List.filterMap_cons,hf];exact List.mem_cons_of_mem _ hb)) hr⟩
 exact all X.outer (fun _ hb=>hb) I.ok.funs
theorem Inv.stack(I:Inv X pins σ H s):s.heap.FunFrames X.base X.stack:=by
 rcases I.ok.stk with e|⟨e,hf⟩
 ·rw[e];exact I.funs
 ·rw[e]
  obtain ⟨m,hn,_⟩:=I.loc
  refine .cons (by rw[I.ok.kind];decide) hf hn ?_ I.funs
  exact Heap.get?_none_of_le (Nat.le_trans I.ok.bsz I.ok.above)
theorem Inv.stkSub(I:Inv X pins σ H s):∀ b∈frs X.stack,b∈X.env.locals::X.fs:=fun b hb=>by
 rcases I.ok.stk with e|⟨e,hf⟩
 ·rw[e] at hb;exact List.mem_cons_of_mem _ hb
 ·rw[e] at hb
  unfold frs at hb
  rw[List.filterMap_cons,hf] at hb
  exact hb
theorem Inv.stkFree(I:Inv X pins σ H s):∀ b∈frs X.stack,H b=none:=fun b hb=>by
 rcases List.mem_cons.mp (I.stkSub b hb) with e|hb
 ·rw[e];exact I.free
 ·obtain ⟨_,o,ho,_⟩:=I.ok.funs.mem hb
  exact I.base.free b o ho (I.ok.frf b hb) fun z=>I.ok.exfs b z hb
theorem Inv.step{g':Array GenState}{t':Nat}{d':Drawn}{ch:List Addr}(I:Inv X pins σ H s)
  (hch:∀ b∈ch,(b∈X.ex\/X.s₀.heap.objs.size<=b)/\b≠X.env.locals/\(∀ x c,X.env.cells.lookup x=some c->c≠b)/\∀ p∈X.pn++pins,p.1≠b)
  (keep:∀ b o,b≠X.env.locals->b∉X.fs->b∉ch->s.heap.get? b=some o->H b=none->h'.get? b=some o)
  (slot:∀ b o,b≠X.env.locals->b∈X.fs->b∉ch->s.heap.get? b=some o->H b=none->∃ sl,h'.get? b=some { o with slots:=sl }) (free:∀ b o,b∉ch->s.heap.get? b=some o->H b=none->H' b=none)
  (there:∀ b o,b∉ch->s.heap.get? b=some o->∃ o',h'.get? b=some o')
  (tups:∀ b xs,H b=some (.tup xs)->H' b=some (.tup xs)) (frzs:∀ b o u,H b=some (.frz o u)->H' b=some (.frz o u)) (tbls:∀ b ps,H b=some (.tbl ps)->∃ more,H' b=some (.tbl (ps++more)))
  (ns:∀ m,s.heap.Ns X.env.locals m->h'.Ns X.env.locals m) (hok:HOk X.prog X.w H' h') (hg:AllBare g') :
  Inv X pins σ H' { s with heap:=h',gens:=g',drawn:=d',toks:=t' }:=by
 have neL:∀ b o,X.s₀.heap.get? b=some o->b≠X.env.locals:=fun b o e=>Nat.ne_of_lt (Nat.lt_of_lt_of_le (Heap.lt_size e) I.ok.above)
 have neC:∀ b o,X.s₀.heap.get? b=some o->b∉X.ex->b∉ch:=fun b o e hx hb=>by
  rcases (hch b hb).1 with z|z
  ·exact hx z
  ·exact absurd (Nat.lt_of_lt_of_le (Heap.lt_size e) z) (Nat.lt_irrefl _)
 have cellK:∀ x c,X.env.cells.lookup x=some c->∀ v,s.heap.IsCell c v->h'.IsCell c v:=fun x c e v ⟨o,ho,hd⟩=>by
  have nch:c∉ch:=fun z=>(hch c z).2.2.1 x c e rfl
  by_cases hc:c∈X.fs
  ·obtain ⟨sl,q⟩:=slot c o (I.cne x c e) hc nch ho (I.freeC x c e)
   exact ⟨_,q,hd⟩
  ·exact ⟨o,keep c o (I.cne x c e) hc nch ho (I.freeC x c e),hd⟩
 refine ⟨I.ok,I.os,hg,⟨fun b o e n hb hx=>?_,fun b o e n hb hx=>?_,fun b o e n hx=>?_,fun b o e hx=>?_,fun b xs e=>tups b xs (I.base.tups b xs e),fun b o xs e=>frzs b o xs (I.base.frzs b o xs e),fun b ps e=>?_⟩,?_,fun x c e=>?_,?_,fun x c e=>?_,fun p hp=>?_,hok,I.len⟩
 ·exact keep b o (neL b o e) hb (neC b o e hx) (I.base.keep b o e n hb hx) (I.base.free b o e n hx)
 ·obtain ⟨sl,e1⟩:=I.base.slot b o e n hb hx
  obtain ⟨sl',e2⟩:=slot b _ (neL b o e) hb (neC b o e hx) e1 (I.base.free b o e n hx)
  exact ⟨sl',e2⟩
 ·obtain ⟨o',e1⟩:=I.base.there b o e hx
  exact free b o' (neC b o e hx) e1 (I.base.free b o e n hx)
 ·obtain ⟨o',e1⟩:=I.base.there b o e hx
  exact there b o' (neC b o e hx) e1
 ·obtain ⟨m1,e1⟩:=I.base.tbls b ps e
  obtain ⟨m2,e2⟩:=tbls b _ e1
  exact ⟨m1++m2,by rw[e2,Array.append_assoc]⟩
 ·obtain ⟨m,hn,hl⟩:=I.loc
  refine ⟨m,ns m hn,fun i x v e1 e2 e3=>?_⟩
  obtain ⟨u,r,l⟩:=hl i x v e1 e2 e3
  refine ⟨u,r,?_⟩
  rcases l with l|⟨k,c,e,z⟩
  ·exact .inl l
  ·exact .inr ⟨k,c,e,cellK x c e _ z⟩
 ·obtain ⟨v,z⟩:=I.cell x c e
  exact ⟨v,cellK x c e v z⟩
 ·obtain ⟨m,⟨o,_,_,ho,_⟩,_⟩:=I.loc
  exact free _ o (fun z=>(hch _ z).2.1 rfl) ho I.free
 ·obtain ⟨v,o,ho,hd⟩:=I.cell x c e
  exact free c o (fun z=>(hch c z).2.2.1 x c e rfl) ho (I.freeC x c e)
 ·obtain ⟨e,n,ne,nf,d⟩:=I.pin p hp
  have nch:p.1∉ch:=fun z=>(hch p.1 z).2.2.2 p hp rfl
  exact ⟨keep p.1 p.2 ne nf nch e n,free p.1 p.2 nch e n,ne,nf,d⟩
theorem Inv.un{t':Nat}(I:Inv X pins σ H s)(u:Un X.fs [] H H' s.heap h')(hok:HOk X.prog X.w H' h'):Inv X pins σ H' { s with heap:=h',toks:=t' }:=by
 obtain ⟨m,⟨o,es,ep,ho,r⟩,_⟩:=id I.loc
 obtain ⟨sl,hL⟩:=u.any ho I.free (by simp)
 exact I.step (g':=s.gens) (d':=s.drawn) (ch:=[]) (fun _ z=>nomatch z) (fun b o _ hb _ e n=>u.keep b o e n hb (by simp)) (fun b o _ hb _ e n=>u.slot b o e n hb (by simp)) (fun b o _ e n=>u.free b o e n (by simp)) (fun b o _ e=>u.there b o e (by simp)) u.tups u.frzs u.tbls (fun m' hm=>by
  obtain ⟨o',es',ep',ho',r'⟩:=hm
  rw[ho] at ho';cases ho'
  exact ⟨_,es',ep',hL,r'⟩) hok I.bare
theorem Inv.call{g':Array GenState}{t':Nat}{d':Drawn}{ch:List Addr}(I:Inv X pins σ H s)(u:Un (frs X.stack) ch H H' s.heap h')(hok:HOk X.prog X.w H' h')(hg:AllBare g')
  (hch:∀ b∈ch,(b∈X.ex\/X.s₀.heap.objs.size<=b)/\b≠X.env.locals/\(∀ x c,X.env.cells.lookup x=some c->c≠b)/\∀ p∈X.pn++pins,p.1≠b) :
  Inv X pins σ H' { s with heap:=h',gens:=g',drawn:=d',toks:=t' }:=by
 obtain ⟨m,⟨o,es,ep,ho,r⟩,_⟩:=id I.loc
 obtain ⟨sl,hL⟩:=u.any ho I.free fun z=>(hch _ z).2.1 rfl
 exact I.step (ch:=ch) hch (fun b o hL hb hc e n=>u.keep b o e n (fun z=>(List.mem_cons.mp (I.stkSub b z)).elim hL hb) hc) (fun b o _ _ hc e n=>u.any e n hc) (fun b o hc e n=>u.free b o e n hc) (fun b o hc e=>u.there b o e hc) u.tups u.frzs u.tbls (fun m' hm=>by
  obtain ⟨o',es',ep',ho',r'⟩:=hm
  rw[ho] at ho';cases ho'
  exact ⟨_,es',ep',hL,r'⟩) hok hg
theorem Inv.turned{t':Nat}{it:Addr}(I:Inv X pins σ H s)(k:∀ b o,b≠it->s.heap.get? b=some o->h'.get? b=some o)(hn:H it=none)(hL:it≠X.env.locals)
  (h1:it∈X.ex\/X.s₀.heap.objs.size<=it) (h2:∀ x c,X.env.cells.lookup x=some c->c≠it) (h3:∀ p∈X.pn++pins,p.1≠it):Inv X pins σ H { s with heap:=h',toks:=t' }:=by
 have nit:∀ b u,H b=some u->b≠it:=fun b u e z=>by rw[z,hn] at e;cases e
 refine I.step (g':=s.gens) (d':=s.drawn) (ch:=[it]) (fun b hb=>?_) (fun b o _ _ hc e _=>k b o (fun z=>hc (by simp[z])) e) (fun b o _ _ hc e _=>⟨o.slots,k b o (fun z=>hc (by simp[z])) e⟩) (fun _ _ _ _ n=>n)
  (fun b o hc e=>⟨o,k b o (fun z=>hc (by simp[z])) e⟩) (fun _ _ e=>e) (fun _ _ _ e=>e) (fun b ps e=>⟨#[],by rw[e];simp⟩) (fun m hm=>?_) (fun b u e=>?_) I.bare
 ·have e:b=it:=by simpa using hb
  subst e
  exact ⟨h1,hL,h2,h3⟩
 ·obtain ⟨o,es,ep,ho,r⟩:=hm
  exact ⟨o,es,ep,k _ o (Ne.symm hL) ho,r⟩
 ·refine (I.hok b u e).stay (fun c v hc q=>k c v ?_ q) (fun _ q=>q) fun _ _ q=>q
  rcases hc with z|z
  ·rw[z];exact nit b u e
  ·exact nit c _ z
theorem Inv.tok(I:Inv X pins σ H s)(t:Nat):Inv X pins σ H { s with toks:=t }:=I.un (h':=s.heap) (t':=t) Un.refl I.hok
theorem Inv.kept{t':Nat}(I:Inv X pins σ H s)(k:∀ b u,s.heap.get? b=some u->h'.get? b=some u):Inv X pins σ H { s with heap:=h',toks:=t' }:=I.un (Un.kept k) (I.hok.kept k)
theorem Inv.laid{a:Addr}{o:HO}{t':Nat}(I:Inv X pins σ H s)(k:∀ b u,s.heap.get? b=some u->h'.get? b=some u)(hp:s.heap.objs.size<=a)(new:zct X.prog X.w (upd H a o) h' a o) :
  Inv X pins σ (upd H a o) { s with heap:=h',toks:=t' }:=I.un (Un.laid k hp (I.hok.fresh hp)) (I.hok.laid k hp new)
theorem Inv.write{x e:Addr}{o:HO}{t':Nat}(I:Inv X pins σ H s)(mu:Mut (H x))(he:e=x\/H e=some (.own x))(k:∀ b u,b≠e->s.heap.get? b=some u->h'.get? b=some u)(heo:∃ u,h'.get? e=some u)
  (new:zct X.prog X.w (upd H x o) h' x o):Inv X pins σ (upd H x o) { s with heap:=h',toks:=t' }:=I.un (Un.write mu he k heo) (I.hok.write mu he k heo new)
theorem Inv.weak{σ':List (Option V)}(I:Inv X pins σ H s)(hl:σ'.length = σ.length)(w:∀(i:Nat) v,σ'[i]? = some (some v)->σ[i]? = some (some v)):Inv X pins σ' H s :=
 ⟨I.ok,I.os,I.bare,I.base,let ⟨m,hn,hl'⟩:=I.loc;⟨m,hn,fun i x v e1 e2 e3=>hl' i x v e1 (w i v e2) e3⟩,I.cell,I.free,I.freeC,I.pin,I.hok,hl.trans I.len⟩
theorem Inv.pins_of{pins':List (Addr×Obj)}(I:Inv X pins σ H s)(h:∀ p∈pins',s.heap.get? p.1=some p.2/\H p.1=none/\p.1≠X.env.locals/\p.1∉X.fs/\∀ v,p.2.data≠.cell v):Inv X pins' σ H s :=
 ⟨I.ok,I.os,I.bare,I.base,I.loc,I.cell,I.free,I.freeC,fun p hp=>(List.mem_append.mp hp).elim (fun z=>I.pin p (List.mem_append_left _ z)) (h p),I.hok,I.len⟩
theorem ziJ{N:List Str}(hN:N.Nodup){i j:Nat}{x:Str}(a:N[i]? = some x)(b:N[j]? = some x):i=j:=by
 obtain ⟨h1,e1⟩:=List.getElem?_eq_some_iff.mp a
 obtain ⟨h2,e2⟩:=List.getElem?_eq_some_iff.mp b
 exact (List.getElem_inj hN).mp (e1.trans e2.symm)
theorem zhf{M:Model}{A:Around}{E:Value->Shared->Prop}{i:Nat}{x:Str}{v:V}{u:Value}{Q:Unit->Shared->Prop}(I:Inv X pins σ H s)(hN:X.N.Nodup)(hi:X.N[i]? = some x)(hx:Loc X.env.scope x)(r:zcx v u)
  (h:∀ s',Inv X pins (σ.set i (some v)) H s'->(∃ a,Heap.SameBut a s.heap s'.heap/\(a=X.env.locals\/X.env.cells.lookup x=some a))->Q () s') (hf:X.fn x=true\/X.env.scope.names.lookup x=some .local:=by first|exact .inl rfl|exact .inr rfl|assumption):wpAny M A (storeName X.env x u) Q E s:=by
 obtain ⟨m,hn,hl⟩:=id I.loc
 have hcls:(X.env.scope.kind == .class || (X.env.scope.kind == .module && X.env.locals != X.env.globals))=false:=by rw[I.ok.kind];rfl
 have hiσ:i < σ.length:=by rw[I.len];exact (List.getElem?_eq_some_iff.mp hi).1
 have cne:=I.cne
 have tracked:∀{a:Addr}{h':Heap},(∃ o,s.heap.get? a=some o/\H a=none)->Heap.SameBut a s.heap h'->HOk X.prog X.w H h':=fun {a h'} ha hs b ob e=>by
  obtain ⟨_,_,hfree⟩:=ha
  refine (I.hok b ob e).stay (fun c w' hc q=>(hs.2 c ?_).trans q) (fun _ q=>q) fun _ _ q=>q
  rintro rfl
  rcases hc with rfl|hc
  ·rw[hfree] at e;cases e
  ·rw[hfree] at hc;cases hc
 rcases hx with hk|hk
 ·refine wpAny_storeName_local hk hn (fun h' hn' hs=>?_) hcls
  obtain ⟨oL,_,_,hoL,_⟩:=id hn
  refine h _ ⟨I.ok,I.os,I.bare,⟨fun b o e n hb hx=>?_,fun b o e n hb hx=>?_,I.base.free,fun b o e hx=>?_,I.base.tups,I.base.frzs,I.base.tbls⟩,⟨_,hn',fun j y v' e1 e2 e3=>?_⟩,fun y c e=>?_,I.free,I.freeC,fun p hp=>?_,tracked ⟨oL,hoL,I.free⟩ hs,by simpa using I.len⟩ ⟨_,hs,.inl rfl⟩
  ·exact (hs.2 b (Nat.ne_of_lt (Nat.lt_of_lt_of_le (Heap.lt_size e) I.ok.above))).trans (I.base.keep b o e n hb hx)
  ·obtain ⟨sl,e1⟩:=I.base.slot b o e n hb hx
   exact ⟨sl,(hs.2 b (Nat.ne_of_lt (Nat.lt_of_lt_of_le (Heap.lt_size e) I.ok.above))).trans e1⟩
  ·obtain ⟨o',e1⟩:=I.base.there b o e hx
   exact ⟨o',(hs.2 b (Nat.ne_of_lt (Nat.lt_of_lt_of_le (Heap.lt_size e) I.ok.above))).trans e1⟩
  ·by_cases hj:j=i
   ·subst hj
    rw[hi] at e1;cases e1
    rw[List.getElem?_set_self hiσ] at e2
    cases e2
    exact ⟨u,r,.inl ⟨hk,by simp⟩⟩
   ·rw[List.getElem?_set_ne (Ne.symm hj)] at e2
    obtain ⟨u',r',q⟩:=hl j y v' e1 e2 e3
    refine ⟨u',r',?_⟩
    rcases q with ⟨k,e⟩|⟨k,c,e,z⟩
    ·refine .inl ⟨k,?_⟩
     have:y≠x:=fun e=>hj (ziJ hN e1 (e ▸ hi))
     simp[this,e]
    ·exact .inr ⟨k,c,e,z.sameBut hs (cne y c e)⟩
  ·obtain ⟨w',z⟩:=I.cell y c e
   exact ⟨w',z.sameBut hs (cne y c e)⟩
  ·obtain ⟨e,n,ne,nf,d⟩:=I.pin p hp
   exact ⟨(hs.2 p.1 ne).trans e,n,ne,nf,d⟩
 ·have hfn:X.fn x=true:=by
   rcases hf with z|z
   ·exact z
   ·rw[z] at hk;cases hk
  obtain ⟨c,hc⟩:=I.ok.has x (.inl hk)
  obtain ⟨w',z⟩:=I.cell x c hc
  refine wpAny_storeName_cell I.ok.kind hk hc z (fun h' hc' hs=>?_)
  obtain ⟨oc,hoc,hocd⟩:=id z
  refine h { s with heap:=h' } ⟨I.ok,I.os,I.bare,⟨fun b o e n hb hx=>?_,fun b o e n hb hx=>?_,I.base.free,fun b o e hx=>?_,I.base.tups,I.base.frzs,I.base.tbls⟩,⟨m,hn.sameBut hs (Ne.symm (cne x c hc)),fun j y v' e1 e2 e3=>?_⟩,fun y c' e=>?_,I.free,I.freeC,fun p hp=>?_,tracked ⟨oc,hoc,I.freeC x c hc⟩ hs,by simpa using I.len⟩ ⟨c,hs,.inr hc⟩
  ·exact (hs.2 b (Nat.ne_of_lt (Nat.lt_of_lt_of_le (Heap.lt_size e) (I.ok.cab x c hfn hc)))).trans (I.base.keep b o e n hb hx)
  ·obtain ⟨sl,e1⟩:=I.base.slot b o e n hb hx
   exact ⟨sl,(hs.2 b (Nat.ne_of_lt (Nat.lt_of_lt_of_le (Heap.lt_size e) (I.ok.cab x c hfn hc)))).trans e1⟩
  ·obtain ⟨o',e1⟩:=I.base.there b o e hx
   exact ⟨o',(hs.2 b (Nat.ne_of_lt (Nat.lt_of_lt_of_le (Heap.lt_size e) (I.ok.cab x c hfn hc)))).trans e1⟩
  ·by_cases hj:j=i
   ·subst hj
    rw[hi] at e1;cases e1
    rw[List.getElem?_set_self hiσ] at e2
    cases e2
    exact ⟨u,r,.inr ⟨.inl hk,c,hc,hc'⟩⟩
   ·rw[List.getElem?_set_ne (Ne.symm hj)] at e2
    obtain ⟨u',r',q⟩:=hl j y v' e1 e2 e3
    refine ⟨u',r',?_⟩
    rcases q with q|⟨k,c',e,z'⟩
    ·exact .inl q
    ·refine .inr ⟨k,c',e,z'.sameBut hs ?_⟩
     rintro rfl
     exact hj (ziJ hN e1 (I.ok.inj _ _ _ e hc ▸ hi))
  ·by_cases hcc:c'=c
   ·subst hcc;exact ⟨_,hc'⟩
   ·obtain ⟨w2,z2⟩:=I.cell y c' e
    exact ⟨w2,z2.sameBut hs hcc⟩
  ·obtain ⟨e,n,ne,nf,d⟩:=I.pin p hp
   refine ⟨(hs.2 p.1 ?_).trans e,n,ne,nf,d⟩
   intro q
   rw[q,hoc] at e
   have q':oc=p.2:=Option.some.inj e
   exact d w' (by rw[<- q'];exact hocd)
theorem ziI{M:Model}{A:Around}{E:Value->Shared->Prop}{i:Nat}{x:Str}{v:V}{u:Value}{Q:Unit->Shared->Prop}(I:Inv X pins σ H s)(hN:X.N.Nodup)(hi:X.N[i]? = some x)(hx:Loc X.env.scope x)(r:zcx v u)
  (h:∀ s',Inv X pins (σ.set i (some v)) H s'->Q () s') (hf:X.fn x=true\/X.env.scope.names.lookup x=some .local:=by first|exact .inl rfl|exact .inr rfl|assumption):wpAny M A (storeName X.env x u) Q E s :=
 zhf I hN hi hx r (fun s' I' _=>h s' I') hf
theorem Inv.call'{s':Shared}{ch:List Addr}(I:Inv X pins σ H s)(ho:s'.os=s.os)(u:Un (frs X.stack) ch H H' s.heap s'.heap)(hok:HOk X.prog X.w H' s'.heap)(hg:AllBare s'.gens)
  (hch:∀ b∈ch,(b∈X.ex\/X.s₀.heap.objs.size<=b)/\b≠X.env.locals/\(∀ x c,X.env.cells.lookup x=some c->c≠b)/\∀ p∈X.pn++pins,p.1≠b):Inv X pins σ H' s':=by
 obtain ⟨h',g',d',t',o'⟩:=s'
 have e:o'=s.os:=ho
 subst e
 exact I.call (g':=g') (t':=t') (d':=d') u hok hg hch
end
abbrev XK:=Value->Option Addr->Hp->Prop
abbrev St:=List (Option V)
abbrev VK:=V->Hp->Prop
abbrev TE:=St->Hp->VK->Prop
abbrev TT:=St->Hp->(Bool->Hp->Prop)->Prop
abbrev TA:=St->Hp->(List V->Hp->Prop)->Prop
structure zrk where
 nx:St->Hp->Prop
 rt:VK
 bk:St->Hp->Prop:=fun _ _=>False
 ct:St->Hp->Prop:=fun _ _=>False
abbrev TS:=zrk->St->Hp->Prop
def EP(X:Cx)(pins:List (Addr×Obj))(σ:St)(Q:VK)(u:Value)(s':Shared):Prop:=∃ v H',Inv X pins σ H' s'/\zcx v u/\Q v H'
def TP(X:Cx)(pins:List (Addr×Obj))(σ:St)(Q:Bool->Hp->Prop)(b:Bool)(s':Shared):Prop:=∃ H',Inv X pins σ H' s'/\Q b H'
def AP(X:Cx)(pins:List (Addr×Obj))(σ:St)(Q:List V->Hp->Prop)(us:List Value)(s':Shared):Prop:=∃ vs H',Inv X pins σ H' s'/\zbp vs us/\Q vs H'
def SP(X:Cx)(pins:List (Addr×Obj))(D:zrk)(f:Flow)(s':Shared):Prop :=
 match f with
 |.next=>∃ σ' H',Inv X pins σ' H' s'/\D.nx σ' H'
 |.brk=>∃ σ' H',Inv X pins σ' H' s'/\D.bk σ' H'
 |.cont=>∃ σ' H',Inv X pins σ' H' s'/\D.ct σ' H'
 |.ret u=>∃ v σ' H',Inv X pins σ' H' s'/\zcx v u/\D.rt v H'
def PE(X:Cx)(e:Expr)(t:TE):Prop :=
 ∀(pins:List (Addr×Obj))(s:Shared)(σ:St)(H:Hp)(Q:VK),Inv X pins σ H s->t σ H Q->wpAny (model X.prog X.w) X.A (eval e X.env) (EP X pins σ Q) X.xe s
def PT(X:Cx)(e:Expr)(t:TT):Prop :=
 ∀(pins:List (Addr×Obj))(s:Shared)(σ:St)(H:Hp)(Q:Bool->Hp->Prop),Inv X pins σ H s->t σ H Q->wpAny (model X.prog X.w) X.A (isTrue e X.env (eval e X.env)) (TP X pins σ Q) X.xe s
def PW(X:Cx)(e:Expr)(t:TT):Prop :=
 ∀(whole:Sem Value)(pins:List (Addr×Obj))(s:Shared)(σ:St)(H:Hp)(Q:Bool->Hp->Prop),Inv X pins σ H s->t σ H Q->wpAny (model X.prog X.w) X.A (isTrue e X.env whole) (TP X pins σ Q) X.xe s
theorem PW.pt{X:Cx}{e:Expr}{t:TT}(h:PW X e t):PT X e t:=h _
def PA(X:Cx)(es:List Expr)(t:TA):Prop :=
 ∀(pos:Pos)(pins:List (Addr×Obj))(s:Shared)(σ:St)(H:Hp)(Q:List V->Hp->Prop),Inv X pins σ H s->t σ H Q->wpAny (model X.prog X.w) X.A (spliced (backTo pos (starEach es X.env))) (AP X pins σ Q) X.xe s
def PS(X:Cx)(st:Stmt)(t:TS):Prop :=
 ∀(pins:List (Addr×Obj))(s:Shared)(σ:St)(H:Hp)(D:zrk),Inv X pins σ H s->t D σ H->wpAny (model X.prog X.w) X.A (exec st X.env) (SP X pins D) X.xe s
def PSs(X:Cx)(st:List Stmt)(t:TS):Prop :=
 ∀(pins:List (Addr×Obj))(s:Shared)(σ:St)(H:Hp)(D:zrk),Inv X pins σ H s->t D σ H->wpAny (model X.prog X.w) X.A (execs st X.env) (SP X pins D) X.xe s
theorem thn{α:Type}{t:Sem α}{Q Q':α->Shared->Prop}{M:Model}{A:Around}{E:Value->Shared->Prop}{s:Shared}(h:wpAny M A t Q E s)(hQ:∀ a s,Q a s->Q' a s):wpAny M A t Q' E s:=wpAny_mono h hQ fun _ _ x=>x
end L2
namespace L2
open PySem PySem.Spec PyProof.Rows
section
variable{X:Cx}
def tVar(i:Nat):TE:=fun σ H Q=>∃ v,σ[i]? = some (some v)/\Q v H
def tC(v:V):TE:=fun _ H Q=>Q v H
theorem zce{i:Nat}{x:Str}{pos:Pos}(hN:X.N[i]? = some x)(hv:Vis X.env.scope x)(hd:(x == ("__debug__" : Str))=false:=by decide)(hcd:(x == ("__classdict__" : Str))=false:=by decide):PE X (.Name x pos) (tVar i):=by
 intro pins s σ H Q I h
 obtain ⟨v,e,h⟩:=h
 obtain ⟨m,hn,hl⟩:=I.loc
 obtain ⟨u,r,l⟩:=hl i x v hN e hv
 have fin:EP X pins σ Q u s:=⟨v,H,I,r,h⟩
 rcases l with ⟨hk,hm⟩|⟨hk,c,hc,hcell⟩
 ·exact wpAny_Name (wpAny_loadName_local I.ok.kind hk hn hm fin) hd
 ·rcases hk with hk|hk
  ·exact wpAny_Name (wpAny_loadName_cell I.ok.kind hk hc hcell fin) hd
  ·exact wpAny_Name (wpAny_loadName_free I.ok.kind hk hc hcell fin hcd) hd
theorem zqZ{i j pos}:PE X (.Constant (.int i) j pos) (tC (.int i)):=fun _ _ _ H _ I h=>wpAny_Constant_int ⟨.int i,H,I.tok _,⟨_,rfl⟩,h⟩
theorem zvc{b j pos}:PE X (.Constant (.bool b) j pos) (tC (.bl b)):=fun _ _ _ H _ I h=>Constant_bool ⟨.bl b,H,I,rfl,h⟩
theorem ztJ{j pos}:PE X (.Constant .none j pos) (tC .non):=fun _ _ _ H _ I h=>Constant_none ⟨.non,H,I,rfl,h⟩
theorem zuo{x j pos}:PE X (.Constant (.str x) j pos) (tC (.str x)):=fun _ _ _ H _ I h=>Calls.Constant_str ⟨.str x,H,I.tok _,⟨_,rfl⟩,h⟩
def Gl(X:Cx)(x:Str):Prop:=X.env.kindOf x=some .globalImplicit
theorem zgb{E:Value->Shared->Prop}{pins:List (Addr×Obj)}{s:Shared}{σ:St}{H:Hp}{x:Str}{u:Value}{pos:Pos}{Q:Value->Shared->Prop}(I:Inv X pins σ H s)(hg:Gl X x)(hm:X.mg x=some u)(h:Q u s)
  (hd:(x == ("__debug__" : Str))=false:=by decide):wpAny (model X.prog X.w) X.A (eval (.Name x pos) X.env) Q E s :=
 Calls.Name_function_global I.ok.kind hg (Calls.loadGlobal_global (by rw[I.ok.glob];exact I.mod.glob.keeps I.bk) hm h) hd
theorem zfj{E:Value->Shared->Prop}{pins:List (Addr×Obj)}{s:Shared}{σ:St}{H:Hp}{x:Str}{u:Value}{pos:Pos}{Q:Value->Shared->Prop}(I:Inv X pins σ H s)(hg:Gl X x)(hm:X.mg x=none)(hv:bootBuiltins x=some u)(h:Q u s)
  (hn:x≠"__name__":=by decide) (hd:(x == ("__debug__" : Str))=false:=by decide):wpAny (model X.prog X.w) X.A (eval (.Name x pos) X.env) Q E s:=by
 obtain ⟨mb,h1,h2⟩:=I.mod.blt
 exact Calls.Name_function_global I.ok.kind hg (Calls.loadGlobal_builtin (by rw[I.ok.glob];exact I.mod.glob.keeps I.bk) hm (by rw[I.ok.blt];exact h1.keeps I.bk) ((h2 x hn).trans hv) h) hd
theorem zlt{x:Str}{v:V}{u:Value}{pos:Pos}(hg:Gl X x)(hm:X.mg x=some u)(r:zcx v u)(hd:(x == ("__debug__" : Str))=false:=by decide):PE X (.Name x pos) (tC v) :=
 fun _ _ _ H _ I h=>zgb I hg hm ⟨v,H,I,r,h⟩ hd
theorem zj4{x:Str}{v:V}{u:Value}{pos:Pos}(hg:Gl X x)(hm:X.mg x=none)(hv:bootBuiltins x=some u)(r:zcx v u)(hn:x≠"__name__":=by decide)(hd:(x == ("__debug__" : Str))=false:=by decide):PE X (.Name x pos) (tC v) :=
 fun _ _ _ H _ I h=>zfj I hg hm hv ⟨v,H,I,r,h⟩ hn hd
variable{a b:Expr}{ta tb:TE}{pos:Pos}
def tB(t:TE):TT:=fun σ H Q=>t σ H fun x H1=>∃ c,x=.bl c/\Q c H1
theorem zub{e:Expr}{t:TE}(h:PE X e t)(he:∀ whole,isTrue e X.env whole=(do let v <- whole;standAt e.pos;holding [v] (truthy v)):=by intro _;rfl):PT X e (tB t):=by
 intro pins s σ H Q I hw
 refine isTrue_plain (thn (h pins s σ H _ I hw) fun v s1 ⟨x,H1,I1,r1,q1⟩=>?_) (he _)
 obtain ⟨d,rfl,q⟩:=q1
 cases r1
 exact wpAny_truthy_bool ⟨H1,I1,q⟩
variable{tA tB':TT}{zcc:List Expr}
def tAnd(t u:TT):TT:=fun σ H Q=>t σ H fun c H1=>if c=true then u σ H1 Q else Q false H1
def tOr(t u:TT):TT:=fun σ H Q=>t σ H fun c H1=>if c=true then Q true H1 else u σ H1 Q
def tNot(t:TT):TT:=fun σ H Q=>t σ H fun c H1=>Q (!c) H1
theorem zsu(ha:PT X a tA):PW X (.BoolOp .And [a] pos) tA:=by
 intro wh pins s σ H Q I h
 refine isTrue_and (thn (ha pins s σ H Q I h) fun c s1 e=>?_)
 cases c with
 |true=>exact isTrue_and_nil e
 |false=>exact e
theorem zuc(ha:PT X a tA):PW X (.BoolOp .Or [a] pos) tA:=by
 intro wh pins s σ H Q I h
 refine isTrue_or (thn (ha pins s σ H Q I h) fun c s1 e=>?_)
 cases c with
 |false=>exact isTrue_or_nil e
 |true=>exact e
theorem zu3(ha:PT X a tA)(hb:PW X (.BoolOp .And (b::zcc) pos) tB'):PW X (.BoolOp .And (a::b::zcc) pos) (tAnd tA tB'):=by
 intro wh pins s σ H Q I h
 refine isTrue_and (thn (ha pins s σ H _ I h) fun c s1 ⟨H1,I1,q1⟩=>?_)
 cases c with
 |true=>exact hb wh pins s1 σ H1 Q I1 q1
 |false=>exact ⟨H1,I1,q1⟩
theorem zuS(ha:PT X a tA)(hb:PW X (.BoolOp .Or (b::zcc) pos) tB'):PW X (.BoolOp .Or (a::b::zcc) pos) (tOr tA tB'):=by
 intro wh pins s σ H Q I h
 refine isTrue_or (thn (ha pins s σ H _ I h) fun c s1 ⟨H1,I1,q1⟩=>?_)
 cases c with
 |true=>exact ⟨H1,I1,q1⟩
 |false=>exact hb wh pins s1 σ H1 Q I1 q1
theorem zuH(ha:PT X a tA):PT X (.UnaryOp .Not a pos) (tNot tA):=by
 intro pins s σ H Q I h
 exact isTrue_not (ha pins s σ H (fun c H1=>Q (!c) H1) I h)
def zve(ta tb:TE):TE:=fun σ H Q=>ta σ H fun x H1=>∃ c,x=.bl c/\if c=true then tb σ H1 Q else Q (.bl false) H1
def zvb(ta:TE):TE:=fun σ H Q=>ta σ H fun x H1=>∃ c,x=.bl c/\Q (.bl (!c)) H1
theorem ztF{op}{t:TE}(h:PE X a t):PE X (.BoolOp op [a] pos) t:=fun pins s σ H Q I hw=>BoolOp_one (h pins s σ H Q I hw)
theorem ztO(ha:PE X a ta)(hb:PE X (.BoolOp .And (b::zcc) pos) tb):PE X (.BoolOp .And (a::b::zcc) pos) (zve ta tb):=by
 intro pins s σ H Q I h
 refine BoolOp_and (thn (ha pins s σ H _ I h) fun v s1 ⟨x,H1,I1,r1,q1⟩=>?_)
 obtain ⟨c,rfl,q1⟩:=q1
 cases r1
 refine wpAny_truthy_bool ?_
 cases c with
 |true=>exact hb pins s1 σ H1 Q I1 q1
 |false=>exact ⟨.bl false,H1,I1,rfl,q1⟩
theorem ztA(ha:PE X a ta):PE X (.UnaryOp .Not a pos) (zvb ta):=by
 intro pins s σ H Q I h
 refine UnaryOp_ (thn (ha pins s σ H _ I h) fun v s1 ⟨x,H1,I1,r1,q1⟩=>?_)
 obtain ⟨c,rfl,q1⟩:=q1
 cases r1
 exact not_of (wpAny_truthy_bool ⟨.bl (!c),H1,I1,rfl,q1⟩)
def tIf(t:TT)(ta tb:TE):TE:=fun σ H Q=>t σ H fun c H1=>if c=true then ta σ H1 Q else tb σ H1 Q
theorem zqS{c:Expr}(hc:PT X c tA)(ha:PE X a ta)(hb:PE X b tb):PE X (.IfExp c a b pos) (tIf tA ta tb):=by
 intro pins s σ H Q I h
 refine wpAny_IfExp (thn (hc pins s σ H _ I h) fun d s1 ⟨H1,I1,q1⟩=>?_)
 cases d with
 |true=>exact ha pins s1 σ H1 Q I1 q1
 |false=>exact hb pins s1 σ H1 Q I1 q1
end
end L2
namespace L2
open PySem PySem.Spec PyProof.Rows
def SqL(K:W.Frag)(H:Hp)(a:Addr)(xs:List V):Prop :=
 Rd H a (.lst xs) \/
  ∃(o:Obj)(its:Array Value)(n:Nat),K.lookup a=some o/\o.cls=.type "list"/\o.dict=none/\o.data=.seq its n/\its.size<=sizeLine/\zbp xs its.toList
def SqT(K:W.Frag)(H:Hp)(a:Addr)(xs:List V):Prop :=
 Rd H a (.tup xs) \/
  ∃(o:Obj)(its:Array Value)(n:Nat),K.lookup a=some o/\o.cls=.type "tuple"/\o.data=.seq its n/\its.size<=sizeLine/\zbp xs its.toList
def absV:Value->Option V
 |.none=>some .non
 |.bool b=>some (.bl b)
 |.int i _=>some (.int i)
 |.str x _=>some (.str x)
 |.bytes b _=>some (.byt b)
 |.float b _=>some (.flt b)
 |.ref a=>some (.ref a)
 |.type n=>some (.ty n)
 |_=>none
theorem zcx.abs{x:V}{u:Value}(r:zcx x u):absV u=some x:=by
 cases x with
 |non=>cases r;rfl
 |bl _=>cases r;rfl
 |int _=>obtain ⟨t,rfl⟩:=r;rfl
 |str _=>obtain ⟨t,rfl⟩:=r;rfl
 |byt _=>obtain ⟨t,rfl⟩:=r;rfl
 |flt _=>obtain ⟨t,rfl⟩:=r;rfl
 |ref _=>cases r;rfl
 |ty _=>cases r;rfl
theorem zcx.inj{x y:V}{u:Value}(r:zcx x u)(q:zcx y u):x=y:=Option.some.inj (r.abs.symm.trans q.abs)
theorem zbp.inj:∀{xs ys:List V}{us:List Value},zbp xs us->zbp ys us->xs=ys
 |_,_,_,.nil,.nil=>rfl
 |_,_,_,.cons r t,.cons r' t'=>by rw[r.inj r',zbp.inj t t']
section
variable{X:Cx}{pins:List (Addr×Obj)}{σ:St}{H:Hp}{s:Shared}{a:Addr}{xs ys:List V}
theorem SqL.of{K:W.Frag}(h:H a=some (.lst xs)):SqL K H a xs:=.inl (.inl h)
theorem SqT.of{K:W.Frag}(h:H a=some (.tup xs)):SqT K H a xs:=.inl (.inl h)
theorem Inv.list(I:Inv X pins σ H s)(h:SqL X.K H a xs):∃ its:List Value,zbp xs its/\PlainL s.heap a its.toArray/\xs.length<=sizeLine:=by
 rcases h with h|⟨o,its,n,hk,hc,hd,hs,hz,r⟩
 ·obtain ⟨z,its,n,r,e⟩:=h.ok I.hok
  exact ⟨its,r,⟨_,n,e,rfl,rfl,rfl⟩,z⟩
 ·refine ⟨its.toList,r,⟨o,n,I.kIn a o hk,hc,hd,by simpa using hs⟩,?_⟩
  have e:=r.length
  simp only[Array.length_toList] at e
  omega
theorem Inv.tuple(I:Inv X pins σ H s)(h:SqT X.K H a xs):∃ its:List Value,zbp xs its/\IsTup s.heap a its.toArray/\xs.length<=sizeLine:=by
 rcases h with h|⟨o,its,n,hk,hc,hs,hz,r⟩
 ·obtain ⟨z,its,r,n,e⟩:=h.ok I.hok
  exact ⟨its,r,⟨_,e,rfl,n,rfl⟩,z⟩
 ·refine ⟨its.toList,r,⟨o,I.kIn a o hk,hc,n,by simpa using hs⟩,?_⟩
  have e:=r.length
  simp only[Array.length_toList] at e
  omega
theorem Inv.list_inj(I:Inv X pins σ H s)(h:SqL X.K H a xs)(h':SqL X.K H a ys):xs=ys:=by
 obtain ⟨its,r,⟨o,n,e,_,_,d⟩,_⟩:=I.list h
 obtain ⟨its',r',⟨o',n',e',_,_,d'⟩,_⟩:=I.list h'
 rw[e] at e';cases e'
 rw[d] at d'
 injection d' with d1 _
 have:its=its':=by simpa using congrArg Array.toList d1
 subst this
 exact r.inj r'
theorem Inv.tuple_inj(I:Inv X pins σ H s)(h:SqT X.K H a xs)(h':SqT X.K H a ys):xs=ys:=by
 obtain ⟨its,r,⟨o,e,_,n,d⟩,_⟩:=I.tuple h
 obtain ⟨its',r',⟨o',e',_,n',d'⟩,_⟩:=I.tuple h'
 rw[e] at e';cases e'
 rw[d] at d'
 injection d' with d1 _
 have:its=its':=by simpa using congrArg Array.toList d1
 subst this
 exact r.inj r'
end
abbrev Cx.wish(X:Cx)(E:Value->Shared->Prop):Cx:={ X with xe:=E }
abbrev Cx.nox(X:Cx):Cx:=X.wish fun _ _=>False
theorem Cx.Ok.wish{X:Cx}(ok:X.Ok)(E:Value->Shared->Prop):(X.wish E).Ok :=
 ⟨ok.mod,ok.kind,ok.glob,ok.blt,ok.above,ok.inj,ok.has,ok.cab,ok.hd,ok.frames,ok.stk,ok.exf,ok.bs,ok.bsz,ok.noex,ok.exfs,ok.funs,ok.frf⟩
theorem Cx.Ok.unwish{X:Cx}{E:Value->Shared->Prop}(ok:(X.wish E).Ok):X.Ok :=
 ⟨ok.mod,ok.kind,ok.glob,ok.blt,ok.above,ok.inj,ok.has,ok.cab,ok.hd,ok.frames,ok.stk,ok.exf,ok.bs,ok.bsz,ok.noex,ok.exfs,ok.funs,ok.frf⟩
section
variable{X:Cx}{pins:List (Addr×Obj)}{σ:St}{H:Hp}{s:Shared}{E:Value->Shared->Prop}
theorem Inv.wish(I:Inv X pins σ H s)(E:Value->Shared->Prop):Inv (X.wish E) pins σ H s:=⟨I.ok.wish E,I.os,I.bare,I.base,I.loc,I.cell,I.free,I.freeC,I.pin,I.hok,I.len⟩
theorem Inv.unwish(I:Inv (X.wish E) pins σ H s):Inv X pins σ H s:=⟨I.ok.unwish,I.os,I.bare,I.base,I.loc,I.cell,I.free,I.freeC,I.pin,I.hok,I.len⟩
theorem SP.unwish{D:zrk}{f:Flow}{s':Shared}(h:SP (X.wish E) pins D f s'):SP X pins D f s':=by
 cases f with
 |next=>obtain ⟨σ',H',I,q⟩:=h;exact ⟨σ',H',I.unwish,q⟩
 |brk=>obtain ⟨σ',H',I,q⟩:=h;exact ⟨σ',H',I.unwish,q⟩
 |cont=>obtain ⟨σ',H',I,q⟩:=h;exact ⟨σ',H',I.unwish,q⟩
 |ret u=>obtain ⟨v,σ',H',I,r,q⟩:=h;exact ⟨v,σ',H',I.unwish,r,q⟩
theorem PE.nox{e:Expr}{t:TE}(h:PE X.nox e t):PE X e t:=fun pins s σ H Q I hw =>
 wpAny_mono (h pins s σ H Q (I.wish _) hw) (fun _ _ ⟨v,H',I',r,q⟩=>⟨v,H',I'.unwish,r,q⟩) fun _ _ z=>False.elim z
theorem PT.nox{e:Expr}{t:TT}(h:PT X.nox e t):PT X e t:=fun pins s σ H Q I hw =>
 wpAny_mono (h pins s σ H Q (I.wish _) hw) (fun _ _ ⟨H',I',q⟩=>⟨H',I'.unwish,q⟩) fun _ _ z=>False.elim z
theorem PSs.nox{st:List Stmt}{t:TS}(h:PSs X.nox st t):PSs X st t:=fun pins s σ H D I hw =>
 wpAny_mono (h pins s σ H D (I.wish _) hw) (fun _ _ q=>q.unwish) fun _ _ z=>False.elim z
end
section
variable{X:Cx}{st:Stmt}{zcc:List Stmt}{t u:TS}{e:Expr}{te:TE}{pos:Pos}
def zvq:TS:=fun D σ H=>D.nx σ H
def tSeq(t u:TS):TS:=fun D σ H=>t { D with nx:=u D } σ H
theorem ztb:PSs X [] zvq:=fun _ _ σ H _ I h=>wpAny_execs_nil ⟨σ,H,I,h⟩
theorem zdd(h1:PS X st t)(h2:PSs X zcc u):PSs X (st::zcc) (tSeq t u):=by
 intro pins s σ H D I h
 refine wpAny_execs_cons (thn (h1 pins s σ H { D with nx:=u D } I h) fun f s1 q=>?_)
 cases f with
 |next =>
  obtain ⟨σ',H',I',q⟩:=q
  exact h2 pins s1 σ' H' D I' q
 |ret v=>exact q
 |brk=>exact q
 |cont=>exact q
theorem zoB(h1:PS X st t):PSs X [st] t:=by
 intro pins s σ H D I h
 refine wpAny_execs_cons (thn (h1 pins s σ H D I h) fun f s1 q=>?_)
 cases f with
 |next=>exact wpAny_execs_nil q
 |ret v=>exact q
 |brk=>exact q
 |cont=>exact q
theorem Inv.quiet{pins:List (Addr×Obj)}{σ:St}{H:Hp}{s:Shared}(I:Inv X pins σ H s):interactive X.env=false:=by simp[interactive,I.ok.kind]
def ztm(te:TE):TS:=fun D σ H=>te σ H fun _ H1=>D.nx σ H1
theorem znY(he:PE X e te)(hs:swapsWith e none pos.line X.env=pure false:=by rfl):PS X (.Expr e pos) (ztm te):=by
 intro pins s σ H D I h
 exact wpAny_Expr_any (thn (he pins s σ H _ I h) fun v s1 ⟨x,H1,I1,r1,q1⟩=>⟨σ,H1,I1,q1⟩) I.quiet hs
def tRet(te:TE):TS:=fun D σ H=>te σ H D.rt
theorem zrt(he:PE X e te):PS X (.Return (some e) pos) (tRet te):=by
 intro pins s σ H D I h
 exact wpAny_Return_some (thn (he pins s σ H _ I h) fun v s1 ⟨x,H1,I1,r1,q1⟩=>⟨x,σ,H1,I1,r1,q1⟩)
def tIfS(c:TT)(t u:TS):TS:=fun D σ H=>c σ H fun b H1=>if b=true then t D σ H1 else u D σ H1
theorem zvj{c:Expr}{a b:List Stmt}{tc:TT}(hc:PT X c tc)(ha:PSs X a t)(hb:PSs X b u):PS X (.If c a b pos) (tIfS tc t u):=by
 intro pins s σ H D I h
 refine wpAny_If (thn (hc pins s σ H _ I h) fun d s1 ⟨H1,I1,q1⟩=>?_)
 cases d with
 |true=>exact ha pins s1 σ H1 D I1 q1
 |false=>exact hb pins s1 σ H1 D I1 q1
end
abbrev TG:=V->St->Hp->(St->Hp->Prop)->Prop
abbrev TGs:=List V->St->Hp->(St->Hp->Prop)->Prop
def PG(X:Cx)(target:Expr)(t:TG):Prop :=
 ∀(pins:List (Addr×Obj))(s:Shared)(σ:St)(H:Hp)(v:V)(u:Value)(Q:St->Hp->Prop),Inv X pins σ H s->zcx v u->t v σ H Q ->
  wpAny (model X.prog X.w) X.A (assign target X.env u) (fun _ s'=>∃ σ' H',Inv X pins σ' H' s'/\Q σ' H') X.xe s
def PGs(X:Cx)(ts:List Expr)(t:TGs):Prop :=
 ∀(pins:List (Addr×Obj))(s:Shared)(σ:St)(H:Hp)(vs:List V)(us:List Value)(Q:St->Hp->Prop),Inv X pins σ H s->zbp vs us->t vs σ H Q ->
  wpAny (model X.prog X.w) X.A (assignInOrder ((assignEach ts X.env).map (·.2)) us) (fun _ s'=>∃ σ' H',Inv X pins σ' H' s'/\Q σ' H') X.xe s
abbrev zuR:=V->V->V->Hp->(Hp->Prop)->Prop
def PSet(X:Cx)(t:zuR):Prop :=
 ∀(pins:List (Addr×Obj))(s:Shared)(σ:St)(H:Hp)(o i v:V)(ov iv u:Value)(Q:Hp->Prop),Inv X pins σ H s->zcx o ov->zcx i iv->zcx v u->t o i v H Q ->
  wpAny (model X.prog X.w) X.A (setItem ov iv u) (fun _ s'=>∃ H',Inv X pins σ H' s'/\Q H') X.xe s
section
variable{X:Cx}{pos:Pos}
def zr7(i:Nat):TG:=fun v σ H Q=>Q (σ.set i (some v)) H
theorem zjH{i:Nat}{x:Str}(hN:X.N.Nodup)(hi:X.N[i]? = some x)(hx:Loc X.env.scope x)(hf:X.fn x=true\/X.env.scope.names.lookup x=some .local:=by first|exact .inl rfl|exact .inr rfl|assumption):PG X (.Name x pos) (zr7 i):=by
 intro pins s σ H v u Q I r h
 exact wpAny_assign_Name (ziI I hN hi hx r (fun s' I'=>⟨_,H,I',h⟩) hf)
def gNil:TGs:=fun vs σ H Q=>vs=[]/\Q σ H
def zvu(t:TG)(u:TGs):TGs:=fun vs σ H Q=>∃ v r,vs=v::r/\t v σ H fun σ' H'=>u r σ' H' Q
theorem zrC:PGs X [] gNil:=by
 intro pins s σ H vs us Q I r h
 obtain ⟨e,h⟩:=h
 subst e
 cases r
 exact assignInOrder_nil ⟨σ,H,I,h⟩
theorem zlT{e:Expr}{es:List Expr}{t:TG}{u:TGs}(h1:PG X e t)(h2:PGs X es u)
  (hs:(assignEach (e::es) X.env).map (·.2)=assign e X.env::(assignEach es X.env).map (·.2):=by rfl):PGs X (e::es) (zvu t u):=by
 intro pins s σ H vs us Q I r h
 obtain ⟨v,vr,e1,h⟩:=h
 subst e1
 cases r with
 |cons r rr =>
  rw[hs]
  refine assignInOrder_cons (thn (h1 pins s σ H _ _ _ I r h) fun _ s1 ⟨σ1,H1,I1,q1⟩=>?_)
  exact h2 pins s1 σ1 H1 _ _ Q I1 rr q1
def gTup(K:W.Frag)(n:Nat)(t:TGs):TG:=fun v σ H Q=>∃ a xs,v=.ref a/\SqT K H a xs/\xs.length=n/\t xs σ H Q
theorem ztI{es:List Expr}{k:Nat}{t:TGs}{n:Nat}(hc:X.calm=true)(h:PGs X es t)
  (hn:(assignEach es X.env).length=n:=by rfl) (hst:(assignEach es X.env).findIdx? (·.1)=none:=by rfl):PG X (.Tuple es k pos) (gTup X.K n t):=by
 intro pins s σ H v u Q I r hw
 obtain ⟨a,xs,e1,hq,hl,hw⟩:=hw
 subst e1
 cases r
 obtain ⟨its,rv,ht,hz⟩:=I.tuple hq
 refine assign_Tuple_tuple (I.ok.hd hc) ht (by simp[hn,<- hl,rv.length]) hst fun h' hx=>?_
 have I1:Inv X pins σ H { s with heap:=h' }:=I.kept (t':=s.toks) fun b o e=>hx b o (Nat.ne_of_lt (Heap.lt_size e)) e
 exact h pins _ σ H xs _ Q I1 (by simpa using rv) hw
def zdc(to ti:TE)(t:zuR):TG:=fun v σ H Q=>to σ H fun o H1=>ti σ H1 fun i H2=>t o i v H2 fun H3=>Q σ H3
theorem zua{o i:Expr}{to ti:TE}{t:zuR}(ho:PE X o to)(hi:PE X i ti)(hs:PSet X t)
  (ha:∀ v,assign (.Subscript o i pos) X.env v=(do
   let ov <- holding [v] (eval o X.env)
   let iv <- holding [v,ov] (eval i X.env)
   standAt pos
   holding [v,ov,iv] (setItem ov iv v)
   release [v,ov,iv] []):=by intro _;rfl):PG X (.Subscript o i pos) (zdc to ti t):=by
 intro pins s σ H v u Q I r h
 rw[ha]
 refine wpAny_bind (wpAny_holding (thn (ho pins s σ H _ I h) fun ov s1 ⟨x,H1,I1,r1,q1⟩=>?_))
 refine wpAny_bind (wpAny_holding (thn (hi pins s1 σ H1 _ I1 q1) fun iv s2 ⟨y,H2,I2,r2,q2⟩=>?_))
 refine wpAny_bind (wpAny_standAt (wpAny_bind (wpAny_holding (thn (hs pins s2 σ H2 x y v ov iv u _ I2 r1 r2 r q2) fun _ s3 ⟨H3,I3,q3⟩=>?_))))
 exact wpAny_release ⟨σ,H3,I3,q3⟩
def zvl(te:TE)(g:TG):TS:=fun D σ H=>te σ H fun x H1=>g x σ H1 D.nx
theorem zqW{tg e:Expr}{te:TE}{g:TG}(he:PE X e te)(hg:PG X tg g)(hs:swapsWithSole [tg] e pos.line X.env=pure false:=by rfl)(hw:swappedStores [tg] e X.env=pure none:=by rfl)
  (h1:(assignEach [tg] X.env).map (·.2)=[assign tg X.env]:=by rfl):PS X (.Assign [tg] e pos) (zvl te g):=by
 intro pins s σ H D I h
 refine wpAny_Assign_stores (thn (he pins s σ H _ I h) fun v s1 ⟨x,H1,I1,r1,q1⟩=>?_) hs hw
 rw[h1]
 exact thn (hg pins s1 σ H1 x v _ I1 r1 q1) fun _ s2 q=>q
theorem zm4{i:Nat}{x:Str}{e:Expr}{te:TE}{pos':Pos}(hN:X.N.Nodup)(hi:X.N[i]? = some x)(hx:Loc X.env.scope x)(he:PE X e te)(hs:swapsWith e (some (.Name x pos')) pos.line X.env=pure false:=by rfl)(hf:X.fn x=true\/X.env.scope.names.lookup x=some .local:=by first|exact .inl rfl|exact .inr rfl|assumption) :
  PS X (.Assign [.Name x pos'] e pos) (zvl te (zr7 i)):=by
 intro pins s σ H D I h
 refine wpAny_Assign_Name (thn (he pins s σ H _ I h) fun v s1 ⟨y,H1,I1,r1,q1⟩=>?_) hs
 exact ziI I1 hN hi hx r1 (fun s2 I2=>⟨_,H1,I2,q1⟩) hf
end
section
variable{X:Cx}{pos:Pos}
def zuu(c:TT)(tb:TS):TS:=fun D σ H=>∃ W:Nat->St->Hp->Prop,(∃ m,W m σ H)/\∀ m σ H,W m σ H ->
 c σ H fun b H1=>if b=true then ∃ N:St->Hp->Prop,(∀ σ' H',N σ' H'->∃ m',m'<m/\W m' σ' H')/\tb { D with nx:=N,ct:=N,bk:=D.nx } σ H1 else D.nx σ H1
theorem zq6{c:Expr}{body:List Stmt}{tc:TT}{tb:TS}(hp:PassesOwn (model X.prog X.w) X.A X.env X.xe)(hc:PT X c tc)(hb:PSs X body tb):PS X (.While c body [] pos) (zuu tc tb):=by
 intro pins s σ H D I h
 obtain ⟨W,⟨m0,w0⟩,turn⟩:=h
 refine wpAny_While (codeAny_whileLoop (fun n s'=>∃ σ' H',Inv X pins σ' H' s'/\W n σ' H') ?_ m0 ⟨σ,H,I,w0⟩)
 rintro n s1 ⟨σ1,H1,I1,w1⟩
 refine wpAny_passesOwn hp (thn (hc pins s1 σ1 H1 _ I1 (turn n σ1 H1 w1)) fun b s2 ⟨H2,I2,q2⟩=>?_)
 cases b with
 |true =>
  obtain ⟨N,hN,q2⟩:=q2
  rw[if_pos rfl]
  refine wpAny_passesOwn hp (thn (hb pins s2 σ1 H2 _ I2 q2) fun f s3 q3=>?_)
  cases f with
  |next =>
   obtain ⟨σ3,H3,I3,n3⟩:=q3
   obtain ⟨m',hm,w3⟩:=hN σ3 H3 n3
   exact ⟨m',hm,σ3,H3,I3,w3⟩
  |cont =>
   obtain ⟨σ3,H3,I3,n3⟩:=q3
   obtain ⟨m',hm,w3⟩:=hN σ3 H3 n3
   exact ⟨m',hm,σ3,H3,I3,w3⟩
  |brk=>exact q3
  |ret v=>exact q3
 |false =>
  rw[if_neg Bool.false_ne_true]
  exact wpAny_execs_nil ⟨σ1,H2,I2,q2⟩
end
structure It where
 go:Nat->Hp->Prop
 yld:Nat->Hp->V->Hp->Prop
 stop:Nat->Hp->Prop
def zfm(X:Cx)(pins:List (Addr×Obj))(H:Hp)(b:Addr):Prop :=
 H b=none/\b≠X.env.locals/\b∉X.fs/\(b∈X.ex\/X.s₀.heap.objs.size<=b)/\(∀ x c,X.env.cells.lookup x=some c->c≠b)/\∀ p∈X.pn++pins,p.1≠b
theorem Inv.fpOk{X:Cx}{pins:List (Addr×Obj)}{σ:St}{H H':Hp}{s:Shared}{b:Addr}(I:Inv X pins σ H s)(hb:s.heap.objs.size<=b)(hn:H' b=none):zfm X pins H' b:=by
 refine ⟨hn,Nat.ne_of_gt (Nat.lt_of_lt_of_le I.lt hb),I.nofs hb,.inr (Nat.le_trans I.sz hb),fun x c e z=>?_,fun p hp z=>?_⟩
 ·obtain ⟨v,q⟩:=I.cell x c e
  exact absurd (Nat.lt_of_lt_of_le q.lt (by rw[z];exact hb)) (Nat.lt_irrefl _)
 ·exact absurd (Nat.lt_of_lt_of_le (Heap.lt_size (I.pin p hp).1) (by rw[z];exact hb)) (Nat.lt_irrefl _)
structure zp5(P:Program)(w:World)(K:W.Frag)(tg:Expr)(J:It)(fp:List Addr)(it:Addr)(tn:Nat->Heap->Prop):Prop where
 mem:it∈fp
 obj:∀ i h,tn i h->∀ b∈fp,∃ o,h.get? b=some o/\∀ v,o.data≠.cell v
 keep:∀ i h h',tn i h->(∀ b∈fp,∀ o,h.get? b=some o->h'.get? b=some o)->tn i h'
 item:∀(X:Cx),X.prog=P->X.w=w->X.K=K->X.calm=true->∀(i:Nat)(pins:List (Addr×Obj))(s:Shared)(σ:St)(H:Hp)(E:Value->Shared->Prop),Inv X pins σ H s->(∀ b∈fp,zfm X pins H b)->tn i s.heap->J.go i H ->
  wpAny (model P w) X.A (pyNext (.ref it)) (fun r s1=>∃ u,r=some u /\
   wpAny (model P w) X.A (letOwnedTupleGo tg (.ref it) u) (fun _ s2=>∃ x H',Inv X pins σ H' s2/\zcx x u/\J.yld i H x H'/\tn (i+1) s2.heap/\∀ b∈fp,H' b=none) E s1) E s
 done:∀(X:Cx),X.prog=P->X.w=w->X.K=K->X.calm=true->∀(i:Nat)(pins:List (Addr×Obj))(s:Shared)(σ:St)(H:Hp)(E:Value->Shared->Prop),Inv X pins σ H s->(∀ b∈fp,zfm X pins H b)->tn i s.heap->J.stop i H ->
  wpAny (model P w) X.A (pyNext (.ref it)) (fun r s1=>r=none/\Inv X pins σ H s1) E s
 self:∀(A:Around)(i:Nat)(s:Shared)(Q:Value->Shared->Prop)(E:Value->Shared->Prop),tn i s.heap->Q (.ref it) s->wpAny (model P w) A (pyIter (.ref it)) Q E s
abbrev TI:=St->Hp->(It->Hp->Prop)->Prop
def PIE(X:Cx)(pins:List (Addr×Obj))(σ:St)(tg:Expr)(R:It->Hp->Prop)(itv:Value)(s2:Shared):Prop :=
 ∃(it:Addr)(fp:List Addr)(tn:Nat->Heap->Prop)(J:It)(H':Hp),itv=.ref it/\Inv X pins σ H' s2/\zp5 X.prog X.w X.K tg J fp it tn/\tn 0 s2.heap/\(∀ b∈fp,zfm X pins H' b)/\R J H'
def PI(X:Cx)(tg iter:Expr)(wi:TI):Prop :=
 ∀(pins:List (Addr×Obj))(s:Shared)(σ:St)(H:Hp)(R:It->Hp->Prop),Inv X pins σ H s->wi σ H R ->
  wpAny (model X.prog X.w) X.A (eval iter X.env) (fun v s1=>wpAny (model X.prog X.w) X.A (pyIter v) (PIE X pins σ tg R) X.xe s1) X.xe s
theorem zrE{M:Model}{A:Around}{E:Value->Shared->Prop}{s:Shared}{tg:Expr}{it:Addr}{u:Value}{o:Obj}{n:String}{vs:Array Value}{Q:Unit->Shared->Prop}(ho:s.heap.get? it=some o)(hc:o.cls=.type n)(hd:o.data=.fields vs)
  (hn:["enumerate","zip","dict_itemiterator","dict_reverseitemiterator","odict_iterator","itertools.zip_longest","itertools.pairwise"].contains n=false) (hQ:Q () s):wpAny M A (letOwnedTupleGo tg (.ref it) u) Q E s:=by
 unfold letOwnedTupleGo
 cases tg <;> first
  |exact wpAny_pure hQ
  | (cases u <;> first
    |exact wpAny_pure hQ
    | (refine wpAny_bind (wpAny_load ho ?_)
       rw[hc,hd]
       show wpAny M A (if (["enumerate","zip","dict_itemiterator","dict_reverseitemiterator","odict_iterator","itertools.zip_longest","itertools.pairwise"].contains n && vs[0]? == some (rawInt _))=true then _ else _) Q E s
       rw[if_neg (by intro h;rw[hn,Bool.false_and] at h;cases h)]
       exact wpAny_pure hQ))
def Itl(K:W.Frag)(a:Addr):It :=
 ⟨fun i H=>∃ xs x,SqL K H a xs/\xs[i]? = some x,fun i H x H'=>H'=H/\∀ xs,SqL K H a xs->xs[i]? = some x,fun i H=>∃ xs,SqL K H a xs/\xs.length<=i⟩
def Itt(K:W.Frag)(a:Addr):It :=
 ⟨fun i H=>∃ xs x,SqT K H a xs/\xs[i]? = some x,fun i H x H'=>H'=H/\∀ xs,SqT K H a xs->xs[i]? = some x,fun i H=>∃ xs,SqT K H a xs/\xs.length<=i⟩
def Itr(lo:Int)(n:Nat):It:=⟨fun i _=>i<n,fun i H x H'=>H'=H/\x=.int (lo+i),fun i _=>n<=i⟩
theorem zpe{P:Program}{w:World}{K:W.Frag}{tg:Expr}(a it:Addr):zp5 P w K tg (Itl K a) [it] it (fun i h=>h.IsListIter it a i) where
 mem:=by simp
 obj:=fun i h st b hb=>by
  have e:b=it:=by simpa using hb
  subst e
  obtain ⟨o,e,c,d⟩:=st
  exact ⟨o,e,fun v z=>by rw[d] at z;cases z⟩
 keep:=fun i h h' st k=>st.at fun o e=>k it (by simp) o e
 item:=by
  intro X hP hw hK hc i pins s σ H E I hf st hg
  subst hP hw hK
  obtain ⟨xs,x,hq,hx⟩:=hg
  obtain ⟨its,rv,p,hz⟩:=I.list hq
  obtain ⟨u,hu,ru⟩:=rv.get hx
  obtain ⟨f0,f1,f2,f3,f4,f5⟩:=hf it (by simp)
  refine wpAny_pyNext_list_item st p.isList (x:=u) (by simpa using hu) fun h' st' sb=>?_
  have I1:Inv X pins σ H { s with heap:=h' }:=I.turned (t':=s.toks) (fun b o hb e=>(sb.2 b hb).trans e) f0 f1 f3 f4 f5
  obtain ⟨o,e,c,d⟩:=id st'
  exact ⟨u,rfl,zrE (s:={ s with heap:=h' }) e c d (by decide) ⟨x,H,I1,ru,⟨rfl,fun ys hy=>by rw[I.list_inj hy hq];exact hx⟩,st',fun b hb=>(hf b hb).1⟩⟩
 done:=by
  intro X hP hw hK hc i pins s σ H E I hf st hg
  subst hP hw hK
  obtain ⟨xs,hq,hx⟩:=hg
  obtain ⟨its,rv,p,hz⟩:=I.list hq
  obtain ⟨f0,f1,f2,f3,f4,f5⟩:=hf it (by simp)
  have hl:=rv.length
  exact wpAny_pyNext_list_end (I.ok.hd hc) st p.isList (by simp;omega) fun h' eb=>⟨rfl,I.turned (t':=s.toks) (fun b o hb e=>eb b o hb e) f0 f1 f3 f4 f5⟩
 self:=fun _ _ _ _ _ st h=>wpAny_pyIter_listiter st h
theorem znj{P:Program}{w:World}{K:W.Frag}{tg:Expr}(a it:Addr):zp5 P w K tg (Itt K a) [it] it (fun i h=>h.IsTupleIter it a i) where
 mem:=by simp
 obj:=fun i h st b hb=>by
  have e:b=it:=by simpa using hb
  subst e
  obtain ⟨o,e,c,d⟩:=st
  exact ⟨o,e,fun v z=>by rw[d] at z;cases z⟩
 keep:=fun i h h' st k=>st.at fun o e=>k it (by simp) o e
 item:=by
  intro X hP hw hK hc i pins s σ H E I hf st hg
  subst hP hw hK
  obtain ⟨xs,x,hq,hx⟩:=hg
  obtain ⟨its,rv,p,hz⟩:=I.tuple hq
  obtain ⟨u,hu,ru⟩:=rv.get hx
  obtain ⟨f0,f1,f2,f3,f4,f5⟩:=hf it (by simp)
  refine wpAny_pyNext_tuple_item st (show s.heap.IsTuple a its.toArray from p) (x:=u) (by simpa using hu) fun h' st' sb=>?_
  have I1:Inv X pins σ H { s with heap:=h' }:=I.turned (t':=s.toks) (fun b o hb e=>(sb.2 b hb).trans e) f0 f1 f3 f4 f5
  obtain ⟨o,e,c,d⟩:=id st'
  exact ⟨u,rfl,zrE (s:={ s with heap:=h' }) e c d (by decide) ⟨x,H,I1,ru,⟨rfl,fun ys hy=>by rw[I.tuple_inj hy hq];exact hx⟩,st',fun b hb=>(hf b hb).1⟩⟩
 done:=by
  intro X hP hw hK hc i pins s σ H E I hf st hg
  subst hP hw hK
  obtain ⟨xs,hq,hx⟩:=hg
  obtain ⟨its,rv,p,hz⟩:=I.tuple hq
  obtain ⟨f0,f1,f2,f3,f4,f5⟩:=hf it (by simp)
  have hl:=rv.length
  exact wpAny_pyNext_tuple_end (I.ok.hd hc) st (show s.heap.IsTuple a its.toArray from p) (by simp;omega) fun h' eb=>⟨rfl,I.turned (t':=s.toks) (fun b o hb e=>eb b o hb e) f0 f1 f3 f4 f5⟩
 self:=fun _ _ _ _ _ st h=>wpAny_pyIter_tupleiter st h
theorem zmV{P:Program}{w:World}{K:PySem.W.Frag}{tg:Expr}(it:Addr)(lo:Int)(n:Nat):zp5 P w K tg (Itr lo n) [it] it (fun i h=>IsRangeIter h it (lo+(i:Nat) * 1) ((n:Int)-(i:Nat)) 1) where
 mem:=by simp
 obj:=fun i h st b hb=>by
  have e:b=it:=by simpa using hb
  subst e
  exact ⟨_,st,fun v z=>by
   have z':Data.fields _=Data.cell v:=z
   cases z'⟩
 keep:=fun i h h' st k=>k it (by simp) _ st
 item:=by
  intro X hP hw hK hc i pins s σ H E I hf st hg
  subst hP hw hK
  obtain ⟨f0,f1,f2,f3,f4,f5⟩:=hf it (by simp)
  have W:=Walks.range (prog:=X.prog) (w:=X.w) (I.ok.hd hc) it lo 1 n
  refine W.item i s _ _ hg st fun v h' tk hv st' kk=>?_
  obtain ⟨t,rfl⟩:=hv
  have I1:Inv X pins σ H { s with heap:=h',toks:=tk }:=I.turned (fun b o hb e=>kk b o (by simpa using hb) e) f0 f1 f3 f4 f5
  refine ⟨_,rfl,zrE (s:={ s with heap:=h',toks:=tk }) (n:="range_iterator") st' rfl rfl (by decide) ⟨.int (lo+i),H,I1,⟨t,?_⟩,⟨rfl,rfl⟩,st',fun b hb=>(hf b hb).1⟩⟩
  rw[Int.mul_one]
 done:=by
  intro X hP hw hK hc i pins s σ H E I hf st hg
  subst hP hw hK
  obtain ⟨f0,f1,f2,f3,f4,f5⟩:=hf it (by simp)
  exact wpAny_pyNext_range_end (I.ok.hd hc) st (by have:n<=i:=hg;omega) fun h' eb=>⟨rfl,I.turned (t':=s.toks) (fun b o hb e=>eb b o hb e) f0 f1 f3 f4 f5⟩
 self:=fun _ _ _ _ _ st h=>wpAny_pyIter_rangeiter st h
end L2
namespace L2
open PySem PySem.Spec PyProof.Rows
section
variable{X:Cx}{tg:Expr}
def zvw(K:W.Frag)(tl:TE):TI:=fun σ H R=>tl σ H fun x H1=>∃ a,x=.ref a/\(∃ xs,SqL K H1 a xs)/\R (Itl K a) H1
def iTup(K:W.Frag)(tl:TE):TI:=fun σ H R=>tl σ H fun x H1=>∃ a,x=.ref a/\(∃ xs,SqT K H1 a xs)/\R (Itt K a) H1
theorem zl0{l:Expr}{tl:TE}(hl:PE X l tl):PI X tg l (zvw X.K tl):=by
 intro pins s σ H R I h
 refine thn (hl pins s σ H _ I h) fun v s1 ⟨x,H1,I1,r1,q1⟩=>?_
 obtain ⟨a,e,⟨xs,hq⟩,q⟩:=q1
 subst e
 cases r1
 obtain ⟨its,rv,p,hz⟩:=I1.list hq
 refine wpAny_pyIter_list p.isList ?_
 refine ⟨s1.heap.objs.size,[s1.heap.objs.size],_,_,H1,rfl,I1.kept (t':=s1.toks) fun b o e=>Heap.get?_push_of_some _ e,zpe a _,⟨_,Heap.get?_push_size _ rfl,rfl,rfl⟩,fun b hb=>?_,q⟩
 have e:b=s1.heap.objs.size:=by simpa using hb
 subst e
 exact I1.fpOk (Nat.le_refl _) (I1.hok.fresh (Nat.le_refl _))
theorem zu7{l:Expr}{tl:TE}(hl:PE X l tl):PI X tg l (iTup X.K tl):=by
 intro pins s σ H R I h
 refine thn (hl pins s σ H _ I h) fun v s1 ⟨x,H1,I1,r1,q1⟩=>?_
 obtain ⟨a,e,⟨xs,hq⟩,q⟩:=q1
 subst e
 cases r1
 obtain ⟨its,rv,p,hz⟩:=I1.tuple hq
 refine wpAny_pyIter_tuple (show s1.heap.IsTuple a its.toArray from p) ?_
 refine ⟨s1.heap.objs.size,[s1.heap.objs.size],_,_,H1,rfl,I1.kept (t':=s1.toks) fun b o e=>Heap.get?_push_of_some _ e,znj a _,⟨_,Heap.get?_push_size _ rfl,rfl,rfl⟩,fun b hb=>?_,q⟩
 have e:b=s1.heap.objs.size:=by simpa using hb
 subst e
 exact I1.fpOk (Nat.le_refl _) (I1.hok.fresh (Nat.le_refl _))
theorem zqI{pins:List (Addr×Obj)}{σ:St}{H:Hp}{s:Shared}{R:It->Hp->Prop}{E:Value->Shared->Prop}{lo hi:Int}{t u v:Tok}{tk:Nat}(I:Inv X pins σ H s)(h1:-(2 ^ 62)<=lo)(h2:lo<2 ^ 62)(h3:-(2 ^ 62)<=hi)(h4:hi<2 ^ 62)
  (q:R (Itr lo (hi-lo).toNat) H):wpAny (model X.prog X.w) X.A (pyIter (.ref s.heap.objs.size)) (PIE X pins σ tg R) E { s with heap:=s.heap.push { cls:=.type "range",data:=.fields #[.int lo t,.int hi u,.int 1 v] },toks:=tk }:=by
 refine wpAny_pyIter_range (IsRange.new ..) (small_one h1 h2 h3 h4) ?_
 have I1:Inv X pins σ H { s with heap:=s.heap.push { cls:=.type "range",data:=.fields #[.int lo t,.int hi u,.int 1 v] },toks:=tk }:=I.kept fun b o e=>Heap.get?_push_of_some _ e
 refine ⟨(s.heap.push { cls:=.type "range",data:=.fields #[.int lo t,.int hi u,.int 1 v] }).objs.size,[(s.heap.push { cls:=.type "range",data:=.fields #[.int lo t,.int hi u,.int 1 v] }).objs.size],_,_,H,rfl,
  I1.kept (t':=tk) fun b o e=>Heap.get?_push_of_some _ e,zmV _ lo (hi-lo).toNat,?_,fun b hb=>?_,q⟩
 ·have e1:lo+((0:Nat):Int) * 1=lo:=by simp
  have e2:(((hi-lo).toNat:Nat):Int)-((0:Nat):Int)=Builtin.Range.rangeSize lo hi 1:=by rw[rangeSize_one];split <;> omega
  show IsRangeIter _ _ (lo+((0:Nat):Int) * 1) ((((hi-lo).toNat:Nat):Int)-((0:Nat):Int)) 1
  rw[e1,e2]
  exact Heap.get?_push_size _ rfl
 ·have e:b=(s.heap.push { cls:=.type "range",data:=.fields #[.int lo t,.int hi u,.int 1 v] }).objs.size:=by simpa using hb
  subst e
  exact I1.fpOk (Nat.le_refl _) (I1.hok.fresh (Nat.le_refl _))
def zvd(ta:TA):TI:=fun σ H R=>ta σ H fun vs H1=>∃ j:Int,vs=[.int j]/\-(2 ^ 62)<=j/\j<2 ^ 62/\R (Itr 0 j.toNat) H1
theorem zo3{a:Expr}{ta:TA}{p pos:Pos}(hg:Gl X "range")(hm:X.mg "range"=none)(ha:PA X [a] ta)(hs:starEach [a] X.env=[(false,eval a X.env)]:=by rfl):PI X tg (.Call (.Name "range" p) [a] [] pos) (zvd ta):=by
 intro pins s σ H R I h
 refine Call_ (zfj I hg hm boot_range (PyProof.Rows.callWith_type1 (thn (ha pos pins s σ H _ I h) fun us s1 ⟨vs,H1,I1,r1,q1⟩=>?_) hs rfl))
 obtain ⟨j,e,q1,q2,q⟩:=q1
 subst e
 cases r1 with
 |cons r rr =>
  cases rr
  obtain ⟨t,rfl⟩:=r
  exact call_range_1 (zqI I1 (by omega) (by omega) q1 q2 (by simpa using q))
def tFor(wi:TI)(g:TG)(tb:TS):TS:=fun D σ H=>wi σ H fun J H1=>∃ W:Nat->Nat->St->Hp->Prop,(∃ m,W 0 m σ H1)/\∀ i m σ H,W i m σ H ->
 (J.stop i H/\D.nx σ H)\/(J.go i H/\∃ N:St->Hp->Prop,(∀ σ' H',N σ' H'->∃ m',m'<m/\W (i+1) m' σ' H')/\∀ x H',J.yld i H x H'->g x σ H' fun σ2 H2=>tb { D with nx:=N,ct:=N,bk:=D.nx } σ2 H2)
def zfV(fp:List Addr)(h:Heap):List (Addr×Obj):=fp.filterMap fun b=>(h.get? b).map fun o=>(b,o)
theorem zfa{fp:List Addr}{h:Heap}{b:Addr}{o:Obj}(hb:b∈fp)(e:h.get? b=some o):(b,o)∈zfV fp h:=List.mem_filterMap.mpr ⟨b,hb,by rw[e];rfl⟩
theorem zoE{fp:List Addr}{h:Heap}{p:Addr×Obj}(hp:p∈zfV fp h):p.1∈fp/\h.get? p.1=some p.2:=by
 obtain ⟨b,hb,e⟩:=List.mem_filterMap.mp hp
 cases q:h.get? b with
 |none=>rw[q] at e;cases e
 |some o =>
  rw[q] at e
  have e':(b,o)=p:=Option.some.inj e
  subst e'
  exact ⟨hb,q⟩
theorem Inv.pinned{pins:List (Addr×Obj)}{σ:St}{H:Hp}{s:Shared}{fp:List Addr}(I:Inv X pins σ H s)(hf:∀ b∈fp,zfm X pins H b)(ho:∀ b∈fp,∃ o,s.heap.get? b=some o/\∀ v,o.data≠.cell v):Inv X (pins++zfV fp s.heap) σ H s :=
 I.pins_of fun p hp=>(List.mem_append.mp hp).elim (fun z=>I.pin p (List.mem_append_right _ z)) fun z=>by
  obtain ⟨hb,e⟩:=zoE z
  obtain ⟨f0,f1,f2,_⟩:=hf p.1 hb
  obtain ⟨o,e',d⟩:=ho p.1 hb
  rw[e] at e';cases e'
  exact ⟨e,f0,f1,f2,d⟩
theorem Inv.unpinned{pins pl:List (Addr×Obj)}{σ:St}{H:Hp}{s:Shared}(I:Inv X (pins++pl) σ H s):Inv X pins σ H s:=I.pins_of fun p hp=>I.pin p (List.mem_append_right _ (List.mem_append_left _ hp))
theorem zt9{iter:Expr}{body:List Stmt}{wi:TI}{g:TG}{tb:TS}{pos:Pos}(hp:PassesOwn (model X.prog X.w) X.A X.env X.xe)(hc:X.calm=true)(hi:PI X tg iter wi)(hg:PG X tg g)(hb:PSs X body tb)
  (hs:∀ x,foldedSetIterable iter X.env x=pure x:=by intro _;rfl):PS X (.For tg iter body [] pos) (tFor wi g tb):=by
 intro pins s σ H D I h
 refine wpAny_For (thn (hi pins s σ H _ I h) fun v s1 h1=>thn h1 fun itv s2 h2=>?_) hs
 obtain ⟨it,fp,tn,J,H2,e,I2,T,st2,f2,W,⟨m0,w0⟩,turn⟩:=h2
 subst e
 have stat:∀{H':Hp},(∀ b∈fp,H' b=none)->∀ b∈fp,zfm X pins H' b:=fun hn b hb=>⟨hn b hb,(f2 b hb).2⟩
 refine codeAny_forLoop_any (fun n s'=>∃ i σ' H',Inv X pins σ' H' s'/\tn i s'.heap/\(∀ b∈fp,H' b=none)/\W i n σ' H') ?_ m0 ⟨0,σ,H2,I2,st2,fun b hb=>(f2 b hb).1,w0⟩
 rintro n s3 ⟨i,σ3,H3,I3,st3,fr3,w3⟩
 rcases turn i n σ3 H3 w3 with ⟨stop,qn⟩|⟨go,N,hN,step⟩
 ·refine wpAny_passesOwn hp (thn (T.done X rfl rfl rfl hc i pins s3 σ3 H3 X.xe I3 (stat fr3) st3 stop) fun r s4 ⟨hr,I4⟩=>?_)
  subst hr
  exact wpAny_execs_nil ⟨σ3,H3,I4,qn⟩
 ·refine wpAny_passesOwn hp (thn (T.item X rfl rfl rfl hc i pins s3 σ3 H3 X.xe I3 (stat fr3) st3 go) fun r s4 ⟨u,hr,h4⟩=>?_)
  subst hr
  refine wpAny_passesOwn hp (thn h4 fun _ s5 ⟨x,H5,I5,r5,y5,st5,fr5⟩=>?_)
  have I5':=I5.pinned (stat fr5) (T.obj _ _ st5)
  refine wpAny_passesOwn hp (thn (hg _ s5 σ3 H5 x u _ I5' r5 (step x H5 y5)) fun _ s6 ⟨σ6,H6,I6,q6⟩=>?_)
  refine wpAny_passesOwn hp (thn (hb _ s6 σ6 H6 _ I6 q6) fun f s7 q7=>?_)
  have again:∀{σ7:St}{H7:Hp},Inv X (pins++zfV fp s5.heap) σ7 H7 s7->N σ7 H7->∃ m,m<n/\∃ i σ' H',Inv X pins σ' H' s7/\tn i s7.heap/\(∀ b∈fp,H' b=none)/\W i m σ' H':=fun {σ7 H7} I7 n7=>by
   obtain ⟨m',hm,w7⟩:=hN σ7 H7 n7
   refine ⟨m',hm,i+1,σ7,H7,I7.unpinned,T.keep _ _ _ st5 fun b hb o e=>(I7.pin (b,o) (List.mem_append_right _ (List.mem_append_right _ (zfa hb e)))).1,fun b hb=>?_,w7⟩
   obtain ⟨o,e,d⟩:=T.obj _ _ st5 b hb
   exact (I7.pin (b,o) (List.mem_append_right _ (List.mem_append_right _ (zfa hb e)))).2.1
  cases f with
  |next=>obtain ⟨σ7,H7,I7,n7⟩:=q7;exact again I7 n7
  |cont=>obtain ⟨σ7,H7,I7,n7⟩:=q7;exact again I7 n7
  |brk=>obtain ⟨σ7,H7,I7,q7⟩:=q7;exact ⟨σ7,H7,I7.unpinned,q7⟩
  |ret v=>obtain ⟨x7,σ7,H7,I7,r7,q7⟩:=q7;exact ⟨x7,σ7,H7,I7.unpinned,r7,q7⟩
end
end L2
namespace L2
open PySem PySem.Spec PyProof.Rows
abbrev R2:=V->V->Hp->VK->Prop
def OpR(X:Cx)(f:Value->Value->Sem Value)(r:R2):Prop :=
 ∀(pins:List (Addr×Obj))(s:Shared)(σ:St)(H:Hp)(x y:V)(v u:Value)(Q:VK),Inv X pins σ H s->zcx x v->zcx y u->r x y H Q ->
  wpAny (model X.prog X.w) X.A (f v u) (EP X pins σ Q) X.xe s
def UnR(X:Cx)(f:Value->Sem Value)(r:V->Hp->VK->Prop):Prop :=
 ∀(pins:List (Addr×Obj))(s:Shared)(σ:St)(H:Hp)(x:V)(v:Value)(Q:VK),Inv X pins σ H s->zcx x v->r x H Q ->
  wpAny (model X.prog X.w) X.A (f v) (EP X pins σ Q) X.xe s
def zcz(X:Cx)(f:Value)(r:List V->Hp->VK->Prop):Prop :=
 ∀(pins:List (Addr×Obj))(s:Shared)(σ:St)(H:Hp)(xs:List V)(us:List Value)(Q:VK),Inv X pins σ H s->zbp xs us->r xs H Q ->
  wpAny (model X.prog X.w) X.A (call f us) (EP X pins σ Q) X.xe s
def tOp(r:R2)(ta tb:TE):TE:=fun σ H Q=>ta σ H fun x H1=>tb σ H1 fun y H2=>r x y H2 Q
def tUn(r:V->Hp->VK->Prop)(ta:TE):TE:=fun σ H Q=>ta σ H fun x H1=>r x H1 Q
def rI(C:Int->Int->Prop)(g:Int->Int->V):R2:=fun x y H Q=>∃ i j,x=.int i/\y=.int j/\C i j/\Q (g i j) H
def rI0(g:Int->Int->V):R2:=fun x y H Q=>∃ i j,x=.int i/\y=.int j/\Q (g i j) H
def rU(g:Int->V):V->Hp->VK->Prop:=fun x H Q=>∃ i,x=.int i/\Q (g i) H
section
variable{X:Cx}{a b c:Expr}{ta tb tc:TE}{pos:Pos}
theorem zvs(ha:PE X a ta)(hb:PE X b tb){pins:List (Addr×Obj)}{s:Shared}{σ:St}{H:Hp}{R:V->V->Hp->Prop}(I:Inv X pins σ H s)
  (h:ta σ H fun x H1=>tb σ H1 fun y H2=>R x y H2) {Q:Value->Shared->Prop} {f:Value->Value->Sem Value}
  (hf:∀ v u s2 x y H2,Inv X pins σ H2 s2->zcx x v->zcx y u->R x y H2->wpAny (model X.prog X.w) X.A (f v u) Q X.xe s2) :
  wpAny (model X.prog X.w) X.A (eval a X.env) (fun v s₁=>wpAny (model X.prog X.w) X.A (eval b X.env) (fun u s₂=>wpAny (model X.prog X.w) X.A (f v u) Q X.xe s₂) X.xe s₁) X.xe s:=by
 refine thn (ha pins s σ H _ I h) fun v s1 ⟨x,H1,I1,r1,q1⟩=>?_
 refine thn (hb pins s1 σ H1 _ I1 q1) fun u s2 ⟨y,H2,I2,r2,q2⟩=>?_
 exact hf v u s2 x y H2 I2 r1 r2 q2
theorem zrG{op:Operator}{r:R2}(ho:OpR X (binaryOp op) r)(ha:PE X a ta)(hb:PE X b tb):PE X (.BinOp a op b pos) (tOp r ta tb):=by
 intro pins s σ H Q I h
 exact wpAny_BinOp (zvs ha hb I h fun v u s2 x y H2 I2 rx ry q=>ho pins s2 σ H2 x y v u Q I2 rx ry q)
theorem ztX{op:UnaryOp}{r:V->Hp->VK->Prop}(ho:UnR X (unaryOp op) r)(ha:PE X a ta):PE X (.UnaryOp op a pos) (tUn r ta):=by
 intro pins s σ H Q I h
 exact UnaryOp_ (thn (ha pins s σ H _ I h) fun v s1 ⟨x,H1,I1,r1,q1⟩=>ho pins s1 σ H1 x v Q I1 r1 q1)
theorem opI{f:Value->Value->Sem Value}{C:Int->Int->Prop}{g:Int->Int->Int}
  (rule:∀(i j:Int)(t u:Tok)(s:Shared)(Q:Value->Shared->Prop)(E:Value->Shared->Prop),C i j->Q (.int (g i j) s.toks) { s with toks:=s.toks+1 }->wpAny (model X.prog X.w) X.A (f (.int i t) (.int j u)) Q E s) :
  OpR X f (rI C fun i j=>.int (g i j)):=by
 intro pins s σ H x y v u Q I rx ry h
 obtain ⟨i,j,rfl,rfl,hc,q⟩:=h
 obtain ⟨t,rfl⟩:=rx
 obtain ⟨t',rfl⟩:=ry
 exact rule i j t t' s _ _ hc ⟨.int (g i j),H,I.tok _,⟨_,rfl⟩,q⟩
theorem opI0{f:Value->Value->Sem Value}{g:Int->Int->Int}
  (rule:∀(i j:Int)(t u:Tok)(s:Shared)(Q:Value->Shared->Prop)(E:Value->Shared->Prop),Q (.int (g i j) s.toks) { s with toks:=s.toks+1 }->wpAny (model X.prog X.w) X.A (f (.int i t) (.int j u)) Q E s) :
  OpR X f (rI0 fun i j=>.int (g i j)):=by
 intro pins s σ H x y v u Q I rx ry h
 obtain ⟨i,j,rfl,rfl,q⟩:=h
 obtain ⟨t,rfl⟩:=rx
 obtain ⟨t',rfl⟩:=ry
 exact rule i j t t' s _ _ ⟨.int (g i j),H,I.tok _,⟨_,rfl⟩,q⟩
theorem zuK{f:Value->Value->Sem Value}{g:Int->Int->Bool}
  (rule:∀(i j:Int)(t u:Tok)(s:Shared)(Q:Value->Shared->Prop)(E:Value->Shared->Prop),Q (.bool (g i j)) s->wpAny (model X.prog X.w) X.A (f (.int i t) (.int j u)) Q E s) :
  OpR X f (rI0 fun i j=>.bl (g i j)):=by
 intro pins s σ H x y v u Q I rx ry h
 obtain ⟨i,j,rfl,rfl,q⟩:=h
 obtain ⟨t,rfl⟩:=rx
 obtain ⟨t',rfl⟩:=ry
 exact rule i j t t' s _ _ ⟨.bl (g i j),H,I,rfl,q⟩
def CDiv(i j:Int):Prop:=0<j/\j<1073741824
def CPow(i j:Int):Prop:=0<=j/\j<=1000000/\i.natAbs<2 ^ 64
def zuM(i j:Int):Prop:=(-(2 ^ 64)<i/\i<2 ^ 64)\/(-(2 ^ 64)<j/\j<2 ^ 64)
theorem zuM.ok{i j:Int}(h:zuM i j):IntMulOk i j:=by
 rcases h with ⟨h1,h2⟩|⟨h1,h2⟩
 ·exact .of_left (intBits_le_64 h1 h2)
 ·exact .of_right (intBits_le_64 h1 h2)
theorem ztL:OpR X (binaryOp .Add) (rI0 fun i j=>.int (i+j)):=opI0 fun _ _ _ _ _ _ _ q=>add_int q
theorem ztz:OpR X (binaryOp .Sub) (rI0 fun i j=>.int (i-j)):=opI0 fun _ _ _ _ _ _ _ q=>sub_int q
theorem zu0:OpR X (binaryOp .Mult) (rI zuM fun i j=>.int (i * j)):=opI fun _ _ _ _ _ _ _ hc q=>mul_int q hc.ok
theorem zr9:OpR X (binaryOp .FloorDiv) (rI CDiv fun i j=>.int (i / j)):=opI fun i j _ _ _ _ _ hc q=>by
 have h1:(0:Int)<j:=hc.1
 have h2:j<1073741824:=hc.2
 exact floordiv_int (by omega) (by rw[Int.fdiv_eq_ediv_of_nonneg i (by omega)];exact q) (.inl (PyProof.noPylong_small (by omega)))
theorem zto:OpR X (binaryOp .Mod) (rI (fun _ j=>0<j) fun i j=>.int (i % j)):=opI fun i j _ _ _ _ _ hc q=>by
 have h1:(0:Int)<j:=hc
 exact mod_int' (by omega) (by rw[Int.fmod_eq_emod_of_nonneg i (by omega)];exact q)
theorem zuv:OpR X (binaryOp .Pow) (rI CPow fun i j=>.int (i ^ j.toNat)):=opI fun _ _ _ _ _ _ _ hc q=>pow_int_small hc.1 hc.2.1 hc.2.2 q
theorem unI{f:Value->Sem Value}{g:Int->Int}
  (rule:∀(i:Int)(t:Tok)(s:Shared)(Q:Value->Shared->Prop)(E:Value->Shared->Prop),Q (.int (g i) s.toks) { s with toks:=s.toks+1 }->wpAny (model X.prog X.w) X.A (f (.int i t)) Q E s) :
  UnR X f (rU fun i=>.int (g i)):=by
 intro pins s σ H x v Q I rx h
 obtain ⟨i,rfl,q⟩:=h
 obtain ⟨t,rfl⟩:=rx
 exact rule i t s _ _ ⟨.int (g i),H,I.tok _,⟨_,rfl⟩,q⟩
theorem zrc:UnR X (unaryOp .USub) (rU fun i=>.int (-i)):=unI fun _ _ _ _ _ q=>neg_int q
end
section
variable{X:Cx}{a b c:Expr}{ta tb tc:TE}{pos:Pos}
theorem zsn:OpR X (compareOp .Lt) (rI0 fun i j=>.bl (decide (i<j))):=zuK fun _ _ _ _ _ _ _ q=>lt_int q
theorem zv0:OpR X (compareOp .LtE) (rI0 fun i j=>.bl (decide (i<=j))):=zuK fun _ _ _ _ _ _ _ q=>le_int q
theorem zud:OpR X (compareOp .Gt) (rI0 fun i j=>.bl (decide (j<i))):=zuK fun _ _ _ _ _ _ _ q=>gt_int q
theorem zvg:OpR X (compareOp .GtE) (rI0 fun i j=>.bl (decide (j<=i))):=zuK fun _ _ _ _ _ _ _ q=>ge_int q
theorem OpR.or{f:Value->Value->Sem Value}{r r':R2}(h:OpR X f r)(h':OpR X f r'):OpR X f (fun x y H Q=>r x y H Q\/r' x y H Q):=by
 intro pins s σ H x y v u Q I rx ry q
 rcases q with q|q
 ·exact h pins s σ H x y v u Q I rx ry q
 ·exact h' pins s σ H x y v u Q I rx ry q
theorem zfG(b:Expr){op:CmpOp}(h:op≠.In:=by decide)(h2:op≠.NotIn:=by decide):behindInMarks op b=false:=by
 have e1:(op == CmpOp.In)=false:=by cases op <;> first|rfl|exact absurd rfl h
 have e2:(op == CmpOp.NotIn)=false:=by cases op <;> first|rfl|exact absurd rfl h2
 cases b <;> simp[behindInMarks,e1,e2]
theorem zsc{op:CmpOp}{r:R2}(ho:OpR X (compareOp op) r)(ha:PE X a ta)(hb:PE X b tb)(hm:behindInMarks op b=false):PE X (.Compare a [op] [b] pos) (tOp r ta tb):=by
 intro pins s σ H Q I h
 exact wpAny_Compare1 (zvs ha hb I h fun v u s2 x y H2 I2 rx ry q=>ho pins s2 σ H2 x y v u Q I2 rx ry q) hm
def zvp(t:TE):TT:=fun σ H Q=>t σ H fun x H'=>∃ k,x=.bl k/\Q k H'
theorem zoX{op:CmpOp}{r:R2}(ho:OpR X (compareOp op) r)(ha:PE X a ta)(hb:PE X b tb)(hm:behindInMarks op b=false):PT X (.Compare a [op] [b] pos) (zvp (tOp r ta tb)):=by
 intro pins s σ H Q I h
 refine wpAny_isTrue_Compare1 (thn (ha pins s σ H _ I h) fun v s1 ⟨x,H1,I1,r1,q1⟩=>thn (hb pins s1 σ H1 _ I1 q1) fun u s2 ⟨y,H2,I2,r2,q2⟩ =>
  thn (ho pins s2 σ H2 x y v u _ I2 r1 r2 q2) fun c s3 ⟨z,H3,I3,r3,k,e,q3⟩=>?_) hm
 subst e
 cases r3
 exact wpAny_truthy_bool ⟨H3,I3,q3⟩
def zqU(r r':R2)(ta tb tc:TE):TE:=fun σ H Q=>ta σ H fun x H1=>tb σ H1 fun y H2=>r x y H2 fun z H3=>∃ k,z=.bl k /\
 (if k=true then tc σ H3 fun w' H4=>r' y w' H4 Q else Q (.bl false) H3)
theorem zqx{op op':CmpOp}{r r':R2}(ho:OpR X (compareOp op) r)(ho':OpR X (compareOp op') r')(ha:PE X a ta)(hb:PE X b tb)(hc:PE X c tc)
  (hm:lastMarks [op,op'] [b,c]=false:=by with_unfolding_all rfl):PE X (.Compare a [op,op'] [b,c] pos) (zqU r r' ta tb tc):=by
 intro pins s σ H Q I h
 refine Compare_chain (thn (ha pins s σ H _ I h) fun v s1 ⟨x,H1,I1,r1,q1⟩=>chain_link (thn (hb pins s1 σ H1 _ I1 q1) fun u s2 ⟨y,H2,I2,r2,q2⟩ =>
  thn (ho pins s2 σ H2 x y v u _ I2 r1 r2 q2) fun d s3 ⟨z,H3,I3,r3,k,e,q3⟩=>?_)) hm
 subst e
 cases r3
 refine wpAny_truthy_bool ?_
 cases k with
 |false=>exact ite_ff ⟨.bl false,H3,I3,rfl,q3⟩
 |true=>exact ite_tt (chain_last (thn (hc pins s3 σ H3 _ I3 q3) fun w' s4 ⟨z',H4,I4,r4,q4⟩=>ho' pins s4 σ H4 y z' u w' Q I4 r2 r4 q4))
theorem zkG:(sizeLine:Nat)<2 ^ 63:=by rw[sizeLine_eq];decide
theorem zfd{x:V}{us:List Value}(r:zbp [x] us):∃ u,us=[u]/\zcx x u:=by
 cases r with
 |cons r1 r2=>cases r2;exact ⟨_,rfl,r1⟩
theorem zkF{x y:V}{us:List Value}(r:zbp [x,y] us):∃ u w',us=[u,w']/\zcx x u/\zcx y w':=by
 cases r with
 |cons r1 r2 =>
  cases r2 with
  |cons r3 r4=>cases r4;exact ⟨_,_,rfl,r1,r3⟩
theorem zo9(hc:X.calm=true):zcz X (.builtin "max") (fun xs H Q=>∃ i j,xs=[.int i,.int j]/\Q (.int (if j > i then j else i)) H):=by
 intro pins s σ H xs us Q I r h
 obtain ⟨i,j,rfl,q⟩:=h
 obtain ⟨u,w',rfl,⟨t,rfl⟩,⟨t',rfl⟩⟩:=zkF r
 refine max_two_ints (I.ok.hd hc) fun h' tk k=>⟨_,H,I.kept k,?_,q⟩
 by_cases hj:j > i
 ·rw[if_pos hj,if_pos hj];exact ⟨_,rfl⟩
 ·rw[if_neg hj,if_neg hj];exact ⟨_,rfl⟩
theorem zou(hc:X.calm=true):zcz X (.builtin "min") (fun xs H Q=>∃ i j,xs=[.int i,.int j]/\Q (.int (if j<i then j else i)) H):=by
 intro pins s σ H xs us Q I r h
 obtain ⟨i,j,rfl,q⟩:=h
 obtain ⟨u,w',rfl,⟨t,rfl⟩,⟨t',rfl⟩⟩:=zkF r
 refine min_two_ints (I.ok.hd hc) fun h' tk k=>⟨_,H,I.kept k,?_,q⟩
 by_cases hj:j<i
 ·rw[if_pos hj,if_pos hj];exact ⟨_,rfl⟩
 ·rw[if_neg hj,if_neg hj];exact ⟨_,rfl⟩
end
end L2
namespace L2
open PySem PySem.Spec PyProof.Rows
structure ObjM(h:Heap)(x dx C:Addr)(mA:Str->Option Value):Prop where
 obj:h.get? x=some (W.instObj C dx)
 ns:h.Ns1 dx mA
 ne:dx≠x
section
variable{prog:Program}{w:World}{A:Around}{E:Value->Shared->Prop}{s:Shared}{K:W.Frag}{x dx C f:Addr}{mA:Str->Option Value}{name:Str}{v:Value}
end
section
variable{P:Program}{w:World}{H H':Hp}{h h':Heap}{a C dx:Addr}{fs fs':List (Str×V)}
end
structure Cls(K:W.Frag)(C:Addr):Prop where
 pg:W.plainGet K C Str.empty=true
 hd:W.hasDictIn K C=true
 po:W.plainOver K C=true
 sa:W.findIn K (.ref C) "__setattr__"=some (some (.builtin "object.__setattr__"))
theorem Cls.get{K:W.Frag}{C:Addr}(c:Cls K C)(f:Str):W.plainGet K C f=true:=c.pg
structure Con(K:W.Frag)(C:Addr)(f:Str)(v:V)(u:Value):Prop where
 at_:W.findIn K (.ref C) f=some (some u)
 rel:zcx v u
 get:W.specialIn K u "__get__"=some none
 cp:W.copiedNames.contains f=false
structure Meth(K:W.Frag)(C:Addr)(m:Str)(f:Addr):Prop where
 at_:W.findIn K (.ref C) m=some (some (.ref f))
 fn:W.isFn K (.ref f)=true
 kp:W.keepIn K (.ref f)=true
section
variable{X:Cx}{pins:List (Addr×Obj)}{σ:St}{H:Hp}{s:Shared}{a C dx:Addr}{fs:List (Str×V)}{f:Str}{v:V}{A:Around}{E:Value->Shared->Prop}
theorem Inv.made(I:Inv X pins σ H s):Inv X pins σ (upd (upd H s.heap.objs.size (.own (s.heap.objs.size+1))) (s.heap.objs.size+1) (.ins C s.heap.objs.size []))
  { s with heap:=(s.heap.push W.emptyDict).push (W.instObj C s.heap.objs.size) }:=by
 have e1:(s.heap.push W.emptyDict).get? s.heap.objs.size=some W.emptyDict:=Heap.get?_push_size s.heap rfl
 have e2:((s.heap.push W.emptyDict).push (W.instObj C s.heap.objs.size)).get? (s.heap.objs.size+1)=some (W.instObj C s.heap.objs.size):=by
  have:=Heap.get?_push_size (s.heap.push W.emptyDict) (o:=W.instObj C s.heap.objs.size) rfl
  rwa [Heap.size_push] at this
 have e3:(s.heap.push W.emptyDict).Ns s.heap.objs.size (fun _=>none):=⟨W.emptyDict,#[],_,e1,rfl,(fun e he=>absurd he (by simp)),fun _=>rfl⟩
 have I1:=I.laid (a:=s.heap.objs.size) (o:=.own (s.heap.objs.size+1)) (h':=s.heap.push W.emptyDict) (t':=s.toks) (fun b u q=>Heap.get?_push_of_some _ q) (Nat.le_refl _) ⟨_,e1⟩
 refine I1.laid (a:=s.heap.objs.size+1) (o:=.ins C s.heap.objs.size []) (t':=s.toks) (fun b u q=>Heap.get?_push_of_some _ q) (Nat.le_of_eq (Heap.size_push _ _)) ?_
 have ne:s.heap.objs.size≠s.heap.objs.size+1:=Nat.ne_of_lt (Nat.lt_succ_self _)
 refine ⟨by rw[zai ne,zan],Nat.zero_le _,ne,e2,fun _=>none,(Heap.Ns1.of_empty e3).at fun o q=>Heap.get?_push_of_some _ q,fun _=>True.intro,fun y hy=>absurd rfl hy⟩
end
section
variable{X:Cx}{o e value:Expr}{f:Str}{pos pos' tpos:Pos}{ta tv:TE}
end
section
variable{X:Cx}{pins:List (Addr×Obj)}{σ:St}{H:Hp}{s:Shared}{A:Around}{E:Value->Shared->Prop}{Q:Value->Shared->Prop}{c:Value}{b:Bool}
inductive zob(K:W.Frag)(H:Hp):V->Value->Prop where
 |non:zob K H .non (.type "NoneType")
 |bl (x:Bool):zob K H (.bl x) (.type "bool")
 |int (i:Int):zob K H (.int i) (.type "int")
 |str (x:Str):zob K H (.str x) (.type "str")
 |flt (x:UInt64):zob K H (.flt x) (.type "float")
 |lst {a:Addr} {xs:List V} (e:H a=some (.lst xs)):zob K H (.ref a) (.type "list")
 |frz {a:Addr} {o:Obj} {xs:List V} (e:H a=some (.frz o (.lst xs))):zob K H (.ref a) (.type "list")
 |tup {a:Addr} {xs:List V} (e:H a=some (.tup xs)):zob K H (.ref a) (.type "tuple")
 |dK {a:Addr} {kvs:List (Key×V)} (e:H a=some (.dK kvs)):zob K H (.ref a) (.type "dict")
 |dT {a:Addr} {kvs:List (List Key×V)} (e:H a=some (.dT kvs)):zob K H (.ref a) (.type "dict")
 |ins {a C dx:Addr} {fs:List (Str×V)} (e:H a=some (.ins C dx fs)) (cl:Cls K C) (ha:W.findIn K (.ref C) "__class__"=some (some (.builtin "object.__class__")))
   (hn:W.specialIn K (.builtin "object.__class__") "__get__"=some (some (.builtin "getset_descriptor.__get__"))) (htk:W.takesIn K (.builtin "object.__class__")=some true)
   (hm:W.mroIn K C (.type "object")=some true):zob K H (.ref a) (.ref C)
end
end L2
namespace L2
open PySem PySem.Spec PyProof.Rows
structure zdC(k:Nat)(A:Around):Prop where
 hd:A.handled=none
 dp:A.depth+3 * k+5<recursionLimit
 un:A.units+16 * k+200<cLine
theorem zdC.mono{j k:Nat}{A:Around}(r:zdC k A)(h:j<=k):zdC j A:=⟨r.hd,by have:=r.dp;omega,by have:=r.un;omega⟩
theorem zdC.deeper{k:Nat}{A:Around}(r:zdC (k+1) A)(env:Env):zdC k (A.deeper env) :=
 ⟨r.hd,by have:=r.dp;show A.depth+1+3 * k+5<_;omega,by have:=r.un;show A.units+3+16 * k+200<_;omega⟩
theorem zdC.in1{k:Nat}{A:Around}(r:zdC (k+1) A):zdC k A.in1 :=
 ⟨r.hd,by have:=r.dp;show A.depth+3 * k+5<_;omega,by have:=r.un;show A.units+1+16 * k+200<_;omega⟩
theorem zdC.depth{k:Nat}{A:Around}(r:zdC k A):A.depth<recursionLimit:=by have:=r.dp;omega
theorem zdC.units{k:Nat}{A:Around}(r:zdC k A):A.units+64<cLine:=by have:=r.un;omega
def tNil:TA:=fun _ H Q=>Q [] H
def zqH(ta:TE)(tr:TA):TA:=fun σ H Q=>ta σ H fun x H1=>tr σ H1 fun xs H2=>Q (x::xs) H2
section
variable{X:Cx}{e:Expr}{es:List Expr}{te:TE}{t:TA}{pos:Pos}
theorem zcr:PA X [] tNil:=fun _ _ _ _ H Q I h=>Calls.spliced_nil ⟨[],H,I,.nil,h⟩
theorem zbe(ha:PE X e te)(hr:PA X es t)(hs:starEach (e::es) X.env=(false,eval e X.env)::starEach es X.env:=by rfl):PA X (e::es) (zqH te t):=by
 intro pos pins s σ H Q I h
 rw[hs]
 show wpAny _ _ (spliced ((false,eval e X.env)::backTo pos (starEach es X.env))) _ _ s
 refine Calls.spliced_cons (thn (ha pins s σ H _ I h) fun u s1 ⟨x,H1,I1,r1,q1⟩=>?_)
 exact thn (hr pos pins s1 σ H1 _ I1 q1) fun us s2 ⟨xs,H2,I2,r2,q2⟩=>⟨x::xs,H2,I2,.cons r1 r2,q2⟩
def tTup(t:TA):TE:=fun σ H Q=>t σ H fun xs H1=>xs.length<=sizeLine/\∀ p,H1 p=none->Q (.ref p) (upd H1 p (.tup xs))
def tLst(t:TA):TE:=fun σ H Q=>t σ H fun xs H1=>xs.length<=sizeLine/\∀ p,H1 p=none->Q (.ref p) (upd H1 p (.lst xs))
theorem zrs{x1}(h:PA X es t):PE X (.Tuple es x1 pos) (tTup t):=by
 intro pins s σ H Q I hq
 refine wpAny_Tuple_spliced (thn (h pos pins s σ H _ I hq) fun us s1 ⟨xs,H1,I1,r,z,q⟩=>⟨by rw[<- r.length];exact z,?_⟩)
 have hf:H1 s1.heap.objs.size=none:=I1.hok.fresh (Nat.le_refl _)
 refine ⟨.ref s1.heap.objs.size,upd H1 s1.heap.objs.size (.tup xs),I1.laid (t':=s1.toks) (fun b u e=>Heap.get?_push_of_some _ e) (Nat.le_refl _) ?_,rfl,q _ hf⟩
 exact ⟨z,us,r,⟨_,Heap.get?_push_size _ rfl⟩⟩
theorem zri(h:PA X es t):PE X (.List es pos) (tLst t):=by
 intro pins s σ H Q I hq
 refine wpAny_List_spliced (thn (h pos pins s σ H _ I hq) fun us s1 ⟨xs,H1,I1,r,z,q⟩=>⟨by rw[<- r.length];exact z,?_⟩)
 have hf:H1 s1.heap.objs.size=none:=I1.hok.fresh (Nat.le_refl _)
 refine ⟨.ref s1.heap.objs.size,upd H1 s1.heap.objs.size (.lst xs),I1.laid (t':=s1.toks) (fun b u e=>Heap.get?_push_of_some _ e) (Nat.le_refl _) ?_,rfl,q _ hf⟩
 exact ⟨z,us,0,r,Heap.get?_push_size _ rfl⟩
end
abbrev Sp:=List V->Hp->VK->XK->Prop
abbrev CXT:=List Env->Hp->Shared->XK->Value->Shared->Prop
structure zpA(P:Program)(w:World)(K:W.Frag)(mg:Str->Option Value)(base:Heap)(A:Around)(outer:List Env)(s:Shared)(H:Hp):Prop where
 frames:A.frames=some outer
 mod:Mod K mg base
 bs:∀ b o,base.get? b=some o->s.heap.get? b=some o/\H b=none
 bsz:base.objs.size<=s.heap.objs.size
 funs:s.heap.FunFrames base outer
 frf:∀ b∈frs outer,H b=none
 hok:HOk P w H s.heap
 bare:AllBare s.gens
def CE(outer:List Env)(P:Program)(w:World)(H:Hp)(s:Shared)(Q:VK)(u:Value)(s':Shared):Prop :=
 ∃ v H',s'.os=s.os/\AllBare s'.gens/\Un (frs outer) [] H H' s.heap s'.heap/\HOk P w H' s'.heap/\zcx v u/\Q v H'
def CR(CX:CXT)(outer:List Env)(P:Program)(w:World)(H:Hp)(s:Shared)(Q:VK)(E:XK)(r:Result)(s':Shared):Prop :=
 match r with
 |.ok (.ret u)=>CE outer P w H s Q u s'
 |.ok _=>False
 |.error e=>CX outer H s E e s'
structure zfC(P:Program)(w:World)(K:W.Frag)(mg:Str->Option Value)(base:Heap)(CX:CXT)(k:Nat)(f:Addr)(fd:FuncData)(ps:List Str)(sp:Sp):Prop where
 len:∀ vs H Q E,sp vs H Q E->vs.length=ps.length
 run:∀(A:Around)(outer:List Env)(s:Shared)(H:Hp)(args:Args)(us:List Value)(vs:List V)(Q:VK)(E:XK),zdC k A->zpA P w K mg base A outer s H->BindsTo s fd args (ps.zip us)->zbp vs us->sp vs H Q E ->
  codeAny (model P w) A (.call (.ref f) args) (CR CX outer P w H s Q E) s
theorem zfC.mono{P:Program}{w:World}{K:W.Frag}{mg:Str->Option Value}{base:Heap}{CX:CXT}{j k:Nat}{f:Addr}{fd:FuncData}{ps:List Str}{sp:Sp}(F:zfC P w K mg base CX j f fd ps sp)(h:j<=k) :
  zfC P w K mg base CX k f fd ps sp:=⟨F.len,fun A outer s H args us vs Q E hr=>F.run A outer s H args us vs Q E (hr.mono h)⟩
theorem zfC.imp{P:Program}{w:World}{K:W.Frag}{mg:Str->Option Value}{base:Heap}{CX:CXT}{k:Nat}{f:Addr}{fd:FuncData}{ps:List Str}{sp sp':Sp}(F:zfC P w K mg base CX k f fd ps sp)
  (h:∀ vs H Q E,sp' vs H Q E->sp vs H Q E):zfC P w K mg base CX k f fd ps sp' :=
 ⟨fun vs H Q E q=>F.len vs H Q E (h _ _ _ _ q),fun A outer s H args us vs Q E hr he hb hv hs=>F.run A outer s H args us vs Q E hr he hb hv (h _ _ _ _ hs)⟩
theorem zpA.in1{P:Program}{w:World}{K:W.Frag}{mg:Str->Option Value}{base:Heap}{A:Around}{outer:List Env}{s:Shared}{H:Hp}(e:zpA P w K mg base A outer s H) :
  zpA P w K mg base A.in1 outer s H:=⟨e.frames,e.mod,e.bs,e.bsz,e.funs,e.frf,e.hok,e.bare⟩
section
variable{X:Cx}{pins:List (Addr×Obj)}{σ:St}{H:Hp}{s s':Shared}
theorem Inv.env0(I:Inv X pins σ H s):zpA X.prog X.w X.K X.mg X.base X.A X.stack s H :=
 ⟨I.ok.frames,I.ok.mod,I.bs,Nat.le_trans I.ok.bsz I.sz,I.stack,I.stkFree,I.hok,I.bare⟩
theorem Inv.after{Q:VK}{u:Value}(I:Inv X pins σ H s)(h:CE X.stack X.prog X.w H s Q u s'):EP X pins σ Q u s':=by
 obtain ⟨v,H',os,bare,un,hok,r,q⟩:=h
 obtain ⟨hh,g,d,t,os'⟩:=s'
 obtain rfl:os'=s.os:=os
 exact ⟨v,H',I.call (h':=hh) (g':=g) (d':=d) (t':=t) (ch:=[]) un hok bare (fun b z=>absurd z (by simp)),r,q⟩
end
def zqO(sp:Sp)(dvs:List V)(E:XK)(t:TA):TE:=fun σ H Q=>t σ H fun vs H1=>sp (vs++dvs) H1 Q E
def zfP(K:W.Frag)(fd:FuncData)(ps:List Str)(ds:List Value):Prop :=
 ∀(s:Shared)(us:List Value),K.In s.heap->(us++ds).length=ps.length->BindsTo s fd ⟨us,[]⟩ (ps.zip (us++ds))
theorem zfP.all{K:W.Frag}{fd:FuncData}{ps:List Str}(h:∀ us:List Value,us.length=ps.length->bindArgs fd ⟨us,[]⟩=pure (ps.zip us)):zfP K fd ps []:=fun s us _ hl=>by
 rw[List.append_nil] at hl ⊢
 exact .of_eq (h us hl)
def zco(CX:CXT)(X:Cx)(E:XK):Prop:=∀(pins:List (Addr×Obj))(σ:St)(H:Hp)(s:Shared)(e:Value)(s':Shared),Inv X pins σ H s->CX X.stack H s E e s'->X.xe e s'
section
variable{X:Cx}{CX:CXT}{k:Nat}{f C:Addr}{fd:FuncData}{ps:List Str}{sp:Sp}{dvs:List V}{ds:List Value}{E:XK}{x m:Str}{p pos apos:Pos}{e o:Expr}{es:List Expr}{ta:TE}{t:TA}
theorem zqX{pins:List (Addr×Obj)}{σ:St}{H:Hp}{s:Shared}{Q:VK}{us:List Value}{vs:List V}(F:zfC X.prog X.w X.K X.mg X.base CX k f fd ps sp)(hr:zdC k X.A)(hb:zfP X.K fd ps ds)(hd:zbp dvs ds)(hx:zco CX X E)
  (I:Inv X pins σ H s) (r:zbp vs us) (h:sp (vs++dvs) H Q E):wpAny (model X.prog X.w) X.A (call (.ref f) us) (EP X pins σ Q) X.xe s:=by
 have r2:zbp (vs++dvs) (us++ds):=r.append hd
 have hl:(us++ds).length=ps.length:=by rw[<- r2.length];exact F.len _ _ _ _ h
 refine wpAny_call (codeAny_mono (F.run X.A X.stack s H ⟨us,[]⟩ (us++ds) (vs++dvs) Q E hr I.env0 (hb s us I.kIn hl) r2 h) fun r s' hq=>?_)
 cases r with
 |error e=>exact hx pins σ H s e s' I hq
 |ok fl =>
  cases fl with
  |ret u=>exact I.after hq
  |next=>exact False.elim hq
  |brk=>exact False.elim hq
  |cont=>exact False.elim hq
theorem zjz(F:zfC X.prog X.w X.K X.mg X.base CX k f fd ps sp)(hr:zdC k X.A)(hg:Gl X x)(hm:X.mg x=some (.ref f))(hk:W.keepIn X.K (.ref f)=true)(hb:zfP X.K fd ps ds)(hd:zbp dvs ds)(hx:zco CX X E)
  (ha:PA X (e::es) t) (hdb:(x == ("__debug__" : Str))=false:=by decide) (he:starEach (e::es) X.env=(false,eval e X.env)::starEach es X.env:=by rfl) (hpl:(backTo pos (starEach es X.env)).any (·.1)=false:=by rfl) :
  PE X (.Call (.Name x p) (e::es) [] pos) (zqO sp dvs E t):=by
 intro pins s σ H Q I h
 refine wpAny_Call_Name_kw (zgb I hg hm ?_ hdb)
 refine W.callWith_K (h₀:=X.base) I.ok.mod.kin hk (thn (ha pos pins s σ H _ I h) fun us s1 ⟨vs,H1,I1,r,q⟩=>⟨I1.kIn,?_⟩) he hpl
 exact zqX F hr hb hd hx I1 r q
structure Mk(K:W.Frag)(C f:Addr):Prop where
 makes:W.makesIn K C=true
 init:W.findIn K (.ref C) "__init__"=some (some (.ref f))
 fn:W.isFn K (.ref f)=true
 kp:W.keepIn K (.ref C)=true
end
def PK(X:Cx)(kws:List Keyword)(t:TA):Prop :=
 ∀(pos:Pos)(pins:List (Addr×Obj))(s:Shared)(σ:St)(H:Hp)(Q:List V->Hp->Prop),Inv X pins σ H s->t σ H Q->wpAny (model X.prog X.w) X.A (evalAll ((backToKw pos (keywordEach kws X.env)).map (·.2))) (AP X pins σ Q) X.xe s
section
variable{X:Cx}{CX:CXT}{k:Nat}{f C:Addr}{fd:FuncData}{ps ks:List Str}{sp:Sp}{E:XK}{x m:Str}{p pos apos kpos:Pos}{e o:Expr}{es:List Expr}{kws:List Keyword}{te ta:TE}{t tk:TA}{nm:Option Str}
theorem ztl:PK X [] tNil:=fun _ _ _ _ H Q I h=>wpAny_evalAll_nil ⟨[],H,I,.nil,h⟩
theorem zsU(ha:PE X e te)(hr:PK X kws t):PK X (⟨nm,e,kpos⟩::kws) (zqH te t):=by
 intro pos pins s σ H Q I h
 show wpAny _ _ (evalAll ((do let v <- eval e X.env;standAt pos;pure v)::(backToKw pos (keywordEach kws X.env)).map (·.2))) _ _ s
 refine wpAny_evalAll_cons (wpAny_bind (thn (ha pins s σ H _ I h) fun u s1 ⟨x,H1,I1,r1,q1⟩=>wpAny_bind (wpAny_standAt (wpAny_pure ?_))))
 exact thn (hr pos pins s1 σ H1 _ I1 q1) fun us s2 ⟨xs,H2,I2,r2,q2⟩=>⟨x::xs,H2,I2,.cons r1 r2,q2⟩
structure KBinds(K:W.Frag)(fd:FuncData)(ps ks:List Str)(g:List Value->List Value->List Value)(gV:List V->List V->List V):Prop where
 to:∀(s:Shared)(us ws:List Value),K.In s.heap->(g us ws).length=ps.length->BindsTo s fd ⟨us,ks.zip ws⟩ (ps.zip (g us ws))
 rel:∀{vs:List V}{us:List Value}{zs:List V}{ws:List Value},zbp vs us->zbp zs ws->zbp (gV vs zs) (g us ws)
variable{g:List Value->List Value->List Value}{gV:List V->List V->List V}
end
structure zaz(N P:List Str)(sc:Scope):Prop where
 kind:sc.kind=.function
 co:sc.isCoroutine=false
 gen:sc.isGenerator=false
 nd:N.Nodup
 pre:N.take P.length=P
 par:∀ x∈P,sc.names.lookup x=some .local\/sc.names.lookup x=some .cell
 nofree:∀ y∈sc.names,y.2≠.free
theorem zkp{kindOf:Str->Option NameKind}{x:Str}:∀{binds:List (Str×Value)}{m:Str->Option Value},(∀ v,(x,v)∉binds)->bindL kindOf binds m x=m x
 |[],_,_=>rfl
 | (n,v)::r,m,h=>by
  unfold bindL
  rw[zkp fun w hw=>h w (List.mem_cons_of_mem _ hw)]
  split
  ·have:x≠n:=by rintro rfl;exact h v List.mem_cons_self
   simp[this]
  ·rfl
theorem zkC{kindOf:Str->Option NameKind}{x:Str}:∀{binds:List (Str×Value)}{m:Str->Option Value},(∀ v,(x,v)∉binds)->bindC kindOf binds m x=m x
 |[],_,_=>rfl
 | (n,v)::r,m,h=>by
  unfold bindC
  rw[zkC fun w hw=>h w (List.mem_cons_of_mem _ hw)]
  split
  ·rfl
  ·have:x≠n:=by rintro rfl;exact h v List.mem_cons_self
   simp[this]
theorem zkJ{kindOf:Str->Option NameKind}{x:Str}{v:Value}:∀{P:List Str}{vs:List Value}{i:Nat}{m:Str->Option Value},P.Nodup->P[i]? = some x->vs[i]? = some v->kindOf x=some .local ->
  bindL kindOf (P.zip vs) m x=some v
 |[],_,_,_,_,h,_,_=>by simp at h
 |_::_,[],_,_,_,_,h,_=>by simp at h
 |p::P,w::vs,0,m,nd,h1,h2,hk=>by
  simp at h1 h2;subst h1;subst h2
  show bindL kindOf ((p,w)::P.zip vs) m p=_
  unfold bindL
  rw[zkp fun v hv=>(List.nodup_cons.mp nd).1 (List.of_mem_zip hv).1,if_pos hk]
  simp
 |p::P,w::vs,i+1,m,nd,h1,h2,hk=>by
  show bindL kindOf ((p,w)::P.zip vs) m x=_
  unfold bindL
  exact zkJ (i:=i) (List.nodup_cons.mp nd).2 (by simpa using h1) (by simpa using h2) hk
theorem zkm{kindOf:Str->Option NameKind}{x:Str}{v:Value}:∀{P:List Str}{vs:List Value}{i:Nat}{m:Str->Option Value},P.Nodup->P[i]? = some x->vs[i]? = some v->kindOf x≠some .local ->
  bindC kindOf (P.zip vs) m x=some v
 |[],_,_,_,_,h,_,_=>by simp at h
 |_::_,[],_,_,_,_,h,_=>by simp at h
 |p::P,w::vs,0,m,nd,h1,h2,hk=>by
  simp at h1 h2;subst h1;subst h2
  show bindC kindOf ((p,w)::P.zip vs) m p=_
  unfold bindC
  rw[zkC fun v hv=>(List.nodup_cons.mp nd).1 (List.of_mem_zip hv).1,if_neg hk]
  simp
 |p::P,w::vs,i+1,m,nd,h1,h2,hk=>by
  show bindC kindOf ((p,w)::P.zip vs) m x=_
  unfold bindC
  exact zkm (i:=i) (List.nodup_cons.mp nd).2 (by simpa using h1) (by simpa using h2) hk
def start(N:List Str)(vs:List V):St:=vs.map some++List.replicate (N.length-vs.length) none
def zjQ(CX:CXT)(P:Program)(w:World)(K:W.Frag)(mg:Str->Option Value)(base:Heap)(N:List Str)(qual:Str)(scope:Scope)(f:Addr)(cd:Value)(A:Around)(outer:List Env)(s:Shared)(H:Hp)(E:XK):Cx where
 prog:=P
 w:=w
 K:=K
 mg:=mg
 base:=base
 A:=A.deeper (envOfC qual scope s.heap.objs.size f cd)
 N:=N
 s₀:=s
 H₀:=H
 env:=envOfC qual scope s.heap.objs.size f cd
 outer:=outer
 stack:=envOfC qual scope s.heap.objs.size f cd::outer
 ex:=[]
 calm:=true
 fn:=fun _=>true
 pn:=[]
 xe:=fun e s'=>wpAny (model P w) (A.deeper (envOfC qual scope s.heap.objs.size f cd)) (leaving (envOfC qual scope s.heap.objs.size f cd) e) (fun _ s''=>CX outer H s E e s'') (fun e' s''=>CX outer H s E e' s'') s'
theorem zme{sc:Scope}{n:Nat}{x:Str}(h:sc.names.lookup x=some .cell):∃ c,(cellsFrom n sc.names []).lookup x=some c:=by
 have q:=W.cellsFrom_some sc.names n [] (.inl h)
 exact Option.isSome_iff_exists.mp q
theorem zki{CX:CXT}{P:Program}{w:World}{K:W.Frag}{mg:Str->Option Value}{base:Heap}{N ps:List Str}{qual:Str}{scope:Scope}{f:Addr}{cd:Value}{A:Around}{outer:List Env}{s s1:Shared}{H:Hp}{E:XK}{us:List Value}{vs:List V}
  (S:zaz N ps scope) (hd:A.handled=none) (e0:zpA P w K mg base A outer s H) (hl:vs.length=ps.length) (r:zbp vs us)
  (x:InCallC s s.heap.objs.size (bindL (envOfC qual scope s.heap.objs.size f cd).kindOf (ps.zip us) fun _=>none) (cellsFrom (s.heap.objs.size+1) scope.names []) (bindC (envOfC qual scope s.heap.objs.size f cd).kindOf (ps.zip us) fun _=>none) s1) :
  Inv (zjQ CX P w K mg base N qual scope f cd A outer s H E) [] (start N vs) H s1:=by
 have hpl:ps.length<=N.length:=by have:=congrArg List.length S.pre;rw[List.length_take] at this;omega
 obtain ⟨h1,tk,rfl,hk⟩:=x.done
 have noA:∀ b:Addr,b∉(zjQ CX P w K mg base N qual scope f cd A outer s H E).ex:=fun b z=>absurd (show b∈([]:List Addr) from z) (by simp)
 refine ⟨⟨e0.mod,S.kind,rfl,rfl,Nat.le_refl _,fun y z c h1 h2=>?_,fun y hy=>?_,fun y c _ h=>?_,fun _=>hd,Around.frames_deeper e0.frames,.inr ⟨rfl,rfl⟩,fun b z=>absurd z (noA b),e0.bs,e0.bsz,fun b _ _=>noA b,fun b z=>absurd z (noA b),e0.funs,e0.frf⟩,
  rfl,e0.bare,Un.kept hk,⟨_,x.toInCall.ns,fun i y v h1 h2 h3=>?_⟩,fun y c h=>⟨_,x.cell y c h⟩,e0.hok.fresh (Nat.le_refl _),fun y c h=>?_,fun p hp=>absurd (show p∈([]:List (Addr×Obj)) from hp) (by simp),e0.hok.kept hk,?_⟩
 ·exact name_of_addr x.apart (PySem.mem_of_lookup h1) (PySem.mem_of_lookup h2)
 ·have hy:scope.names.lookup y=some .cell\/scope.names.lookup y=some .free:=hy
  rcases hy with hy|hy
  ·exact zme hy
  ·exact absurd rfl (S.nofree _ (PySem.mem_of_lookup hy))
 ·exact Nat.le_of_lt (x.above y c (PySem.mem_of_lookup h))
 ·have hi:i<vs.length:=by
   unfold start at h2
   by_cases hi:i<vs.length
   ·exact hi
   ·rw[List.getElem?_append_right (by simpa using hi)] at h2
    rw[List.getElem?_replicate] at h2
    split at h2 <;> cases h2
  have ha:vs[i]? = some v:=by
   unfold start at h2
   rw[List.getElem?_append_left (by simpa using hi),List.getElem?_map] at h2
   cases e:vs[i]? with
   |none=>rw[e] at h2;cases h2
   |some a=>rw[e] at h2;cases h2;rfl
  obtain ⟨u,hu,rv⟩:=r.get ha
  have hp:ps[i]? = some y:=by
   rw[<- S.pre,List.getElem?_take_of_lt (by omega)];exact h1
  have ndP:ps.Nodup:=by rw[<- S.pre];exact S.nd.sublist (List.take_sublist _ _)
  refine ⟨u,rv,?_⟩
  rcases S.par y (List.mem_of_getElem? hp) with k|k
  ·exact .inl ⟨k,zkJ ndP hp hu k⟩
  ·obtain ⟨c,e⟩:=zme (n:=s.heap.objs.size+1) k
   refine .inr ⟨.inl k,c,e,?_⟩
   have q:=x.cell y c e
   rw[zkm ndP hp hu (by show scope.names.lookup y≠_;rw[k];decide)] at q
   exact q
 ·exact e0.hok.fresh (Nat.le_of_lt (x.above y c (PySem.mem_of_lookup h)))
 ·unfold start
  show _=N.length
  rw[List.length_append,List.length_map,List.length_replicate]
  omega
theorem zqh{CX:CXT}{P:Program}{w:World}{K:W.Frag}{mg:Str->Option Value}{base:Heap}{k:Nat}{f:Addr}{name qual:Str}{params:Arguments}{body:List Stmt}{scope:Scope}{dV kV doc pm cdv ct oc:Value}{an od:Option Addr}
  {osl:Array (Option Value)} {N ps:List Str} {sp:Sp} (lk:K.lookup f=some ⟨oc,od,.func (W.fnOf name qual params body scope dV kV doc pm an cdv ct),osl⟩) (hcd:W.codeIn K cdv qual=true) (S:zaz N ps scope)
  (len:∀ vs H Q E,sp vs H Q E->vs.length=ps.length)
  (hbody:∀(A:Around)(outer:List Env)(s:Shared)(H:Hp)(vs:List V)(Q:VK)(E:XK),zdC k (A.deeper (envOfC qual scope s.heap.objs.size f cdv))->sp vs H Q E ->
   ∃ t,PSs (zjQ CX P w K mg base N qual scope f cdv A outer s H E) body t/\t { nx:=fun _ H'=>Q .non H',rt:=Q } (start N vs) H) :
  zfC P w K mg base CX (k+1) f (W.fnOf name qual params body scope dV kV doc pm an cdv ct) ps sp:=by
 refine ⟨len,fun A outer s H args us vs Q E hr e0 hb r hsp=>?_⟩
 have hl:=len _ _ _ _ hsp
 have KX:K.In s.heap:=e0.mod.kin.keeps fun b o e=>(e0.bs b o e).1
 have lim:s.heap.NoLimit:=e0.mod.nolimit.keeps fun b o e=>(e0.bs b o e).1
 have hkind:∀ y∈ps.zip us,scope.names.lookup y.1=some .local\/(scope.names.lookup y.1=some .cell/\((cellsFrom (s.heap.objs.size+1) scope.names []).lookup y.1).isSome=true):=fun ⟨n,v⟩ hy=>by
  rcases S.par n (List.of_mem_zip hy).1 with q|q
  ·exact .inl q
  ·exact .inr ⟨q,W.cellsFrom_some _ _ _ (.inl q)⟩
 refine codeAny_call_function hr.depth (KX _ _ lk) rfl S.co S.gen rfl (W.codeRec_of KX hcd) (hb _ _ _ _ ?_)
 refine wpAny_newFunctionEnv_cells S.kind hkind fun env he s1 x=>?_
 subst he
 refine ⟨lim.keeps x.toInCall.keep,codeAny_func ?_⟩
 obtain ⟨t,ht,hq⟩:=hbody A outer s H vs Q E (hr.deeper _) hsp
 have I:Inv (zjQ CX P w K mg base N qual scope f cdv A outer s H E) [] (start N vs) H s1:=zki S hr.hd e0 hl r x
 refine wpAny_mono (ht [] s1 (start N vs) H _ I hq) (fun fl s' hs=>?_) fun e s' hs=>hs
 have fin:∀{σ':St}{H':Hp}{v:V}{u:Value},Inv (zjQ CX P w K mg base N qual scope f cdv A outer s H E) [] σ' H' s'->zcx v u->Q v H'->CE outer P w H s Q u s' :=
  fun {σ' H' v u} J rv q=>⟨v,H',J.os,J.bare,J.base,J.hok,rv,q⟩
 cases fl with
 |ret u =>
  obtain ⟨v,σ',H',J,rv,q⟩:=hs
  exact fin J rv q
 |next =>
  obtain ⟨σ',H',J,q⟩:=hs
  exact fin (v:=V.non) (u:=Value.none) J rfl q
 |brk =>
  obtain ⟨_,_,_,q⟩:=hs
  exact False.elim q
 |cont =>
  obtain ⟨_,_,_,q⟩:=hs
  exact False.elim q
end L2
namespace L2
open PySem PySem.Spec PyProof.Rows
section
variable{X:Cx}{x:Str}{p pos:Pos}{e:Expr}{es:List Expr}{t:TA}{id T:String}{r:List V->Hp->VK->Prop}
def tCB(r:List V->Hp->VK->Prop)(t:TA):TE:=fun σ H Q=>t σ H fun vs H1=>r vs H1 Q
theorem zdQ(hc:zcz X (.builtin id) r)(hg:Gl X x)(hm:X.mg x=none)(hv:bootBuiltins x=some (.builtin id))(ha:PA X (e::es) t)(hn:x≠"__name__":=by decide)(hdb:(x == ("__debug__" : Str))=false:=by decide)
  (he:starEach (e::es) X.env=(false,eval e X.env)::starEach es X.env:=by rfl) (hpl:(backTo pos (starEach es X.env)).any (·.1)=false:=by rfl):PE X (.Call (.Name x p) (e::es) [] pos) (tCB r t):=by
 intro pins s σ H Q I h
 refine wpAny_Call_Name_kw (zfj I hg hm hv ?_ hn hdb)
 exact PyProof.Rows.callWith_builtin1 (thn (ha pos pins s σ H _ I h) fun us s1 ⟨vs,H1,I1,r1,q1⟩=>hc pins s1 σ H1 vs us Q I1 r1 q1) he hpl
theorem ze4(hc:zcz X (.type T) r)(hg:Gl X x)(hm:X.mg x=none)(hv:bootBuiltins x=some (.type T))(ha:PA X (e::es) t)(hn:x≠"__name__":=by decide)(hdb:(x == ("__debug__" : Str))=false:=by decide)
  (he:starEach (e::es) X.env=(false,eval e X.env)::starEach es X.env:=by rfl) (hpl:(backTo pos (starEach es X.env)).any (·.1)=false:=by rfl):PE X (.Call (.Name x p) (e::es) [] pos) (tCB r t):=by
 intro pins s σ H Q I h
 refine wpAny_Call_Name_kw (zfj I hg hm hv ?_ hn hdb)
 exact PyProof.Rows.callWith_type1 (thn (ha pos pins s σ H _ I h) fun us s1 ⟨vs,H1,I1,r1,q1⟩=>hc pins s1 σ H1 vs us Q I1 r1 q1) he hpl
end
end L2
namespace HT
open PySem PyProof.Rows
section
open PySem.SeqAt
open PySem.AutoSeq1 (wpAny_loadPart')
open PySem.MeetsSeq PySem.MeetsSeq2 PySem.MeetsSeq3
end
section
variable{prog:Program}{w:World}{A:Around}{E:Value->Shared->Prop}{s:Shared}
def sIx(n d:Nat):Option Int->Nat
 |none=>d
 |some v=>if v<0 then (v+(n:Int)).toNat else min v.toNat n
theorem sIx_none(n d:Nat):sIx n d none=d:=rfl
theorem sIx_nat(n d k:Nat):sIx n d (some (k:Int))=min k n:=by
 show (if (k:Int)<0 then ((k:Int)+(n:Int)).toNat else min (k:Int).toNat n)=min k n
 rw[if_neg (by omega),Int.toNat_natCast]
theorem zug(n d:Nat)(hd:d<=n)(o:Option Int):sIx n d o<=n:=by
 cases o with
 |none=>exact hd
 |some v =>
  show (if v<0 then (v+(n:Int)).toNat else min v.toNat n)<=n
  by_cases hv:v<0
  ·rw[if_pos hv];omega
  ·rw[if_neg hv];exact Nat.min_le_right _ _
theorem znO(v:Int)(n d:Nat):(if v<0 then max (v+(n:Int)) 0 else min v (n:Int))=((sIx n d (some v):Nat):Int):=by
 show (if v<0 then max (v+(n:Int)) 0 else min v (n:Int))=(((if v<0 then (v+(n:Int)).toNat else min v.toNat n):Nat):Int)
 by_cases hv:v<0
 ·simp only[if_pos hv];omega
 ·simp only[if_neg hv];omega
theorem znr(lo hi:Option Int)(n:Nat):Builtin.Slice.sliceAdjust lo hi 1 (n:Int)=(((sIx n 0 lo:Nat):Int),((sIx n n hi:Nat):Int)):=by
 have h1:¬ ((1:Int)<0):=by omega
 unfold Builtin.Slice.sliceAdjust
 simp only[h1,if_false]
 refine Prod.ext ?_ ?_
 ·cases lo with
  |none=>rfl
  |some v=>exact znO v n 0
 ·cases hi with
  |none=>rfl
  |some v=>exact znO v n n
theorem zmI(i j:Nat):Builtin.Slice.slicePlaces (i:Int) (j:Int) 1=j-i:=by
 unfold Builtin.Slice.slicePlaces
 have h1:(1:Int) > 0:=by omega
 simp only[h1,if_true,Int.ediv_one]
 split <;> omega
theorem ziq{v:Value}{o:Option Int}{Q:Option Int->Shared->Prop}(p:IsPart v o)(h:Q o s):wpAny (model prog w) A (Builtin.Slice.slicePartIndex v) Q E s:=by
 cases p with
 |none=>exact slicePart_none h
 |int i t=>exact slicePart_int h
theorem sliceApplied_gen{sl:Addr}{vl vu:Value}{lo hi:Option Int}{n:Nat}{Q:Int×Int×Nat->Shared->Prop}(hs:s.heap.IsSliceOf sl vl vu .none)(pl:IsPart vl lo)(pu:IsPart vu hi)
  (h:Q (((sIx n 0 lo:Nat):Int),1,sIx n n hi-sIx n 0 lo) s):wpAny (model prog w) A (Builtin.Slice.sliceApplied (.ref sl) (pure (n:Int))) Q E s:=by
 obtain ⟨os,hos,hcs,hds⟩:=id hs
 unfold Builtin.Slice.sliceApplied Builtin.Slice.sliceFields
 refine wpAny_bind (wpAny_bind (wpAny_field hos hds (x:=vl) rfl (wpAny_bind (wpAny_field hos hds (x:=vu) rfl (wpAny_bind (wpAny_field hos hds (x:=.none) rfl (wpAny_pure ?_)))))))
 refine wpAny_bind (slicePart_none ?_)
 show wpAny _ _ (if ((1:Int) == 0)=true then _ else _) _ _ s
 rw[if_neg (by decide)]
 refine wpAny_bind (ziq pl (wpAny_bind (ziq pu (wpAny_bind (wpAny_pure ?_)))))
 show wpAny _ _ (match Builtin.Slice.sliceAdjust lo hi 1 (n:Int) with|(lo,hi)=>pure (lo,(1:Int),Builtin.Slice.slicePlaces lo hi 1)) _ _ s
 rw[znr lo hi n]
 show wpAny _ _ (pure (((sIx n 0 lo:Nat):Int),(1:Int),Builtin.Slice.slicePlaces ((sIx n 0 lo:Nat):Int) ((sIx n n hi:Nat):Int) 1)) _ _ s
 rw[zmI]
 exact wpAny_pure h
theorem zqM(xs:Array Value)(i k:Nat):((List.range k).filterMap fun (m:Nat)=>xs[((i:Int)+(m:Int) * 1).toNat]?).toArray=((xs.toList.drop i).take k).toArray:=by
 have e:(fun (m:Nat)=>xs[((i:Int)+(m:Int) * 1).toNat]?)=fun m=>xs[i+m]? := by
  funext m
  have:((i:Int)+(m:Int) * 1).toNat=i+m:=by omega
  rw[this]
 rw[e]
 have:=pick_run xs i k
 rw[List.filterMap_map] at this
 have e2:((fun x=>xs[x]?) ∘ fun x=>i+x)=fun m=>xs[i+m]? := rfl
 rw[e2] at this
 rw[this]
theorem getItem_tuple_cut{t sl:Addr}{items:Array Value}{vl vu:Value}{lo hi:Option Int}{Q:Value->Shared->Prop}(ht:IsTup s.heap t items)(hs:s.heap.IsSliceOf sl vl vu .none)(pl:IsPart vl lo)(pu:IsPart vu hi)
  (hw:¬ (sIx items.size 0 lo=0/\sIx items.size items.size hi=items.size))
  (h:Q (.ref s.heap.objs.size) { s with heap:=s.heap.push { cls:=.type "tuple",data:=.seq ((items.toList.drop (sIx items.size 0 lo)).take (sIx items.size items.size hi-sIx items.size 0 lo)).toArray } })
  (hsz:items.size<=sizeLine):wpAny (model prog w) A (getItem (.ref t) (.ref sl)) Q E s:=by
 have htake:sizeOk (.seq ((items.toList.drop (sIx items.size 0 lo)).take (sIx items.size items.size hi-sIx items.size 0 lo)).toArray):=by
  show ((items.toList.drop (sIx items.size 0 lo)).take (sIx items.size items.size hi-sIx items.size 0 lo)).toArray.size<=sizeLine
  rw[List.size_toArray,List.length_take,List.length_drop,Array.length_toList]
  omega
 have hj:sIx items.size items.size hi<=items.size:=zug _ _ (Nat.le_refl _) hi
 obtain ⟨os,hos,hcs,hds⟩:=id hs
 have hTs:s.TypeIs (.ref sl) "slice":=⟨os,hos,hcs⟩
 unfold getItem
 try with_reducible refine wpAny_holding ?_
 first|refine wpAny_bind (wpAny_pure ?_)|skip
 refine wpAny_bind (wpAny_sequenceKey ht.typeIs (by decide) ?_)
 refine wpAny_bind (wpAny_callSpecial?_slot (name:=Str.ofString "__getitem__") ht.typeIs PyProof.Rows.slot_tuple_getitem
  (wpAny_call_entry PyProof.Rows.slot_tuple_getitem ht.typeIs entry_tuple_getitem ?_ (args_tuple_getitem _ _)))
 show wpAny _ _ (Builtin.Tuple.tupleItemsOf (.ref t) >>= _) _ _ s
 refine wpAny_bind (tupleItemsOf_ ht ?_)
 refine wpAny_bind (wpAny_typeOf hTs ?_)
 rw[if_pos (by decide)]
 refine wpAny_bind (sliceApplied_gen hs pl pu ?_)
 have hno:¬ ((((sIx items.size 0 lo:Nat):Int) == 0 && (1:Int) == 1 && (sIx items.size items.size hi-sIx items.size 0 lo) == items.size)=true):=by
  intro q
  rw[Bool.and_eq_true,Bool.and_eq_true] at q
  have q1:((sIx items.size 0 lo:Nat):Int)=0:=eq_of_beq q.1.1
  have q2:sIx items.size items.size hi-sIx items.size 0 lo=items.size:=eq_of_beq q.2
  exact hw ⟨by omega,by omega⟩
 show wpAny _ _ (if (((sIx items.size 0 lo:Nat):Int) == 0 && (1:Int) == 1 && (sIx items.size items.size hi-sIx items.size 0 lo) == items.size)=true then _ else _) _ _ s
 rw[if_neg hno,zqM]
 first
  |exact wpAny_bind (m:=Builtin.Tuple.tupleExact _) (wpAny_newObj_type (wpAny_pure ⟨_,rfl,wpAny_pure h⟩) htake)
  |exact wpAny_bind (m:=Builtin.Tuple.tupleExact _) (wpAny_newObj_type (wpAny_bind (wpAny_pure (wpAny_pure ⟨_,rfl,wpAny_pure h⟩))) htake)
  |exact wpAny_bind (wpAny_bind (m:=Builtin.Tuple.tupleExact _) (wpAny_newObj_type (wpAny_pure (wpAny_pure ⟨_,rfl,wpAny_pure h⟩)) htake))
  |exact wpAny_bind (wpAny_bind (m:=Builtin.Tuple.tupleExact _) (wpAny_newObj_type (wpAny_pure ⟨_,rfl,wpAny_pure h⟩) htake))
end
end HT
namespace L2
open PySem PySem.Spec PyProof.Rows
abbrev TO:=St->Hp->(Option Int->Hp->Prop)->Prop
def PO(X:Cx)(e:Option Expr)(t:TO):Prop :=
 ∀(pins:List (Addr×Obj))(s:Shared)(σ:St)(H:Hp)(Q:Option Int->Hp->Prop),Inv X pins σ H s->t σ H Q ->
  wpAny (model X.prog X.w) X.A (evalPart e X.env) (fun u s'=>∃ o H',Inv X pins σ H' s'/\IsPart u o/\Q o H') X.xe s
def zs3:TO:=fun _ H Q=>Q none H
def zva(t:TE):TO:=fun σ H Q=>t σ H fun x H1=>∃ i,x=.int i/\Q (some i) H1
theorem intsAre_of{ns:List Int}:∀{us:List Value},zbp (ns.map V.int) us->IntsAre us ns:=by
 induction ns with
 |nil=>intro us r;rw[List.map_nil] at r;cases r;exact .nil
 |cons n ns ih =>
  intro us r
  rw[List.map_cons] at r
  cases r with
  |cons r1 r2 =>
   obtain ⟨t,e⟩:=r1
   subst e
   exact .cons n t (ih r2)
section
variable{X:Cx}{e:Expr}{te:TE}{lo hi:Option Expr}{tl th:TO}{pos p2:Pos}
theorem zrZ:PO X none zs3:=by
 intro pins s σ H Q I h
 rw[evalPart_none]
 exact wpAny_pure ⟨none,H,I,.none,h⟩
theorem zta(h:PE X e te):PO X (some e) (zva te):=by
 intro pins s σ H Q I hw
 rw[evalPart_some]
 refine thn (h pins s σ H _ I hw) fun u s1 ⟨x,H1,I1,r1,q1⟩=>?_
 obtain ⟨i,rfl,q⟩:=q1
 obtain ⟨t,rfl⟩:=r1
 exact ⟨some i,H1,I1,.int i t,q⟩
def SlR(X:Cx)(r:V->Option Int->Option Int->Hp->VK->Prop):Prop :=
 ∀(pins:List (Addr×Obj))(s:Shared)(σ:St)(H:Hp)(x:V)(v vl vu:Value)(lo hi:Option Int)(sl:Addr)(Q:VK),Inv X pins σ H s->zcx x v->s.heap.IsSliceOf sl vl vu .none->IsPart vl lo->IsPart vu hi->r x lo hi H Q ->
  ∃ T id,typeLookup (.type T) "__getitem__"=pure (some (.builtin id))/\s.TypeIs v T/\wpAny (model X.prog X.w) X.A (getItem v (.ref sl)) (EP X pins σ Q) X.xe s
theorem SlR.or{r r':V->Option Int->Option Int->Hp->VK->Prop}(h:SlR X r)(h':SlR X r'):SlR X (fun x lo hi H Q=>r x lo hi H Q\/r' x lo hi H Q):=by
 intro pins s σ H x v vl vu lo hi sl Q I rx hs pl pu q
 rcases q with q|q
 ·exact h pins s σ H x v vl vu lo hi sl Q I rx hs pl pu q
 ·exact h' pins s σ H x v vl vu lo hi sl Q I rx hs pl pu q
def tSl(r:V->Option Int->Option Int->Hp->VK->Prop)(te:TE)(tl th:TO):TE:=fun σ H Q=>te σ H fun x H1=>tl σ H1 fun l H2=>th σ H2 fun u H3=>r x l u H3 Q
theorem zmw{r:V->Option Int->Option Int->Hp->VK->Prop}(hr:SlR X r)(he:PE X e te)(hl:PO X lo tl)(hu:PO X hi th):PE X (.Subscript e (.Slice lo hi none p2) pos) (tSl r te tl th):=by
 intro pins s σ H Q I h
 refine Subscript_ (thn (he pins s σ H _ I h) fun v s1 ⟨x,H1,I1,r1,q1⟩=>?_)
 refine wpAny_Slice (thn (hl pins s1 σ H1 _ I1 q1) fun vl s2 ⟨l,H2,I2,pl,q2⟩=>thn (hu pins s2 σ H2 _ I2 q2) fun vu s3 ⟨u,H3,I3,pu,q3⟩=>?_)
 rw[evalPart_none]
 refine wpAny_pure ?_
 have I4:Inv X pins σ H3 { s3 with heap:=s3.heap.push { cls:=.type "slice",data:=.fields #[vl,vu,.none] } }:=I3.kept (t':=s3.toks) fun b ob q=>Heap.get?_push_of_some _ q
 obtain ⟨T,id,hT,ht,hg⟩:=hr pins { s3 with heap:=s3.heap.push { cls:=.type "slice",data:=.fields #[vl,vu,.none] } } σ H3 x v vl vu l u s3.heap.objs.size Q I4 r1 (Heap.IsSliceOf.new ..) pl pu q3
 show wpAny (model X.prog X.w) X.A (subscriptTail e (.Slice lo hi none p2) v (.ref s3.heap.objs.size)) (EP X pins σ Q) X.xe { s3 with heap:=s3.heap.push { cls:=.type "slice",data:=.fields #[vl,vu,.none] } }
 exact tail_any (ops:=[.ref s3.heap.objs.size,v]) ht hT hg (by with_unfolding_all rfl)
def znF(xs:List V)(lo hi:Option Int):List V:=(xs.drop (HT.sIx xs.length 0 lo)).take (HT.sIx xs.length xs.length hi-HT.sIx xs.length 0 lo)
theorem zhg(xs:List V)(lo hi:Option Int):(znF xs lo hi).length<=xs.length:=by
 unfold znF
 rw[List.length_take,List.length_drop]
 omega
def rSlT(K:W.Frag):V->Option Int->Option Int->Hp->VK->Prop:=fun x lo hi H Q=>∃ a xs,x=.ref a/\SqT K H a xs /\
 ¬ (HT.sIx xs.length 0 lo=0/\HT.sIx xs.length xs.length hi=xs.length)/\∀ p,H p=none->Q (.ref p) (upd H p (.tup (znF xs lo hi)))
theorem ztH:SlR X (rSlT X.K):=by
 intro pins s σ H x v vl vu lo hi sl Q I rx hs pl pu h
 obtain ⟨a,xs,rfl,hx,hw,q⟩:=h
 cases rx
 obtain ⟨its,r,ht,hz⟩:=I.tuple hx
 have hlen:its.toArray.size=xs.length:=by rw[List.size_toArray];exact r.length.symm
 refine ⟨"tuple",_,PyProof.Rows.slot_tuple_getitem.lookup,ht.typeIs,?_⟩
 refine HT.getItem_tuple_cut ht hs pl pu (by rw[hlen];exact hw) ?_ (by rw[hlen];exact hz)
 rw[hlen]
 refine ⟨.ref s.heap.objs.size,_,I.laid (t':=s.toks) (o:=.tup (znF xs lo hi)) (fun b ob q=>Heap.get?_push_of_some _ q) (Nat.le_refl _) ?_,rfl,q _ (I.hok.fresh (Nat.le_refl _))⟩
 exact ⟨Nat.le_trans (zhg xs lo hi) hz,_,(r.drop (HT.sIx xs.length 0 lo)).take (HT.sIx xs.length xs.length hi-HT.sIx xs.length 0 lo),_,Heap.get?_push_size _ rfl⟩
end
end L2
namespace L2
open PySem PySem.Spec PyProof.Rows
def ixN(n:Nat)(i:Int):Option Nat:=if 0<=i then (if i<n then some i.toNat else none) else if -(n:Int)<=i then some (i+n).toNat else none
def atI{α:Type}(xs:List α)(i:Int):Option α:=(ixN xs.length i).bind fun j=>xs[j]?
theorem zlh{n:Nat}{i:Int}{j:Nat}(h:ixN n i=some j):seqIndex? i n=some j/\j<n/\-(n:Int)<=i/\i<n:=by
 unfold ixN at h
 by_cases h0:0<=i
 ·rw[if_pos h0] at h
  by_cases h1:i<n
  ·rw[if_pos h1] at h
   have e:i.toNat=j:=Option.some.inj h
   exact ⟨by rw[seqIndex_of h0 h1,e],by omega,by omega,h1⟩
  ·rw[if_neg h1] at h;cases h
 ·rw[if_neg h0] at h
  by_cases h1:-(n:Int)<=i
  ·rw[if_pos h1] at h
   have e:(i+n).toNat=j:=Option.some.inj h
   exact ⟨by rw[seqIndex_neg (by omega) h1,e],by omega,h1,by omega⟩
  ·rw[if_neg h1] at h;cases h
theorem zoZ{α:Type}{xs:List α}{i:Int}{v:α}(h:atI xs i=some v):∃ j,seqIndex? i xs.length=some j/\xs[j]? = some v/\j<xs.length/\-(xs.length:Int)<=i/\i<xs.length:=by
 unfold atI at h
 cases e:ixN xs.length i with
 |none=>rw[e] at h;cases h
 |some j =>
  rw[e] at h
  obtain ⟨h1,h2,h3,h4⟩:=zlh e
  exact ⟨j,h1,h,h2,h3,h4⟩
theorem zj2{α:Type}{xs:List α}{j:Nat}{v:α}(h:xs[j]? = some v):atI xs (j:Int)=some v:=by
 have hj:j<xs.length:=(List.getElem?_eq_some_iff.mp h).1
 have e:ixN xs.length (j:Int)=some j:=by
  unfold ixN
  rw[if_pos (by omega),if_pos (by omega)];simp
 unfold atI;rw[e];exact h
theorem zlQ{α:Type}(xs:List α)(v:α):atI (xs++[v]) (-1)=some v:=by
 have hl:(xs++[v]).length=xs.length+1:=by simp
 have e:ixN (xs++[v]).length (-1)=some xs.length:=by
  unfold ixN
  rw[hl,if_neg (by decide),if_pos (by omega)]
  congr 1
  omega
 unfold atI
 rw[e]
 show (xs++[v])[xs.length]? = some v
 simp
def zl9(b:Expr):Prop:=∀ o i,subscripted b false o i=operate [o,i] (getItem o i)
def IxR(X:Cx)(r:R2):Prop :=
 ∀(value slice:Expr)(pins:List (Addr×Obj))(s:Shared)(σ:St)(H:Hp)(x y:V)(v u:Value)(Q:VK),Inv X pins σ H s->zcx x v->zcx y u->r x y H Q ->
  subscripted slice false v u=operate [v,u] (getItem v u)->wpAny (model X.prog X.w) X.A (subscriptTail value slice v u) (EP X pins σ Q) X.xe s
def MtR(X:Cx)(id:String)(r:V->List V->Hp->VK->Prop):Prop :=
 ∀(pins:List (Addr×Obj))(s:Shared)(σ:St)(H:Hp)(x:V)(xs:List V)(v:Value)(us:List Value)(Q:VK),Inv X pins σ H s->zcx x v->zbp xs us->r x xs H Q ->
  wpAny (model X.prog X.w) X.A (call (.builtin id) (v::us)) (EP X pins σ Q) X.xe s
section
variable{X:Cx}{a b:Expr}{ta tb:TE}{pos:Pos}
theorem IxR.or{r r':R2}(h:IxR X r)(h':IxR X r'):IxR X (fun x y H Q=>r x y H Q\/r' x y H Q):=by
 intro value slice pins s σ H x y v u Q I rx ry q hs
 rcases q with q|q
 ·exact h value slice pins s σ H x y v u Q I rx ry q hs
 ·exact h' value slice pins s σ H x y v u Q I rx ry q hs
theorem MtR.or{id:String}{r r':V->List V->Hp->VK->Prop}(h:MtR X id r)(h':MtR X id r'):MtR X id (fun x xs H Q=>r x xs H Q\/r' x xs H Q):=by
 intro pins s σ H x xs v us Q I rx rs q
 rcases q with q|q
 ·exact h pins s σ H x xs v us Q I rx rs q
 ·exact h' pins s σ H x xs v us Q I rx rs q
theorem zt7{r:R2}(hr:IxR X r)(ha:PE X a ta)(hb:PE X b tb)(hs:zl9 b):PE X (.Subscript a b pos) (tOp r ta tb):=by
 intro pins s σ H Q I h
 exact Subscript_ (zvs ha hb I h fun v u s2 x y H2 I2 rx ry q=>hr a b pins s2 σ H2 x y v u Q I2 rx ry q (hs _ _))
def rIxL(K:W.Frag):R2:=fun x y H Q=>∃ p xs i v,x=.ref p/\y=.int i/\SqL K H p xs/\atI xs i=some v/\Q v H
def rIxT(K:W.Frag):R2:=fun x y H Q=>∃ p xs i v,x=.ref p/\y=.int i/\SqT K H p xs/\atI xs i=some v/\Q v H
theorem zov:IxR X (rIxL X.K):=by
 intro value slice pins s σ H x y v u Q I rx ry h hs
 obtain ⟨p,xs,i,z,rfl,rfl,hq,he,q⟩:=h
 cases rx
 obtain ⟨t,rfl⟩:=ry
 obtain ⟨its,r,pl,hz⟩:=I.list hq
 obtain ⟨j,h1,h2,h3,h4,h5⟩:=zoZ he
 obtain ⟨w,ew,rw'⟩:=r.get h2
 have hl:=r.length
 have hn:=zkG
 have fin:EP X pins σ Q w s:=⟨z,H,I,rw',q⟩
 by_cases h0:0<=i
 ·have hj:i.toNat=j:=by
   rw[seqIndex_of h0 h5] at h1
   exact Option.some.inj h1
  exact item_listR pl.isList h0 (by omega) (by rw[hj];simpa using ew) fin hs
 ·have hj:(i+(its.toArray.size:Int)).toNat=j:=by
   rw[seqIndex_neg (by omega) h4] at h1
   rw[List.size_toArray,<- hl]
   exact Option.some.inj h1
  exact subscriptTail_builtinR (x:=w) pl.isList.typeIs slot_list_getitem.lookup
   (wpAny_getItem_list_neg (Q:=fun r s'=>r=w/\EP X pins σ Q r s') pl.isList (by omega) (by rw[List.size_toArray] <;> omega) (by omega) (by rw[hj];simpa using ew) ⟨rfl,fin⟩) hs
theorem ztq:IxR X (rIxT X.K):=by
 intro value slice pins s σ H x y v u Q I rx ry h hs
 obtain ⟨p,xs,i,z,rfl,rfl,hq,he,q⟩:=h
 cases rx
 obtain ⟨t,rfl⟩:=ry
 obtain ⟨its,r,pl,hz⟩:=I.tuple hq
 obtain ⟨j,h1,h2,h3,h4,h5⟩:=zoZ he
 obtain ⟨w,ew,rw'⟩:=r.get h2
 have hl:=r.length
 have hn:=zkG
 have fin:EP X pins σ Q w s:=⟨z,H,I,rw',q⟩
 exact subscriptTail_builtinR (x:=w) pl.typeIs slot_tuple_getitem.lookup
  (getItem_tuple (j:=j) (Q:=fun r s'=>r=w/\EP X pins σ Q r s') pl (by omega) (by omega) (by rw[List.size_toArray,<- hl];exact h1) (by simpa using ew) ⟨rfl,fin⟩) hs
theorem znk(its:List Value)(n j:Nat)(u:Value):Obj.mapSeq (·.setIfInBounds j u) { cls:=.type "list",data:=.seq its.toArray n }={ cls:=.type "list",data:=.seq (its.set j u).toArray n }:=by
 simp[Obj.mapSeq]
theorem Inv.lst{pins:List (Addr×Obj)}{σ:St}{H:Hp}{s:Shared}{p:Addr}{xs:List V}(I:Inv X pins σ H s)(h:H p=some (.lst xs)) :
  ∃(its:List Value)(n:Nat),zbp xs its/\s.heap.get? p=some { cls:=.type "list",data:=.seq its.toArray n }/\xs.length<=sizeLine:=by
 obtain ⟨z,its,n,r,e⟩:=I.hok p _ h
 exact ⟨its,n,r,e,z⟩
theorem Inv.lstUpd{pins:List (Addr×Obj)}{σ:St}{H:Hp}{s:Shared}{p:Addr}{xs ys:List V}{its its':List Value}{n n':Nat}{f:Obj->Obj}(I:Inv X pins σ H s)(h:H p=some (.lst xs))
  (ho:s.heap.get? p=some { cls:=.type "list",data:=.seq its.toArray n }) (hf:f { cls:=.type "list",data:=.seq its.toArray n }={ cls:=.type "list",data:=.seq its'.toArray n' }) (r:zbp ys its') (hz:ys.length<=sizeLine) (t:Nat) :
  Inv X pins σ (upd H p (.lst ys)) { s with heap:=s.heap.update p f,toks:=t }:=by
 have e:(s.heap.update p f).get? p=some { cls:=.type "list",data:=.seq its'.toArray n' }:=by
  rw[Heap.get?_update_self f ho (by rw[hf] <;> rfl),hf]
 refine I.write (x:=p) (e:=p) (by rw[h];trivial) (.inl rfl) (fun b u hb q=>(Heap.get?_update_other _ _ (Ne.symm hb)).trans q) ⟨_,e⟩ ?_
 exact ⟨hz,its',n',r,e⟩
def zvy:V->V->V->Hp->(Hp->Prop)->Prop:=fun o i v H Q=>∃ p xs k j,o=.ref p/\i=.int k/\H p=some (.lst xs)/\ixN xs.length k=some j/\Q (upd H p (.lst (xs.set j v)))
theorem zq9:PSet X zvy:=by
 intro pins s σ H o i v ov iv u Q I ro ri rv h
 obtain ⟨p,xs,k,j,rfl,rfl,hp,hj,q⟩:=h
 cases ro
 obtain ⟨t,rfl⟩:=ri
 obtain ⟨its,n,r,ho,hz⟩:=I.lst hp
 obtain ⟨h1,h2,h3,h4⟩:=zlh hj
 have hl:=r.length
 have hn:=zkG
 have I':Inv X pins σ (upd H p (.lst (xs.set j v))) { s with heap:=s.heap.update p (Obj.mapSeq (·.setIfInBounds j u)) } :=
  I.lstUpd hp ho (znk its n j u) (r.set rv j) (by rw[List.length_set];exact hz) s.toks
 by_cases h0:0<=k
 ·have hk:k.toNat=j:=by
   rw[seqIndex_of h0 h4] at h1
   exact Option.some.inj h1
  exact W.ki_setAt ho h0 (by omega) (by rw[List.size_toArray,<- hl];exact h4) (by rw[hk];exact ⟨_,I',q⟩)
 ·have hk:(k+(its.toArray.size:Int)).toNat=j:=by
   rw[seqIndex_neg (by omega) h3] at h1
   rw[List.size_toArray,<- hl]
   exact Option.some.inj h1
  exact W.ki_setBack ho (by omega) (by rw[List.size_toArray,<- hl];exact h3) (by omega) (by rw[hk];exact ⟨_,I',q⟩)
theorem zk5(lo hi:Option Int)(n:Nat):(sliceBounds lo hi none n).1=((HT.sIx n 0 lo:Nat):Int)/\(sliceBounds lo hi none n).2.1=((HT.sIx n n hi:Nat):Int)/\(sliceBounds lo hi none n).2.2=1:=by
 refine ⟨?_,?_,rfl⟩
 ·cases lo with
  |none=>simp[sliceBounds,HT.sIx]
  |some i =>
   simp only[sliceBounds,HT.sIx,Option.getD_none,show (1:Int) > 0 by decide,if_true]
   by_cases h:i<0
   ·simp only[h,if_true] <;> omega
   ·simp only[h,if_false] <;> omega
 ·cases hi with
  |none=>simp[sliceBounds,HT.sIx]
  |some i =>
   simp only[sliceBounds,HT.sIx,Option.getD_none,show (1:Int) > 0 by decide,if_true]
   by_cases h:i<0
   ·simp only[h,if_true] <;> omega
   ·simp only[h,if_false] <;> omega
theorem ziS(its:List Value)(lo hi:Option Int):slicePick its.toArray lo hi none=((its.drop (HT.sIx its.length 0 lo)).take (HT.sIx its.length its.length hi-HT.sIx its.length 0 lo)).toArray:=by
 obtain ⟨h1,h2,h3⟩:=zk5 lo hi its.toArray.size
 unfold slicePick
 rw[h1,h2,h3]
 simp only[sliceRange_one,pick_run,List.size_toArray] <;> rfl
def rSlL(K:W.Frag):V->Option Int->Option Int->Hp->VK->Prop:=fun x lo hi H Q=>∃ a xs,x=.ref a/\SqL K H a xs/\∀ p,H p=none->Q (.ref p) (upd H p (.lst (znF xs lo hi)))
theorem zsG:SlR X (rSlL X.K):=by
 intro pins s σ H x v vl vu lo hi sl Q I rx hs pl pu h
 obtain ⟨a,xs,rfl,hx,q⟩:=h
 cases rx
 obtain ⟨its,r,ht,hz⟩:=I.list hx
 have hlen:=r.length
 refine ⟨"list",_,slot_list_getitem.lookup,ht.isList.typeIs,?_⟩
 refine wpAny_getItem_list_slice ht.isList hs pl pu .none (by simp) ?_ (by rw[List.size_toArray] <;> omega)
 rw[ziS,<- hlen]
 refine ⟨.ref s.heap.objs.size,_,I.laid (t':=s.toks) (o:=.lst (znF xs lo hi)) (fun b ob q=>Heap.get?_push_of_some _ q) (Nat.le_refl _) ?_,rfl,q _ (I.hok.fresh (Nat.le_refl _))⟩
 exact ⟨Nat.le_trans (zhg xs lo hi) hz,_,0,(r.drop (HT.sIx xs.length 0 lo)).take (HT.sIx xs.length xs.length hi-HT.sIx xs.length 0 lo),Heap.get?_push_size _ rfl⟩
theorem zgC:zcz X (.builtin "len") (fun xs H Q=>∃ p ys,xs=[.ref p]/\(SqL X.K H p ys\/SqT X.K H p ys)/\Q (.int ys.length) H):=by
 intro pins s σ H xs us Q I r h
 obtain ⟨p,ys,rfl,hq,q⟩:=h
 obtain ⟨u,rfl,rx⟩:=zfd r
 cases rx
 have hn:=zkG
 rcases hq with hq|hq
 ·obtain ⟨its,r',pl,hz⟩:=I.list hq
  have hlen:=r'.length
  exact Calls.call_len_list pl.isList (by simp only[List.size_toArray] <;> omega) ⟨.int ys.length,H,I.tok _,⟨s.toks+1,by rw[List.size_toArray,hlen]⟩,q⟩
 ·obtain ⟨its,r',pl,hz⟩:=I.tuple hq
  have hlen:=r'.length
  exact len_tuple pl (by simp only[List.size_toArray] <;> omega) ⟨.int ys.length,H,I.tok _,⟨s.toks+1,by rw[List.size_toArray,hlen]⟩,q⟩
theorem zk6:zcz X (.builtin "len") (fun xs H Q=>∃ z,xs=[.str z]/\z.length<=sizeLine/\Q (.int z.length) H):=by
 intro pins s σ H xs us Q I r h
 obtain ⟨z,rfl,hz,q⟩:=h
 obtain ⟨u,rfl,t,rfl⟩:=zfd r
 have hn:=zkG
 exact len_str (by omega) ⟨.int z.length,H,I.tok _,⟨_,rfl⟩,q⟩
theorem zcz.or{f:Value}{r r':List V->Hp->VK->Prop}(h:zcz X f r)(h':zcz X f r'):zcz X f (fun xs H Q=>r xs H Q\/r' xs H Q):=by
 intro pins s σ H xs us Q I rs q
 rcases q with q|q
 ·exact h pins s σ H xs us Q I rs q
 ·exact h' pins s σ H xs us Q I rs q
theorem zjY:zcz X (.type "list") (fun xs H Q=>∃ p ys,xs=[.ref p]/\(SqL X.K H p ys\/SqT X.K H p ys)/\∀ l,H l=none->Q (.ref l) (upd H l (.lst ys))):=by
 intro pins s σ H xs us Q I r h
 obtain ⟨p,ys,rfl,hq,q⟩:=h
 obtain ⟨u,rfl,rx⟩:=zfd r
 cases rx
 have fin:∀(its:List Value),zbp ys its->ys.length<=sizeLine->∀(h':Heap)(c':Nat),(∀ b o',s.heap.get? b=some o'->h'.get? b=some o') ->
   h'.get? s.heap.objs.size=some { cls:=.type "list",dict:=none,data:=.seq its.toArray c',slots:=#[] }->EP X pins σ Q (.ref s.heap.objs.size) { s with heap:=h' }:=fun its r' hz h' c' kp e =>
  ⟨.ref s.heap.objs.size,_,I.laid (t':=s.toks) kp (Nat.le_refl _) (show zct X.prog X.w _ h' _ (.lst ys) from ⟨hz,its,c',r',e⟩),rfl,q _ (I.hok.fresh (Nat.le_refl _))⟩
 rcases hq with hq|hq
 ·obtain ⟨its,r',pl,hz⟩:=I.list hq
  have hlen:=r'.length
  obtain ⟨o,ho,hc,n,hd⟩:=pl.isList
  exact call_list_seq p (.inl rfl) ho hc hd (fun h' c' kp e=>fin its r' hz h' c' kp e) (by simp only[List.size_toArray] <;> omega)
 ·obtain ⟨its,r',pl,hz⟩:=I.tuple hq
  have hlen:=r'.length
  obtain ⟨o,ho,hc,n,hd⟩:=pl
  exact call_list_seq p (.inr rfl) ho hc hd (fun h' c' kp e=>fin its r' hz h' c' kp e) (by simp only[List.size_toArray] <;> omega)
theorem ziL:zcz X (.type "tuple") (fun xs H Q=>∃ p ys,xs=[.ref p]/\((SqL X.K H p ys/\∀ l,H l=none->Q (.ref l) (upd H l (.tup ys)))\/(SqT X.K H p ys/\Q (.ref p) H))):=by
 intro pins s σ H xs us Q I r h
 obtain ⟨p,ys,rfl,h⟩:=h
 obtain ⟨u,rfl,rx⟩:=zfd r
 cases rx
 rcases h with ⟨hq,q⟩|⟨hq,q⟩
 ·obtain ⟨its,r',pl,hz⟩:=I.list hq
  have hlen:=r'.length
  refine call_tuple_list pl.isList (fun h' kp=>?_) (by simp only[List.size_toArray] <;> omega)
  have I1:Inv X pins σ H { s with heap:=h' }:=I.kept (t':=s.toks) kp
  have I2:Inv X pins σ (upd H h'.objs.size (.tup ys)) { s with heap:=h'.push { cls:=.type "tuple",data:=.seq its.toArray } } :=
   I1.laid (t':=s.toks) (fun b o e=>Heap.get?_push_of_some _ e) (Nat.le_refl _) (show zct X.prog X.w _ _ _ (.tup ys) from ⟨hz,its,r',_,Heap.get?_push_size _ rfl⟩)
  exact ⟨.ref h'.objs.size,_,I2,rfl,q _ (I1.hok.fresh (Nat.le_refl _))⟩
 ·obtain ⟨its,r',pl,hz⟩:=I.tuple hq
  exact call_tuple_same pl ⟨.ref p,H,I,rfl,q⟩
def tyV(K:W.Frag)(T:String)(x:V)(H:Hp):Prop:=match x with
 |.str _=>T="str"
 |.int _=>T="int"
 |.ref p=>(T="list"/\∃ xs,SqL K H p xs)\/(T="tuple"/\∃ o,K.lookup p=some o/\o.cls=.type "tuple"/\o.dict=none) \/
   (T="dict"/\((∃ kvs,H p=some (.dK kvs))\/∃ kvs,H p=some (.dT kvs)))\/(T="set"/\∃ S n,H p=some (.set S n))
 |_=>False
theorem ztM{pins:List (Addr×Obj)}{σ:St}{H:Hp}{s:Shared}{T:String}{x:V}{v:Value}(I:Inv X pins σ H s)(r:zcx x v)(ty:tyV X.K T x H) :
  s.TypeIs v T/\∀ a,v=.ref a->∃ ob,s.heap.get? a=some ob/\ob.dict=none:=by
 cases x with
 |str z =>
  obtain ⟨t,rfl⟩:=r
  cases (show T="str" from ty)
  exact ⟨typeIs_str s z t,fun _ e=>nomatch e⟩
 |int i =>
  obtain ⟨t,rfl⟩:=r
  cases (show T="int" from ty)
  exact ⟨typeIs_int s i t,fun _ e=>nomatch e⟩
 |ref p =>
  cases r
  rcases ty with ⟨rfl,xs,hq⟩|⟨rfl,o,hk,hc,hd⟩|⟨rfl,hk⟩|⟨rfl,S,n,hk⟩
  ·obtain ⟨its,_,pl,_⟩:=I.list hq
   refine ⟨pl.isList.typeIs,fun a e=>?_⟩
   cases e
   obtain ⟨o,n,e,c,hd,_⟩:=pl
   exact ⟨o,e,hd⟩
  ·refine ⟨⟨o,I.kIn p o hk,hc⟩,fun a e=>?_⟩
   cases e
   exact ⟨o,I.kIn _ o hk,hd⟩
  ·have z:∃ o,s.heap.get? p=some o/\o.ExactDict:=by
    rcases hk with ⟨kvs,hk⟩|⟨kvs,hk⟩
    ·obtain ⟨_,_,_,_,o,_,_,e,ex,_⟩:=I.hok p _ hk
     exact ⟨o,e,ex⟩
    ·obtain ⟨_,_,_,_,o,_,_,e,ex,_⟩:=I.hok p _ hk
     exact ⟨o,e,ex⟩
   obtain ⟨o,e,ex⟩:=z
   refine ⟨⟨o,e,ex.1⟩,fun a e2=>?_⟩
   cases e2
   exact ⟨o,e,ex.2.1⟩
  ·obtain ⟨o,_,_,_,e,ex,_⟩:=I.hok p _ hk
   refine ⟨⟨o,e,ex.1⟩,fun a e2=>?_⟩
   cases e2
   exact ⟨o,e,ex.2.1⟩
 |_=>exact False.elim ty
def tBM(K:W.Frag)(T:String)(r:V->List V->Hp->VK->Prop)(to:TE)(t:TA):TE:=fun σ H Q=>to σ H fun x H1=>tyV K T x H1/\t σ H1 fun xs H2=>r x xs H2 Q
variable{o e:Expr}{es:List Expr}{to:TE}{t:TA}{name:Str}{apos cpos:Pos}{T id:String}{r:V->List V->Hp->VK->Prop}
theorem zpf(pa:PlainAttrs T)(slot:Slot T name id)(hty:typeOf (.builtin id)=pure (.type "method_descriptor"))(hm:MtR X id r)(ho:PE X o to)(ha:PA X (e::es) t)
  (hbase:attributeBase o name X.env (eval o X.env)=eval o X.env:=by rfl)
  (hfew:((backTo cpos (starEach (e::es) X.env)).all (fun x=>!x.1) && (backToKw cpos (keywordEach [] X.env)).all (fun x=>x.1.isSome)
   && decide ((e::es).length+([]:List Keyword).length+(if ([]:List Keyword).isEmpty then 0 else 1)<30))=true:=by rfl)
  (hline:(apos.endLine == cpos.line)=true:=by rfl) (hs:starEach (e::es) X.env=(false,eval e X.env)::starEach es X.env:=by rfl) (hplain:(backTo cpos (starEach es X.env)).any (·.1)=false:=by rfl) :
  PE X (.Call (.Attribute o name apos) (e::es) [] cpos) (tBM X.K T r to t):=by
 intro pins s σ H Q I h
 refine wpAny_Call_method_late hbase hfew hline rfl (thn (ho pins s σ H _ I h) fun v s1 ⟨x,H1,I1,r1,ty,q1⟩=>?_)
 obtain ⟨h1,h2⟩:=ztM I1 r1 ty
 refine ⟨T,id,pa,slot,hty,h1,h2,?_⟩
 have hA:=ha cpos pins s1 σ H1 _ I1 q1
 rw[hs] at hA ⊢
 refine Calls.callWith_builtin (by show (false || (backTo cpos (starEach es X.env)).any (·.1))=false;rw[hplain] <;> rfl) (Calls.evalArgs_plain ?_)
 exact thn hA fun us s2 ⟨vs,H2,I2,r2,q2⟩=>hm pins s2 σ H2 x vs v us Q I2 r1 r2 q2
end
end L2
namespace L2
open PySem PySem.Spec PyProof.Rows
def MtM(X:Cx)(id:String)(r:V->List V->Hp->VK->Prop):Prop :=
 ∀(pins:List (Addr×Obj))(s:Shared)(σ:St)(H:Hp)(x:V)(xs:List V)(v:Value)(us:List Value)(Q:VK),Inv X pins σ H s->zcx x v->zbp xs us->r x xs H Q ->
  wpAny (model X.prog X.w) X.A (call (.builtin id) (v::us)) (EP X pins σ Q) X.xe s
theorem zbp.one:∀{x:V}{us:List Value},zbp [x] us->∃ u,us=[u]/\zcx x u
 |_,_,.cons r .nil=>⟨_,rfl,r⟩
theorem zbp.dropLast{xs:List V}{us:List Value}(h:zbp xs us):zbp xs.dropLast us.dropLast:=by
 induction h with
 |nil=>exact .nil
 |cons r t ih =>
  cases t with
  |nil=>exact .nil
  |cons q t'=>exact .cons r ih
theorem zbp.eraseIdx:∀{xs:List V}{us:List Value}(i:Nat),zbp xs us->zbp (xs.eraseIdx i) (us.eraseIdx i)
 |_,_,_,.nil=>.nil
 |_,_,0,.cons _ t=>t
 |_,_,i+1,.cons r t=>.cons r (zbp.eraseIdx i t)
theorem zbp.reverse{xs:List V}{us:List Value}(h:zbp xs us):zbp xs.reverse us.reverse:=by
 induction h with
 |nil=>exact .nil
 |cons r t ih=>rw[List.reverse_cons,List.reverse_cons];exact zbp.append ih (.cons r .nil)
theorem zbp.rep{xs:List V}{us:List Value}(h:zbp xs us):∀ k:Nat,zbp (List.replicate k xs).flatten (List.replicate k us).flatten
 |0=>.nil
 |k+1=>by
  rw[List.replicate_succ,List.replicate_succ,List.flatten_cons,List.flatten_cons]
  exact zbp.append h (zbp.rep h k)
theorem zk7{α:Type}:∀(l:List α)(i:Nat),(l.eraseIdx i).length<=l.length
 |[],_=>Nat.le_refl _
 |_::_,0=>Nat.le_succ _
 |_::r,i+1=>Nat.succ_le_succ (zk7 r i)
theorem zks(its:List Value):∀(k:Nat)(acc:List Value),
  List.foldl (fun x1 x2=>x1++x2) acc.toArray (List.replicate k its.toArray)=(acc++(List.replicate k its).flatten).toArray
 |0,acc=>by simp
 |k+1,acc=>by
  have e:acc.toArray++its.toArray=(acc++its).toArray:=by simp
  have e2:(acc++its)++(List.replicate k its).flatten=acc++(List.replicate (k+1) its).flatten:=by
   rw[List.replicate_succ,List.flatten_cons,List.append_assoc]
  rw[<- e2,<- zks its k (acc++its),<- e,List.replicate_succ,List.foldl_cons]
section
variable{X:Cx}{pins:List (Addr×Obj)}{σ:St}{H:Hp}{s:Shared}{l b:Addr}{xs ys zs:List V}
theorem Inv.lset{its its':List Value}{n:Nat}{f:Array Value->Array Value}{t':Nat}(I:Inv X pins σ H s)(hH:H l=some (.lst xs))
  (e:s.heap.get? l=some { cls:=.type "list",data:=.seq its.toArray n }) (hf:f its.toArray=its'.toArray) (hv:zbp ys its') (hz:ys.length<=sizeLine) :
  Inv X pins σ (upd H l (.lst ys)) { s with heap:=s.heap.update l (Obj.mapSeq f),toks:=t' }:=by
 have q:=PySem.IsL.update e f
 rw[hf] at q
 refine I.write (x:=l) (e:=l) (by rw[hH];exact trivial) (.inl rfl) (fun b' u hb hu=>(Heap.get?_update_other s.heap (Obj.mapSeq f) (Ne.symm hb)).trans hu) ⟨_,q⟩ ?_
 exact ⟨hz,its',_,hv,q⟩
theorem Inv.lnew{its:List Value}{t':Nat}(I:Inv X pins σ H s)(hv:zbp ys its)(hz:ys.length<=sizeLine) :
  Inv X pins σ (upd H s.heap.objs.size (.lst ys)) { s with heap:=s.heap.push { cls:=.type "list",data:=.seq its.toArray },toks:=t' } :=
 I.laid (fun _ _ q=>Heap.get?_push_of_some _ q) (Nat.le_refl _) ⟨hz,its,0,hv,Heap.get?_push_size _ rfl⟩
theorem Inv.fresh(I:Inv X pins σ H s):H s.heap.objs.size=none:=I.hok.fresh (Nat.le_refl _)
theorem Inv.lstM(I:Inv X pins σ H s)(hH:H l=some (.lst xs)):xs.length<=sizeLine/\∃(its:List Value)(n:Nat),zbp xs its/\xs.length=its.length/\s.heap.get? l=some { cls:=.type "list",data:=.seq its.toArray n }:=by
 obtain ⟨z,its,n,r,e⟩:=I.hok l _ hH
 exact ⟨z,its,n,r,r.length,e⟩
theorem zji{n:Nat}(h:n<=sizeLine):Builtin.List.listTooLong n=false:=by
 unfold Builtin.List.listTooLong
 exact decide_eq_false (by omega)
end
section
variable{X:Cx}
def zsN:V->List V->Hp->VK->Prop:=fun x vs H Q=>∃ l xs y,x=.ref l/\vs=[y]/\H l=some (.lst xs)/\xs.length<sizeLine/\Q .non (upd H l (.lst (xs++[y])))
theorem zhr:MtM X "list.append" zsN:=by
 intro pins s σ H x vs v us Q I rx rv h
 obtain ⟨l,xs,y,rfl,rfl,hH,hz,q⟩:=h
 cases rx
 obtain ⟨u,rfl,ru⟩:=rv.one
 obtain ⟨z,its,n,r,hl,e⟩:=I.lstM hH
 refine call_meets F.slot_list_append ⟨_,e,rfl⟩ F.entry_list_append (F.args_list_append_2 _ _) (PySem.list_append l its.toArray n u (by rw[List.size_toArray];omega)) ⟨e,?_⟩
 refine ⟨.non,_,I.lset (its':=its++[u]) hH e (by simp) (r.append (.cons ru .nil)) ?_,rfl,q⟩
 rw[List.length_append,List.length_singleton]
 omega
def zr8:V->List V->Hp->VK->Prop:=fun x vs H Q=>∃ l b xs zs,x=.ref l/\vs=[.ref b]/\H l=some (.lst xs)/\H b=some (.lst zs)/\xs.length+zs.length<=sizeLine/\Q .non (upd H l (.lst (xs++zs)))
theorem znG:MtM X "list.extend" zr8:=by
 intro pins s σ H x vs v us Q I rx rv h
 obtain ⟨l,b,xs,zs,rfl,rfl,hH,hB,hz,q⟩:=h
 cases rx
 obtain ⟨u,rfl,ru⟩:=rv.one
 cases ru
 obtain ⟨z,its,n,r,hl,e⟩:=I.lstM hH
 obtain ⟨z2,its2,n2,r2,hl2,e2⟩:=I.lstM hB
 have hsz:its.toArray.size+its2.toArray.size<=sizeLine:=by rw[List.size_toArray,List.size_toArray];omega
 have hlong:¬ (!its.toArray.isEmpty && Builtin.List.listTooLong (its.toArray.size+its2.toArray.size))=true:=by
  rw[zji hsz,Bool.and_false]
  exact Bool.false_ne_true
 refine call_meets F.slot_list_extend ⟨_,e,rfl⟩ F.entry_list_extend (F.args_list_extend_2 _ _)
  (AutoSeq1.list_extend_list_list_0 l its.toArray n b its2.toArray n2 hlong (by rw[List.size_toArray];omega) (by omega)) ⟨e,e2,?_⟩
 refine ⟨.non,_,I.lset (its':=its++its2) hH e (by simp) (r.append r2) ?_,rfl,q⟩
 rw[List.length_append]
 omega
def ztp:V->List V->Hp->VK->Prop:=fun x vs H Q=>∃ l xs i k y,x=.ref l/\vs=[.int i]/\H l=some (.lst xs)/\-(2 ^ 63)<=i/\i<2 ^ 63/\seqIndex? i xs.length=some k/\xs[k]? = some y/\Q y (upd H l (.lst (xs.eraseIdx k)))
theorem zpF:MtM X "list.pop" ztp:=by
 intro pins s σ H x vs v us Q I rx rv h
 obtain ⟨l,xs,i,k,y,rfl,rfl,hH,h1,h2,hk,hy,q⟩:=h
 cases rx
 obtain ⟨u,rfl,ru⟩:=rv.one
 obtain ⟨t,rfl⟩:=ru
 obtain ⟨z,its,n,r,hl,e⟩:=I.lstM hH
 obtain ⟨w,hw,rw'⟩:=r.get hy
 refine call_meets F.slot_list_pop ⟨_,e,rfl⟩ F.entry_list_pop (F.args_list_pop_2 _ _)
  (MeetsSeq.list_pop_at l its.toArray n i t k w (fitsIndex_both h1 h2) (by rw[List.size_toArray,<- hl];exact hk) (by rw[<- Array.getElem?_toList];exact hw) (by rw[List.size_toArray];omega)) ⟨e,?_⟩
 refine ⟨y,_,I.lset (its':=its.eraseIdx k) hH e ?_ (r.eraseIdx k) ?_,rw',q⟩
 ·show its.toArray.eraseIdxIfInBounds k=(its.eraseIdx k).toArray
  rw[List.eraseIdxIfInBounds_toArray]
 ·have:=zk7 xs k
  omega
def rCat:R2:=fun x y H Q=>∃ l b xs zs,x=.ref l/\y=.ref b/\H l=some (.lst xs)/\H b=some (.lst zs)/\xs.length+zs.length<=sizeLine/\∀ p,H p=none->Q (.ref p) (upd H p (.lst (xs++zs)))
theorem ztt:OpR X (binaryOp .Add) rCat:=by
 intro pins s σ H x y v u Q I rx ry h
 obtain ⟨l,b,xs,zs,rfl,rfl,hH,hB,hz,q⟩:=h
 cases rx
 cases ry
 obtain ⟨z,its,n,r,hl,e⟩:=I.lstM hH
 obtain ⟨z2,its2,n2,r2,hl2,e2⟩:=I.lstM hB
 refine PySem.P.add_list e e2 ?_ (by rw[List.size_toArray,List.size_toArray];omega)
 have ea:its.toArray++its2.toArray=(its++its2).toArray:=by simp
 rw[ea]
 exact ⟨.ref _,_,I.lnew (t':=s.toks) (r.append r2) (by rw[List.length_append];omega),rfl,q _ I.fresh⟩
def rRep:R2:=fun x y H Q=>∃ l k xs,x=.ref l/\y=.int k/\H l=some (.lst xs)/\-(2 ^ 63)<=k/\k<2 ^ 63/\xs.length * k.toNat<=sizeLine /\
 ∀ p,H p=none->Q (.ref p) (upd H p (.lst (List.replicate k.toNat xs).flatten))
theorem zrH{α:Type}(xs:List α)(k:Nat):(List.replicate k xs).flatten.length=k * xs.length:=by
 induction k with
 |zero=>simp
 |succ k ih=>rw[List.replicate_succ,List.flatten_cons,List.length_append,ih,Nat.succ_mul,Nat.add_comm]
theorem zt8:OpR X (binaryOp .Mult) rRep:=by
 intro pins s σ H x y v u Q I rx ry h
 obtain ⟨l,k,xs,rfl,rfl,hH,h1,h2,hz,q⟩:=h
 cases rx
 obtain ⟨t,rfl⟩:=ry
 obtain ⟨z,its,n,r,hl,e⟩:=I.lstM hH
 have hlen:its.toArray.size * k.toNat<=sizeLine:=by rw[List.size_toArray,<- hl];exact hz
 have hcap:¬ its.toArray.size * k.toNat > (2 ^ 63-1) / 8:=by
  have:(sizeLine:Nat)<=(2 ^ 63-1) / 8:=by decide
  omega
 have hfit:¬ (!Builtin.List.listFitsIndex k)=true:=by
  rw[fitsIndex_both h1 h2]
  exact Bool.false_ne_true
 have hlong:¬ Builtin.List.listTooLong (its.toArray.size * k.toNat)=true:=by
  rw[zji hlen]
  exact Bool.false_ne_true
 have hnew:List.foldl (fun x1 x2=>x1++x2) #[] (List.replicate (if its.toArray.isEmpty=true then 0 else k.toNat) its.toArray)=(List.replicate k.toNat its).flatten.toArray:=by
  have f0:∀ m:Nat,List.foldl (fun x1 x2=>x1++x2) #[] (List.replicate m its.toArray)=(List.replicate m its).flatten.toArray:=fun m=>by
   have:=zks its m []
   rw[List.nil_append] at this
   exact this
  rw[f0]
  cases its with
  |nil=>simp
  |cons a r'=>rw[if_neg (by simp)]
 refine wpAny_binaryOp_repeat_ref (T:="list") (U:="int") (by decide) ⟨_,e,rfl⟩ (fun s'=>typeIs_int s' k t) noFill_list_mul F.fills_int_mul F.slot_int_rmul repeat_list F.slot_int_index.lookup
  (call_meets F.slot_int_rmul (typeIs_int s k t) F.entry_int_rmul (F.args_int_rmul_2 _ _) (int___rmul___int_list k t l its.toArray n)
   ⟨e,rfl,⟨_,e,rfl⟩,call_meets F.slot_list_mul ⟨_,e,rfl⟩ F.entry_list_mul (F.args_list_mul_2 _ _) (AutoListH.list___mul___list_int_3 l its.toArray n k t hfit hcap hlong) ⟨e,?_⟩⟩)
 rw[hnew]
 exact ⟨.ref _,_,I.lnew (t':=s.toks) (r.rep k.toNat) (by rw[zrH,Nat.mul_comm];exact hz),rfl,q _ I.fresh⟩
end
section
variable{prog:Program}{w:World}{A:Around}{E:Value->Shared->Prop}{s:Shared}
set_option maxRecDepth 100000 in
end
section
variable{X:Cx}
end
end L2
namespace Att
open PySem PySem.W PySem.Calls PyProof.Rows
theorem zhG{P:Params}{h:Heap}:∀(ns:List Int)(vs:List Value),WellAll P h vs (ns.map WData.int)->IntsAre vs ns:=by
 intro ns
 induction ns with
 |nil =>
  intro vs w
  rw[List.map_nil] at w
  cases w
  exact .nil
 |cons n ns ih =>
  intro vs w
  rw[List.map_cons] at w
  cases w with
  |cons a b =>
   cases a
   exact .cons _ _ (ih _ b)
theorem zpc{l:OpenLaw}{n:Nat}(hn:l.most=some n){P:Params}{h:Heap}{args:List WData}{vals:List Value}
  (hpre:l.row.toRowW.claim.pre args=true) (hwl:WellAll P h vals args) :
  ∃ a vs ns,vals=[Value.ref a]/\args=[WData.list (ns.map WData.int)]/\h.get? a=some { cls:=.type "list",data:=.seq vs.toArray }/\IntsAre vs ns/\ns.length<=n:=by
 have hsh:WShape.hasAll [] args [.list .int]=true:=(pre_splitW hpre).1
 have hc:l.pre.holds [] { args:=args }=true:=(pre_splitW hpre).2
 obtain ⟨d,r,rfl,h1,h2⟩:=hasAllW_cons hsh
 obtain rfl:=hasAllW_nil h2
 obtain ⟨xs,rfl,h3⟩:=hasW_list h1
 obtain ⟨ns,rfl⟩:=items_int h3
 have hlen:ns.length<=n:=by
  unfold OpenLaw.pre at hc
  have h4:(WTm.not (.lt (.lit (.int (n:Int))) (.len (.arg 0)))).holds [] { args:=[.list (ns.map .int)] }=true:=by
   have h4:=(holds_andW hc).1
   rw[hn] at h4
   exact h4
  have h5:=condW_of h4 (w_not (w_lt w_lit (w_len_list (w_arg rfl))))
  rw[List.length_map] at h5
  refine Nat.le_of_not_lt fun q=>?_
  have q':(n:Int)<((ns.length:Nat):Int):=by omega
  first
   | (rw[decide_eq_true q'] at h5;exact absurd h5 (by decide))
   | (simp at h5;omega)
 cases hwl with
 |cons w1 w2 =>
  cases w2
  cases w1 with
  |list ho hall=>exact ⟨_,_,ns,rfl,rfl,ho,zhG ns _ hall,hlen⟩
theorem znQ(l:OpenLaw)(args:List WData):l.row.toRowW.claim.post args (.bool true) args=true :=
 postW_of (r:=l.row.toRowW) (X:=(true == true))
  (show WShape.has [] (.bool true) .bool=true by first|rfl|decide|simp[WShape.has,WShape.arms,WShape.armsAll])
  (show (WTm.eq .res (.lit (.bool true))).value [] { args:=args,res:=some (.bool true),after:=args }=some (.bool (true == true)) from w_eq_bool (w_res rfl) w_lit) rfl
theorem attach_call{l:OpenLaw}{n:Nat}{q:Program}{loose:List Str}{XP:(Str->Option Value)->Heap->Prop}{YP:World->Heap->Prop}{d:DefRec}
  (hn:l.most=some n) (hdf:d.params.defaults=[])
  (call:∀(w:World)(s₀ s₁:Shared)(mg mb:Str->Option Value)(fa:Addr)(o:Obj)(pm cd doc:Value)(a:Addr)(vs:List Value)(ns:List Int),
   Ground q loose [] XP w s₀ mg mb s₁.heap->YP w s₁.heap ->
   s₁.heap.get? fa=some o->o.data=.func (docDef d.name d.params d.body d.scope pm cd doc)->s₁.heap.CodeRec cd d.name->mg d.name=some (.ref fa) ->
   s₁.heap.get? a=some { cls:=.type "list",data:=.seq vs.toArray }->IntsAre vs ns->ns.length<=n->s₁.gens=#[] ->
   codeAny (model l.prog w) callerA (.call (.ref fa) ⟨[.ref a],[]⟩) (fun r s'=>r=.ok (.ret (.bool true))/\OldK s₁.heap s'.heap/\s'.os=s₁.os/\AllBare s'.gens) s₁) :
  WalkO q loose XP YP l.row.toRowW d [] (fun f vs=>PySem.call f vs):=by
 intro w s₀ s₁ mg mb G Y fa o pm cd doc dV kV ho hd hcd hD hmg hg args vals as hpre hlay hrd hwl hlo
 obtain rfl:dV=.none:=Dflts.none hD hdf
 obtain rfl:kV=.none:=Dflts.noKw hD
 obtain ⟨a,vs,ns,rfl,rfl,hobj,hints,hlen⟩:=zpc hn hpre hwl
 refine enter_call (codeAny_mono (call w s₀ s₁ mg mb fa o pm cd doc a vs ns G Y ho (fd_plain hd) hcd hmg hobj hints hlen hg) fun r s' hq=>?_)
 obtain ⟨rfl,h2,h3,h4⟩:=hq
 exact ⟨.inl ⟨.bool true,.bool true,[],rfl,fun _=>rfl,.bool true,znQ l _,fun _=>⟨List.Pairwise.nil,fun _ hm=>(nomatch hm)⟩⟩,h2,h3,h4⟩
section
variable{prog:Program}{w:World}{A:Around}{E:Value->Shared->Prop}{s:Shared}{K:Frag}
end
end Att
namespace L2
open PySem PySem.Spec PyProof.Rows
theorem vals_ints:∀{vs:List Value}{ns:List Int},IntsAre vs ns->zbp (ns.map V.int) vs
 |_,_,.nil=>.nil
 |_,_,.cons n t h=>.cons ⟨t,rfl⟩ (vals_ints h)
end L2
namespace L2
open PySem PySem.Spec PyProof.Rows
end L2
namespace L2
open PySem PySem.Spec PyProof.Rows
def zeM(s:Stmt):Arguments:=match s with
 |.FunctionDef _ a _ _ _ _ _ _ _ _=>a
 |_=>{ posonlyargs:=[],args:=[],vararg:=none,kwonlyargs:=[],kw_defaults:=[],kwarg:=none,defaults:=[] }
def zck(s:Stmt):List Stmt:=match s with
 |.FunctionDef _ _ b _ _ _ _ _ _ _=>b
 |_=>[]
def zak(s:Stmt):Scope:=match s with
 |.FunctionDef _ _ _ _ _ _ sc _ _ _=>sc
 |_=>{ kind:=.function,names:=[],isGenerator:=false,isCoroutine:=false }
abbrev CX0:CXT:=fun _ _ _ _ _ _=>False
structure Fun(K:W.Frag)(x qual:Str)(st:Stmt)(f:Addr)(fd:FuncData):Prop where
 ex:∃(oc:Value)(od:Option Addr)(kV doc pm:Value)(an:Option Addr)(cdv ct:Value)(osl:Array (Option Value)),
  fd=W.fnOf x qual (zeM st) (zck st) (zak st) .none kV doc pm an cdv ct/\K.lookup f=some ⟨oc,od,.func fd,osl⟩/\W.codeIn K cdv qual=true
 kp:W.keepIn K (.ref f)=true
section
variable{P:Program}{w:World}{K:W.Frag}{mg:Str->Option Value}{base:Heap}
theorem Fun.ok{x qual:Str}{st:Stmt}{f:Addr}{fd:FuncData}{N ps:List Str}{k:Nat}{sp:Sp}(F:Fun K x qual st f fd)(S:zaz N ps (zak st))(len:∀ vs H Q E,sp vs H Q E->vs.length=ps.length)
  (hbody:∀(cdv:Value)(A:Around)(outer:List Env)(s:Shared)(H:Hp)(vs:List V)(Q:VK)(E:XK),zdC k (A.deeper (envOfC qual (zak st) s.heap.objs.size f cdv))->sp vs H Q E ->
   ∃ t,PSs (zjQ CX0 P w K mg base N qual (zak st) f cdv A outer s H E).nox (zck st) t/\t { nx:=fun _ H'=>Q .non H',rt:=Q } (start N vs) H):zfC P w K mg base CX0 (k+1) f fd ps sp:=by
 obtain ⟨oc,od,kV,doc,pm,an,cdv,ct,osl,rfl,lk,hcd⟩:=F.ex
 refine zqh lk hcd S len fun A outer s H vs Q E hr hsp=>?_
 obtain ⟨t,h,q⟩:=hbody cdv A outer s H vs Q E hr hsp
 exact ⟨t,h.nox,q⟩
theorem Fun.binds{x qual:Str}{st:Stmt}{f:Addr}{fd:FuncData}{ps:List Str}(F:Fun K x qual st f fd)
  (h:∀(kV doc pm:Value)(an:Option Addr)(cdv ct:Value)(us:List Value),us.length=ps.length->bindArgs (W.fnOf x qual (zeM st) (zck st) (zak st) .none kV doc pm an cdv ct) ⟨us,[]⟩=pure (ps.zip us)):zfP K fd ps []:=by
 obtain ⟨oc,od,kV,doc,pm,an,cdv,ct,osl,rfl,lk,hcd⟩:=F.ex
 exact .all (h kV doc pm an cdv ct)
theorem zoy{x qual:Str}{st:Stmt}{f:Addr}{oc:Value}{od an:Option Addr}{osl:Array (Option Value)}{kV doc pm cdv ct:Value}(l:K.lookup f=some ⟨oc,od,.func (W.fnOf x qual (zeM st) (zck st) (zak st) .none kV doc pm an cdv ct),osl⟩)
  (c:W.codeIn K cdv qual=true) (k:W.keepIn K (.ref f)=true):Fun K x qual st f (W.fnOf x qual (zeM st) (zck st) (zak st) .none kV doc pm an cdv ct):=⟨⟨oc,od,kV,doc,pm,an,cdv,ct,osl,rfl,l,c⟩,k⟩
end
section
variable{X:Cx}
end
theorem iteF{A B:Prop}(h:B):if false=true then A else B:=by
 rw[if_neg Bool.false_ne_true]
 exact h
theorem iteT{A B:Prop}(h:A):if true=true then A else B:=by
 rw[if_pos rfl]
 exact h
def zcb(H H':Hp):Prop:=∀ b o,H b=some o->H' b=some o
theorem zcb.refl(H:Hp):zcb H H:=fun _ _ h=>h
theorem zcb.trans{H H1 H2:Hp}(a:zcb H H1)(b:zcb H1 H2):zcb H H2:=fun c o h=>b c o (a c o h)
theorem zcb.free{H H':Hp}(e:zcb H H'){l:Addr}(h:H' l=Option.none):H l=Option.none:=by
 cases q:H l with
 |none=>rfl
 |some o =>
  rw[e l o q] at h
  cases h
theorem zcb.seq{K:W.Frag}{H H':Hp}{a:Addr}{xs:List V}(e:zcb H H')(h:SqL K H a xs):SqL K H' a xs:=by
 rcases h with (h|⟨o,h⟩)|h
 ·exact .inl (.inl (e _ _ h))
 ·exact .inl (.inr ⟨o,e _ _ h⟩)
 ·exact .inr h
end L2
end
section
namespace PV
open PySem PySem.Spec L2
inductive Dt where
 |non|bl (b:Bool)|int (i:Int)|str (x:Str)|tup (l:List Dt)|lst (l:List Dt)|dct|scr (ns:List Int)
inductive B where
 |val (d:Dt)|own (l:List Dt)|own2 (l:List (List Dt))|tab (q:Str)|opq|exc (C:Addr)
abbrev Ev:=List (Option B)
inductive R(α:Type) where
 |ok (a:α)|er (n:Nat)|no
def R.bind{α β:Type}(r:R α)(f:α->R β):R β:=match r with
 |.ok a=>f a
 |.er n=>.er n
 |.no=>.no
@[simp] theorem R.bind_ok {α β:Type} (a:α) (f:α->R β):(R.ok a).bind f=f a:=rfl
@[simp] theorem R.bind_er {α β:Type} (n:Nat) (f:α->R β):(R.er n).bind f=.er n:=rfl
@[simp] theorem R.bind_no {α β:Type} (f:α->R β):(R.no).bind f=.no:=rfl
theorem R.bind_assoc{α β γ:Type}(r:R α)(f:α->R β)(g:β->R γ):(r.bind f).bind g=r.bind fun a=>(f a).bind g:=by
 cases r <;> rfl
def zjU(K:W.Frag)(H:Hp)(a:Addr)(xs:List V):Prop :=
 H a=some (.tup xs)\/∃(its:Array Value)(n:Nat),K.lookup a=some { cls:=.type "tuple",data:=.seq its n }/\its.size<=sizeLine/\zbp xs its.toList
theorem zjU.of{K:W.Frag}{H:Hp}{a:Addr}{xs:List V}(h:H a=some (.tup xs)):zjU K H a xs:=.inl h
theorem zjU.sq{K:W.Frag}{H:Hp}{a:Addr}{xs:List V}(h:zjU K H a xs):SqT K H a xs:=by
 rcases h with h|⟨its,n,h1,h2,h3⟩
 ·exact .inl (.inl h)
 ·exact .inr ⟨_,its,n,h1,rfl,rfl,h2,h3⟩
theorem zjU.same{K:W.Frag}{H H':Hp}{a:Addr}{xs:List V}(e:zcb H H')(h:zjU K H a xs):zjU K H' a xs:=h.elim (fun z=>.inl (e _ _ z)) .inr
mutual
def Rep(K:W.Frag)(G:Hp):Dt->V->Prop
 |.non,v=>v=.non
 |.bl b,v=>v=.bl b
 |.int i,v=>v=.int i
 |.str x,v=>v=.str x
 |.tup l,v=>∃ a vs,v=.ref a/\zjU K G a vs/\zaB K G l vs
 |.lst l,v=>∃ a vs,v=.ref a/\G a=some (.lst vs)/\zaB K G l vs
 |.dct,v=>∃ a,v=.ref a/\G a=some (.dK [])
 |.scr ns,v=>∃ a,v=.ref a/\SqL K G a (ns.map V.int)
def zaB(K:W.Frag)(G:Hp):List Dt->List V->Prop
 |[],vs=>vs=[]
 |d::ds,vs=>∃ v r,vs=v::r/\Rep K G d v/\zaB K G ds r
end
theorem zbc{K:W.Frag}{H H':Hp}{a:Addr}{xs:List V}(e:zcb H H')(h:SqT K H a xs):SqT K H' a xs:=by
 rcases h with (h|⟨o,h⟩)|h
 ·exact .inl (.inl (e _ _ h))
 ·exact .inl (.inr ⟨o,e _ _ h⟩)
 ·exact .inr h
mutual
theorem Rep.same{K:W.Frag}{G G':Hp}(e:zcb G G'):∀{d:Dt}{v:V},Rep K G d v->Rep K G' d v
 |.non,_,h=>by unfold Rep at h ⊢;exact h
 |.bl _,_,h=>by unfold Rep at h ⊢;exact h
 |.int _,_,h=>by unfold Rep at h ⊢;exact h
 |.str _,_,h=>by unfold Rep at h ⊢;exact h
 |.tup l,_,h=>by
  unfold Rep at h ⊢
  obtain ⟨a,vs,h1,h2,h3⟩:=h
  exact ⟨a,vs,h1,h2.same e,zaB.same e h3⟩
 |.lst l,_,h=>by
  unfold Rep at h ⊢
  obtain ⟨a,vs,h1,h2,h3⟩:=h
  exact ⟨a,vs,h1,e _ _ h2,zaB.same e h3⟩
 |.dct,_,h=>by
  unfold Rep at h ⊢
  obtain ⟨a,h1,h2⟩:=h
  exact ⟨a,h1,e _ _ h2⟩
 |.scr ns,_,h=>by
  unfold Rep at h ⊢
  obtain ⟨a,h1,h2⟩:=h
  exact ⟨a,h1,e.seq h2⟩
theorem zaB.same{K:W.Frag}{G G':Hp}(e:zcb G G'):∀{ds:List Dt}{vs:List V},zaB K G ds vs->zaB K G' ds vs
 |[],_,h=>by unfold zaB at h ⊢;exact h
 |d::ds,_,h=>by
  unfold zaB at h ⊢
  obtain ⟨v,r,h1,h2,h3⟩:=h
  exact ⟨v,r,h1,Rep.same e h2,zaB.same e h3⟩
end
theorem zaB.nil{K:W.Frag}{G:Hp}:zaB K G [] []:=by unfold zaB;rfl
theorem zaB.cons{K:W.Frag}{G:Hp}{d:Dt}{ds:List Dt}{v:V}{vs:List V}(h:Rep K G d v)(t:zaB K G ds vs):zaB K G (d::ds) (v::vs):=by
 unfold zaB;exact ⟨v,vs,rfl,h,t⟩
theorem zaB.nil_inv{K:W.Frag}{G:Hp}{vs:List V}(h:zaB K G [] vs):vs=[]:=by unfold zaB at h;exact h
theorem zaB.cons_inv{K:W.Frag}{G:Hp}{d:Dt}{ds:List Dt}{vs:List V}(h:zaB K G (d::ds) vs):∃ v r,vs=v::r/\Rep K G d v/\zaB K G ds r:=by unfold zaB at h;exact h
theorem zaB.length{K:W.Frag}{G:Hp}:∀{ds:List Dt}{vs:List V},zaB K G ds vs->ds.length=vs.length
 |[],_,h=>by rw[h.nil_inv];rfl
 |d::ds,_,h=>by
  obtain ⟨v,r,rfl,_,h3⟩:=h.cons_inv
  simp[zaB.length h3]
theorem zaB.get{K:W.Frag}{G:Hp}:∀{ds:List Dt}{vs:List V}{i:Nat}{d:Dt},zaB K G ds vs->ds[i]? = some d->∃ v,vs[i]? = some v/\Rep K G d v
 |[],_,_,_,_,e=>by simp at e
 |d::ds,_,0,_,h,e=>by
  obtain ⟨v,r,rfl,h2,h3⟩:=h.cons_inv
  simp at e;subst e
  exact ⟨v,rfl,h2⟩
 |d::ds,_,i+1,_,h,e=>by
  obtain ⟨v,r,rfl,h2,h3⟩:=h.cons_inv
  obtain ⟨u,e1,e2⟩:=zaB.get (i:=i) h3 (by simpa using e)
  exact ⟨u,by simpa using e1,e2⟩
theorem zaB.append{K:W.Frag}{G:Hp}:∀{ds es:List Dt}{vs us:List V},zaB K G ds vs->zaB K G es us->zaB K G (ds++es) (vs++us)
 |[],_,_,_,h,t=>by rw[h.nil_inv];exact t
 |d::ds,_,_,_,h,t=>by
  obtain ⟨v,r,rfl,h2,h3⟩:=h.cons_inv
  exact zaB.cons h2 (zaB.append h3 t)
theorem zaB.take{K:W.Frag}{G:Hp}:∀(n:Nat){ds:List Dt}{vs:List V},zaB K G ds vs->zaB K G (ds.take n) (vs.take n)
 |0,_,_,_=>by simpa using zaB.nil
 |n+1,[],_,h=>by rw[h.nil_inv];simpa using zaB.nil
 |n+1,d::ds,_,h=>by
  obtain ⟨v,r,rfl,h2,h3⟩:=h.cons_inv
  exact zaB.cons h2 (zaB.take n h3)
theorem zaB.drop{K:W.Frag}{G:Hp}:∀(n:Nat){ds:List Dt}{vs:List V},zaB K G ds vs->zaB K G (ds.drop n) (vs.drop n)
 |0,_,_,h=>h
 |n+1,[],_,h=>by rw[h.nil_inv];simpa using zaB.nil
 |n+1,d::ds,_,h=>by
  obtain ⟨v,r,rfl,h2,h3⟩:=h.cons_inv
  exact zaB.drop n h3
theorem zaB.reverse{K:W.Frag}{G:Hp}:∀{ds:List Dt}{vs:List V},zaB K G ds vs->zaB K G ds.reverse vs.reverse
 |[],_,h=>by rw[h.nil_inv];exact zaB.nil
 |d::ds,_,h=>by
  obtain ⟨v,r,rfl,h2,h3⟩:=h.cons_inv
  rw[List.reverse_cons,List.reverse_cons]
  exact (zaB.reverse h3).append (zaB.cons h2 zaB.nil)
theorem zaB.set{K:W.Frag}{G:Hp}{d:Dt}{v:V}(hv:Rep K G d v):∀(i:Nat){ds:List Dt}{vs:List V},zaB K G ds vs->zaB K G (ds.set i d) (vs.set i v)
 |_,[],_,h=>by rw[h.nil_inv];exact zaB.nil
 |0,d'::ds,_,h=>by
  obtain ⟨v,r,rfl,h2,h3⟩:=h.cons_inv
  exact zaB.cons hv h3
 |i+1,d'::ds,_,h=>by
  obtain ⟨v,r,rfl,h2,h3⟩:=h.cons_inv
  exact zaB.cons h2 (zaB.set hv i h3)
theorem zaB.eraseIdx{K:W.Frag}{G:Hp}:∀(i:Nat){ds:List Dt}{vs:List V},zaB K G ds vs->zaB K G (ds.eraseIdx i) (vs.eraseIdx i)
 |_,[],_,h=>by rw[h.nil_inv];exact zaB.nil
 |0,d'::ds,_,h=>by
  obtain ⟨v,r,rfl,h2,h3⟩:=h.cons_inv
  exact h3
 |i+1,d'::ds,_,h=>by
  obtain ⟨v,r,rfl,h2,h3⟩:=h.cons_inv
  exact zaB.cons h2 (zaB.eraseIdx i h3)
theorem zaB.dropLast{K:W.Frag}{G:Hp}{ds:List Dt}{vs:List V}(h:zaB K G ds vs):zaB K G ds.dropLast vs.dropLast:=by
 rw[List.dropLast_eq_take,List.dropLast_eq_take,h.length];exact h.take _
abbrev Wn:=Addr->Option Nat
structure zbJ(G H:Hp)(w:Wn)(G' H':Hp)(w':Wn):Prop where
 g:zcb G G'
 fr:∀ b o,G' b=some o->G b≠none\/H b=none\/w b≠none
 h:∀ b o,H b=some o->w b=none->H' b=some o
 w:∀ b,w' b≠none->w b≠none\/H b=none
 k:∀ b,H' b=none->H b=none
theorem zbJ.refl(G H:Hp)(w:Wn):zbJ G H w G H w :=
 ⟨zcb.refl G,fun b o e=>.inl (by rw[e];simp),fun _ _ e _=>e,fun _ e=>.inl e,fun _ e=>e⟩
theorem zbJ.trans{G H G1 H1 G2 H2:Hp}{w w1 w2:Wn}(a:zbJ G H w G1 H1 w1)(b:zbJ G1 H1 w1 G2 H2 w2):zbJ G H w G2 H2 w2:=by
 have hn:=a.k
 refine ⟨a.g.trans b.g,fun c o e=>?_,fun c o e z=>?_,fun c e=>?_,fun c e=>a.k c (b.k c e)⟩
 ·rcases b.fr c o e with q|q|q
  ·cases q':G1 c with
   |none=>exact absurd q' q
   |some u=>exact a.fr c u q'
  ·exact .inr (.inl (hn c q))
  ·rcases a.w c q with z|z
   ·exact .inr (.inr z)
   ·exact .inr (.inl z)
 ·have e1:=a.h c o e z
  refine b.h c o e1 ?_
  cases q:w1 c with
  |none=>rfl
  |some k =>
   rcases a.w c (by rw[q];simp) with r|r
   ·exact absurd z r
   ·rw[e] at r;cases r
 ·rcases b.w c e with q|q
  ·exact a.w c q
  ·exact .inr (hn c q)
structure Cn where
 G₀:Hp
 H₀:Hp
 w₀:Wn
 pp:List Nat
 σ₀:St
 ex:Nat->Prop
 xv:Nat->Value
 nw:Bool
def RtG(nw:Bool)(K:W.Frag)(H0 G H:Hp)(w:Wn)(d:Dt)(v:V):Prop:=match nw with
 |false=>Rep K G d v
 |true=>∃ l p vs,d=.lst l/\v=.ref p/\H0 p=none/\H p=some (.lst vs)/\G p=none/\w p=none/\zaB K G l vs
def cHO(c:Addr)(q:Str):HO:=.ext fun h=>h.CodeRec (.ref c) q
def xHO(l C:Addr):HO:=.ext fun h=>∃ o vs,h.get? l=some o/\o.cls=.ref C/\o.data=.fields vs
def RB(K:W.Frag)(G H:Hp)(w:Wn)(i:Nat)(v:V):B->Prop
 |.val d=>Rep K G d v
 |.own ds=>∃ a vs,v=.ref a/\w a=some i/\H a=some (.lst vs)/\zaB K G ds vs
 |.own2 dss=>∃ a as,v=.ref a/\w a=some i/\H a=some (.lst (as.map V.ref))/\(a::as).Nodup/\Paired (fun b ds=>w b=some i/\∃ vs,H b=some (.lst vs)/\zaB K G ds vs) as dss
 |.tab q=>∃ P ps,v=.ref P/\w P=some i/\H P=some (.tbl ps)/\TriplesOk ps.toList/\∀ pos cv,codeAmong pos ps.toList=some cv->∃ c,cv=.ref c/\G c=some (cHO c q)
 |.opq=>True
 |.exc C=>∃ l,v=.ref l/\G l=some (xHO l C)
structure Rel(K:W.Frag)(C:Cn)(G:Hp)(w:Wn)(ρ:Ev)(σ:St)(H:Hp):Prop where
 gh:zcb G H
 wg:∀ b,w b≠none->G b=none
 wh:∀ b,w b≠none->H b≠none
 len:ρ.length = σ.length
 sl:∀ i b,ρ[i]? = some (some b)->∃ v,σ[i]? = some (some v)/\RB K G H w i v b
 en:zbJ C.G₀ C.H₀ C.w₀ G H w
 pin:∀ i∈C.pp,σ[i]? = C.σ₀[i]?
structure zec(G H G' H':Hp):Prop where
 g:zcb G G'
 h:zcb H H'
 gh:zcb G' H'
 fr:∀ b o,G' b=some o->G b≠none\/H b=none
theorem zec.refl{G H:Hp}(e:zcb G H):zec G H G H:=⟨.refl _,.refl _,e,fun b o q=>.inl (by rw[q];simp)⟩
theorem zec.trans{G H G1 H1 G2 H2:Hp}(a:zec G H G1 H1)(b:zec G1 H1 G2 H2):zec G H G2 H2 :=
 ⟨a.g.trans b.g,a.h.trans b.h,b.gh,fun c o e=>by
  rcases b.fr c o e with q|q
  ·cases q':G1 c with
   |none=>exact absurd q' q
   |some u=>exact a.fr c u q'
  ·exact .inr (a.h.free q)⟩
theorem zec.step{G H G' H':Hp}{w:Wn}(a:zec G H G' H'):zbJ G H w G' H' w :=
 ⟨a.g,fun b o e=>(a.fr b o e).elim .inl fun z=>.inr (.inl z),fun b o e _=>a.h b o e,fun _ e=>.inl e,fun _ e=>a.h.free e⟩
theorem zgt{α β:Type}{F F':α->β->Prop}(f:∀ a b,F a b->F' a b):∀{l₁:List α}{l₂:List β},Paired F l₁ l₂->Paired F' l₁ l₂
 |_,_,.nil=>.nil
 |_,_,.cons r t=>.cons (f _ _ r) (zgt f t)
theorem RB.grow{K:W.Frag}{G H G' H':Hp}{w w':Wn}{i j:Nat}{v:V}{b:B}(g:zcb G G')(h:∀ a o,w a=some i->H a=some o->H' a=some o/\w' a=some j)(r:RB K G H w i v b):RB K G' H' w' j v b:=by
 cases b with
 |val d=>exact Rep.same g r
 |own ds =>
  obtain ⟨a,vs,h1,h2,h3,h4⟩:=r
  obtain ⟨e1,e2⟩:=h a _ h2 h3
  exact ⟨a,vs,h1,e2,e1,zaB.same g h4⟩
 |own2 dss =>
  obtain ⟨a,as,h1,h2,h3,h4,h5⟩:=r
  obtain ⟨e1,e2⟩:=h a _ h2 h3
  refine ⟨a,as,h1,e2,e1,h4,zgt (fun b ds ⟨q1,vs,q2,q3⟩=>?_) h5⟩
  obtain ⟨e1,e2⟩:=h b _ q1 q2
  exact ⟨e2,vs,e1,zaB.same g q3⟩
 |tab q =>
  obtain ⟨P,ps,h1,h2,h3,h4,h5⟩:=r
  obtain ⟨e1,e2⟩:=h P _ h2 h3
  exact ⟨P,ps,h1,e2,e1,h4,fun pos cv e=>let ⟨c,q1,q2⟩:=h5 pos cv e;⟨c,q1,g _ _ q2⟩⟩
 |opq=>exact trivial
 |exc C =>
  obtain ⟨l,h1,h2⟩:=r
  exact ⟨l,h1,g _ _ h2⟩
theorem Rel.grow{K:W.Frag}{C:Cn}{G H G' H':Hp}{w:Wn}{ρ:Ev}{σ:St}(r:Rel K C G w ρ σ H)(a:zec G H G' H'):Rel K C G' w ρ σ H':=by
 refine ⟨a.gh,fun b e=>?_,fun b e z=>r.wh b e (a.h.free z),r.len,fun i b e=>?_,r.en.trans a.step,r.pin⟩
 ·cases q:G' b with
  |none=>rfl
  |some o =>
   rcases a.fr b o q with z|z
   ·exact absurd (r.wg b e) z
   ·exact absurd z (r.wh b e)
 ·obtain ⟨v,h1,h2⟩:=r.sl i b e
  exact ⟨v,h1,h2.grow a.g fun a' o e1 e2=>⟨a.h _ _ e2,e1⟩⟩
theorem zec.new{G H:Hp}{p:Addr}{o:HO}(gh:zcb G H)(hp:H p=none):zec G H (upd G p o) (upd H p o):=by
 refine ⟨fun b u e=>?_,fun b u e=>?_,fun b u e=>?_,fun b u e=>?_⟩
 ·rw[zai (zah (gh b u e) hp)];exact e
 ·rw[zai (zah e hp)];exact e
 ·by_cases hb:b=p
  ·subst hb;rw[zan] at e ⊢;exact e
  ·rw[zai hb] at e ⊢;exact gh b u e
 ·by_cases hb:b=p
  ·subst hb;exact .inr hp
  ·rw[zai hb] at e;exact .inl (by rw[e];simp)
theorem zec.newH{G H:Hp}{p:Addr}{o:HO}(gh:zcb G H)(hp:H p=none):zec G H G (upd H p o):=by
 refine ⟨.refl _,fun b u e=>?_,fun b u e=>?_,fun b u e=>.inl (by rw[e];simp)⟩
 ·rw[zai (zah e hp)];exact e
 ·rw[zai (zah (gh b u e) hp)];exact gh b u e
def zc0{α:Type}(ex:Nat->Prop)(κ:α->Prop):R α->Prop
 |.ok a=>κ a
 |.er n=>ex n
 |.no=>False
def kE(K:W.Frag)(C:Cn)(σ:St)(Q:VK)(G H:Hp)(w:Wn)(a:Dt×Ev):Prop :=
 ∀ v G' H' w',zbJ G H w G' H' w'->Rel K C G' w' a.2 σ H'->Rep K G' a.1 v->Q v H'
def kT(K:W.Frag)(C:Cn)(σ:St)(Q:Bool->Hp->Prop)(G H:Hp)(w:Wn)(a:Bool×Ev):Prop :=
 ∀ G' H' w',zbJ G H w G' H' w'->Rel K C G' w' a.2 σ H'->Q a.1 H'
def kN(K:W.Frag)(C:Cn)(σ:St)(Q:VK)(G H:Hp)(w:Wn)(a:List Dt×Ev):Prop :=
 ∀ p vs G' H' w',zbJ G H w G' H' w'->Rel K C G' w' a.2 σ H'->H p=none->H' p=some (.lst vs)->G' p=none->w' p=none->zaB K G' a.1 vs->Q (.ref p) H'
inductive Fl where
 |nx|bk|ct|rt (d:Dt)
def kS(K:W.Frag)(C:Cn)(D:zrk)(G H:Hp)(w:Wn)(a:Fl×Ev):Prop :=
 match a.1 with
 |.nx=>∀ σ' G' H' w',zbJ G H w G' H' w'->Rel K C G' w' a.2 σ' H'->D.nx σ' H'
 |.bk=>∀ σ' G' H' w',zbJ G H w G' H' w'->Rel K C G' w' a.2 σ' H'->D.bk σ' H'
 |.ct=>∀ σ' G' H' w',zbJ G H w G' H' w'->Rel K C G' w' a.2 σ' H'->D.ct σ' H'
 |.rt d=>∀ v σ' G' H' w',zbJ G H w G' H' w'->Rel K C G' w' a.2 σ' H'->RtG C.nw K C.H₀ G' H' w' d v->D.rt v H'
abbrev De:=Ev->R (Dt×Ev)
abbrev DT:=Ev->R (Bool×Ev)
abbrev DN:=Ev->R (List Dt×Ev)
abbrev DS:=Ev->R (Fl×Ev)
def tE(K:W.Frag)(C:Cn)(f:De):TE:=fun σ H Q=>∃ G w ρ,Rel K C G w ρ σ H/\zc0 C.ex (kE K C σ Q G H w) (f ρ)
def tT(K:W.Frag)(C:Cn)(f:DT):TT:=fun σ H Q=>∃ G w ρ,Rel K C G w ρ σ H/\zc0 C.ex (kT K C σ Q G H w) (f ρ)
def tN(K:W.Frag)(C:Cn)(f:DN):TE:=fun σ H Q=>∃ G w ρ,Rel K C G w ρ σ H/\zc0 C.ex (kN K C σ Q G H w) (f ρ)
def tS(K:W.Frag)(C:Cn)(f:DS):TS:=fun D σ H=>∃ G w ρ,Rel K C G w ρ σ H/\zc0 C.ex (kS K C D G H w) (f ρ)
abbrev JE(X:Cx)(C:Cn)(e:Expr)(f:De):Prop:=PE X e (tE X.K C f)
abbrev JT(X:Cx)(C:Cn)(e:Expr)(f:DT):Prop:=PT X e (tT X.K C f)
abbrev JW(X:Cx)(C:Cn)(e:Expr)(f:DT):Prop:=PW X e (tT X.K C f)
abbrev JN(X:Cx)(C:Cn)(e:Expr)(f:DN):Prop:=PE X e (tN X.K C f)
abbrev JS(X:Cx)(C:Cn)(st:Stmt)(f:DS):Prop:=PS X st (tS X.K C f)
abbrev JSs(X:Cx)(C:Cn)(st:List Stmt)(f:DS):Prop:=PSs X st (tS X.K C f)
abbrev zpL(α:Type):=Hp->Hp->Wn->α->Prop
def Stp{α:Type}(κ:zpL α):Prop:=∀ G H w G1 H1 w1 a,zbJ G H w G1 H1 w1->κ G H w a->κ G1 H1 w1 a
section
variable{K:W.Frag}{C:Cn}{σ:St}
theorem zch{Q:VK}:Stp (fun G H w=>kE K C σ Q G H w):=fun _ _ _ _ _ _ _ s k v G' H' w' s'=>k v G' H' w' (s.trans s')
theorem zq7{Q:Bool->Hp->Prop}:Stp (fun G H w=>kT K C σ Q G H w):=fun _ _ _ _ _ _ _ s k G' H' w' s'=>k G' H' w' (s.trans s')
theorem zeF{Q:VK}:Stp (fun G H w=>kN K C σ Q G H w):=fun G H w G1 H1 w1 _ s k p vs G' H' w' s' r q1 q2 q3 q4 q5 =>
 k p vs G' H' w' (s.trans s') r (s.k p q1) q2 q3 q4 q5
theorem zdS{D:zrk}:Stp (fun G H w=>kS K C D G H w):=fun G H w G1 H1 w1 a s k=>by
 obtain ⟨f,ρ⟩:=a
 cases f with
 |nx=>exact fun σ' G' H' w' s'=>k σ' G' H' w' (s.trans s')
 |bk=>exact fun σ' G' H' w' s'=>k σ' G' H' w' (s.trans s')
 |ct=>exact fun σ' G' H' w' s'=>k σ' G' H' w' (s.trans s')
 |rt d=>exact fun v σ' G' H' w' s'=>k v σ' G' H' w' (s.trans s')
theorem zc0.step{α:Type}{ex:Nat->Prop}{κ:zpL α}(st:Stp κ){G H G1 H1:Hp}{w w1:Wn}(s:zbJ G H w G1 H1 w1):∀{r:R α},zc0 ex (κ G H w) r->zc0 ex (κ G1 H1 w1) r
 |.ok _,p=>st _ _ _ _ _ _ _ s p
 |.er _,p=>p
 |.no,p=>p
theorem zer{α:Type}{κ:zpL α}(st:Stp κ){G H:Hp}{w:Wn}{ρ:Ev}{fa:De}{g:Dt×Ev->R α}{Q:VK}(r:Rel K C G w ρ σ H)(p:zc0 C.ex (κ G H w) ((fa ρ).bind g))
  (k:∀ d ρ1 v G1 H1 w1,Rel K C G1 w1 ρ1 σ H1->zbJ G H w G1 H1 w1->Rep K G1 d v->zc0 C.ex (κ G1 H1 w1) (g (d,ρ1))->Q v H1):tE K C fa σ H Q:=by
 refine ⟨G,w,ρ,r,?_⟩
 cases e:fa ρ with
 |ok a =>
  rw[e] at p
  intro v G' H' w' s' r' q
  exact k a.1 a.2 v G' H' w' r' s' q (zc0.step st s' p)
 |er n=>rw[e] at p;exact p
 |no=>rw[e] at p;exact p
theorem zth{α:Type}{κ:zpL α}(st:Stp κ){G H:Hp}{w:Wn}{ρ:Ev}{fa:DT}{g:Bool×Ev->R α}{Q:Bool->Hp->Prop}(r:Rel K C G w ρ σ H)(p:zc0 C.ex (κ G H w) ((fa ρ).bind g))
  (k:∀ b ρ1 G1 H1 w1,Rel K C G1 w1 ρ1 σ H1->zbJ G H w G1 H1 w1->zc0 C.ex (κ G1 H1 w1) (g (b,ρ1))->Q b H1):tT K C fa σ H Q:=by
 refine ⟨G,w,ρ,r,?_⟩
 cases e:fa ρ with
 |ok a =>
  rw[e] at p
  intro G' H' w' s' r'
  exact k a.1 a.2 G' H' w' r' s' (zc0.step st s' p)
 |er n=>rw[e] at p;exact p
 |no=>rw[e] at p;exact p
theorem zvz{α:Type}{κ:zpL α}{G H:Hp}{w:Wn}{ρ:Ev}{fa:DN}{g:List Dt×Ev->R α}{Q:VK}(r:Rel K C G w ρ σ H)(p:zc0 C.ex (κ G H w) ((fa ρ).bind g))
  (k:∀ ds ρ1 a vs G1 H1 w1,Rel K C G1 w1 ρ1 σ H1->zbJ G H w G1 H1 w1->H a=none->H1 a=some (.lst vs)->G1 a=none->w1 a=none->zaB K G1 ds vs->zc0 C.ex (κ G H w) (g (ds,ρ1))->Q (.ref a) H1):tN K C fa σ H Q:=by
 refine ⟨G,w,ρ,r,?_⟩
 cases e:fa ρ with
 |ok a =>
  rw[e] at p
  intro v vs G' H' w' s' r' q1 q2 q3 q4 q5
  exact k a.1 a.2 v vs G' H' w' r' s' q1 q2 q3 q4 q5 p
 |er n=>rw[e] at p;exact p
 |no=>rw[e] at p;exact p
end
section
variable{X:Cx}
theorem _root_.L2.PE.weak{e:Expr}{t t':TE}(h:PE X e t)(k:∀ σ H Q,t' σ H Q->t σ H Q):PE X e t':=fun pins s σ H Q I q=>h pins s σ H Q I (k σ H Q q)
theorem _root_.L2.PT.weak{e:Expr}{t t':TT}(h:PT X e t)(k:∀ σ H Q,t' σ H Q->t σ H Q):PT X e t':=fun pins s σ H Q I q=>h pins s σ H Q I (k σ H Q q)
theorem _root_.L2.PW.weak{e:Expr}{t t':TT}(h:PW X e t)(k:∀ σ H Q,t' σ H Q->t σ H Q):PW X e t':=fun wh pins s σ H Q I q=>h wh pins s σ H Q I (k σ H Q q)
theorem _root_.L2.PA.weak{e:List Expr}{t t':TA}(h:PA X e t)(k:∀ σ H Q,t' σ H Q->t σ H Q):PA X e t':=fun pos pins s σ H Q I q=>h pos pins s σ H Q I (k σ H Q q)
theorem _root_.L2.PS.weak{e:Stmt}{t t':TS}(h:PS X e t)(k:∀ D σ H,t' D σ H->t D σ H):PS X e t':=fun pins s σ H D I q=>h pins s σ H D I (k D σ H q)
theorem _root_.L2.PSs.weak{e:List Stmt}{t t':TS}(h:PSs X e t)(k:∀ D σ H,t' D σ H->t D σ H):PSs X e t':=fun pins s σ H D I q=>h pins s σ H D I (k D σ H q)
end
section
variable{K:W.Frag}{C:Cn}{σ:L2.St}{G H:Hp}{w:Wn}{ρ:Ev}{i:Nat}{v:V}
theorem Rel.freeze{d:Dt}{b0:B}(r:Rel K C G w ρ σ H)(S:List Addr)(hS:∀ b∈S,w b=some i)(hi:ρ[i]? = some (some b0))(hv:σ[i]? = some (some v))
  (hr:Rep K (fun b=>if b∈S then H b else G b) d v) :
  Rel K C (fun b=>if b∈S then H b else G b) (fun b=>if b∈S then none else w b) (ρ.set i (some (.val d))) σ H /\
   zbJ G H w (fun b=>if b∈S then H b else G b) H (fun b=>if b∈S then none else w b):=by
 have gS:∀ b∈S,G b=none:=fun b hb=>r.wg b (by rw[hS b hb];simp)
 have st:zbJ G H w (fun b=>if b∈S then H b else G b) H (fun b=>if b∈S then none else w b):=by
  refine ⟨fun b o e=>?_,fun b o e=>?_,fun b o e _=>e,fun b e=>?_,fun _ e=>e⟩
  ·have:b∉S:=fun z=>by rw[gS b z] at e;cases e
   simp[this,e]
  ·by_cases hb:b∈S
   ·exact .inr (.inr (by rw[hS b hb];simp))
   ·simp[hb] at e;exact .inl (by rw[e];simp)
  ·by_cases hb:b∈S
   ·simp[hb] at e
   ·simp[hb] at e;exact .inl e
 refine ⟨⟨fun b o e=>?_,fun b e=>?_,fun b e=>?_,by simpa using r.len,fun j b e=>?_,r.en.trans st,r.pin⟩,st⟩
 ·by_cases hb:b∈S
  ·simp[hb] at e;exact e
  ·simp[hb] at e;exact r.gh b o e
 ·by_cases hb:b∈S
  ·simp[hb] at e
  ·simp[hb] at e ⊢;exact r.wg b e
 ·by_cases hb:b∈S
  ·simp[hb] at e
  ·simp[hb] at e;exact r.wh b e
 ·by_cases hj:j=i
  ·subst hj
   rw[List.getElem?_set_self (List.getElem?_eq_some_iff.mp hi).1] at e
   cases e
   exact ⟨v,hv,hr⟩
  ·rw[List.getElem?_set_ne (Ne.symm hj)] at e
   obtain ⟨v',h1,h2⟩:=r.sl j b e
   refine ⟨v',h1,h2.grow st.g fun a o e1 e2=>⟨e2,?_⟩⟩
   have:a∉S:=fun z=>by rw[hS a z] at e1;exact hj (Option.some.inj e1).symm
   simp[this,e1]
end
def zab(i:Nat):De:=fun ρ=>match ρ[i]? with
 |some (some (.val d))=>.ok (d,ρ)
 |_=>.no
def zf4(i:Nat):De:=fun ρ=>match ρ[i]? with
 |some (some (.val d))=>.ok (d,ρ)
 |some (some (.own ds))=>.ok (.lst ds,ρ.set i (some (.val (.lst ds))))
 |some (some (.own2 dss))=>.ok (.lst (dss.map .lst),ρ.set i (some (.val (.lst (dss.map .lst)))))
 |_=>.no
theorem zhH{K:W.Frag}{G:Hp}:∀{as:List Addr}{dss:List (List Dt)},Paired (fun b ds=>∃ vs,G b=some (.lst vs)/\zaB K G ds vs) as dss->zaB K G (dss.map .lst) (as.map V.ref)
 |_,_,.nil=>zaB.nil
 |a::as,ds::dss,.cons ⟨vs,h1,h2⟩ t=>zaB.cons (by unfold Rep;exact ⟨a,vs,rfl,h1,h2⟩) (zhH t)
theorem zi0{α β:Type}{F:α->β->Prop}:∀{l₁:List α}{l₂:List β},Paired F l₁ l₂->∀ a∈l₁,∃ b,F a b
 |_,_,.cons r t,a,h=>by
  rcases List.mem_cons.mp h with rfl|h
  ·exact ⟨_,r⟩
  ·exact zi0 t a h
theorem zfp{α β:Type}{F F':α->β->Prop}:∀{l₁:List α}{l₂:List β},Paired F l₁ l₂->(∀ a b,a∈l₁->F a b->F' a b)->Paired F' l₁ l₂
 |_,_,.nil,_=>.nil
 |_,_,.cons r t,f=>.cons (f _ _ List.mem_cons_self r) (zfp t fun a b h=>f a b (List.mem_cons_of_mem _ h))
section
variable{X:Cx}{C:Cn}
theorem zaa(i:Nat){x:Str}{pos:Pos}(hN:X.N[i]? = some x:=by rfl)(hv:Vis X.env.scope x:=by first|exact Or.inl rfl|exact Or.inr (Or.inl rfl)|exact Or.inr (Or.inr rfl))(hd:(x == ("__debug__" : Str))=false:=by decide)
  (hcd:(x == ("__classdict__" : Str))=false:=by decide):JE X C (.Name x pos) (zab i):=(zce hN hv hd hcd).weak fun σ H Q ⟨G,w,ρ,r,p⟩=>by
 unfold zab at p
 split at p
 ·rename_i d e
  obtain ⟨v,h1,h2⟩:=r.sl i _ e
  exact ⟨v,h1,p v G H w (.refl _ _ _) r h2⟩
 ·exact p.elim
theorem zfD(i:Nat){x:Str}{pos:Pos}(hN:X.N[i]? = some x:=by rfl)(hv:Vis X.env.scope x:=by first|exact Or.inl rfl|exact Or.inr (Or.inl rfl)|exact Or.inr (Or.inr rfl))(hd:(x == ("__debug__" : Str))=false:=by decide)
  (hcd:(x == ("__classdict__" : Str))=false:=by decide):JE X C (.Name x pos) (zf4 i):=(zce hN hv hd hcd).weak fun σ H Q ⟨G,w,ρ,r,p⟩=>by
 unfold zf4 at p
 split at p
 ·rename_i d e
  obtain ⟨v,h1,h2⟩:=r.sl i _ e
  exact ⟨v,h1,p v G H w (.refl _ _ _) r h2⟩
 ·rename_i ds e
  obtain ⟨v,h1,a,vs,rfl,h2,h3,h4⟩:=r.sl i _ e
  have hr:Rep X.K (fun b=>if b∈[a] then H b else G b) (.lst ds) (.ref a):=by
   unfold Rep
   refine ⟨a,vs,rfl,(by simp[h3]),zaB.same (fun b o e=>?_) h4⟩
   have:b≠a:=fun z=>by subst z;rw[r.wg b (by rw[h2];simp)] at e;cases e
   simp[this,e]
  obtain ⟨r',s'⟩:=r.freeze [a] (fun b hb=>by simp at hb;subst hb;exact h2) e h1 hr
  exact ⟨_,h1,p _ _ _ _ s' r' hr⟩
 ·rename_i dss e
  obtain ⟨v,h1,a,as,rfl,h2,h3,h4,h5⟩:=r.sl i _ e
  have hS:∀ b∈a::as,w b=some i:=fun b hb=>by
   rcases List.mem_cons.mp hb with rfl|hb
   ·exact h2
   ·obtain ⟨_,z,_⟩:=zi0 h5 b hb
    exact z
  have sg:zcb G (fun b=>if b∈a::as then H b else G b):=fun b o e=>by
   have:b∉a::as:=fun z=>by rw[r.wg b (by rw[hS b z];simp)] at e;cases e
   simp only[this,if_false];exact e
  have hr:Rep X.K (fun b=>if b∈a::as then H b else G b) (.lst (dss.map .lst)) (.ref a):=by
   unfold Rep
   refine ⟨a,as.map V.ref,rfl,(by simp[h3]),zhH (zfp h5 fun b ds hb ⟨q1,vs,q2,q3⟩=>⟨vs,?_,zaB.same sg q3⟩)⟩
   simp[hb,q2]
  obtain ⟨r',s'⟩:=r.freeze (a::as) hS e h1 hr
  exact ⟨_,h1,p _ _ _ _ s' r' hr⟩
 ·exact p.elim
def dC(d:Dt):De:=fun ρ=>.ok (d,ρ)
theorem zal{i j pos}:JE X C (.Constant (.int i) j pos) (dC (.int i)):=PE.weak zqZ fun σ H Q ⟨G,w,ρ,r,p⟩=>p _ G H w (.refl _ _ _) r (by unfold Rep;rfl)
theorem zft{b j pos}:JE X C (.Constant (.bool b) j pos) (dC (.bl b)):=PE.weak zvc fun σ H Q ⟨G,w,ρ,r,p⟩=>p _ G H w (.refl _ _ _) r (by unfold Rep;rfl)
theorem zpu{j pos}:JE X C (.Constant .none j pos) (dC .non):=PE.weak ztJ fun σ H Q ⟨G,w,ρ,r,p⟩=>p _ G H w (.refl _ _ _) r (by unfold Rep;rfl)
theorem zeJ{x j pos}:JE X C (.Constant (.str x) j pos) (dC (.str x)):=PE.weak zuo fun σ H Q ⟨G,w,ρ,r,p⟩=>p _ G H w (.refl _ _ _) r (by unfold Rep;rfl)
theorem zjw{x:Str}{i:Int}{t:Tok}{pos:Pos}(hg:Gl X x)(hm:X.mg x=some (.int i t))(hd:(x == ("__debug__" : Str))=false:=by decide):JE X C (.Name x pos) (dC (.int i)) :=
 (zlt (v:=.int i) hg hm ⟨t,rfl⟩ hd).weak fun σ H Q ⟨G,w,ρ,r,p⟩=>p _ G H w (.refl _ _ _) r (by unfold Rep;rfl)
def dOp(g:Dt->Dt->R Dt)(fa fb:De):De:=fun ρ=>(fa ρ).bind fun a=>(fb a.2).bind fun b=>(g a.1 b.1).bind fun z=>.ok (z,b.2)
def Op2(K:W.Frag)(r:R2)(g:Dt->Dt->R Dt):Prop:=∀(G H:Hp)(x y:V)(dx dy z:Dt)(Q:VK),zcb G H->Rep K G dx x->Rep K G dy y->g dx dy=.ok z ->
 (∀ v G' H',zec G H G' H'->Rep K G' z v->Q v H')->r x y H Q
def zjI(g:Dt->Dt->R Dt):Prop:=∀ x y n,g x y≠.er n
variable{a b:Expr}{fa fb:De}{pos:Pos}
theorem ziW{r:R2}{g:Dt->Dt->R Dt}{σ:L2.St}{H:Hp}{Q:VK}(h2:Op2 X.K r g)(he:zjI g)(h:tE X.K C (dOp g fa fb) σ H Q):tOp r (tE X.K C fa) (tE X.K C fb) σ H Q:=by
 obtain ⟨G,w,ρ,rr,p⟩:=h
 refine zer (κ:=fun G H w=>kE X.K C σ Q G H w) zch rr p fun d ρ1 v G1 H1 w1 r1 s1 q1 p1=>?_
 refine zer (κ:=fun G H w=>kE X.K C σ Q G H w) zch r1 p1 fun d2 ρ2 v2 G2 H2 w2 r2 s2 q2 p2=>?_
 cases e:g d d2 with
 |ok z =>
  simp only[e,R.bind_ok] at p2
  refine h2 G2 H2 v v2 d d2 z Q r2.gh (q1.same s2.g) q2 e fun v3 G3 H3 gr q3=>?_
  exact p2 v3 G3 H3 w2 gr.step (r2.grow gr) q3
 |er n=>exact absurd e (he _ _ _)
 |no=>simp only[e,R.bind_no] at p2;exact p2.elim
theorem znn{op:Operator}{r:R2}{g:Dt->Dt->R Dt}(ho:OpR X (binaryOp op) r)(h2:Op2 X.K r g)(he:zjI g)(ha:JE X C a fa)(hb:JE X C b fb):JE X C (.BinOp a op b pos) (dOp g fa fb) :=
 (zrG ho ha hb).weak fun σ H Q h=>ziW h2 he h
theorem zlM{op:CmpOp}{r:R2}{g:Dt->Dt->R Dt}(ho:OpR X (compareOp op) r)(h2:Op2 X.K r g)(he:zjI g)(ha:JE X C a fa)(hb:JE X C b fb)(hm:behindInMarks op b=false):JE X C (.Compare a [op] [b] pos) (dOp g fa fb) :=
 (zsc ho ha hb hm).weak fun σ H Q h=>ziW h2 he h
def dTB(f:De):DT:=fun ρ=>(f ρ).bind fun a=>match a.1 with
 |.bl b=>.ok (b,a.2)
 |_=>.no
theorem zdz{K:W.Frag}{G:Hp}{b:Bool}{v:V}(h:Rep K G (.bl b) v):v=.bl b:=by unfold Rep at h;exact h
theorem za5{K:W.Frag}{G:Hp}{b:Int}{v:V}(h:Rep K G (.int b) v):v=.int b:=by unfold Rep at h;exact h
theorem zgd{K:W.Frag}{G:Hp}{b:Str}{v:V}(h:Rep K G (.str b) v):v=.str b:=by unfold Rep at h;exact h
theorem zhs{K:W.Frag}{G:Hp}{v:V}(h:Rep K G .non v):v=.non:=by unfold Rep at h;exact h
theorem zfO{K:W.Frag}{G:Hp}{l:List Dt}{v:V}(h:Rep K G (.tup l) v):∃ a vs,v=.ref a/\zjU K G a vs/\zaB K G l vs:=by unfold Rep at h;exact h
theorem zcu{K:W.Frag}{G:Hp}{l:List Dt}{v:V}(h:Rep K G (.tup l) v):∃ a vs,v=.ref a/\SqT K G a vs/\zaB K G l vs:=by
 obtain ⟨a,vs,h1,h2,h3⟩:=zfO h
 exact ⟨a,vs,h1,h2.sq,h3⟩
theorem zbm{K:W.Frag}{G:Hp}{l:List Dt}{v:V}(h:Rep K G (.lst l) v):∃ a vs,v=.ref a/\G a=some (.lst vs)/\zaB K G l vs:=by unfold Rep at h;exact h
theorem zkP{f:De}{σ:L2.St}{H:Hp}{Q:Bool->Hp->Prop}(h:tT X.K C (dTB f) σ H Q):tE X.K C f σ H fun x H'=>∃ k,x=.bl k/\Q k H':=by
 obtain ⟨G,w,ρ,r,p⟩:=h
 refine zer (κ:=fun G H w=>kT X.K C σ Q G H w) zq7 r p fun d ρ1 v G1 H1 w1 r1 s1 q1 p1=>?_
 cases d with
 |bl b=>exact ⟨b,zdz q1,p1 G1 H1 w1 (.refl _ _ _) r1⟩
 |_=>exact p1.elim
theorem zi8{op:CmpOp}{r:R2}{g:Dt->Dt->R Dt}(ho:OpR X (compareOp op) r)(h2:Op2 X.K r g)(he:zjI g)(ha:JE X C a fa)(hb:JE X C b fb)(hm:behindInMarks op b=false):JT X C (.Compare a [op] [b] pos) (dTB (dOp g fa fb)) :=
 (zoX ho ha hb hm).weak fun σ H Q h=>by
  have h':=zkP h
  exact ziW h2 he h'
theorem zcD{e:Expr}{f:De}(h:JE X C e f)(he:∀ whole,isTrue e X.env whole=(do let v <- whole;standAt e.pos;holding [v] (truthy v)):=by intro _;rfl):JT X C e (dTB f) :=
 (zub h he).weak fun σ H Q h=>zkP h
def zbL(f:DT):DT:=fun ρ=>(f ρ).bind fun a=>.ok (!a.1,a.2)
def zgI(f g:DT):DT:=fun ρ=>(f ρ).bind fun a=>if a.1=true then g a.2 else .ok (false,a.2)
def zn5(f g:DT):DT:=fun ρ=>(f ρ).bind fun a=>if a.1=true then .ok (true,a.2) else g a.2
variable{tA tB':DT}{zcc:List Expr}
theorem zeu(ha:JT X C a tA):JT X C (.UnaryOp .Not a pos) (zbL tA):=(zuH ha).weak fun σ H Q ⟨G,w,ρ,r,p⟩ =>
 zth (κ:=fun G H w=>kT X.K C σ Q G H w) zq7 r p fun b ρ1 G1 H1 w1 r1 s1 p1=>p1 G1 H1 w1 (.refl _ _ _) r1
theorem zoA(ha:JT X C a tA):JW X C (.BoolOp .And [a] pos) tA:=zsu ha
theorem zoY(ha:JT X C a tA):JW X C (.BoolOp .Or [a] pos) tA:=zuc ha
theorem zqY(ha:JT X C a tA)(hb:JW X C (.BoolOp .And (b::zcc) pos) tB'):JW X C (.BoolOp .And (a::b::zcc) pos) (zgI tA tB'):=(zu3 ha hb).weak fun σ H Q ⟨G,w,ρ,r,p⟩=>by
 refine zth (κ:=fun G H w=>kT X.K C σ Q G H w) zq7 r p fun b ρ1 G1 H1 w1 r1 s1 p1=>?_
 cases b with
 |true=>exact ⟨G1,w1,ρ1,r1,p1⟩
 |false=>exact p1 G1 H1 w1 (.refl _ _ _) r1
theorem zqJ(ha:JT X C a tA)(hb:JW X C (.BoolOp .Or (b::zcc) pos) tB'):JW X C (.BoolOp .Or (a::b::zcc) pos) (zn5 tA tB'):=(zuS ha hb).weak fun σ H Q ⟨G,w,ρ,r,p⟩=>by
 refine zth (κ:=fun G H w=>kT X.K C σ Q G H w) zq7 r p fun b ρ1 G1 H1 w1 r1 s1 p1=>?_
 cases b with
 |true=>exact p1 G1 H1 w1 (.refl _ _ _) r1
 |false=>exact ⟨G1,w1,ρ1,r1,p1⟩
theorem JW.jt{e:Expr}{f:DT}(h:JW X C e f):JT X C e f:=PW.pt h
def zkS(fa fb:De):De:=fun ρ=>(fa ρ).bind fun a=>match a.1 with
 |.bl true=>fb a.2
 |.bl false=>.ok (.bl false,a.2)
 |_=>.no
def zuJ(fa:De):De:=fun ρ=>(fa ρ).bind fun a=>match a.1 with
 |.bl b=>.ok (.bl (!b),a.2)
 |_=>.no
theorem zi7{op}{f:De}(h:JE X C a f):JE X C (.BoolOp op [a] pos) f:=ztF h
theorem zis(ha:JE X C a fa)(hb:JE X C (.BoolOp .And (b::zcc) pos) fb):JE X C (.BoolOp .And (a::b::zcc) pos) (zkS fa fb):=(ztO ha hb).weak fun σ H Q ⟨G,w,ρ,r,p⟩=>by
 refine zer (κ:=fun G H w=>kE X.K C σ Q G H w) zch r p fun d ρ1 v G1 H1 w1 r1 s1 q1 p1=>?_
 cases d with
 |bl b =>
  refine ⟨b,zdz q1,?_⟩
  cases b with
  |true=>exact ⟨G1,w1,ρ1,r1,p1⟩
  |false=>exact p1 _ G1 H1 w1 (.refl _ _ _) r1 (by unfold Rep;rfl)
 |_=>exact p1.elim
theorem zrq(ha:JE X C a fa):JE X C (.UnaryOp .Not a pos) (zuJ fa):=(ztA ha).weak fun σ H Q ⟨G,w,ρ,r,p⟩=>by
 refine zer (κ:=fun G H w=>kE X.K C σ Q G H w) zch r p fun d ρ1 v G1 H1 w1 r1 s1 q1 p1=>?_
 cases d with
 |bl b=>exact ⟨b,zdz q1,p1 _ G1 H1 w1 (.refl _ _ _) r1 (by unfold Rep;rfl)⟩
 |_=>exact p1.elim
def zvi(t:DT)(fa fb:De):De:=fun ρ=>(t ρ).bind fun c=>if c.1=true then fa c.2 else fb c.2
theorem zuf{c:Expr}(hc:JT X C c tA)(ha:JE X C a fa)(hb:JE X C b fb):JE X C (.IfExp c a b pos) (zvi tA fa fb):=(zqS hc ha hb).weak fun σ H Q ⟨G,w,ρ,r,p⟩=>by
 refine zth (κ:=fun G H w=>kE X.K C σ Q G H w) zch r p fun b ρ1 G1 H1 w1 r1 s1 p1=>?_
 cases b with
 |true=>exact ⟨G1,w1,ρ1,r1,p1⟩
 |false=>exact ⟨G1,w1,ρ1,r1,p1⟩
abbrev DA:=Ev->R (List Dt×Ev)
def kA(K:W.Frag)(C:Cn)(σ:L2.St)(Q:List V->Hp->Prop)(G H:Hp)(w:Wn)(a:List Dt×Ev):Prop :=
 ∀ vs G' H' w',zbJ G H w G' H' w'->Rel K C G' w' a.2 σ H'->zaB K G' a.1 vs->Q vs H'
theorem ztv{K:W.Frag}{σ:L2.St}{Q:List V->Hp->Prop}:Stp (fun G H w=>kA K C σ Q G H w):=fun _ _ _ _ _ _ _ s k v G' H' w' s'=>k v G' H' w' (s.trans s')
def tAd(K:W.Frag)(C:Cn)(f:DA):TA:=fun σ H Q=>∃ G w ρ,Rel K C G w ρ σ H/\zc0 C.ex (kA K C σ Q G H w) (f ρ)
abbrev JA(X:Cx)(C:Cn)(es:List Expr)(f:DA):Prop:=PA X es (tAd X.K C f)
def dA0:DA:=fun ρ=>.ok ([],ρ)
def dA(fa:De)(fr:DA):DA:=fun ρ=>(fa ρ).bind fun a=>(fr a.2).bind fun b=>.ok (a.1::b.1,b.2)
theorem zs4{K:W.Frag}{σ:L2.St}{α:Type}{κ:zpL α}(st:Stp κ){G H:Hp}{w:Wn}{ρ:Ev}{fa:DA}{g:List Dt×Ev->R α}{Q:List V->Hp->Prop}(r:Rel K C G w ρ σ H)(p:zc0 C.ex (κ G H w) ((fa ρ).bind g))
  (k:∀ ds ρ1 vs G1 H1 w1,Rel K C G1 w1 ρ1 σ H1->zbJ G H w G1 H1 w1->zaB K G1 ds vs->zc0 C.ex (κ G1 H1 w1) (g (ds,ρ1))->Q vs H1):tAd K C fa σ H Q:=by
 refine ⟨G,w,ρ,r,?_⟩
 cases e:fa ρ with
 |ok a =>
  rw[e] at p
  intro v G' H' w' s' r' q
  exact k a.1 a.2 v G' H' w' r' s' q (zc0.step st s' p)
 |er n=>rw[e] at p;exact p
 |no=>rw[e] at p;exact p
theorem za4:JA X C [] dA0:=PA.weak zcr fun σ H Q ⟨G,w,ρ,r,p⟩=>p _ G H w (.refl _ _ _) r zaB.nil
theorem zao{e:Expr}{es:List Expr}{fr:DA}(ha:JE X C e fa)(hr:JA X C es fr)(hs:starEach (e::es) X.env=(false,eval e X.env)::starEach es X.env:=by rfl):JA X C (e::es) (dA fa fr) :=
 (zbe ha hr hs).weak fun σ H Q ⟨G,w,ρ,r,p⟩=>by
  refine zer (κ:=fun G H w=>kA X.K C σ Q G H w) ztv r p fun d ρ1 v G1 H1 w1 r1 s1 q1 p1=>?_
  refine zs4 (κ:=fun G H w=>kA X.K C σ Q G H w) ztv r1 p1 fun ds ρ2 vs G2 H2 w2 r2 s2 q2 p2=>?_
  exact p2 _ G2 H2 w2 (.refl _ _ _) r2 (zaB.cons (q1.same s2.g) q2)
def zem{α:Type}(l:List α):Bool:=decide (l.length<=16777216)
def zjJ(f:DA):De:=fun ρ=>(f ρ).bind fun a=>if zem a.1=true then .ok (.tup a.1,a.2) else .no
def zbY(f:DA):DN:=fun ρ=>(f ρ).bind fun a=>if zem a.1=true then .ok (a.1,a.2) else .no
theorem ziO{α:Type}{l:List α}(h:zem l=true):l.length<=sizeLine:=by
 have:=of_decide_eq_true h
 rw[show sizeLine=16777216 from by decide];exact this
theorem zfH{x1}{es:List Expr}{f:DA}(h:JA X C es f):JE X C (.Tuple es x1 pos) (zjJ f):=(zrs h).weak fun σ H Q ⟨G,w,ρ,r,p⟩=>by
 refine zs4 (κ:=fun G H w=>kE X.K C σ Q G H w) zch r p fun ds ρ1 vs G1 H1 w1 r1 s1 q1 p1=>?_
 by_cases hf:zem ds=true
 ·simp only[hf,if_true] at p1
  refine ⟨by rw[<- q1.length];exact ziO hf,fun a ha=>?_⟩
  have gr:zec G1 H1 (upd G1 a (.tup vs)) (upd H1 a (.tup vs)):=.new r1.gh ha
  exact p1 _ _ _ w1 gr.step (r1.grow gr) (by unfold Rep;exact ⟨a,vs,rfl,zjU.of zan,q1.same gr.g⟩)
 ·simp only[hf] at p1;exact p1.elim
theorem zb1{es:List Expr}{f:DA}(h:JA X C es f):JN X C (.List es pos) (zbY f):=(zri h).weak fun σ H Q ⟨G,w,ρ,r,p⟩=>by
 refine zs4 (κ:=fun G H w=>kN X.K C σ Q G H w) zeF r p fun ds ρ1 vs G1 H1 w1 r1 s1 q1 p1=>?_
 by_cases hf:zem ds=true
 ·simp only[hf,if_true] at p1
  refine ⟨by rw[<- q1.length];exact ziO hf,fun a ha=>?_⟩
  have gr:zec G1 H1 G1 (upd H1 a (.lst vs)):=.newH r1.gh ha
  exact p1 a vs _ _ w1 gr.step (r1.grow gr) ha zan (r1.gh.free ha) (by
   cases z:w1 a with
   |none=>rfl
   |some k=>exact absurd ha (r1.wh a (by rw[z];simp))) q1
 ·simp only[hf] at p1;exact p1.elim
def dFz(f:DN):De:=fun ρ=>(f ρ).bind fun a=>.ok (.lst a.1,a.2)
theorem Rel.know{K:W.Frag}{σ:L2.St}{G H:Hp}{w:Wn}{ρ:Ev}{p:Addr}{o:HO}(r:Rel K C G w ρ σ H)(hp:H p=some o)(hg:G p=none)(hw:w p=none)(H0:Hp)(G0:Hp)(w0:Wn)(s:zbJ G0 H0 w0 G H w)(h0:H0 p=none)
  (e0:C.H₀ p=none\/C.w₀ p≠none\/C.G₀ p≠none):Rel K C (upd G p o) w ρ σ H/\zbJ G0 H0 w0 (upd G p o) H w:=by
 have sg:zcb G (upd G p o):=fun b u e=>by rw[zai (zah e hg)];exact e
 have s1:∀{G1 H1:Hp}{w1:Wn},zbJ G1 H1 w1 G H w->(H1 p=none\/w1 p≠none\/G1 p≠none)->zbJ G1 H1 w1 (upd G p o) H w:=fun s z=>by
  refine ⟨s.g.trans sg,fun b u e=>?_,s.h,s.w,s.k⟩
  by_cases hb:b=p
  ·subst hb
   rcases z with z|z|z
   ·exact .inr (.inl z)
   ·exact .inr (.inr z)
   ·exact .inl z
  ·rw[zai hb] at e;exact s.fr b u e
 refine ⟨⟨fun b u e=>?_,fun b e=>?_,r.wh,r.len,fun i b e=>?_,s1 r.en e0,r.pin⟩,s1 s (.inl h0)⟩
 ·by_cases hb:b=p
  ·subst hb;rw[zan] at e;cases e;exact hp
  ·rw[zai hb] at e;exact r.gh b u e
 ·by_cases hb:b=p
  ·subst hb;rw[hw] at e;exact absurd rfl e
  ·rw[zai hb];exact r.wg b e
 ·obtain ⟨v,h1,h2⟩:=r.sl i b e
  exact ⟨v,h1,h2.grow sg fun _ _ e1 e2=>⟨e2,e1⟩⟩
end
section
variable{X:Cx}{C:Cn}{a b e:Expr}{fa fb:De}{pos:Pos}
theorem zaw{f:DN}(h:JN X C e f):JE X C e (dFz f):=PE.weak h fun σ H Q ⟨G,w,ρ,r,p⟩=>by
 refine zvz (κ:=fun G H w=>kE X.K C σ Q G H w) r p fun ds ρ1 a vs G1 H1 w1 r1 s1 h0 h1 h2 h3 q1 p1=>?_
 obtain ⟨r',s'⟩:=r1.know h1 h2 h3 H G w s1 h0 (.inl (r.en.k a h0))
 have sg:zcb G1 (upd G1 a (.lst vs)):=fun b u e=>by rw[zai (zah e h2)];exact e
 exact p1 _ _ _ _ s' r' (by unfold Rep;exact ⟨a,vs,rfl,zan,q1.same sg⟩)
def za2(f g:DS):DS:=fun ρ=>(f ρ).bind fun a=>match a.1 with
 |.nx=>g a.2
 |fl=>.ok (fl,a.2)
def dNx:DS:=fun ρ=>.ok (.nx,ρ)
variable{st:Stmt}{zcc:List Stmt}{fs gs:DS}
theorem zaG:JSs X C [] dNx:=PSs.weak ztb fun D σ H ⟨G,w,ρ,r,p⟩=>p σ G H w (.refl _ _ _) r
theorem zaf(h1:JS X C st fs)(h2:JSs X C zcc gs):JSs X C (st::zcc) (za2 fs gs):=PSs.weak (zdd h1 h2) fun D σ H ⟨G,w,ρ,r,p⟩=>by
 refine ⟨G,w,ρ,r,?_⟩
 unfold za2 at p
 cases e:fs ρ with
 |ok x =>
  rw[e] at p
  obtain ⟨fl,ρ1⟩:=x
  cases fl with
  |nx=>exact fun σ' G' H' w' s' r'=>⟨G',w',ρ1,r',zc0.step zdS s' p⟩
  |bk=>exact p
  |ct=>exact p
  |rt d=>exact p
 |er n=>rw[e] at p;exact p
 |no=>rw[e] at p;exact p
theorem zaj(h1:JS X C st fs):JSs X C [st] fs:=zoB h1
def dEx(f:De):DS:=fun ρ=>(f ρ).bind fun a=>.ok (.nx,a.2)
theorem zb6(he:JE X C e fa)(hs:swapsWith e none pos.line X.env=pure false:=by rfl):JS X C (.Expr e pos) (dEx fa):=PS.weak (znY he hs) fun D σ H ⟨G,w,ρ,r,p⟩ =>
 zer (κ:=fun G H w=>kS X.K C D G H w) zdS r p fun d ρ1 v G1 H1 w1 r1 s1 q1 p1=>p1 σ G1 H1 w1 (.refl _ _ _) r1
def zb2(f:De):DS:=fun ρ=>(f ρ).bind fun a=>.ok (.rt a.1,a.2)
theorem zaC(hn:C.nw=false)(he:JE X C e fa):JS X C (.Return (some e) pos) (zb2 fa):=PS.weak (zrt he) fun D σ H ⟨G,w,ρ,r,p⟩ =>
 zer (κ:=fun G H w=>kS X.K C D G H w) zdS r p fun d ρ1 v G1 H1 w1 r1 s1 q1 p1=>p1 v σ G1 H1 w1 (.refl _ _ _) r1 (by rw[hn];exact q1)
def zd6(f:DN):DS:=fun ρ=>(f ρ).bind fun a=>.ok (.rt (.lst a.1),a.2)
theorem zgT{f:DN}(hn:C.nw=true)(he:JN X C e f):JS X C (.Return (some e) pos) (zd6 f):=PS.weak (zrt he) fun D σ H ⟨G,w,ρ,r,p⟩ =>
 zvz (κ:=fun G H w=>kS X.K C D G H w) r p fun ds ρ1 a vs G1 H1 w1 r1 s1 h0 h1 h2 h3 q1 p1=>p1 _ σ G1 H1 w1 s1 r1 (by rw[hn];exact ⟨ds,a,vs,rfl,rfl,r.en.k a h0,h1,h2,h3,q1⟩)
def dIf(c:DT)(f g:DS):DS:=fun ρ=>(c ρ).bind fun b=>if b.1=true then f b.2 else g b.2
theorem zbI{c:Expr}{A B:List Stmt}{tc:DT}(hc:JT X C c tc)(ha:JSs X C A fs)(hb:JSs X C B gs):JS X C (.If c A B pos) (dIf tc fs gs):=PS.weak (zvj hc ha hb) fun D σ H ⟨G,w,ρ,r,p⟩=>by
 refine zth (κ:=fun G H w=>kS X.K C D G H w) zdS r p fun b ρ1 G1 H1 w1 r1 s1 p1=>?_
 cases b with
 |true=>exact ⟨G1,w1,ρ1,r1,p1⟩
 |false=>exact ⟨G1,w1,ρ1,r1,p1⟩
theorem Rel.setVal{K:W.Frag}{σ:L2.St}{G H:Hp}{w:Wn}{ρ:Ev}{i:Nat}{d:Dt}{v:V}(r:Rel K C G w ρ σ H)(hi:i < ρ.length)(hp:i∉C.pp)(h:Rep K G d v):Rel K C G w (ρ.set i (some (.val d))) (σ.set i (some v)) H:=by
 refine ⟨r.gh,r.wg,r.wh,by simpa using r.len,fun j b e=>?_,r.en,fun j hj=>?_⟩
 ·by_cases hj:j=i
  ·subst hj
   rw[List.getElem?_set_self hi] at e
   cases e
   exact ⟨v,List.getElem?_set_self (by rw[<- r.len];exact hi),h⟩
  ·rw[List.getElem?_set_ne (Ne.symm hj)] at e
   obtain ⟨v',h1,h2⟩:=r.sl j b e
   exact ⟨v',by rw[List.getElem?_set_ne (Ne.symm hj)];exact h1,h2⟩
 ·have:i≠j:=fun z=>hp (z ▸ hj)
  rw[List.getElem?_set_ne this];exact r.pin j hj
theorem Rel.setOwn{K:W.Frag}{σ:L2.St}{G0 H0:Hp}{w0:Wn}{G H:Hp}{w:Wn}{ρ:Ev}{i:Nat}{ds:List Dt}{p:Addr}{vs:List V}(r:Rel K C G w ρ σ H)(hi:i < ρ.length)(hpp:i∉C.pp)(hp:H p=some (.lst vs))(hg:G p=none)(hw:w p=none)
  (q:zaB K G ds vs) (s:zbJ G0 H0 w0 G H w) (h0:H0 p=none) (en0:C.H₀ p=none) :
  Rel K C G (fun b=>if b=p then some i else w b) (ρ.set i (some (.own ds))) (σ.set i (some (.ref p))) H/\zbJ G0 H0 w0 G H (fun b=>if b=p then some i else w b):=by
 have s1:∀{G1 H1:Hp}{w1:Wn},zbJ G1 H1 w1 G H w->H1 p=none->zbJ G1 H1 w1 G H (fun b=>if b=p then some i else w b):=fun s z=>by
  refine ⟨s.g,s.fr,s.h,fun b e=>?_,s.k⟩
  by_cases hb:b=p
  ·subst hb;exact .inr z
  ·simp[hb] at e;exact s.w b e
 refine ⟨⟨r.gh,fun b e=>?_,fun b e=>?_,by simpa using r.len,fun j b e=>?_,s1 r.en en0,fun j hj=>?_⟩,s1 s h0⟩
 ·by_cases hb:b=p
  ·subst hb;exact hg
  ·simp[hb] at e;exact r.wg b e
 ·by_cases hb:b=p
  ·subst hb;rw[hp];simp
  ·simp[hb] at e;exact r.wh b e
 ·by_cases hj:j=i
  ·subst hj
   rw[List.getElem?_set_self hi] at e
   cases e
   exact ⟨_,List.getElem?_set_self (by rw[<- r.len];exact hi),p,vs,rfl,by simp,hp,q⟩
  ·rw[List.getElem?_set_ne (Ne.symm hj)] at e
   obtain ⟨v',h1,h2⟩:=r.sl j b e
   refine ⟨v',by rw[List.getElem?_set_ne (Ne.symm hj)];exact h1,h2.grow (.refl _) fun a o e1 e2=>⟨e2,?_⟩⟩
   have:a≠p:=fun z=>by subst z;rw[hw] at e1;cases e1
   simp[this,e1]
 ·have:i≠j:=fun z=>hpp (z ▸ hj)
  rw[List.getElem?_set_ne this];exact r.pin j hj
def zbf(i:Nat)(f:De):DS:=fun ρ=>(f ρ).bind fun a=>if i<a.2.length then .ok (.nx,a.2.set i (some (.val a.1))) else .no
theorem zbt{i:Nat}{x:Str}{pos':Pos}(hN:X.N.Nodup)(hi:X.N[i]? = some x)(hx:Loc X.env.scope x)(hp:i∉C.pp)(he:JE X C e fa)(hs:swapsWith e (some (.Name x pos')) pos.line X.env=pure false:=by rfl)
  (hf:X.fn x=true\/X.env.scope.names.lookup x=some .local:=by first|exact .inl rfl|exact .inr rfl|assumption):JS X C (.Assign [.Name x pos'] e pos) (zbf i fa) :=
 PS.weak (zm4 hN hi hx he hs) fun D σ H ⟨G,w,ρ,r,p⟩=>by
  refine zer (κ:=fun G H w=>kS X.K C D G H w) zdS r p fun d ρ1 v G1 H1 w1 r1 s1 q1 p1=>?_
  by_cases hl:i < ρ1.length
  ·simp only[hl,if_true] at p1
   exact p1 _ G1 H1 w1 (.refl _ _ _) (r1.setVal hl hp q1)
  ·simp only[hl,if_false] at p1
   exact p1.elim
def zb5(i:Nat)(f:DN):DS:=fun ρ=>(f ρ).bind fun a=>if i<a.2.length then .ok (.nx,a.2.set i (some (.own a.1))) else .no
theorem zdP{i:Nat}{x:Str}{pos':Pos}{f:DN}(hN:X.N.Nodup)(hi:X.N[i]? = some x)(hx:Loc X.env.scope x)(hp:i∉C.pp)(he:JN X C e f)(hs:swapsWith e (some (.Name x pos')) pos.line X.env=pure false:=by rfl)
  (hf:X.fn x=true\/X.env.scope.names.lookup x=some .local:=by first|exact .inl rfl|exact .inr rfl|assumption):JS X C (.Assign [.Name x pos'] e pos) (zb5 i f) :=
 PS.weak (zm4 hN hi hx he hs) fun D σ H ⟨G,w,ρ,r,p⟩=>by
  refine zvz (κ:=fun G H w=>kS X.K C D G H w) r p fun ds ρ1 a vs G1 H1 w1 r1 s1 h0 h1 h2 h3 q1 p1=>?_
  by_cases hl:i < ρ1.length
  ·simp only[hl,if_true] at p1
   obtain ⟨r',s'⟩:=r1.setOwn hl hp h1 h2 h3 q1 s1 h0 (r.en.k a h0)
   exact p1 _ _ _ _ s' r'
  ·simp only[hl,if_false] at p1
   exact p1.elim
def zo8(i:Nat)(fb:De):De:=fun ρ=>match ρ[i]? with
 |some (some _)=>(fb ρ).bind fun b=>match b.2[i]?,b.1 with
  |some (some (.own ds)),.int k=>match atI ds k with
   |some d=>.ok (d,b.2)
   |none=>.no
  |_,_=>.no
 |_=>.no
theorem ziM{K:W.Frag}{G:Hp}{ds:List Dt}{vs:List V}{k:Int}{d:Dt}(h:zaB K G ds vs)(e:atI ds k=some d):∃ v,atI vs k=some v/\Rep K G d v:=by
 unfold atI at e ⊢
 rw[<- h.length]
 cases q:ixN ds.length k with
 |none=>rw[q] at e;cases e
 |some j =>
  rw[q] at e
  exact h.get e
theorem zhe(i:Nat){x:Str}{ps:Pos}(hN:X.N[i]? = some x:=by rfl)(hb:JE X C b fb)(hv:Vis X.env.scope x:=by first|exact Or.inl rfl|exact Or.inr (Or.inl rfl)|exact Or.inr (Or.inr rfl))(hd:(x == ("__debug__" : Str))=false:=by decide)
  (hcd:(x == ("__classdict__" : Str))=false:=by decide) (hs:zl9 b:=by exact fun _ _=>rfl):JE X C (.Subscript (.Name x ps) b pos) (zo8 i fb) :=
 PE.weak (zt7 zov (zce hN hv hd hcd) hb hs) fun σ H Q ⟨G,w,ρ,r,p⟩=>by
  unfold zo8 at p
  split at p
  ·rename_i b0 e0
   obtain ⟨v0,h0,_⟩:=r.sl i b0 e0
   refine ⟨v0,h0,?_⟩
   refine zer (κ:=fun G H w=>kE X.K C σ Q G H w) zch r p fun d ρ1 v G1 H1 w1 r1 s1 q1 p1=>?_
   dsimp only at p1
   split at p1
   ·rename_i ds k e1
    obtain ⟨v1,h1,a,vs,rfl,h2,h3,h4⟩:=r1.sl i _ e1
    rw[h0] at h1;cases h1
    split at p1
    ·rename_i d' e2
     obtain ⟨v2,h5,h6⟩:=ziM h4 e2
     exact ⟨a,vs,k,v2,rfl,za5 q1,SqL.of h3,h5,p1 v2 G1 H1 w1 (.refl _ _ _) r1 h6⟩
    ·exact p1.elim
   ·exact p1.elim
  ·exact p.elim
end
def zp3(K:W.Frag)(J:It)(G:Hp)(ds:List Dt):Prop:=∀(i:Nat)(G1 H:Hp),zcb G G1->zcb G1 H ->
 (∀ d,ds[i]? = some d->J.go i H/\∀ x H',J.yld i H x H'->∃ G2,zec G1 H G2 H'/\Rep K G2 d x)/\(ds.length<=i->J.stop i H)
def kI(K:W.Frag)(C:Cn)(σ:L2.St)(Q:It->Hp->Prop)(G H:Hp)(w:Wn)(a:List Dt×Ev):Prop :=
 ∀ J G' H' w',zbJ G H w G' H' w'->Rel K C G' w' a.2 σ H'->zp3 K J G' a.1->Q J H'
def tI(K:W.Frag)(C:Cn)(f:DA):TI:=fun σ H Q=>∃ G w ρ,Rel K C G w ρ σ H/\zc0 C.ex (kI K C σ Q G H w) (f ρ)
abbrev JI(X:Cx)(C:Cn)(tg iter:Expr)(f:DA):Prop:=PI X tg iter (tI X.K C f)
section
variable{X:Cx}{C:Cn}{tg iter:Expr}{fa:De}{pos:Pos}
theorem zvx{K:W.Frag}{σ:L2.St}{α:Type}{κ:zpL α}(st:Stp κ){G H:Hp}{w:Wn}{ρ:Ev}{fa:DA}{g:List Dt×Ev->R α}{Q:It->Hp->Prop}(r:Rel K C G w ρ σ H)(p:zc0 C.ex (κ G H w) ((fa ρ).bind g))
  (k:∀ ds ρ1 J G1 H1 w1,Rel K C G1 w1 ρ1 σ H1->zbJ G H w G1 H1 w1->zp3 K J G1 ds->zc0 C.ex (κ G1 H1 w1) (g (ds,ρ1))->Q J H1):tI K C fa σ H Q:=by
 refine ⟨G,w,ρ,r,?_⟩
 cases e:fa ρ with
 |ok a =>
  rw[e] at p
  intro v G' H' w' s' r' q
  exact k a.1 a.2 v G' H' w' r' s' q (zc0.step st s' p)
 |er n=>rw[e] at p;exact p
 |no=>rw[e] at p;exact p
theorem PI.or{t t':TI}(h:PI X tg iter t)(h':PI X tg iter t'):PI X tg iter (fun σ H Q=>t σ H Q\/t' σ H Q):=fun pins s σ H Q I q=>q.elim (h pins s σ H Q I) (h' pins s σ H Q I)
theorem PI.weak{t t':TI}(h:PI X tg iter t)(k:∀ σ H Q,t' σ H Q->t σ H Q):PI X tg iter t':=fun pins s σ H Q I q=>h pins s σ H Q I (k σ H Q q)
def dIt(f:De):DA:=fun ρ=>(f ρ).bind fun a=>match a.1 with
 |.lst l=>.ok (l,a.2)
 |.tup l=>.ok (l,a.2)
 |_=>.no
theorem ztx{K:W.Frag}{G:Hp}{a:Addr}{vs:List V}{ds:List Dt}(hs:SqT K G a vs)(q:zaB K G ds vs):zp3 K (Itt K a) G ds:=fun i G1 H s1 s2=>by
 refine ⟨fun d e=>?_,fun h=>⟨vs,zbc s2 (zbc s1 hs),by rw[<- q.length];exact h⟩⟩
 obtain ⟨v,e1,e2⟩:=q.get e
 refine ⟨⟨vs,v,zbc s2 (zbc s1 hs),e1⟩,fun x H' y=>?_⟩
 obtain ⟨rfl,y⟩:=y
 have:=y vs (zbc s2 (zbc s1 hs))
 rw[e1] at this;cases this
 exact ⟨G1,.refl s2,e2.same s1⟩
theorem zsR{K:W.Frag}{G:Hp}{a:Addr}{vs:List V}{ds:List Dt}(hs:SqL K G a vs)(q:zaB K G ds vs):zp3 K (Itl K a) G ds:=fun i G1 H s1 s2=>by
 refine ⟨fun d e=>?_,fun h=>⟨vs,s2.seq (s1.seq hs),by rw[<- q.length];exact h⟩⟩
 obtain ⟨v,e1,e2⟩:=q.get e
 refine ⟨⟨vs,v,s2.seq (s1.seq hs),e1⟩,fun x H' y=>?_⟩
 obtain ⟨rfl,y⟩:=y
 have:=y vs (s2.seq (s1.seq hs))
 rw[e1] at this;cases this
 exact ⟨G1,.refl s2,e2.same s1⟩
theorem zcF(h:JE X C iter fa):JI X C tg iter (dIt fa):=PI.weak (PI.or (zl0 h) (zu7 h)) fun σ H Q ⟨G,w,ρ,r,p⟩=>by
 unfold dIt at p
 cases e:fa ρ with
 |ok x =>
  obtain ⟨d,ρ1⟩:=x
  cases d with
  |lst l =>
   rw[e] at p
   refine .inl ⟨G,w,ρ,r,?_⟩
   rw[e]
   intro v G' H' w' s' r' q
   obtain ⟨a,vs,rfl,h1,h2⟩:=zbm q
   exact ⟨a,rfl,⟨vs,SqL.of (r'.gh _ _ h1)⟩,p _ G' H' w' s' r' (zsR (SqL.of h1) h2)⟩
  |tup l =>
   rw[e] at p
   refine .inr ⟨G,w,ρ,r,?_⟩
   rw[e]
   intro v G' H' w' s' r' q
   obtain ⟨a,vs,rfl,h1,h2⟩:=zcu q
   exact ⟨a,rfl,⟨vs,zbc r'.gh h1⟩,p _ G' H' w' s' r' (ztx h1 h2)⟩
  |_=>rw[e] at p;exact p.elim
 |er n=>rw[e] at p;exact .inl ⟨G,w,ρ,r,by rw[e];exact p⟩
 |no=>rw[e] at p;exact p.elim
def zaI(lo:Int)(n:Nat):List Dt:=(List.range n).map fun k=>.int (lo+(k:Nat))
theorem zut{K:W.Frag}{G:Hp}{lo:Int}{n:Nat}:zp3 K (Itr lo n) G (zaI lo n):=fun i G1 H s1 s2=>by
 refine ⟨fun d e=>?_,fun h=>show n<=i by simpa [zaI] using h⟩
 unfold zaI at e
 rw[List.getElem?_map] at e
 by_cases hi:i<n
 ·rw[List.getElem?_range hi] at e
  cases e
  refine ⟨hi,fun x H' y=>?_⟩
  obtain ⟨rfl,rfl⟩:=y
  exact ⟨G1,.refl s2,by unfold Rep;rfl⟩
 ·rw[List.getElem?_eq_none (by simpa using hi)] at e
  cases e
def zeD(j:Int):Bool:=decide (-4611686018427387904<=j) && decide (j<4611686018427387904)
theorem zgQ{j:Int}(h:zeD j=true):-(2 ^ 62)<=j/\j<2 ^ 62:=by
 unfold zeD at h
 rw[Bool.and_eq_true] at h
 have h1:=of_decide_eq_true h.1
 have h2:=of_decide_eq_true h.2
 omega
def zbq(fa:De):DA:=fun ρ=>(fa ρ).bind fun a=>match a.1 with
 |.int j=>if zeD j=true then .ok (zaI 0 j.toNat,a.2) else .no
 |_=>.no
theorem zbD{e:Expr}{p ps:Pos}(hg:Gl X "range")(hm:X.mg "range"=none)(he:JE X C e fa)(hs:starEach [e] X.env=[(false,eval e X.env)]:=by rfl):JI X C tg (.Call (.Name "range" p) [e] [] ps) (zbq fa) :=
 PI.weak (zo3 hg hm (zao he za4 (by rw[hs];rfl)) hs) fun σ H Q ⟨G,w,ρ,r,p⟩=>by
  unfold zbq at p
  refine ⟨G,w,ρ,r,?_⟩
  unfold dA dA0
  cases e:fa ρ with
  |ok x =>
   obtain ⟨d,ρ1⟩:=x
   rw[e] at p
   intro vs G' H' w' s' r' q
   obtain ⟨v,t,rfl,q1,q2⟩:=q.cons_inv
   rw[q2.nil_inv]
   cases d with
   |int j =>
    simp only[R.bind_ok] at p
    by_cases hj:zeD j=true
    ·simp only[hj,if_true] at p
     exact ⟨j,by rw[za5 q1],(zgQ hj).1,(zgQ hj).2,p _ G' H' w' s' r' zut⟩
    ·simp only[hj] at p;exact p.elim
   |_=>exact p.elim
  |er n=>rw[e] at p;exact p
  |no=>rw[e] at p;exact p
abbrev DG:=Dt->Ev->R Ev
def kG(K:W.Frag)(C:Cn)(Q:L2.St->Hp->Prop)(G H:Hp)(w:Wn)(ρ:Ev):Prop :=
 ∀ σ' G' H' w',zbJ G H w G' H' w'->Rel K C G' w' ρ σ' H'->Q σ' H'
def tG(K:W.Frag)(C:Cn)(g:DG):TG:=fun v σ H Q=>∃ G w ρ d,Rel K C G w ρ σ H/\Rep K G d v/\zc0 C.ex (kG K C Q G H w) (g d ρ)
abbrev JG(X:Cx)(C:Cn)(tg:Expr)(g:DG):Prop:=PG X tg (tG X.K C g)
theorem PG.weak{t t':TG}(h:PG X tg t)(k:∀ v σ H Q,t' v σ H Q->t v σ H Q):PG X tg t':=fun pins s σ H v u Q I r q=>h pins s σ H v u Q I r (k v σ H Q q)
def zaM(i:Nat):DG:=fun d ρ=>if i < ρ.length then .ok (ρ.set i (some (.val d))) else .no
theorem zaO{i:Nat}{x:Str}(hN:X.N.Nodup)(hi:X.N[i]? = some x)(hx:Loc X.env.scope x)(hp:i∉C.pp)(hf:X.fn x=true\/X.env.scope.names.lookup x=some .local:=by first|exact .inl rfl|exact .inr rfl|assumption):JG X C (.Name x pos) (zaM i) :=
 PG.weak (zjH hN hi hx hf) fun v σ H Q ⟨G,w,ρ,d,r,q,p⟩=>by
  unfold zaM at p
  by_cases hl:i < ρ.length
  ·simp only[hl,if_true] at p
   exact p _ G H w (.refl _ _ _) (r.setVal hl hp q)
  ·simp only[hl,if_false] at p;exact p.elim
def zeo(i j:Nat):DG:=fun d ρ=>match d with
 |.tup [a,b]=>if i < ρ.length/\j < ρ.length then .ok ((ρ.set i (some (.val a))).set j (some (.val b))) else .no
 |_=>.no
theorem zju{i j k:Nat}{x y:Str}{p1 p2:Pos}(hc:X.calm=true)(hN:X.N.Nodup)(hi:X.N[i]? = some x)(hj:X.N[j]? = some y)(hx:Loc X.env.scope x)(hy:Loc X.env.scope y)(hp:i∉C.pp)(hq:j∉C.pp)
  (hf:X.fn x=true\/X.env.scope.names.lookup x=some .local:=by first|exact .inl rfl|exact .inr rfl|assumption) (hf2:X.fn y=true\/X.env.scope.names.lookup y=some .local:=by first|exact .inl rfl|exact .inr rfl|assumption)
  (hs1:(assignEach [.Name x p1,.Name y p2] X.env).map (·.2)=assign (.Name x p1) X.env::(assignEach [.Name y p2] X.env).map (·.2):=by rfl) (hs2:(assignEach [.Name y p2] X.env).map (·.2)=assign (.Name y p2) X.env::(assignEach [] X.env).map (·.2):=by rfl)
  (hn:(assignEach [.Name x p1,.Name y p2] X.env).length=2:=by rfl) (hst:(assignEach [.Name x p1,.Name y p2] X.env).findIdx? (·.1)=none:=by rfl):JG X C (.Tuple [.Name x p1,.Name y p2] k pos) (zeo i j) :=
 PG.weak (ztI hc (zlT (zjH hN hi hx hf) (zlT (zjH hN hj hy hf2) zrC hs2) hs1) hn hst) fun v σ H Q ⟨G,w,ρ,d,r,q,p⟩=>by
  unfold zeo at p
  split at p
  ·rename_i a b
   obtain ⟨ad,vs,rfl,h1,h2⟩:=zcu q
   obtain ⟨v1,t,rfl,q1,q2⟩:=h2.cons_inv
   obtain ⟨v2,t2,rfl,q3,q4⟩:=q2.cons_inv
   rw[q4.nil_inv] at h1
   by_cases hl:i < ρ.length/\j < ρ.length
   ·simp only[hl,and_self,if_true] at p
    have r1:=r.setVal hl.1 hp q1
    have r2:=r1.setVal (i:=j) (by simpa using hl.2) hq q3
    exact ⟨ad,_,rfl,zbc r.gh h1,rfl,v1,_,rfl,v2,_,rfl,rfl,p _ G H w (.refl _ _ _) r2⟩
   ·simp only[hl,if_false] at p;exact p.elim
  ·exact p.elim
def zii(g:DG)(body:DS):List Dt->DS
 |[],ρ=>.ok (.nx,ρ)
 |d::r,ρ=>(g d ρ).bind fun ρ1=>(body ρ1).bind fun a=>match a.1 with
  |.nx=>zii g body r a.2
  |.ct=>zii g body r a.2
  |.bk=>.ok (.nx,a.2)
  |.rt v=>.ok (.rt v,a.2)
def zga(fi:DA)(g:DG)(body:DS):DS:=fun ρ=>(fi ρ).bind fun a=>zii g body a.1 a.2
theorem zg3{body:List Stmt}{fi:DA}{g:DG}{fb:DS}(hp:PassesOwn (model X.prog X.w) X.A X.env X.xe)(hc:X.calm=true)(hi:JI X C tg iter fi)(hg:JG X C tg g)(hb:JSs X C body fb)
  (hs:∀ x,foldedSetIterable iter X.env x=pure x:=by intro _;rfl):JS X C (.For tg iter body [] pos) (zga fi g fb) :=
 PS.weak (zt9 hp hc hi hg hb hs) fun D σ H ⟨G,w,ρ,r,p⟩=>by
  refine zvx (κ:=fun G H w=>kS X.K C D G H w) zdS r p fun ds ρ1 J G1 H1 w1 r1 s1 it p1=>?_
  refine ⟨fun i m σ' H'=>m=ds.length-i/\i<=ds.length/\∃ G' w' ρ',zcb G1 G'/\Rel X.K C G' w' ρ' σ' H'/\zc0 C.ex (kS X.K C D G' H' w') (zii g fb (ds.drop i) ρ'),
   ⟨ds.length,by simp,Nat.zero_le _,G1,w1,ρ1,.refl _,r1,by simpa using p1⟩,?_⟩
  rintro i m σ2 H2 ⟨rfl,hi,G2,w2,ρ2,s2,r2,p2⟩
  obtain ⟨it1,it2⟩:=it i G2 H2 s2 r2.gh
  by_cases hlt:i<ds.length
  ·have ed:ds.drop i=ds[i]::ds.drop (i+1):=List.drop_eq_getElem_cons hlt
   obtain ⟨go,yl⟩:=it1 ds[i] (by simp[hlt])
   rw[ed] at p2
   refine .inr ⟨go,fun σ' H'=>(ds.length-(i+1))=ds.length-(i+1)/\i+1<=ds.length/\∃ G' w' ρ',zcb G1 G'/\Rel X.K C G' w' ρ' σ' H'/\zc0 C.ex (kS X.K C D G' H' w') (zii g fb (ds.drop (i+1)) ρ'),
    fun σ' H' h=>⟨ds.length-(i+1),by omega,h⟩,fun x H' y=>?_⟩
   obtain ⟨G3,gr,q3⟩:=yl x H' y
   have r3:=r2.grow gr
   have p3:=zc0.step (κ:=fun G H w=>kS X.K C D G H w) zdS gr.step (w1:=w2) p2
   refine ⟨G3,w2,ρ2,ds[i],r3,q3,?_⟩
   unfold zii at p3
   cases eg:g ds[i] ρ2 with
   |ok ρ3 =>
    rw[eg] at p3
    intro σ4 G4 H4 w4 s4 r4
    have p4:=zc0.step (κ:=fun G H w=>kS X.K C D G H w) zdS s4 p3
    refine ⟨G4,w4,ρ3,r4,?_⟩
    cases eb:fb ρ3 with
    |ok z =>
     obtain ⟨fl,ρ5⟩:=z
     rw[R.bind_ok,eb] at p4
     have sG:zcb G1 G4:=(s2.trans gr.g).trans s4.g
     cases fl with
     |nx=>exact fun σ6 G6 H6 w6 s6 r6=>⟨rfl,hlt,G6,w6,ρ5,sG.trans s6.g,r6,zc0.step (κ:=fun G H w=>kS X.K C D G H w) zdS s6 p4⟩
     |ct=>exact fun σ6 G6 H6 w6 s6 r6=>⟨rfl,hlt,G6,w6,ρ5,sG.trans s6.g,r6,zc0.step (κ:=fun G H w=>kS X.K C D G H w) zdS s6 p4⟩
     |bk=>exact p4
     |rt v=>exact p4
    |er n=>rw[R.bind_ok,eb] at p4;exact p4
    |no=>rw[R.bind_ok,eb] at p4;exact p4
   |er n=>rw[eg] at p3;exact p3
   |no=>rw[eg] at p3;exact p3
  ·have e:i=ds.length:=by omega
   subst e
   simp only[List.drop_length] at p2
   exact .inl ⟨it2 (Nat.le_refl _),p2 σ2 G2 H2 w2 (.refl _ _ _) r2⟩
def zef(c:DT)(body:DS):Nat->DS
 |0,_=>.no
 |n+1,ρ=>(c ρ).bind fun t=>if t.1=true then (body t.2).bind fun a=>match a.1 with
   |.nx=>zef c body n a.2
   |.ct=>zef c body n a.2
   |.bk=>.ok (.nx,a.2)
   |.rt v=>.ok (.rt v,a.2)
  else .ok (.nx,t.2)
theorem zpZ(n:Nat){c:Expr}{body:List Stmt}{tc:DT}{fb:DS}(hp:PassesOwn (model X.prog X.w) X.A X.env X.xe)(hc:JT X C c tc)(hb:JSs X C body fb):JS X C (.While c body [] pos) (zef tc fb n) :=
 PS.weak (zq6 hp hc hb) fun D σ H ⟨G,w,ρ,r,p⟩=>by
  refine ⟨fun m σ' H'=>∃ G' w' ρ',Rel X.K C G' w' ρ' σ' H'/\zc0 C.ex (kS X.K C D G' H' w') (zef tc fb m ρ'),⟨n,G,w,ρ,r,p⟩,?_⟩
  rintro m σ1 H1 ⟨G1,w1,ρ1,r1,p1⟩
  cases m with
  |zero=>exact p1.elim
  |succ m =>
   unfold zef at p1
   refine zth (κ:=fun G H w=>kS X.K C D G H w) zdS r1 p1 fun b ρ2 G2 H2 w2 r2 s2 p2=>?_
   cases b with
   |false=>exact p2 σ1 G2 H2 w2 (.refl _ _ _) r2
   |true =>
    refine ⟨fun σ' H'=>∃ G' w' ρ',Rel X.K C G' w' ρ' σ' H'/\zc0 C.ex (kS X.K C D G' H' w') (zef tc fb m ρ'),fun σ' H' h=>⟨m,Nat.lt_succ_self _,h⟩,G2,w2,ρ2,r2,?_⟩
    have p2:zc0 C.ex (kS X.K C D G2 H2 w2) ((fb ρ2).bind fun a=>match a.1 with
     |.nx=>zef tc fb m a.2
     |.ct=>zef tc fb m a.2
     |.bk=>.ok (.nx,a.2)
     |.rt v=>.ok (.rt v,a.2)):=p2
    cases eb:fb ρ2 with
    |ok z =>
     obtain ⟨fl,ρ5⟩:=z
     rw[eb] at p2
     cases fl with
     |nx=>exact fun σ6 G6 H6 w6 s6 r6=>⟨G6,w6,ρ5,r6,zc0.step (κ:=fun G H w=>kS X.K C D G H w) zdS s6 p2⟩
     |ct=>exact fun σ6 G6 H6 w6 s6 r6=>⟨G6,w6,ρ5,r6,zc0.step (κ:=fun G H w=>kS X.K C D G H w) zdS s6 p2⟩
     |bk=>exact p2
     |rt v=>exact p2
    |er n=>rw[eb] at p2;exact p2
    |no=>rw[eb] at p2;exact p2
end
abbrev FD:=List B->R (Dt×List B)
def zjN:B->Bool
 |.val _=>false
 |_=>true
def zbH(bs:List B):List Bool:=bs.map zjN
structure PRel(K:W.Frag)(G H:Hp)(w:Wn)(bs:List B)(vs:List V):Prop where
 gh:zcb G H
 wg:∀ b,w b≠none->G b=none
 wh:∀ b,w b≠none->H b≠none
 len:bs.length=vs.length
 sl:∀(j:Nat)(b:B)(v:V),bs[j]? = some b->vs[j]? = some v->RB K G H w j v b
structure znb(K:W.Frag)(G H:Hp)(w:Wn)(ks:List Bool)(bs:List B)(vs:List V):Prop where
 gh:zcb G H
 wg:∀ b,w b≠none->G b=none
 wh:∀ b,w b≠none->H b≠none
 sl:∀(j:Nat)(v:V),ks[j]? = some true->vs[j]? = some v->∃ b,bs[j]? = some b/\RB K G H w j v b
def zpU(nw:Bool)(K:W.Frag)(xv:Nat->Value)(ks:List Bool)(F:FD):Sp:=fun vs H Q E=>∃ G w bs,vs.length=ks.length/\zbH bs=ks/\PRel K G H w bs vs /\
 match F bs with
 |.ok a=>∀ v G' H' w',zbJ G H w G' H' w'->znb K G' H' w' ks a.2 vs->RtG nw K H G' H' w' a.1 v->Q v H'
 |.er n=>∀ G' H' w',zbJ G H w G' H' w'->E (xv n) none H'
 |.no=>False
def EXc(C:Cn):XK:=fun u a H'=>a=none/\∃ n,u=C.xv n/\C.ex n/\∃ G' w',zbJ C.G₀ C.H₀ C.w₀ G' H' w'
inductive Arg where
 |d (x:Dt)|s (i:Nat)
def zcR(K:W.Frag)(G:Hp)(σ:L2.St):List Arg->List V->Prop
 |[],vs=>vs=[]
 |.d x::r,vs=>∃ v t,vs=v::t/\Rep K G x v/\zcR K G σ r t
 |.s i::r,vs=>∃ v t,vs=v::t/\σ[i]? = some (some v)/\zcR K G σ r t
theorem zcR.same{K:W.Frag}{G G':Hp}{σ:L2.St}(e:zcb G G'):∀{as:List Arg}{vs:List V},zcR K G σ as vs->zcR K G' σ as vs
 |[],_,h=>h
 |.d _::_,_,⟨v,t,h1,h2,h3⟩=>⟨v,t,h1,h2.same e,zcR.same e h3⟩
 |.s _::_,_,⟨v,t,h1,h2,h3⟩=>⟨v,t,h1,h2,zcR.same e h3⟩
abbrev DAr:=Ev->R (List Arg×Ev)
def kAr(K:W.Frag)(C:Cn)(σ:L2.St)(Q:List V->Hp->Prop)(G H:Hp)(w:Wn)(a:List Arg×Ev):Prop :=
 ∀ vs G' H' w',zbJ G H w G' H' w'->Rel K C G' w' a.2 σ H'->zcR K G' σ a.1 vs->Q vs H'
def tAr(K:W.Frag)(C:Cn)(f:DAr):TA:=fun σ H Q=>∃ G w ρ,Rel K C G w ρ σ H/\zc0 C.ex (kAr K C σ Q G H w) (f ρ)
abbrev JAr(X:Cx)(C:Cn)(es:List Expr)(f:DAr):Prop:=PA X es (tAr X.K C f)
theorem zof{K:W.Frag}{C:Cn}{σ:L2.St}{Q:List V->Hp->Prop}:Stp (fun G H w=>kAr K C σ Q G H w):=fun _ _ _ _ _ _ _ s k v G' H' w' s'=>k v G' H' w' (s.trans s')
theorem zoi{K:W.Frag}{C:Cn}{σ:L2.St}{α:Type}{κ:zpL α}(st:Stp κ){G H:Hp}{w:Wn}{ρ:Ev}{fa:DAr}{g:List Arg×Ev->R α}{Q:List V->Hp->Prop}(r:Rel K C G w ρ σ H)(p:zc0 C.ex (κ G H w) ((fa ρ).bind g))
  (k:∀ as ρ1 vs G1 H1 w1,Rel K C G1 w1 ρ1 σ H1->zbJ G H w G1 H1 w1->zcR K G1 σ as vs->zc0 C.ex (κ G1 H1 w1) (g (as,ρ1))->Q vs H1):tAr K C fa σ H Q:=by
 refine ⟨G,w,ρ,r,?_⟩
 cases e:fa ρ with
 |ok a =>
  rw[e] at p
  intro v G' H' w' s' r' q
  exact k a.1 a.2 v G' H' w' r' s' q (zc0.step st s' p)
 |er n=>rw[e] at p;exact p
 |no=>rw[e] at p;exact p
def dR0:DAr:=fun ρ=>.ok ([],ρ)
def dR(fa:De)(fr:DAr):DAr:=fun ρ=>(fa ρ).bind fun a=>(fr a.2).bind fun b=>.ok (.d a.1::b.1,b.2)
def dRO(i:Nat)(fr:DAr):DAr:=fun ρ=>match ρ[i]? with
 |some (some _)=>(fr ρ).bind fun b=>.ok (.s i::b.1,b.2)
 |_=>.no
section
variable{X:Cx}{C:Cn}{fa:De}{fr:DAr}{pos:Pos}
theorem zap:JAr X C [] dR0:=PA.weak zcr fun σ H Q ⟨G,w,ρ,r,p⟩=>p _ G H w (.refl _ _ _) r rfl
theorem zac{e:Expr}{es:List Expr}(ha:JE X C e fa)(hr:JAr X C es fr)(hs:starEach (e::es) X.env=(false,eval e X.env)::starEach es X.env:=by rfl):JAr X C (e::es) (dR fa fr) :=
 PA.weak (zbe ha hr hs) fun σ H Q ⟨G,w,ρ,r,p⟩=>by
  refine zer (κ:=fun G H w=>kAr X.K C σ Q G H w) zof r p fun d ρ1 v G1 H1 w1 r1 s1 q1 p1=>?_
  refine zoi (κ:=fun G H w=>kAr X.K C σ Q G H w) zof r1 p1 fun as ρ2 vs G2 H2 w2 r2 s2 q2 p2=>?_
  exact p2 _ G2 H2 w2 (.refl _ _ _) r2 ⟨v,vs,rfl,q1.same s2.g,q2⟩
theorem zbC(i:Nat){x:Str}{ps:Pos}{es:List Expr}(hr:JAr X C es fr)(hN:X.N[i]? = some x:=by rfl)(hv:Vis X.env.scope x:=by first|exact Or.inl rfl|exact Or.inr (Or.inl rfl)|exact Or.inr (Or.inr rfl))(hd:(x == ("__debug__" : Str))=false:=by decide)
  (hcd:(x == ("__classdict__" : Str))=false:=by decide) (hs:starEach (.Name x ps::es) X.env=(false,eval (.Name x ps) X.env)::starEach es X.env:=by rfl):JAr X C (.Name x ps::es) (dRO i fr) :=
 PA.weak (zbe (zce hN hv hd hcd) hr hs) fun σ H Q ⟨G,w,ρ,r,p⟩=>by
  unfold dRO at p
  split at p
  ·rename_i b e
   obtain ⟨v,h1,_⟩:=r.sl i b e
   refine ⟨v,h1,?_⟩
   refine zoi (κ:=fun G H w=>kAr X.K C σ Q G H w) zof r p fun as ρ2 vs G2 H2 w2 r2 s2 q2 p2=>?_
   exact p2 _ G2 H2 w2 (.refl _ _ _) r2 ⟨v,vs,rfl,h1,q2⟩
  ·exact p.elim
end
def zrh(as:List Arg)(j:Nat):Option Nat:=match as[j]? with
 |some (.s i)=>some i
 |_=>none
def zdF(i:Nat):Nat->List Arg->Option Nat
 |_,[]=>none
 |j,.s i'::r=>if i'=i then some j else zdF i (j+1) r
 |j,.d _::r=>zdF i (j+1) r
def zd8(as:List Arg)(i:Nat):Option Nat:=zdF i 0 as
def zaN(as:List Arg):Nat->List Arg->Bool
 |_,[]=>true
 |j,.s i::r=>(zd8 as i == some j) && zaN as (j+1) r
 |j,.d _::r=>zaN as (j+1) r
def zgL(as:List Arg):Bool:=zaN as 0 as
theorem zfs{as:List Arg}:∀{l:List Arg}{j k:Nat}{i:Nat},zaN as j l=true->l[k]? = some (.s i)->zd8 as i=some (j+k)
 |[],_,_,_,_,e=>by simp at e
 |.s i'::r,j,0,i,h,e=>by
  simp at e;subst e
  unfold zaN at h
  rw[Bool.and_eq_true] at h
  simpa using h.1
 |.s i'::r,j,k+1,i,h,e=>by
  unfold zaN at h
  rw[Bool.and_eq_true] at h
  have:=zfs (k:=k) h.2 (by simpa using e)
  rw[this];congr 1;omega
 |.d x::r,j,0,i,h,e=>by simp at e
 |.d x::r,j,k+1,i,h,e=>by
  unfold zaN at h
  have:=zfs (k:=k) h (by simpa using e)
  rw[this];congr 1;omega
theorem zgj{i:Nat}:∀{l:List Arg}{j m:Nat},zdF i j l=some m->∃ k,m=j+k/\l[k]? = some (.s i)
 |[],_,_,h=>by simp[zdF] at h
 |.s i'::r,j,m,h=>by
  unfold zdF at h
  split at h
  ·rename_i e;subst e;cases h;exact ⟨0,rfl,rfl⟩
  ·obtain ⟨k,h1,h2⟩:=zgj h
   exact ⟨k+1,by omega,by simpa using h2⟩
 |.d x::r,j,m,h=>by
  unfold zdF at h
  obtain ⟨k,h1,h2⟩:=zgj h
  exact ⟨k+1,by omega,by simpa using h2⟩
theorem zpG{as:List Arg}{i j:Nat}(h:zd8 as i=some j):as[j]? = some (.s i):=by
 obtain ⟨k,h1,h2⟩:=zgj h
 have:j=k:=by omega
 subst this;exact h2
theorem zjf{as:List Arg}{i j:Nat}(u:zgL as=true)(h:as[j]? = some (.s i)):zd8 as i=some j:=by
 have:=zfs (j:=0) u h
 simpa using this
def za1(ρ:Ev):List Arg->R (List B)
 |[]=>.ok []
 |.d x::r=>(za1 ρ r).bind fun bs=>.ok (.val x::bs)
 |.s i::r=>match ρ[i]? with
  |some (some b)=>if zjN b=true then (za1 ρ r).bind fun bs=>.ok (b::bs) else .no
  |_=>.no
def zfq(as:List Arg)(bs:List B):Nat->Ev->Ev
 |_,[]=>[]
 |i,o::r=>(match zd8 as i with|some j=>bs[j]?|none=>o)::zfq as bs (i+1) r
theorem zms{as:List Arg}{bs:List B}:∀{ρ:Ev}{k i:Nat},(zfq as bs k ρ)[i]? = ρ[i]?.map fun o=>match zd8 as (k+i) with|some j=>bs[j]?|none=>o
 |[],_,_=>by simp[zfq]
 |o::r,k,0=>by simp[zfq]
 |o::r,k,i+1=>by
  have:=zms (as:=as) (bs:=bs) (ρ:=r) (k:=k+1) (i:=i)
  simp only[zfq,List.getElem?_cons_succ]
  rw[this]
  have e:k+1+i=k+(i+1):=by omega
  rw[e]
theorem zlK{as:List Arg}{bs:List B}:∀{ρ:Ev}{k:Nat},(zfq as bs k ρ).length = ρ.length
 |[],_=>rfl
 |o::r,k=>by simp[zfq,zlK (ρ:=r)]
def zad(F:FD)(fa:DAr):De:=fun ρ=>(fa ρ).bind fun a=>if zgL a.1=true then (za1 a.2 a.1).bind fun bs=>(F bs).bind fun z=>.ok (z.1,zfq a.1 z.2 0 a.2) else .no
theorem zey{ρ:Ev}:∀{as:List Arg}{bs:List B}{j i:Nat},za1 ρ as=.ok bs->as[j]? = some (.s i)->∃ b,ρ[i]? = some (some b)/\bs[j]? = some b/\zjN b=true
 |[],bs,j,i,h,e=>by simp at e
 |.d x::r,bs,j,i,h,e=>by
  unfold za1 at h
  cases q:za1 ρ r with
  |ok l =>
   rw[q] at h;simp only[R.bind_ok,R.ok.injEq] at h;subst h
   cases j with
   |zero=>simp at e
   |succ j =>
    obtain ⟨b,h1,h2,h3⟩:=zey (j:=j) q (by simpa using e)
    exact ⟨b,h1,by simpa using h2,h3⟩
  |er n=>rw[q] at h;simp at h
  |no=>rw[q] at h;simp at h
 |.s i'::r,bs,j,i,h,e=>by
  unfold za1 at h
  split at h
  ·rename_i b eb
   split at h
   ·rename_i ob
    cases q:za1 ρ r with
    |ok l =>
     rw[q] at h;simp only[R.bind_ok,R.ok.injEq] at h;subst h
     cases j with
     |zero=>simp at e;subst e;exact ⟨b,eb,rfl,ob⟩
     |succ j =>
      obtain ⟨b,h1,h2,h3⟩:=zey (j:=j) q (by simpa using e)
      exact ⟨b,h1,by simpa using h2,h3⟩
    |er n=>rw[q] at h;simp at h
    |no=>rw[q] at h;simp at h
   ·cases h
  ·cases h
theorem zd3{ρ:Ev}:∀{as:List Arg}{n:Nat},za1 ρ as≠.er n
 |[],n,h=>by simp[za1] at h
 |.d x::r,n,h=>by
  unfold za1 at h
  cases q:za1 ρ r with
  |ok l=>rw[q] at h;simp at h
  |er m=>exact zd3 q
  |no=>rw[q] at h;simp at h
 |.s i::r,n,h=>by
  unfold za1 at h
  split at h
  ·split at h
   ·cases q:za1 ρ r with
    |ok l=>rw[q] at h;simp at h
    |er m=>exact zd3 q
    |no=>rw[q] at h;simp at h
   ·cases h
  ·cases h
def wIn(w:Wn)(as:List Arg):Wn:=fun b=>(w b).bind (zd8 as)
def zp6(w w':Wn)(as:List Arg):Wn:=fun b=>match w' b with
 |some j=>zrh as j
 |none=>if (w b).bind (zd8 as)=none then w b else none
section
variable{K:W.Frag}{C:Cn}{σ:L2.St}{G H:Hp}{w:Wn}{ρ:Ev}
theorem zh5(r:Rel K C G w ρ σ H):∀{as l:List Arg}{vs:List V}{bs:List B}{k j:Nat}{b:B}{v:V},(∀ m i,l[m]? = some (.s i)->zd8 as i=some (k+m))->zcR K G σ l vs->za1 ρ l=.ok bs->bs[j]? = some b->vs[j]? = some v->RB K G H (wIn w as) (k+j) v b
 |as,[],vs,bs,k,j,b,v,hu,ha,hr,hb,hv=>by simp[za1] at hr;subst hr;simp at hb
 |as,.d x::l,vs,bs,k,j,b,v,hu,ha,hr,hb,hv=>by
  obtain ⟨v0,t,rfl,h2,h3⟩:=ha
  unfold za1 at hr
  cases q:za1 ρ l with
  |ok l' =>
   rw[q] at hr;simp only[R.bind_ok,R.ok.injEq] at hr;subst hr
   cases j with
   |zero=>simp at hb hv;subst hb;subst hv;exact h2
   |succ j =>
    have:=zh5 r (as:=as) (k:=k+1) (j:=j) (fun m i e=>by rw[hu (m+1) i (by simpa using e)];congr 1;omega) h3 q (by simpa using hb) (by simpa using hv)
    have e:k+1+j=k+(j+1):=by omega
    rw[e] at this;exact this
  |er n=>rw[q] at hr;simp at hr
  |no=>rw[q] at hr;simp at hr
 |as,.s i::l,vs,bs,k,j,b,v,hu,ha,hr,hb,hv=>by
  obtain ⟨v0,t,rfl,h2,h3⟩:=ha
  unfold za1 at hr
  split at hr
  ·rename_i b0 eb
   split at hr
   ·rename_i ob
    cases q:za1 ρ l with
    |ok l' =>
     rw[q] at hr;simp only[R.bind_ok,R.ok.injEq] at hr;subst hr
     cases j with
     |zero =>
      simp at hb hv;subst hb;subst hv
      obtain ⟨v1,h4,h5⟩:=r.sl i _ eb
      rw[h2] at h4;cases h4
      exact h5.grow (.refl _) fun a o e1 e2=>⟨e2,by unfold wIn;rw[e1];exact hu 0 i rfl⟩
     |succ j =>
      have:=zh5 r (as:=as) (k:=k+1) (j:=j) (fun m i e=>by rw[hu (m+1) i (by simpa using e)];congr 1;omega) h3 q (by simpa using hb) (by simpa using hv)
      have e:k+1+j=k+(j+1):=by omega
      rw[e] at this;exact this
    |er n=>rw[q] at hr;simp at hr
    |no=>rw[q] at hr;simp at hr
   ·cases hr
  ·cases hr
theorem zfK:∀{as:List Arg}{vs:List V}{bs:List B},zcR K G σ as vs->za1 ρ as=.ok bs->bs.length=vs.length
 |[],vs,bs,ha,hr=>by simp[za1] at hr;subst hr;cases ha;rfl
 |.d x::l,vs,bs,ha,hr=>by
  obtain ⟨v0,t,rfl,h2,h3⟩:=ha
  unfold za1 at hr
  cases q:za1 ρ l with
  |ok l'=>rw[q] at hr;simp only[R.bind_ok,R.ok.injEq] at hr;subst hr;simp[zfK h3 q]
  |er n=>rw[q] at hr;simp at hr
  |no=>rw[q] at hr;simp at hr
 |.s i::l,vs,bs,ha,hr=>by
  obtain ⟨v0,t,rfl,h2,h3⟩:=ha
  unfold za1 at hr
  split at hr
  ·split at hr
   ·cases q:za1 ρ l with
    |ok l'=>rw[q] at hr;simp only[R.bind_ok,R.ok.injEq] at hr;subst hr;simp[zfK h3 q]
    |er n=>rw[q] at hr;simp at hr
    |no=>rw[q] at hr;simp at hr
   ·cases hr
  ·cases hr
theorem zhj:∀{as:List Arg}{vs:List V}{j i:Nat},zcR K G σ as vs->as[j]? = some (.s i)->∃ v,vs[j]? = some v/\σ[i]? = some (some v)
 |[],_,_,_,_,e=>by simp at e
 |.d x::l,vs,j,i,ha,e=>by
  obtain ⟨v0,t,rfl,h2,h3⟩:=ha
  cases j with
  |zero=>simp at e
  |succ j=>obtain ⟨v,e1,e2⟩:=zhj (j:=j) h3 (by simpa using e);exact ⟨v,by simpa using e1,e2⟩
 |.s i'::l,vs,j,i,ha,e=>by
  obtain ⟨v0,t,rfl,h2,h3⟩:=ha
  cases j with
  |zero=>simp at e;subst e;exact ⟨v0,rfl,h2⟩
  |succ j=>obtain ⟨v,e1,e2⟩:=zhj (j:=j) h3 (by simpa using e);exact ⟨v,by simpa using e1,e2⟩
theorem Rel.back{as:List Arg}{vs:List V}{bs bs':List B}{ks:List Bool}{G' H':Hp}{w':Wn}(r:Rel K C G w ρ σ H)(u:zgL as=true)(ha:zcR K G σ as vs)(hr:za1 ρ as=.ok bs)(hk:zbH bs=ks)
  (s:zbJ G H (wIn w as) G' H' w') (pb:znb K G' H' w' ks bs' vs):Rel K C G' (zp6 w w' as) (zfq as bs' 0 ρ) σ H'/\zbJ G H w G' H' (zp6 w w' as):=by
 have wi:∀ b,wIn w as b≠none->w b≠none:=fun b e z=>e (by unfold wIn;rw[z];rfl)
 have wi2:∀ b,w b=none->wIn w as b=none:=fun b z=>by unfold wIn;rw[z];rfl
 have st:zbJ G H w G' H' (zp6 w w' as):=by
  refine ⟨s.g,fun b o e=>?_,fun b o e z=>s.h b o e (wi2 b z),fun b e=>?_,s.k⟩
  ·rcases s.fr b o e with q|q|q
   ·exact .inl q
   ·exact .inr (.inl q)
   ·exact .inr (.inr (wi b q))
  ·unfold zp6 at e
   split at e
   ·rename_i j ej
    rcases s.w b (by rw[ej];simp) with q|q
    ·exact .inl (wi b q)
    ·exact .inr q
   ·split at e
    ·exact .inl e
    ·exact absurd rfl e
 have keep:∀ a o,w a≠none->(w a).bind (zd8 as)=none->H a=some o->H' a=some o/\w' a=none/\G' a=none:=fun a o e1 e2 e3=>by
  have e4:wIn w as a=none:=e2
  have e5:=s.h a o e3 e4
  have e6:w' a=none:=by
   cases q:w' a with
   |none=>rfl
   |some j =>
    rcases s.w a (by rw[q];simp) with z|z
    ·exact absurd e4 z
    ·rw[e3] at z;cases z
  refine ⟨e5,e6,?_⟩
  cases q:G' a with
  |none=>rfl
  |some o' =>
   rcases s.fr a o' q with z|z|z
   ·exact absurd (r.wg a e1) z
   ·rw[e3] at z;cases z
   ·exact absurd e4 z
 refine ⟨⟨pb.gh,fun b e=>?_,fun b e=>?_,by rw[zlK];exact r.len,fun i b e=>?_,r.en.trans st,r.pin⟩,st⟩
 ·unfold zp6 at e
  split at e
  ·rename_i j ej
   exact pb.wg b (by rw[ej];simp)
  ·split at e
   ·rename_i e2
    cases q:H b with
    |none=>exact absurd q (r.wh b e)
    |some o=>exact (keep b o e e2 q).2.2
   ·exact absurd rfl e
 ·unfold zp6 at e
  split at e
  ·rename_i j ej
   exact pb.wh b (by rw[ej];simp)
  ·split at e
   ·rename_i e2
    cases q:H b with
    |none=>exact absurd q (r.wh b e)
    |some o=>rw[(keep b o e e2 q).1];simp
   ·exact absurd rfl e
 ·rw[zms,Nat.zero_add] at e
  cases q:zd8 as i with
  |some j =>
   have ej:=zpG q
   obtain ⟨v,e1,e2⟩:=zhj ha ej
   obtain ⟨b0,h1,h2,h3⟩:=zey hr ej
   have hkj:ks[j]? = some true:=by rw[<- hk];unfold zbH;rw[List.getElem?_map,h2];simp[h3]
   obtain ⟨b',h4,h5⟩:=pb.sl j v hkj e1
   rw[h1] at e
   simp only[q,Option.map_some] at e
   rw[h4] at e
   have e':b'=b:=by simpa using e
   subst e'
   refine ⟨v,e2,h5.grow (.refl _) fun a o q1 q2=>⟨q2,?_⟩⟩
   unfold zp6 zrh
   rw[q1];simp only;rw[ej]
  |none =>
   cases e1:ρ[i]? with
   |none=>rw[e1] at e;simp at e
   |some o0 =>
    rw[e1] at e
    simp only[q,Option.map_some,Option.some.injEq] at e
    subst e
    obtain ⟨v,h1,h2⟩:=r.sl i b e1
    refine ⟨v,h1,h2.grow s.g fun a o q1 q2=>?_⟩
    have z:(w a).bind (zd8 as)=none:=by rw[q1];exact q
    obtain ⟨k1,k2,_⟩:=keep a o (by rw[q1];simp) z q2
    refine ⟨k1,?_⟩
    unfold zp6
    rw[k2];simp only;rw[if_pos z];exact q1
end
section
variable{X:Cx}{C:Cn}{CX:CXT}{k:Nat}{f:Addr}{fd:FuncData}{ps:List Str}{ks:List Bool}{Fd:FD}{x:Str}{p pos:Pos}{e:Expr}{es:List Expr}{far:DAr}
theorem znZ{σ:L2.St}{H:Hp}{Q:VK}(h:tE X.K C (zad Fd far) σ H Q)(hks:∀ bs,Fd bs≠.no->zbH bs=ks):zqO (zpU false X.K C.xv ks Fd) [] (EXc C) (tAr X.K C far) σ H Q:=by
 obtain ⟨G,w,ρ,r,p⟩:=h
 refine zoi (κ:=fun G H w=>kE X.K C σ Q G H w) zch r p fun as ρ1 vs G1 H1 w1 r1 s1 q1 p1=>?_
 rw[List.append_nil]
 by_cases hu:zgL as=true
 ·simp only[hu,if_true] at p1
  cases er:za1 ρ1 as with
  |ok bs =>
   rw[er,R.bind_ok] at p1
   have hk:zbH bs=ks:=by
    refine hks bs fun z=>?_
    rw[z] at p1;exact p1
   have hl:bs.length=vs.length:=zfK q1 er
   refine ⟨G1,wIn w1 as,bs,by rw[<- hk,<- hl];simp[zbH],hk,⟨r1.gh,fun b e=>r1.wg b fun z=>e (by unfold wIn;rw[z];rfl),fun b e=>r1.wh b fun z=>e (by unfold wIn;rw[z];rfl),hl,fun j b v e1 e2=>?_⟩,?_⟩
   ·have:=zh5 r1 (as:=as) (k:=0) (j:=j) (fun m i e=>by rw[Nat.zero_add];exact zjf hu e) q1 er e1 e2
    rw[Nat.zero_add] at this;exact this
   ·cases ef:Fd bs with
    |ok z =>
     rw[ef,R.bind_ok] at p1
     intro v G' H' w' s' pb q
     obtain ⟨r',st⟩:=r1.back hu q1 er hk s' pb
     exact p1 v G' H' _ st r' q
    |er n =>
     rw[ef] at p1
     intro G' H' w' s'
     refine ⟨rfl,n,rfl,p1,G',fun _=>none,r1.en.trans ⟨s'.g,fun b o e=>?_,fun b o e z=>s'.h b o e (by unfold wIn;rw[z];rfl),fun b e=>absurd rfl e,s'.k⟩⟩
     rcases s'.fr b o e with q|q|q
     ·exact .inl q
     ·exact .inr (.inl q)
     ·exact .inr (.inr fun z=>q (by unfold wIn;rw[z];rfl))
    |no=>rw[ef] at p1;exact p1.elim
  |er n=>exact absurd er zd3
  |no=>rw[er] at p1;exact p1.elim
 ·simp only[hu] at p1;exact p1.elim
theorem ztc(F:zfC X.prog X.w X.K X.mg X.base CX k f fd ps (zpU false X.K C.xv ks Fd))(hr:zdC k X.A)(hg:Gl X x)(hm:X.mg x=some (.ref f))(hk:W.keepIn X.K (.ref f)=true)(hb:zfP X.K fd ps [])(hx:zco CX X (EXc C))(hks:∀ bs,Fd bs≠.no->zbH bs=ks)
  (ha:JAr X C (e::es) far) (hdb:(x == ("__debug__" : Str))=false:=by decide) (he:starEach (e::es) X.env=(false,eval e X.env)::starEach es X.env:=by rfl) (hpl:(backTo pos (starEach es X.env)).any (·.1)=false:=by rfl) :
  JE X C (.Call (.Name x p) (e::es) [] pos) (zad Fd far) :=
 PE.weak (zjz F hr hg hm hk hb .nil hx ha hdb he hpl) fun σ H Q h=>znZ h hks
def zbs(F:FD)(fa:DAr):DN:=fun ρ=>(fa ρ).bind fun a=>if zgL a.1=true then (za1 a.2 a.1).bind fun bs=>(F bs).bind fun z=>match z.1 with
  |.lst l=>.ok (l,zfq a.1 z.2 0 a.2)
  |_=>.no
 else .no
theorem zmZ{σ:L2.St}{H:Hp}{Q:VK}(h:tN X.K C (zbs Fd far) σ H Q)(hks:∀ bs,Fd bs≠.no->zbH bs=ks):zqO (zpU true X.K C.xv ks Fd) [] (EXc C) (tAr X.K C far) σ H Q:=by
 obtain ⟨G,w,ρ,r,p⟩:=h
 refine zoi (κ:=fun G H w=>kN X.K C σ Q G H w) zeF r p fun as ρ1 vs G1 H1 w1 r1 s1 q1 p1=>?_
 rw[List.append_nil]
 by_cases hu:zgL as=true
 ·simp only[hu,if_true] at p1
  cases er:za1 ρ1 as with
  |ok bs =>
   rw[er,R.bind_ok] at p1
   have hk:zbH bs=ks:=by
    refine hks bs fun z=>?_
    rw[z] at p1;exact p1
   have hl:bs.length=vs.length:=zfK q1 er
   refine ⟨G1,wIn w1 as,bs,by rw[<- hk,<- hl];simp[zbH],hk,⟨r1.gh,fun b e=>r1.wg b fun z=>e (by unfold wIn;rw[z];rfl),fun b e=>r1.wh b fun z=>e (by unfold wIn;rw[z];rfl),hl,fun j b v e1 e2=>?_⟩,?_⟩
   ·have:=zh5 r1 (as:=as) (k:=0) (j:=j) (fun m i e=>by rw[Nat.zero_add];exact zjf hu e) q1 er e1 e2
    rw[Nat.zero_add] at this;exact this
   ·cases ef:Fd bs with
    |ok z =>
     rw[ef,R.bind_ok] at p1
     intro v G' H' w' s' pb q
     obtain ⟨r',st⟩:=r1.back hu q1 er hk s' pb
     obtain ⟨l,pp,us,e1,e2,e3,e4,e5,e6,e7⟩:=q
     subst e2
     rw[e1] at p1
     refine p1 pp us G' H' _ st r' e3 e4 e5 ?_ e7
     have w1p:w1 pp=none:=by
      cases zz:w1 pp with
      |none=>rfl
      |some k=>exact absurd e3 (r1.wh pp (by rw[zz];simp))
     unfold zp6
     rw[e6,w1p];rfl
    |er n =>
     rw[ef] at p1
     intro G' H' w' s'
     refine ⟨rfl,n,rfl,p1,G',fun _=>none,r1.en.trans ⟨s'.g,fun b o e=>?_,fun b o e z=>s'.h b o e (by unfold wIn;rw[z];rfl),fun b e=>absurd rfl e,s'.k⟩⟩
     rcases s'.fr b o e with q|q|q
     ·exact .inl q
     ·exact .inr (.inl q)
     ·exact .inr (.inr fun z=>q (by unfold wIn;rw[z];rfl))
    |no=>rw[ef] at p1;exact p1.elim
  |er n=>exact absurd er zd3
  |no=>rw[er] at p1;exact p1.elim
 ·simp only[hu] at p1;exact p1.elim
theorem zsf(F:zfC X.prog X.w X.K X.mg X.base CX k f fd ps (zpU true X.K C.xv ks Fd))(hr:zdC k X.A)(hg:Gl X x)(hm:X.mg x=some (.ref f))(hk:W.keepIn X.K (.ref f)=true)(hb:zfP X.K fd ps [])(hx:zco CX X (EXc C))(hks:∀ bs,Fd bs≠.no->zbH bs=ks)
  (ha:JAr X C (e::es) far) (hdb:(x == ("__debug__" : Str))=false:=by decide) (he:starEach (e::es) X.env=(false,eval e X.env)::starEach es X.env:=by rfl) (hpl:(backTo pos (starEach es X.env)).any (·.1)=false:=by rfl) :
  JN X C (.Call (.Name x p) (e::es) [] pos) (zbs Fd far) :=
 PE.weak (zjz F hr hg hm hk hb .nil hx ha hdb he hpl) fun σ H Q h=>zmZ h hks
def za0:List Bool->Ev->R (List B)
 |[],_=>.ok []
 |false::ks,_::ρ=>(za0 ks ρ).bind fun l=>.ok (.val .non::l)
 |true::ks,some b::ρ=>(za0 ks ρ).bind fun l=>.ok (b::l)
 |_,_=>.no
def zat(nw:Bool)(ks:List Bool)(m:Nat)(body:DS):FD:=fun bs=>if zbH bs=ks then (body (bs.map some++List.replicate m none)).bind fun a=>match a.1 with
  |.nx=>if nw=true then .no else (za0 ks a.2).bind fun l=>.ok (.non,l)
  |.rt d=>(za0 ks a.2).bind fun l=>.ok (d,l)
  |_=>.no
 else .no
theorem zav{nw:Bool}{ks:List Bool}{m:Nat}{body:DS}:∀ bs,zat nw ks m body bs≠.no->zbH bs=ks:=fun bs h=>by
 unfold zat at h
 by_cases e:zbH bs=ks
 ·exact e
 ·rw[if_neg e] at h;exact absurd rfl h
theorem zdN:∀{ks:List Bool}{ρ:Ev}{l:List B}{j:Nat},za0 ks ρ=.ok l->ks[j]? = some true->∃ b,l[j]? = some b/\ρ[j]? = some (some b)
 |[],_,_,_,_,e=>by simp at e
 |false::ks,[],l,j,h,e=>by simp[za0] at h
 |true::ks,[],l,j,h,e=>by simp[za0] at h
 |false::ks,o::ρ,l,j,h,e=>by
  unfold za0 at h
  cases q:za0 ks ρ with
  |ok l' =>
   rw[q] at h;simp only[R.bind_ok,R.ok.injEq] at h;subst h
   cases j with
   |zero=>simp at e
   |succ j=>obtain ⟨b,h1,h2⟩:=zdN (j:=j) q (by simpa using e);exact ⟨b,by simpa using h1,by simpa using h2⟩
  |er n=>rw[q] at h;simp at h
  |no=>rw[q] at h;simp at h
 |true::ks,none::ρ,l,j,h,e=>by simp[za0] at h
 |true::ks,some b::ρ,l,j,h,e=>by
  unfold za0 at h
  cases q:za0 ks ρ with
  |ok l' =>
   rw[q] at h;simp only[R.bind_ok,R.ok.injEq] at h;subst h
   cases j with
   |zero=>exact ⟨b,rfl,rfl⟩
   |succ j=>obtain ⟨b,h1,h2⟩:=zdN (j:=j) q (by simpa using e);exact ⟨b,by simpa using h1,by simpa using h2⟩
  |er n=>rw[q] at h;simp at h
  |no=>rw[q] at h;simp at h
theorem zcQ:∀{ks:List Bool}{ρ:Ev}{n:Nat},za0 ks ρ≠.er n
 |[],_,_,h=>by simp[za0] at h
 |false::ks,[],n,h=>by simp[za0] at h
 |true::ks,[],n,h=>by simp[za0] at h
 |false::ks,o::ρ,n,h=>by
  unfold za0 at h
  cases q:za0 ks ρ with
  |ok l'=>rw[q] at h;simp at h
  |er m=>exact zcQ q
  |no=>rw[q] at h;simp at h
 |true::ks,none::ρ,n,h=>by simp[za0] at h
 |true::ks,some b::ρ,n,h=>by
  unfold za0 at h
  cases q:za0 ks ρ with
  |ok l'=>rw[q] at h;simp at h
  |er m=>exact zcQ q
  |no=>rw[q] at h;simp at h
def zaP(ks:List Bool):List Nat:=(List.range ks.length).filter fun j=>ks[j]? == some true
def zrx(CX:CXT)(P:Program)(w:World)(K:W.Frag)(mg:Str->Option Value)(base:Heap):Prop :=
 ∀(N:List Str)(qual:Str)(scope:Scope)(f:Addr)(cdv:Value)(A:Around)(outer:List Env)(s:Shared)(H:Hp)(E E':XK),scope.kind=.function->(∀ u a H',E' u a H'->E u a H') ->
  zco CX (zjQ CX P w K mg base N qual scope f cdv A outer s H E) E'
theorem zaH{P:Program}{w:World}{K:W.Frag}{mg:Str->Option Value}{base:Heap}{xq qual:Str}{st:Stmt}{N:List Str}{xv:Nat->Value}{m:Nat}{fb:DS}(nw:Bool)(lv:zrx CX P w K mg base)(F:Fun K xq qual st f fd)(S:zaz N ps (zak st))(hl:ps.length=ks.length)(hm:N.length=ks.length+m)
  (hbody:∀(X:Cx)(C:Cn),(∃ cdv A outer s H E,X=zjQ CX P w K mg base N qual (zak st) f cdv A outer s H E)->C.pp=zaP ks->C.xv=xv->C.nw=nw->zdC k X.A->zco CX X (EXc C)->PassesOwn (model X.prog X.w) X.A X.env X.xe->JSs X C (zck st) fb) :
  zfC P w K mg base CX (k+1) f fd ps (zpU nw K xv ks (zat nw ks m fb)):=by
 obtain ⟨oc,od,kV,doc,pm,an,cdv,ct,osl,rfl,lk,hcd⟩:=F.ex
 refine zqh lk hcd S (fun vs H Q E ⟨_,_,_,h,_⟩=>h.trans hl.symm) fun A outer s H vs Q E hr hsp=>?_
 obtain ⟨G,w0,bs,hv,hk,pr,hF⟩:=hsp
 let X:=zjQ CX P w K mg base N qual (zak st) f cdv A outer s H E
 let C:Cn:=⟨G,H,w0,zaP ks,L2.start N vs,fun n=>zat nw ks m fb bs=.er n,xv,nw⟩
 have hE:∀ u a H',EXc C u a H'->E u a H':=fun u a H' ⟨ea,n,eu,en,G',w',s'⟩=>by
  subst ea;subst eu
  have en':zat nw ks m fb bs=.er n:=en
  rw[en'] at hF
  exact hF G' H' w' s'
 have hb:=hbody X C ⟨cdv,A,outer,s,H,E,rfl⟩ rfl rfl rfl hr (lv N qual (zak st) f cdv A outer s H E (EXc C) S.kind hE) PassesOwn.leaving
 refine ⟨_,hb,G,w0,bs.map some++List.replicate m none,?_,?_⟩
 ·refine ⟨pr.gh,pr.wg,pr.wh,?_,fun i b e=>?_,.refl _ _ _,fun i _=>rfl⟩
  ·unfold L2.start
   simp only[List.length_append,List.length_map,List.length_replicate]
   have:=pr.len
   omega
  ·have hi:i<bs.length:=by
    by_cases hi:i<bs.length
    ·exact hi
    ·rw[List.getElem?_append_right (by simpa using hi),List.getElem?_replicate] at e
     split at e <;> cases e
   rw[List.getElem?_append_left (by simpa using hi),List.getElem?_map] at e
   have eb:bs[i]? = some b:=by
    cases q:bs[i]? with
    |none=>rw[q] at e;cases e
    |some z=>rw[q] at e;cases e;rfl
   have hiv:i<vs.length:=by rw[<- pr.len];exact hi
   refine ⟨vs[i],?_,pr.sl i b vs[i] eb (by simp[hiv])⟩
   unfold L2.start
   rw[List.getElem?_append_left (by simpa using hiv),List.getElem?_map]
   simp[hiv]
 ·have hF':match zat nw ks m fb bs with
   |.ok a=>∀ v G' H' w',zbJ G H w0 G' H' w'->znb K G' H' w' ks a.2 vs->RtG nw K H G' H' w' a.1 v->Q v H'
   |.er n=>∀ G' H' w',zbJ G H w0 G' H' w'->E (xv n) none H'
   |.no=>False:=hF
  have er:zat nw ks m fb bs=(fb (bs.map some++List.replicate m none)).bind fun a=>match a.1 with
   |.nx=>if nw=true then .no else (za0 ks a.2).bind fun l=>.ok (.non,l)
   |.rt d=>(za0 ks a.2).bind fun l=>.ok (d,l)
   |_=>.no:=by unfold zat;rw[if_pos hk]
  have back:∀{ρ':Ev}{l:List B}{σ':L2.St}{G' H':Hp}{w':Wn},za0 ks ρ'=.ok l->Rel K C G' w' ρ' σ' H'->znb K G' H' w' ks l vs:=fun {ρ' l σ' G' H' w'} eb r'=>by
   refine ⟨r'.gh,r'.wg,r'.wh,fun j v e1 e2=>?_⟩
   obtain ⟨b,h1,h2⟩:=zdN eb e1
   obtain ⟨v',h3,h4⟩:=r'.sl j b h2
   have hj:j<ks.length:=(List.getElem?_eq_some_iff.mp e1).1
   have hp:σ'[j]? = (L2.start N vs)[j]? := r'.pin j (by
    show j∈zaP ks
    unfold zaP
    rw[List.mem_filter]
    exact ⟨List.mem_range.mpr hj,by simp[e1]⟩)
   have hs:(L2.start N vs)[j]? = some (some v):=by
    unfold L2.start
    rw[List.getElem?_append_left (by simpa using (List.getElem?_eq_some_iff.mp e2).1),List.getElem?_map,e2];rfl
   rw[hp,hs] at h3;cases h3
   exact ⟨b,h1,h4⟩
  cases ef:fb (bs.map some++List.replicate m none) with
  |ok z =>
   obtain ⟨fl,ρ'⟩:=z
   rw[ef,R.bind_ok] at er
   cases fl with
   |nx =>
    cases nw with
    |true=>rw[er] at hF';exact hF'.elim
    |false =>
     intro σ' G' H' w' s' r'
     have er:zat false ks m fb bs=(za0 ks ρ').bind fun l=>.ok (.non,l):=er
     cases eb:za0 ks ρ' with
     |ok l =>
      rw[er] at hF';simp only[eb,R.bind_ok] at hF'
      exact hF' _ G' H' w' s' (back eb r') (by unfold RtG Rep;rfl)
     |er n=>exact absurd eb zcQ
     |no=>rw[er] at hF';simp only[eb,R.bind_no] at hF'
   |rt d =>
    intro v σ' G' H' w' s' r' q
    cases eb:za0 ks ρ' with
    |ok l =>
     rw[er] at hF';simp only[eb,R.bind_ok] at hF'
     exact hF' _ G' H' w' s' (back eb r') q
    |er n=>exact absurd eb zcQ
    |no=>rw[er] at hF';simp only[eb,R.bind_no] at hF'
   |bk=>rw[er] at hF';exact hF'.elim
   |ct=>rw[er] at hF';exact hF'.elim
  |er n =>
   show zat nw ks m fb bs=.er n
   rw[er,ef];rfl
  |no=>rw[er,ef] at hF';exact hF'.elim
end
mutual
def zf2:Dt->PyData
 |.non=>.none
 |.bl b=>.bool b
 |.int i=>.int i
 |.str x=>.str x
 |.tup l=>.tuple (zff l)
 |.lst l=>.list (zff l)
 |.dct=>.dict []
 |.scr ns=>.list (ns.map .int)
def zff:List Dt->List PyData
 |[]=>[]
 |d::ds=>zf2 d::zff ds
end
def okN:Nat->Dt->Bool
 |_,.non=>true
 |_,.bl _=>true
 |_,.int _=>true
 |_,.str x=>PySem.PyData.strOk x
 |0,.tup _=>false
 |0,.lst _=>false
 |n+1,.tup l=>l.all (okN n)
 |n+1,.lst l=>l.all (okN n)
 |_,.dct=>false
 |_,.scr _=>false
mutual
def eqD:Dt->Dt->Bool
 |.non,.non=>true
 |.bl a,.bl b=>a == b
 |.bl a,.int j=>(if a then 1 else 0) == j
 |.int i,.bl b=>i == (if b then 1 else 0)
 |.int i,.int j=>i == j
 |.str x,.str y=>x == y
 |.lst xs,.lst ys=>zk0 xs ys
 |.tup xs,.tup ys=>zk0 xs ys
 |_,_=>false
def zk0:List Dt->List Dt->Bool
 |[],[]=>true
 |x::xs,y::ys=>eqD x y && zk0 xs ys
 |_,_=>false
end
theorem zjs{n:Nat}(ih:∀ d,okN n d=true->(zf2 d).canLay0=true/\(zf2 d).depth<=n):∀ l:List Dt,l.all (okN n)=true->PyData.canLayAll0 (zff l)=true/\PyData.depthAll (zff l)<=n
 |[],_=>by simp[zff,PyData.canLayAll0,PyData.depthAll]
 |d::ds,h=>by
  simp only[List.all_cons,Bool.and_eq_true] at h
  obtain ⟨h1,h2⟩:=ih d h.1
  obtain ⟨h3,h4⟩:=zjs ih ds h.2
  simp only[zff,PyData.canLayAll0,PyData.depthAll,h1,h3,Bool.and_self,true_and]
  omega
theorem zkg:∀(n:Nat)(d:Dt),okN n d=true->(zf2 d).canLay0=true/\(zf2 d).depth<=n
 |n,.non,_=>by simp[zf2,PyData.canLay0,PyData.depth]
 |n,.bl _,_=>by simp[zf2,PyData.canLay0,PyData.depth]
 |n,.int _,_=>by simp[zf2,PyData.canLay0,PyData.depth]
 |n,.str x,h=>by
  have h:PySem.PyData.strOk x=true:=by cases n <;> simpa [okN] using h
  simp[zf2,PyData.canLay0,PyData.depth,h]
 |0,.tup _,h=>by simp[okN] at h
 |0,.lst _,h=>by simp[okN] at h
 |n+1,.tup l,h=>by
  obtain ⟨h1,h2⟩:=zjs (zkg n) l (by simpa [okN] using h)
  simp only[zf2,PyData.canLay0,PyData.depth,h1,true_and];omega
 |n+1,.lst l,h=>by
  obtain ⟨h1,h2⟩:=zjs (zkg n) l (by simpa [okN] using h)
  simp only[zf2,PyData.canLay0,PyData.depth,h1,true_and];omega
 |n,.dct,h=>by cases n <;> simp[okN] at h
 |n,.scr _,h=>by cases n <;> simp[okN] at h
mutual
theorem zm7:∀(n:Nat)(x y:Dt),okN n x=true->okN n y=true->PyData.eqv (zf2 x) (zf2 y)=eqD x y
 |n,.non,y,h,h'=>by cases y <;> first|(cases n <;> simp[okN] at h';done)|simp[zf2,PyData.eqv,eqD]
 |n,.bl _,y,h,h'=>by cases y <;> first|(cases n <;> simp[okN] at h';done)|simp[zf2,PyData.eqv,eqD]
 |n,.int _,y,h,h'=>by cases y <;> first|(cases n <;> simp[okN] at h';done)|simp[zf2,PyData.eqv,eqD]
 |n,.str _,y,h,h'=>by cases y <;> first|(cases n <;> simp[okN] at h';done)|simp[zf2,PyData.eqv,eqD]
 |0,.tup _,y,h,h'=>by simp[okN] at h
 |0,.lst _,y,h,h'=>by simp[okN] at h
 |n+1,.tup l,y,h,h'=>by
  cases y with
  |tup l'=>simp only[zf2,PyData.eqv,eqD];exact zll n l l' (by simpa [okN] using h) (by simpa [okN] using h')
  |dct=>simp[okN] at h'
  |scr _=>simp[okN] at h'
  |_=>simp[zf2,PyData.eqv,eqD]
 |n+1,.lst l,y,h,h'=>by
  cases y with
  |lst l'=>simp only[zf2,PyData.eqv,eqD];exact zll n l l' (by simpa [okN] using h) (by simpa [okN] using h')
  |dct=>simp[okN] at h'
  |scr _=>simp[okN] at h'
  |_=>simp[zf2,PyData.eqv,eqD]
 |n,.dct,y,h,h'=>by cases n <;> simp[okN] at h
 |n,.scr _,y,h,h'=>by cases n <;> simp[okN] at h
theorem zll:∀(n:Nat)(x y:List Dt),x.all (okN n)=true->y.all (okN n)=true->PyData.eqvAll (zff x) (zff y)=zk0 x y
 |n,[],[],_,_=>by simp[zff,PyData.eqvAll,zk0]
 |n,[],_::_,_,_=>by simp[zff,PyData.eqvAll,zk0]
 |n,_::_,[],_,_=>by simp[zff,PyData.eqvAll,zk0]
 |n,a::as,b::bs,h,h'=>by
  simp only[List.all_cons,Bool.and_eq_true] at h h'
  simp only[zff,PyData.eqvAll,zk0]
  rw[zm7 n a b h.1 h'.1,zll n as bs h.2 h'.2]
end
section
variable{X:Cx}{pins:List (Addr×Obj)}{σ:L2.St}{H:Hp}{s:Shared}
mutual
theorem zdI(I:L2.Inv X pins σ H s):∀(n:Nat)(d:Dt)(v:V)(u:Value),okN n d=true->Rep X.K H d v->zcx v u->∃ as,Reads s.heap u (zf2 d) as
 |n,.non,v,u,_,h,r=>by rw[zhs h] at r;cases r;exact ⟨[],by simp only[zf2];exact .none⟩
 |n,.bl b,v,u,_,h,r=>by rw[zdz h] at r;cases r;exact ⟨[],by simp only[zf2];exact .bool _⟩
 |n,.int b,v,u,_,h,r=>by rw[za5 h] at r;obtain ⟨t,rfl⟩:=r;exact ⟨[],by simp only[zf2];exact .int _ _⟩
 |n,.str b,v,u,_,h,r=>by rw[zgd h] at r;obtain ⟨t,rfl⟩:=r;exact ⟨[],by simp only[zf2];exact .str _ _⟩
 |0,.tup l,v,u,hk,h,r=>by simp[okN] at hk
 |0,.lst l,v,u,hk,h,r=>by simp[okN] at hk
 |n+1,.tup l,v,u,hk,h,r=>by
  obtain ⟨a,vs,rfl,h1,h2⟩:=zcu h
  cases r
  obtain ⟨its,rv,⟨o,e,c,k,dd⟩,_⟩:=I.tuple h1
  obtain ⟨as,q⟩:=zfv I n l vs its (by simpa [okN] using hk) h2 rv
  exact ⟨as,by simp only[zf2];exact .tuple e c dd (by simpa using q)⟩
 |n+1,.lst l,v,u,hk,h,r=>by
  obtain ⟨a,vs,rfl,h1,h2⟩:=zbm h
  cases r
  obtain ⟨its,rv,⟨o,k,e,c,_,dd⟩,_⟩:=I.list (SqL.of h1)
  obtain ⟨as,q⟩:=zfv I n l vs its (by simpa [okN] using hk) h2 rv
  exact ⟨a::as,by simp only[zf2];exact .list e c dd (by simpa using q)⟩
 |n,.dct,v,u,hk,h,r=>by cases n <;> simp[okN] at hk
 |n,.scr _,v,u,hk,h,r=>by cases n <;> simp[okN] at hk
theorem zfv(I:L2.Inv X pins σ H s):∀(n:Nat)(ds:List Dt)(vs:List V)(us:List Value),ds.all (okN n)=true->zaB X.K H ds vs->zbp vs us->∃ as,ReadsAll s.heap us (zff ds) as
 |n,[],vs,us,_,h,r=>by
  rw[h.nil_inv] at r
  cases r
  exact ⟨[],by simp only[zff];exact .nil⟩
 |n,d::ds,vs,us,hk,h,r=>by
  obtain ⟨v,t,rfl,h1,h2⟩:=h.cons_inv
  cases r with
  |cons r1 r2 =>
   simp only[List.all_cons,Bool.and_eq_true] at hk
   obtain ⟨as,q1⟩:=zdI I n d v _ hk.1 h1 r1
   obtain ⟨bs,q2⟩:=zfv I n ds t _ hk.2 h2 r2
   exact ⟨as++bs,by simp only[zff];exact .cons q1 q2⟩
end
mutual
theorem zoG(I:L2.Inv X pins σ H s):∀(n:Nat)(d d':Dt)(v:V),okN n d=true->okN n d'=true->Rep X.K H d v->Rep X.K H d' v->d=d'
 |n,.non,d',v,hk,hk',h,h'=>by
  rw[zhs h] at h'
  cases d' <;> unfold Rep at h' <;> first|(obtain ⟨a,vs,z,_⟩:=h';cases z;done)|(obtain ⟨a,z,_⟩:=h';cases z;done)|(cases h';rfl)|(cases h';done)|rfl
 |n,.bl b,d',v,hk,hk',h,h'=>by
  rw[zdz h] at h'
  cases d' <;> unfold Rep at h' <;> first|(obtain ⟨a,vs,z,_⟩:=h';cases z;done)|(obtain ⟨a,z,_⟩:=h';cases z;done)|(cases h';rfl)|(cases h';done)|rfl
 |n,.int b,d',v,hk,hk',h,h'=>by
  rw[za5 h] at h'
  cases d' <;> unfold Rep at h' <;> first|(obtain ⟨a,vs,z,_⟩:=h';cases z;done)|(obtain ⟨a,z,_⟩:=h';cases z;done)|(cases h';rfl)|(cases h';done)|rfl
 |n,.str b,d',v,hk,hk',h,h'=>by
  rw[zgd h] at h'
  cases d' <;> unfold Rep at h' <;> first|(obtain ⟨a,vs,z,_⟩:=h';cases z;done)|(obtain ⟨a,z,_⟩:=h';cases z;done)|(cases h';rfl)|(cases h';done)|rfl
 |0,.tup l,d',v,hk,_,h,h'=>by simp[okN] at hk
 |0,.lst l,d',v,hk,_,h,h'=>by simp[okN] at hk
 |n+1,.tup l,d',v,hk,hk',h,h'=>by
  obtain ⟨a,vs,rfl,h1,h2⟩:=zcu h
  cases d' with
  |tup l' =>
   obtain ⟨a',vs',e,h3,h4⟩:=zcu h'
   cases e
   rw[I.tuple_inj h3 h1] at h4
   rw[zj6 I n l l' vs (by simpa [okN] using hk) (by simpa [okN] using hk') h2 h4]
  |lst l' =>
   obtain ⟨a',vs',e,h3,h4⟩:=zbm h'
   cases e
   obtain ⟨its,rv,⟨o,e,c,k,dd⟩,_⟩:=I.tuple h1
   obtain ⟨its',rv',⟨o',k',e',c',_,dd'⟩,_⟩:=I.list (SqL.of h3)
   rw[e] at e';cases e'
   rw[c] at c';exact absurd c' (by decide)
  |dct=>simp[okN] at hk'
  |scr _=>simp[okN] at hk'
  |non=>cases zhs h'
  |bl _=>cases zdz h'
  |int _=>cases za5 h'
  |str _=>cases zgd h'
 |n+1,.lst l,d',v,hk,hk',h,h'=>by
  obtain ⟨a,vs,rfl,h1,h2⟩:=zbm h
  cases d' with
  |lst l' =>
   obtain ⟨a',vs',e,h3,h4⟩:=zbm h'
   cases e
   rw[h1] at h3;cases h3
   rw[zj6 I n l l' vs (by simpa [okN] using hk) (by simpa [okN] using hk') h2 h4]
  |tup l' =>
   obtain ⟨a',vs',e,h3,h4⟩:=zcu h'
   cases e
   obtain ⟨its,rv,⟨o,e,c,k,dd⟩,_⟩:=I.tuple h3
   obtain ⟨its',rv',⟨o',k',e',c',_,dd'⟩,_⟩:=I.list (SqL.of h1)
   rw[e] at e';cases e'
   rw[c] at c';exact absurd c' (by decide)
  |dct=>simp[okN] at hk'
  |scr _=>simp[okN] at hk'
  |non=>cases zhs h'
  |bl _=>cases zdz h'
  |int _=>cases za5 h'
  |str _=>cases zgd h'
 |n,.dct,d',v,hk,_,h,h'=>by cases n <;> simp[okN] at hk
 |n,.scr _,d',v,hk,_,h,h'=>by cases n <;> simp[okN] at hk
theorem zj6(I:L2.Inv X pins σ H s):∀(n:Nat)(ds ds':List Dt)(vs:List V),ds.all (okN n)=true->ds'.all (okN n)=true->zaB X.K H ds vs->zaB X.K H ds' vs->ds=ds'
 |n,[],ds',vs,_,_,h,h'=>by
  rw[h.nil_inv] at h'
  cases ds' with
  |nil=>rfl
  |cons d t=>obtain ⟨v,r,z,_⟩:=h'.cons_inv;cases z
 |n,d::ds,ds',vs,hk,hk',h,h'=>by
  obtain ⟨v,t,rfl,h1,h2⟩:=h.cons_inv
  cases ds' with
  |nil=>cases h'.nil_inv
  |cons d' t' =>
   obtain ⟨v',r',z,h3,h4⟩:=h'.cons_inv
   cases z
   simp only[List.all_cons,Bool.and_eq_true] at hk hk'
   rw[zoG I n d d' v hk.1 hk'.1 h1 h3,zj6 I n ds t' t hk.2 hk'.2 h2 h4]
end
end
def zuN(K:W.Frag)(neg:Bool):R2:=fun x y H Q=>∃ dx dy,Rep K H dx x/\Rep K H dy y/\okN 60 dx=true/\okN 60 dy=true/\Q (.bl (if neg then !eqD dx dy else eqD dx dy)) H
theorem zfS{d:Dt}(h:okN 60 d=true):SeqAt.shaped (zf2 d)=true:=by
 obtain ⟨h1,h2⟩:=zkg 60 d h
 unfold SeqAt.shaped
 rw[h1,Bool.true_and]
 exact decide_eq_true (by omega)
section
variable{X:Cx}
theorem zrn(hu:X.A.units+64<cLine):OpR X (compareOp .Eq) (zuN X.K false):=by
 intro pins s σ H x y v u Q I rx ry h
 obtain ⟨dx,dy,h1,h2,h3,h4,q⟩:=h
 obtain ⟨as,ra⟩:=zdI I 60 dx x v h3 h1 rx
 obtain ⟨bs,rb⟩:=zdI I 60 dy y u h4 h2 ry
 exact PyProof.Rows.eq_dataH ra rb (zfS h3) (zfS h4) hu ⟨.bl (eqD dx dy),H,I,(by rw[zm7 60 dx dy h3 h4];rfl),q⟩
theorem zr2(hu:X.A.units+64<cLine):OpR X (compareOp .NotEq) (zuN X.K true):=by
 intro pins s σ H x y v u Q I rx ry h
 obtain ⟨dx,dy,h1,h2,h3,h4,q⟩:=h
 obtain ⟨as,ra⟩:=zdI I 60 dx x v h3 h1 rx
 obtain ⟨bs,rb⟩:=zdI I 60 dy y u h4 h2 ry
 exact PyProof.Rows.ne_dataH ra rb (zfS h3) (zfS h4) hu ⟨.bl (!eqD dx dy),H,I,(by rw[zm7 60 dx dy h3 h4];rfl),q⟩
def gEq(neg:Bool):Dt->Dt->R Dt:=fun x y=>if (okN 60 x && okN 60 y)=true then .ok (.bl (if neg then !eqD x y else eqD x y)) else .no
theorem zkQ(neg:Bool):zjI (gEq neg):=fun x y n h=>by unfold gEq at h;split at h <;> cases h
theorem zpp{K:W.Frag}(neg:Bool):Op2 K (zuN K neg) (gEq neg):=fun G H x y dx dy z Q gh hx hy e k=>by
 unfold gEq at e
 split at e
 ·rename_i h
  rw[Bool.and_eq_true] at h
  cases e
  exact ⟨dx,dy,hx.same gh,hy.same gh,h.1,h.2,k _ G H (.refl gh) (by unfold Rep;rfl)⟩
 ·cases e
theorem zrL{pins:List (Addr×Obj)}{σ:L2.St}{H:Hp}{s:Shared}(I:L2.Inv X pins σ H s){A:Around}(hu:A.units+64<cLine){dx dy:Dt}{x y:V}{v u:Value}(h3:okN 60 dx=true)(h4:okN 60 dy=true)(h1:Rep X.K H dx x)(h2:Rep X.K H dy y)(rx:zcx x v)(ry:zcx y u) :
  SeqAt.EqAt A s v u (eqD dx dy):=by
 obtain ⟨as,ra⟩:=zdI I 60 dx x v h3 h1 rx
 obtain ⟨bs,rb⟩:=zdI I 60 dy y u h4 h2 ry
 obtain ⟨k1,k2⟩:=zkg 60 dx h3
 obtain ⟨k3,k4⟩:=zkg 60 dy h4
 have:=SeqAt.eqAt_reads (zf2 dx) (zf2 dy) A s v u as bs ra rb k1 k3 (by omega)
 rw[zm7 60 dx dy h3 h4] at this
 exact this
open Classical in
noncomputable def zp4(K:W.Frag)(H:Hp)(dx:Dt)(u:Value):Bool:=if ∃ d v,okN 60 d=true/\Rep K H d v/\zcx v u/\eqD d dx=true then true else false
theorem zpa{pins:List (Addr×Obj)}{σ:L2.St}{H:Hp}{s:Shared}(I:L2.Inv X pins σ H s){d dx:Dt}{v:V}{u:Value}(hk:okN 60 d=true)(h:Rep X.K H d v)(r:zcx v u):zp4 X.K H dx u=eqD d dx:=by
 unfold zp4
 split
 ·rename_i q
  obtain ⟨d',v',k',h',r',e'⟩:=q
  have ev:v'=v:=r'.inj r
  subst ev
  rw[zoG I 60 d d' v' hk k' h h'];exact e'.symm
 ·rename_i q
  cases e:eqD d dx with
  |false=>rfl
  |true=>exact absurd ⟨d,v,hk,h,r,e⟩ q
theorem zj9{pins:List (Addr×Obj)}{σ:L2.St}{H:Hp}{s:Shared}(I:L2.Inv X pins σ H s){dx:Dt}:∀{ds:List Dt}{vs:List V}{us:List Value},ds.all (okN 60)=true->zaB X.K H ds vs->zbp vs us->us.any (zp4 X.K H dx)=ds.any fun d=>eqD d dx
 |[],vs,us,_,h,r=>by rw[h.nil_inv] at r;cases r;rfl
 |d::ds,vs,us,hk,h,r=>by
  obtain ⟨v,t,rfl,h1,h2⟩:=h.cons_inv
  cases r with
  |cons r1 r2 =>
   simp only[List.all_cons,Bool.and_eq_true] at hk
   simp only[List.any_cons]
   rw[zpa I hk.1 h1 r1,zj9 I hk.2 h2 r2]
theorem zhC{pins:List (Addr×Obj)}{σ:L2.St}{H:Hp}{s:Shared}(I:L2.Inv X pins σ H s){A:Around}(hu:A.units+64<cLine){dx:Dt}{x:V}{v:Value}(hk:okN 60 dx=true)(hx:Rep X.K H dx x)(rx:zcx x v):∀{ds:List Dt}{vs:List V}{us:List Value},ds.all (okN 60)=true->zaB X.K H ds vs->zbp vs us->∀ u∈us,SeqAt.EqAt A s u v (zp4 X.K H dx u)
 |[],vs,us,_,h,r,u,hu=>by rw[h.nil_inv] at r;cases r;cases hu
 |d::ds,vs,us,hks,h,r,u,hm=>by
  obtain ⟨v,t,rfl,h1,h2⟩:=h.cons_inv
  cases r with
  |cons r1 r2 =>
   simp only[List.all_cons,Bool.and_eq_true] at hks
   rcases List.mem_cons.mp hm with rfl|hm
   ·rw[zpa I hks.1 h1 r1]
    exact zrL I hu hks.1 hk h1 hx r1 rx
   ·exact zhC I hu hk hx rx hks.2 h2 r2 u hm
def inD(x:Dt)(l:List Dt):Bool:=l.any fun d=>eqD d x
def rInD(K:W.Frag)(neg:Bool):R2:=fun x y H Q=>∃ dx ds,Rep K H dx x/\(Rep K H (.lst ds) y\/Rep K H (.tup ds) y)/\okN 60 dx=true/\ds.all (okN 60)=true/\Q (.bl (if neg then !inD dx ds else inD dx ds)) H
theorem znH(A:Around):A.in1.units=A.units+1:=rfl
theorem zru(hu:X.A.units+65<cLine):OpR X (compareOp .In) (rInD X.K false):=by
 intro pins s σ H x y v u Q I rx ry h
 obtain ⟨dx,ds,h1,h2,h3,h4,q⟩:=h
 have hu1:X.A.in1.units+64<cLine:=by rw[znH];omega
 rcases h2 with h2|h2
 ·obtain ⟨a,vs,rfl,k1,k2⟩:=zbm h2
  cases ry
  obtain ⟨its,r,pl,hz⟩:=I.list (SqL.of k1)
  refine SeqAt.in_listAt (zp4 X.K H dx) pl.isList (fun w hw=>zhC I hu1 h3 h1 rx h4 k2 r w (by simpa using hw)) ⟨.bl _,H,I,rfl,?_⟩
  rw[show its.toArray.any (zp4 X.K H dx)=its.any (zp4 X.K H dx) by simp,zj9 I h4 k2 r]
  exact q
 ·obtain ⟨a,vs,rfl,k1,k2⟩:=zcu h2
  cases ry
  obtain ⟨its,r,pl,hz⟩:=I.tuple k1
  refine SeqAt.in_tupleAt (zp4 X.K H dx) pl (fun w hw=>zhC I hu1 h3 h1 rx h4 k2 r w (by simpa using hw)) ⟨.bl _,H,I,rfl,?_⟩
  rw[show its.toArray.any (zp4 X.K H dx)=its.any (zp4 X.K H dx) by simp,zj9 I h4 k2 r]
  exact q
def gIn(neg:Bool):Dt->Dt->R Dt:=fun x y=>match y with
 |.lst ds=>if (okN 60 x && ds.all (okN 60))=true then .ok (.bl (if neg then !inD x ds else inD x ds)) else .no
 |.tup ds=>if (okN 60 x && ds.all (okN 60))=true then .ok (.bl (if neg then !inD x ds else inD x ds)) else .no
 |_=>.no
theorem zoH(neg:Bool):zjI (gIn neg):=fun x y n h=>by
 unfold gIn at h
 split at h
 ·split at h <;> cases h
 ·split at h <;> cases h
 ·cases h
theorem zr1{K:W.Frag}(neg:Bool):Op2 K (rInD K neg) (gIn neg):=fun G H x y dx dy z Q gh hx hy e k=>by
 unfold gIn at e
 split at e
 ·split at e
  ·rename_i h
   rw[Bool.and_eq_true] at h
   cases e
   exact ⟨dx,_,hx.same gh,.inl (hy.same gh),h.1,h.2,k _ G H (.refl gh) (by unfold Rep;rfl)⟩
  ·cases e
 ·split at e
  ·rename_i h
   rw[Bool.and_eq_true] at h
   cases e
   exact ⟨dx,_,hx.same gh,.inr (hy.same gh),h.1,h.2,k _ G H (.refl gh) (by unfold Rep;rfl)⟩
  ·cases e
 ·cases e
end
def zcG(i:Int):Bool:=decide (-18446744073709551616<i) && decide (i<18446744073709551616)
theorem zi4{i:Int}(h:zcG i=true):-(2 ^ 64)<i/\i<2 ^ 64:=by
 unfold zcG at h
 rw[Bool.and_eq_true] at h
 have h1:=of_decide_eq_true h.1
 have h2:=of_decide_eq_true h.2
 omega
def zaA:Dt->Dt->R Dt
 |.int i,.int j=>.ok (.int (i+j))
 |_,_=>.no
def zdc:Dt->Dt->R Dt
 |.int i,.int j=>.ok (.int (i-j))
 |_,_=>.no
def zit:Dt->Dt->R Dt
 |.int i,.int j=>if (zcG i || zcG j)=true then .ok (.int (i * j)) else .no
 |_,_=>.no
def zqs:Dt->Dt->R Dt
 |.int i,.int j=>if 0<j/\j<1073741824 then .ok (.int (i / j)) else .no
 |_,_=>.no
def zns:Dt->Dt->R Dt
 |.int i,.int j=>if 0<j then .ok (.int (i % j)) else .no
 |_,_=>.no
def zpl:Dt->Dt->R Dt
 |.int i,.int j=>if 0<=j/\j<=1000/\i.natAbs<18446744073709551616 then .ok (.int (i ^ j.toNat)) else .no
 |_,_=>.no
def zn4(f:Int->Int->Bool):Dt->Dt->R Dt
 |.int i,.int j=>.ok (.bl (f i j))
 |_,_=>.no
section
variable{K:W.Frag}
theorem zaF{G:Hp}(i:Int):Rep K G (.int i) (.int i):=by unfold Rep;rfl
theorem zda{G:Hp}(b:Bool):Rep K G (.bl b) (.bl b):=by unfold Rep;rfl
theorem zpQ:Op2 K (rI0 fun i j=>.int (i+j)) zaA:=fun G H x y dx dy z Q gh hx hy e k=>by
 unfold zaA at e
 split at e
 ·cases e;exact ⟨_,_,za5 hx,za5 hy,k _ G H (.refl gh) (zaF _)⟩
 ·cases e
theorem zr6:Op2 K (rI0 fun i j=>.int (i-j)) zdc:=fun G H x y dx dy z Q gh hx hy e k=>by
 unfold zdc at e
 split at e
 ·cases e;exact ⟨_,_,za5 hx,za5 hy,k _ G H (.refl gh) (zaF _)⟩
 ·cases e
theorem zsK:Op2 K (rI zuM fun i j=>.int (i * j)) zit:=fun G H x y dx dy z Q gh hx hy e k=>by
 unfold zit at e
 split at e
 ·split at e
  ·rename_i h
   cases e
   rw[Bool.or_eq_true] at h
   exact ⟨_,_,za5 hx,za5 hy,h.elim (fun z=>.inl (zi4 z)) (fun z=>.inr (zi4 z)),k _ G H (.refl gh) (zaF _)⟩
  ·cases e
 ·cases e
theorem zsj:Op2 K (rI CDiv fun i j=>.int (i / j)) zqs:=fun G H x y dx dy z Q gh hx hy e k=>by
 unfold zqs at e
 split at e
 ·split at e
  ·rename_i h
   cases e
   exact ⟨_,_,za5 hx,za5 hy,h,k _ G H (.refl gh) (zaF _)⟩
  ·cases e
 ·cases e
theorem zsa:Op2 K (rI (fun _ j=>0<j) fun i j=>.int (i % j)) zns:=fun G H x y dx dy z Q gh hx hy e k=>by
 unfold zns at e
 split at e
 ·split at e
  ·rename_i h
   cases e
   exact ⟨_,_,za5 hx,za5 hy,h,k _ G H (.refl gh) (zaF _)⟩
  ·cases e
 ·cases e
theorem zsz:Op2 K (rI CPow fun i j=>.int (i ^ j.toNat)) zpl:=fun G H x y dx dy z Q gh hx hy e k=>by
 unfold zpl at e
 split at e
 ·split at e
  ·rename_i h
   cases e
   exact ⟨_,_,za5 hx,za5 hy,⟨h.1,by omega,by have:=h.2.2;omega⟩,k _ G H (.refl gh) (zaF _)⟩
  ·cases e
 ·cases e
theorem zfr{f:Int->Int->Bool}:Op2 K (rI0 fun i j=>.bl (f i j)) (zn4 f):=fun G H x y dx dy z Q gh hx hy e k=>by
 unfold zn4 at e
 split at e
 ·cases e;exact ⟨_,_,za5 hx,za5 hy,k _ G H (.refl gh) (zda _)⟩
 ·cases e
theorem zpy:zjI zaA:=fun x y n h=>by unfold zaA at h;split at h <;> cases h
theorem zqb:zjI zdc:=fun x y n h=>by unfold zdc at h;split at h <;> cases h
theorem zq0:zjI zit:=fun x y n h=>by unfold zit at h;split at h <;> first|cases h|(split at h <;> cases h)
theorem zqL:zjI zqs:=fun x y n h=>by unfold zqs at h;split at h <;> first|cases h|(split at h <;> cases h)
theorem zpT:zjI zns:=fun x y n h=>by unfold zns at h;split at h <;> first|cases h|(split at h <;> cases h)
theorem zqG:zjI zpl:=fun x y n h=>by unfold zpl at h;split at h <;> first|cases h|(split at h <;> cases h)
theorem zeb{f:Int->Int->Bool}:zjI (zn4 f):=fun x y n h=>by unfold zn4 at h;split at h <;> cases h
end
section
variable{X:Cx}{C:Cn}{a b:Expr}{fa fb:De}{pos:Pos}
theorem zbj(ha:JE X C a fa)(hb:JE X C b fb):JE X C (.BinOp a .Add b pos) (dOp zaA fa fb):=znn ztL zpQ zpy ha hb
theorem zel(ha:JE X C a fa)(hb:JE X C b fb):JE X C (.BinOp a .Sub b pos) (dOp zdc fa fb):=znn ztz zr6 zqb ha hb
theorem zh9(ha:JE X C a fa)(hb:JE X C b fb):JE X C (.BinOp a .Mult b pos) (dOp zit fa fb):=znn zu0 zsK zq0 ha hb
theorem zrj(ha:JE X C a fa)(hb:JE X C b fb):JE X C (.BinOp a .FloorDiv b pos) (dOp zqs fa fb):=znn zr9 zsj zqL ha hb
theorem zim(ha:JE X C a fa)(hb:JE X C b fb):JE X C (.BinOp a .Mod b pos) (dOp zns fa fb):=znn zto zsa zpT ha hb
theorem znV(ha:JE X C a fa)(hb:JE X C b fb):JE X C (.BinOp a .Pow b pos) (dOp zpl fa fb):=znn zuv zsz zqG ha hb
abbrev gLt:=zn4 fun i j=>decide (i<j)
abbrev gLe:=zn4 fun i j=>decide (i<=j)
abbrev gGt:=zn4 fun i j=>decide (j<i)
abbrev gGe:=zn4 fun i j=>decide (j<=i)
theorem zvo(ha:JE X C a fa)(hb:JE X C b fb):JE X C (.Compare a [.Lt] [b] pos) (dOp gLt fa fb):=zlM zsn zfr zeb ha hb (zfG _)
theorem zsg(ha:JE X C a fa)(hb:JE X C b fb):JE X C (.Compare a [.Gt] [b] pos) (dOp gGt fa fb):=zlM zud zfr zeb ha hb (zfG _)
theorem zrF(hu:X.A.units+64<cLine)(ha:JE X C a fa)(hb:JE X C b fb):JE X C (.Compare a [.Eq] [b] pos) (dOp (gEq false) fa fb):=zlM (zrn hu) (zpp false) (zkQ false) ha hb (zfG _)
theorem zvk(hu:X.A.units+65<cLine)(ha:JE X C a fa)(hb:JE X C b fb)(hm:behindInMarks .In b=false:=by rfl):JE X C (.Compare a [.In] [b] pos) (dOp (gIn false) fa fb):=zlM (zru hu) (zr1 false) (zoH false) ha hb hm
theorem znd(ha:JE X C a fa)(hb:JE X C b fb):JT X C (.Compare a [.Lt] [b] pos) (dTB (dOp gLt fa fb)):=zi8 zsn zfr zeb ha hb (zfG _)
theorem zjm(ha:JE X C a fa)(hb:JE X C b fb):JT X C (.Compare a [.Gt] [b] pos) (dTB (dOp gGt fa fb)):=zi8 zud zfr zeb ha hb (zfG _)
theorem zvt(ha:JE X C a fa)(hb:JE X C b fb):JT X C (.Compare a [.GtE] [b] pos) (dTB (dOp gGe fa fb)):=zi8 zvg zfr zeb ha hb (zfG _)
theorem zon(hu:X.A.units+64<cLine)(ha:JE X C a fa)(hb:JE X C b fb):JT X C (.Compare a [.Eq] [b] pos) (dTB (dOp (gEq false) fa fb)):=zi8 (zrn hu) (zpp false) (zkQ false) ha hb (zfG _)
theorem zih(hu:X.A.units+64<cLine)(ha:JE X C a fa)(hb:JE X C b fb):JT X C (.Compare a [.NotEq] [b] pos) (dTB (dOp (gEq true) fa fb)):=zi8 (zr2 hu) (zpp true) (zkQ true) ha hb (zfG _)
theorem zuW(hu:X.A.units+65<cLine)(ha:JE X C a fa)(hb:JE X C b fb)(hm:behindInMarks .In b=false:=by rfl):JT X C (.Compare a [.In] [b] pos) (dTB (dOp (gIn false) fa fb)):=zi8 (zru hu) (zr1 false) (zoH false) ha hb hm
def znD(fa:De):De:=fun ρ=>(fa ρ).bind fun a=>match a.1 with
 |.int i=>.ok (.int (-i),a.2)
 |_=>.no
theorem zmA(ha:JE X C a fa):JE X C (.UnaryOp .USub a pos) (znD fa):=PE.weak (ztX zrc ha) fun σ H Q ⟨G,w,ρ,r,p⟩=>by
 refine zer (κ:=fun G H w=>kE X.K C σ Q G H w) zch r p fun d ρ1 v G1 H1 w1 r1 s1 q1 p1=>?_
 cases d with
 |int i=>exact ⟨i,za5 q1,p1 _ G1 H1 w1 (.refl _ _ _) r1 (zaF _)⟩
 |_=>exact p1.elim
def zkL(g g':Dt->Dt->R Dt)(fa fb fc:De):De:=fun ρ=>(fa ρ).bind fun a=>(fb a.2).bind fun b=>(g a.1 b.1).bind fun z=>match z with
 |.bl true=>(fc b.2).bind fun c=>(g' b.1 c.1).bind fun z'=>.ok (z',c.2)
 |.bl false=>.ok (.bl false,b.2)
 |_=>.no
end
def FnR(K:W.Frag)(r:List V->Hp->VK->Prop)(g:List Dt->R Dt):Prop:=∀(G H:Hp)(vs:List V)(ds:List Dt)(z:Dt)(Q:VK),zcb G H->zaB K G ds vs->g ds=.ok z ->
 (∀ v G' H',zec G H G' H'->Rep K G' z v->Q v H')->r vs H Q
def FnN(K:W.Frag)(r:List V->Hp->VK->Prop)(g:List Dt->R (List Dt)):Prop:=∀(G H:Hp)(vs:List V)(ds:List Dt)(z:List Dt)(Q:VK),zcb G H->zaB K G ds vs->g ds=.ok z ->
 (∀ p zs,H p=none->zaB K G z zs->Q (.ref p) (upd H p (.lst zs)))->r vs H Q
def zkM{α:Type}(g:List Dt->R α):Prop:=∀ x n,g x≠.er n
def dFn(g:List Dt->R Dt)(fa:DA):De:=fun ρ=>(fa ρ).bind fun a=>(g a.1).bind fun z=>.ok (z,a.2)
def zgJ(g:List Dt->R (List Dt))(fa:DA):DN:=fun ρ=>(fa ρ).bind fun a=>(g a.1).bind fun z=>.ok (z,a.2)
section
variable{X:Cx}{C:Cn}{e:Expr}{es:List Expr}{fa:DA}{p pos:Pos}{x:Str}{id T:String}{r:List V->Hp->VK->Prop}
theorem znN{g:List Dt->R Dt}{σ:L2.St}{H:Hp}{Q:VK}(h:FnR X.K r g)(he:zkM g)(t:tE X.K C (dFn g fa) σ H Q):tCB r (tAd X.K C fa) σ H Q:=by
 obtain ⟨G,w,ρ,rr,p⟩:=t
 refine zs4 (κ:=fun G H w=>kE X.K C σ Q G H w) zch rr p fun ds ρ1 vs G1 H1 w1 r1 s1 q1 p1=>?_
 cases e:g ds with
 |ok z =>
  simp only[e,R.bind_ok] at p1
  exact h G1 H1 vs ds z Q r1.gh q1 e fun v G' H' gr q=>p1 v G' H' w1 gr.step (r1.grow gr) q
 |er n=>exact absurd e (he _ _)
 |no=>simp only[e,R.bind_no] at p1;exact p1.elim
theorem zmo{g:List Dt->R (List Dt)}{σ:L2.St}{H:Hp}{Q:VK}(h:FnN X.K r g)(he:zkM g)(t:tN X.K C (zgJ g fa) σ H Q):tCB r (tAd X.K C fa) σ H Q:=by
 obtain ⟨G,w,ρ,rr,p⟩:=t
 refine zs4 (κ:=fun G H w=>kN X.K C σ Q G H w) zeF rr p fun ds ρ1 vs G1 H1 w1 r1 s1 q1 p1=>?_
 cases e:g ds with
 |ok z =>
  simp only[e,R.bind_ok] at p1
  refine h G1 H1 vs ds z Q r1.gh q1 e fun a zs ha q=>?_
  have gr:zec G1 H1 G1 (upd H1 a (.lst zs)):=.newH r1.gh ha
  exact p1 a zs G1 _ w1 gr.step (r1.grow gr) ha zan (r1.gh.free ha) (by
   cases z:w1 a with
   |none=>rfl
   |some k=>exact absurd ha (r1.wh a (by rw[z];simp))) q
 |er n=>exact absurd e (he _ _)
 |no=>simp only[e,R.bind_no] at p1;exact p1.elim
theorem zfM{g:List Dt->R Dt}(h:FnR X.K r g)(he:zkM g)(hc:zcz X (.builtin id) r)(hg:Gl X x)(hm:X.mg x=none)(hv:bootBuiltins x=some (.builtin id))(ha:JA X C (e::es) fa)(hn:x≠"__name__":=by decide)(hdb:(x == ("__debug__" : Str))=false:=by decide)
  (hs:starEach (e::es) X.env=(false,eval e X.env)::starEach es X.env:=by rfl) (hpl:(backTo pos (starEach es X.env)).any (·.1)=false:=by rfl):JE X C (.Call (.Name x p) (e::es) [] pos) (dFn g fa) :=
 PE.weak (zdQ hc hg hm hv ha hn hdb hs hpl) fun σ H Q t=>znN h he t
theorem zjV{g:List Dt->R Dt}(h:FnR X.K r g)(he:zkM g)(hc:zcz X (.type T) r)(hg:Gl X x)(hm:X.mg x=none)(hv:bootBuiltins x=some (.type T))(ha:JA X C (e::es) fa)(hn:x≠"__name__":=by decide)(hdb:(x == ("__debug__" : Str))=false:=by decide)
  (hs:starEach (e::es) X.env=(false,eval e X.env)::starEach es X.env:=by rfl) (hpl:(backTo pos (starEach es X.env)).any (·.1)=false:=by rfl):JE X C (.Call (.Name x p) (e::es) [] pos) (dFn g fa) :=
 PE.weak (ze4 hc hg hm hv ha hn hdb hs hpl) fun σ H Q t=>znN h he t
theorem zmB{g:List Dt->R (List Dt)}(h:FnN X.K r g)(he:zkM g)(hc:zcz X (.builtin id) r)(hg:Gl X x)(hm:X.mg x=none)(hv:bootBuiltins x=some (.builtin id))(ha:JA X C (e::es) fa)(hn:x≠"__name__":=by decide)(hdb:(x == ("__debug__" : Str))=false:=by decide)
  (hs:starEach (e::es) X.env=(false,eval e X.env)::starEach es X.env:=by rfl) (hpl:(backTo pos (starEach es X.env)).any (·.1)=false:=by rfl):JN X C (.Call (.Name x p) (e::es) [] pos) (zgJ g fa) :=
 PE.weak (zdQ hc hg hm hv ha hn hdb hs hpl) fun σ H Q t=>zmo h he t
theorem zoC{g:List Dt->R (List Dt)}(h:FnN X.K r g)(he:zkM g)(hc:zcz X (.type T) r)(hg:Gl X x)(hm:X.mg x=none)(hv:bootBuiltins x=some (.type T))(ha:JA X C (e::es) fa)(hn:x≠"__name__":=by decide)(hdb:(x == ("__debug__" : Str))=false:=by decide)
  (hs:starEach (e::es) X.env=(false,eval e X.env)::starEach es X.env:=by rfl) (hpl:(backTo pos (starEach es X.env)).any (·.1)=false:=by rfl):JN X C (.Call (.Name x p) (e::es) [] pos) (zgJ g fa) :=
 PE.weak (ze4 hc hg hm hv ha hn hdb hs hpl) fun σ H Q t=>zmo h he t
end
def zbN:List Dt->R Dt
 |[.lst l]=>.ok (.int l.length)
 |[.tup l]=>.ok (.int l.length)
 |[.scr l]=>.ok (.int l.length)
 |[.str x]=>if x.length<=16777216 then .ok (.int x.length) else .no
 |_=>.no
def rLen(K:W.Frag):List V->Hp->VK->Prop:=fun xs H Q=>(∃ p ys,xs=[.ref p]/\(SqL K H p ys\/SqT K H p ys)/\Q (.int ys.length) H)\/∃ z,xs=[.str z]/\z.length<=sizeLine/\Q (.int z.length) H
theorem zfL{K:W.Frag}{G:Hp}{d:Dt}{vs:List V}(h:zaB K G [d] vs):∃ v,vs=[v]/\Rep K G d v:=by
 obtain ⟨v,r,rfl,h1,h2⟩:=h.cons_inv
 rw[h2.nil_inv];exact ⟨v,rfl,h1⟩
theorem zsC{K:W.Frag}{G:Hp}{d e:Dt}{vs:List V}(h:zaB K G [d,e] vs):∃ v u,vs=[v,u]/\Rep K G d v/\Rep K G e u:=by
 obtain ⟨v,r,rfl,h1,h2⟩:=h.cons_inv
 obtain ⟨u,rfl,h3⟩:=zfL h2
 exact ⟨v,u,rfl,h1,h3⟩
theorem zlx{K:W.Frag}{G:Hp}{l:List Int}{v:V}(h:Rep K G (.scr l) v):∃ a,v=.ref a/\SqL K G a (l.map V.int):=by unfold Rep at h;exact h
section
variable{K:W.Frag}
theorem ztS:FnR K (rLen K) zbN:=fun G H vs ds z Q gh hr e k=>by
 unfold zbN at e
 split at e
 ·obtain ⟨v,rfl,h1⟩:=zfL hr
  obtain ⟨a,us,rfl,h2,h3⟩:=zbm h1
  cases e
  exact .inl ⟨a,us,rfl,.inl (SqL.of (gh _ _ h2)),by rw[<- h3.length];exact k _ G H (.refl gh) (zaF _)⟩
 ·obtain ⟨v,rfl,h1⟩:=zfL hr
  obtain ⟨a,us,rfl,h2,h3⟩:=zcu h1
  cases e
  exact .inl ⟨a,us,rfl,.inr (zbc gh h2),by rw[<- h3.length];exact k _ G H (.refl gh) (zaF _)⟩
 ·obtain ⟨v,rfl,h1⟩:=zfL hr
  obtain ⟨a,rfl,h2⟩:=zlx h1
  cases e
  exact .inl ⟨a,_,rfl,.inl (gh.seq h2),by rw[List.length_map];exact k _ G H (.refl gh) (zaF _)⟩
 ·split at e
  ·rename_i hx
   obtain ⟨v,rfl,h1⟩:=zfL hr
   cases e
   exact .inr ⟨_,by rw[zgd h1],by rw[show sizeLine=16777216 from by decide];exact hx,k _ G H (.refl gh) (zaF _)⟩
  ·cases e
 ·cases e
theorem ztP:zkM zbN:=fun x n h=>by unfold zbN at h;split at h <;> first|cases h|(split at h <;> cases h)
def zjq:List Dt->R (List Dt)
 |[.lst l]=>.ok l
 |[.tup l]=>.ok l
 |_=>.no
theorem ztd:FnN K (fun xs H Q=>∃ p ys,xs=[.ref p]/\(SqL K H p ys\/SqT K H p ys)/\∀ l,H l=none->Q (.ref l) (upd H l (.lst ys))) zjq:=fun G H vs ds z Q gh hr e k=>by
 unfold zjq at e
 split at e
 ·obtain ⟨v,rfl,h1⟩:=zfL hr
  obtain ⟨a,us,rfl,h2,h3⟩:=zbm h1
  cases e
  exact ⟨a,us,rfl,.inl (SqL.of (gh _ _ h2)),fun l hl=>k l us hl h3⟩
 ·obtain ⟨v,rfl,h1⟩:=zfL hr
  obtain ⟨a,us,rfl,h2,h3⟩:=zcu h1
  cases e
  exact ⟨a,us,rfl,.inr (zbc gh h2),fun l hl=>k l us hl h3⟩
 ·cases e
theorem zrO:zkM zjq:=fun x n h=>by unfold zjq at h;split at h <;> cases h
def zbi:List Dt->R Dt
 |[.lst l]=>.ok (.tup l)
 |[.tup l]=>.ok (.tup l)
 |_=>.no
theorem zqK:FnR K (fun xs H Q=>∃ p ys,xs=[.ref p]/\((SqL K H p ys/\∀ l,H l=none->Q (.ref l) (upd H l (.tup ys)))\/(SqT K H p ys/\Q (.ref p) H))) zbi:=fun G H vs ds z Q gh hr e k=>by
 unfold zbi at e
 split at e
 ·obtain ⟨v,rfl,h1⟩:=zfL hr
  obtain ⟨a,us,rfl,h2,h3⟩:=zbm h1
  cases e
  refine ⟨a,us,rfl,.inl ⟨SqL.of (gh _ _ h2),fun l hl=>?_⟩⟩
  have gr:zec G H (upd G l (.tup us)) (upd H l (.tup us)):=.new gh hl
  exact k _ _ _ gr (by unfold Rep;exact ⟨l,us,rfl,zjU.of zan,h3.same gr.g⟩)
 ·obtain ⟨v,rfl,h1⟩:=zfL hr
  obtain ⟨a,us,rfl,h2,h3⟩:=zfO h1
  cases e
  exact ⟨a,us,rfl,.inr ⟨zbc gh h2.sq,k _ G H (.refl gh) (by unfold Rep;exact ⟨a,us,rfl,h2,h3⟩)⟩⟩
 ·cases e
theorem zqv:zkM zbi:=fun x n h=>by unfold zbi at h;split at h <;> cases h
def ziT:List Dt->R Dt
 |[.int i,.int j]=>.ok (.int (if j > i then j else i))
 |_=>.no
def zgl:List Dt->R Dt
 |[.int i,.int j]=>.ok (.int (if j<i then j else i))
 |_=>.no
theorem zsA:FnR K (fun xs H Q=>∃ i j,xs=[.int i,.int j]/\Q (.int (if j > i then j else i)) H) ziT:=fun G H vs ds z Q gh hr e k=>by
 unfold ziT at e
 split at e
 ·obtain ⟨v,u,rfl,h1,h2⟩:=zsC hr
  cases e
  exact ⟨_,_,by rw[za5 h1,za5 h2],k _ G H (.refl gh) (zaF _)⟩
 ·cases e
theorem zsi:FnR K (fun xs H Q=>∃ i j,xs=[.int i,.int j]/\Q (.int (if j<i then j else i)) H) zgl:=fun G H vs ds z Q gh hr e k=>by
 unfold zgl at e
 split at e
 ·obtain ⟨v,u,rfl,h1,h2⟩:=zsC hr
  cases e
  exact ⟨_,_,by rw[za5 h1,za5 h2],k _ G H (.refl gh) (zaF _)⟩
 ·cases e
theorem zsk:zkM ziT:=fun x n h=>by unfold ziT at h;split at h <;> cases h
theorem zrA:zkM zgl:=fun x n h=>by unfold zgl at h;split at h <;> cases h
end
section
variable{X:Cx}
theorem zgO{α:Type}{f:α->V}{g:α->Value->Prop}(h:∀ a u,zcx (f a) u->g a u):∀{as:List α}{us:List Value}{i:Nat}{u:Value},zbp (as.map f) us->us[i]? = some u->∃ a,as[i]? = some a/\g a u
 |[],_,_,_,r,e=>by cases r;simp at e
 |a::as,_,0,u,.cons r t,e=>by simp at e;subst e;exact ⟨a,rfl,h a _ r⟩
 |a::as,_,i+1,u,.cons r t,e=>by
  obtain ⟨b,h1,h2⟩:=zgO h (i:=i) t (by simpa using e)
  exact ⟨b,by simpa using h1,h2⟩
theorem zj3:∀(bs:List Bool),((List.range bs.length).all fun i=>(bs[i]?).getD true)=bs.all id:=fun bs=>by
 rw[Bool.eq_iff_iff,List.all_eq_true,List.all_eq_true]
 constructor
 ·intro h b hb
  obtain ⟨i,hi,rfl⟩:=List.mem_iff_getElem.mp hb
  have:=h i (List.mem_range.mpr hi)
  simpa [hi] using this
 ·intro h i hi
  have hi':=List.mem_range.mp hi
  simpa [hi'] using h bs[i] (List.getElem_mem hi')
theorem znL(hc:X.calm=true):zcz X (.builtin "all") (fun xs H Q=>∃(p:Addr)(bs:List Bool),xs=[.ref p]/\SqL X.K H p (bs.map V.bl)/\Q (.bl (bs.all id)) H):=by
 intro pins s σ H xs us Q I r h
 obtain ⟨p,bs,rfl,hq,q⟩:=h
 obtain ⟨u,rfl,ru⟩:=zfd r
 cases ru
 obtain ⟨its,rv,pl,hz⟩:=I.list hq
 have hlt:p≠s.heap.objs.size:=by
  obtain ⟨o,n,e,_⟩:=id pl
  exact Nat.ne_of_lt (Heap.lt_size e)
 have hlen:its.length=bs.length:=by rw[<- rv.length];simp
 refine call_all_walk (wpAny_pyIter_list pl.isList ?_)
 refine ⟨s.heap.objs.size,_,_,_,_,_,fun i=>(bs[i]?).getD true,rfl,Walks.list (A:=X.A.in1) (I.ok.hd hc) s.heap.objs.size p hlt its.toArray,⟨⟨_,Heap.get?_push_size _ rfl,rfl,rfl⟩,?_⟩,?_,fun h' tk hk=>?_⟩
 ·obtain ⟨o,ho,hc',n,hd⟩:=pl.isList
  exact ⟨o,Heap.get?_push_of_some _ ho,hc',n,hd⟩
 ·intro i v s' Q' E' hP hQ
  obtain ⟨b,h1,h2⟩:=zgO (f:=V.bl) (g:=fun b u=>u=Value.bool b) (fun a u z=>z) rv (i:=i) (u:=v) (by simpa using hP)
  subst h2
  simp only[h1,Option.getD_some] at hQ
  exact wpAny_truthy_bool hQ
 ·refine ⟨.bl (bs.all id),H,I.kept (t':=tk) fun b o e=>hk b o (fun z=>?_) (Heap.get?_push_of_some _ e),?_,q⟩
  ·simp at z;exact absurd (z ▸ Heap.lt_size e) (Nat.lt_irrefl _)
  ·show Value.bool _=_
   rw[List.size_toArray,hlen,zj3]
def zfe:List Dt->Option (List Bool)
 |[]=>some []
 |.bl b::r=>(zfe r).map (b::·)
 |_=>none
theorem ziy{K:W.Frag}{G:Hp}:∀{ds:List Dt}{vs:List V}{bs:List Bool},zaB K G ds vs->zfe ds=some bs->vs=bs.map V.bl
 |[],_,_,h,e=>by rw[h.nil_inv];simp[zfe] at e;subst e;rfl
 |.bl b::r,_,bs,h,e=>by
  obtain ⟨v,t,rfl,h1,h2⟩:=h.cons_inv
  simp only[zfe,Option.map_eq_some_iff] at e
  obtain ⟨bs',e1,rfl⟩:=e
  rw[zdz h1,ziy h2 e1];rfl
 |.non::_,_,_,_,e=>by simp[zfe] at e
 |.int _::_,_,_,_,e=>by simp[zfe] at e
 |.str _::_,_,_,_,e=>by simp[zfe] at e
 |.tup _::_,_,_,_,e=>by simp[zfe] at e
 |.lst _::_,_,_,_,e=>by simp[zfe] at e
 |.dct::_,_,_,_,e=>by simp[zfe] at e
 |.scr _::_,_,_,_,e=>by simp[zfe] at e
def zn2:List Dt->R Dt
 |[.lst l]=>match zfe l with
  |some bs=>.ok (.bl (bs.all id))
  |none=>.no
 |_=>.no
theorem zur{K:W.Frag}:FnR K (fun xs H Q=>∃(p:Addr)(bs:List Bool),xs=[.ref p]/\SqL K H p (bs.map V.bl)/\Q (.bl (bs.all id)) H) zn2:=fun G H vs ds z Q gh hr e k=>by
 unfold zn2 at e
 split at e
 ·split at e
  ·rename_i bs eb
   obtain ⟨v,rfl,h1⟩:=zfL hr
   obtain ⟨a,us,rfl,h2,h3⟩:=zbm h1
   cases e
   rw[ziy h3 eb] at h2
   exact ⟨a,bs,rfl,SqL.of (gh _ _ h2),k _ G H (.refl gh) (zda _)⟩
  ·cases e
 ·cases e
theorem zus:zkM zn2:=fun x n h=>by unfold zn2 at h;split at h <;> first|cases h|(split at h <;> cases h)
def ziU:List Dt->Option (List Int)
 |[]=>some []
 |.int b::r=>(ziU r).map (b::·)
 |_=>none
theorem zjj{K:W.Frag}{G:Hp}:∀{ds:List Dt}{vs:List V}{bs:List Int},zaB K G ds vs->ziU ds=some bs->vs=bs.map V.int
 |[],_,_,h,e=>by rw[h.nil_inv];simp[ziU] at e;subst e;rfl
 |.int b::r,_,bs,h,e=>by
  obtain ⟨v,t,rfl,h1,h2⟩:=h.cons_inv
  simp only[ziU,Option.map_eq_some_iff] at e
  obtain ⟨bs',e1,rfl⟩:=e
  rw[za5 h1,zjj h2 e1];rfl
 |.non::_,_,_,_,e=>by simp[ziU] at e
 |.bl _::_,_,_,_,e=>by simp[ziU] at e
 |.str _::_,_,_,_,e=>by simp[ziU] at e
 |.tup _::_,_,_,_,e=>by simp[ziU] at e
 |.lst _::_,_,_,_,e=>by simp[ziU] at e
 |.dct::_,_,_,_,e=>by simp[ziU] at e
 |.scr _::_,_,_,_,e=>by simp[ziU] at e
theorem zh7(ns:List Int):ziU (ns.map .int)=some ns:=by
 induction ns with
 |nil=>rfl
 |cons n r ih=>simp[ziU,ih]
def maxZ:List Int->Int
 |[]=>0
 |[a]=>a
 |a::b::r=>let m:=maxZ (b::r);if a<m then m else a
def znB:List Int->Int
 |[]=>0
 |[a]=>a
 |a::b::r=>let m:=znB (b::r);if m<a then m else a
theorem zkx:∀(l:List Int),l≠[]->znB l∈l/\∀ a∈l,znB l<=a
 |[],h=>absurd rfl h
 |[a],_=>by simp[znB]
 |a::b::r,_=>by
  obtain ⟨h1,h2⟩:=zkx (b::r) (by simp)
  simp only[znB]
  split
  ·rename_i h
   refine ⟨List.mem_cons_of_mem _ h1,fun x hx=>?_⟩
   rcases List.mem_cons.mp hx with rfl|hx
   ·omega
   ·exact h2 x hx
  ·rename_i h
   refine ⟨List.mem_cons_self,fun x hx=>?_⟩
   rcases List.mem_cons.mp hx with rfl|hx
   ·omega
   ·have:=h2 x hx;omega
theorem zre{l:List Int}{m:Int}(h1:m∈l)(h2:∀ a∈l,m<=a):m=znB l:=by
 obtain ⟨h3,h4⟩:=zkx l (by intro z;subst z;cases h1)
 have:=h2 _ h3
 have:=h4 _ h1
 omega
end
section
variable{X:Cx}
theorem zoW(hc:X.calm=true):zcz X (.builtin "min") (fun xs H Q=>∃(p:Addr)(ns:List Int),xs=[.ref p]/\SqL X.K H p (ns.map V.int)/\ns≠[]/\Q (.int (znB ns)) H):=by
 intro pins s σ H xs us Q I r h
 obtain ⟨p,ns,rfl,hq,hne,q⟩:=h
 obtain ⟨u,rfl,ru⟩:=zfd r
 cases ru
 obtain ⟨its,rv,pl,hz⟩:=I.list hq
 have hlt:p≠s.heap.objs.size:=by
  obtain ⟨o,n,e,_⟩:=id pl
  exact Nat.ne_of_lt (Heap.lt_size e)
 have hlen:its.length=ns.length:=by rw[<- rv.length];simp
 have hpos:0<ns.length:=by cases ns with|nil=>exact absurd rfl hne|cons a r=>simp
 refine call_min_walk (wpAny_pyIter_list pl.isList ?_)
 refine ⟨s.heap.objs.size,_,_,_,_,_,_,rfl,Walks.list (A:=X.A.in1) (I.ok.hd hc) s.heap.objs.size p hlt its.toArray,⟨⟨_,Heap.get?_push_size _ rfl,rfl,rfl⟩,?_⟩,?_,(by rw[List.size_toArray,hlen];exact hpos),CmpOf.ints_lt (fun i=>(ns[i]?).getD 0) (fun i v hP=>?_),fun v h' tk hP hk=>?_⟩
 ·obtain ⟨o,ho,hc',n,hd⟩:=pl.isList
  exact ⟨o,Heap.get?_push_of_some _ ho,hc',n,hd⟩
 ·intro b hb
  rw[Heap.size_push]
  obtain ⟨o,n,e,_⟩:=id pl
  rcases List.mem_cons.mp hb with rfl|hb
  ·exact Nat.lt_succ_self _
  ·simp at hb;subst hb;exact Nat.lt_succ_of_lt (Heap.lt_size e)
 ·obtain ⟨a,h1,h2⟩:=zgO (f:=V.int) (g:=fun a u=>∃ t,u=Value.int a t) (fun a u z=>z) rv (i:=i) (u:=v) (by simpa using hP)
  simp only[h1,Option.getD_some];exact h2
 ·have hP:its.toArray[argBest (fun i j=>decide (((ns[i]?).getD 0)<((ns[j]?).getD 0))) (its.toArray.size-1)]? = some v:=hP
  obtain ⟨a,h1,t,rfl⟩:=zgO (f:=V.int) (g:=fun a u=>∃ t,u=Value.int a t) (fun a u z=>z) rv (u:=v) (by simpa using hP)
  obtain ⟨k1,k2⟩:=argBest_lt (fun i=>(ns[i]?).getD 0) (its.toArray.size-1)
  have ea:a=znB ns:=by
   refine zre (List.mem_of_getElem? h1) fun b hb=>?_
   obtain ⟨j,hj,rfl⟩:=List.mem_iff_getElem.mp hb
   have:=k2 j (by rw[List.size_toArray,hlen];omega)
   rw[show its.toArray.size-1=its.length-1 from by rw[List.size_toArray]] at this
   simp only[h1,List.getElem?_eq_getElem hj,Option.getD_some] at this
   exact this
  subst ea
  refine ⟨.int (znB ns),H,I.kept (t':=tk) fun b o e=>hk b o (fun z=>?_) (Heap.get?_push_of_some _ e),⟨t,rfl⟩,q⟩
  simp at z;exact absurd (z ▸ Heap.lt_size e) (Nat.lt_irrefl _)
def zea:List Dt->R Dt
 |[.lst l]=>match ziU l with
  |some (a::r)=>.ok (.int (znB (a::r)))
  |_=>.no
 |_=>.no
theorem zsO{K:W.Frag}:FnR K (fun xs H Q=>∃(p:Addr)(ns:List Int),xs=[.ref p]/\SqL K H p (ns.map V.int)/\ns≠[]/\Q (.int (znB ns)) H) zea:=fun G H vs ds z Q gh hr e k=>by
 unfold zea at e
 split at e
 ·split at e
  ·rename_i a r eb
   obtain ⟨v,rfl,h1⟩:=zfL hr
   obtain ⟨ad,us,rfl,h2,h3⟩:=zbm h1
   cases e
   rw[zjj h3 eb] at h2
   exact ⟨ad,_,rfl,SqL.of (gh _ _ h2),by simp,k _ G H (.refl gh) (zaF _)⟩
  ·cases e
 ·cases e
theorem zst:zkM zea:=fun x n h=>by unfold zea at h;split at h <;> first|cases h|(split at h <;> cases h)
end
def tyD:Dt->String
 |.non=>"NoneType"
 |.bl _=>"bool"
 |.int _=>"int"
 |.str _=>"str"
 |.tup _=>"tuple"
 |.lst _=>"list"
 |.dct=>"dict"
 |.scr _=>"list"
def zi1(t T:String):Bool:=(t == T) || (t == "bool" && T == "int")
section
variable{X:Cx}{pins:List (Addr×Obj)}{σ:L2.St}{H:Hp}{s:Shared}
theorem zr0(I:L2.Inv X pins σ H s):∀{d:Dt}{v:V}{u:Value},Rep X.K H d v->zcx v u->∃ P:Heap->Prop,W.KitX X.K u (.type (tyD d)) P/\P s.heap/\u≠.builtin "__main__.__loader__#opaque"
 |.non,v,u,h,r=>by rw[zhs h] at r;cases r;exact ⟨_,W.kitx_none,True.intro,by simp⟩
 |.bl b,v,u,h,r=>by rw[zdz h] at r;cases r;exact ⟨_,W.kitx_bool,True.intro,by simp⟩
 |.int b,v,u,h,r=>by rw[za5 h] at r;obtain ⟨t,rfl⟩:=r;exact ⟨_,W.kitx_int,True.intro,by simp⟩
 |.str b,v,u,h,r=>by rw[zgd h] at r;obtain ⟨t,rfl⟩:=r;exact ⟨_,W.kitx_str,True.intro,by simp⟩
 |.tup l,v,u,h,r=>by
  obtain ⟨a,vs,rfl,h1,h2⟩:=zcu h
  cases r
  obtain ⟨its,rv,⟨o,e,c,k,dd⟩,_⟩:=I.tuple h1
  exact ⟨_,W.kitx_tuple,⟨o,e,c⟩,by simp⟩
 |.lst l,v,u,h,r=>by
  obtain ⟨a,vs,rfl,h1,h2⟩:=zbm h
  cases r
  obtain ⟨its,rv,⟨o,k,e,c,_,dd⟩,_⟩:=I.list (SqL.of h1)
  exact ⟨_,W.kitx_list,⟨o,e,c⟩,by simp⟩
 |.dct,v,u,h,r=>by
  unfold Rep at h
  obtain ⟨a,rfl,h1⟩:=h
  cases r
  obtain ⟨_,_,vs,_,o,es,ep,e1,e2,_⟩:=(show zct X.prog X.w H s.heap a (.dK []) from I.hok a _ h1)
  exact ⟨_,W.kitx_dict,⟨o,e1,e2.1⟩,by simp⟩
 |.scr l,v,u,h,r=>by
  obtain ⟨a,rfl,h1⟩:=zlx h
  cases r
  obtain ⟨its,rv,⟨o,k,e,c,_,dd⟩,_⟩:=I.list h1
  exact ⟨_,W.kitx_list,⟨o,e,c⟩,by simp⟩
end
def zie(T:String):Prop:=∀(K:W.Frag)(t:String),t∈["NoneType","bool","int","str","tuple","list","dict"]->W.kitOne K (.type t) (.type T)=some (zi1 t T)
theorem zlw(d:Dt):tyD d∈["NoneType","bool","int","str","tuple","list","dict"]:=by cases d <;> simp[tyD]
theorem zr5:zie "int":=fun K t h=>by
 simp only[List.mem_cons,List.not_mem_nil,or_false] at h
 rcases h with rfl|rfl|rfl|rfl|rfl|rfl|rfl <;> rfl
theorem ziQ:zie "bool":=fun K t h=>by
 simp only[List.mem_cons,List.not_mem_nil,or_false] at h
 rcases h with rfl|rfl|rfl|rfl|rfl|rfl|rfl <;> rfl
theorem zcE:zie "tuple":=fun K t h=>by
 simp only[List.mem_cons,List.not_mem_nil,or_false] at h
 rcases h with rfl|rfl|rfl|rfl|rfl|rfl|rfl <;> rfl
theorem zgN:zie "list":=fun K t h=>by
 simp only[List.mem_cons,List.not_mem_nil,or_false] at h
 rcases h with rfl|rfl|rfl|rfl|rfl|rfl|rfl <;> rfl
def zes(T:String)(fa:De):De:=fun ρ=>(fa ρ).bind fun a=>.ok (.bl (zi1 (tyD a.1) T),a.2)
def zr3(T U:String)(fa:De):De:=fun ρ=>(fa ρ).bind fun a=>.ok (.bl (zi1 (tyD a.1) T || zi1 (tyD a.1) U),a.2)
section
variable{X:Cx}{C:Cn}{e:Expr}{fa:De}{p p2 pos:Pos}
theorem zq3{T:String}(ok:zie T):zcz X (.builtin "isinstance") (fun xs H Q=>∃ d v,xs=[v,.ty T]/\Rep X.K H d v/\Q (.bl (zi1 (tyD d) T)) H):=by
 intro pins s σ H xs us Q I r h
 obtain ⟨d,v,rfl,h1,q⟩:=h
 obtain ⟨u,w',rfl,r1,r2⟩:=zkF r
 cases r2
 obtain ⟨P,Z,hp,hx⟩:=zr0 I h1 r1
 exact W.kia_one Z I.kIn hp (ok X.K (tyD d) (zlw d)) hx fun tk=>⟨.bl _,H,I.tok tk,rfl,q⟩
theorem zoh{T U:String}(ok:zie T)(ok2:zie U):zcz X (.builtin "isinstance") (fun xs H Q=>∃ d v a,xs=[v,.ref a]/\Rep X.K H d v/\SqT X.K H a [.ty T,.ty U]/\Q (.bl (zi1 (tyD d) T || zi1 (tyD d) U)) H):=by
 intro pins s σ H xs us Q I r h
 obtain ⟨d,v,a,rfl,h1,ha,q⟩:=h
 obtain ⟨u,w',rfl,r1,r2⟩:=zkF r
 cases r2
 obtain ⟨P,Z,hp,hx⟩:=zr0 I h1 r1
 obtain ⟨its,rv,⟨o,e,c,k,dd⟩,_⟩:=I.tuple ha
 obtain ⟨x1,x2,rfl,q1,q2⟩:=zkF rv
 cases q1
 cases q2
 obtain ⟨oc,od,odt,osl⟩:=o
 simp only at c dd
 subst c dd
 refine W.kia_tup (its:=[Value.type T,Value.type U]) (b:=zi1 (tyD d) T || zi1 (tyD d) U) Z I.kIn hp e ?_ hx fun tk=>⟨.bl _,H,I.tok tk,rfl,q⟩
 unfold W.kitAny
 rw[ok X.K (tyD d) (zlw d)]
 cases zi1 (tyD d) T with
 |true=>rfl
 |false =>
  simp only[W.kitAny,ok2 X.K (tyD d) (zlw d)]
  cases zi1 (tyD d) U <;> rfl
theorem zdf{T:String}{x2:Str}(ok:zie T)(hg:Gl X "isinstance")(hm:X.mg "isinstance"=none)(hv:bootBuiltins "isinstance"=some (.builtin "isinstance"))(hg2:Gl X x2)(hm2:X.mg x2=none)(hv2:bootBuiltins x2=some (.type T))(ha:JE X C e fa)
  (hn:("isinstance" : Str)≠"__name__":=by decide) (hdb:(("isinstance" : Str) == ("__debug__" : Str))=false:=by decide) (hn2:x2≠"__name__":=by decide) (hdb2:(x2 == ("__debug__" : Str))=false:=by decide)
  (hs:starEach [e,.Name x2 p2] X.env=(false,eval e X.env)::starEach [.Name x2 p2] X.env:=by rfl) (hs2:starEach [.Name x2 p2] X.env=(false,eval (.Name x2 p2) X.env)::starEach [] X.env:=by rfl) (hpl:(backTo pos (starEach [.Name x2 p2] X.env)).any (·.1)=false:=by rfl) :
  JE X C (.Call (.Name "isinstance" p) [e,.Name x2 p2] [] pos) (zes T fa) :=
 PE.weak (zdQ (zq3 ok) hg hm hv (zbe ha (zbe (zj4 (v:=.ty T) hg2 hm2 hv2 rfl hn2 hdb2) zcr hs2) hs) hn hdb hs hpl) fun σ H Q ⟨G,w,ρ,r,p⟩=>by
  refine zer (κ:=fun G H w=>kE X.K C σ Q G H w) zch r p fun d ρ1 v G1 H1 w1 r1 s1 q1 p1=>?_
  exact ⟨d,v,rfl,q1.same r1.gh,p1 _ G1 H1 w1 (.refl _ _ _) r1 (zda _)⟩
theorem zr4{T U:String}{x2 x3:Str}{p3 pt:Pos}{kt}(ok:zie T)(ok2:zie U)(hg:Gl X "isinstance")(hm:X.mg "isinstance"=none)(hv:bootBuiltins "isinstance"=some (.builtin "isinstance"))(hg2:Gl X x2)(hm2:X.mg x2=none)(hv2:bootBuiltins x2=some (.type T))(hg3:Gl X x3)(hm3:X.mg x3=none)(hv3:bootBuiltins x3=some (.type U))(ha:JE X C e fa)
  (hn:("isinstance" : Str)≠"__name__":=by decide) (hdb:(("isinstance" : Str) == ("__debug__" : Str))=false:=by decide) (hn2:x2≠"__name__":=by decide) (hdb2:(x2 == ("__debug__" : Str))=false:=by decide) (hn3:x3≠"__name__":=by decide) (hdb3:(x3 == ("__debug__" : Str))=false:=by decide)
  (hs:starEach [e,.Tuple [.Name x2 p2,.Name x3 p3] kt pt] X.env=(false,eval e X.env)::starEach [.Tuple [.Name x2 p2,.Name x3 p3] kt pt] X.env:=by rfl) (hs2:starEach [.Tuple [.Name x2 p2,.Name x3 p3] kt pt] X.env=(false,eval (.Tuple [.Name x2 p2,.Name x3 p3] kt pt) X.env)::starEach [] X.env:=by rfl) (hpl:(backTo pos (starEach [.Tuple [.Name x2 p2,.Name x3 p3] kt pt] X.env)).any (·.1)=false:=by rfl)
  (hs3:starEach [.Name x2 p2,.Name x3 p3] X.env=(false,eval (.Name x2 p2) X.env)::starEach [.Name x3 p3] X.env:=by rfl) (hs4:starEach [.Name x3 p3] X.env=(false,eval (.Name x3 p3) X.env)::starEach [] X.env:=by rfl) :
  JE X C (.Call (.Name "isinstance" p) [e,.Tuple [.Name x2 p2,.Name x3 p3] kt pt] [] pos) (zr3 T U fa) :=
 PE.weak (zdQ (zoh ok ok2) hg hm hv (zbe ha (zbe (zrs (zbe (zj4 (v:=.ty T) hg2 hm2 hv2 rfl hn2 hdb2) (zbe (zj4 (v:=.ty U) hg3 hm3 hv3 rfl hn3 hdb3) zcr hs4) hs3)) zcr hs2) hs) hn hdb hs hpl) fun σ H Q ⟨G,w,ρ,r,p⟩=>by
  refine zer (κ:=fun G H w=>kE X.K C σ Q G H w) zch r p fun d ρ1 v G1 H1 w1 r1 s1 q1 p1=>?_
  refine ⟨by show 2<=sizeLine;decide,fun a ha=>?_⟩
  have gr:zec G1 H1 G1 (upd H1 a (.tup [.ty T,.ty U])):=.newH r1.gh ha
  exact ⟨d,v,a,rfl,(q1.same r1.gh).same gr.h,SqT.of zan,p1 _ G1 _ w1 gr.step (r1.grow gr) (zda _)⟩
def gIx:Dt->Dt->R Dt
 |.lst l,.int i=>match atI l i with
  |some d=>.ok d
  |none=>.no
 |.tup l,.int i=>match atI l i with
  |some d=>.ok d
  |none=>.no
 |.scr l,.int i=>match atI l i with
  |some d=>.ok (.int d)
  |none=>.no
 |_,_=>.no
theorem zsQ{α β:Type}{f:α->β}{l:List α}{i:Int}{d:α}(ed:atI l i=some d):atI (l.map f) i=some (f d):=by
 unfold atI at ed ⊢
 rw[List.length_map]
 cases q:ixN l.length i with
 |none=>rw[q] at ed;cases ed
 |some j =>
  rw[q] at ed
  simp only[Option.bind_some] at ed ⊢
  rw[List.getElem?_map,ed];rfl
theorem zty{K:W.Frag}:Op2 K (fun x y H Q=>rIxL K x y H Q\/rIxT K x y H Q) gIx:=fun G H x y dx dy z Q gh hx hy e k=>by
 unfold gIx at e
 split at e
 ·split at e
  ·rename_i d ed
   cases e
   obtain ⟨a,vs,rfl,h1,h2⟩:=zbm hx
   obtain ⟨v,e1,e2⟩:=ziM h2 ed
   exact .inl ⟨a,vs,_,v,rfl,za5 hy,SqL.of (gh _ _ h1),e1,k v G H (.refl gh) e2⟩
  ·cases e
 ·split at e
  ·rename_i d ed
   cases e
   obtain ⟨a,vs,rfl,h1,h2⟩:=zcu hx
   obtain ⟨v,e1,e2⟩:=ziM h2 ed
   exact .inr ⟨a,vs,_,v,rfl,za5 hy,zbc gh h1,e1,k v G H (.refl gh) e2⟩
  ·cases e
 ·split at e
  ·rename_i d ed
   cases e
   obtain ⟨a,rfl,h1⟩:=zlx hx
   exact .inl ⟨a,_,_,.int d,rfl,za5 hy,gh.seq h1,zsQ ed,k _ G H (.refl gh) (zaF _)⟩
  ·cases e
 ·cases e
theorem zrI:zjI gIx:=fun x y n h=>by unfold gIx at h;split at h <;> first|cases h|(split at h <;> cases h)
theorem zcm{a b:Expr}{fa fb:De}(ha:JE X C a fa)(hb:JE X C b fb)(hs:zl9 b:=by exact fun _ _=>rfl):JE X C (.Subscript a b pos) (dOp gIx fa fb) :=
 PE.weak (zt7 (zov.or ztq) ha hb hs) fun σ H Q h=>ziW zty zrI h
end
theorem Rel.mutate{K:W.Frag}{C:Cn}{σ:L2.St}{G H:Hp}{w:Wn}{ρ:Ev}{i:Nat}{ds ds':List Dt}{a:Addr}{vs':List V}(r:Rel K C G w ρ σ H)(hi:ρ[i]? = some (some (.own ds)))(hv:σ[i]? = some (some (.ref a)))(hw:w a=some i)(h':zaB K G ds' vs') :
  Rel K C G w (ρ.set i (some (.own ds'))) σ (upd H a (.lst vs'))/\zbJ G H w G (upd H a (.lst vs')) w:=by
 have ga:G a=none:=r.wg a (by rw[hw];simp)
 have st:zbJ G H w G (upd H a (.lst vs')) w:=by
  refine ⟨.refl _,fun b o e=>.inl (by rw[e];simp),fun b o e z=>?_,fun _ e=>.inl e,fun b e=>?_⟩
  ·have:b≠a:=fun q=>by subst q;rw[hw] at z;cases z
   rw[zai this];exact e
  ·by_cases hb:b=a
   ·subst hb;rw[zan] at e;cases e
   ·rw[zai hb] at e;exact e
 refine ⟨⟨fun b o e=>?_,r.wg,fun b e=>?_,by simpa using r.len,fun j b e=>?_,r.en.trans st,r.pin⟩,st⟩
 ·rw[zai (zah e ga)];exact r.gh b o e
 ·by_cases hb:b=a
  ·subst hb;rw[zan];simp
  ·rw[zai hb];exact r.wh b e
 ·by_cases hj:j=i
  ·subst hj
   rw[List.getElem?_set_self (List.getElem?_eq_some_iff.mp hi).1] at e
   cases e
   exact ⟨_,hv,a,vs',rfl,hw,zan,h'⟩
  ·rw[List.getElem?_set_ne (Ne.symm hj)] at e
   obtain ⟨v',h1,h2⟩:=r.sl j b e
   refine ⟨v',h1,h2.grow (.refl _) fun b' o e1 e2=>⟨?_,e1⟩⟩
   have:b'≠a:=fun z=>by subst z;rw[hw] at e1;exact hj (Option.some.inj e1).symm
   rw[zai this];exact e2
section
variable{X:Cx}{C:Cn}{e:Expr}{fa:De}{pos ps apos:Pos}{x:Str}
theorem zc8{K:W.Frag}{σ:L2.St}{G H:Hp}{w:Wn}{ρ:Ev}{i:Nat}{ds:List Dt}(r:Rel K C G w ρ σ H)(e:ρ[i]? = some (some (.own ds))):∃ a vs,σ[i]? = some (some (.ref a))/\w a=some i/\H a=some (.lst vs)/\zaB K G ds vs:=by
 obtain ⟨v,h1,a,vs,rfl,h2,h3,h4⟩:=r.sl i _ e
 exact ⟨a,vs,h1,h2,h3,h4⟩
def zd2(i:Nat)(fa:De):De:=fun ρ=>match ρ[i]? with
 |some (some (.own _))=>(fa ρ).bind fun a=>match a.2[i]? with
  |some (some (.own ds))=>if ds.length<16777216 then .ok (.non,a.2.set i (some (.own (ds++[a.1])))) else .no
  |_=>.no
 |_=>.no
theorem zcq:sizeLine=16777216:=by decide
theorem zgq(i:Nat)(ha:JE X C e fa)(hN:X.N[i]? = some x:=by rfl)(hv:Vis X.env.scope x:=by first|exact Or.inl rfl|exact Or.inr (Or.inl rfl)|exact Or.inr (Or.inr rfl))(hd:(x == ("__debug__" : Str))=false:=by decide)(hcd:(x == ("__classdict__" : Str))=false:=by decide)
  (hbase:attributeBase (.Name x ps) "append" X.env (eval (.Name x ps) X.env)=eval (.Name x ps) X.env:=by rfl)
  (hfew:((backTo pos (starEach [e] X.env)).all (fun x=>!x.1) && (backToKw pos (keywordEach [] X.env)).all (fun x=>x.1.isSome) && decide ([e].length+([]:List Keyword).length+(if ([]:List Keyword).isEmpty then 0 else 1)<30))=true:=by rfl)
  (hline:(apos.endLine == pos.line)=true:=by rfl) (hs:starEach [e] X.env=(false,eval e X.env)::starEach [] X.env:=by rfl) (hplain:(backTo pos (starEach [] X.env)).any (·.1)=false:=by rfl) :
  JE X C (.Call (.Attribute (.Name x ps) "append" apos) [e] [] pos) (zd2 i fa) :=
 PE.weak (zpf PySem.F.plainAttrs_list PySem.F.slot_list_append PySem.F.type_list_append zhr (zce hN hv hd hcd) (zbe ha zcr hs) hbase hfew hline hs hplain) fun σ H Q ⟨G,w,ρ,r,p⟩=>by
  unfold zd2 at p
  split at p
  ·rename_i ds0 e0
   obtain ⟨a,vs,h1,h2,h3,h4⟩:=zc8 r e0
   refine ⟨.ref a,h1,.inl ⟨rfl,vs,SqL.of h3⟩,?_⟩
   refine zer (κ:=fun G H w=>kE X.K C σ Q G H w) zch r p fun d ρ1 v G1 H1 w1 r1 s1 q1 p1=>?_
   dsimp only at p1
   split at p1
   ·rename_i ds e1
    obtain ⟨a',vs',k1,k2,k3,k4⟩:=zc8 r1 e1
    rw[h1] at k1;cases k1
    split at p1
    ·rename_i hl
     obtain ⟨r',s'⟩:=r1.mutate e1 h1 k2 (k4.append (zaB.cons q1 zaB.nil))
     exact ⟨a,vs',v,rfl,rfl,k3,by rw[<- k4.length,zcq];exact hl,p1 _ _ _ _ s' r' (by unfold Rep;rfl)⟩
    ·exact p1.elim
   ·exact p1.elim
  ·exact p.elim
def zpN(ds:List Dt)(k:Int):Option (Dt×List Dt):=if zeD k=true then match ixN ds.length k with
  |some j=>match ds[j]? with
   |some d=>some (d,ds.eraseIdx j)
   |none=>none
  |none=>none
 else none
def zi6(i:Nat)(fa:De):De:=fun ρ=>match ρ[i]? with
 |some (some (.own _))=>(fa ρ).bind fun a=>match a.2[i]?,a.1 with
  |some (some (.own ds)),.int k=>match zpN ds k with
   |some z=>.ok (z.1,a.2.set i (some (.own z.2)))
   |none=>.no
  |_,_=>.no
 |_=>.no
theorem zqg(i:Nat)(ha:JE X C e fa)(hN:X.N[i]? = some x:=by rfl)(hv:Vis X.env.scope x:=by first|exact Or.inl rfl|exact Or.inr (Or.inl rfl)|exact Or.inr (Or.inr rfl))(hd:(x == ("__debug__" : Str))=false:=by decide)(hcd:(x == ("__classdict__" : Str))=false:=by decide)
  (hbase:attributeBase (.Name x ps) "pop" X.env (eval (.Name x ps) X.env)=eval (.Name x ps) X.env:=by rfl)
  (hfew:((backTo pos (starEach [e] X.env)).all (fun x=>!x.1) && (backToKw pos (keywordEach [] X.env)).all (fun x=>x.1.isSome) && decide ([e].length+([]:List Keyword).length+(if ([]:List Keyword).isEmpty then 0 else 1)<30))=true:=by rfl)
  (hline:(apos.endLine == pos.line)=true:=by rfl) (hs:starEach [e] X.env=(false,eval e X.env)::starEach [] X.env:=by rfl) (hplain:(backTo pos (starEach [] X.env)).any (·.1)=false:=by rfl) :
  JE X C (.Call (.Attribute (.Name x ps) "pop" apos) [e] [] pos) (zi6 i fa) :=
 PE.weak (zpf PySem.F.plainAttrs_list PySem.F.slot_list_pop PySem.F.type_list_pop zpF (zce hN hv hd hcd) (zbe ha zcr hs) hbase hfew hline hs hplain) fun σ H Q ⟨G,w,ρ,r,p⟩=>by
  unfold zi6 at p
  split at p
  ·rename_i ds0 e0
   obtain ⟨a,vs,h1,h2,h3,h4⟩:=zc8 r e0
   refine ⟨.ref a,h1,.inl ⟨rfl,vs,SqL.of h3⟩,?_⟩
   refine zer (κ:=fun G H w=>kE X.K C σ Q G H w) zch r p fun d ρ1 v G1 H1 w1 r1 s1 q1 p1=>?_
   dsimp only at p1
   split at p1
   ·rename_i ds k e1
    obtain ⟨a',vs',k1,k2,k3,k4⟩:=zc8 r1 e1
    rw[h1] at k1;cases k1
    split at p1
    ·rename_i z ez
     unfold zpN at ez
     split at ez
     ·rename_i hb
      split at ez
      ·rename_i j ej
       split at ez
       ·rename_i d ed
        cases ez
        obtain ⟨j1,j2,j3,j4⟩:=zlh ej
        obtain ⟨y,y1,y2⟩:=k4.get ed
        obtain ⟨r',s'⟩:=r1.mutate e1 h1 k2 (k4.eraseIdx j)
        have hl:=k4.length
        obtain ⟨b1,b2⟩:=zgQ hb
        exact ⟨a,vs',k,j,y,rfl,by rw[za5 q1],k3,by omega,by omega,by rw[<- hl];exact j1,y1,p1 _ _ _ _ s' r' y2⟩
       ·cases ez
      ·cases ez
     ·cases ez
    ·exact p1.elim
   ·exact p1.elim
  ·exact p.elim
end
theorem zrQ{X:Cx}{pins:List (Addr×Obj)}{σ:L2.St}{H:Hp}{s:Shared}{a:Addr}{xs:List V}(I:L2.Inv X pins σ H s)(h:zjU X.K H a xs):∃(its:List Value)(n:Nat),zbp xs its/\s.heap.get? a=some { cls:=.type "tuple",data:=.seq its.toArray n }/\xs.length<=sizeLine:=by
 rcases h with h|⟨its,n,h1,h2,h3⟩
 ·obtain ⟨z,its,r,n,e⟩:=(show zct X.prog X.w H s.heap a (.tup xs) from I.hok a _ h)
  exact ⟨its,n,r,e,z⟩
 ·refine ⟨its.toList,n,h3,by simpa using I.kIn a _ h1,?_⟩
  have:=h3.length
  simp only[Array.length_toList] at this
  omega
def zu4(K:W.Frag):V->List V->Hp->VK->Prop:=fun x vs H Q=>∃ l b xs zs,x=.ref l/\vs=[.ref b]/\H l=some (.lst xs)/\zjU K H b zs/\xs.length+zs.length<=sizeLine/\Q .non (upd H l (.lst (xs++zs)))
section
variable{X:Cx}
theorem zmT:MtM X "list.extend" (zu4 X.K):=by
 intro pins s σ H x vs v us Q I rx rv h
 obtain ⟨l,b,xs,zs,rfl,rfl,hH,hB,hz,q⟩:=h
 cases rx
 obtain ⟨u,rfl,ru⟩:=zbp.one rv
 cases ru
 obtain ⟨z,its,n,r,hl,e⟩:=I.lstM hH
 obtain ⟨its2,n2,r2,e2,z2⟩:=zrQ I hB
 have hl2:=r2.length
 have hsz:its.toArray.size+its2.toArray.size<=sizeLine:=by rw[List.size_toArray,List.size_toArray];omega
 have hlong:¬ (!its.toArray.isEmpty && Builtin.List.listTooLong (its.toArray.size+its2.toArray.size))=true:=by
  rw[zji hsz,Bool.and_false]
  exact Bool.false_ne_true
 refine PySem.call_meets F.slot_list_extend ⟨_,e,rfl⟩ F.entry_list_extend (F.args_list_extend_2 _ _)
  (AutoSeq1.list_extend_list_tuple_0 l its.toArray n b its2.toArray n2 hlong (by rw[List.size_toArray];omega) (by omega)) ⟨e,e2,?_⟩
 refine ⟨.non,_,I.lset (its':=its++its2) hH e (by simp) (r.append r2) ?_,rfl,q⟩
 rw[List.length_append]
 omega
theorem MtM.or{id:String}{r r':V->List V->Hp->VK->Prop}(h:MtM X id r)(h':MtM X id r'):MtM X id (fun x xs H Q=>r x xs H Q\/r' x xs H Q):=by
 intro pins s σ H x xs v us Q I rx rs q
 rcases q with q|q
 ·exact h pins s σ H x xs v us Q I rx rs q
 ·exact h' pins s σ H x xs v us Q I rx rs q
variable{C:Cn}{e:Expr}{fa fb:De}{pos ps apos:Pos}{x:Str}
def zra:Dt->Option (List Dt)
 |.lst l=>some l
 |.tup l=>some l
 |_=>none
def zia(i:Nat)(fa:De):De:=fun ρ=>match ρ[i]? with
 |some (some (.own _))=>(fa ρ).bind fun a=>match a.2[i]?,zra a.1 with
  |some (some (.own ds)),some l=>if ds.length+l.length<=16777216 then .ok (.non,a.2.set i (some (.own (ds++l)))) else .no
  |_,_=>.no
 |_=>.no
theorem zow(i:Nat)(ha:JE X C e fa)(hN:X.N[i]? = some x:=by rfl)(hv:Vis X.env.scope x:=by first|exact Or.inl rfl|exact Or.inr (Or.inl rfl)|exact Or.inr (Or.inr rfl))(hd:(x == ("__debug__" : Str))=false:=by decide)(hcd:(x == ("__classdict__" : Str))=false:=by decide)
  (hbase:attributeBase (.Name x ps) "extend" X.env (eval (.Name x ps) X.env)=eval (.Name x ps) X.env:=by rfl)
  (hfew:((backTo pos (starEach [e] X.env)).all (fun x=>!x.1) && (backToKw pos (keywordEach [] X.env)).all (fun x=>x.1.isSome) && decide ([e].length+([]:List Keyword).length+(if ([]:List Keyword).isEmpty then 0 else 1)<30))=true:=by rfl)
  (hline:(apos.endLine == pos.line)=true:=by rfl) (hs:starEach [e] X.env=(false,eval e X.env)::starEach [] X.env:=by rfl) (hplain:(backTo pos (starEach [] X.env)).any (·.1)=false:=by rfl) :
  JE X C (.Call (.Attribute (.Name x ps) "extend" apos) [e] [] pos) (zia i fa) :=
 PE.weak (zpf PySem.F.plainAttrs_list PySem.F.slot_list_extend PySem.F.type_list_extend (MtM.or znG zmT) (zce hN hv hd hcd) (zbe ha zcr hs) hbase hfew hline hs hplain) fun σ H Q ⟨G,w,ρ,r,p⟩=>by
  unfold zia at p
  split at p
  ·rename_i ds0 e0
   obtain ⟨a,vs,h1,h2,h3,h4⟩:=zc8 r e0
   refine ⟨.ref a,h1,.inl ⟨rfl,vs,SqL.of h3⟩,?_⟩
   refine zer (κ:=fun G H w=>kE X.K C σ Q G H w) zch r p fun d ρ1 v G1 H1 w1 r1 s1 q1 p1=>?_
   dsimp only at p1
   split at p1
   ·rename_i ds l e1 el
    obtain ⟨a',vs',k1,k2,k3,k4⟩:=zc8 r1 e1
    rw[h1] at k1;cases k1
    split at p1
    ·rename_i hl
     cases d with
     |lst l' =>
      cases el
      obtain ⟨b,us,rfl,b1,b2⟩:=zbm q1
      obtain ⟨r',s'⟩:=r1.mutate e1 h1 k2 (k4.append b2)
      exact .inl ⟨a,b,vs',us,rfl,rfl,k3,r1.gh _ _ b1,by rw[<- k4.length,<- b2.length,zcq];exact hl,p1 _ _ _ _ s' r' (by unfold Rep;rfl)⟩
     |tup l' =>
      cases el
      obtain ⟨b,us,rfl,b1,b2⟩:=zfO q1
      obtain ⟨r',s'⟩:=r1.mutate e1 h1 k2 (k4.append b2)
      exact .inr ⟨a,b,vs',us,rfl,rfl,k3,b1.same r1.gh,by rw[<- k4.length,<- b2.length,zcq];exact hl,p1 _ _ _ _ s' r' (by unfold Rep;rfl)⟩
     |_=>cases el
    ·exact p1.elim
   ·exact p1.elim
  ·exact p.elim
def zn3(i:Nat):De:=fun ρ=>match ρ[i]? with
 |some (some (.own ds))=>.ok (.int ds.length,ρ)
 |_=>.no
theorem zs2(i:Nat){p:Pos}(hg:Gl X "len")(hm:X.mg "len"=none)(hN:X.N[i]? = some x:=by rfl)(hv:Vis X.env.scope x:=by first|exact Or.inl rfl|exact Or.inr (Or.inl rfl)|exact Or.inr (Or.inr rfl))(hd:(x == ("__debug__" : Str))=false:=by decide)(hcd:(x == ("__classdict__" : Str))=false:=by decide)
  (hs:starEach [.Name x ps] X.env=(false,eval (.Name x ps) X.env)::starEach [] X.env:=by rfl) (hpl:(backTo pos (starEach [] X.env)).any (·.1)=false:=by rfl):JE X C (.Call (.Name "len" p) [.Name x ps] [] pos) (zn3 i) :=
 PE.weak (zdQ zgC hg hm PySem.boot_len (zbe (zce hN hv hd hcd) zcr hs) (by decide) (by decide) hs hpl) fun σ H Q ⟨G,w,ρ,r,p⟩=>by
  unfold zn3 at p
  split at p
  ·rename_i ds e0
   obtain ⟨a,vs,h1,h2,h3,h4⟩:=zc8 r e0
   exact ⟨.ref a,h1,a,vs,rfl,.inl (SqL.of h3),by rw[<- h4.length];exact p _ G H w (.refl _ _ _) r (zaF _)⟩
  ·exact p.elim
def ztg(neg:Bool)(i:Nat)(fb:De):De:=fun ρ=>match ρ[i]? with
 |some (some (.own _))=>(fb ρ).bind fun b=>match b.2[i]? with
  |some (some (.own ds))=>(gEq neg (.lst ds) b.1).bind fun z=>.ok (z,b.2)
  |_=>.no
 |_=>.no
theorem zq8{neg:Bool}{i:Nat}{σ:L2.St}{H:Hp}{Q:VK}(h:tE X.K C (ztg neg i fb) σ H Q):tOp (zuN X.K neg) (tVar i) (tE X.K C fb) σ H Q:=by
 obtain ⟨G,w,ρ,r,p⟩:=h
 unfold ztg at p
 split at p
 ·rename_i ds0 e0
  obtain ⟨a,vs,h1,h2,h3,h4⟩:=zc8 r e0
  refine ⟨.ref a,h1,?_⟩
  refine zer (κ:=fun G H w=>kE X.K C σ Q G H w) zch r p fun d ρ1 v G1 H1 w1 r1 s1 q1 p1=>?_
  dsimp only at p1
  split at p1
  ·rename_i ds e1
   obtain ⟨a',vs',k1,k2,k3,k4⟩:=zc8 r1 e1
   rw[h1] at k1;cases k1
   unfold gEq at p1
   split at p1
   ·rename_i hk
    rw[Bool.and_eq_true] at hk
    exact ⟨.lst ds,d,by unfold Rep;exact ⟨a,vs',rfl,k3,k4.same r1.gh⟩,q1.same r1.gh,hk.1,hk.2,p1 _ G1 H1 w1 (.refl _ _ _) r1 (zda _)⟩
   ·exact p1.elim
  ·exact p1.elim
 ·exact p.elim
variable{b:Expr}
theorem zu9(i:Nat)(hu:X.A.units+64<cLine)(hb:JE X C b fb)(hN:X.N[i]? = some x:=by rfl)(hv:Vis X.env.scope x:=by first|exact Or.inl rfl|exact Or.inr (Or.inl rfl)|exact Or.inr (Or.inr rfl))(hd:(x == ("__debug__" : Str))=false:=by decide)(hcd:(x == ("__classdict__" : Str))=false:=by decide) :
  JT X C (.Compare (.Name x ps) [.NotEq] [b] pos) (dTB (ztg true i fb)):=PT.weak (zoX (zr2 hu) (zce hN hv hd hcd) hb (zfG _)) fun σ H Q h=>zq8 (zkP h)
def zgW(i:Nat)(fv fk:De):DS:=fun ρ=>(fv ρ).bind fun v=>match v.2[i]? with
 |some (some (.own _))=>(fk v.2).bind fun k=>match k.2[i]?,k.1 with
  |some (some (.own ds)),.int n=>match ixN ds.length n with
   |some j=>.ok (.nx,k.2.set i (some (.own (ds.set j v.1))))
   |none=>.no
  |_,_=>.no
 |_=>.no
theorem zjo(i:Nat){k:Expr}{fk:De}{tp:Pos}(hv:JE X C e fa)(hk:JE X C k fk)(hN:X.N[i]? = some x:=by rfl)(hvi:Vis X.env.scope x:=by first|exact Or.inl rfl|exact Or.inr (Or.inl rfl)|exact Or.inr (Or.inr rfl))(hd:(x == ("__debug__" : Str))=false:=by decide)(hcd:(x == ("__classdict__" : Str))=false:=by decide)
  (ha:∀ v,assign (.Subscript (.Name x ps) k tp) X.env v=(do
   let ov <- holding [v] (eval (.Name x ps) X.env)
   let iv <- holding [v,ov] (eval k X.env)
   standAt tp
   holding [v,ov,iv] (setItem ov iv v)
   release [v,ov,iv] []):=by intro _;rfl)
  (hs:swapsWithSole [.Subscript (.Name x ps) k tp] e pos.line X.env=pure false:=by rfl) (hw:swappedStores [.Subscript (.Name x ps) k tp] e X.env=pure none:=by rfl)
  (h1:(assignEach [.Subscript (.Name x ps) k tp] X.env).map (·.2)=[assign (.Subscript (.Name x ps) k tp) X.env]:=by rfl):JS X C (.Assign [.Subscript (.Name x ps) k tp] e pos) (zgW i fa fk) :=
 PS.weak (zqW hv (zua (zce hN hvi hd hcd) hk zq9 ha) hs hw h1) fun D σ H ⟨G,w,ρ,r,p⟩=>by
  refine zer (κ:=fun G H w=>kS X.K C D G H w) zdS r p fun d ρ1 v G1 H1 w1 r1 s1 q1 p1=>?_
  dsimp only at p1
  split at p1
  ·rename_i ds0 e0
   obtain ⟨a,vs,k1,k2,k3,k4⟩:=zc8 r1 e0
   refine ⟨.ref a,k1,?_⟩
   refine zer (κ:=fun G H w=>kS X.K C D G H w) zdS r1 p1 fun d2 ρ2 v2 G2 H2 w2 r2 s2 q2 p2=>?_
   dsimp only at p2
   split at p2
   ·rename_i ds n e2
    obtain ⟨a',vs',m1,m2,m3,m4⟩:=zc8 r2 e2
    rw[k1] at m1;cases m1
    split at p2
    ·rename_i j ej
     obtain ⟨r',s'⟩:=r2.mutate e2 k1 m2 (zaB.set (q1.same s2.g) j m4)
     exact ⟨a,vs',n,j,rfl,za5 q2,m3,by rw[<- m4.length];exact ej,p2 _ _ _ _ s' r'⟩
    ·exact False.elim p2
   ·exact False.elim p2
  ·exact False.elim p1
end
theorem zeS{env:Env}:∀(names:List (Str×NameKind))(cs:List (Str×Addr)),(∀ y∈names,y.2=.free->∃ c,env.cells.lookup y.1=some c)->(∀ x c,cs.lookup x=some c->env.cells.lookup x=some c) ->
  ∃ cl,(forIn names cs fun (y:Str×NameKind) (r:List (Str×Addr))=>(if (y.2 == NameKind.free)=true then do let a <- cellOf env y.1;pure (ForInStep.yield ((y.1,a)::r)) else pure (ForInStep.yield r):Sem (ForInStep (List (Str×Addr)))))=pure cl /\
   (∀ x c,cl.lookup x=some c->env.cells.lookup x=some c)/\(∀ x c,cs.lookup x=some c->∃ c',cl.lookup x=some c')/\∀ y∈names,y.2=.free->∃ c,cl.lookup y.1=some c
 |[],cs,_,h2=>⟨cs,rfl,h2,fun x c e=>⟨c,e⟩,fun y hy=>by cases hy⟩
 | (n,k)::r,cs,h1,h2=>by
  rw[List.forIn_cons]
  by_cases hk:k=.free
  ·subst hk
   obtain ⟨c,hc⟩:=h1 (n,.free) List.mem_cons_self rfl
   obtain ⟨cl,e1,e2,e3,e4⟩:=zeS r ((n,c)::cs) (fun y hy=>h1 y (List.mem_cons_of_mem _ hy)) (fun x c' e=>by
    rw[List.lookup_cons] at e
    cases hx:x == n with
    |true=>rw[hx] at e;simp only[Option.some.injEq] at e;subst e;rw[beq_iff_eq.mp hx];exact hc
    |false=>rw[hx] at e;exact h2 x c' e)
   refine ⟨cl,?_,e2,fun x c' e=>?_,fun y hy hf=>?_⟩
   ·simp only[beq_self_eq_true,if_true]
    have:cellOf env n=pure c:=by unfold cellOf;rw[hc]
    rw[this]
    exact e1
   ·refine (e3 x (if x == n then c else c') ?_)
    rw[List.lookup_cons]
    cases hx:x == n with
    |true=>rfl
    |false=>exact e
   ·rcases List.mem_cons.mp hy with rfl|hy
    ·exact e3 n c (by simp[List.lookup_cons])
    ·exact e4 y hy hf
  ·obtain ⟨cl,e1,e2,e3,e4⟩:=zeS r cs (fun y hy=>h1 y (List.mem_cons_of_mem _ hy)) h2
   refine ⟨cl,?_,e2,e3,fun y hy hf=>?_⟩
   ·have:(k == NameKind.free)=false:=by simpa using hk
    simp only[this,Bool.false_eq_true,if_false]
    exact e1
   ·rcases List.mem_cons.mp hy with rfl|hy
    ·exact absurd hf hk
    ·exact e4 y hy hf
theorem zcv{scope:Scope}{env:Env}(h:∀ y∈scope.names,y.2=.free->∃ c,env.cells.lookup y.1=some c):∃ cl,closureFor scope env=pure cl/\(∀ x c,cl.lookup x=some c->env.cells.lookup x=some c)/\∀ y∈scope.names,y.2=.free->∃ c,cl.lookup y.1=some c:=by
 obtain ⟨cl,e1,e2,_,e4⟩:=zeS (env:=env) scope.names [] h (fun x c e=>by simp at e)
 refine ⟨cl,?_,e2,e4⟩
 unfold closureFor
 exact (congrArg (fun z:Sem (List (Str×Addr))=>z >>= fun cs=>pure cs) e1).trans rfl
section
variable{prog:Program}{w:World}{A:Around}{R:Result->Shared->Prop}{s:Shared}
theorem zkz{elt target iter:Expr}{ifs:List Expr}{scope:Scope}{pos:Pos}{it acc:Value}{env:Env}(I:Nat->Shared->Prop)
  (turn:∀ n s,I n s->wpAny (model prog w) A (pyNext it) (fun r s₁=>match r with
   |none=>R (.ok .next) s₁
   |some v=>wpAny (model prog w) A (letOwnedTupleGo target it v) (fun _ s₁'=>wpAny (model prog w) A (assign target env v) (fun _ s₂ =>
     wpAny (model prog w) A (forIn ifs true fun c r=>if r=true then do let ok <- isTrue c env (eval c env);pure (ForInStep.yield ok) else pure (ForInStep.yield r)) (fun ok s₃ =>
      if ok=true then wpAny (model prog w) A (eval elt env) (fun x s₄ =>
       wpAny (model prog w) A (call (.builtin "list.append") [acc,x]) (fun _ s₅=>∃ m,m<n/\I m s₅) (fun _ _=>False) s₄) (fun _ _=>False) s₃
      else ∃ m,m<n/\I m s₃) (fun _ _=>False) s₂) (fun _ _=>False) s₁') (fun _ _=>False) s₁) (fun _ _=>False) s)
  (n:Nat) (h:I n s) :
  codeAny (model prog w) A (.compLoop (.ListComp elt [⟨target,iter,ifs,0⟩] scope pos) 0 it acc env) R s:=by
 refine codeAny_loop rfl I (fun n s hI=>?_) n h
 show wpAny _ A ((compTurn (.ListComp elt [⟨target,iter,ifs,0⟩] scope pos) 0 it acc env).onRaise (fun x=>do noteFrame x env;theTreesLotGoes x)) _ _ s
 refine wpAny_noted ?_
 rw[compTurn_list]
 refine wpAny_bind (wpAny_standAt (wpAny_bind (wpAny_mono (turn n s hI) (fun r s₁ h₁=>?_) fun _ _ h'=>h'.elim)))
 cases r with
 |none=>exact wpAny_pure h₁
 |some v =>
  refine wpAny_bind (wpAny_mono h₁ (fun _ s₁' h₁'=>?_) fun _ _ h'=>h'.elim)
  refine wpAny_bind (wpAny_mono h₁' (fun _ s₂ h₂=>wpAny_bind (wpAny_mono h₂ (fun ok s₃ h₃=>?_) fun _ _ h'=>h'.elim)) fun _ _ h'=>h'.elim)
  cases ok with
  |false=>exact wpAny_pure ⟨rfl,h₃⟩
  |true =>
   exact wpAny_bind (wpAny_bind (wpAny_mono h₃ (fun x s₄ h₄=>wpAny_bind (wpAny_mono h₄ (fun _ s₅ h₅=>wpAny_pure (wpAny_pure ⟨rfl,h₅⟩)) fun _ _ h'=>h'.elim)) fun _ _ h'=>h'.elim))
end
def zd1(X:Cx)(N':List Str)(scope:Scope)(cl:List (Str×Addr))(L:Addr)(s:Shared)(H:Hp)(fp:List Addr):Cx where
 prog:=X.prog
 w:=X.w
 K:=X.K
 mg:=X.mg
 base:=X.base
 A:=X.A
 N:=N'
 s₀:=s
 H₀:=H
 env:=compEnvC scope cl L X.env
 outer:=X.stack
 stack:=X.stack
 ex:=fp
 fn:=fun _=>false
 calm:=X.calm
 pn:=[]
 xe:=fun _ _=>False
def znz(C:Cn)(n:Nat)(G H:Hp)(w:Wn)(σ:L2.St):Cn:=⟨G,H,w,List.range n,σ,fun _=>False,C.xv,false⟩
def zfJ(N N':List Str)(names:List (Str×NameKind))(m:Nat):Bool:=decide (N'.length=N.length+m) && (List.range N.length).all fun i=>match N'[i]? with
 |some x=>match names.lookup x with
  |some .free=>N[i]? == some x
  |some .local=>false
  |some .cell=>false
  |_=>true
 |none=>false
theorem zc6{env:Env}{x:Str}:∀{names:List (Str×NameKind)},(names.map fun (n,k)=>if (k == NameKind.free && env.scope.kind == .function && env.kindOf n == some .cell) then (n,NameKind.cell) else (n,k)).lookup x=(names.lookup x).map fun k=>if (k == NameKind.free && env.scope.kind == .function && env.kindOf x == some .cell)=true then .cell else k
 |[]=>rfl
 | (n,k)::r=>by
  have ih:=zc6 (env:=env) (x:=x) (names:=r)
  show List.lookup x ((if (k == NameKind.free && env.scope.kind == .function && env.kindOf n == some .cell)=true then (n,NameKind.cell) else (n,k))::_)=_
  cases hx:x == n with
  |true =>
   have e:=beq_iff_eq.mp hx
   subst e
   simp only[List.lookup_cons,beq_self_eq_true,Option.map_some]
   split <;> simp[List.lookup_cons]
  |false =>
   simp only[List.lookup_cons,hx]
   split
   ·simp only[List.lookup_cons,hx];exact ih
   ·simp only[List.lookup_cons,hx];exact ih
theorem zby{α β:Type} [BEq α] [LawfulBEq α] {x:α} {b:β}:∀{l:List (α×β)},l.lookup x=some b->(x,b)∈l
 |[],h=>by simp at h
 | (n,k)::r,h=>by
  rw[List.lookup_cons] at h
  cases hx:x == n with
  |true=>rw[hx] at h;simp at h;subst h;rw[beq_iff_eq.mp hx];exact List.mem_cons_self
  |false=>rw[hx] at h;exact List.mem_cons_of_mem _ (zby h)
theorem zh8{scope:Scope}{env:Env}{x:Str}(h:Vis (relabel scope env) x):scope.names.lookup x=some .local\/scope.names.lookup x=some .cell\/scope.names.lookup x=some .free:=by
 have e:(relabel scope env).names.lookup x=_:=zc6 (env:=env) (x:=x) (names:=scope.names)
 unfold Vis at h
 rw[e] at h
 cases q:scope.names.lookup x with
 |none=>rw[q] at h;simp at h
 |some k =>
  rw[q] at h
  cases k <;> simp_all
section
variable{X:Cx}{C:Cn}
theorem zoP{pins:List (Addr×Obj)}{σ:L2.St}{H:Hp}{s:Shared}{N':List Str}{scope:Scope}{cl:List (Str×Addr)}{m:Nat}{fp:List Addr}{h₁:Heap}{tk:Nat}{mm:Str->Option Value}(I:L2.Inv X pins σ H s)(hf:∀ b∈fp,zfm X pins H b)(ho:∀ b∈fp,∃ o,s.heap.get? b=some o)
  (hb:zfJ X.N N' scope.names m=true) (hkind:scope.kind=.function) (hcell:∀ y∈scope.names,y.2≠.cell) (hfr:∀ y∈scope.names,y.2=.free->X.env.kindOf y.1=some .cell\/X.env.kindOf y.1=some .free)
  (hcl:∀ x c,cl.lookup x=some c->X.env.cells.lookup x=some c) (hcf:∀ y∈scope.names,y.2=.free->∃ c,cl.lookup y.1=some c)
  (hns:h₁.Ns s.heap.objs.size mm) (hk:∀ b o,s.heap.get? b=some o->h₁.get? b=some o) :
  L2.Inv (zd1 X N' scope cl s.heap.objs.size s H fp) [] (σ++List.replicate m none) H { s with heap:=h₁,toks:=tk }:=by
 have hb1:N'.length=X.N.length+m:=by
  unfold zfJ at hb;rw[Bool.and_eq_true] at hb;exact of_decide_eq_true hb.1
 have hb2:∀ i x,i<X.N.length->N'[i]? = some x->Vis (relabel scope X.env) x->X.N[i]? = some x/\scope.names.lookup x=some .free:=fun i x hi e v=>by
  unfold zfJ at hb;rw[Bool.and_eq_true,List.all_eq_true] at hb
  have q:=hb.2 i (List.mem_range.mpr hi)
  simp only[e] at q
  rcases zh8 v with z|z|z
  ·simp[z] at q
  ·simp[z] at q
  ·simp[z] at q;exact ⟨q,z⟩
 have cellK:∀ c v,s.heap.IsCell c v->h₁.IsCell c v:=fun c v ⟨o,e1,e2⟩=>⟨o,hk c o e1,e2⟩
 refine ⟨⟨I.ok.mod,hkind,I.ok.glob,I.ok.blt,Nat.le_refl _,fun x y c h1 h2=>I.ok.inj x y c (hcl x c h1) (hcl y c h2),fun x hx=>?_,fun x c h _=>absurd h (by simp[zd1]),I.ok.hd,I.ok.frames,.inl rfl,fun b hb=>⟨?_,fun x c e=>(hf b hb).2.2.2.2.1 x c (hcl x c e)⟩,I.bs,Nat.le_trans I.ok.bsz I.sz,fun b o e hb=>?_,fun b hb z=>?_,I.stack,I.stkFree⟩,
  rfl,I.bare,Un.kept hk,⟨mm,hns,fun i x v e1 e2 e3=>?_⟩,fun x c e=>?_,I.hok.fresh (Nat.le_refl _),fun x c e=>I.freeC x c (hcl x c e),fun p hp=>absurd hp (by simp[zd1]),I.hok.kept hk,?_⟩
 ·
  have e:(relabel scope X.env).names.lookup x=_:=zc6 (env:=X.env) (x:=x) (names:=scope.names)
  have hx':Vis (relabel scope X.env) x:=hx.elim (fun z=>.inr (.inl z)) fun z=>.inr (.inr z)
  rcases zh8 hx' with z|z|z
  ·rw[z] at e
   have hx2:(relabel scope X.env).names.lookup x=some .cell\/(relabel scope X.env).names.lookup x=some .free:=hx
   rw[e] at hx2;simp at hx2
  ·exact absurd rfl (hcell _ (zby z))
  ·exact hcf _ (zby z) rfl
 ·intro z
  obtain ⟨o,e⟩:=ho b hb
  exact absurd (Heap.lt_size e) (by rw[z];exact Nat.lt_irrefl _)
 ·rcases (hf b hb).2.2.2.1 with z|z
  ·exact I.ok.noex b o e z
  ·exact absurd (Nat.lt_of_lt_of_le (Heap.lt_size e) (Nat.le_trans I.ok.bsz z)) (Nat.lt_irrefl _)
 ·rcases List.mem_cons.mp (I.stkSub b z) with z|z
  ·exact (hf b hb).2.1 z
  ·exact (hf b hb).2.2.1 z
 ·have hi:i<X.N.length:=by
   by_cases hi:i<X.N.length
   ·exact hi
   ·rw[List.getElem?_append_right (by rw[I.len];omega),List.getElem?_replicate] at e2
    split at e2 <;> cases e2
  rw[List.getElem?_append_left (by rw[I.len];exact hi)] at e2
  obtain ⟨q1,q2⟩:=hb2 i x hi e1 e3
  have hm:=zby q2
  obtain ⟨m0,hn0,hl0⟩:=I.loc
  have kc:=hfr _ hm rfl
  obtain ⟨u,ru,lk⟩:=hl0 i x v q1 e2 (kc.elim (fun z=>.inr (.inl z)) fun z=>.inr (.inr z))
  refine ⟨u,ru,.inr ⟨?_,?_⟩⟩
  ·have e:(relabel scope X.env).names.lookup x=_:=zc6 (env:=X.env) (x:=x) (names:=scope.names)
   show (relabel scope X.env).names.lookup x=some .cell\/(relabel scope X.env).names.lookup x=some .free
   rw[e,q2]
   simp only[Option.map_some]
   split
   ·exact .inl rfl
   ·exact .inr rfl
  ·obtain ⟨c,hc⟩:=hcf _ hm rfl
   refine ⟨c,hc,?_⟩
   rcases lk with ⟨z,_⟩|⟨_,c',e',ic⟩
   ·rcases kc with y|y <;> (rw[y] at z;cases z)
   ·rw[hcl _ _ hc] at e';cases e'
    exact cellK _ _ ic
 ·obtain ⟨v,ic⟩:=I.cell x c (hcl x c e)
  exact ⟨v,cellK _ _ ic⟩
 ·show _=N'.length
  rw[List.length_append,List.length_replicate,I.len,hb1]
theorem zod{pins:List (Addr×Obj)}{σ σ':L2.St}{H H':Hp}{s s':Shared}{N':List Str}{scope:Scope}{cl:List (Str×Addr)}{fp:List Addr}{L:Addr}{h':Heap}{ps:List (Addr×Obj)}(I:L2.Inv X pins σ H s)(hf:∀ b∈fp,zfm X pins H b)(hL:s.heap.objs.size<=L)
  (J:L2.Inv (zd1 X N' scope cl L s H fp) ps σ' H' s') (hs:Heap.SameBut L s'.heap h'):L2.Inv X pins σ H' { s' with heap:=h' }:=by
 have hne:∀ b o,s.heap.get? b=some o->b≠L:=fun b o e z=>by subst z;exact absurd (Nat.lt_of_lt_of_le (Heap.lt_size e) hL) (Nat.lt_irrefl _)
 have hfree:H' L=none:=J.free
 have un:Un (frs X.stack) fp H H' s.heap s'.heap:=J.base
 refine I.call' (s':={ s' with heap:=h' }) (ch:=fp) J.os ⟨fun b o e n h1 h2=>?_,fun b o e n h1 h2=>?_,un.free,fun b o e h2=>?_,un.tups,un.frzs,un.tbls⟩ (fun b o e=>?_) J.bare fun b hb=>⟨(hf b hb).2.2.2.1,(hf b hb).2.1,(hf b hb).2.2.2.2.1,(hf b hb).2.2.2.2.2⟩
 ·exact (hs.2 b (hne b o e)).trans (un.keep b o e n h1 h2)
 ·obtain ⟨sl,q⟩:=un.slot b o e n h1 h2
  exact ⟨sl,(hs.2 b (hne b o e)).trans q⟩
 ·obtain ⟨o',q⟩:=un.there b o e h2
  exact ⟨o',(hs.2 b (hne b o e)).trans q⟩
 ·refine (J.hok b o e).stay (fun c v hc q=>(hs.2 c ?_).trans q) (fun _ q=>q) fun _ _ q=>q
  intro z
  subst z
  rcases hc with z|z
  ·subst z;rw[hfree] at e;cases e
  ·rw[hfree] at z;cases z
end
def zb3(g:DG)(ft:DT)(fe:De):List Dt->Ev->R (List Dt×Ev)
 |[],ρ=>.ok ([],ρ)
 |d::r,ρ=>(g d ρ).bind fun ρ1=>(ft ρ1).bind fun t=>if t.1=true then (fe t.2).bind fun y=>(zb3 g ft fe r y.2).bind fun z=>.ok (y.1::z.1,z.2) else zb3 g ft fe r t.2
def za3(fi:DA)(g:DG)(ft:DT)(fe:De)(m:Nat):DN:=fun ρ=>(fi ρ).bind fun a=>if zem a.1=true then match zb3 g ft fe a.1 (a.2++List.replicate m none) with
  |.ok z=>.ok (z.1,z.2.take a.2.length)
  |_=>.no
 else .no
theorem zgM{α β:Type}{r:R α}{f:α->R β}{b:β}(h:r.bind f=.ok b):∃ a,r=.ok a/\f a=.ok b:=by
 cases r with
 |ok a=>exact ⟨a,rfl,h⟩
 |er n=>cases h
 |no=>cases h
def JTs(X:Cx)(C:Cn)(ifs:List Expr)(ft:DT):Prop :=
 ∀(pins:List (Addr×Obj))(s:Shared)(σ:L2.St)(H:Hp)(Q:Bool->Hp->Prop),L2.Inv X pins σ H s->tT X.K C ft σ H Q ->
  wpAny (model X.prog X.w) X.A (forIn ifs true fun c r=>if r=true then do let ok <- isTrue c X.env (eval c X.env);pure (ForInStep.yield ok) else pure (ForInStep.yield r)) (TP X pins σ Q) X.xe s
def dTT:DT:=fun ρ=>.ok (true,ρ)
abbrev Hce(scope:Scope):Prop:=∀ y∈scope.names,y.2≠.cell
abbrev Hfr(X:Cx)(scope:Scope):Prop:=∀ y∈scope.names,y.2=.free->X.env.kindOf y.1=some .cell\/X.env.kindOf y.1=some .free
abbrev Hnm(scope:Scope):Prop:=∀ y∈scope.names,y.2=.local->scope.names.lookup y.1=some .local
abbrev Hbk(X:Cx)(C:Cn)(N':List Str)(scope:Scope)(tg:Expr)(ifs:List Expr)(elt:Expr)(g:DG)(ft:DT)(fe:De):Prop:=∀ cl L s H fp G H' w σ,JG (zd1 X N' scope cl L s H fp) (znz C X.N.length G H' w σ) tg g/\JTs (zd1 X N' scope cl L s H fp) (znz C X.N.length G H' w σ) ifs ft/\JE (zd1 X N' scope cl L s H fp) (znz C X.N.length G H' w σ) elt fe
abbrev nL(s2:Shared):Heap:=s2.heap.push { cls:=.type "list",dict:=none,data:=.seq ([]:List Value).toArray }
def PTs(X:Cx)(ifs:List Expr)(t:TT):Prop :=
 ∀(pins:List (Addr×Obj))(s:Shared)(σ:L2.St)(H:Hp)(Q:Bool->Hp->Prop),L2.Inv X pins σ H s->t σ H Q ->
  wpAny (model X.prog X.w) X.A (forIn ifs true fun c r=>if r=true then do let ok <- isTrue c X.env (eval c X.env);pure (ForInStep.yield ok) else pure (ForInStep.yield r)) (TP X pins σ Q) X.xe s
section
variable{X:Cx}{C:Cn}
theorem zbK:JTs X C [] dTT:=fun pins s σ H Q I ⟨G,w,ρ,r,p⟩=>wpAny_tests_nil ⟨H,I,p G H w (.refl _ _ _) r⟩
theorem zhK{c:Expr}{ft:DT}(h:JT X C c ft):JTs X C [c] ft:=fun pins s σ H Q I t=>wpAny_tests_one (h pins s σ H Q I t)
theorem Rel.upd_new{K:W.Frag}{σ:L2.St}{G H:Hp}{w:Wn}{ρ:Ev}{p:Addr}{o:HO}(r:Rel K C G w ρ σ H)(hg:G p=none)(hw:w p=none)(h0:C.H₀ p=none):Rel K C G w ρ σ (upd H p o):=by
 refine ⟨fun b u e=>?_,r.wg,fun b e=>?_,r.len,fun i b e=>?_,⟨r.en.g,r.en.fr,fun b u e z=>?_,r.en.w,fun b e=>?_⟩,r.pin⟩
 ·rw[zai (zah e hg)];exact r.gh b u e
 ·by_cases hb:b=p
  ·subst hb;rw[zan];simp
  ·rw[zai hb];exact r.wh b e
 ·obtain ⟨v,h1,h2⟩:=r.sl i b e
  refine ⟨v,h1,h2.grow (.refl _) fun a u e1 e2=>⟨?_,e1⟩⟩
  have:a≠p:=fun z=>by subst z;rw[hw] at e1;cases e1
  rw[zai this];exact e2
 ·rw[zai (zah e h0)];exact r.en.h b u e z
 ·by_cases hb:b=p
  ·subst hb;exact h0
  ·rw[zai hb] at e;exact r.en.k b e
theorem zbJ.keep{G H G' H':Hp}{w w':Wn}{p:Addr}{o:HO}(s:zbJ G H w G' H' w')(hg:G p=none)(hw:w p=none)(hp:H p=some o):G' p=none/\w' p=none/\H' p=some o:=by
 refine ⟨?_,?_,s.h p o hp hw⟩
 ·cases q:G' p with
  |none=>rfl
  |some u =>
   rcases s.fr p u q with z|z|z
   ·exact absurd hg z
   ·rw[hp] at z;cases z
   ·exact absurd hw z
 ·cases q:w' p with
  |none=>rfl
  |some k =>
   rcases s.w p (by rw[q];simp) with z|z
   ·exact absurd hw z
   ·rw[hp] at z;cases z
structure zph(X:Cx)(pins:List (Addr×Obj))(H:Hp)(L:Addr)(s:Shared):Prop where
 fr:H L=none
 nl:L≠X.env.locals
 nw:L∈X.ex\/X.s₀.heap.objs.size<=L
 nc:∀ x c,X.env.cells.lookup x=some c->c≠L
 np:∀ p∈X.pn++pins,p.1≠L
 ns:∃ m,s.heap.Ns L m
theorem zmh{tg iter elt:Expr}{ifs:List Expr}{scope:Scope}{pos:Pos}{N':List Str}{m n:Nat}{tgt:TG}{tts:TT}{te:TE}(hc:X.calm=true)(hb:zfJ X.N N' scope.names m=true)
  (hkind:scope.kind=.function) (hcell:Hce scope) (hfr:Hfr X scope)
  {pins:List (Addr×Obj)} {σ:L2.St} {s2:Shared} {cl:List (Str×Addr)} {RR:Value->Addr->Result->Shared->Prop} {E:Value->Shared->Prop}
  (hblk:∀ L s H fp,L2.Inv X pins σ H s->(∀ b∈fp,zfm X pins H b)->s.heap.objs.size<=L->PG (zd1 X N' scope cl L s H fp) tg tgt/\PTs (zd1 X N' scope cl L s H fp) ifs tts/\PE (zd1 X N' scope cl L s H fp) elt te)
  (hcl:∀ x c,cl.lookup x=some c->X.env.cells.lookup x=some c) (hcf:∀ y∈scope.names,y.2=.free->∃ c,cl.lookup y.1=some c)
  {it:Addr} {fp:List Addr} {tn:Nat->Heap->Prop} {J:It} {H2:Hp} (I2:L2.Inv X pins σ H2 s2) (T:zp5 X.prog X.w X.K tg J fp it tn) (st2:tn 0 s2.heap) (f2:∀ b∈fp,zfm X pins H2 b)
  (W:Addr->Nat->L2.St->Hp->List V->Prop) (w0:∀ D,H2 D=none->W D 0 (σ++List.replicate m none) (upd H2 D (.lst [])) [])
  (hstep:∀ D i σ' H' vs,H2 D=none->W D i σ' H' vs->H' D=some (.lst vs)->i<n->J.go i H'/\∀ x H7,J.yld i H' x H7->tgt x σ' H7 fun σ8 H8=>tts σ8 H8 fun b H9=>if b=true then te σ8 H9 fun v H10=>H10 D=some (.lst vs)/\vs.length<sizeLine/\W D (i+1) σ8 (upd H10 D (.lst (vs++[v]))) (vs++[v]) else H9 D=some (.lst vs)/\W D (i+1) σ8 H9 vs)
  (hstop:∀ D σ' H' vs,W D n σ' H' vs->J.stop n H')
  (fin:∀(D L:Addr)(s':Shared)(vs:List V)(σ':L2.St)(H':Hp),L2.Inv X pins σ H' s'->zph X pins H' L s'->H2 D=none->H' D=some (.lst vs)->σ'.length=X.N.length+m->W D n σ' H' vs->RR (.ref D) L (.ok .next) s') :
  wpAny (model X.prog X.w) X.A (newList []) (fun acc s₃=>wpAny (model X.prog X.w) X.A (newFunctionEnv scope X.env.globals cl [] X.env.qual none .none (some X.env)) (fun cenv s₄ =>
   codeAny (model X.prog X.w) X.A (.compStart (.ListComp elt [⟨tg,iter,ifs,0⟩] scope pos) 0 (.ref it) acc { cenv with scope:=relabel scope X.env }) (RR acc cenv.locals) s₄) E s₃) E s2:=by
 have hD:H2 s2.heap.objs.size=none:=I2.hok.fresh (Nat.le_refl _)
 refine wpAny_newObj_type (wpAny_newFunctionEnv hcell (by intro y hy;simp at hy) (fun h₁ hns₁ hsb₁=>?_) hkind)
 dsimp only at hns₁ hsb₁ ⊢
 have I3:L2.Inv X pins σ (upd H2 s2.heap.objs.size (.lst [])) { s2 with heap:=nL s2 } :=
  I2.laid (t':=s2.toks) (fun b u e=>Heap.get?_push_of_some _ e) (Nat.le_refl _) ⟨Nat.zero_le _,[],0,.nil,Heap.get?_push_size _ rfl⟩
 have hob:∀ b∈fp,∃ o,s2.heap.get? b=some o:=fun b hb=>let ⟨o,e,_⟩:=T.obj 0 _ st2 b hb;⟨o,e⟩
 have hbD:∀ b∈fp,b≠s2.heap.objs.size:=fun b hb z=>by obtain ⟨o,e⟩:=hob b hb;exact absurd (Heap.lt_size e) (by rw[z];exact Nat.lt_irrefl _)
 have f3:∀ b∈fp,zfm X pins (upd H2 s2.heap.objs.size (.lst [])) b:=fun b hb=>⟨by rw[zai (hbD b hb)];exact (f2 b hb).1,(f2 b hb).2⟩
 have hk3:∀ b o,(nL s2).get? b=some o->h₁.get? b=some o:=fun b o e =>
  (hsb₁.2 b (Nat.ne_of_lt (Heap.lt_size e))).trans (Heap.get?_push_of_some _ e)
 have J4:=zoP (N':=N') (scope:=scope) (cl:=cl) (m:=m) (fp:=fp) (tk:=s2.toks+([]:List (Str×Value)).length) I3 f3 (fun b hb=>by obtain ⟨o,e⟩:=hob b hb;exact ⟨o,Heap.get?_push_of_some _ e⟩) hb hkind hcell hfr hcl hcf hns₁ hk3
 have st4:tn 0 h₁:=T.keep _ _ _ st2 fun b hb o e=>hk3 b o (Heap.get?_push_of_some _ e)
 generalize hX':zd1 X N' scope cl (nL s2).objs.size { s2 with heap:=nL s2 } (upd H2 s2.heap.objs.size (.lst [])) fp=X' at J4
 have eP:X'.prog=X.prog:=by rw[<- hX'];rfl
 have eW:X'.w=X.w:=by rw[<- hX'];rfl
 have eK:X'.K=X.K:=by rw[<- hX'];rfl
 have eA:X'.A=X.A:=by rw[<- hX'];rfl
 have eC:X'.calm=true:=by rw[<- hX'];exact hc
 have eE:X'.xe=fun _ _=>False:=by rw[<- hX'];rfl
 have ePn:X'.pn=[]:=by rw[<- hX'];rfl
 have eN:X'.N.length=X.N.length+m:=by
  rw[<- hX'];show N'.length=_
  unfold zfJ at hb;rw[Bool.and_eq_true] at hb;exact of_decide_eq_true hb.1
 have eEx:X'.ex=fp:=by rw[<- hX'];rfl
 have hlenσ:σ.length=X.N.length:=I2.len
 obtain ⟨hg,hts,he⟩:=hblk (nL s2).objs.size { s2 with heap:=nL s2 } (upd H2 s2.heap.objs.size (.lst [])) fp I3 f3 (Nat.le_refl _)
 rw[hX'] at hg hts he
 have stat:∀{H':Hp},(∀ b∈fp,H' b=none)->∀ b∈fp,zfm X' [] H' b:=fun hn b hb=>by
  have q:=J4.ok.exf b (by rw[eEx];exact hb)
  exact ⟨hn b hb,q.1,J4.ok.exfs b (by rw[eEx];exact hb),.inl (by rw[eEx];exact hb),q.2,fun p hp=>by rw[ePn] at hp;simp at hp⟩
 have loop:∀ s₃:Shared,s₃={ s2 with heap:=h₁,toks:=s2.toks+([]:List (Str×Value)).length } ->
   codeAny (model X.prog X.w) X.A (.compLoop (.ListComp elt [⟨tg,iter,ifs,0⟩] scope pos) 0 (.ref it) (.ref s2.heap.objs.size) X'.env) (RR (.ref s2.heap.objs.size) (nL s2).objs.size) s₃:=by
  rintro s₃ rfl
  refine zkz (fun k s'=>∃ i σ' H' vs,L2.Inv X' [] σ' H' s'/\tn i s'.heap/\(∀ b∈fp,H' b=none)/\k=n-i/\i<=n/\H' s2.heap.objs.size=some (.lst vs)/\W s2.heap.objs.size i σ' H' vs) ?_ n
   ⟨0,σ++List.replicate m none,_,[],J4,st4,fun b hb=>(f3 b hb).1,by simp,Nat.zero_le _,zan,w0 _ hD⟩
  rintro k s' ⟨i,σ',H',vs,J5,st5,fr5,rfl,hil,hd5,q5⟩
  by_cases hlt:i<n
  ·obtain ⟨go,yl⟩:=hstep _ i σ' H' vs hD q5 hd5 hlt
   have hIt:=T.item X' eP eW eK eC i [] s' σ' H' (fun _ _=>False) J5 (stat fr5) st5 go
   rw[eA] at hIt
   refine thn hIt fun rr s6 ⟨u,hr,h6⟩=>?_
   subst hr
   refine thn h6 fun _ s7 ⟨x,H7,J7,rx7,y7,st7,fr7⟩=>?_
   have q7:=yl x H7 y7
   have J7':=J7.pinned (stat fr7) (T.obj _ _ st7)
   have hG:=hg ([]++zfV fp s7.heap) s7 σ' H7 x u _ J7' rx7 q7
   rw[eP,eW,eA,eE] at hG
   refine thn hG fun _ s8 ⟨σ8,H8,J8,q8⟩=>?_
   have hT:=hts ([]++zfV fp s7.heap) s8 σ8 H8 _ J8 q8
   rw[eP,eW,eA,eE] at hT
   refine thn hT fun ok s9 ⟨H9,J9,q9⟩=>?_
   have after:∀{σa:L2.St}{Ha:Hp}{sa:Shared},L2.Inv X' ([]++zfV fp s7.heap) σa Ha sa->tn (i+1) sa.heap/\∀ b∈fp,Ha b=none:=fun {σa Ha sa} Ja =>
    ⟨T.keep _ _ _ st7 fun b hb o e=>(Ja.pin (b,o) (List.mem_append_right _ (List.mem_append_right _ (zfa hb e)))).1,fun b hb=>by
     obtain ⟨o,e,_⟩:=T.obj _ _ st7 b hb
     exact (Ja.pin (b,o) (List.mem_append_right _ (List.mem_append_right _ (zfa hb e)))).2.1⟩
   cases ok with
   |false =>
    rw[if_neg Bool.false_ne_true]
    rw[if_neg Bool.false_ne_true] at q9
    obtain ⟨k1,k2⟩:=after J9
    exact ⟨n-(i+1),by omega,i+1,σ8,H9,vs,J9.unpinned,k1,k2,rfl,hlt,q9.1,q9.2⟩
   |true =>
    rw[if_pos rfl]
    rw[if_pos rfl] at q9
    have hEl:=he ([]++zfV fp s7.heap) s9 σ8 H9 _ J9 q9
    rw[eP,eW,eA,eE] at hEl
    refine thn hEl fun xv s10 ⟨vy,H10,J10,ry,q10⟩=>?_
    have hAp:=zhr (X:=X') ([]++zfV fp s7.heap) s10 σ8 H10 (.ref s2.heap.objs.size) [vy] (.ref s2.heap.objs.size) [xv] (fun v H11=>H11=upd H10 s2.heap.objs.size (.lst (vs++[vy]))) J10 rfl (.cons ry .nil)
     ⟨s2.heap.objs.size,vs,vy,rfl,rfl,q10.1,q10.2.1,rfl⟩
    rw[eP,eW,eA,eE] at hAp
    refine thn hAp fun _ s11 ⟨v11,H11,J11,_,e11⟩=>?_
    subst e11
    obtain ⟨k1,k2⟩:=after J11
    exact ⟨n-(i+1),by omega,i+1,σ8,_,vs++[vy],J11.unpinned,k1,k2,rfl,hlt,zan,q10.2.2⟩
  ·have e:i=n:=by omega
   subst e
   have hDn:=T.done X' eP eW eK eC i [] s' σ' H' (fun _ _=>False) J5 (stat fr5) st5 (hstop _ _ _ _ q5)
   rw[eA] at hDn
   refine thn hDn fun rr s6 ⟨hr,J6⟩=>?_
   subst hr
   have hl6:σ'.length=X.N.length+m:=by rw[J6.len,eN]
   obtain ⟨m6,hn6,_⟩:=id J6.loc
   have eL:X'.env.locals=(nL s2).objs.size:=by rw[<- hX'];rfl
   rw[eL] at hn6
   have frL:H' (nL s2).objs.size=none:=by rw[<- eL];exact J6.free
   rw[<- hX'] at J6
   have IX:L2.Inv X pins σ H' s6:=zod (h':=s6.heap) I3 f3 (Nat.le_refl _) J6 ⟨rfl,fun _ _=>rfl⟩
   have hLs:∀ b o,(nL s2).get? b=some o->(nL s2).objs.size≠b:=fun b o e z=>absurd (Heap.lt_size e) (by rw[z];exact Nat.lt_irrefl _)
   have lo:zph X pins H' (nL s2).objs.size s6:=by
    refine ⟨frL,fun z=>?_,.inr I3.sz,fun x c e z=>?_,fun p hp z=>?_,m6,hn6⟩
    ·exact absurd I3.lt (by rw[<- z];exact Nat.lt_irrefl _)
    ·obtain ⟨v,q⟩:=I3.cell x c e
     exact absurd q.lt (by rw[z];exact Nat.lt_irrefl _)
    ·exact hLs p.1 p.2 (I3.pin p hp).1 z.symm
   exact fin _ _ s6 vs σ' H' IX lo hD hd5 hl6 q5
 have envEq:X'.env=compEnvC scope cl (nL s2).objs.size X.env:=by rw[<- hX'];rfl
 rw[envEq] at loop
 exact codeAny_compStart_list (loop _ rfl) (T.self X.A 0 _ _ _ st4 (loop _ rfl))
theorem zlE{tg iter elt:Expr}{ifs:List Expr}{scope:Scope}{pos:Pos}{N':List Str}{m:Nat}{g:DG}{ft:DT}{fe:De}(hc:X.calm=true)(hb:zfJ X.N N' scope.names m=true)
  (hkind:scope.kind=.function) (hcell:Hce scope) (hfr:Hfr X scope)
  (hblk:Hbk X C N' scope tg ifs elt g ft fe)
  {pins:List (Addr×Obj)} {σ:L2.St} {s2:Shared} {cl:List (Str×Addr)} {RR:Value->Addr->Result->Shared->Prop} {E:Value->Shared->Prop}
  (hcl:∀ x c,cl.lookup x=some c->X.env.cells.lookup x=some c) (hcf:∀ y∈scope.names,y.2=.free->∃ c,cl.lookup y.1=some c)
  {it:Addr} {fp:List Addr} {tn:Nat->Heap->Prop} {J:It} {H2:Hp} (I2:L2.Inv X pins σ H2 s2) (T:zp5 X.prog X.w X.K tg J fp it tn) (st2:tn 0 s2.heap) (f2:∀ b∈fp,zfm X pins H2 b)
  {ds zs:List Dt} {ρ1 ρf:Ev} {G1:Hp} {w1:Wn} (r1:Rel X.K C G1 w1 ρ1 σ H2) (Ko:Ev->Prop) (k0:Ko (ρ1++List.replicate m none)) (hko:∀ d ρ ρ3 b ρ4,Ko ρ->g d ρ=.ok ρ3->ft ρ3=.ok (b,ρ4)->Ko ρ4/\∀ y ρ5,fe ρ4=.ok (y,ρ5)->Ko ρ5)
  (it1:∀ i ρ' G' w' σ' H',Rel X.K (znz C X.N.length G1 H2 w1 (σ++List.replicate m none)) G' w' ρ' σ' H'->Ko ρ'->(∀ d,ds[i]? = some d->J.go i H'/\∀ x H7,J.yld i H' x H7->∃ G7,zec G' H' G7 H7/\Rep X.K G7 d x)/\(ds.length<=i->J.stop i H')) (hfi:zem ds=true) (ec:zb3 g ft fe ds (ρ1++List.replicate m none)=.ok (zs,ρf))
  (fin:∀(D L:Addr)(s':Shared)(vs:List V)(G' H':Hp)(w':Wn),L2.Inv X pins σ H' s'->zph X pins H' L s'->zbJ G1 H2 w1 G' H' w'->Rel X.K C G' w' (ρf.take ρ1.length) σ H'->H2 D=none->H' D=some (.lst vs)->G' D=none->w' D=none->zaB X.K G' zs vs->RR (.ref D) L (.ok .next) s') :
  wpAny (model X.prog X.w) X.A (newList []) (fun acc s₃=>wpAny (model X.prog X.w) X.A (newFunctionEnv scope X.env.globals cl [] X.env.qual none .none (some X.env)) (fun cenv s₄ =>
   codeAny (model X.prog X.w) X.A (.compStart (.ListComp elt [⟨tg,iter,ifs,0⟩] scope pos) 0 (.ref it) acc { cenv with scope:=relabel scope X.env }) (RR acc cenv.locals) s₄) E s₃) E s2:=by
 generalize hC':znz C X.N.length G1 H2 w1 (σ++List.replicate m none)=C' at it1
 have c0:C'.H₀=H2:=by rw[<- hC'];rfl
 have hlenσ:σ.length=X.N.length:=I2.len
 refine zmh (iter:=iter) (pos:=pos) (n:=ds.length) (tgt:=tG X.K C' g) (tts:=tT X.K C' ft) (te:=tE X.K C' fe) hc hb hkind hcell hfr (fun L s H fp _ _ _=>by
  obtain ⟨a1,a2,a3⟩:=hblk cl L s H fp G1 H2 w1 (σ++List.replicate m none)
  rw[hC'] at a1 a2 a3
  exact ⟨a1,a2,a3⟩) hcl hcf I2 T st2 f2
  (fun D i σ' H' vs=>∃ ρ' G' w' ac,Rel X.K C' G' w' ρ' σ' H'/\G' D=none/\w' D=none/\zaB X.K G' ac vs/\ac.length<=i/\Ko ρ'/\∃ z,zb3 g ft fe (ds.drop i) ρ'=.ok z/\ac++z.1=zs/\z.2 = ρf) (fun D hD=>?_) (fun D i σ' H' vs hD ⟨ρ',G',w',ac,r5,gd5,wd5,q5,hac,ko,z,ez,ez1,ez2⟩ hd5 hlt=>?_) (fun D σ' H' vs ⟨ρ',G',w',ac,r5,_,_,_,_,ko,_⟩=>(it1 _ _ _ _ _ _ r5 ko).2 (Nat.le_refl _)) fun D L s' vs σ' H' IX lo hD hd5 hl6 ⟨ρ',G',w',ac,r5,gd5,wd5,q5,hac,_,z,ez,ez1,ez2⟩=>?_
 ·have w0:w1 D=none:=by
   cases q:w1 D with
   |none=>rfl
   |some k=>exact absurd hD (r1.wh _ (by rw[q];simp))
  have base:Rel X.K C' G1 w1 (ρ1++List.replicate m none) (σ++List.replicate m none) H2:=by
   refine ⟨r1.gh,r1.wg,r1.wh,by simp[r1.len],fun i b e=>?_,by rw[<- hC'];exact .refl _ _ _,fun i _=>by rw[<- hC'];rfl⟩
   have hi':i < ρ1.length:=by
    by_cases hi':i < ρ1.length
    ·exact hi'
    ·rw[List.getElem?_append_right (by omega),List.getElem?_replicate] at e
     split at e <;> cases e
   rw[List.getElem?_append_left hi'] at e
   obtain ⟨v,h1,h2⟩:=r1.sl i b e
   exact ⟨v,by rw[List.getElem?_append_left (by rw[<- r1.len];exact hi')];exact h1,h2⟩
  exact ⟨ρ1++List.replicate m none,G1,w1,[],base.upd_new (r1.gh.free hD) w0 (by rw[c0];exact hD),r1.gh.free hD,w0,zaB.nil,Nat.zero_le _,k0,(zs,ρf),by simpa using ec,by simp,rfl⟩
 ·have ed:ds.drop i=ds[i]::ds.drop (i+1):=List.drop_eq_getElem_cons hlt
  obtain ⟨go,yl⟩:=(it1 i _ _ _ _ _ r5 ko).1 ds[i] (by simp[hlt])
  refine ⟨go,fun x H7 y7=>?_⟩
  obtain ⟨G7,gr,rep7⟩:=yl x H7 y7
  have keep7:=(gr.step (w:=w')).keep gd5 wd5 hd5
  rw[ed] at ez
  unfold zb3 at ez
  obtain ⟨ρ3,e3,ez⟩:=zgM ez
  obtain ⟨t4,e4,ez⟩:=zgM ez
  obtain ⟨b4,ρ4⟩:=t4
  obtain ⟨ko4,ko5⟩:=hko _ _ _ _ _ ko e3 e4
  refine ⟨G7,w',ρ',ds[i],r5.grow gr,rep7,?_⟩
  rw[e3]
  intro σ8 G8 H8 w8 s8s r8
  have keep8:=s8s.keep keep7.1 keep7.2.1 keep7.2.2
  refine ⟨G8,w8,ρ3,r8,?_⟩
  rw[e4]
  intro G9 H9 w9 s9s r9
  have keep9:=s9s.keep keep8.1 keep8.2.1 keep8.2.2
  have sg9:=(gr.g.trans s8s.g).trans s9s.g
  cases b4 with
  |false =>
   show (if false=true then _ else _)
   rw[if_neg Bool.false_ne_true]
   simp only[Bool.false_eq_true,if_false] at ez
   exact ⟨keep9.2.2,ρ4,G9,w9,ac,r9,keep9.1,keep9.2.1,q5.same sg9,by omega,ko4,z,ez,ez1,ez2⟩
  |true =>
   show (if true=true then _ else _)
   rw[if_pos rfl]
   simp only[if_true] at ez
   obtain ⟨⟨yd,ρ10⟩,e10,ez⟩:=zgM ez
   obtain ⟨z',ez',ez3⟩:=zgM ez
   refine ⟨G9,w9,ρ4,r9,?_⟩
   rw[e10]
   intro v G10 H10 w10 s10s r10 q10
   have keep10:=s10s.keep keep9.1 keep9.2.1 keep9.2.2
   cases ez3
   refine ⟨keep10.2.2,?_,ρ10,G10,w10,ac++[yd],r10.upd_new keep10.1 keep10.2.1 (by rw[c0];exact hD),keep10.1,keep10.2.1,(q5.same (sg9.trans s10s.g)).append (zaB.cons q10 zaB.nil),by simp;omega,ko5 _ _ e10,z',ez',by rw[<- ez1];simp,ez2⟩
   have:=q5.length
   have:=ziO hfi
   omega
 ·simp only[List.drop_length] at ez
  unfold zb3 at ez
  cases ez
  simp only[List.append_nil] at ez1
  subst ez1
  subst ez2
  have cG:C'.G₀=G1:=by rw[<- hC'];rfl
  have cw:C'.w₀=w1:=by rw[<- hC'];rfl
  have en':zbJ G1 H2 w1 G' H' w':=by have:=r5.en;rw[cG,c0,cw] at this;exact this
  have hρlen:ρ'.length=X.N.length+m:=by rw[r5.len,hl6]
  refine fin _ _ s' vs G' H' w' IX lo en' ⟨r5.gh,r5.wg,r5.wh,?_,fun i b e=>?_,r1.en.trans en',r1.pin⟩ hD hd5 gd5 wd5 q5
  ·rw[List.length_take,hρlen,r1.len,hlenσ];omega
  ·have hi':i < ρ1.length:=by
    by_cases hi':i < ρ1.length
    ·exact hi'
    ·rw[List.getElem?_eq_none (by rw[List.length_take];omega)] at e;cases e
   rw[List.getElem?_take_of_lt hi'] at e
   obtain ⟨v,h1,h2⟩:=r5.sl i b e
   refine ⟨v,?_,h2⟩
   have hpi:=r5.pin i (by rw[<- hC'];exact List.mem_range.mpr (by rw[<- hlenσ,<- r1.len];exact hi'))
   rw[h1] at hpi
   rw[<- hC'] at hpi
   have hpi':some (some v)=(σ++List.replicate m none)[i]? := hpi
   rw[List.getElem?_append_left (by rw[<- r1.len];exact hi')] at hpi'
   exact hpi'.symm
theorem zkj{tg iter elt:Expr}{ifs:List Expr}{scope:Scope}{pos:Pos}{N':List Str}{m:Nat}{g:DG}{ft:DT}{fe:De}(hc:X.calm=true)(hb:zfJ X.N N' scope.names m=true)
  (hkind:scope.kind=.function) (hcell:Hce scope) (hfr:Hfr X scope)
  (hblk:Hbk X C N' scope tg ifs elt g ft fe)
  {pins:List (Addr×Obj)} {σ:L2.St} {s2:Shared} {cl:List (Str×Addr)} {RR:Value->Addr->Result->Shared->Prop} {E:Value->Shared->Prop}
  (hcl:∀ x c,cl.lookup x=some c->X.env.cells.lookup x=some c) (hcf:∀ y∈scope.names,y.2=.free->∃ c,cl.lookup y.1=some c)
  {it:Addr} {fp:List Addr} {tn:Nat->Heap->Prop} {J:It} {H2:Hp} (I2:L2.Inv X pins σ H2 s2) (T:zp5 X.prog X.w X.K tg J fp it tn) (st2:tn 0 s2.heap) (f2:∀ b∈fp,zfm X pins H2 b)
  {ds zs:List Dt} {ρ1 ρf:Ev} {G1:Hp} {w1:Wn} (r1:Rel X.K C G1 w1 ρ1 σ H2) (it1:zp3 X.K J G1 ds) (hfi:zem ds=true) (ec:zb3 g ft fe ds (ρ1++List.replicate m none)=.ok (zs,ρf))
  (fin:∀(D L:Addr)(s':Shared)(vs:List V)(G' H':Hp)(w':Wn),L2.Inv X pins σ H' s'->zph X pins H' L s'->zbJ G1 H2 w1 G' H' w'->Rel X.K C G' w' (ρf.take ρ1.length) σ H'->H2 D=none->H' D=some (.lst vs)->G' D=none->w' D=none->zaB X.K G' zs vs->RR (.ref D) L (.ok .next) s') :
  wpAny (model X.prog X.w) X.A (newList []) (fun acc s₃=>wpAny (model X.prog X.w) X.A (newFunctionEnv scope X.env.globals cl [] X.env.qual none .none (some X.env)) (fun cenv s₄ =>
   codeAny (model X.prog X.w) X.A (.compStart (.ListComp elt [⟨tg,iter,ifs,0⟩] scope pos) 0 (.ref it) acc { cenv with scope:=relabel scope X.env }) (RR acc cenv.locals) s₄) E s₃) E s2 :=
 zlE hc hb hkind hcell hfr hblk hcl hcf I2 T st2 f2 r1 (fun _=>True) trivial (fun _ _ _ _ _ _ _ _=>⟨trivial,fun _ _ _=>trivial⟩) (fun i ρ' G' w' σ' H' r _=>it1 i G' H' r.en.g r.gh) hfi ec fin
theorem zcg{tg iter elt:Expr}{ifs:List Expr}{scope:Scope}{pos:Pos}{N':List Str}{m:Nat}{fi:DA}{g:DG}{ft:DT}{fe:De}(hi:JI X C tg iter fi)(hc:X.calm=true)(hb:zfJ X.N N' scope.names m=true)
  (hkind:scope.kind=.function) (hcell:Hce scope) (hfr:Hfr X scope) (hnames:Hnm scope)
  (hblk:Hbk X C N' scope tg ifs elt g ft fe)
  (hs:∀ x,foldedSetIterable iter X.env x=pure x:=by intro _;rfl):JN X C (.ListComp elt [⟨tg,iter,ifs,0⟩] scope pos) (za3 fi g ft fe m):=by
 intro pins s σ H Q I ⟨G,w,ρ,r,p⟩
 rw[eval_ListComp]
 obtain ⟨cl,hclos,hcl,hcf⟩:=zcv (scope:=scope) (env:=X.env) fun y hy hf=>I.ok.has y.1 (hfr y hy hf)
 refine wpAny_comprehension_free (use:=none) rfl hs hclos hkind hnames ?_
 refine thn (hi pins s σ H (fun J H2=>∃ ds ρ1 G1 w1 zs ρf,Rel X.K C G1 w1 ρ1 σ H2/\zp3 X.K J G1 ds/\zem ds=true/\zb3 g ft fe ds (ρ1++List.replicate m none)=.ok (zs,ρf)/\kN X.K C σ Q G1 H2 w1 (zs,ρf.take ρ1.length)) I ?_) fun v s1 h1=>thn h1 fun itv s2 h2=>?_
 ·refine zvx (κ:=fun G H w=>kN X.K C σ Q G H w) zeF r p fun ds ρ1 J G1 H1 w1 r1 st1 it1 p1=>?_
  dsimp only at p1
  split at p1
  ·rename_i hfi
   split at p1
   ·rename_i z ez
    exact ⟨ds,ρ1,G1,w1,z.1,z.2,r1,it1,hfi,ez,p1⟩
   ·exact p1.elim
  ·exact p1.elim
 obtain ⟨it,fp,tn,J,H2,rfl,I2,T,st2,f2,ds,ρ1,G1,w1,zs,ρf,r1,it1,hfi,ec,kk⟩:=h2
 refine zkj (RR:=fun acc C=>compPost (model X.prog X.w) X.A X.xe none (EP X pins σ Q) acc C) hc hb hkind hcell hfr hblk hcl hcf I2 T st2 f2 r1 it1 hfi ec fun D L s' vs G' H' w' I' lo st rel h0 h1 h2 h3 q=>?_
 obtain ⟨mm,hn⟩:=lo.ns
 refine ⟨mm,hn,fun h' hsb=>⟨.ref D,H',?_,rfl,kk D vs G' H' w' st rel h0 h1 h2 h3 q⟩⟩
 exact I'.turned (t':=s'.toks) (fun b o hb e=>(hsb.2 b hb).trans e) lo.fr lo.nl lo.nw lo.nc lo.np
theorem zmn{tg iter elt:Expr}{ifs:List Expr}{scope:Scope}{pos spos:Pos}{N':List Str}{m i:Nat}{x:Str}{px:Pos}{fi:DA}{g:DG}{ft:DT}{fe:De}{fs:List Dt×Ev->R (Fl×Ev)}(hi:JI X C tg iter fi)(hc:X.calm=true)(hb:zfJ X.N N' scope.names m=true)
  (hkind:scope.kind=.function) (hcell:Hce scope) (hfr:Hfr X scope) (hnames:Hnm scope)
  (hblk:Hbk X C N' scope tg ifs elt g ft fe)
  (hN:X.N.Nodup) (hix:X.N[i]? = some x) (hx:Loc X.env.scope x) (hsw:swapsWith (.ListComp elt [⟨tg,iter,ifs,0⟩] scope pos) (some (.Name x px)) spos.line X.env=pure true) (hf:X.fn x=true\/X.env.scope.names.lookup x=some .local)
  (hfs:∀(D:zrk)(G1 H2 G' H':Hp)(w1 w':Wn)(σ:L2.St)(p:Addr)(zs:List Dt)(vs:List V)(ρf:Ev),zc0 C.ex (kS X.K C D G1 H2 w1) (fs (zs,ρf))->zbJ G1 H2 w1 G' H' w'->Rel X.K C G' w' ρf σ H'->H2 p=none->H' p=some (.lst vs)->G' p=none->w' p=none->zaB X.K G' zs vs->C.H₀ p=none->D.nx (σ.set i (some (.ref p))) H')
  (hs:∀ x,foldedSetIterable iter X.env x=pure x:=by intro _;rfl):JS X C (.Assign [.Name x px] (.ListComp elt [⟨tg,iter,ifs,0⟩] scope pos) spos) (fun ρ=>(za3 fi g ft fe m ρ).bind fs):=by
 intro pins s σ H D I ⟨G,w,ρ,r,p⟩
 obtain ⟨cl,hclos,hcl,hcf⟩:=zcv (scope:=scope) (env:=X.env) fun y hy hf=>I.ok.has y.1 (hfr y hy hf)
 rw[exec_Assign_Name_used _ _ _ _ hsw]
 refine wpAny_bind (wpAny_standAt (wpAny_bind ?_))
 show wpAny _ X.A (do let _ <- comprehension (.ListComp elt [⟨tg,iter,ifs,0⟩] scope pos) scope X.env _ (newList []) false (eval iter X.env) (some (assign (.Name x px) X.env))) _ _ s
 refine wpAny_bind (wpAny_mono (wpAny_comprehension_free (use:=some (assign (.Name x px) X.env)) (Q:=fun _ s'=>SP X pins D .next s') rfl hs hclos hkind hnames ?_) (fun _ s' hq=>wpAny_pure (wpAny_pure hq)) fun _ _ e=>e)
 refine thn (hi pins s σ H (fun J H2=>∃ ds ρ1 G1 w1 zs ρf,Rel X.K C G1 w1 ρ1 σ H2/\zp3 X.K J G1 ds/\zem ds=true/\zb3 g ft fe ds (ρ1++List.replicate m none)=.ok (zs,ρf)/\zc0 C.ex (kS X.K C D G1 H2 w1) (fs (zs,ρf.take ρ1.length))) I ?_) fun v s1 h1=>thn h1 fun itv s2 h2=>?_
 ·have p':zc0 C.ex (kS X.K C D G H w) ((fi ρ).bind fun a=>((if zem a.1=true then match zb3 g ft fe a.1 (a.2++List.replicate m none) with
   |.ok z=>.ok (z.1,z.2.take a.2.length)
   |_=>.no
   else .no:R (List Dt×Ev))).bind fs):=by
   rw[<- R.bind_assoc]
   exact p
  refine zvx (κ:=fun G H w=>kS X.K C D G H w) zdS r p' fun ds ρ1 J G1 H1 w1 r1 st1 it1 p1=>?_
  dsimp only at p1
  split at p1
  ·rename_i hfi
   split at p1
   ·rename_i z ez
    exact ⟨ds,ρ1,G1,w1,z.1,z.2,r1,it1,hfi,ez,p1⟩
   ·exact False.elim p1
  ·exact False.elim p1
 obtain ⟨it,fp,tn,J,H2,rfl,I2,T,st2,f2,ds,ρ1,G1,w1,zs,ρf,r1,it1,hfi,ec,kk⟩:=h2
 refine zkj (RR:=fun acc C=>compPost (model X.prog X.w) X.A X.xe (some (assign (.Name x px) X.env)) (fun _ s'=>SP X pins D .next s') acc C) hc hb hkind hcell hfr hblk hcl hcf I2 T st2 f2 r1 it1 hfi ec fun Da L s' vs G' H' w' I' lo st rel h0 h1 h2 h3 q=>?_
 show wpAny _ X.A (assign (.Name x px) X.env (.ref Da)) _ _ _
 refine wpAny_assign_Name (zhf I' hN hix hx (v:=.ref Da) rfl (fun s'' I'' hch=>?_) hf)
 obtain ⟨mm,hn⟩:=lo.ns
 obtain ⟨a,sb,ha⟩:=hch
 have hLa:L≠a:=by
  rcases ha with z|z
  ·rw[z];exact lo.nl
  ·exact fun y=>lo.nc x a z y.symm
 refine ⟨mm,hn.sameBut sb hLa,fun h' hsb=>⟨σ.set i (some (.ref Da)),H',?_,hfs D G1 H2 G' H' w1 w' σ Da zs vs _ kk st rel h0 h1 h2 h3 q (r1.en.k Da h0)⟩⟩
 exact I''.turned (t':=s''.toks) (fun b o hb e=>(hsb.2 b hb).trans e) lo.fr lo.nl lo.nw lo.nc lo.np
theorem zd5{tg iter elt:Expr}{ifs:List Expr}{scope:Scope}{pos spos:Pos}{N':List Str}{m i:Nat}{x:Str}{px:Pos}{fi:DA}{g:DG}{ft:DT}{fe:De}(hN:X.N.Nodup)(hix:X.N[i]? = some x)(hx:Loc X.env.scope x)(hp:i∉C.pp)(hi:JI X C tg iter fi)(hc:X.calm=true)(hb:zfJ X.N N' scope.names m=true)
  (hkind:scope.kind=.function) (hcell:Hce scope) (hfr:Hfr X scope) (hnames:Hnm scope)
  (hblk:Hbk X C N' scope tg ifs elt g ft fe)
  (hsw:swapsWith (.ListComp elt [⟨tg,iter,ifs,0⟩] scope pos) (some (.Name x px)) spos.line X.env=pure true:=by rfl) (hf:X.fn x=true\/X.env.scope.names.lookup x=some .local:=by first|exact .inl rfl|exact .inr rfl|assumption)
  (hs:∀ x,foldedSetIterable iter X.env x=pure x:=by intro _;rfl):JS X C (.Assign [.Name x px] (.ListComp elt [⟨tg,iter,ifs,0⟩] scope pos) spos) (zbf i (dFz (za3 fi g ft fe m))):=by
 have h:=zmn (fs:=fun a=>if i<a.2.length then .ok (.nx,a.2.set i (some (.val (.lst a.1)))) else .no) hi hc hb hkind hcell hfr hnames hblk hN hix hx hsw hf (fun D G1 H2 G' H' w1 w' σ p zs vs ρf po st rel h0 h1 h2 h3 q h4=>?_) hs
 ·refine PS.weak h fun D σ H t=>?_
  obtain ⟨G,w,ρ,r,p⟩:=t
  refine ⟨G,w,ρ,r,?_⟩
  unfold zbf dFz at p
  rw[R.bind_assoc] at p
  exact p
 ·by_cases hl:i < ρf.length
  ·simp only[hl,if_true] at po
   obtain ⟨r',s'⟩:=rel.know h1 h2 h3 H2 G1 w1 st h0 (.inl h4)
   have sg:zcb G' (upd G' p (.lst vs)):=fun b u e=>by rw[zai (zah e h2)];exact e
   exact po _ _ _ _ s' (r'.setVal hl hp (by unfold Rep;exact ⟨p,vs,rfl,zan,q.same sg⟩))
  ·simp only[hl,if_false] at po;exact False.elim po
theorem zfz{tg iter elt:Expr}{ifs:List Expr}{scope:Scope}{pos spos:Pos}{N':List Str}{m i:Nat}{x:Str}{px:Pos}{fi:DA}{g:DG}{ft:DT}{fe:De}(hN:X.N.Nodup)(hix:X.N[i]? = some x)(hx:Loc X.env.scope x)(hp:i∉C.pp)(hi:JI X C tg iter fi)(hc:X.calm=true)(hb:zfJ X.N N' scope.names m=true)
  (hkind:scope.kind=.function) (hcell:Hce scope) (hfr:Hfr X scope) (hnames:Hnm scope)
  (hblk:Hbk X C N' scope tg ifs elt g ft fe)
  (hsw:swapsWith (.ListComp elt [⟨tg,iter,ifs,0⟩] scope pos) (some (.Name x px)) spos.line X.env=pure true:=by rfl) (hf:X.fn x=true\/X.env.scope.names.lookup x=some .local:=by first|exact .inl rfl|exact .inr rfl|assumption)
  (hs:∀ x,foldedSetIterable iter X.env x=pure x:=by intro _;rfl):JS X C (.Assign [.Name x px] (.ListComp elt [⟨tg,iter,ifs,0⟩] scope pos) spos) (zb5 i (za3 fi g ft fe m)):=by
 refine zmn (fs:=fun a=>if i<a.2.length then .ok (.nx,a.2.set i (some (.own a.1))) else .no) hi hc hb hkind hcell hfr hnames hblk hN hix hx hsw hf (fun D G1 H2 G' H' w1 w' σ p zs vs ρf po st rel h0 h1 h2 h3 q h4=>?_) hs
 by_cases hl:i < ρf.length
 ·simp only[hl,if_true] at po
  obtain ⟨r',s'⟩:=rel.setOwn hl hp h1 h2 h3 q st h0 h4
  exact po _ _ _ _ s' r'
 ·simp only[hl,if_false] at po;exact False.elim po
end
section
variable{X:Cx}{C:Cn}{a b c e:Expr}{fa fb fc:De}{pos:Pos}
theorem zmN{r r':R2}{g g':Dt->Dt->R Dt}{σ:L2.St}{H:Hp}{Q:VK}(h2:Op2 X.K r g)(he:zjI g)(h2':Op2 X.K r' g')(he':zjI g')(h:tE X.K C (zkL g g' fa fb fc) σ H Q):zqU r r' (tE X.K C fa) (tE X.K C fb) (tE X.K C fc) σ H Q:=by
 obtain ⟨G,w,ρ,rr,p⟩:=h
 refine zer (κ:=fun G H w=>kE X.K C σ Q G H w) zch rr p fun d ρ1 v G1 H1 w1 r1 s1 q1 p1=>?_
 refine zer (κ:=fun G H w=>kE X.K C σ Q G H w) zch r1 p1 fun d2 ρ2 v2 G2 H2 w2 r2 s2 q2 p2=>?_
 dsimp only at p2
 cases e:g d d2 with
 |ok z =>
  simp only[e,R.bind_ok] at p2
  refine h2 G2 H2 v v2 d d2 z _ r2.gh (q1.same s2.g) q2 e fun v3 G3 H3 gr q3=>?_
  have p3:=zc0.step (κ:=fun G H w=>kE X.K C σ Q G H w) zch gr.step (w1:=w2) p2
  have r3:=r2.grow gr
  cases z with
  |bl k =>
   refine ⟨k,zdz q3,?_⟩
   cases k with
   |false=>exact iteF (p3 _ G3 H3 w2 (.refl _ _ _) r3 (zda _))
   |true =>
    refine iteT ?_
    refine zer (κ:=fun G H w=>kE X.K C σ Q G H w) zch r3 p3 fun d4 ρ4 v4 G4 H4 w4 r4 s4 q4 p4=>?_
    dsimp only at p4
    cases e':g' d2 d4 with
    |ok z' =>
     simp only[e',R.bind_ok] at p4
     exact h2' G4 H4 v2 v4 d2 d4 z' Q r4.gh ((q2.same gr.g).same s4.g) q4 e' fun v5 G5 H5 gr5 q5=>p4 v5 G5 H5 w4 gr5.step (r4.grow gr5) q5
    |er n=>exact absurd e' (he' _ _ _)
    |no=>simp only[e',R.bind_no] at p4;exact p4.elim
  |_=>exact False.elim p3
 |er n=>exact absurd e (he _ _ _)
 |no=>simp only[e,R.bind_no] at p2;exact p2.elim
theorem zpS{op op':CmpOp}{r r':R2}{g g':Dt->Dt->R Dt}(ho:OpR X (compareOp op) r)(h2:Op2 X.K r g)(hn:zjI g)(ho':OpR X (compareOp op') r')(h2':Op2 X.K r' g')(hn':zjI g')(ha:JE X C a fa)(hb:JE X C b fb)(hc:JE X C c fc)
  (hm:lastMarks [op,op'] [b,c]=false:=by with_unfolding_all rfl):JE X C (.Compare a [op,op'] [b,c] pos) (zkL g g' fa fb fc):=PE.weak (zqx ho ho' ha hb hc hm) fun σ H Q h=>zmN h2 hn h2' hn' h
def kO(K:W.Frag)(C:Cn)(σ:L2.St)(Q:Option Int->Hp->Prop)(G H:Hp)(w:Wn)(a:Option Int×Ev):Prop :=
 ∀ G' H' w',zbJ G H w G' H' w'->Rel K C G' w' a.2 σ H'->Q a.1 H'
abbrev DO:=Ev->R (Option Int×Ev)
def tOd(K:W.Frag)(C:Cn)(f:DO):TO:=fun σ H Q=>∃ G w ρ,Rel K C G w ρ σ H/\zc0 C.ex (kO K C σ Q G H w) (f ρ)
abbrev JO(X:Cx)(C:Cn)(e:Option Expr)(f:DO):Prop:=PO X e (tOd X.K C f)
theorem PO.weak{e:Option Expr}{t t':TO}(h:PO X e t)(k:∀ σ H Q,t' σ H Q->t σ H Q):PO X e t':=fun pins s σ H Q I q=>h pins s σ H Q I (k σ H Q q)
def dO0:DO:=fun ρ=>.ok (none,ρ)
def dO1(fa:De):DO:=fun ρ=>(fa ρ).bind fun a=>match a.1 with
 |.int i=>.ok (some i,a.2)
 |_=>.no
theorem zuZ{K:W.Frag}{σ:L2.St}{Q:Option Int->Hp->Prop}:Stp (fun G H w=>kO K C σ Q G H w):=fun _ _ _ _ _ _ _ s k G' H' w' s'=>k G' H' w' (s.trans s')
theorem zp0:JO X C none dO0:=PO.weak zrZ fun σ H Q ⟨G,w,ρ,r,p⟩=>p G H w (.refl _ _ _) r
theorem zjc(h:JE X C a fa):JO X C (some a) (dO1 fa):=PO.weak (zta h) fun σ H Q ⟨G,w,ρ,r,p⟩=>by
 refine zer (κ:=fun G H w=>kO X.K C σ Q G H w) zuZ r p fun d ρ1 v G1 H1 w1 r1 s1 q1 p1=>?_
 cases d with
 |int i=>exact ⟨i,za5 q1,p1 G1 H1 w1 (.refl _ _ _) r1⟩
 |_=>exact p1.elim
theorem zuO{K:W.Frag}{σ:L2.St}{α:Type}{κ:zpL α}(st:Stp κ){G H:Hp}{w:Wn}{ρ:Ev}{fa:DO}{g:Option Int×Ev->R α}{Q:Option Int->Hp->Prop}(r:Rel K C G w ρ σ H)(p:zc0 C.ex (κ G H w) ((fa ρ).bind g))
  (k:∀ o ρ1 G1 H1 w1,Rel K C G1 w1 ρ1 σ H1->zbJ G H w G1 H1 w1->zc0 C.ex (κ G1 H1 w1) (g (o,ρ1))->Q o H1):tOd K C fa σ H Q:=by
 refine ⟨G,w,ρ,r,?_⟩
 cases e:fa ρ with
 |ok a =>
  rw[e] at p
  intro G' H' w' s' r'
  exact k a.1 a.2 G' H' w' r' s' (zc0.step st s' p)
 |er n=>rw[e] at p;exact p
 |no=>rw[e] at p;exact p
def zka{α:Type}(xs:List α)(lo hi:Option Int):List α:=(xs.drop (HT.sIx xs.length 0 lo)).take (HT.sIx xs.length xs.length hi-HT.sIx xs.length 0 lo)
theorem zlH{K:W.Frag}{G:Hp}{ds:List Dt}{vs:List V}(h:zaB K G ds vs)(lo hi:Option Int):zaB K G (zka ds lo hi) (znF vs lo hi):=by
 unfold zka znF
 rw[<- h.length]
 exact (h.drop _).take _
def zp7(fa:De)(fl fh:DO):DN:=fun ρ=>(fa ρ).bind fun a=>(fl a.2).bind fun l=>(fh l.2).bind fun h=>match a.1 with
 |.lst ds=>.ok (zka ds l.1 h.1,h.2)
 |_=>.no
theorem zcS{K:W.Frag}{σ:L2.St}{G H:Hp}{w:Wn}{ρ:Ev}{p:Addr}(r:Rel K C G w ρ σ H)(hp:H p=none):w p=none:=by
 cases z:w p with
 |none=>rfl
 |some k=>exact absurd hp (r.wh p (by rw[z];simp))
theorem zro{lo hi:Option Expr}{fl fh:DO}{p2:Pos}(ha:JE X C a fa)(hl:JO X C lo fl)(hh:JO X C hi fh):JN X C (.Subscript a (.Slice lo hi none p2) pos) (zp7 fa fl fh) :=
 PE.weak (zmw zsG ha hl hh) fun σ H Q ⟨G,w,ρ,r,p⟩=>by
  refine zer (κ:=fun G H w=>kN X.K C σ Q G H w) zeF r p fun d ρ1 v G1 H1 w1 r1 s1 q1 p1=>?_
  refine zuO (κ:=fun G H w=>kN X.K C σ Q G H w) zeF r1 p1 fun l ρ2 G2 H2 w2 r2 s2 p2=>?_
  refine zuO (κ:=fun G H w=>kN X.K C σ Q G H w) zeF r2 p2 fun h ρ3 G3 H3 w3 r3 s3 p3=>?_
  cases d with
  |lst ds =>
   obtain ⟨ad,vs,rfl,h1,h2⟩:=zbm (q1.same (s2.g.trans s3.g))
   refine ⟨ad,vs,rfl,SqL.of (r3.gh _ _ h1),fun p hp=>?_⟩
   have gr:zec G3 H3 G3 (upd H3 p (.lst (znF vs l h))):=.newH r3.gh hp
   exact p3 p _ G3 _ w3 gr.step (r3.grow gr) hp zan (r3.gh.free hp) (zcS r3 hp) (zlH h2 l h)
  |_=>exact p3.elim
def zkt(fa:De):DN:=fun ρ=>(fa ρ).bind fun a=>match a.1 with
 |.lst ds=>.ok (ds.reverse,a.2)
 |_=>.no
theorem ztn{k1:Nat}{p1 p2 p3:Pos}(ha:JE X C a fa):JN X C (.Subscript a (.Slice none none (some (.UnaryOp .USub (.Constant (.int 1) k1 p1) p2)) p3) pos) (zkt fa):=by
 intro pins s σ H Q I ⟨G,w,ρ,r,p⟩
 refine PyProof.Rows.Subscript_ (thn (ha pins s σ H (fun x H1=>∃ ad vs,x=.ref ad/\SqL X.K H1 ad vs/\∀ p,H1 p=none->Q (.ref p) (upd H1 p (.lst vs.reverse))) I ?_) fun v s1 ⟨x,H1,I1,r1,ad,vs,ex,hx,q1⟩=>?_)
 ·refine zer (κ:=fun G H w=>kN X.K C σ Q G H w) zeF r p fun d ρ1 v G1 H1 w1 r1 s1 q1 p1=>?_
  cases d with
  |lst ds =>
   obtain ⟨ad,vs,rfl,h1,h2⟩:=zbm q1
   refine ⟨ad,vs,rfl,SqL.of (r1.gh _ _ h1),fun p hp=>?_⟩
   have gr:zec G1 H1 G1 (upd H1 p (.lst vs.reverse)):=.newH r1.gh hp
   exact p1 p _ G1 _ w1 gr.step (r1.grow gr) hp zan (r1.gh.free hp) (zcS r1 hp) h2.reverse
  |_=>exact p1.elim
 subst ex
 cases r1
 obtain ⟨its,rv,ht,hz⟩:=I1.list hx
 have hlen:=rv.length
 refine wpAny_Slice (evalPart_none_step (evalPart_none_step (evalPart_some_step (thn (ztX (a:=.Constant (.int 1) k1 p1) (pos:=p2) zrc zqZ pins s1 σ H1 (fun x H2=>x=.int (-1)/\H2=H1) I1 ⟨1,rfl,rfl,rfl⟩) fun vk s2 ⟨y,H2,I2,r2,ey,eH⟩=>?_))))
 subst ey
 subst eH
 obtain ⟨t,rfl⟩:=r2
 have I4:L2.Inv X pins σ H2 { s2 with heap:=s2.heap.push { cls:=.type "slice",data:=.fields #[.none,.none,.int (-1) t] } }:=I2.kept (t':=s2.toks) fun b ob q=>Heap.get?_push_of_some _ q
 obtain ⟨its4,rv4,ht4,_⟩:=I4.list hx
 have hlen4:=rv4.length
 show wpAny (model X.prog X.w) X.A (PyProof.Rows.subscriptTail a (.Slice none none (some (.UnaryOp .USub (.Constant (.int 1) k1 p1) p2)) p3) (.ref ad) (.ref s2.heap.objs.size)) (EP X pins σ Q) X.xe { s2 with heap:=s2.heap.push { cls:=.type "slice",data:=.fields #[.none,.none,.int (-1) t] } }
 refine PyProof.Rows.tail_any (ops:=[.ref ad,.ref s2.heap.objs.size]) ht4.isList.typeIs slot_list_getitem.lookup ?_ (by with_unfolding_all rfl)
 refine wpAny_getItem_list_slice ht4.isList (Heap.IsSliceOf.new ..) .none .none (.int _ _) (by decide) ?_ (by rw[List.size_toArray] <;> omega)
 rw[W.krv_pick]
 refine ⟨.ref _,_,I4.laid (t':=s2.toks) (o:=.lst vs.reverse) (fun b ob q=>Heap.get?_push_of_some _ q) (Nat.le_refl _) ?_,rfl,q1 _ (I4.hok.fresh (Nat.le_refl _))⟩
 exact ⟨by rw[List.length_reverse];exact hz,its4.reverse,0,rv4.reverse,Heap.get?_push_size (o:={ cls:=.type "list",data:=.seq its4.toArray.toList.reverse.toArray }) _ rfl⟩
end
structure Dfn(nw:Bool)(P:Program)(w:World)(K:W.Frag)(mg:Str->Option Value)(base:Heap)(CX:CXT)(xv:Nat->Value)(k:Nat)(x:Str)(ks:List Bool)(F:FD):Prop where
 ex:∃(f:Addr)(fd:FuncData)(ps:List Str),zfC P w K mg base CX k f fd ps (zpU nw K xv ks F)/\mg x=some (.ref f)/\W.keepIn K (.ref f)=true/\zfP K fd ps []/\∀ bs,F bs≠.no->zbH bs=ks
theorem Dfn.mono{nw:Bool}{P:Program}{w:World}{K:W.Frag}{mg:Str->Option Value}{base:Heap}{CX:CXT}{xv:Nat->Value}{k k':Nat}{x:Str}{ks:List Bool}{F:FD}(D:Dfn nw P w K mg base CX xv k x ks F)(h:k<=k'):Dfn nw P w K mg base CX xv k' x ks F:=by
 obtain ⟨f,fd,ps,h1,h2⟩:=D.ex
 exact ⟨f,fd,ps,h1.mono h,h2⟩
section
variable{X:Cx}{C:Cn}{CX:CXT}{k k':Nat}{ks:List Bool}{Fd:FD}{x:Str}{p pos:Pos}{e:Expr}{es:List Expr}{far:DAr}
theorem za8(D:Dfn false X.prog X.w X.K X.mg X.base CX C.xv k x ks Fd)(hr:zdC k' X.A)(hk:k<=k')(hx:zco CX X (EXc C))(ha:JAr X C (e::es) far)(hg:Gl X x:=by rfl)(hdb:(x == ("__debug__" : Str))=false:=by decide)(he:starEach (e::es) X.env=(false,eval e X.env)::starEach es X.env:=by rfl)
  (hpl:(backTo pos (starEach es X.env)).any (·.1)=false:=by rfl):JE X C (.Call (.Name x p) (e::es) [] pos) (zad Fd far):=by
 obtain ⟨f,fd,ps,h1,h2,h3,h4,h5⟩:=D.ex
 exact ztc h1 (hr.mono hk) hg h2 h3 h4 hx h5 ha hdb he hpl
end
section
variable{X:Cx}{C:Cn}{CX:CXT}{k k':Nat}{ks:List Bool}{Fd:FD}{x:Str}{p pos:Pos}{e:Expr}{es:List Expr}{far:DAr}
theorem zhU(D:Dfn true X.prog X.w X.K X.mg X.base CX C.xv k x ks Fd)(hr:zdC k' X.A)(hk:k<=k')(hx:zco CX X (EXc C))(ha:JAr X C (e::es) far)(hg:Gl X x:=by rfl)(hdb:(x == ("__debug__" : Str))=false:=by decide)(he:starEach (e::es) X.env=(false,eval e X.env)::starEach es X.env:=by rfl)
  (hpl:(backTo pos (starEach es X.env)).any (·.1)=false:=by rfl):JN X C (.Call (.Name x p) (e::es) [] pos) (zbs Fd far):=by
 obtain ⟨f,fd,ps,h1,h2,h3,h4,h5⟩:=D.ex
 exact zsf h1 (hr.mono hk) hg h2 h3 h4 hx h5 ha hdb he hpl
end
def dNo:DS:=fun _=>.no
theorem zmz{X:Cx}{C:Cn}{st:Stmt}:JS X C st dNo:=fun _ _ _ _ _ _ ⟨_,_,_,_,p⟩=>p.elim
section
variable{X:Cx}{C:Cn}{a b c e:Expr}{fa fb fc:De}{pos:Pos}
def zdD(fa fb:De):DN:=fun ρ=>(fa ρ).bind fun a=>(fb a.2).bind fun b=>match a.1,b.1 with
 |.lst x,.lst y=>if x.length+y.length<=16777216 then .ok (x++y,b.2) else .no
 |_,_=>.no
theorem zg2(ha:JE X C a fa)(hb:JE X C b fb):JN X C (.BinOp a .Add b pos) (zdD fa fb):=PE.weak (zrG ztt ha hb) fun σ H Q ⟨G,w,ρ,r,p⟩=>by
 refine zer (κ:=fun G H w=>kN X.K C σ Q G H w) zeF r p fun d ρ1 v G1 H1 w1 r1 s1 q1 p1=>?_
 refine zer (κ:=fun G H w=>kN X.K C σ Q G H w) zeF r1 p1 fun d2 ρ2 v2 G2 H2 w2 r2 s2 q2 p2=>?_
 dsimp only at p2
 split at p2
 ·rename_i x y
  split at p2
  ·rename_i hl
   obtain ⟨ad,vs,rfl,h1,h2⟩:=zbm (q1.same s2.g)
   obtain ⟨bd,us,rfl,h3,h4⟩:=zbm q2
   refine ⟨ad,bd,vs,us,rfl,rfl,r2.gh _ _ h1,r2.gh _ _ h3,by rw[<- h2.length,<- h4.length,zcq];exact hl,fun p hp=>?_⟩
   have gr:zec G2 H2 G2 (upd H2 p (.lst (vs++us))):=.newH r2.gh hp
   exact p2 p _ G2 _ w2 gr.step (r2.grow gr) hp zan (r2.gh.free hp) (zcS r2 hp) (h2.append h4)
  ·exact p2.elim
 ·exact p2.elim
def zmU(fa fb:De):DN:=fun ρ=>(fa ρ).bind fun a=>(fb a.2).bind fun b=>match a.1,b.1 with
 |.lst x,.int k=>if zeD k=true/\x.length * k.toNat<=16777216 then .ok ((List.replicate k.toNat x).flatten,b.2) else .no
 |_,_=>.no
theorem zlN{K:W.Frag}{G:Hp}{ds:List Dt}{vs:List V}(h:zaB K G ds vs):∀ k:Nat,zaB K G (List.replicate k ds).flatten (List.replicate k vs).flatten
 |0=>by simpa using zaB.nil
 |k+1=>by
  rw[List.replicate_succ,List.replicate_succ,List.flatten_cons,List.flatten_cons]
  exact h.append (zlN h k)
theorem zol(ha:JE X C a fa)(hb:JE X C b fb):JN X C (.BinOp a .Mult b pos) (zmU fa fb):=PE.weak (zrG zt8 ha hb) fun σ H Q ⟨G,w,ρ,r,p⟩=>by
 refine zer (κ:=fun G H w=>kN X.K C σ Q G H w) zeF r p fun d ρ1 v G1 H1 w1 r1 s1 q1 p1=>?_
 refine zer (κ:=fun G H w=>kN X.K C σ Q G H w) zeF r1 p1 fun d2 ρ2 v2 G2 H2 w2 r2 s2 q2 p2=>?_
 dsimp only at p2
 split at p2
 ·rename_i x k
  split at p2
  ·rename_i hl
   obtain ⟨ad,vs,rfl,h1,h2⟩:=zbm (q1.same s2.g)
   obtain ⟨b1,b2⟩:=zgQ hl.1
   refine ⟨ad,k,vs,rfl,za5 q2,r2.gh _ _ h1,by omega,by omega,by rw[<- h2.length,zcq];exact hl.2,fun p hp=>?_⟩
   have gr:zec G2 H2 G2 (upd H2 p (.lst (List.replicate k.toNat vs).flatten)):=.newH r2.gh hp
   exact p2 p _ G2 _ w2 gr.step (r2.grow gr) hp zan (r2.gh.free hp) (zcS r2 hp) (zlN h2 k.toNat)
  ·exact p2.elim
 ·exact p2.elim
def zuX(ta:TA):TE:=fun σ H Q=>ta σ H fun vs H1=>∃ j:Int,vs=[.int j]/\∀ p,H1 p=none->Q (.ref p) (upd H1 p (.rng 0 j))
theorem ztu{p:Pos}{ta:TA}(hg:Gl X "range")(hm:X.mg "range"=none)(ha:PA X [e] ta)(hs:starEach [e] X.env=[(false,eval e X.env)]:=by rfl):PE X (.Call (.Name "range" p) [e] [] pos) (zuX ta):=by
 intro pins s σ H Q I h
 refine PyProof.Rows.Call_ (zfj I hg hm PyProof.Rows.boot_range (PyProof.Rows.callWith_type1 (thn (ha pos pins s σ H _ I h) fun us s1 ⟨vs,H1,I1,r1,q1⟩=>?_) hs rfl))
 obtain ⟨j,e1,q⟩:=q1
 subst e1
 obtain ⟨u,rfl,t,rfl⟩:=zfd r1
 exact call_range_1 ⟨.ref s1.heap.objs.size,_,I1.laid (o:=.rng 0 j) (fun b u e=>Heap.get?_push_of_some _ e) (Nat.le_refl _) ⟨_,_,_,Heap.get?_push_size _ rfl⟩,rfl,q _ (I1.hok.fresh (Nat.le_refl _))⟩
theorem zeU{lo:Int}:∀(n:Nat)(acc:List Value),acc.length=n->(∀(j:Nat) v,acc[j]? = some v->∃ t,v=Value.int (lo+j) t)->zbp ((List.range n).map fun k=>V.int (lo+(k:Nat))) acc
 |0,[],_,_=>.nil
 |0,_::_,h,_=>by simp at h
 |n+1,[],h,_=>by simp at h
 |n+1,v::r,h,hv=>by
  rw[List.range_succ_eq_map,List.map_cons,List.map_map]
  obtain ⟨t,ht⟩:=hv 0 v rfl
  refine .cons ⟨t,by simpa using ht⟩ ?_
  have:=zeU (lo:=lo+1) n r (by simpa using h) fun j v' e=>by
   obtain ⟨t',ht'⟩:=hv (j+1) v' (by simpa using e)
   refine ⟨t',ht'.trans ?_⟩
   congr 1
   omega
  have e:(fun k=>V.int (lo+1+(k:Nat)))=((fun k:Nat=>V.int (lo+(k:Nat))) ∘ Nat.succ):=by
   funext k
   show V.int _=V.int _
   congr 1
   simp only[Nat.succ_eq_add_one]
   omega
  rw[e] at this
  exact this
theorem ziX(hc:X.calm=true):zcz X (.type "list") (fun xs H Q=>∃(p:Addr)(j:Int),xs=[.ref p]/\H p=some (.rng 0 j)/\0<=j/\j<=16777216/\∀ l,H l=none->Q (.ref l) (upd H l (.lst ((List.range j.toNat).map fun k=>V.int (0+(k:Nat)))))):=by
 intro pins s σ H xs us Q I r h
 obtain ⟨p,j,rfl,hp,j0,j1,q⟩:=h
 obtain ⟨u,rfl,ru⟩:=zfd r
 cases ru
 obtain ⟨t,u,v,e⟩:=(show zct X.prog X.w H s.heap p (.rng 0 j) from I.hok p _ hp)
 refine call_list_range (n:=j.toNat) (I.ok.hd hc) e (small_one (by omega) (by omega) (by omega) (by omega)) (by rw[rangeSize_one];split <;> omega) (by omega) fun h' tk acc' c' hk hS hacc=>?_
 refine ⟨.ref s.heap.objs.size,_,I.laid (t':=tk) hk (Nat.le_refl _) (o:=.lst ((List.range j.toNat).map fun k=>V.int (0+(k:Nat)))) ⟨?_,acc'.toList,c',?_,by simpa using hS⟩,rfl,q _ (I.hok.fresh (Nat.le_refl _))⟩
 ·rw[List.length_map,List.length_range,zcq];omega
 ·refine zeU j.toNat acc'.toList (by rw[Array.length_toList];exact hacc.1) fun i v' ev=>?_
  obtain ⟨t',ht'⟩:=hacc.2 i v' (by simpa using ev)
  exact ⟨t',by rw[ht',Int.mul_one]⟩
def znp(fa:De):DN:=fun ρ=>(fa ρ).bind fun a=>match a.1 with
 |.int j=>if 0<=j/\j<=16777216 then .ok (zaI 0 j.toNat,a.2) else .no
 |_=>.no
theorem zeV{K:W.Frag}{G:Hp}{lo:Int}:∀(l:List Nat),zaB K G (l.map fun k=>.int (lo+(k:Nat))) (l.map fun k=>V.int (lo+(k:Nat)))
 |[]=>zaB.nil
 |k::r=>zaB.cons (zaF _) (zeV r)
theorem zrJ{p1 p2 pos2:Pos}(hc:X.calm=true)(hg:Gl X "list")(hm:X.mg "list"=none)(hg2:Gl X "range")(hm2:X.mg "range"=none)(ha:JE X C e fa)(hs:starEach [e] X.env=[(false,eval e X.env)]:=by rfl)
  (hs2:starEach [.Call (.Name "range" p2) [e] [] pos2] X.env=(false,eval (.Call (.Name "range" p2) [e] [] pos2) X.env)::starEach [] X.env:=by rfl) (hpl:(backTo pos (starEach [] X.env)).any (·.1)=false:=by rfl) :
  JN X C (.Call (.Name "list" p1) [.Call (.Name "range" p2) [e] [] pos2] [] pos) (znp fa) :=
 PE.weak (ze4 (ziX hc) hg hm PyProof.Rows.boot_list (zbe (ztu hg2 hm2 (zao ha za4 (by rw[hs];rfl)) hs) zcr hs2) (by decide) (by decide) hs2 hpl) fun σ H Q ⟨G,w,ρ,r,p⟩=>by
  unfold znp at p
  refine ⟨G,w,ρ,r,?_⟩
  unfold dA dA0
  cases e:fa ρ with
  |ok x =>
   obtain ⟨d,ρ1⟩:=x
   rw[e] at p
   intro vs G1 H1 w1 s1 r1 q
   obtain ⟨v,t,rfl,q1,q2⟩:=q.cons_inv
   rw[q2.nil_inv]
   have p1:=zc0.step (κ:=fun G H w=>kN X.K C σ Q G H w) zeF s1 p
   cases d with
   |int j =>
    refine ⟨j,by rw[za5 q1],fun p hp=>?_⟩
    have p1:zc0 C.ex (kN X.K C σ Q G1 H1 w1) (if 0<=j/\j<=16777216 then .ok (zaI 0 j.toNat,ρ1) else .no):=p1
    by_cases hj:0<=j/\j<=16777216
    ·rw[if_pos hj] at p1
     refine ⟨p,j,rfl,zan,hj.1,hj.2,fun l hl=>?_⟩
     have gr:zec G1 H1 G1 (upd H1 p (.rng 0 j)):=.newH r1.gh hp
     have r2:=r1.grow gr
     have gr2:zec G1 (upd H1 p (.rng 0 j)) G1 (upd (upd H1 p (.rng 0 j)) l (.lst ((List.range j.toNat).map fun k=>V.int (0+(k:Nat))))):=.newH r2.gh hl
     have hl1:H1 l=none:=gr.h.free hl
     exact p1 l _ G1 _ w1 (gr.step.trans gr2.step) (r2.grow gr2) hl1 zan (r1.gh.free hl1) (zcS r1 hl1) (zeV _)
    ·rw[if_neg hj] at p1;exact p1.elim
   |_=>exact False.elim p1
  |er n=>rw[e] at p;exact p
  |no=>rw[e] at p;exact p
end
section
variable{X:Cx}{C:Cn}{a b c e:Expr}{fa fb fc:De}{pos:Pos}
def zsB(a:Int):List Int->List Int
 |[]=>[a]
 |b::r=>if a<=b then a::b::r else b::zsB a r
def zb9:List Int->List Int
 |[]=>[]
 |a::r=>zsB a (zb9 r)
theorem zhD(a:Int):∀ l:List Int,(zsB a l).Perm (a::l)
 |[]=>.refl _
 |b::r=>by
  unfold zsB
  split
  ·exact .refl _
  ·exact ((zhD a r).cons b).trans (.swap a b r)
theorem zbF:∀ l:List Int,(zb9 l).Perm l
 |[]=>.refl _
 |a::r=>(zhD a _).trans ((zbF r).cons a)
theorem zm2(a:Int):∀ l:List Int,l.Pairwise (· <= ·)->(zsB a l).Pairwise (· <= ·)
 |[],_=>by simp[zsB]
 |b::r,h=>by
  unfold zsB
  rw[List.pairwise_cons] at h
  split
  ·rename_i z
   refine List.pairwise_cons.mpr ⟨fun x hx=>?_,List.pairwise_cons.mpr h⟩
   rcases List.mem_cons.mp hx with rfl|hx
   ·exact z
   ·exact Int.le_trans z (h.1 x hx)
  ·rename_i z
   refine List.pairwise_cons.mpr ⟨fun x hx=>?_,zm2 a r h.2⟩
   rcases List.mem_cons.mp ((zhD a r).mem_iff.mp hx) with rfl|hx
   ·omega
   ·exact h.1 x hx
theorem zeL:∀ l:List Int,(zb9 l).Pairwise (· <= ·)
 |[]=>.nil
 |a::r=>zm2 a _ (zeL r)
theorem intsAre_of:∀{ns:List Int}{us:List Value},zbp (ns.map V.int) us->PyProof.Rows.IntsAre us ns
 |[],_,.nil=>.nil
 |n::ns,_,.cons ⟨t,h⟩ r=>by subst h;exact .cons n t (intsAre_of r)
theorem vals_ints:∀{ns:List Int}{us:List Value},PyProof.Rows.IntsAre us ns->zbp (ns.map V.int) us
 |_,_,.nil=>.nil
 |_,_,.cons n t h=>.cons ⟨t,rfl⟩ (vals_ints h)
theorem zmF:zcz X (.builtin "sorted") (fun xs H Q=>∃(p:Addr)(ns:List Int),xs=[.ref p]/\SqL X.K H p (ns.map V.int)/\ns.length<64/\∀ l,H l=none->Q (.ref l) (upd H l (.lst ((zb9 ns).map V.int)))):=by
 intro pins s σ H xs us Q I r h
 obtain ⟨p,ns,rfl,hq,hl,q⟩:=h
 obtain ⟨u,rfl,ru⟩:=zfd r
 cases ru
 obtain ⟨its,rv,pl,hz⟩:=I.list hq
 have hlen:its.length=ns.length:=by rw[<- rv.length];simp
 refine PyProof.Rows.sorted_ints pl.isList (intsAre_of rv) (by omega) fun out ns' a1 a2 a3=>?_
 have e:ns'=zb9 ns:=W.lks_uniq (a2.trans (zbF ns).symm) a3 (zeL ns)
 subst e
 obtain ⟨c,hc⟩:=PyProof.Rows.sortedAll_at s.heap its out
 refine ⟨.ref (s.heap.objs.size+1),_,I.laid (t':=s.toks) (fun b o=>PyProof.Rows.sortedAll_old) (Nat.le_succ _) (o:=.lst ((zb9 ns).map V.int)) ⟨?_,out.toList,c,vals_ints a1,?_⟩,rfl,q _ (I.hok.fresh (Nat.le_succ _))⟩
 ·rw[List.length_map,(zbF ns).length_eq,zcq];omega
 ·simpa using hc
def zcp:List Dt->R (List Dt)
 |[.lst l]=>match ziU l with
  |some ns=>if ns.length<64 then .ok ((zb9 ns).map .int) else .no
  |none=>.no
 |_=>.no
theorem zhN{K:W.Frag}{G:Hp}:∀(ns:List Int),zaB K G (ns.map .int) (ns.map V.int)
 |[]=>zaB.nil
 |n::r=>zaB.cons (zaF n) (zhN r)
theorem zqu{K:W.Frag}:FnN K (fun xs H Q=>∃(p:Addr)(ns:List Int),xs=[.ref p]/\SqL K H p (ns.map V.int)/\ns.length<64/\∀ l,H l=none->Q (.ref l) (upd H l (.lst ((zb9 ns).map V.int)))) zcp:=fun G H vs ds z Q gh hr e k=>by
 unfold zcp at e
 split at e
 ·split at e
  ·rename_i ns en
   split at e
   ·rename_i hl
    obtain ⟨v,rfl,h1⟩:=zfL hr
    obtain ⟨a,us,rfl,h2,h3⟩:=zbm h1
    cases e
    rw[zjj h3 en] at h2
    exact ⟨a,ns,rfl,SqL.of (gh _ _ h2),hl,fun l hl=>k l _ hl (zhN _)⟩
   ·cases e
  ·cases e
 ·cases e
theorem zpC:zkM zcp:=fun x n h=>by
 unfold zcp at h
 split at h
 ·split at h
  ·split at h <;> cases h
  ·cases h
 ·cases h
theorem zjG{x:Expr}{p:Pos}(hg:Gl X "sorted")(hm:X.mg "sorted"=none)(ha:JE X C x fa)(hs:starEach [x] X.env=(false,eval x X.env)::starEach [] X.env:=by rfl)(hpl:(backTo pos (starEach [] X.env)).any (·.1)=false:=by rfl) :
  JN X C (.Call (.Name "sorted" p) [x] [] pos) (zgJ zcp (dA fa dA0)) :=
 zmB zqu zpC zmF hg hm PyProof.Rows.boot_sorted (zao ha za4 hs) (by decide) (by decide) hs hpl
end
theorem zmO:typeLookup (.type "list_reverseiterator") "__len__"=pure none:=by rw[typeLookup_type,builtinLookup_eq_fast];kernel_rfl
theorem zpJ:typeLookup (.type "list_reverseiterator") "__length_hint__"=pure (some (.builtin "list_reverseiterator.__length_hint__")):=by rw[typeLookup_type,builtinLookup_eq_fast];kernel_rfl
section
variable{prog:Program}{w:World}{A:Around}{E:Value->Shared->Prop}{s:Shared}
theorem zsw{R:Result->Shared->Prop}{it l:Addr}{items:Array Value}(hh:A.handled=none)(hit:s.heap.IsRevIter it l ((items.size:Int)-1))(hl:s.heap.IsList l items)(hne:l≠it)(S:Addr)(res:Value)(c₀:Nat)(hS:s.heap.get? S=some { cls:=.type "list",data:=.seq #[] c₀ })(hSl:S≠l)
  (hn:items.size<=sizeLine)
  (hR:∀ h' tk acc' c',(∀ b o,b≠S->b≠it->s.heap.get? b=some o->h'.get? b=some o)->h'.get? S=some { cls:=.type "list",dict:=none,data:=.seq acc' c',slots:=#[] } ->
   ItemsOf (fun i v=>items[items.size-1-i]? = some v) acc' items.size->R (.ok (.ret res)) { s with heap:=h',toks:=tk }) :
  wpAny (model prog w) A.in1 (Builtin.List.listExtendWith (.ref S) (.ref it) res)
   (fun fin s'=>match fin with|.done f=>R (.ok f) s'|.again c'=>c'.quiet=true/\codeAny (model prog w) A c' R s') (fun e s'=>R (.error e) s') s:=by
 have hSI:S≠it:=fun e=>by
  obtain ⟨o,ho,hc,_⟩:=hit
  rw[e,ho] at hS;cases hS;simp at hc
 have hSf:S∉[it,l]:=fun hm=>by
  rcases List.mem_cons.mp hm with z|z
  ·exact hSI z
  ·exact hSl (List.mem_singleton.mp z)
 unfold Builtin.List.listExtendWith
 refine wpAny_bind (wpAny_typeOf (T:="list_reverseiterator") hit.typeIs ?_)
 have h1:Builtin.List.listSameRef (.ref S) (.ref it)=false:=by simp[Builtin.List.listSameRef,hSI]
 have h2:(Value.type "list_reverseiterator" == Value.type "list")=false:=by decide +kernel
 have h3:(Value.type "list_reverseiterator" == Value.type "tuple")=false:=by decide +kernel
 simp only[h1,h2,h3,Bool.or_false,Bool.false_eq_true,if_false]
 refine wpAny_bind (wpAny_pyIter_revIter hit ?_)
 refine wpAny_bind (wpAny_holding ?_)
 unfold Builtin.List.listLengthHint
 refine wpAny_bind (wpAny_specialOf hit.typeIs zmO ?_)
 show wpAny _ A.in1 (specialOf (Value.ref it) (Str.ofString "__length_hint__") >>= _) _ _ _
 refine wpAny_bind (wpAny_specialOf hit.typeIs zpJ ?_)
 wp_delta
 refine wpAny_bind (wpAny_isInstance (T:="list_reverseiterator") (b:=true) hit.typeIs (by rw[isSubtype_type];kernel_rfl) ?_)
 refine wpAny_ite_split (fun h=>absurd h (by decide)) (fun _=>?_)
 refine wpAny_ite_split (fun _=>?_) (fun h=>absurd (by decide +kernel) h)
 refine wpAny_ite_split (fun h=>absurd h (by decide +kernel)) (fun _=>wpAny_pure ?_)
 rw[if_neg (by decide +kernel)]
 have W:=(Walks.listRev (prog:=prog) (w:=w) (A:=A.in1) hh it l hne items).toS
 have hst:0<=items.size/\s.heap.IsRevIter it l ((items.size:Int)-1-((0:Nat):Int))/\s.heap.IsList l items:=⟨Nat.zero_le _,by simpa using hit,hl⟩
 refine wpAny_pure ⟨plainId_quiet F.plain_extend_loop _,codeAny_extend_loopS W hn _ hSf _ items.size 0 _ _ _ rfl (Nat.zero_le _) hst hS (ItemsOf.nil _) fun s' acc' c' hm hS' hacc=>?_⟩
 rw[Moved.eq_with hm]
 refine hR s'.heap s'.toks acc' c' (fun b ob hb hb2 e=>hm.heap b ob (fun hmem=>?_) e) hS' hacc
 rcases List.mem_cons.mp hmem with e'|hmem
 ·exact hb e'
 ·exact hb2 (List.mem_singleton.mp hmem)
theorem zpM{R:Result->Shared->Prop}{it l:Addr}{items:Array Value}(hh:A.handled=none)(hit:s.heap.IsRevIter it l ((items.size:Int)-1))(hl:s.heap.IsList l items)(hne:l≠it)(S:Addr)(hS:s.heap.get? S=some { cls:=.type "list",data:=.seq #[] })(hSl:S≠l)(hSI:S≠it)
  (hn:items.size<=sizeLine)
  (hR:∀ h' tk acc' c',(∀ b o,b≠S->b≠it->s.heap.get? b=some o->h'.get? b=some o)->h'.get? S=some { cls:=.type "list",dict:=none,data:=.seq acc' c',slots:=#[] } ->
   ItemsOf (fun i v=>items[items.size-1-i]? = some v) acc' items.size->R (.ok (.ret .none)) { s with heap:=h',toks:=tk }) :
  wpAny (model prog w) A.in1 (Builtin.«list.__init__» ⟨[.ref S,.ref it],[]⟩)
   (fun fin s'=>match fin with|.done f=>R (.ok f) s'|.again c'=>c'.quiet=true/\codeAny (model prog w) A c' R s') (fun e s'=>R (.error e) s') s:=by
 show wpAny _ _ (do let old <- Builtin.List.listItems (.ref S);Builtin.List.listUpdate (.ref S) (fun _=>#[]);letGo old.toList.reverse;Builtin.List.listExtendWith (.ref S) (.ref it) .none) _ _ s
 refine wpAny_bind ?_
 unfold Builtin.List.listItems
 refine wpAny_bind (wpAny_seqItems hS rfl (wpAny_pure ?_))
 show wpAny _ _ (updateSeq S (fun _=>#[]) >>= fun _=>letGo (#[]:Array Value).toList.reverse >>= fun _=>Builtin.List.listExtendWith (.ref S) (.ref it) .none) _ _ s
 refine wpAny_bind (wpAny_updateSeq hS rfl ?_)
 have k2:=Heap.get?_update_self (Obj.mapSeq (fun _=>(#[]:Array Value))) hS rfl
 have oth:∀ b o,b≠S->s.heap.get? b=some o->(s.heap.update S (Obj.mapSeq (fun _=>(#[]:Array Value)))).get? b=some o :=
  fun b o hb e=>(Heap.get?_update_other _ _ (Ne.symm hb)).trans e
 refine wpAny_bind (wpAny_letGo ?_)
 exact zsw hh (hit.at fun o e=>oth it o (Ne.symm hSI) e) (hl.at fun o e=>oth l o (Ne.symm hSl) e) hne S .none _ k2 hSl hn fun h' tk acc' c' hk hS' hacc=>hR h' tk acc' c' (fun b o hb hb2 e=>hk b o hb hb2 (oth b o hb e)) hS' hacc
theorem zqy{Q:Value->Shared->Prop}{it l:Addr}{items:Array Value}(hh:A.handled=none)(hit:s.heap.IsRevIter it l ((items.size:Int)-1))(hl:s.heap.IsList l items)(hne:l≠it)(hn:items.size<=sizeLine)
  (hQ:∀ h' tk acc' c',(∀ b o,b≠it->s.heap.get? b=some o->h'.get? b=some o) ->
   h'.get? s.heap.objs.size=some { cls:=.type "list",dict:=none,data:=.seq acc' c',slots:=#[] }->ItemsOf (fun i v=>items[items.size-1-i]? = some v) acc' items.size->Q (.ref s.heap.objs.size) { s with heap:=h',toks:=tk }) :
  wpAny (model prog w) A (call (.type "list") [.ref it]) Q E s:=by
 refine callType_codes (Q₁:=fun obj s₁=>obj=.ref s.heap.objs.size/\s₁={ s with heap:=s.heap.push { cls:=.type "list",data:=.seq #[] } }) F.called_list (F.typeCall_list_1 _) F.entry_list_init
  (code_list_new _ ⟨rfl,rfl⟩) fun obj s₁ h₁=>?_
 obtain ⟨rfl,rfl⟩:=h₁
 have kS:(s.heap.push { cls:=.type "list",data:=.seq #[] }).get? s.heap.objs.size=some { cls:=.type "list",data:=.seq #[] }:=Heap.get?_push_size _ rfl
 have lt1:l≠s.heap.objs.size:=by obtain ⟨o,e,_⟩:=hl;exact Nat.ne_of_lt (Heap.lt_size e)
 have lt2:it≠s.heap.objs.size:=by obtain ⟨o,e,_⟩:=hit;exact Nat.ne_of_lt (Heap.lt_size e)
 refine ⟨⟨_,kS,rfl⟩,F.args_list_init_2 _ _,zpM (A:=A.in1) hh (hit.at fun o e=>Heap.get?_push_of_some _ e) (hl.at fun o e=>Heap.get?_push_of_some _ e) hne _ kS (Ne.symm lt1) (Ne.symm lt2) hn fun h' tk acc' c' hk hS' hacc=>?_⟩
 exact ⟨rfl,hQ h' tk acc' c' (fun b o hb e=>hk b o (Nat.ne_of_lt (Heap.lt_size e)) hb (Heap.get?_push_of_some _ e)) hS' hacc⟩
end
section
variable{X:Cx}{C:Cn}{a:Expr}{fa:De}{pos:Pos}
theorem zqz:bootBuiltins "reversed"=some (.type "reversed"):=by decide +kernel
theorem zqE{vs:List V}{its:List Value}{acc:Array Value}(r:zbp vs its)(h:ItemsOf (fun i v=>its.toArray[its.toArray.size-1-i]? = some v) acc its.toArray.size):zbp vs.reverse acc.toList:=by
 have e:acc.toList=its.reverse:=by
  apply List.ext_getElem?
  intro i
  have hs:acc.size=its.length:=by simpa using h.1
  by_cases hi:i<its.length
  ·have:=h.2 i acc[i] (by simp[hs,hi])
   rw[List.getElem?_reverse hi]
   have e2:acc.toList[i]? = some acc[i]:=by simp[hs,hi]
   rw[e2]
   simpa using this.symm
  ·rw[List.getElem?_eq_none (by simpa [hs] using hi),List.getElem?_eq_none (by simpa using hi)]
 rw[e]
 exact r.reverse
theorem zsT{p1 p2 pos2:Pos}(hc:X.calm=true)(hg:Gl X "list")(hm:X.mg "list"=none)(hg2:Gl X "reversed")(hm2:X.mg "reversed"=none)(ha:JE X C a fa)(hs:starEach [a] X.env=[(false,eval a X.env)]:=by rfl)
  (hs2:starEach [.Call (.Name "reversed" p2) [a] [] pos2] X.env=[(false,eval (.Call (.Name "reversed" p2) [a] [] pos2) X.env)]:=by rfl) :
  JN X C (.Call (.Name "list" p1) [.Call (.Name "reversed" p2) [a] [] pos2] [] pos) (zkt fa):=by
 intro pins s σ H Q I ⟨G,w,ρ,r,p⟩
 refine PyProof.Rows.Call_ (zfj I hg hm PyProof.Rows.boot_list (PyProof.Rows.callWith_type1 ?_ hs2 rfl))
 rw[hs2]
 show wpAny _ _ (spliced ((false,eval (.Call (.Name "reversed" p2) [a] [] pos2) X.env)::backTo pos (starEach [] X.env))) _ _ s
 refine Calls.spliced_cons (PyProof.Rows.Call_ (zfj I hg2 hm2 zqz (PyProof.Rows.callWith_type1 (thn (zao ha za4 hs pos2 pins s σ H (fun vs H1=>∃(ad:Addr)(zs:List V),vs=[.ref ad]/\SqL X.K H1 ad zs/\∀ p,H1 p=none->Q (.ref p) (upd H1 p (.lst zs.reverse))) I ?_) fun us s1 ⟨vs,H1,I1,r1,q1⟩=>?_) hs rfl)))
 ·refine ⟨G,w,ρ,r,?_⟩
  unfold zkt at p
  unfold dA dA0
  cases e:fa ρ with
  |ok x =>
   obtain ⟨d,ρ1⟩:=x
   rw[e] at p
   intro vs G1 H1 w1 s1 r1 q
   obtain ⟨v,t,rfl,q1,q2⟩:=q.cons_inv
   rw[q2.nil_inv]
   have p1:=zc0.step (κ:=fun G H w=>kN X.K C σ Q G H w) zeF s1 p
   cases d with
   |lst ds =>
    obtain ⟨ad,zs,rfl,h1,h2⟩:=zbm q1
    refine ⟨ad,zs,rfl,SqL.of (r1.gh _ _ h1),fun p hp=>?_⟩
    have gr:zec G1 H1 G1 (upd H1 p (.lst zs.reverse)):=.newH r1.gh hp
    exact p1 p _ G1 _ w1 gr.step (r1.grow gr) hp zan (r1.gh.free hp) (zcS r1 hp) h2.reverse
   |_=>exact False.elim p1
  |er n=>rw[e] at p;exact p
  |no=>rw[e] at p;exact p
 ·obtain ⟨ad,zs,rfl,hq,q⟩:=q1
  obtain ⟨u,rfl,ru⟩:=zfd r1
  cases ru
  obtain ⟨its,rv,pl,hz⟩:=I1.list hq
  have hlen:=rv.length
  refine call_reversed_list pl.isList ?_
  refine Calls.spliced_nil ?_
  have ne:ad≠s1.heap.objs.size:=by
   obtain ⟨o,n,e,_⟩:=id pl
   exact Nat.ne_of_lt (Heap.lt_size e)
  have I2:L2.Inv X pins σ H1 { s1 with heap:=s1.heap.push (revObj ad ((its.toArray.size:Int)-1)) }:=I1.kept (t':=s1.toks) fun b ob q=>Heap.get?_push_of_some _ q
  have hit:Heap.IsRevIter (s1.heap.push (revObj ad ((its.toArray.size:Int)-1))) s1.heap.objs.size ad ((its.toArray.size:Int)-1):=⟨_,Heap.get?_push_size _ rfl,rfl,rfl⟩
  have hl2:Heap.IsList (s1.heap.push (revObj ad ((its.toArray.size:Int)-1))) ad its.toArray:=pl.isList.at fun o e=>Heap.get?_push_of_some _ e
  refine zqy (s:={ s1 with heap:=s1.heap.push (revObj ad ((its.toArray.size:Int)-1)) }) (I.ok.hd hc) hit hl2 ne (by rw[List.size_toArray];omega) fun h' tk acc c' hk hS hacc=>?_
  have hsz:(s1.heap.push (revObj ad ((its.toArray.size:Int)-1))).objs.size=s1.heap.objs.size+1:=Heap.size_push ..
  have hS':h'.get? (s1.heap.objs.size+1)=some { cls:=.type "list",dict:=none,data:=.seq acc c',slots:=#[] }:=by rw[<- hsz];exact hS
  show EP X pins σ Q (.ref (s1.heap.push (revObj ad ((its.toArray.size:Int)-1))).objs.size) _
  rw[hsz]
  refine ⟨.ref (s1.heap.objs.size+1),_,I1.laid (h':=h') (t':=tk) (o:=.lst zs.reverse) (fun b o e=>hk b o (Nat.ne_of_lt (Heap.lt_size e)) (Heap.get?_push_of_some _ e)) (Nat.le_succ _) ⟨?_,acc.toList,c',zqE rv hacc,by simpa using hS'⟩,rfl,q _ (I1.hok.fresh (Nat.le_succ _))⟩
  rw[List.length_reverse];exact hz
end
section
variable{prog:Program}{w:World}{A:Around}{E:Value->Shared->Prop}{s:Shared}
theorem bnd:type_of% @wpAny_bind:=@wpAny_bind
theorem zm3{it t:Addr}{i:Nat}{its:Array Value}{x:Value}{Q:Value->Shared->Prop}(k1:s.heap.IsTupleIter it t i)(k2:s.heap.IsTuple t its)(kx:its[i]? = some x)
  (kQ:∀ h',h'.IsTupleIter it t (i+1)->Heap.SameBut it s.heap h'->Q x { s with heap:=h' }):wpAny (model prog w) A (Builtin.SmallTypes.nextOf (.ref it)) Q E s:=by
 obtain ⟨o,e1,e2,e3⟩:=id k1
 obtain ⟨o',e4,_,n',e5⟩:=k2
 unfold Builtin.SmallTypes.nextOf
 refine bnd (wpAny_callSpecial?_slot (name:=Str.ofString "__next__") k1.typeIs F.slot_tuple_iterator_next (wpAny_call_entry F.slot_tuple_iterator_next k1.typeIs F.entry_tuple_iterator_next ?_ (F.args_tuple_iterator_next_1 _)))
 show wpAny _ _ (field (.ref it) 0 >>= _) _ _ _
 refine bnd (wpAny_field e1 e3 (x:=.ref t) rfl ?_)
 show wpAny _ _ (if (Value.ref t == Value.none)=true then _ else _) _ _ _
 have nn:¬ ((Value.ref t == Value.none)=true):=Bool.false_ne_true
 rw[if_neg nn]
 show wpAny _ _ (field (.ref it) 1 >>= _) _ _ _
 refine bnd (wpAny_field e1 e3 (x:=.int i 0) rfl ?_)
 show wpAny _ _ (seqItems? (.ref t) >>= _) _ _ _
 refine bnd (wpAny_seqItems e4 e5 ?_)
 simp only[Int.toNat_natCast,kx]
 refine bnd (wpAny_setField e1 e3 (by simp) (wpAny_pure ⟨x,rfl,wpAny_pure (kQ _ ⟨_,Heap.get?_update_self _ e1 (Obj.isFreed_of_fields (Obj.data_mapFields e3 _)),(Obj.cls_mapFields ..).trans e2,?_⟩ (Heap.SameBut.update ..))⟩))
 rw[Obj.data_mapFields e3];simp[rawInt]
theorem zrN{it t:Addr}{i:Nat}{its:Array Value}{Q:Value->Shared->Prop}(hh:A.handled=none)(k1:s.heap.IsTupleIter it t i)(k2:s.heap.IsTuple t its)(kx:its[i]? = none)
  (kE:∀ h' e,Heap.ExtBut it s.heap h'->(∃ o,h'.get? e=some o/\o.cls=.type "StopIteration")->E (.ref e) { s with heap:=h' }):wpAny (model prog w) A (Builtin.SmallTypes.nextOf (.ref it)) Q E s:=by
 obtain ⟨o,e1,e2,e3⟩:=id k1
 obtain ⟨o',e4,_,n',e5⟩:=k2
 unfold Builtin.SmallTypes.nextOf
 refine bnd (wpAny_callSpecial?_slot (name:=Str.ofString "__next__") k1.typeIs F.slot_tuple_iterator_next (wpAny_call_entry F.slot_tuple_iterator_next k1.typeIs F.entry_tuple_iterator_next ?_ (F.args_tuple_iterator_next_1 _)))
 show wpAny _ _ (field (.ref it) 0 >>= _) _ _ _
 refine bnd (wpAny_field e1 e3 (x:=.ref t) rfl ?_)
 show wpAny _ _ (if (Value.ref t == Value.none)=true then _ else _) _ _ _
 have nn:¬ ((Value.ref t == Value.none)=true):=Bool.false_ne_true
 rw[if_neg nn]
 show wpAny _ _ (field (.ref it) 1 >>= _) _ _ _
 refine bnd (wpAny_field e1 e3 (x:=.int i 0) rfl ?_)
 show wpAny _ _ (seqItems? (.ref t) >>= _) _ _ _
 refine bnd (wpAny_seqItems e4 e5 ?_)
 simp only[Int.toNat_natCast,kx]
 refine bnd (wpAny_rule (wpAny_bind (wpAny_setField e1 e3 (by simp) ?_)))
 show wpAny _ _ (newExc (.type "StopIteration") [] >>= _) _ _ _
 refine bnd ?_
 simp only[newExc,newTuple]
 refine bnd (wpAny_newObj_type ?_ (by size_fits))
 refine (wpAny_bind (m:=firstArgMember _ _)) (wpAny_of_eq (a:=Value.none) (by first|rfl|(simp only[firstArgMember];rfl)) ?_)
 refine wpAny_newObj_type ?_ (by size_fits);simp only[raiseNew]
 refine bnd (wpAny_handled ?_)
 first|rw[show A.in1.handled=none from hh]|rw[hh]
 refine bnd (wpAny_pure (wpAny_throw ?_))
 exact kE _ _ (((Heap.SameBut.update ..).extBut.push _).push _) ⟨_,Heap.get?_push_size _ rfl,rfl⟩
structure Zp(h:Heap)(z TI TO i1 i2 l1 l2:Addr)(f0:Value)(k:Nat):Prop where
 z:IsZip h z TI TO f0
 ti:IsPair h TI (.ref i1) (.ref i2)
 to:∃ a b,IsPair h TO a b
 a1:h.IsTupleIter i1 l1 k
 a2:h.IsTupleIter i2 l2 k
structure ZpD(z TI TO i1 i2:Addr):Prop where
 d1:TI≠z
 d2:TO≠z
 d3:i1≠z
 d4:i2≠z
 d5:TI≠TO
 d6:TI≠i1
 d7:TI≠i2
 d8:TO≠i1
 d9:TO≠i2
 d0:i1≠i2
theorem Zp.keep{h h':Heap}{z TI TO i1 i2 l1 l2:Addr}{f0:Value}{k:Nat}(p:Zp h z TI TO i1 i2 l1 l2 f0 k)(e:∀ b∈[z,TI,TO,i1,i2],∀ o,h.get? b=some o->h'.get? b=some o):Zp h' z TI TO i1 i2 l1 l2 f0 k :=
 ⟨e z (by simp) _ p.z,e TI (by simp) _ p.ti,let ⟨a,b,q⟩:=p.to;⟨a,b,e TO (by simp) _ q⟩,p.a1.at fun o q=>e i1 (by simp) o q,p.a2.at fun o q=>e i2 (by simp) o q⟩
variable{z TI TO i1 i2 l1 l2:Addr}{k:Nat}{xs ys:Array Value}
theorem zln{x y:Value}{Q:Value->Shared->Prop}(D:ZpD z TI TO i1 i2)(p:Zp s.heap z TI TO i1 i2 l1 l2 .none k)(q1:s.heap.IsTuple l1 xs)(q2:s.heap.IsTuple l2 ys)(n1:∀ b∈[z,TI,TO,i1,i2],b≠l1)(n2:∀ b∈[z,TI,TO,i1,i2],b≠l2)
  (hx:xs[k]? = some x) (hy:ys[k]? = some y)
  (hQ:∀ h',Zp h' z TI TO i1 i2 l1 l2 (rawInt s.heap.objs.size) (k+1)->h'.get? s.heap.objs.size=some { cls:=.type "tuple",data:=.seq #[x,y] }->(∀ c o,c≠z->c≠TO->c≠i1->c≠i2->s.heap.get? c=some o->h'.get? c=some o)->Q (.ref s.heap.objs.size) { s with heap:=h' }) :
  wpAny (model prog w) A (Builtin.«zip.__next__» ⟨[.ref z],[]⟩) (fun fin s'=>∃ v,fin=.done (.ret v)/\Q v s') E s:=by
 obtain ⟨pz,pti,⟨oa,ob,pto⟩,pa1,pa2⟩:=p
 show wpAny _ _ (field (.ref z) 2 >>= _) _ _ _
 refine bnd (wpAny_field pz rfl (x:=.bool false) rfl ?_)
 show wpAny _ _ (field (.ref z) 3 >>= _) _ _ _
 refine bnd (wpAny_field pz rfl (x:=.ref TI) rfl ?_)
 refine bnd (wpAny_seqItems pti rfl ?_)
 show wpAny _ _ (Builtin.SmallTypes.ownedTupleIsFree (.ref z) >>= _) _ _ _
 refine bnd ?_
 unfold Builtin.SmallTypes.ownedTupleIsFree
 refine bnd (wpAny_field pz rfl (x:=.none) rfl (wpAny_pure ?_))
 simp only[if_true]
 refine bnd (wpAny_rule ?_)
 refine bnd (wpAny_field pz rfl (x:=.ref TO) rfl ?_)
 refine bnd (wpAny_setField_rec pz (by simp) fun g1 pz1 sb1=>?_)
 have pz1:IsZip g1 z TI TO .ellipsis:=pz1
 refine bnd ?_
 simp only[List.zipIdx_cons,List.zipIdx_nil,List.forIn_cons,List.forIn_nil]
 refine bnd (wpAny_bind (wpAny_onRaise ?_))
 show wpAny _ _ (Builtin.SmallTypes.nextOf (.ref i1) >>= _) _ _ _
 refine bnd (zm3 (pa1.extBut sb1.extBut D.d3) (q1.extBut sb1.extBut (Ne.symm (n1 z (by simp)))) hx fun g2 pa1' sb2=>wpAny_pure ?_)
 have t2:IsPair g2 TO oa ob:=sb2.extBut _ _ D.d8 (sb1.extBut _ _ D.d2 pto)
 refine bnd (wpAny_seqItems t2 rfl ?_)
 refine bnd (wpAny_updateSeq_pair t2 fun g3 t3 sb3=>?_)
 have t3:IsPair g3 TO x ob:=t3
 refine bnd (wpAny_letGo (wpAny_pure ?_))
 refine bnd (wpAny_bind (wpAny_onRaise ?_))
 show wpAny _ _ (Builtin.SmallTypes.nextOf (.ref i2) >>= _) _ _ _
 refine bnd (zm3 (((pa2.extBut sb1.extBut D.d4).extBut sb2.extBut D.d0.symm).extBut sb3.extBut D.d9.symm)
  (((q2.extBut sb1.extBut (Ne.symm (n2 z (by simp)))).extBut sb2.extBut (Ne.symm (n2 i1 (by simp)))).extBut sb3.extBut (Ne.symm (n2 TO (by simp)))) hy fun g4 pa2' sb4=>wpAny_pure ?_)
 have t4:IsPair g4 TO x ob:=sb4.extBut _ _ D.d9 t3
 refine bnd (wpAny_seqItems t4 rfl ?_)
 refine bnd (wpAny_updateSeq_pair t4 fun g5 t5 sb5=>?_)
 have t5:IsPair g5 TO x y:=t5
 refine bnd (wpAny_letGo (wpAny_pure (wpAny_pure ?_)))
 refine bnd (wpAny_seqItems t5 rfl ?_)
 refine bnd (wpAny_newTuple ?_)
 have sz:g5.objs.size=s.heap.objs.size:=by rw[sb5.1,sb4.1,sb3.1,sb2.1,sb1.1]
 have z5:IsZip g5 z TI TO .ellipsis:=sb5.extBut _ _ D.d2.symm (sb4.extBut _ _ D.d4.symm (sb3.extBut _ _ D.d2.symm (sb2.extBut _ _ D.d3.symm pz1)))
 have k5:∀ c o,c≠z->c≠TO->c≠i1->c≠i2->s.heap.get? c=some o->g5.get? c=some o:=fun c o c1 c2 c3 c4 e =>
  sb5.extBut _ _ c2 (sb4.extBut _ _ c4 (sb3.extBut _ _ c2 (sb2.extBut _ _ c3 (sb1.extBut _ _ c1 e))))
 have p1:g5.IsTupleIter i1 l1 (k+1):=((pa1'.extBut sb3.extBut D.d8.symm).extBut sb4.extBut D.d0).extBut sb5.extBut D.d8.symm
 have p2:g5.IsTupleIter i2 l2 (k+1):=pa2'.extBut sb5.extBut D.d9.symm
 have ltz:z<g5.objs.size:=Heap.lt_size z5
 show wpAny _ _ (Builtin.SmallTypes.ownedTupleHandOut (.ref z) (.ref g5.objs.size) >>= _) _ _ _
 refine bnd ?_
 unfold Builtin.SmallTypes.ownedTupleHandOut
 have z6:IsZip (g5.push { cls:=.type "tuple",data:=.seq #[x,y] }) z TI TO .ellipsis:=Heap.get?_push_of_some _ z5
 refine bnd (wpAny_setField_rec z6 (by simp) fun g7 z7 sb7=>?_)
 have z7:IsZip g7 z TI TO (rawInt g5.objs.size):=z7
 refine wpAny_setField_rec z7 (by simp) fun g8 z8 sb8=>?_
 have z8:IsZip g8 z TI TO (rawInt g5.objs.size):=z8
 have up:∀ c o,c≠z->g5.get? c=some o->g8.get? c=some o:=fun c o c1 e=>sb8.extBut _ _ c1 (sb7.extBut _ _ c1 (Heap.get?_push_of_some _ e))
 have t8:g8.get? g5.objs.size=some { cls:=.type "tuple",data:=.seq #[x,y] }:=sb8.extBut _ _ (Nat.ne_of_gt ltz) (sb7.extBut _ _ (Nat.ne_of_gt ltz) (Heap.get?_push_size _ rfl))
 rw[sz] at z8 t8
 refine wpAny_pure ⟨_,rfl,?_⟩
 show Q (.ref g5.objs.size) _
 rw[sz]
 exact hQ g8 ⟨z8,up _ _ D.d1 (k5 _ _ D.d1 D.d5 D.d6 D.d7 pti),⟨x,y,up _ _ D.d2 t5⟩,p1.at fun o e=>up _ o D.d3 e,p2.at fun o e=>up _ o D.d4 e⟩ t8 fun c o c1 c2 c3 c4 e=>up c o c1 (k5 c o c1 c2 c3 c4 e)
theorem zne{Q:PySem.Fin->Shared->Prop}(hh:A.handled=none)(D:ZpD z TI TO i1 i2)(p:Zp s.heap z TI TO i1 i2 l1 l2 .none k)(q1:s.heap.IsTuple l1 xs)(n1:∀ b∈[z,TI,TO,i1,i2],b≠l1)
  (hx:xs[k]? = none)
  (hE:∀ h' e,(∀ c o,c≠z->c≠TO->c≠i1->c≠i2->s.heap.get? c=some o->h'.get? c=some o)->(∃ o,h'.get? e=some o/\o.cls=.type "StopIteration")->E (.ref e) { s with heap:=h' }) :
  wpAny (model prog w) A (Builtin.«zip.__next__» ⟨[.ref z],[]⟩) Q E s:=by
 obtain ⟨pz,pti,⟨oa,ob,pto⟩,pa1,pa2⟩:=p
 show wpAny _ _ (field (.ref z) 2 >>= _) _ _ _
 refine bnd (wpAny_field pz rfl (x:=.bool false) rfl ?_)
 show wpAny _ _ (field (.ref z) 3 >>= _) _ _ _
 refine bnd (wpAny_field pz rfl (x:=.ref TI) rfl ?_)
 refine bnd (wpAny_seqItems pti rfl ?_)
 show wpAny _ _ (Builtin.SmallTypes.ownedTupleIsFree (.ref z) >>= _) _ _ _
 refine bnd ?_
 unfold Builtin.SmallTypes.ownedTupleIsFree
 refine bnd (wpAny_field pz rfl (x:=.none) rfl (wpAny_pure ?_))
 simp only[if_true]
 refine bnd (wpAny_rule ?_)
 refine bnd (wpAny_field pz rfl (x:=.ref TO) rfl ?_)
 refine bnd (wpAny_setField_rec pz (by simp) fun g1 pz1 sb1=>?_)
 have pz1:IsZip g1 z TI TO .ellipsis:=pz1
 refine bnd ?_
 simp only[List.zipIdx_cons,List.zipIdx_nil,List.forIn_cons,List.forIn_nil]
 refine bnd (wpAny_bind (wpAny_onRaise ?_))
 show wpAny _ _ (Builtin.SmallTypes.nextOf (.ref i1) >>= _) _ _ _
 refine bnd (zrN hh (pa1.extBut sb1.extBut D.d3) (q1.extBut sb1.extBut (Ne.symm (n1 z (by simp)))) hx fun g2 e sb2 he=>?_)
 obtain ⟨oe,e1,e2⟩:=he
 have z2:IsZip g2 z TI TO .ellipsis:=sb2 _ _ D.d3.symm pz1
 have ez:e≠z:=fun q=>by subst q;rw[z2] at e1;cases e1;simp at e2
 exact wpAny_setField_rec z2 (by simp) fun g3 _ sb3=>hE g3 e (fun c o c1 _ c3 _ q=>sb3.extBut _ _ c1 (sb2 _ _ c3 (sb1.extBut _ _ c1 q))) ⟨oe,sb3.extBut _ _ ez e1,e2⟩
end
section
variable{X:Cx}{pins:List (Addr×Obj)}{σ:L2.St}{H:Hp}{s:Shared}
theorem zs9{a b:Addr}{xs:List V}(I:L2.Inv X pins σ H s)(hf:zfm X pins H b)(hs:SqT X.K H a xs):b≠a:=by
 rintro rfl
 rcases hs with (h|⟨o,h⟩)|⟨o,its,n,h,_⟩
 ·rw[hf.1] at h;cases h
 ·rw[hf.1] at h;cases h
 ·have hb:=I.mod.kin b o h
  rcases hf.2.2.2.1 with z|z
  ·exact I.ok.noex b o hb z
  ·exact absurd (Nat.lt_of_lt_of_le (Heap.lt_size hb) (Nat.le_trans I.ok.bsz z)) (Nat.lt_irrefl _)
theorem zhk{fp:List Addr}{h':Heap}{o:HO}{a:Addr}{t':Nat}(I:L2.Inv X pins σ H s)(hf:∀ b∈fp,zfm X pins H b)(k:∀ b ob,b∉fp->s.heap.get? b=some ob->h'.get? b=some ob)(hp:s.heap.objs.size<=a)(ht:∀ b ob,s.heap.get? b=some ob->∃ ob',h'.get? b=some ob')
  (new:zct X.prog X.w (upd H a o) h' a o):L2.Inv X pins σ (upd H a o) { s with heap:=h',toks:=t' }:=by
 have hn:=I.hok.fresh hp
 have nf:∀ b u,H b=some u->b∉fp:=fun b u e z=>by rw[(hf b z).1] at e;cases e
 refine I.call (g':=s.gens) (d':=s.drawn) (ch:=fp) ⟨fun b u q _ _ hx=>k b u hx q,fun b u q _ _ hx=>⟨u.slots,k b u hx q⟩,fun b u q n _=>?_,fun b u q hx=>⟨u,k b u hx q⟩,fun b xs q=>?_,fun b u xs q=>?_,fun b ps q=>⟨#[],?_⟩⟩ (fun b u e=>?_) I.bare
  fun b hb=>⟨(hf b hb).2.2.2.1,(hf b hb).2.1,(hf b hb).2.2.2.2.1,(hf b hb).2.2.2.2.2⟩
 ·rw[zai (Nat.ne_of_lt (Nat.lt_of_lt_of_le (Heap.lt_size q) hp))];exact n
 ·rw[zai (zah q hn)];exact q
 ·rw[zai (zah q hn)];exact q
 ·rw[zai (zah q hn),q];simp
 ·by_cases hb:b=a
  ·subst hb;rw[zan] at e;cases e;exact new
  ·rw[zai hb] at e
   refine (I.hok b u e).stay (fun c v hc q=>k c v ?_ q) (fun c q=>by rw[zai (zah q hn)];exact q) fun c xs q=>by rw[zai (zah q hn)];exact q
   rcases hc with z|z
   ·rw[z];exact nf b u e
   ·exact nf c _ z
theorem zf9{fp:List Addr}{h':Heap}{t':Nat}(I:L2.Inv X pins σ H s)(hf:∀ b∈fp,zfm X pins H b)(k:∀ b ob,b∉fp->s.heap.get? b=some ob->h'.get? b=some ob):L2.Inv X pins σ H { s with heap:=h',toks:=t' }:=by
 have nf:∀ b u,H b=some u->b∉fp:=fun b u e z=>by rw[(hf b z).1] at e;cases e
 refine I.call (g':=s.gens) (d':=s.drawn) (ch:=fp) ⟨fun b u q _ _ hx=>k b u hx q,fun b u q _ _ hx=>⟨u.slots,k b u hx q⟩,fun b u q n _=>n,fun b u q hx=>⟨u,k b u hx q⟩,fun b xs q=>q,fun b u xs q=>q,fun b ps q=>⟨#[],by rw[q];simp⟩⟩ (fun b u e=>?_) I.bare
  fun b hb=>⟨(hf b hb).2.2.2.1,(hf b hb).2.1,(hf b hb).2.2.2.2.1,(hf b hb).2.2.2.2.2⟩
 refine (I.hok b u e).stay (fun c v hc q=>k c v ?_ q) (fun _ q=>q) fun _ _ q=>q
 rcases hc with z|z
 ·rw[z];exact nf b u e
 ·exact nf c _ z
end
def Itz(K:W.Frag)(a b:Addr):It :=
 ⟨fun i H=>∃ xs ys x y,SqT K H a xs/\SqT K H b ys/\xs[i]? = some x/\ys[i]? = some y,
   fun i H v H'=>∃ p x y,v=.ref p/\H p=none/\H'=upd H p (.tup [x,y])/\(∀ xs,SqT K H a xs->xs[i]? = some x)/\∀ ys,SqT K H b ys->ys[i]? = some y,
   fun i H=>∃ xs,SqT K H a xs/\xs.length<=i⟩
theorem zqN{P:Program}{w:World}{K:W.Frag}{elts:List Expr}{x1}{ps:Pos}{a b z TI TO i1 i2:Addr}(D:ZpD z TI TO i1 i2):zp5 P w K (.Tuple elts x1 ps) (Itz K a b) [z,TI,TO,i1,i2] z (fun i h=>Zp h z TI TO i1 i2 a b .none i) where
 mem:=by simp
 obj:=fun i h st c hc=>by
  obtain ⟨s1,s2,⟨oa,ob,s3⟩,⟨o4,s4,_,d4⟩,⟨o5,s5,_,d5⟩⟩:=st
  simp only[List.mem_cons,List.not_mem_nil,or_false] at hc
  rcases hc with rfl|rfl|rfl|rfl|rfl
  ·exact ⟨_,s1,fun v q=>by cases q⟩
  ·exact ⟨_,s2,fun v q=>by cases q⟩
  ·exact ⟨_,s3,fun v q=>by cases q⟩
  ·exact ⟨_,s4,fun v q=>by rw[d4] at q;cases q⟩
  ·exact ⟨_,s5,fun v q=>by rw[d5] at q;cases q⟩
 keep:=fun i h h' st k=>st.keep k
 item:=by
  intro X hP hw hK hc i pins s σ H E I hf st hg
  subst hP hw hK
  obtain ⟨xs,ys,x,y,q1,q2,hx,hy⟩:=hg
  obtain ⟨its,rv,p,hz⟩:=I.tuple q1
  obtain ⟨jts,rw',p',hz'⟩:=I.tuple q2
  obtain ⟨u,hu,ru⟩:=rv.get hx
  obtain ⟨v,hv,rv'⟩:=rw'.get hy
  have hT:s.TypeIs (.ref z) "zip":=⟨_,st.z,rfl⟩
  unfold pyNext
  refine wpAny_bind (wpAny_attempt (wpAny_callSpecial?_slot (name:=Str.ofString "__next__") hT F.slot_zip_next (wpAny_call_entry F.slot_zip_next hT F.entry_zip_next
   (zln (l1:=a) (l2:=b) (k:=i) (x:=u) (y:=v) D st (show s.heap.IsTuple a its.toArray from p) (show s.heap.IsTuple b jts.toArray from p') (fun c hc=>zs9 I (hf c hc) q1) (fun c hc=>zs9 I (hf c hc) q2) (by simpa using hu) (by simpa using hv) fun h' st' ht hk=>wpAny_pure ?_) (F.args_zip_next_1 _))))
  refine ⟨_,rfl,wpAny_letOwnedTupleGo_zip st'.z fun h2 hz2 sb=>?_⟩
  have hzp:∀ c∈[z,TI,TO,i1,i2],c≠s.heap.objs.size:=fun c hc q=>by
   obtain ⟨s1,s2,⟨oa,ob,s3⟩,⟨o4,s4,_⟩,⟨o5,s5,_⟩⟩:=st
   simp only[List.mem_cons,List.not_mem_nil,or_false] at hc
   subst q
   rcases hc with rfl|rfl|rfl|rfl|rfl
   ·exact absurd (Heap.lt_size s1) (Nat.lt_irrefl _)
   ·exact absurd (Heap.lt_size s2) (Nat.lt_irrefl _)
   ·exact absurd (Heap.lt_size s3) (Nat.lt_irrefl _)
   ·exact absurd (Heap.lt_size s4) (Nat.lt_irrefl _)
   ·exact absurd (Heap.lt_size s5) (Nat.lt_irrefl _)
  have st2:Zp h2 z TI TO i1 i2 a b .none (i+1):=by
   refine ⟨hz2,sb.extBut _ _ D.d1 st'.ti,?_,st'.a1.extBut sb.extBut D.d3,st'.a2.extBut sb.extBut D.d4⟩
   obtain ⟨oa,ob,q⟩:=st'.to
   exact ⟨oa,ob,sb.extBut _ _ D.d2 q⟩
  have hk2:∀ c ob,c∉[z,TI,TO,i1,i2]->s.heap.get? c=some ob->h2.get? c=some ob:=fun c ob nc e=>by
   simp only[List.mem_cons,List.not_mem_nil,or_false,not_or] at nc
   exact sb.extBut _ _ nc.1 (hk c ob nc.1 nc.2.2.1 nc.2.2.2.1 nc.2.2.2.2 e)
  have hth:∀ c ob,s.heap.get? c=some ob->∃ ob',h2.get? c=some ob':=fun c ob e=>by
   by_cases nc:c∈[z,TI,TO,i1,i2]
   ·obtain ⟨s1,s2,⟨oa,ob,s3⟩,⟨o4,s4,_⟩,⟨o5,s5,_⟩⟩:=st2
    simp only[List.mem_cons,List.not_mem_nil,or_false] at nc
    rcases nc with rfl|rfl|rfl|rfl|rfl
    ·exact ⟨_,s1⟩
    ·exact ⟨_,s2⟩
    ·exact ⟨_,s3⟩
    ·exact ⟨_,s4⟩
    ·exact ⟨_,s5⟩
   ·exact ⟨ob,hk2 c ob nc e⟩
  have hnew:h2.get? s.heap.objs.size=some { cls:=.type "tuple",data:=.seq #[u,v] }:=sb.extBut _ _ (Ne.symm (hzp z (by simp))) ht
  have IN:L2.Inv X pins σ (upd H s.heap.objs.size (.tup [x,y])) { s with heap:=h2 }:=zhk (s:=s) (t':=s.toks) (o:=.tup [x,y]) I hf hk2 (Nat.le_refl _) hth ⟨by show 2<=sizeLine;decide,[u,v],.cons ru (.cons rv' .nil),0,hnew⟩
  exact ⟨.ref s.heap.objs.size,_,IN,rfl,
   ⟨_,x,y,rfl,I.hok.fresh (Nat.le_refl _),rfl,fun zs q=>by rw[I.tuple_inj q q1];exact hx,fun zs q=>by rw[I.tuple_inj q q2];exact hy⟩,st2,fun c hc=>by rw[zai (hzp c hc)];exact (hf c hc).1⟩
 done:=by
  intro X hP hw hK hc i pins s σ H E I hf st hg
  subst hP hw hK
  obtain ⟨xs,q1,hx⟩:=hg
  obtain ⟨its,rv,p,hz⟩:=I.tuple q1
  have hl:=rv.length
  have hT:s.TypeIs (.ref z) "zip":=⟨_,st.z,rfl⟩
  unfold pyNext
  refine wpAny_bind (wpAny_attempt (wpAny_callSpecial?_slot (name:=Str.ofString "__next__") hT F.slot_zip_next (wpAny_call_entry F.slot_zip_next hT F.entry_zip_next
   (zne (l1:=a) (l2:=b) (k:=i) (xs:=its.toArray) (I.ok.hd hc) D st (show s.heap.IsTuple a its.toArray from p) (fun c hc=>zs9 I (hf c hc) q1) (by simp;omega) fun h' e hk he=>?_) (F.args_zip_next_1 _))))
  obtain ⟨o,ho,hcl⟩:=he
  refine wpAny_bind (wpAny_isInstance (T:="StopIteration") (b:=true) ⟨o,ho,hcl⟩ isSubtype_stop (wpAny_pure ⟨rfl,?_⟩))
  refine zf9 (t':=s.toks) I hf fun c ob nc e=>?_
  simp only[List.mem_cons,List.not_mem_nil,or_false,not_or] at nc
  exact hk c ob nc.1 nc.2.2.1 nc.2.2.2.1 nc.2.2.2.2 e
 self:=fun _ _ _ _ _ st h=>wpAny_pyIter_zip st.z h
section
variable{prog:Program}{w:World}{A:Around}{E:Value->Shared->Prop}{s:Shared}
abbrev zt1(h:Heap)(a:Addr):Heap:=h.push { cls:=.type "tuple_iterator",data:=.fields #[.ref a,.int 0 0] }
abbrev zt2(h:Heap)(a b:Addr):Heap:=(zt1 h a).push { cls:=.type "tuple_iterator",data:=.fields #[.ref b,.int 0 0] }
abbrev zt3(h:Heap)(a b:Addr):Heap:=(zt2 h a b).push { cls:=.type "tuple",data:=.seq #[.ref h.objs.size,.ref (zt1 h a).objs.size] }
abbrev zt4(h:Heap)(a b:Addr):Heap:=(zt3 h a b).push { cls:=.type "tuple",data:=.seq #[.none,.none] }
abbrev zt5(h:Heap)(a b:Addr):Heap:=(zt4 h a b).push { cls:=.type "zip",data:=.fields #[.none,.bool false,.bool false,.ref (zt2 h a b).objs.size,.ref (zt3 h a b).objs.size] }
theorem ztY(a b:Addr)(xs ys:Array Value):Meets (Builtin.«zip.__new__» ⟨[.type "zip",.ref a,.ref b],[]⟩) (fun _ R s=>s.heap.IsTuple a xs/\s.heap.IsTuple b ys/\R (.ok (.ret (.ref (zt4 s.heap a b).objs.size))) { s with heap:=zt5 s.heap a b }) :=
 .of_wp fun prog w A R s h=>by
  obtain ⟨hp,g,d,tk,os⟩:=s
  obtain ⟨k1,k2,h⟩:=h
  have hsub:=sub_zip
  have t1:Heap.IsTuple (Shared.heap ⟨hp,g,d,tk,os⟩) a xs:=k1
  have t2:Heap.IsTuple (Shared.heap ⟨hp.push { cls:=.type "tuple_iterator",data:=.fields #[.ref a,.int 0 0] },g,d,tk,os⟩) b ys:=Heap.IsTuple.push k2 _
  wp_walk using wpAny_pyIter_tuple t1,wpAny_pyIter_tuple t2
  exact ⟨_,rfl,h⟩
theorem zs1{a b:Addr}{xs ys:Array Value}{Q:Value->Shared->Prop}(k1:s.heap.IsTuple a xs)(k2:s.heap.IsTuple b ys)
  (h:∀ h',Zp h' (s.heap.objs.size+4) (s.heap.objs.size+2) (s.heap.objs.size+3) s.heap.objs.size (s.heap.objs.size+1) a b .none 0->(∀ c o,s.heap.get? c=some o->h'.get? c=some o)->Q (.ref (s.heap.objs.size+4)) { s with heap:=h' }) :
  wpAny (model prog w) A (call (.type "zip") [.ref a,.ref b]) Q E s:=by
 refine callType_new F.called_zip (by decide) (F.typeCall_zip_2 _ _) (F.newCall_zip_2 _ _) (fun obj=>F.args_object_init_3 obj _ _) F.entry_zip_new (ztY a b xs ys) ⟨k1,k2,?_⟩
 have e1:(zt1 s.heap a).objs.size=s.heap.objs.size+1:=Heap.size_push ..
 have e2:(zt2 s.heap a b).objs.size=s.heap.objs.size+2:=by rw[Heap.size_push,e1]
 have e3:(zt3 s.heap a b).objs.size=s.heap.objs.size+3:=by rw[Heap.size_push,e2]
 have e4:(zt4 s.heap a b).objs.size=s.heap.objs.size+4:=by rw[Heap.size_push,e3]
 have g5:(zt5 s.heap a b).get? (zt4 s.heap a b).objs.size=some _:=Heap.get?_push_size _ rfl
 have g4:(zt5 s.heap a b).get? (zt3 s.heap a b).objs.size=some _:=Heap.get?_push_of_some _ (Heap.get?_push_size _ rfl)
 have g3:(zt5 s.heap a b).get? (zt2 s.heap a b).objs.size=some _:=Heap.get?_push_of_some _ (Heap.get?_push_of_some _ (Heap.get?_push_size _ rfl))
 have g2:(zt5 s.heap a b).get? (zt1 s.heap a).objs.size=some _:=Heap.get?_push_of_some _ (Heap.get?_push_of_some _ (Heap.get?_push_of_some _ (Heap.get?_push_size _ rfl)))
 have g1:(zt5 s.heap a b).get? s.heap.objs.size=some _:=Heap.get?_push_of_some _ (Heap.get?_push_of_some _ (Heap.get?_push_of_some _ (Heap.get?_push_of_some _ (Heap.get?_push_size _ rfl))))
 show _/\_
 rw[e2,e3,e4] at g5
 rw[e1,e2] at g3
 rw[e3] at g4
 rw[e1] at g2
 rw[e4]
 exact ⟨⟨_,g5,rfl⟩,h _ ⟨g5,g3,⟨_,_,g4⟩,⟨_,g1,rfl,rfl⟩,⟨_,g2,rfl,rfl⟩⟩ fun c o q=>Heap.get?_push_of_some _ (Heap.get?_push_of_some _ (Heap.get?_push_of_some _ (Heap.get?_push_of_some _ (Heap.get?_push_of_some _ q))))⟩
end
theorem zuA(n:Nat):ZpD (n+4) (n+2) (n+3) n (n+1):=by
 constructor <;> (intro h;have h:(_:Nat)=(_:Nat):=h;omega)
theorem zup{K:W.Frag}{G:Hp}{a b:Addr}{vs us:List V}{ds es:List Dt}(hs:SqT K G a vs)(ht:SqT K G b us)(q:zaB K G ds vs)(q':zaB K G es us)(hl:ds.length=es.length):zp3 K (Itz K a b) G ((ds.zip es).map fun z=>.tup [z.1,z.2]):=fun i G1 H s1 s2=>by
 have h1:=zbc s2 (zbc s1 hs)
 have h2:=zbc s2 (zbc s1 ht)
 refine ⟨fun d e=>?_,fun h=>⟨vs,h1,?_⟩⟩
 ·rw[List.getElem?_map] at e
  have hi:i<ds.length:=by
   by_cases hi:i<ds.length
   ·exact hi
   ·rw[List.getElem?_eq_none (by rw[List.length_zip];omega)] at e;cases e
  have z1:ds[i]? = some ds[i]:=by simp[hi]
  have z2:es[i]? = some (es[i]'(by omega)):=by simp[show i<es.length by omega]
  obtain ⟨v,e1,e2⟩:=q.get z1
  obtain ⟨u,e3,e4⟩:=q'.get z2
  have ed:d=.tup [ds[i],es[i]'(by omega)]:=by
   rw[(List.getElem?_zip_eq_some (z:=(ds[i],es[i]'(by omega)))).mpr ⟨z1,z2⟩] at e
   exact (Option.some.inj e).symm
  refine ⟨⟨vs,us,v,u,h1,h2,e1,e3⟩,fun x H' y=>?_⟩
  obtain ⟨p,x',y',rfl,hp,rfl,k1,k2⟩:=y
  have kx:=k1 vs h1
  have ky:=k2 us h2
  rw[e1] at kx;rw[e3] at ky
  cases kx;cases ky
  have gr:zec G1 H (upd G1 p (.tup [v,u])) (upd H p (.tup [v,u])):=.new s2 hp
  refine ⟨_,gr,?_⟩
  rw[ed]
  unfold Rep
  exact ⟨p,[v,u],rfl,zjU.of zan,zaB.cons ((e2.same s1).same gr.g) (zaB.cons ((e4.same s1).same gr.g) zaB.nil)⟩
 ·rw[<- q.length]
  simpa [hl] using h
section
variable{X:Cx}{C:Cn}{elts:List Expr}{x1:Nat}{pt:Pos}{a b:Expr}{fa fb:De}{p pos:Pos}
end
def znx{α:Type}(p:Int×α):List (Int×α)->List (Int×α)
 |[]=>[p]
 |q::r=>if p.1<=q.1 then p::q::r else q::znx p r
def zhP{α:Type}:List (Int×α)->List (Int×α)
 |[]=>[]
 |p::r=>znx p (zhP r)
theorem zh6{α:Type}(p:Int×α):∀ l:List (Int×α),(znx p l).Perm (p::l)
 |[]=>.refl _
 |q::r=>by
  unfold znx
  split
  ·exact .refl _
  ·exact ((zh6 p r).cons q).trans (.swap p q r)
theorem zdy{α:Type}:∀ l:List (Int×α),(zhP l).Perm l
 |[]=>.refl _
 |p::r=>(zh6 p _).trans ((zdy r).cons p)
theorem zmD{α:Type}(p:Int×α):∀ l:List (Int×α),l.Pairwise (fun a b=>a.1<=b.1)->(znx p l).Pairwise (fun a b=>a.1<=b.1)
 |[],_=>by simp[znx]
 |q::r,h=>by
  unfold znx
  rw[List.pairwise_cons] at h
  split
  ·rename_i z
   refine List.pairwise_cons.mpr ⟨fun x hx=>?_,List.pairwise_cons.mpr h⟩
   rcases List.mem_cons.mp hx with rfl|hx
   ·exact z
   ·exact Int.le_trans z (h.1 x hx)
  ·rename_i z
   refine List.pairwise_cons.mpr ⟨fun x hx=>?_,zmD p r h.2⟩
   rcases List.mem_cons.mp ((zh6 p r).mem_iff.mp hx) with rfl|hx
   ·omega
   ·exact h.1 x hx
theorem zhz{α:Type}:∀ l:List (Int×α),(zhP l).Pairwise (fun a b=>a.1<=b.1)
 |[]=>.nil
 |p::r=>zmD p _ (zhz r)
theorem zsq{α:Type}:∀{a b:List (Int×α)},a.Perm b->(a.map (·.1)).Nodup->a.Pairwise (fun x y=>x.1<=y.1)->b.Pairwise (fun x y=>x.1<=y.1)->a=b
 |[],b,p,_,_,_=>p.nil_eq
 |x::r,b,p,hn,ha,hb=>by
  cases b with
  |nil=>exact absurd p.length_eq (by simp)
  |cons y t =>
   have hx:x∈y::t:=p.mem_iff.mp (.head _)
   have hy:y∈x::r:=p.mem_iff.mpr (.head _)
   rw[List.map_cons,List.nodup_cons] at hn
   have e:x=y:=by
    rcases List.mem_cons.mp hy with h'|h'
    ·exact h'.symm
    ·rcases List.mem_cons.mp hx with h|h
     ·exact h
     ·have a1:=(List.pairwise_cons.mp ha).1 y h'
      have a2:=(List.pairwise_cons.mp hb).1 x h
      have e1:x.1=y.1:=by omega
      exact absurd (List.mem_map.mpr ⟨y,h',e1.symm⟩) hn.1
   subst e
   rw[zsq (List.Perm.cons_inv p) hn.2 (List.pairwise_cons.mp ha).2 (List.pairwise_cons.mp hb).2]
def byK{α:Type}(ks:List Int)(l:List α):List α:=(zhP (ks.zip l)).map (·.2)
theorem zkw{α β:Type}{F:α->β->Prop}{p:Int×α}{q:Int×β}(hp:p.1=q.1/\F p.2 q.2):∀{l:List (Int×α)}{r:List (Int×β)},Paired (fun x y=>x.1=y.1/\F x.2 y.2) l r->Paired (fun x y=>x.1=y.1/\F x.2 y.2) (znx p l) (znx q r)
 |_,_,.nil=>.cons hp .nil
 |x::l,y::r,.cons h t=>by
  unfold znx
  rw[hp.1,h.1]
  split
  ·exact .cons hp (.cons h t)
  ·exact .cons h (zkw hp t)
theorem zio{α β:Type}{F:α->β->Prop}:∀{l:List (Int×α)}{r:List (Int×β)},Paired (fun x y=>x.1=y.1/\F x.2 y.2) l r->Paired (fun x y=>x.1=y.1/\F x.2 y.2) (zhP l) (zhP r)
 |_,_,.nil=>.nil
 |_,_,.cons h t=>zkw h (zio t)
theorem zmr{α β:Type}{F:α->β->Prop}:∀(ks:List Int){l:List α}{r:List β},Paired F l r->Paired (fun x y=>x.1=y.1/\F x.2 y.2) (ks.zip l) (ks.zip r)
 |[],_,_,_=>by simpa using Paired.nil
 |k::ks,_,_,.nil=>by simpa using Paired.nil
 |k::ks,_,_,.cons h t=>.cons ⟨rfl,h⟩ (zmr ks t)
theorem zmd{α β:Type}{F:α->β->Prop}:∀{l:List (Int×α)}{r:List (Int×β)},Paired (fun x y=>x.1=y.1/\F x.2 y.2) l r->Paired F (l.map (·.2)) (r.map (·.2))
 |_,_,.nil=>.nil
 |_,_,.cons h t=>.cons h.2 (zmd t)
theorem zmb{α β:Type}{F:α->β->Prop}(ks:List Int){l:List α}{r:List β}(h:Paired F l r):Paired F (byK ks l) (byK ks r):=zmd (zio (zmr ks h))
theorem zdO{K:W.Frag}{G:Hp}:∀{ds:List Dt}{vs:List V},zaB K G ds vs ↔ Paired (Rep K G) ds vs
 |[],vs=>⟨fun h=>by rw[h.nil_inv];exact .nil,fun h=>by cases h;exact zaB.nil⟩
 |d::ds,vs=>⟨fun h=>by
   obtain ⟨v,r,rfl,h1,h2⟩:=h.cons_inv
   exact .cons h1 (zdO.mp h2),fun h=>by
   cases h with
   |cons h1 h2=>exact zaB.cons h1 (zdO.mpr h2)⟩
theorem zpV{K:W.Frag}{G:Hp}(ks:List Int){ds:List Dt}{vs:List V}(h:zaB K G ds vs):zaB K G (byK ks ds) (byK ks vs):=zdO.mpr (zmb ks (zdO.mp h))
theorem zrK{α:Type}{ks:List Int}{l:List α}(h:ks.length=l.length):(byK ks l).length=l.length:=by
 unfold byK
 rw[List.length_map,(zdy _).length_eq,List.length_zip,h,Nat.min_self]
section
variable{X:Cx}{pins:List (Addr×Obj)}{σ:L2.St}{H:Hp}{s:Shared}
theorem zoD{fp:List Addr}{h':Heap}{o:HO}{a:Addr}{t':Nat}(I:L2.Inv X pins σ H s)(hf:∀ b∈fp,zfm X pins H b)(ha:a∈fp)(k:∀ b ob,b∉fp->s.heap.get? b=some ob->h'.get? b=some ob)
  (new:zct X.prog X.w (upd H a o) h' a o):L2.Inv X pins σ (upd H a o) { s with heap:=h',toks:=t' }:=by
 have hn:=(hf a ha).1
 have nf:∀ b u,H b=some u->b∉fp:=fun b u e z=>by rw[(hf b z).1] at e;cases e
 refine I.call (g':=s.gens) (d':=s.drawn) (ch:=fp) ⟨fun b u q _ _ hx=>k b u hx q,fun b u q _ _ hx=>⟨u.slots,k b u hx q⟩,fun b u q n hx=>?_,fun b u q hx=>⟨u,k b u hx q⟩,fun b xs q=>?_,fun b u xs q=>?_,fun b ps q=>⟨#[],?_⟩⟩ (fun b u e=>?_) I.bare
  fun b hb=>⟨(hf b hb).2.2.2.1,(hf b hb).2.1,(hf b hb).2.2.2.2.1,(hf b hb).2.2.2.2.2⟩
 ·rw[zai (show b≠a from fun z=>hx (by rw[z];exact ha))];exact n
 ·rw[zai (zah q hn)];exact q
 ·rw[zai (zah q hn)];exact q
 ·rw[zai (zah q hn),q];simp
 ·by_cases hb:b=a
  ·subst hb;rw[zan] at e;cases e;exact new
  ·rw[zai hb] at e
   refine (I.hok b u e).stay (fun c v hc q=>k c v ?_ q) (fun c q=>by rw[zai (zah q hn)];exact q) fun c xs q=>by rw[zai (zah q hn)];exact q
   rcases hc with z|z
   ·rw[z];exact nf b u e
   ·exact nf c _ z
theorem zuj{A':Around}{xe':Value->Shared->Prop}(I:L2.Inv X pins σ H s)(h1:A'.frames=X.A.frames)(h2:A'.handled=X.A.handled):L2.Inv { X with A:=A',xe:=xe' } pins σ H s :=
 ⟨⟨I.ok.mod,I.ok.kind,I.ok.glob,I.ok.blt,I.ok.above,I.ok.inj,I.ok.has,I.ok.cab,fun z=>h2.trans (I.ok.hd z),h1.trans I.ok.frames,I.ok.stk,I.ok.exf,I.ok.bs,I.ok.bsz,I.ok.noex,I.ok.exfs,I.ok.funs,I.ok.frf⟩,I.os,I.bare,I.base,I.loc,I.cell,I.free,I.freeC,I.pin,I.hok,I.len⟩
theorem zsx{A':Around}{xe':Value->Shared->Prop}(I:L2.Inv { X with A:=A',xe:=xe' } pins σ H s)(h1:A'.frames=X.A.frames)(h2:A'.handled=X.A.handled):L2.Inv X pins σ H s :=
 ⟨⟨I.ok.mod,I.ok.kind,I.ok.glob,I.ok.blt,I.ok.above,I.ok.inj,I.ok.has,I.ok.cab,fun z=>h2.symm.trans (I.ok.hd z),h1.symm.trans I.ok.frames,I.ok.stk,I.ok.exf,I.ok.bs,I.ok.bsz,I.ok.noex,I.ok.exfs,I.ok.funs,I.ok.frf⟩,I.os,I.bare,I.base,I.loc,I.cell,I.free,I.freeC,I.pin,I.hok,I.len⟩
end
end PV
end
section
namespace PV
open PySem PySem.Spec L2 PyProof.Rows
section
variable{X:Cx}{pins:List (Addr×Obj)}{σ:L2.St}{H:Hp}{s:Shared}
theorem zvh{kS:Addr}{o o':Obj}{zcc:List (Addr×Obj)}{h':Heap}{t':Nat}(J:L2.Inv X (pins++(kS,o)::zcc) σ H s)(hf:zfm X (pins++zcc) H kS)(hs:∀ b ob,b≠kS->s.heap.get? b=some ob->h'.get? b=some ob)(ho:h'.get? kS=some o')(hd:∀ v,o'.data≠.cell v) :
  L2.Inv X (pins++(kS,o')::zcc) σ H { s with heap:=h',toks:=t' }:=by
 have J1:L2.Inv X (pins++zcc) σ H s:=J.pins_of fun p hp=>by
  refine J.pin p (List.mem_append_right _ ?_)
  rcases List.mem_append.mp hp with z|z
  ·exact List.mem_append_left _ z
  ·exact List.mem_append_right _ (List.mem_cons_of_mem _ z)
 have J2:L2.Inv X (pins++zcc) σ H { s with heap:=h',toks:=t' }:=zf9 (fp:=[kS]) J1 (fun b hb=>by rw[List.mem_singleton.mp hb];exact hf) fun b ob nb e=>hs b ob (fun z=>nb (by simp[z])) e
 refine J2.pins_of fun p hp=>?_
 rcases List.mem_append.mp hp with z|z
 ·exact J2.pin p (List.mem_append_right _ (List.mem_append_left _ z))
 ·rcases List.mem_cons.mp z with rfl|z
  ·exact ⟨ho,hf.1,hf.2.1,hf.2.2.1,hd⟩
  ·exact J2.pin p (List.mem_append_right _ (List.mem_append_right _ z))
theorem zuV{pins pins':List (Addr×Obj)}{H':Hp}{b:Addr}(h:zfm X pins H b)(hn:H' b=none)(hp:∀ p∈pins',p∈pins\/p.1≠b):zfm X pins' H' b :=
 ⟨hn,h.2.1,h.2.2.1,h.2.2.2.1,h.2.2.2.2.1,fun p q=>by
  rcases List.mem_append.mp q with z|z
  ·exact h.2.2.2.2.2 p (List.mem_append_left _ z)
  ·rcases hp p z with y|y
   ·exact h.2.2.2.2.2 p (List.mem_append_right _ y)
   ·exact y⟩
variable{kS a:Addr}{kz:List Int}{vs:List Value}{xs:List V}{Θ : Hp->Prop}{e1:Nat}{A:Around}{E:Value->Shared->Prop}{P:PySem.Fin->Shared->Prop}
abbrev lo(ys:Array Value)(n:Nat):Obj:=seqObj "list" ys n
theorem zry{st:SortSt}{keys:Array Value}{e:Nat}(J:L2.Inv X (pins++(kS,lo keys e)::[(a,lo #[] e1)]) σ H s)(hka:kS≠a)(fk:zfm X pins H kS)(fa:zfm X pins H a)(hv:zbp xs vs)(hk:IntsAre keys.toList kz)(hlen:kz.length=vs.length)(h64:vs.length<64)(hnd:kz.Nodup)
  (hp:(arrOf st).Perm (keys.zip vs.toArray)) (hs:SortedTo (arrOf st) (arrOf st).size) (hfl:failedOf st=none)
  (h:∀ h' tk,L2.Inv X pins σ (upd H a (.lst (byK kz xs))) { s with heap:=h',toks:=tk }->P (.done (.ret .none)) { s with heap:=h',toks:=tk }) :
  wpAny (model X.prog X.w) A (ksk_tail a false e1 (.ref kS) st) P E s:=by
 have nk:=(J.pin (kS,lo keys e) (by simp)).1
 have na:=(J.pin (a,lo #[] e1) (by simp)).1
 have hsz:keys.size=vs.length:=by
  have q:=hk.length
  rw[Array.length_toList] at q
  omega
 have hsz2:(arrOf st).size=vs.length:=by rw[hp.size_eq,Array.size_zip,hsz,List.size_toArray,Nat.min_self]
 have s1:=Heap.SameBut.update s.heap kS (Obj.mapSeq fun _=>(#[]:Array Value))
 have na1:(s.heap.update kS (Obj.mapSeq fun _=>(#[]:Array Value))).get? a=some (lo #[] e1):=(s1.2 a hka.symm).trans na
 have s2:=Heap.SameBut.update (s.heap.update kS (Obj.mapSeq fun _=>(#[]:Array Value))) a (Obj.mapSeq fun _=>(arrOf st).map (·.2))
 obtain ⟨c2,hc2⟩ : ∃ c2,((s.heap.update kS (Obj.mapSeq fun _=>(#[]:Array Value))).update a (Obj.mapSeq fun _=>(arrOf st).map (·.2))).get? a=some (lo ((arrOf st).map (·.2)) c2):=⟨_,get?_update_seq na1 fun _=>(arrOf st).map (·.2)⟩
 obtain ⟨ps,q1,q2,q3⟩:=ksk_out (b:=false) hk hp hs
 have hmap:∀(l:List Int)(r:List Value),l.length=r.length->(l.zip r).map (·.1)=l:=fun l r hl=>by
  rw[List.map_fst_zip];omega
 have eo:ps=zhP (kz.zip vs):=by
  refine zsq (q1.trans (zdy _).symm) ?_ (by simpa using q3) (zhz _)
  have z:=q1.map Prod.fst
  rw[z.nodup_iff]
  rw[show (kz.zip vs).map Prod.fst=kz from hmap kz vs hlen]
  exact hnd
 have eout:((arrOf st).map (·.2)).toList=byK kz vs:=by
  have z:((if false=true then ((arrOf st).map (·.2)).reverse else (arrOf st).map (·.2)):Array Value).toList=ps.map Prod.snd:=q2
  rw[if_neg Bool.false_ne_true] at z
  rw[z,eo];rfl
 have J0:L2.Inv X pins σ H s:=J.unpinned
 unfold ksk_tail
 try dsimp only
 refine wpAny_bind (listUpdate_at nk rfl ?_ (by rw[hsz,sizeLine_eq];omega) (Nat.zero_le _))
 refine wpAny_bind (wpAny_letGo (wpAny_bind (seqEpoch_at na1 rfl ?_)))
 refine wpAny_bind (listUpdate_at na1 rfl ?_ (Nat.zero_le _) (by simp only[Bool.false_eq_true,if_false,Array.size_map];rw[hsz2,sizeLine_eq];omega))
 rw[hfl]
 simp only[bne_self_eq_false,Bool.false_eq_true,if_false]
 refine wpAny_pure (h _ s.toks (zoD (fp:=[kS,a]) (s:=s) (t':=s.toks) J0 (fun b hb=>?_) (by simp) (fun b ob nb q=>?_) ⟨?_,byK kz vs,c2,zmb kz hv,?_⟩))
 ·simp only[List.mem_cons,List.not_mem_nil,or_false] at hb
  rcases hb with rfl|rfl
  ·exact fk
  ·exact fa
 ·simp only[List.mem_cons,List.not_mem_nil,or_false,not_or] at nb
  exact (s2.2 b nb.2).trans ((s1.2 b nb.1).trans q)
 ·have hl:=hv.length
  rw[zrK (by omega),zcq];omega
 ·rw[<- eout,Array.toArray_toList];exact hc2
theorem zvf{keys:Array Value}{e:Nat}(J:L2.Inv X (pins++(kS,lo keys e)::[(a,lo #[] e1)]) σ H s)(hka:kS≠a)(fk:zfm X pins H kS)(fa:zfm X pins H a)(hv:zbp xs vs)(hk:IntsAre keys.toList kz)(hlen:kz.length=vs.length)(h64:vs.length<64)(hnd:kz.Nodup)
  (h:∀ h' tk,L2.Inv X pins σ (upd H a (.lst (byK kz xs))) { s with heap:=h',toks:=tk }->P (.done (.ret .none)) { s with heap:=h',toks:=tk }) :
  wpAny (model X.prog X.w) A (ksk_end a false vs.toArray e1 (.ref kS) keys) P E s:=by
 have hsz:keys.size=vs.length:=by
  have q:=hk.length
  rw[Array.length_toList] at q
  omega
 have hzs:(keys.zip vs.toArray).size=vs.length:=by rw[Array.size_zip,hsz,List.size_toArray,Nat.min_self]
 unfold ksk_end
 try dsimp only
 simp only[Bool.false_eq_true,if_false]
 by_cases h2:vs.toArray.size<2
 ·rw[if_pos h2,if_pos h2]
  refine wpAny_bind (wpAny_pure ?_)
  rw[StateT.run_pure]
  refine wpAny_bind (wpAny_pure ?_)
  try dsimp only
  refine zry (st:=SortSt.mk' general' (keys.zip vs.toArray) #[] 7 none) J hka fk fa hv hk hlen h64 hnd (Array.Perm.refl _) (fun i j hij hj=>?_) rfl h
  have hj2:j<(keys.zip vs.toArray).size:=hj
  rw[hzs] at hj2
  rw[List.size_toArray] at h2
  have:i=j:=by omega
  subst this
  exact Int.le_refl _
 ·rw[if_neg h2,if_neg h2]
  rw[List.size_toArray] at h2
  rw[ksk_kind hk (by rw[hsz];omega)]
  refine wpAny_bind (wpAny_pure (wpAny_bind (wpAny_mono (wpS_sortRuns (a₀:=keys.zip vs.toArray) (st:=SortSt.mk' oneType' (keys.zip vs.toArray) #[] 7 none)
   (Q:=fun _ st'=>(arrOf st').Perm (keys.zip vs.toArray)/\failedOf st'=none/\SortedTo (arrOf st') (keys.zip vs.toArray).size)
   (ksk_intKeys hk) ⟨Array.Perm.refl _,rfl,rfl,rfl⟩ (by rw[hzs];omega) (by rw[hzs];exact h64) fun st' a1 a2 a3=>⟨a1,a2,a3⟩) ?_ fun _ _ e=>e)))
  rintro ⟨⟨⟩,st'⟩ s' ⟨rfl,hp,hf,hs⟩
  try dsimp only
  exact zry J hka fk fa hv hk hlen h64 hnd hp (by rw[hp.size_eq];exact hs) hf h
theorem ztK{f:Value}(J:L2.Inv X (pins++(kS,lo #[] 0)::[(a,lo #[] e1)]) σ H s)(hka:kS≠a)(fk:zfm X pins H kS)(fa:zfm X pins H a)(hv:zbp xs vs)(hlen:kz.length=vs.length)(h64:vs.length<64)(hnd:kz.Nodup)(hθ : Θ H)
  (turn:∀(i:Nat)(u:Value)(k:Int),vs[i]? = some u->kz[i]? = some k->∀(pins':List (Addr×Obj))(s':Shared)(H':Hp),L2.Inv X pins' σ H' s'->Θ H'->wpAny (model X.prog X.w) A (call f [u]) (fun r s2=>∃ t H2,r=.int k t/\L2.Inv X pins' σ H2 s2/\Θ H2) (fun _ _=>False) s')
  (h:∀ H2 s2,Θ H2->H2 a=none->L2.Inv X pins σ (upd H2 a (.lst (byK kz xs))) s2->P (.done (.ret .none)) s2) :
  wpAny (model X.prog X.w) A (ksk_rest a f false vs.toArray e1 (.ref kS)) P E s:=by
 unfold ksk_rest
 refine wpAny_bind (wpAny_rule ?_)
 first
  |rw[List.forIn_toArray]
  | (rw[<- Array.forIn_toList];simp only[List.toList_toArray])
 refine wpAny_bind (ksk_fold (fun i s'=>∃ H' kA e,Θ H'/\L2.Inv X (pins++(kS,lo kA e)::[(a,lo #[] e1)]) σ H' s'/\IntsAre kA.toList (kz.take i)) vs 0 s ⟨H,#[],0,hθ,J,by simpa using IntsAre.nil⟩ ?step ?done)
 case step =>
  rintro j x s' hx ⟨H',kA,e,hθ',J',hk⟩
  simp only[Nat.zero_add] at hk ⊢
  have hj:j<vs.length:=(List.getElem?_eq_some_iff.mp hx).1
  obtain ⟨k,hkj⟩ : ∃ k,kz[j]? = some k:=⟨_,List.getElem?_eq_getElem (by omega)⟩
  have hz:kA.size<=vs.length:=by
   have q:=hk.length
   rw[Array.length_toList,List.length_take] at q
   omega
  refine wpAny_bind (wpAny_attempt (wpAny_mono (turn j x k hx hkj _ s' H' J' hθ') (fun v s'' he=>?_) fun _ _ z=>z.elim))
  obtain ⟨t,H2,rfl,J2,hθ2⟩:=he
  try dsimp only
  have nk:=J2.pin (kS,lo kA e) (by simp)
  obtain ⟨c2,hc2⟩ : ∃ c2,(s''.heap.update kS (Obj.mapSeq (·.push (.int k t)))).get? kS=some (lo (kA.push (.int k t)) c2):=⟨_,get?_update_seq nk.1 (·.push (.int k t))⟩
  have s1:=Heap.SameBut.update s''.heap kS (Obj.mapSeq (·.push (.int k t)))
  refine wpAny_bind (listUpdate_at nk.1 rfl ?_ (by rw[sizeLine_eq];omega) (Nat.le_trans (Nat.le_of_eq (Array.size_push ..)) (by rw[sizeLine_eq];omega)))
  refine wpAny_pure ⟨rfl,H2,kA.push (.int k t),c2,hθ2,zvh (t':=s''.toks) J2 (zuV fk nk.2.1 fun p hp=>?_) (fun b ob nb q=>(s1.2 b nb).trans q) hc2 (fun v z=>by cases z),?_⟩
  ·rcases List.mem_append.mp hp with z|z
   ·exact .inl z
   ·exact .inr (by rw[List.mem_singleton.mp z];exact hka.symm)
  ·have ek:kz.take (j+1)=kz.take j++[k]:=by rw[List.take_add_one,hkj];simp
   have ea:(kA.push (Value.int k t)).toList=kA.toList++[Value.int k t]:=by simp
   rw[ea,ek];exact ksk_snoc hk
 case done =>
  rintro s' ⟨H',kA,e,hθ',J',hk⟩
  have hk':IntsAre kA.toList kz:=by
   rw[show kz.take (0+vs.length)=kz from List.take_of_length_le (by omega)] at hk
   exact hk
  have nk:=J'.pin (kS,lo kA e) (by simp)
  have na:=J'.pin (a,lo #[] e1) (by simp)
  try dsimp only
  refine wpAny_bind (listItems_at nk.1 rfl ?_)
  exact zvf J' hka (zuV fk nk.2.1 fun p hp=>.inl hp) (zuV fa na.2.1 fun p hp=>.inl hp) hv hk' hlen h64 hnd fun h' tk IN=>h H' _ hθ' na.2.1 IN
end
section
variable{X:Cx}{pins:List (Addr×Obj)}{σ:L2.St}{H:Hp}{s:Shared}
theorem zna{l f:Addr}{xs:List V}{vs:List Value}{kz:List Int}{Θ : Hp->Prop}{Q:VK}(I:L2.Inv X pins σ H s)(hl:s.heap.IsList l vs.toArray)(hv:zbp xs vs)(hlen:kz.length=vs.length)(h64:vs.length<64)(hnd:kz.Nodup)(hθ : Θ H)
  (turn:∀(i:Nat)(u:Value)(k:Int),vs[i]? = some u->kz[i]? = some k->∀(pins':List (Addr×Obj))(s':Shared)(H':Hp),L2.Inv X pins' σ H' s'->Θ H'->wpAny (model X.prog X.w) X.A.in1.in1 (call (.ref f) [u]) (fun r s2=>∃ t H2,r=.int k t/\L2.Inv X pins' σ H2 s2/\Θ H2) (fun _ _=>False) s')
  (h:∀ H2 a,Θ H2->H a=none->H2 a=none->Q (.ref a) (upd H2 a (.lst (byK kz xs)))) :
  wpAny (model X.prog X.w) X.A (call (.builtin "sorted") [.ref l] [(Str.ofString "key",.ref f)]) (EP X pins σ Q) X.xe s:=by
 refine call_function_entry_kw kind_sorted plain_sorted entry_sorted (ksk_s1 _ _) ?_
 unfold Builtin.«sorted»
 refine wpAny_bind (m:=checkCount "sorted" 1 1 _) (wpAny_pure (wpAny_bind (collect_list hl ?_ (by rw[sizeLine_eq];omega))))
 refine wpAny_bind (wpAny_newList ?_ (by rw[sizeLine_eq];omega))
 have z1:((s.heap.push (seqObj "list" #[] 0)).update s.heap.objs.size (Obj.mapSeq (·++vs.toArray))).objs.size=s.heap.objs.size+1:=by
  rw[Heap.size_update,size_push']
 have ka:(((s.heap.push (seqObj "list" #[] 0)).update s.heap.objs.size (Obj.mapSeq (·++vs.toArray))).push (seqObj "list" vs.toArray 0)).get? (s.heap.objs.size+1)=some (seqObj "list" vs.toArray 0):=by
  rw[<- z1];exact Heap.get?_push_size _ rfl
 have k0:∀ b o,s.heap.get? b=some o->(((s.heap.push (seqObj "list" #[] 0)).update s.heap.objs.size (Obj.mapSeq (·++vs.toArray))).push (seqObj "list" vs.toArray 0)).get? b=some o:=fun b o q=>by
  have lt:b<s.heap.objs.size:=Heap.lt_size q
  refine Heap.get?_push_of_some _ ?_
  rw[Heap.get?_update_ne _ _ _ _ (Nat.ne_of_lt lt)]
  exact Heap.get?_push_of_some _ q
 generalize hg:(((s.heap.push (seqObj "list" #[] 0)).update s.heap.objs.size (Obj.mapSeq (·++vs.toArray))).push (seqObj "list" vs.toArray 0))=g0 at ka k0
 have z2:g0.objs.size=s.heap.objs.size+2:=by rw[<- hg,size_push',z1]
 show wpAny _ _ _ _ _ { s with heap:=g0 }
 rw[z1]
 refine wpAny_bind (wpAny_holding (wpAny_call_entry_kw slot_list_sort ⟨_,ka,rfl⟩ entry_list_sort ?body (ksk_l1 _ _)))
 case body =>
  show wpAny (model X.prog X.w) X.A.in1.in1 (Builtin.«list.sort» ⟨[.ref (s.heap.objs.size+1)],[(Str.ofString "key",.ref f)]⟩) _ _ _
  rw[ksk_t1]
  have sb:=Heap.SameBut.update g0 (s.heap.objs.size+1) (Obj.mapSeq fun _=>(#[]:Array Value))
  obtain ⟨e1,ka1⟩ : ∃ e1,(g0.update (s.heap.objs.size+1) (Obj.mapSeq fun _=>(#[]:Array Value))).get? (s.heap.objs.size+1)=some (seqObj "list" #[] e1):=⟨_,get?_update_seq ka fun _=>#[]⟩
  unfold ksk_tree
  refine wpAny_bind (listItems_at ka rfl (wpAny_bind (listUpdate_at ka rfl ?_ (by rw[List.size_toArray,sizeLine_eq];omega) (Nat.zero_le _))))
  refine wpAny_bind (seqEpoch_at ka1 rfl (wpAny_bind (wpAny_newTuple ?_ (by show vs.length<=_;rw[sizeLine_eq];omega))))
  refine wpAny_bind (wpAny_newList ?_ (Nat.zero_le _))
  refine wpAny_holding ?_
  have z3:((g0.update (s.heap.objs.size+1) (Obj.mapSeq fun _=>(#[]:Array Value))).push (seqObj "tuple" vs.toArray 0)).objs.size=s.heap.objs.size+3:=by rw[size_push',Heap.size_update,z2]
  have k1:∀ b o,s.heap.get? b=some o->(((g0.update (s.heap.objs.size+1) (Obj.mapSeq fun _=>(#[]:Array Value))).push (seqObj "tuple" vs.toArray 0)).push (seqObj "list" #[] 0)).get? b=some o:=fun b o q =>
   Heap.get?_push_of_some _ (Heap.get?_push_of_some _ ((sb.2 b (Nat.ne_of_lt (Nat.lt_succ_of_lt (Heap.lt_size q)))).trans (k0 b o q)))
  have ga:(((g0.update (s.heap.objs.size+1) (Obj.mapSeq fun _=>(#[]:Array Value))).push (seqObj "tuple" vs.toArray 0)).push (seqObj "list" #[] 0)).get? (s.heap.objs.size+1)=some (seqObj "list" #[] e1):=Heap.get?_push_of_some _ (Heap.get?_push_of_some _ ka1)
  have gk:(((g0.update (s.heap.objs.size+1) (Obj.mapSeq fun _=>(#[]:Array Value))).push (seqObj "tuple" vs.toArray 0)).push (seqObj "list" #[] 0)).get? (s.heap.objs.size+3)=some (seqObj "list" #[] 0):=by
   rw[<- z3];exact Heap.get?_push_size _ rfl
  show wpAny _ _ (ksk_rest (s.heap.objs.size+1) (.ref f) false vs.toArray e1 (.ref ((g0.update (s.heap.objs.size+1) (Obj.mapSeq fun _=>(#[]:Array Value))).push (seqObj "tuple" vs.toArray 0)).objs.size)) _ _ { s with heap:=((g0.update (s.heap.objs.size+1) (Obj.mapSeq fun _=>(#[]:Array Value))).push (seqObj "tuple" vs.toArray 0)).push (seqObj "list" #[] 0) }
  rw[z3]
  generalize ((g0.update (s.heap.objs.size+1) (Obj.mapSeq fun _=>(#[]:Array Value))).push (seqObj "tuple" vs.toArray 0)).push (seqObj "list" #[] 0)=g3 at k1 ga gk
  have I3:L2.Inv X pins σ H { s with heap:=g3 }:=I.kept (t':=s.toks) k1
  have la:s.heap.objs.size<=s.heap.objs.size+1:=Nat.le_add_right ..
  have lk:s.heap.objs.size<=s.heap.objs.size+3:=Nat.le_add_right ..
  have fa:zfm X pins H (s.heap.objs.size+1):=I.fpOk la (I.hok.fresh la)
  have fk:zfm X pins H (s.heap.objs.size+3):=I.fpOk lk (I.hok.fresh lk)
  have J:L2.Inv X (pins++(s.heap.objs.size+3,lo #[] 0)::[(s.heap.objs.size+1,lo #[] e1)]) σ H { s with heap:=g3 }:=I3.pins_of fun p hp=>by
   rcases List.mem_append.mp hp with z|z
   ·exact I3.pin p (List.mem_append_right _ z)
   ·rcases List.mem_cons.mp z with rfl|z
    ·exact ⟨gk,fk.1,fk.2.1,fk.2.2.1,fun v z=>by cases z⟩
    ·rw[List.mem_singleton.mp z]
     exact ⟨ga,fa.1,fa.2.1,fa.2.2.1,fun v z=>by cases z⟩
  refine ztK (Θ := Θ) J (fun z=>absurd (Nat.add_left_cancel z) (by decide)) fk fa hv hlen h64 hnd hθ turn fun H2 s2 t2 n2 IN=>⟨_,rfl,?_⟩
  exact wpAny_pure ⟨_,rfl,.ref (s.heap.objs.size+1),_,IN,rfl,h H2 _ t2 fa.1 n2⟩
end
def zeh(F:FD):List Dt->Option (List Int)
 |[]=>some []
 |d::r=>match F [.val d] with
  |.ok (.int k,_)=>(zeh F r).map (k::·)
  |_=>none
theorem zi2{F:FD}:∀{ds:List Dt}{ks:List Int},zeh F ds=some ks->ks.length=ds.length
 |[],ks,h=>by simp[zeh] at h;subst h;rfl
 |d::r,ks,h=>by
  unfold zeh at h
  split at h
  ·simp only[Option.map_eq_some_iff] at h
   obtain ⟨k',h1,rfl⟩:=h
   simp[zi2 h1]
  ·cases h
theorem zix{F:FD}:∀{ds:List Dt}{ks:List Int}{i:Nat}{k:Int}{d:Dt},zeh F ds=some ks->ks[i]? = some k->ds[i]? = some d->∃ b,F [.val d]=.ok (.int k,b)
 |[],ks,i,k,d,h,e1,e2=>by simp at e2
 |d0::r,ks,i,k,d,h,e1,e2=>by
  unfold zeh at h
  split at h
  ·rename_i k0 b0 ef
   simp only[Option.map_eq_some_iff] at h
   obtain ⟨k',h1,rfl⟩:=h
   cases i with
   |zero=>simp at e1 e2;subst e1;subst e2;exact ⟨_,ef⟩
   |succ i=>exact zix (i:=i) h1 (by simpa using e1) (by simpa using e2)
  ·cases h
def zhl:List Int->Bool
 |[]=>true
 |a::r=>!r.contains a && zhl r
theorem zky:∀{l:List Int},zhl l=true->l.Nodup
 |[],_=>.nil
 |a::r,h=>by
  unfold zhl at h
  rw[Bool.and_eq_true] at h
  refine List.nodup_cons.mpr ⟨fun z=>?_,zky h.2⟩
  have:=h.1
  simp[z] at this
def zkk(F:FD)(fa:De):DN:=fun ρ=>(fa ρ).bind fun a=>match a.1 with
 |.lst ds=>match zeh F ds with
  |some ks=>if (decide (ds.length<64) && zhl ks)=true then .ok (byK ks ds,a.2) else .no
  |none=>.no
 |_=>.no
theorem zm1{d:Dt}{bs:List B}:∀{ρ:Ev}{k:Nat},zfq [.d d] bs k ρ = ρ
 |[],_=>rfl
 |o::r,k=>by
  show (match zd8 [.d d] k with|some j=>bs[j]?|none=>o)::zfq [.d d] bs (k+1) r=_
  rw[zm1 (ρ:=r)];rfl
section
variable{X:Cx}{C:Cn}{CX:CXT}{k k':Nat}{Fd:FD}{x:Str}{p pf kp pos:Pos}{a:Expr}{fa:De}
theorem zqc(D:Dfn false X.prog X.w X.K X.mg X.base CX C.xv k x [false] Fd)(hr:zdC (k'+2) X.A)(hk:k<=k')(hx:zco CX { X with A:=X.A.in1.in1,xe:=fun _ _=>False } (fun _ _ _=>False))(hg:Gl X "sorted")(hm:X.mg "sorted"=none)(ha:JE X C a fa)(hgf:Gl X x:=by rfl)(hdb:(x == ("__debug__" : Str))=false:=by decide)
  (hs:starEach [a] X.env=(false,eval a X.env)::starEach [] X.env:=by rfl) (he:backTo pos (starEach [a] X.env)=(false,eval a X.env)::backTo pos (starEach [] X.env):=by rfl) (hplain:(backTo pos (starEach [a] X.env)).any (·.1)=false:=by rfl)
  (hall:(backToKw pos (keywordEach [⟨some "key",.Name x pf,kp⟩] X.env)).all (·.1.isSome)=true:=by rfl) (hkw:(backToKw pos (keywordEach [⟨some "key",.Name x pf,kp⟩] X.env)).any (·.1.isNone)=false:=by rfl)
  (hks:(backToKw pos (keywordEach [⟨some "key",.Name x pf,kp⟩] X.env)).filterMap (·.1)=[Str.ofString "key"]:=by rfl) :
  JN X C (.Call (.Name "sorted" p) [a] [⟨some "key",.Name x pf,kp⟩] pos) (zkk Fd fa):=by
 obtain ⟨f,fd,ps,h1,h2,h3,h4,h5⟩:=D.ex
 intro pins s σ H Q I ⟨G,w,ρ,r,pp⟩
 refine wpAny_Call_Name_kw (zfj I hg hm boot_sorted ?_)
 refine callWith_kw (thn (zao ha za4 hs pos pins s σ H (fun vs H1=>∃ G1 w1 ad xs ds ks ρ1,vs=[.ref ad]/\zbJ G H w G1 H1 w1/\Rel X.K C G1 w1 ρ1 σ H1/\H1 ad=some (.lst xs)/\zaB X.K G1 ds xs/\zeh Fd ds=some ks/\ds.length<64/\ks.Nodup/\kN X.K C σ Q G1 H1 w1 (byK ks ds,ρ1)) I ?_) fun us s1 ⟨vs,H1,I1,r1,q1⟩=>?_) he hplain hall hkw
 ·refine ⟨G,w,ρ,r,?_⟩
  unfold zkk at pp
  unfold dA dA0
  cases e:fa ρ with
  |ok z =>
   obtain ⟨d,ρ1⟩:=z
   rw[e] at pp
   intro vs G1 H1 w1 s1 r1 q
   obtain ⟨v,t,rfl,q1,q2⟩:=q.cons_inv
   rw[q2.nil_inv]
   have p1:=zc0.step (κ:=fun G H w=>kN X.K C σ Q G H w) zeF s1 pp
   cases d with
   |lst ds =>
    simp only[R.bind_ok] at p1
    split at p1
    ·rename_i ks ek
     split at p1
     ·rename_i hl
      rw[Bool.and_eq_true] at hl
      obtain ⟨ad,zs,rfl,m1,m2⟩:=zbm q1
      exact ⟨G1,w1,ad,zs,ds,ks,ρ1,rfl,s1,r1,r1.gh _ _ m1,m2,ek,of_decide_eq_true hl.1,zky hl.2,p1⟩
     ·exact False.elim p1
    ·exact False.elim p1
   |_=>exact False.elim p1
  |er n=>rw[e] at pp;exact pp
  |no=>rw[e] at pp;exact pp
 ·obtain ⟨G1,w1,ad,xs,ds,ks,ρ1,rfl,st1,rel1,hH,hreps,ek,hl,hnd,kk⟩:=q1
  obtain ⟨u,rfl,ru⟩:=zfd r1
  cases ru
  refine thn (zsU (nm:=some "key") (kpos:=kp) (zlt (v:=.ref f) (pos:=pf) hgf h2 rfl hdb) ztl pos pins s1 σ H1 (fun vs H2=>vs=[.ref f]/\H2=H1) I1 ⟨rfl,rfl⟩) fun ws s2 ⟨zs,H2,I2,r2,e2,e3⟩=>?_
  subst e2;subst e3
  obtain ⟨u,rfl,ru⟩:=zfd r2
  cases ru
  rw[hks]
  show wpAny _ _ (call (.builtin "sorted") [.ref ad] [(Str.ofString "key",.ref f)]) _ _ _
  obtain ⟨zz,its,n,rv,hle,eo⟩:=I2.lstM hH
  have hld:=hreps.length
  have hlk:=zi2 ek
  refine zna (xs:=xs) (vs:=its) (kz:=ks) (Θ := fun H3=>∃ G3 w3,zbJ G1 H2 w1 G3 H3 w3/\Rel X.K C G3 w3 ρ1 σ H3) I2 ⟨_,eo,rfl,n,rfl⟩ rv (by omega) (by omega) hnd ⟨G1,w1,.refl _ _ _,rel1⟩ ?_ ?_
  ·intro i u kk' hu hki pins' s' H' I' ⟨G3,w3,st3,rel3⟩
   have hi:i<ds.length:=by
    have:=(List.getElem?_eq_some_iff.mp hki).1
    omega
   have hd:ds[i]? = some ds[i]:=by simp[hi]
   obtain ⟨xv,hx1,hx2⟩:=hreps.get hd
   obtain ⟨u',hu1,hu2⟩:=rv.get hx1
   rw[hu] at hu1;cases hu1
   obtain ⟨bb,hF⟩:=zix ek hki hd
   have hx3:=hx2.same st3.g
   have IA:L2.Inv { X with A:=X.A.in1.in1,xe:=fun _ _=>False } pins' σ H' s':=zuj I' rfl rfl
   have hrun:=zqX (X:={ X with A:=X.A.in1.in1,xe:=fun _ _=>False }) (CX:=CX) (us:=[u]) (vs:=[xv]) (E:=fun _ _ _=>False) (Q:=fun v H4=>v=.int kk'/\∃ G4 w4,zbJ G1 H2 w1 G4 H4 w4/\Rel X.K C G4 w4 ρ1 σ H4) h1 ((hr.in1.in1).mono hk) h4 .nil hx IA (.cons hu2 .nil) ?_
   ·refine wpAny_mono hrun (fun v s4 hq=>?_) fun _ _ z=>z
    obtain ⟨v4,H4,I4,rv4,e4,G4,w4,st4,rel4⟩:=hq
    subst e4
    obtain ⟨t,rfl⟩:=rv4
    exact ⟨t,H4,rfl,zsx I4 rfl rfl,G4,w4,st4,rel4⟩
   ·rw[List.append_nil]
    refine ⟨G3,wIn w3 [.d ds[i]],[.val ds[i]],rfl,rfl,⟨rel3.gh,fun b e=>rel3.wg b fun z=>e (by unfold wIn;rw[z];rfl),fun b e=>rel3.wh b fun z=>e (by unfold wIn;rw[z];rfl),rfl,fun j b v e1 e2=>?_⟩,?_⟩
    ·cases j with
     |zero=>simp at e1 e2;subst e1;subst e2;exact hx3
     |succ j=>simp at e1
    ·rw[hF]
     intro v G4 H4 w4 s4 pb q
     obtain ⟨r',st'⟩:=rel3.back (as:=[.d ds[i]]) (vs:=[xv]) (bs:=[.val ds[i]]) (ks:=[false]) rfl ⟨xv,[],rfl,hx3,rfl⟩ rfl rfl s4 pb
     rw[zm1] at r'
     exact ⟨za5 (K:=X.K) (G:=G4) q,G4,_,st3.trans st',r'⟩
  ·intro H3 b ⟨G3,w3,st3,rel3⟩ hb0 hb3
   have gr:zec G3 H3 G3 (upd H3 b (.lst (byK ks xs))):=.newH rel3.gh hb3
   exact kk b _ G3 _ w3 (st3.trans gr.step) (rel3.grow gr) hb0 zan (rel3.gh.free hb3) (zcS rel3 hb3) (zpV ks (hreps.same st3.g))
end
end PV
end
section
namespace PV
open PySem PySem.Spec L2
def zue(K:W.Frag)(H0:Hp)(D:Addr)(G H:Hp)(w:Wn)(dss:List (List Dt))(as:List Addr):Prop :=
 (D::as).Nodup/\Paired (fun b ds=>H0 b=none/\G b=none/\w b=none/\∃ us,H b=some (.lst us)/\zaB K G ds us) as dss
theorem zue.step{K:W.Frag}{H0 G H G' H':Hp}{w w':Wn}{D:Addr}{dss:List (List Dt)}{as:List Addr}(q:zue K H0 D G H w dss as)(s:zbJ G H w G' H' w'):zue K H0 D G' H' w' dss as :=
 ⟨q.1,zgt (fun b ds ⟨h1,h2,h3,us,h4,h5⟩=>by
  obtain ⟨k1,k2,k3⟩:=s.keep h2 h3 h4
  exact ⟨h1,k1,k2,us,k3,h5.same s.g⟩) q.2⟩
theorem zil{α β:Type}{F:α->β->Prop}:∀{l:List α}{r:List β},Paired F l r->l.length=r.length
 |_,_,.nil=>rfl
 |_,_,.cons _ t=>by simp[zil t]
theorem zue.len{K:W.Frag}{H0 G H:Hp}{w:Wn}{D:Addr}{dss:List (List Dt)}{as:List Addr}(q:zue K H0 D G H w dss as):as.length=dss.length:=zil q.2
section
variable{X:Cx}{C:Cn}
end
section
variable{X:Cx}{C:Cn}{k:Expr}{fk:De}{pos ps py sp apos:Pos}{x y:Str}
end
theorem ztG:bootBuiltins "len"=some (.builtin "len"):=PySem.boot_len
theorem zuF:bootBuiltins "max"=some (.builtin "max"):=PyProof.Rows.boot_max
theorem zrw:bootBuiltins "min"=some (.builtin "min"):=PyProof.Rows.boot_min
theorem zuG:bootBuiltins "all"=some (.builtin "all"):=PyProof.Rows.boot_all
theorem zcU:bootBuiltins "isinstance"=some (.builtin "isinstance"):=PyProof.Rows.boot_isinstance
theorem zcN:bootBuiltins "tuple"=some (.type "tuple"):=by decide +kernel
theorem zh3:bootBuiltins "list"=some (.type "list"):=by decide +kernel
theorem zuh:bootBuiltins "int"=some (.type "int"):=by decide +kernel
theorem zlf:bootBuiltins "bool"=some (.type "bool"):=by decide +kernel
section
variable{X:Cx}{C:Cn}{a b e:Expr}{fa fb:De}{p pos:Pos}
theorem zfg(hm:X.mg "len"=none)(ha:JE X C e fa)(hg:Gl X "len":=by rfl)(hs:starEach [e] X.env=(false,eval e X.env)::starEach [] X.env:=by rfl)(hpl:(backTo pos (starEach [] X.env)).any (·.1)=false:=by rfl):JE X C (.Call (.Name "len" p) [e] [] pos) (dFn zbN (dA fa dA0)) :=
 zfM ztS ztP (zgC.or zk6) hg hm ztG (zao ha za4 hs) (by decide) (by decide) hs hpl
theorem zuE(hc:X.calm=true)(hm:X.mg "max"=none)(ha:JE X C a fa)(hb:JE X C b fb)(hg:Gl X "max":=by rfl)(hs:starEach [a,b] X.env=(false,eval a X.env)::starEach [b] X.env:=by rfl)(hs2:starEach [b] X.env=(false,eval b X.env)::starEach [] X.env:=by rfl)(hpl:(backTo pos (starEach [b] X.env)).any (·.1)=false:=by rfl):JE X C (.Call (.Name "max" p) [a,b] [] pos) (dFn ziT (dA fa (dA fb dA0))) :=
 zfM zsA zsk (zo9 hc) hg hm zuF (zao ha (zao hb za4 hs2) hs) (by decide) (by decide) hs hpl
theorem zrr(hc:X.calm=true)(hm:X.mg "min"=none)(ha:JE X C a fa)(hb:JE X C b fb)(hg:Gl X "min":=by rfl)(hs:starEach [a,b] X.env=(false,eval a X.env)::starEach [b] X.env:=by rfl)(hs2:starEach [b] X.env=(false,eval b X.env)::starEach [] X.env:=by rfl)(hpl:(backTo pos (starEach [b] X.env)).any (·.1)=false:=by rfl):JE X C (.Call (.Name "min" p) [a,b] [] pos) (dFn zgl (dA fa (dA fb dA0))) :=
 zfM zsi zrA (zou hc) hg hm zrw (zao ha (zao hb za4 hs2) hs) (by decide) (by decide) hs hpl
theorem zmg(hc:X.calm=true)(hm:X.mg "min"=none)(ha:JE X C e fa)(hg:Gl X "min":=by rfl)(hs:starEach [e] X.env=(false,eval e X.env)::starEach [] X.env:=by rfl)(hpl:(backTo pos (starEach [] X.env)).any (·.1)=false:=by rfl):JE X C (.Call (.Name "min" p) [e] [] pos) (dFn zea (dA fa dA0)) :=
 zfM zsO zst (zoW hc) hg hm zrw (zao ha za4 hs) (by decide) (by decide) hs hpl
theorem zqd(hc:X.calm=true)(hm:X.mg "all"=none)(ha:JE X C e fa)(hg:Gl X "all":=by rfl)(hs:starEach [e] X.env=(false,eval e X.env)::starEach [] X.env:=by rfl)(hpl:(backTo pos (starEach [] X.env)).any (·.1)=false:=by rfl):JE X C (.Call (.Name "all" p) [e] [] pos) (dFn zn2 (dA fa dA0)) :=
 zfM zur zus (znL hc) hg hm zuG (zao ha za4 hs) (by decide) (by decide) hs hpl
theorem zcH(hm:X.mg "tuple"=none)(ha:JE X C e fa)(hg:Gl X "tuple":=by rfl)(hs:starEach [e] X.env=(false,eval e X.env)::starEach [] X.env:=by rfl)(hpl:(backTo pos (starEach [] X.env)).any (·.1)=false:=by rfl):JE X C (.Call (.Name "tuple" p) [e] [] pos) (dFn zbi (dA fa dA0)) :=
 zjV zqK zqv ziL hg hm zcN (zao ha za4 hs) (by decide) (by decide) hs hpl
theorem zui(hm:X.mg "list"=none)(ha:JE X C e fa)(hg:Gl X "list":=by rfl)(hs:starEach [e] X.env=(false,eval e X.env)::starEach [] X.env:=by rfl)(hpl:(backTo pos (starEach [] X.env)).any (·.1)=false:=by rfl):JN X C (.Call (.Name "list" p) [e] [] pos) (zgJ zjq (dA fa dA0)) :=
 zoC ztd zrO zjY hg hm zh3 (zao ha za4 hs) (by decide) (by decide) hs hpl
end
theorem zdm{nw:Bool}{P:Program}{w:World}{K:W.Frag}{mg:Str->Option Value}{base:Heap}{CX:CXT}{xv:Nat->Value}{k:Nat}{x qual:Str}{st:Stmt}{f:Addr}{fd:FuncData}{ps:List Str}{ks:List Bool}(hl:ps.length=ks.length)(U:Fun K x qual st f fd)(hm:mg x=some (.ref f))(hb:zfP K fd ps []) :
  Dfn nw P w K mg base CX xv k x ks (fun _=>.no) :=
 ⟨f,fd,ps,⟨fun vs H Q E ⟨_,_,_,h,_⟩=>h.trans hl.symm,fun _ _ _ _ _ _ _ _ _ _ _ _ _ ⟨_,_,_,_,_,_,h⟩=>False.elim h⟩,hm,U.kp,hb,fun bs h=>absurd rfl h⟩
theorem ziF{k:Nat}{A:Around}(hr:zdC k A):A.units+64<cLine:=by have:=hr.un;omega
theorem hu65{k:Nat}{A:Around}(hr:zdC k A):A.units+65<cLine:=by have:=hr.un;omega
theorem za9{names:List (Str×NameKind)}(h:(names.all fun y=>y.2 != .cell)=true):∀ y∈names,y.2≠.cell:=fun y hy z=>by
 rw[List.all_eq_true] at h
 have:=h y hy
 rw[z] at this;simp at this
theorem zbl{names:List (Str×NameKind)}(h:(names.all fun y=>y.2 != .local || (names.lookup y.1 == some .local))=true):∀ y∈names,y.2=.local->names.lookup y.1=some .local:=fun y hy z=>by
 rw[List.all_eq_true] at h
 have:=h y hy
 rw[z] at this;simpa using this
theorem zaD{names:List (Str×NameKind)}{env:Env}(h:(names.all fun y=>y.2 != .free || (env.kindOf y.1 == some .cell || env.kindOf y.1 == some .free))=true):∀ y∈names,y.2=.free->env.kindOf y.1=some .cell\/env.kindOf y.1=some .free:=fun y hy z=>by
 rw[List.all_eq_true] at h
 have:=h y hy
 rw[z] at this;simpa using this
end PV
end
section
namespace PV
open PySem PySem.Spec L2 PyProof.Rows
theorem zpv{P:Program}{w:World}{H:Hp}{h h':Heap}(x:HOk P w H h)(k:∀ b u o,H b=some u->h.get? b=some o->h'.get? b=some o):HOk P w H h':=fun a o e =>
 (x a o e).stay (fun b u hb q=>by
  rcases hb with rfl|hb
  ·exact k _ _ _ e q
  ·exact k _ _ _ hb q) (fun _ z=>z) fun _ _ z=>z
theorem zul{P:Program}{w:World}{H:Hp}{h:Heap}{a:Addr}{o:HO}(x:zct P w H h a o):∃ u,h.get? a=some u:=by
 induction o with
 |lst xs=>obtain ⟨_,_,_,_,e⟩:=x;exact ⟨_,e⟩
 |tup xs=>obtain ⟨_,_,_,_,e⟩:=x;exact ⟨_,e⟩
 |dK kvs=>obtain ⟨_,_,_,_,_,_,_,e,_⟩:=x;exact ⟨_,e⟩
 |dT kvs=>obtain ⟨_,_,_,_,_,_,_,e,_⟩:=x;exact ⟨_,e⟩
 |set S n=>obtain ⟨_,_,_,_,e,_⟩:=x;exact ⟨_,e⟩
 |ins C dx fs=>obtain ⟨_,_,_,e,_⟩:=x;exact ⟨_,e⟩
 |own y=>exact x
 |xd fs=>obtain ⟨_,⟨_,_,_,e,_⟩,_⟩:=x;exact ⟨_,e⟩
 |met f y=>exact ⟨_,x⟩
 |rng lo hi=>obtain ⟨_,_,_,e⟩:=x;exact ⟨_,e⟩
 |frz ob u ih=>exact ⟨_,x.1⟩
 |tbl ps=>exact ⟨_,x⟩
 |ext φ => exact x.2.1
def CXf(P:Program)(w:World):CXT:=fun outer H s E e s' =>
 ∃(l:Addr)(cls a0:Value)(B:Heap)(H':Hp),e=.ref l/\s'.os=s.os/\AllBare s'.gens/\Un (frs outer) [] H H' s.heap s'.heap/\HOk P w H' s'.heap/\Heap.FlyingW B outer l cls a0 s'.heap /\
  (∀ b o,s.heap.get? b=some o->b∉frs outer->∃ u,B.get? b=some u)/\(∀ b u,H' b=some u->∃ o,B.get? b=some o)/\s.heap.get? l=none/\E cls none H'
def CXm:CXT:=fun _ H s E e s'=>∃(l:Addr)(cls:Value)(args:List Value)(h':Heap),e=.ref l/\s'={ s with heap:=h' }/\Heap.MadeExcOf s.heap h' l cls args/\E cls none H
def CXe(P:Program)(w:World):CXT:=fun outer H s E e s'=>CXf P w outer H s E e s'\/CXm outer H s E e s'
theorem CXf.imp{P:Program}{w:World}{outer:List Env}{H:Hp}{s s':Shared}{E E':XK}{e:Value}(h:CXf P w outer H s E e s')(k:∀ u a H',E u a H'->E' u a H'):CXf P w outer H s E' e s':=by
 obtain ⟨l,cls,a0,B,H',h1,h2,h3,h4,h5,h6,h7,h8,h9,h10⟩:=h
 exact ⟨l,cls,a0,B,H',h1,h2,h3,h4,h5,h6,h7,h8,h9,k _ _ _ h10⟩
theorem CXe.none{P:Program}{w:World}{outer:List Env}{H:Hp}{s s':Shared}{e:Value}(h:CXe P w outer H s (fun _ _ _=>False) e s'):False:=by
 rcases h with ⟨_,_,_,_,_,_,_,_,_,_,_,_,_,_,z⟩|⟨_,_,_,_,_,_,_,z⟩ <;> exact z
theorem zlZ{env:Env}{outer:List Env}{L:Addr}(h:env.frame=some L):frs (env::outer)=L::frs outer:=by
 unfold frs;rw[List.filterMap_cons,h]
theorem zkB{P:Program}{w:World}{base:Heap}{A:Around}{env:Env}{outer:List Env}{s0 s1 s2:Shared}{H0 H1:Hp}{E E':XK}{e:Value}
  (hf:env.frame=some env.locals) (hfr:A.frames=some (env::outer)) (hL:s0.heap.objs.size<=env.locals) (os1:s1.os=s0.os) (bare1:AllBare s1.gens) (u01:Un (frs outer) [] H0 H1 s0.heap s1.heap) (frf:∀ b∈frs outer,H0 b=none)
  (fun1:s1.heap.FunFrames base (env::outer)) (hok1:HOk P w H1 s1.heap) (fr1:∀ b∈frs (env::outer),H1 b=none) (hx:CXe P w (env::outer) H1 s1 E' e s2) (hE:∀ u a H',E' u a H'->E u a H') {M:Model} {EE:Value->Shared->Prop} :
  wpAny M A (leaving env e) (fun _ s3=>CXf P w outer H0 s0 E e s3) EE s2:=by
 have inS:∀{b:Addr}{o:Obj},s0.heap.get? b=some o->b∉frs outer->b∉frs (env::outer):=fun {b o} e1 h1 h2=>by
  rw[zlZ hf] at h2
  rcases List.mem_cons.mp h2 with z|z
  ·have:=Heap.lt_size e1
   rw[z] at this
   exact absurd (Nat.lt_of_lt_of_le this hL) (Nat.lt_irrefl _)
  ·exact h1 z
 have newS:∀{b:Addr},s1.heap.get? b=none->s0.heap.get? b=none:=fun {b} e1=>by
  cases q:s0.heap.get? b with
  |none=>rfl
  |some o=>obtain ⟨o',e2⟩:=u01.there b o q (by simp);rw[e1] at e2;cases e2
 have outS:∀{b:Addr},b∈frs outer->b∈frs (env::outer):=fun {b} h=>by rw[zlZ hf];exact List.mem_cons_of_mem _ h
 rcases hx with ⟨l,cls,a0,B,H',rfl,os,bare,un,hok,fl,hb1,hb2,hnw,he⟩|⟨l,cls,args,h',rfl,rfl,hm,he⟩
 ·refine wpAny_leaves_onW (base:=B) hfr hf fl fun h3 fl3 up=>?_
  have at3:∀{b:Addr}{u:Obj},B.get? b=some u->s2.heap.get? b=some u/\h3.get? b=some u:=fun {b u} e=>⟨fl.1 b u e,fl3.1 b u e⟩
  have slot:∀ b o,s0.heap.get? b=some o->b∈frs outer->∃ sl,h3.get? b=some { o with slots:=sl }:=fun b o e1 hb=>by
   obtain ⟨sl1,e2⟩:=u01.slot b o e1 (frf b hb) hb (by simp)
   obtain ⟨sl2,e3⟩:=un.slot b _ e2 (u01.free b o e1 (frf b hb) (by simp)) (outS hb) (by simp)
   obtain ⟨_,o4,e4,d4⟩:=fl.2.2.1.mem (b:=b) (outS hb)
   rw[e3] at e4;cases e4
   obtain ⟨sl3,e5⟩:=up b _ e3 d4
   exact ⟨sl3,e5⟩
  have hb1':∀ b o,s0.heap.get? b=some o->b∉frs outer->∃ u,B.get? b=some u:=fun b o e1 hb=>by
   obtain ⟨o1,e2⟩:=u01.there b o e1 (by simp)
   exact hb1 b o1 e2 (inS e1 hb)
  refine ⟨l,cls,a0,B,H',rfl,os.trans os1,bare,⟨fun b o e1 n hb _=>?_,fun b o e1 n hb _=>slot b o e1 hb,fun b o e1 n _=>?_,fun b o e1 _=>?_,fun b xs q=>un.tups b xs (u01.tups b xs q),fun b o u q=>un.frzs b o u (u01.frzs b o u q),fun b ps q=>?_⟩,zpv hok fun b u o q1 q2=>?_,fl3,hb1',hb2,newS hnw,hE _ _ _ he⟩
  ·have e2:=u01.keep b o e1 n hb (by simp)
   have n2:=u01.free b o e1 n (by simp)
   have e3:=un.keep b o e2 n2 (inS e1 hb) (by simp)
   obtain ⟨u,hu⟩:=hb1' b o e1 hb
   obtain ⟨q1,q2⟩:=at3 hu
   rw[e3] at q1;cases q1;exact q2
  ·obtain ⟨o1,e2⟩:=u01.there b o e1 (by simp)
   exact un.free b o1 e2 (u01.free b o e1 n (by simp)) (by simp)
  ·by_cases hb:b∈frs outer
   ·obtain ⟨sl,e2⟩:=slot b o e1 hb;exact ⟨_,e2⟩
   ·obtain ⟨u,hu⟩:=hb1' b o e1 hb;exact ⟨u,(at3 hu).2⟩
  ·obtain ⟨m1,e1⟩:=u01.tbls b ps q
   obtain ⟨m2,e2⟩:=un.tbls b _ e1
   exact ⟨m1++m2,by rw[e2,Array.append_assoc]⟩
  ·obtain ⟨o',ho'⟩:=hb2 b u q1
   obtain ⟨z1,z2⟩:=at3 ho'
   rw[q2] at z1;cases z1;exact z2
 ·
  let fs:=frs (env::outer)
  have hin:∀ x∈env::outer,∀ a,x.frame=some a->a∈fs:=fun x hx a ha=>List.mem_filterMap.mpr ⟨x,hx,ha⟩
  refine wpAny_leaves_madeW (base:=W.hideAll s1.heap fs) (h:=s1.heap) hfr hf (fun b o q=>W.of_hideAll _ q) (W.funFrames_hide fun1 hin) hm fun h3 t fl3 _ _ up=>?_
  have at3:∀{b:Addr}{u:Obj},s1.heap.get? b=some u->b∉fs->h3.get? b=some u:=fun {b u} e n=>fl3.1 b u (W.hideAll_get _ e n)
  have slot:∀ b o,s0.heap.get? b=some o->b∈frs outer->∃ sl,h3.get? b=some { o with slots:=sl }:=fun b o e1 hb=>by
   obtain ⟨sl1,e2⟩:=u01.slot b o e1 (frf b hb) hb (by simp)
   obtain ⟨_,o4,e4,d4⟩:=fun1.mem (b:=b) (outS hb)
   rw[e2] at e4;cases e4
   obtain ⟨sl3,e5⟩:=up b _ (hm.keeps _ _ e2) d4
   exact ⟨sl3,e5⟩
  have hb1':∀ b o,s0.heap.get? b=some o->b∉frs outer->∃ u,(W.hideAll s1.heap fs).get? b=some u:=fun b o e1 hb=>by
   obtain ⟨o1,e2⟩:=u01.there b o e1 (by simp)
   exact ⟨o1,W.hideAll_get _ e2 (inS e1 hb)⟩
  have tr:∀ b u,H1 b=some u->b∉fs:=fun b u e z=>by rw[fr1 b z] at e;cases e
  refine ⟨l,cls,.ref t,W.hideAll s1.heap fs,H1,rfl,os1,bare1,⟨fun b o e1 n hb _=>at3 (u01.keep b o e1 n hb (by simp)) (inS e1 hb),fun b o e1 n hb _=>slot b o e1 hb,fun b o e1 n _=>u01.free b o e1 n (by simp),fun b o e1 _=>?_,u01.tups,u01.frzs,u01.tbls⟩,zpv hok1 fun b u o q1 q2=>at3 q2 (tr b u q1),fl3,hb1',fun b u q=>?_,newS hm.new,hE _ _ _ he⟩
  ·by_cases hb:b∈frs outer
   ·obtain ⟨sl,e2⟩:=slot b o e1 hb;exact ⟨_,e2⟩
   ·obtain ⟨u,hu⟩:=hb1' b o e1 hb;exact ⟨u,fl3.1 b u hu⟩
  ·obtain ⟨o,ho⟩:=zul (hok1 b u q)
   exact ⟨o,W.hideAll_get _ ho (tr b u q)⟩
theorem zaE{P:Program}{w:World}{K:W.Frag}{mg:Str->Option Value}{base:Heap}:zrx (CXe P w) P w K mg base:=fun N qual scope f cdv A outer s H E E' hk hE pins σ H1 s1 e s2 I hx=>by
 have I':=I
 refine wpAny_mono (zkB (base:=base) (s0:=s) (H0:=H) (E:=E) rfl I.ok.frames (Nat.le_refl _) I.os I.bare I.base I.ok.frf I.stack I.hok I.stkFree hx hE) (fun _ s3 h=>.inl h) fun _ _ h=>h
def zei(n:Nat)(f:DA):DS:=fun ρ=>(f ρ).bind fun a=>if zem a.1=true then .er n else .no
structure Xcls(K:W.Frag)(C:Addr):Prop where
 ex:∃ bm N nm q bs hdct sn sub ab col dd k0 k1 k2 k3 k5,K.lookup C=some (excClassObj nm q C N bs bm hdct sn sub ab col dd k0 k1 k2 k3 k5 "ValueError.__new__")/\(∀ h:Heap,K.In h->∃ mN,h.Ns N mN/\mN "__init__"=none)/\(∀ h:Heap,K.In h->OwnTail h [.type "ValueError",.type "Exception",.type "BaseException",.type "object"] bm)
section
variable{X:Cx}{C:Cn}{x:Str}{Cc:Addr}{np cpos pos:Pos}{e:Expr}{es:List Expr}{fa:DA}{n:Nat}{P:Program}{w:World}
theorem zfX(hx:zco (CXe P w) X (EXc C))(hc:X.calm=true)(hcl:Xcls X.K Cc)(hm:X.mg x=some (.ref Cc))(hxv:C.xv n=.ref Cc)(ha:JA X C (e::es) fa)(hg:Gl X x:=by rfl)(hd:(x == ("__debug__" : Str))=false:=by decide)
  (he:starEach (e::es) X.env=(false,eval e X.env)::starEach es X.env:=by rfl) (hpl:(backTo cpos (starEach es X.env)).any (·.1)=false:=by rfl):JS X C (.Raise (some (.Call (.Name x np) (e::es) [] cpos)) none pos) (zei n fa):=by
 intro pins s σ H D I ⟨G,w1,ρ,r,p⟩
 obtain ⟨tl,N,nm,q,bs,hdct,sn,sub,ab,col,dd,k0,k1,k2,k3,k5,lk,hN,hT⟩:=hcl.ex
 obtain ⟨mN,hNs,hni⟩:=hN _ I.mod.kin
 refine wpAny_Raise_call_subT (C:=Cc) (nm:=nm) (q:=q) (N:=N) (bs:=bs) (bm:=tl) (hdct:=hdct) (sn:=sn) (sub:=sub) (ab:=ab) (col:=col) (dd:=dd) (k0:=k0) (k1:=k1) (k2:=k2) (k3:=k3) (k5:=k5)
  F.excBase_ValueError (mN:=mN) ((hT _ I.kIn).hasType F.excBase_ValueError.hasBase) (I.ok.hd hc) (by rw[he];show (false || (backTo cpos (starEach es X.env)).any (·.1))=false;rw[hpl];rfl) hni (zgb I hg hm ⟨rfl,?_⟩ hd)
 suffices hh:wpAny (model X.prog X.w) X.A (spliced (backTo cpos (starEach (e::es) X.env))) (fun vs s₂=>([]:List (Str×Value))=[]/\vs.length<=sizeLine/\s₂.heap.get? Cc=some (excClassObj nm q Cc N bs tl hdct sn sub ab col dd k0 k1 k2 k3 k5 "ValueError.__new__")/\s₂.heap.Ns N mN/\OwnTail s₂.heap [.type "ValueError",.type "Exception",.type "BaseException",.type "object"] tl /\
   ∀ h' a,Heap.MadeExcOf s₂.heap h' a (.ref Cc) vs->X.xe (.ref a) { s₂ with heap:=h' }) X.xe s by
  rw[he] at hh ⊢
  exact Calls.evalArgs_plain hh
 refine thn (ha cpos pins s σ H (fun vs H2=>vs.length<=sizeLine/\EXc C (.ref Cc) none H2) I ?_) fun us s2 ⟨vs,H2,I2,rv,hz,hE⟩=>⟨rfl,by rw[<- rv.length];exact hz,I2.kIn _ _ lk,hNs.keeps I2.bk,hT _ I2.kIn,fun h' a hm'=>?_⟩
 ·refine ⟨G,w1,ρ,r,?_⟩
  have p':zc0 C.ex (kS X.K C D G H w1) ((fa ρ).bind fun a=>if zem a.1=true then R.er n else .no):=p
  cases ef:fa ρ with
  |ok z =>
   rw[ef,R.bind_ok] at p'
   intro vs G' H' w' st rel q1
   by_cases hf:zem z.1=true
   ·rw[if_pos hf] at p'
    exact ⟨by rw[<- q1.length];exact ziO hf,rfl,n,hxv.symm,p',G',w',r.en.trans st⟩
   ·rw[if_neg hf] at p';exact p'.elim
  |er m=>rw[ef] at p';exact p'
  |no=>rw[ef] at p';exact p'.elim
 ·exact hx pins σ H2 s2 (.ref a) _ I2 (.inr ⟨a,.ref Cc,us,h',rfl,rfl,hm',hE⟩)
end
abbrev bmV:List Value:=[.type "ValueError",.type "Exception",.type "BaseException",.type "object"]
structure Xin(K:W.Frag)(D:Addr):Prop where
 exc:W.excIn K D bmV "ValueError.__new__"=true
 ga:W.findIn K (.ref D) "__getattribute__"=some (some (.builtin "BaseException.__getattribute__"))
 gh:W.findIn K (.ref D) "__getattr__"=some none
 gc:W.findIn K (.ref D) "__class__"=some (some (.builtin "object.__class__"))
 mb:W.subIn K (.ref D) (.type "BaseException")=some true
theorem ze9{K:W.Frag}{C:Addr}(q:W.excIn K C bmV "ValueError.__new__"=true):∃ bm N nm qn bs hd sn sub ab col dd k0 k1 k2 k3 k5,
  K.lookup C=some (excClassObj nm qn C N bs bm hd sn sub ab col dd k0 k1 k2 k3 k5 "ValueError.__new__")/\W.tailIn K bmV bm=true/\W.nsOkIn K N=true/\W.nsIn K N "__init__"=some none:=by
 unfold W.excIn at q
 split at q
 ·rename_i dd cd sl lk
  split at q
  ·rename_i C2 bm k0 k1 k2 k3 mk k5 em es
   simp only[Bool.and_eq_true,beq_iff_eq,Bool.not_eq_true'] at q
   obtain ⟨⟨⟨⟨⟨e1,e2⟩,e3⟩,e4⟩,e5⟩,e6⟩:=q
   subst e1 e2
   obtain ⟨nm,bs,mro,ns,qn,hd,sn,sub,ab,col,del⟩:=cd
   obtain ⟨sll⟩:=sl
   dsimp only at em es e3 e5 e6
   subst em e3 es
   exact ⟨bm,ns,nm,qn,bs,hd,sn,sub,ab,col,dd,k0,k1,k2,k3,k5,lk,e4,e5,e6⟩
  ·cases q
 ·cases q
theorem Xin.cls{K:W.Frag}{C:Addr}(x:Xin K C):Xcls K C:=by
 obtain ⟨bm,N,nm,qn,bs,hd,sn,sub,ab,col,dd,k0,k1,k2,k3,k5,lk,e4,e5,e6⟩:=ze9 x.exc
 exact ⟨bm,N,nm,qn,bs,hd,sn,sub,ab,col,dd,k0,k1,k2,k3,k5,lk,fun h X=>⟨_,.of_isNs (W.isNs_of_in X e5),W.nsMap_none_of_in X e5 e6⟩,fun h X=>W.tail_of_in X e4⟩
section
variable{prog:Program}{w:World}{A:Around}{E:Value->Shared->Prop}{hh:Heap}{gg:Array GenState}{dr:Drawn}{tt:Nat}{os:OsState}{l C:Addr}{ob:Obj}{K:W.Frag}
theorem zu5{R:Result->Shared->Prop}(x:Xin K C)(X:K.In hh)(hl:hh.get? l=some ob)(hcl:ob.cls=.ref C)(hR:R (.ok (.ret (.ref C))) ⟨hh,gg,dr,tt,os⟩) :
  codeAny (model prog w) A (.call (.builtin "getset_descriptor.__get__") ⟨[.builtin "object.__class__",.ref l,.ref C],[]⟩) R ⟨hh,gg,dr,tt,os⟩:=by
 obtain ⟨bm,N,nm,qn,bs,hd,sn,sub,ab,col,dd,k0,k1,k2,k3,k5,lk,e4,e5,e6⟩:=ze9 x.exc
 have hCl:=X _ _ lk
 have TL:=W.tail_of_in X e4
 have ty5:(⟨hh,gg,dr,tt,os⟩ : Shared).TypeIs (.builtin "object.__class__") "getset_descriptor":=F.typeOf_object_class
 have inO:(Value.ref C::bm).contains (.type (".".intercalate ("object.__class__".cutAt '.').dropLast))=true:=by
  rw[F.owner_object_class,List.contains_cons,TL.hasType (b:=true) (by decide)];rfl
 refine codeAny_call_builtin F.slot_gs_get.plain F.entry_gs_get (F.slot_gs_get.check _ _ _ _ _ _ _ _ ty5 (F.args_gs_get _ _ _) ?_)
 repeat (any_goals (first|(with_reducible refine wpAny_loadPart_at hl ?_;rw[hcl])|(with_reducible refine wpAny_isSubtype_exc hCl ?_;rw[inO])|assumption|wp_step))
 refine ⟨Code.quiet_builtin _ (by decide +kernel),codeAny_builtin F.entry_object_class ?_⟩
 repeat (any_goals (first|(with_reducible refine wpAny_loadPart_at hl ?_;rw[hcl])|assumption|wp_step))
theorem zpX{tk:Tok}{Q:Fin->Shared->Prop}(x:Xin K C)(X:K.In hh)(hl:hh.get? l=some ob)(hcl:ob.cls=.ref C)(hQ:Q (.done (.ret (.ref C))) ⟨hh,gg,dr,tt,os⟩) :
  wpAny (model prog w) A (Builtin.«object.__getattribute__» ⟨[.ref l,.str "__class__" tk],[]⟩) Q E ⟨hh,gg,dr,tt,os⟩:=by
 have ty5:(⟨hh,gg,dr,tt,os⟩ : Shared).TypeIs (.builtin "object.__class__") "getset_descriptor":=F.typeOf_object_class
 have to5:=F.typeOf_object_class
 have lk6:=F.slot_gs_get.lookup
 have lk7:=F.slot_gs_set.lookup
 have L1:=W.looks_findIn (M:=model prog w) X x.gc
 repeat (any_goals (first|(with_reducible refine wpAny_loadPart_at hl ?_;rw[hcl])|(with_reducible refine L1.at ?_)|assumption|wp_step))
 refine zu5 x X hl hcl ?_
 repeat (any_goals (first|assumption|wp_step))
theorem zo0{M:Model}(hl:hh.get? l=some ob)(hcl:ob.cls=.ref C):W.Looks M hh (typeOf (.ref l)) (.ref C):=hcl ▸ (W.Looks.ld hl).andThen .now
theorem zqw{M:Model}{nameV:Value}{Q:Unit->Shared->Prop}(x:Xin K C)(X:K.In hh)(hl:hh.get? l=some ob)(hcl:ob.cls=.ref C)(hQ:Q () ⟨hh,gg,dr,tt,os⟩) :
  wpAny M A (checkBuiltinCall "BaseException.__getattribute__" ⟨[.ref l,nameV],[]⟩) Q E ⟨hh,gg,dr,tt,os⟩:=by
 have e1:builtinKind "BaseException.__getattribute__"=some .slot:=by decide +kernel
 have e2:splitId "BaseException.__getattribute__"=some ("BaseException","__getattribute__"):=by decide +kernel
 have e3:=F.args_bexc_ga (.ref l) nameV
 have e4:W.Looks M hh (isInstance (.ref l) (.type "BaseException")) true:=by
  unfold isInstance
  exact (zo0 hl hcl).andThen (W.looks_subIn X x.mb)
 simp only[checkBuiltinCall,e1,e2]
 refine wpAny_bind (W.Looks.at e4 ?_)
 repeat (first|exact hQ|wp_step)
theorem zvm{tk:Tok}{Q:Value->Shared->Prop}(x:Xin K C)(X:K.In hh)(hl:hh.get? l=some ob)(hcl:ob.cls=.ref C)(hQ:Q (.ref C) ⟨hh,gg,dr,tt,os⟩) :
  wpAny (model prog w) A (getAttrBy (.ref l) (.str "__class__" tk) false false) Q E ⟨hh,gg,dr,tt,os⟩:=by
 have fb:=F.attrBase_ValueError.ga.bind (.ref l)
 have n0:(false && onTheHeap (Value.builtin "BaseException.__getattribute__"))=false:=rfl
 have n2:(Value.builtin "BaseException.__getattribute__" == Value.builtin "object.__getattribute__")=false:=by decide +kernel
 have n1:(onTheHeap (Value.ref C) && Value.builtin "BaseException.__getattribute__" == Value.builtin "object.__getattribute__")=false:=by rw[n2];rfl
 have L1:=W.looks_findIn (M:=model prog w) X x.ga
 have L2:=W.looks_findIn (M:=model prog w) X x.gh
 repeat (any_goals (first|(with_reducible refine wpAny_loadPart_at hl ?_;rw[hcl])|(with_reducible refine W.Looks.at L1 ?_)|(with_reducible refine W.Looks.at L2 ?_)|assumption|wp_step))
 refine codeAny_call_builtin F.attrBase_ValueError.ga.plain F.entry_bexc_ga (zqw x X hl hcl (zpX x X hl hcl ?_))
 repeat (any_goals (first|assumption|wp_step))
theorem zsX{Q:Option Value->Shared->Prop}(x:Xin K C)(X:K.In hh)(hl:hh.get? l=some ob)(hcl:ob.cls=.ref C)(hQ:Q (some (.ref C)) ⟨hh,gg,dr,tt+1,os⟩) :
  wpAny (model prog w) A (getAttr? (.ref l) "__class__") Q E ⟨hh,gg,dr,tt,os⟩:=by
 unfold getAttr? getAttrBy?
 repeat (any_goals (first|(with_reducible apply zvm x X hl hcl)|assumption|wp_step))
end
def XAt(l C:Addr)(h:Heap):Prop:=∃ o vs,h.get? l=some o/\o.cls=.ref C/\o.data=.fields vs
theorem zqD{K:W.Frag}{l C:Addr}(x:Xin K C):W.KitX K (.ref l) (.ref C) (XAt l C) where
 ty:=fun M h X ⟨o,vs,h1,h2,h3⟩=>zo0 h1 h2
 it:=fun M h X _=>by
  obtain ⟨bm,N,nm,qn,bs,hd,sn,sub,ab,col,dd,k0,k1,k2,k3,k5,lk,e4,e5,e6⟩:=ze9 x.exc
  intro A' Q' E' s' k q
  unfold isType loadHead
  exact wpAny_bind (wpAny_loadPart (k _ _ (X _ _ lk)) (wpAny_pure q))
 ne:=fun h tp dd its n sl X htp=>by
  obtain ⟨bm,N,nm,qn,bs,hd,sn,sub,ab,col,dd',k0,k1,k2,k3,k5,lk,e4,e5,e6⟩:=ze9 x.exc
  refine Bool.eq_false_iff.mpr fun q=>?_
  obtain rfl:C=tp:=Value.ref.inj (beq_iff_eq.mp q)
  have z:=congrArg Obj.cls (Option.some.inj ((X _ _ lk).symm.trans htp))
  simp[excClassObj] at z
 ca:=fun {prog w A E Q s} X ⟨o,vs,h1,h2,h3⟩ k=>by
  obtain ⟨hh,gg,dr,tt,os⟩:=s
  exact zsX x X h1 h2 k
def zhT(i:Nat)(C:Addr)(b:Bool):De:=fun ρ=>match ρ[i]? with
 |some (some (.exc C'))=>if C'=C then .ok (.bl b,ρ) else .no
 |_=>.no
section
variable{X:Cx}{C:Cn}{i:Nat}{Cc C2:Addr}{b:Bool}{x x2:Str}{p px p2 pos:Pos}
theorem zlS{v2:V}{u2:Value}(hxi:Xin X.K Cc)(hu:∀ u,zcx v2 u->u=u2)(hq:W.kitOne X.K (.ref Cc) u2=some b):zcz X (.builtin "isinstance") (fun xs H Q=>∃ l,xs=[.ref l,v2]/\H l=some (xHO l Cc)/\Q (.bl b) H):=by
 intro pins s σ H xs us Q I r h
 obtain ⟨l,rfl,hl,q⟩:=h
 obtain ⟨u,u',rfl,r1,r2⟩:=zkF r
 cases r1
 obtain rfl:=hu u' r2
 have ok:zct X.prog X.w H s.heap l (xHO l Cc):=I.hok l _ hl
 exact W.kia_one (zqD hxi) I.kIn ok.1 hq (by simp) fun tk=>⟨.bl b,H,I.tok tk,rfl,q⟩
theorem zma{σ:L2.St}{H:Hp}{Q:VK}{v2:V}(h:tE X.K C (zhT i Cc b) σ H Q):∃ v,σ[i]? = some (some v)/\∃ l,v=.ref l/\H l=some (xHO l Cc)/\Q (.bl b) H:=by
 obtain ⟨G,w,ρ,r,p⟩:=h
 unfold zhT at p
 split at p
 ·rename_i C' e
  split at p
  ·rename_i hC
   subst hC
   obtain ⟨v,h1,l,h2,h3⟩:=r.sl i _ e
   exact ⟨v,h1,l,h2,r.gh _ _ h3,p _ G H w (.refl _ _ _) r (zda _)⟩
  ·exact p.elim
 ·exact p.elim
theorem zgD(i:Nat)(hxi:Xin X.K Cc)(hq:W.kitOne X.K (.ref Cc) (.ref C2)=some b)(hg:Gl X "isinstance")(hm:X.mg "isinstance"=none)(hg2:Gl X x2)(hm2:X.mg x2=some (.ref C2))(hN:X.N[i]? = some x:=by rfl)(hvs:Vis X.env.scope x:=by first|exact Or.inl rfl|exact Or.inr (Or.inl rfl)|exact Or.inr (Or.inr rfl))
  (hd:(x == ("__debug__" : Str))=false:=by decide) (hcd:(x == ("__classdict__" : Str))=false:=by decide) (hv:bootBuiltins "isinstance"=some (.builtin "isinstance"):=by rfl) (hn:("isinstance" : Str)≠"__name__":=by decide) (hdb:(("isinstance" : Str) == ("__debug__" : Str))=false:=by decide) (hdb2:(x2 == ("__debug__" : Str))=false:=by decide)
  (hs:starEach [.Name x px,.Name x2 p2] X.env=(false,eval (.Name x px) X.env)::starEach [.Name x2 p2] X.env:=by rfl) (hs2:starEach [.Name x2 p2] X.env=(false,eval (.Name x2 p2) X.env)::starEach [] X.env:=by rfl) (hpl:(backTo pos (starEach [.Name x2 p2] X.env)).any (·.1)=false:=by rfl) :
  JE X C (.Call (.Name "isinstance" p) [.Name x px,.Name x2 p2] [] pos) (zhT i Cc b) :=
 PE.weak (zdQ (zlS (v2:=.ref C2) hxi (fun u h=>h) hq) hg hm hv (zbe (zce hN hvs hd hcd) (zbe (zlt (v:=.ref C2) hg2 hm2 rfl hdb2) zcr hs2) hs) hn hdb hs hpl) fun σ H Q h=>by
  obtain ⟨v,h1,l,rfl,h2,h3⟩:=zma (v2:=.ref C2) h
  exact ⟨_,h1,l,rfl,h2,h3⟩
theorem zsV{T:String}(i:Nat)(hxi:Xin X.K Cc)(hq:W.kitOne X.K (.ref Cc) (.type T)=some b)(hg:Gl X "isinstance")(hm:X.mg "isinstance"=none)(hg2:Gl X x2)(hm2:X.mg x2=none)(hv2:bootBuiltins x2=some (.type T))(hN:X.N[i]? = some x:=by rfl)(hvs:Vis X.env.scope x:=by first|exact Or.inl rfl|exact Or.inr (Or.inl rfl)|exact Or.inr (Or.inr rfl))
  (hd:(x == ("__debug__" : Str))=false:=by decide) (hcd:(x == ("__classdict__" : Str))=false:=by decide) (hv:bootBuiltins "isinstance"=some (.builtin "isinstance"):=by rfl) (hn:("isinstance" : Str)≠"__name__":=by decide) (hdb:(("isinstance" : Str) == ("__debug__" : Str))=false:=by decide) (hn2:x2≠"__name__":=by decide) (hdb2:(x2 == ("__debug__" : Str))=false:=by decide)
  (hs:starEach [.Name x px,.Name x2 p2] X.env=(false,eval (.Name x px) X.env)::starEach [.Name x2 p2] X.env:=by rfl) (hs2:starEach [.Name x2 p2] X.env=(false,eval (.Name x2 p2) X.env)::starEach [] X.env:=by rfl) (hpl:(backTo pos (starEach [.Name x2 p2] X.env)).any (·.1)=false:=by rfl) :
  JE X C (.Call (.Name "isinstance" p) [.Name x px,.Name x2 p2] [] pos) (zhT i Cc b) :=
 PE.weak (zdQ (zlS (v2:=.ty T) hxi (fun u h=>h) hq) hg hm hv (zbe (zce hN hvs hd hcd) (zbe (zj4 (v:=.ty T) hg2 hm2 hv2 rfl hn2 hdb2) zcr hs2) hs) hn hdb hs hpl) fun σ H Q h=>by
  obtain ⟨v,h1,l,rfl,h2,h3⟩:=zma (v2:=.ty T) h
  exact ⟨_,h1,l,rfl,h2,h3⟩
end
def zj0(XR:Cx)(N:List Str)(scope:Scope)(cl:List (Str×Addr))(qual:Str)(Fa:Addr)(cdv:Value)(s:Shared)(H:Hp)(E:XK):Cx where
 prog:=XR.prog
 w:=XR.w
 K:=XR.K
 mg:=XR.mg
 base:=XR.base
 A:=XR.A.deeper (W.envX qual scope s.heap.objs.size Fa cdv cl)
 N:=N
 s₀:=s
 H₀:=H
 env:=W.envX qual scope s.heap.objs.size Fa cdv cl
 outer:=XR.stack
 stack:=W.envX qual scope s.heap.objs.size Fa cdv cl::XR.stack
 ex:=[]
 fn:=fun _=>false
 calm:=true
 pn:=[]
 xe:=fun e s'=>wpAny (model XR.prog XR.w) (XR.A.deeper (W.envX qual scope s.heap.objs.size Fa cdv cl)) (leaving (W.envX qual scope s.heap.objs.size Fa cdv cl) e) (fun _ s''=>CXf XR.prog XR.w XR.stack H s E e s'') (fun _ _=>False) s'
def zoL(names:List (Str×NameKind)):Bool:=names.all fun y=>match y.2 with
 |.free=>true
 |.globalImplicit=>true
 |_=>false
theorem zgi{names:List (Str×NameKind)}(h:zoL names=true){x:Str}{k:NameKind}(e:names.lookup x=some k):k=.free\/k=.globalImplicit:=by
 have q:=List.all_eq_true.mp h (x,k) (zby e)
 cases k <;> simp at q <;> simp
structure ziP(N:List Str)(names:List (Str×NameKind))(cl:List (Str×Addr))(σ:L2.St)(H:Hp)(h:Heap):Prop where
 inj:∀ x y c,cl.lookup x=some c->cl.lookup y=some c->x=y
 has:∀ x,names.lookup x=some .free->∃ c,cl.lookup x=some c
 is:∀ x c,cl.lookup x=some c->(∃ v,h.IsCell c v)/\H c=none
 val:∀(i:Nat)(x:Str)(v:V),N[i]? = some x->σ[i]? = some (some v)->names.lookup x=some .free->∃ u c,zcx v u/\cl.lookup x=some c/\h.IsCell c (some u)
section
variable{XR:Cx}{pins:List (Addr×Obj)}{σR σ:L2.St}{H:Hp}{s:Shared}{N:List Str}{scope:Scope}{cl:List (Str×Addr)}{qual name:Str}{Fa c':Addr}{params:Arguments}{body:Expr}{pm ctv:Value}{E:XK}
theorem zp2{cdv:Value}{h₁:Heap}{tk:Nat}{mm:Str->Option Value}(J:L2.Inv XR pins σR H s)(hc:XR.calm=true)(hk:scope.kind=.function)(ho:zoL scope.names=true)(L:ziP N scope.names cl σ H s.heap)(hl:σ.length=N.length)
  (hns:h₁.Ns s.heap.objs.size mm) (hkp:∀ b o,s.heap.get? b=some o->h₁.get? b=some o):L2.Inv (zj0 XR N scope cl qual Fa cdv s H E) [] σ H { s with heap:=h₁,toks:=tk }:=by
 have cellK:∀ c v,s.heap.IsCell c v->h₁.IsCell c v:=fun c v ⟨o,e1,e2⟩=>⟨o,hkp c o e1,e2⟩
 refine ⟨⟨J.ok.mod,hk,rfl,rfl,Nat.le_refl _,L.inj,fun x hx=>?_,fun x c h _=>absurd h (by simp[zj0]),fun _=>J.ok.hd hc,Around.frames_deeper J.ok.frames,.inr ⟨rfl,rfl⟩,fun b hb=>absurd hb (by simp[zj0]),J.bs,Nat.le_trans J.ok.bsz J.sz,fun b o e z=>absurd z (by simp[zj0]),fun b z=>absurd z (by simp[zj0]),J.stack,J.stkFree⟩,
  rfl,J.bare,Un.kept hkp,⟨mm,hns,fun i x v e1 e2 e3=>?_⟩,fun x c e=>?_,J.hok.fresh (Nat.le_refl _),fun x c e=>(L.is x c e).2,fun p hp=>absurd hp (by simp[zj0]),J.hok.kept hkp,hl⟩
 ·have hx':scope.names.lookup x=some .cell\/scope.names.lookup x=some .free:=hx
  rcases hx' with z|z
  ·rcases zgi ho z with q|q <;> cases q
  ·exact L.has x z
 ·have e3':scope.names.lookup x=some .local\/scope.names.lookup x=some .cell\/scope.names.lookup x=some .free:=e3
  rcases e3' with z|z|z
  ·rcases zgi ho z with q|q <;> cases q
  ·rcases zgi ho z with q|q <;> cases q
  ·obtain ⟨u,c,r,hcl,ic⟩:=L.val i x v e1 e2 z
   exact ⟨u,r,.inr ⟨.inr z,c,hcl,cellK _ _ ic⟩⟩
 ·obtain ⟨⟨v,ic⟩,_⟩:=L.is x c e
  exact ⟨v,cellK _ _ ic⟩
theorem zpK{t:TE}(J:L2.Inv XR pins σR H s)(hc:XR.calm=true)(hroom:XR.A.depth<recursionLimit)(hk:scope.kind=.function)(ho:zoL scope.names=true)(L:ziP N scope.names cl σ H s.heap)(hl:σ.length=N.length)
  (hF:s.heap.get? Fa=some (W.kla_obj name qual params body scope cl pm c' ctv)) (hcd:s.heap.CodeRec (.ref c') qual) (hbind:bindArgs (W.kla_fn name qual params body scope cl pm (.ref c') ctv) ⟨[],[]⟩=pure [])
  (hco:scope.isCoroutine=false) (hgen:scope.isGenerator=false) (hE:PE (zj0 XR N scope cl qual Fa (.ref c') s H E) body t) (ht:t σ H fun _ _=>False) :
  codeAny (model XR.prog XR.w) XR.A (.call (.ref Fa) ⟨[],[]⟩) (fun r s'=>∃ e,r=.error e/\CXf XR.prog XR.w XR.stack H s E e s') s:=by
 have hcell:∀ y∈scope.names,y.2≠.cell:=fun y hy z=>by
  have q:=List.all_eq_true.mp ho y hy
  rw[z] at q;simp at q
 refine W.kla_callFunE hroom hF rfl hco hgen rfl hcd ?_
 rw[hbind]
 refine wpAny_pure (wpAny_newFunctionEnv hcell (by intro y hy;simp at hy) (fun h₁ hns hsb=>?_) hk)
 have hkp:∀ b o,s.heap.get? b=some o->h₁.get? b=some o:=fun b o e=>(hsb.2 b (Nat.ne_of_lt (Heap.lt_size e))).trans (Heap.get?_push_of_some _ e)
 refine ⟨J.nolimit.keeps hkp,?_⟩
 show codeAny _ _ (.expr body (W.envX qual scope s.heap.objs.size Fa (.ref c') cl)) _ _
 refine W.kla_codeExpr (wpAny_mono (hE [] _ σ H (fun _ _=>False) (zp2 (tk:=s.toks+([]:List (Str×Value)).length) J hc hk ho L hl hns hkp) ht) (fun v s' ⟨_,_,_,_,z⟩=>z.elim) fun e s' h=>?_)
 exact wpAny_mono h (fun _ s'' q=>⟨e,rfl,q⟩) fun _ _ z=>z.elim
theorem zmL{cdv:Value}{C:Cn}(hE:∀ u a H',EXc C u a H'->E u a H'):zco (CXe XR.prog XR.w) (zj0 XR N scope cl qual Fa cdv s H E) (EXc C):=fun pins σ H1 s1 e s2 I hx =>
 zkB (base:=XR.base) (s0:=s) (H0:=H) rfl I.ok.frames (Nat.le_refl _) I.os I.bare I.base I.ok.frf I.stack I.hok I.stkFree hx hE
end
def zbo(ρ:Ev):Ev:=ρ.map fun o=>match o with
 |some (.val d)=>some (.val d)
 |_=>none
theorem zqP{prog:Program}{w:World}{A:Around}{E:Value->Shared->Prop}{s:Shared}{K:W.Frag}{l C Cs:Addr}{Q:Bool->Shared->Prop}(X:K.In s.heap)(hx:XAt l C s.heap)(xs:Xin K Cs)(hsub:W.subIn K (.ref C) (.ref Cs)=some true)(hQ:Q true s) :
  wpAny (model prog w) A (excMatches (.ref l) (.ref Cs)) Q E s:=by
 obtain ⟨hh,gg,dr,tt,os⟩:=s
 obtain ⟨ob,vs,h1,h2,h3⟩:=hx
 obtain ⟨bm,N,nm,qn,bs,hd,sn,sub,ab,col,dd,k0,k1,k2,k3,k5,lk,e4,e5,e6⟩:=ze9 xs.exc
 have hCs:=X _ _ lk
 have inB:(Value.ref Cs::bm).contains (.type "BaseException")=true:=by
  rw[List.contains_cons,(W.tail_of_in X e4).hasType (b:=true) (by decide)];rfl
 have nt:=tc_notTuple
 have L1:=W.looks_subIn (M:=model prog w) X hsub
 unfold excMatches
 repeat (first|(with_reducible refine wpAny_loadPart_at h1 ?_;rw[h2])|(with_reducible refine W.Looks.at L1 ?_)|with_reducible refine wpAny_loadPart_at hCs ?_|(with_reducible refine wpAny_isSubtype_exc hCs ?_;rw[inB])|wp_step)
 exact hQ
section
variable{X:Cx}{pins:List (Addr×Obj)}{σ:L2.St}{H:Hp}{s:Shared}
theorem znu{x:Str}{i:Nat}{h':Heap}{tk:Nat}{v:Option Value}(I:L2.Inv X pins σ H s)(hN:X.N.Nodup)(hi:X.N[i]? = some x)
  (hn:∀ m,s.heap.Ns X.env.locals m->h'.Ns X.env.locals (fun y=>if y=x then v else m y)) (hs:Heap.SameBut X.env.locals s.heap h'):L2.Inv X pins (σ.set i none) H { s with heap:=h',toks:=tk }:=by
 obtain ⟨m,hm,hl⟩:=id I.loc
 have cne:=I.cne
 have tr:HOk X.prog X.w H h':=zpv I.hok fun b u o e q=>(hs.2 b fun z=>by subst z;rw[I.free] at e;cases e).trans q
 refine ⟨I.ok,I.os,I.bare,⟨fun b o e n hb hx=>?_,fun b o e n hb hx=>?_,I.base.free,fun b o e hx=>?_,I.base.tups,I.base.frzs,I.base.tbls⟩,⟨_,hn m hm,fun j y v' e1 e2 e3=>?_⟩,fun y c e=>?_,I.free,I.freeC,fun p hp=>?_,tr,by simpa using I.len⟩
 ·exact (hs.2 b (Nat.ne_of_lt (Nat.lt_of_lt_of_le (Heap.lt_size e) I.ok.above))).trans (I.base.keep b o e n hb hx)
 ·obtain ⟨sl,e1⟩:=I.base.slot b o e n hb hx
  exact ⟨sl,(hs.2 b (Nat.ne_of_lt (Nat.lt_of_lt_of_le (Heap.lt_size e) I.ok.above))).trans e1⟩
 ·obtain ⟨o',e1⟩:=I.base.there b o e hx
  exact ⟨o',(hs.2 b (Nat.ne_of_lt (Nat.lt_of_lt_of_le (Heap.lt_size e) I.ok.above))).trans e1⟩
 ·by_cases hj:j=i
  ·subst hj
   have hlt:j < σ.length:=by rw[I.len];exact (List.getElem?_eq_some_iff.mp hi).1
   rw[List.getElem?_set_self hlt] at e2
   cases e2
  ·rw[List.getElem?_set_ne (Ne.symm hj)] at e2
   obtain ⟨u',r',q⟩:=hl j y v' e1 e2 e3
   refine ⟨u',r',?_⟩
   rcases q with ⟨k,e⟩|⟨k,c,e,z⟩
   ·refine .inl ⟨k,?_⟩
    have:y≠x:=fun e=>hj (ziJ hN e1 (e ▸ hi))
    simp[this,e]
   ·exact .inr ⟨k,c,e,z.sameBut hs (cne y c e)⟩
 ·obtain ⟨w',z⟩:=I.cell y c e
  exact ⟨w',z.sameBut hs (cne y c e)⟩
 ·obtain ⟨e,n,ne,nf,d⟩:=I.pin p hp
  exact ⟨(hs.2 p.1 ne).trans e,n,ne,nf,d⟩
theorem ziz{s1:Shared}{h:Heap}{l C:Addr}{a0:Value}{B:Heap}{H':Hp}(I:L2.Inv X pins σ H s)(os:s1.os=s.os)(bare:AllBare s1.gens)(un:Un (frs X.stack) [] H H' s.heap s1.heap)(hok:HOk X.prog X.w H' s1.heap)
  (fl:Heap.FlyingW B X.stack l (.ref C) a0 s1.heap) (hb1:∀ b o,s.heap.get? b=some o->b∉frs X.stack->∃ u,B.get? b=some u) (hb2:∀ b u,H' b=some u->∃ o,B.get? b=some o) (hnw:s.heap.get? l=none)
  (fl3:Heap.FlyingW B X.stack l (.ref C) a0 h) (up:s1.heap.UpToSlots h):H' l=none/\L2.Inv X pins σ (upd H' l (xHO l C)) { s1 with heap:=h }:=by
 have hl:H' l=none:=by
  cases q:H' l with
  |none=>rfl
  |some u=>obtain ⟨o,e⟩:=hb2 l u q;rw[fl.2.1] at e;cases e
 have at3:∀{b:Addr}{u:Obj},B.get? b=some u->s1.heap.get? b=some u/\h.get? b=some u:=fun {b u} e=>⟨fl.1 b u e,fl3.1 b u e⟩
 have slot:∀ b o,s.heap.get? b=some o->b∈frs X.stack->∃ sl,h.get? b=some { o with slots:=sl }:=fun b o e1 hb=>by
  obtain ⟨sl2,e3⟩:=un.slot b o e1 (I.stkFree b hb) hb (by simp)
  obtain ⟨_,o4,e4,d4⟩:=fl.2.2.1.mem (b:=b) hb
  rw[e3] at e4;cases e4
  obtain ⟨sl3,e5⟩:=up b _ e3 d4
  exact ⟨sl3,e5⟩
 refine ⟨hl,I.call' (s':={ s1 with heap:=h }) (ch:=[]) os ⟨fun b o e1 n hb _=>?_,fun b o e1 n hb _=>slot b o e1 hb,fun b o e1 n _=>?_,fun b o e1 _=>?_,fun b xs q=>?_,fun b o u q=>?_,fun b ps q=>?_⟩ (fun b u e=>?_) bare fun b hb=>absurd hb (by simp)⟩
 ·have e3:=un.keep b o e1 n hb (by simp)
  obtain ⟨u,hu⟩:=hb1 b o e1 hb
  obtain ⟨q1,q2⟩:=at3 hu
  rw[e3] at q1;cases q1;exact q2
 ·rw[zai (fun z=>by subst z;rw[hnw] at e1;cases e1)];exact un.free b o e1 n (by simp)
 ·by_cases hb:b∈frs X.stack
  ·obtain ⟨sl,e2⟩:=slot b o e1 hb;exact ⟨_,e2⟩
  ·obtain ⟨u,hu⟩:=hb1 b o e1 hb;exact ⟨u,(at3 hu).2⟩
 ·have:=un.tups b xs q
  rw[zai (zah this hl)];exact this
 ·have:=un.frzs b o u q
  rw[zai (zah this hl)];exact this
 ·obtain ⟨m,e⟩:=un.tbls b ps q
  exact ⟨m,by rw[zai (zah e hl)];exact e⟩
 ·by_cases hb:b=l
  ·subst hb
   rw[zan] at e;cases e
   obtain ⟨oe,vs,e1,e2,e3,_⟩:=fl3.first
   exact ⟨⟨oe,vs,e1,e2,e3⟩,⟨oe,e1⟩,fun h1 h2 ⟨o,ws,q1,q2,q3⟩ k=>⟨o,ws,k o q1,q2,q3⟩⟩
  ·rw[zai hb] at e
   refine (hok b u e).stay (fun c o hc q=>?_) (fun c z=>?_) fun c xs z=>?_
   ·have hcu:∃ u',H' c=some u':=by
     rcases hc with rfl|hc
     ·exact ⟨_,e⟩
     ·exact ⟨_,hc⟩
    obtain ⟨u',hu'⟩:=hcu
    obtain ⟨o',ho'⟩:=hb2 c u' hu'
    obtain ⟨q1,q2⟩:=at3 ho'
    rw[q] at q1;cases q1;exact q2
   ·rw[zai (zah z hl)];exact z
   ·rw[zai (zah z hl)];exact z
end
def zoK(X:Cx)(e:Value)(E:Value->Shared->Prop):Cx:={ X with A:=X.A.mark (some e),calm:=false,xe:=E }
theorem zox{X:Cx}{pins:List (Addr×Obj)}{σ:L2.St}{H:Hp}{s:Shared}{e:Value}{E:Value->Shared->Prop}(I:L2.Inv X pins σ H s):L2.Inv (zoK X e E) pins σ H s:=by
 have ok:=I.ok
 exact ⟨⟨ok.mod,ok.kind,ok.glob,ok.blt,ok.above,ok.inj,ok.has,ok.cab,fun h=>absurd h (by simp[zoK]),ok.frames,ok.stk,ok.exf,ok.bs,ok.bsz,ok.noex,ok.exfs,ok.funs,ok.frf⟩,I.os,I.bare,I.base,I.loc,I.cell,I.free,I.freeC,I.pin,I.hok,I.len⟩
theorem znT{X:Cx}{pins:List (Addr×Obj)}{σ:L2.St}{H:Hp}{s:Shared}{e:Value}{E:Value->Shared->Prop}(hok:X.Ok)(I:L2.Inv (zoK X e E) pins σ H s):L2.Inv X pins σ H s :=
 ⟨hok,I.os,I.bare,I.base,I.loc,I.cell,I.free,I.freeC,I.pin,I.hok,I.len⟩
def EL(Cc:Addr)(H:Hp):XK:=fun u _ H'=>u=.ref Cc/\zcb H H'
section
variable{X:Cx}{p1 p2 p3 p4 p5 p6 p7 p8 p9:Pos}{Cc Cs Fa:Addr}{H0:Hp}{iF ierr ie:Nat}{xF xerr xe xS:Str}
theorem zps(hc:X.calm=true)(hN:X.N.Nodup)(hst:X.stack=X.env::X.outer)(hfrm:X.env.frame=some X.env.locals)
  (hF:∀ pins σ H s,L2.Inv X pins σ H s->zcb H0 H->codeAny (model X.prog X.w) X.A (.call (.ref Fa) ⟨[],[]⟩) (fun r s'=>∃ e,r=.error e/\CXf X.prog X.w X.stack H s (EL Cc H) e s') s)
  (hFn:∀ pins σ H s,L2.Inv X pins σ H s->zcb H0 H->W.FnAt Fa s.heap)
  (xs:Xin X.K Cs) (hsub:W.subIn X.K (.ref Cc) (.ref Cs)=some true) (hmS:X.mg xS=some (.ref Cs)) (hgS:Gl X xS)
  (hNF:X.N[iF]? = some xF) (hNerr:X.N[ierr]? = some xerr) (hNe:X.N[ie]? = some xe) (hie:ie≠ierr) (kF:X.env.scope.names.lookup xF=some .local) (kerr:X.env.scope.names.lookup xerr=some .local) (ke:X.env.scope.names.lookup xe=some .local)
  (hd1:(xF == ("__debug__" : Str))=false:=by decide) (hd2:(xF == ("__classdict__" : Str))=false:=by decide) (hd3:(xS == ("__debug__" : Str))=false:=by decide) (hd4:(xe == ("__debug__" : Str))=false:=by decide) (hd5:(xe == ("__classdict__" : Str))=false:=by decide)
  (hsw:swapsWith (.Call (.Name xF p1) [] [] p2) none p3.line X.env=pure false:=by rfl) (hsw2:swapsWith (.Name xe p6) (some (.Name xerr p5)) p7.line X.env=pure false:=by rfl) :
  PS X (.Try [.Expr (.Call (.Name xF p1) [] [] p2) p3] [.ExceptHandler (some (.Name xS p4)) (some xe) [.Assign [.Name xerr p5] (.Name xe p6) p7] p8] [] [] p9)
   (fun D σ H=>σ[iF]? = some (some (.ref Fa))/\zcb H0 H/\∀ l H',zcb H H'->H' l=none->D.nx (((σ.set ie (some (.ref l))).set ierr (some (.ref l))).set ie none) (upd H' l (xHO l Cc))):=by
 intro pins s σ H D I ⟨h0,eH,hD⟩
 refine wpAny_Try_except ?_
 refine wpAny_execs_cons ?_
 have hv:∀ EE:Value->Shared->Prop,wpAny (model X.prog X.w) X.A (eval (.Name xF p1) X.env) (EP (X.wish EE) pins σ fun v H'=>v=.ref Fa/\H'=H) EE s:=fun EE =>
  zce (X:=X.wish EE) (pos:=p1) hNF (.inl kF) hd1 hd2 pins s σ H (fun v H'=>v=.ref Fa/\H'=H) (I.wish EE) ⟨_,h0,rfl,rfl⟩
 refine wpAny_Expr_any (wpAny_Call_Name_kw (wpAny_mono (hv _) (fun u s1 ⟨v,H1,I1,r,e1,e2⟩=>?_) fun _ _ z=>z)) I.quiet hsw
 subst e1 e2
 cases r
 have I1:=I1.unwish
 refine W.callWith_F0 (hFn _ _ _ _ I1 eH) (wpAny_call (codeAny_mono (hF _ _ _ _ I1 eH) fun r s2 ⟨e,er,hx⟩=>?_))
 subst er
 obtain ⟨l,cls,a0,B,H',rfl,os,bare,un,hok,fl,hb1,hb2,hnw,ecls,same⟩:=hx
 subst ecls
 show wpAny _ _ (noteFrame (.ref l) X.env) _ _ s2
 rw[hst] at fl
 refine wpAny_looks_onW (by rw[I1.ok.frames,hst]) hfrm fl fun h3 held3 up3=>?_
 refine wpAny_landsW held3 fun h4 fl4 up4=>?_
 rw[<- hst] at fl fl4
 obtain ⟨hl,I4⟩:=ziz I1 os bare un hok fl hb1 hb2 hnw fl4 (up3.trans up4)
 refine wpAny_handleBy_cons (codeAny_handlers_test ?_) (by intro q;cases q)
 refine zgb (X:=zoK X (.ref l) fun _ _=>True) (zox I4) hgS hmS ?_ hd3
 have xat:XAt l Cc h4:=by obtain ⟨oe,vs,q1,q2,q3,_⟩:=fl4.first;exact ⟨oe,vs,q1,q2,q3⟩
 refine zqP (K:=X.K) I4.kIn xat xs hsub ?_
 refine codeAny_handlers_suite_as ?_
 refine lands_againW fl4 fun h5 fl5 up5=>?_
 obtain ⟨_,I5⟩:=ziz I1 os bare un hok fl hb1 hb2 hnw fl5 ((up3.trans up4).trans up5)
 refine ziI I5 hN hNe (.inl ke) (v:=.ref l) rfl (fun s6 I6=>?_) (.inr ke)
 have hsuite:=fun EE:Value->Shared->Prop=>zoB (X:=zoK X (.ref l) EE) (zm4 (pos:=p7) (pos':=p5) hN hNerr (.inl kerr) (zce (pos:=p6) hNe (.inl ke) hd4 hd5) hsw2 (.inr kerr)) pins s6 (σ.set ie (some (.ref l))) (upd H' l (xHO l Cc)) { nx:=fun σ' H''=>σ'=(σ.set ie (some (.ref l))).set ierr (some (.ref l))/\H''=upd H' l (xHO l Cc),rt:=fun _ _=>False } (zox I6) ⟨.ref l,by
  rw[List.getElem?_set_self (by rw[I5.len];exact (List.getElem?_eq_some_iff.mp hNe).1)],rfl,rfl⟩
 refine wpAny_mono (hsuite _) (fun f s7 h7=>?_) fun _ _ z=>z
 cases f with
 |next =>
  obtain ⟨σ',H'',I7,e1,e2⟩:=h7
  subst e1 e2
  have I7:=znT I4.ok I7
  obtain ⟨m7,hm7,_⟩:=I7.loc
  refine wpAny_nameGoes_keeps (env:=X.env) ke hm7 (by rw[I7.ok.kind];rfl) fun h8 v hn8 hs8=>?_
  refine ⟨_,_,znu (x:=xe) (i:=ie) (v:=v) I7 hN hNe (fun m hm=>?_) hs8,hD l H' same hl⟩
  obtain ⟨o,es,ep,ho,hd,hk,hmm⟩:=hn8
  obtain ⟨o',es',ep',ho',hd',hk',hm'⟩:=hm
  obtain ⟨o7,es7,ep7,ho7,hd7,hk7,hm7'⟩:=hm7
  rw[ho'] at ho7;cases ho7
  rw[hd'] at hd7;cases hd7
  exact ⟨o,es,ep,ho,hd,hk,fun x=>by rw[hmm x];show (if x=xe then v else m7 x)=if x=xe then v else m x;rw[<- hm7' x,hm' x]⟩
 |brk=>obtain ⟨_,_,_,z⟩:=h7;exact z.elim
 |cont=>obtain ⟨_,_,_,z⟩:=h7;exact z.elim
 |ret u=>obtain ⟨_,_,_,_,_,z⟩:=h7;exact z.elim
end
def fHO(a:Addr)(ob:Obj):HO:=.ext fun h=>h.get? a=some ob
structure zgm(X:Cx)(P:Addr):Prop where
 code:∃ c,X.env.code=.ref c/\W.CodeHd X.base c P
 blt:X.base.BuiltinsAt X.mg P
theorem zoa{P:Program}{w:World}{H:Hp}{h:Heap}{a:Addr}{φ : Heap->Prop}{o:Obj}(h1:φ h)(h2:h.get? a=some o)(h3:∀ x y:Heap,φ x->(∀ o,x.get? a=some o->y.get? a=some o)->φ y):zct P w H h a (.ext φ):=⟨h1,⟨o,h2⟩,h3⟩
theorem zly{c:Addr}{q:Str}(x y:Heap)(h:x.CodeRec (.ref c) q)(k:∀ o,x.get? c=some o->y.get? c=some o):y.CodeRec (.ref c) q:=by
 obtain ⟨c',o,vs,t,e,h1,h2,h3⟩:=h
 cases e
 exact ⟨c,o,vs,t,rfl,k o h1,h2,h3⟩
structure zos(P:Addr)(q:Str)(G H:Hp)(ps:Array Value):Prop where
 at_:H P=some (.tbl ps)
 tri:TriplesOk ps.toList
 cod:∀ pos cv,codeAmong pos ps.toList=some cv->∃ c,cv=.ref c/\G c=some (cHO c q)
section
variable{X:Cx}{pins:List (Addr×Obj)}{σ:L2.St}{H:Hp}{s:Shared}{P:Addr}{q:Str}{params:Arguments}{body:Expr}{scope:Scope}{pos:Pos}{cl:List (Str×Addr)}{ps:Array Value}{Q:VK}
theorem ztr(LB:zgm X P)(I:L2.Inv X pins σ H s)(hdef:defaultsOf params X.env=([],[]))(hcl:closureFor scope X.env=pure cl)(T:zos P (X.env.qual++"<lambda>") H H ps)
  (hA:∀ c Fa ctv,codeAmong pos ps.toList=none->H c=none->H Fa=none->c≠Fa->Q (.ref Fa) (upd (upd (upd H P (.tbl (ps++#[rawInt pos.line,rawInt pos.col,.ref c]))) c (cHO c (X.env.qual++"<lambda>"))) Fa (fHO Fa (W.kla_obj "<lambda>" (X.env.qual++"<lambda>") params body scope cl ((X.mg "__name__").getD .none) c ctv))))
  (hB:∀ c Fa ctv,codeAmong pos ps.toList=some (.ref c)->H Fa=none->Q (.ref Fa) (upd H Fa (fHO Fa (W.kla_obj "<lambda>" (X.env.qual++"<lambda>") params body scope cl ((X.mg "__name__").getD .none) c ctv)))) :
  wpAny (model X.prog X.w) X.A (eval (.Lambda params body scope pos) X.env) (EP X pins σ Q) X.xe s:=by
 obtain ⟨c0,hc0,C0⟩:=LB.code
 have C0':=C0.keeps I.bk
 have hg:=I.mod.glob.keeps I.bk
 have oP:s.heap.get? P=some (W.tabObj ps):=I.hok P _ T.at_
 have nP:∀ b o,X.base.get? b=some o->b≠P:=fun b o e z=>by
  have:=(I.bs b o e).2
  rw[z,T.at_] at this;cases this
 have hgP:mainGlobals≠P:=by
  obtain ⟨o,es,ep,e,_⟩:=I.mod.glob
  exact nP _ _ e
 have hbl:s.heap.BuiltinsAt X.mg P:=by
  obtain ⟨bm,o,b1,b2,b3,b4,b5,b6⟩:=LB.blt
  exact ⟨bm,o,b1,b2,b3,b4,I.bk _ _ b5,b6⟩
 refine W.kla_eval hdef ?_
 cases hk:codeAmong pos ps.toList with
 |none =>
  refine W.kla_makeFunction (mg:=X.mg) hcl I.ok.glob hg hc0 C0' oP T.tri hk hgP hbl fun c' ctv h' tk hx hge hlt hrec htb=>?_
  have hcn:H c'=none:=I.hok.fresh hge
  have hFn:H h'.objs.size=none:=I.hok.fresh (Nat.le_trans hge (Nat.le_of_lt hlt))
  have hne:c'≠h'.objs.size:=Nat.ne_of_lt hlt
  have cP:c'≠P:=fun z=>by rw[z,T.at_] at hcn;cases hcn
  have fP:h'.objs.size≠P:=fun z=>by rw[z,T.at_] at hFn;cases hFn
  have kp:∀ b o,b≠P->s.heap.get? b=some o->(h'.push (W.kla_obj "<lambda>" (X.env.qual++"<lambda>") params body scope cl ((X.mg "__name__").getD .none) c' ctv)).get? b=some o:=fun b o hb e=>Heap.get?_push_of_some _ (hx b o hb e)
  have hq:=hA c' h'.objs.size ctv hk hcn hFn hne
  refine ⟨.ref h'.objs.size,_,I.call' (s':={ s with heap:=h'.push (W.kla_obj "<lambda>" (X.env.qual++"<lambda>") params body scope cl ((X.mg "__name__").getD .none) c' ctv),toks:=tk }) (ch:=[]) rfl ⟨fun b o e n _ _=>?_,fun b o e n _ _=>?_,fun b o e n _=>?_,fun b o e _=>?_,fun b xs z=>?_,fun b o u z=>?_,fun b pz z=>?_⟩ (fun b u e=>?_) I.bare fun b hb=>absurd hb (by simp),rfl,hq⟩
  ·exact kp b o (fun z=>by rw[z,T.at_] at n;cases n) e
  ·exact ⟨o.slots,kp b o (fun z=>by rw[z,T.at_] at n;cases n) e⟩
  ·have l1:=Heap.lt_size e
   rw[zai (Nat.ne_of_lt (Nat.lt_trans (Nat.lt_of_lt_of_le l1 hge) hlt)),zai (Nat.ne_of_lt (Nat.lt_of_lt_of_le l1 hge)),zai (fun z=>by rw[z,T.at_] at n;cases n)]
   exact n
  ·by_cases hb:b=P
   ·subst hb;exact ⟨_,Heap.get?_push_of_some _ htb⟩
   ·exact ⟨o,kp b o hb e⟩
  ·rw[zai (zah z hFn),zai (zah z hcn),zai (fun y=>by rw[y,T.at_] at z;cases z)];exact z
  ·rw[zai (zah z hFn),zai (zah z hcn),zai (fun y=>by rw[y,T.at_] at z;cases z)];exact z
  ·by_cases hb:b=P
   ·subst hb
    rw[T.at_] at z;cases z
    exact ⟨_,by rw[zai (Ne.symm fP),zai (Ne.symm cP),zan]⟩
   ·exact ⟨#[],by rw[zai (zah z hFn),zai (zah z hcn),zai hb,z];simp⟩
  ·by_cases hbF:b=h'.objs.size
   ·rw[hbF,zan] at e;cases e
    rw[hbF]
    exact zoa (Heap.get?_push_size _ rfl) (Heap.get?_push_size _ rfl) fun x y h k=>k _ h
   ·rw[zai hbF] at e
    by_cases hbc:b=c'
    ·rw[hbc,zan] at e;cases e
     rw[hbc]
     have hr:=hrec.push (W.kla_obj "<lambda>" (X.env.qual++"<lambda>") params body scope cl ((X.mg "__name__").getD .none) c' ctv)
     obtain ⟨c2,o2,_,_,e2,h2,_⟩:=id hr
     cases e2
     exact zoa hr h2 zly
    ·rw[zai hbc] at e
     by_cases hbP:b=P
     ·rw[hbP,zan] at e;cases e
      rw[hbP]
      exact Heap.get?_push_of_some _ htb
     ·rw[zai hbP] at e
      refine (I.hok b u e).stay (fun d o hd z=>?_) (fun d z=>?_) fun d xs z=>?_
      ·refine kp d o (fun y=>?_) z
       rcases hd with hd|hd
       ·exact hbP (hd.symm.trans y)
       ·rw[y,T.at_] at hd;cases hd
      ·rw[zai (zah z hFn),zai (zah z hcn),zai (fun y=>by rw[y,T.at_] at z;cases z)];exact z
      ·rw[zai (zah z hFn),zai (zah z hcn),zai (fun y=>by rw[y,T.at_] at z;cases z)];exact z
 |some cv =>
  obtain ⟨c,rfl,hcG⟩:=T.cod pos cv hk
  refine W.kla_makeFunctionHit (mg:=X.mg) hcl I.ok.glob hg hc0 C0' oP T.tri hk hbl fun ctv h' tk hkp hsz=>?_
  have hFn:H h'.objs.size=none:=I.hok.fresh hsz
  exact ⟨.ref h'.objs.size,_,I.laid (t':=tk) (fun b u e=>Heap.get?_push_of_some _ (hkp b u e)) hsz (zoa (Heap.get?_push_size _ rfl) (Heap.get?_push_size _ rfl) fun x y h k=>k _ h),rfl,hB c h'.objs.size ctv hk hFn⟩
end
def zoU(iF ierr ie:Nat)(Cc:Addr):DS:=fun ρ=>match ρ[iF]? with
 |some (some .opq)=>if ierr < ρ.length/\ie < ρ.length then .ok (.nx,(ρ.set ierr (some (.exc Cc))).set ie none) else .no
 |_=>.no
section
variable{X:Cx}{C:Cn}{p1 p2 p3 p4 p5 p6 p7 p8 p9:Pos}{Cc Cs Fa:Addr}{iF ierr ie:Nat}{xF xerr xe xS:Str}
theorem zoz(hc:X.calm=true)(hN:X.N.Nodup)(hst:X.stack=X.env::X.outer)(hfrm:X.env.frame=some X.env.locals)(hw0:C.w₀=fun _=>none)(hpp:C.pp=[iF])(hσ0:C.σ₀[iF]? = some (some (.ref Fa)))
  (hF:∀ pins σ H s,L2.Inv X pins σ H s->zcb C.H₀ H->codeAny (model X.prog X.w) X.A (.call (.ref Fa) ⟨[],[]⟩) (fun r s'=>∃ e,r=.error e/\CXf X.prog X.w X.stack H s (EL Cc H) e s') s)
  (hFn:∀ pins σ H s,L2.Inv X pins σ H s->zcb C.H₀ H->W.FnAt Fa s.heap)
  (xs:Xin X.K Cs) (hsub:W.subIn X.K (.ref Cc) (.ref Cs)=some true) (hmS:X.mg xS=some (.ref Cs)) (hgS:Gl X xS)
  (hNF:X.N[iF]? = some xF) (hNerr:X.N[ierr]? = some xerr) (hNe:X.N[ie]? = some xe) (hie:ie≠ierr) (hF1:ierr≠iF) (hF2:ie≠iF) (kF:X.env.scope.names.lookup xF=some .local) (kerr:X.env.scope.names.lookup xerr=some .local) (ke:X.env.scope.names.lookup xe=some .local)
  (hd1:(xF == ("__debug__" : Str))=false:=by decide) (hd2:(xF == ("__classdict__" : Str))=false:=by decide) (hd3:(xS == ("__debug__" : Str))=false:=by decide) (hd4:(xe == ("__debug__" : Str))=false:=by decide) (hd5:(xe == ("__classdict__" : Str))=false:=by decide)
  (hsw:swapsWith (.Call (.Name xF p1) [] [] p2) none p3.line X.env=pure false:=by rfl) (hsw2:swapsWith (.Name xe p6) (some (.Name xerr p5)) p7.line X.env=pure false:=by rfl) :
  JS X C (.Try [.Expr (.Call (.Name xF p1) [] [] p2) p3] [.ExceptHandler (some (.Name xS p4)) (some xe) [.Assign [.Name xerr p5] (.Name xe p6) p7] p8] [] [] p9) (zoU iF ierr ie Cc) :=
 PS.weak (zps hc hN hst hfrm hF hFn xs hsub hmS hgS hNF hNerr hNe hie kF kerr ke hd1 hd2 hd3 hd4 hd5 hsw hsw2) fun D σ H ⟨G,w,ρ,r,p⟩=>by
  unfold zoU at p
  split at p
  ·split at p
   ·rename_i hlen
    have sm:zcb C.H₀ H:=fun b o e=>r.en.h b o e (by rw[hw0])
    refine ⟨by rw[r.pin iF (by rw[hpp];simp)];exact hσ0,sm,fun l H' same hl=>?_⟩
    have hHl:H l=none:=by
     cases q:H l with
     |none=>rfl
     |some u=>rw[same l u q] at hl;cases hl
    have hGl:G l=none:=by
     cases q:G l with
     |none=>rfl
     |some u=>rw[r.gh l u q] at hHl;cases hHl
    have wl:∀ b,w b≠none->b≠l:=fun b e z=>by subst z;exact r.wh b e hHl
    have sG:zcb G (upd G l (xHO l Cc)):=fun b u e=>by rw[zai (zah e hGl)];exact e
    have sH:zcb H (upd H' l (xHO l Cc)):=fun b u e=>by rw[zai (zah e hHl)];exact same b u e
    have st:zbJ G H w (upd G l (xHO l Cc)) (upd H' l (xHO l Cc)) w:=by
     refine ⟨sG,fun b o e=>?_,fun b o e _=>sH b o e,fun b e=>.inl e,fun b e=>?_⟩
     ·by_cases hb:b=l
      ·subst hb;exact .inr (.inl hHl)
      ·rw[zai hb] at e;exact .inl (by rw[e];simp)
     ·cases q:H b with
      |none=>rfl
      |some u=>rw[sH b u q] at e;cases e
    refine p _ _ _ _ st ⟨fun b u e=>?_,fun b e=>?_,fun b e z=>?_,by simpa using r.len,fun i b e=>?_,r.en.trans st,fun i hi=>?_⟩
    ·by_cases hb:b=l
     ·subst hb;rw[zan] at e ⊢;exact e
     ·rw[zai hb] at e ⊢;exact same b u (r.gh b u e)
    ·rw[zai (wl b e)];exact r.wg b e
    ·cases q:H b with
     |none=>exact r.wh b e q
     |some u=>rw[sH b u q] at z;cases z
    ·by_cases h2:i=ie
     ·subst h2;rw[List.getElem?_set_self (by simpa using hlen.2)] at e;cases e
     ·rw[List.getElem?_set_ne (Ne.symm h2)] at e ⊢
      by_cases h1:i=ierr
      ·subst h1
       rw[List.getElem?_set_self hlen.1] at e;cases e
       refine ⟨.ref l,?_,l,rfl,zan⟩
       rw[List.getElem?_set_self (by rw[List.length_set,<- r.len];exact hlen.1)]
      ·rw[List.getElem?_set_ne (Ne.symm h1)] at e ⊢
       rw[List.getElem?_set_ne (Ne.symm h2)]
       obtain ⟨v,q1,q2⟩:=r.sl i b e
       exact ⟨v,q1,q2.grow sG fun a o e1 e2=>⟨sH a o e2,e1⟩⟩
    ·rw[hpp] at hi
     have:i=iF:=by simpa using hi
     subst this
     rw[List.getElem?_set_ne hF2,List.getElem?_set_ne hF1,List.getElem?_set_ne hF2]
     exact r.pin i (by rw[hpp];simp)
   ·exact p.elim
  ·exact p.elim
end
theorem zuP{CX:CXT}{P:Program}{w:World}{K:W.Frag}{mg:Str->Option Value}{base:Heap}{k:Nat}{f:Addr}{name qual:Str}{params:Arguments}{body:List Stmt}{scope:Scope}{dV kV doc pm cdv ct oc:Value}{an od:Option Addr}
  {osl:Array (Option Value)} {N ps:List Str} {A:Around} {outer:List Env} {s:Shared} {H:Hp} {args:Args} {us:List Value} {vs:List V} {Q:VK} {E:XK} (lk:K.lookup f=some ⟨oc,od,.func (W.fnOf name qual params body scope dV kV doc pm an cdv ct),osl⟩) (hcd:W.codeIn K cdv qual=true) (S:zaz N ps scope)
  (hr:zdC (k+1) A) (e0:zpA P w K mg base A outer s H) (hb:BindsTo s (W.fnOf name qual params body scope dV kV doc pm an cdv ct) args (ps.zip us)) (r:zbp vs us) (hl:vs.length=ps.length)
  (hbody:∃ t,PSs (zjQ CX P w K mg base N qual scope f cdv A outer s H E) body t/\t { nx:=fun _ H'=>Q .non H',rt:=Q } (start N vs) H) :
  codeAny (model P w) A (.call (.ref f) args) (CR CX outer P w H s Q E) s:=by
 have hin:K.In s.heap:=e0.mod.kin.keeps fun b o e=>(e0.bs b o e).1
 have nolim:s.heap.NoLimit:=e0.mod.nolimit.keeps fun b o e=>(e0.bs b o e).1
 have zbH:∀ y∈ps.zip us,scope.names.lookup y.1=some .local\/(scope.names.lookup y.1=some .cell/\((cellsFrom (s.heap.objs.size+1) scope.names []).lookup y.1).isSome=true):=fun ⟨n,v⟩ hy=>by
  rcases S.par n (List.of_mem_zip hy).1 with q|q
  ·exact .inl q
  ·exact .inr ⟨q,W.cellsFrom_some _ _ _ (.inl q)⟩
 have dp:A.depth<recursionLimit:=by have:=hr.dp;omega
 refine codeAny_call_function dp (hin _ _ lk) rfl S.co S.gen rfl (W.codeRec_of hin hcd) (hb _ _ _ _ ?_)
 refine wpAny_newFunctionEnv_cells S.kind zbH fun env he s1 x=>?_
 subst he
 refine ⟨nolim.keeps x.toInCall.keep,codeAny_func ?_⟩
 obtain ⟨t,ht,hq⟩:=hbody
 have I:=zki (CX:=CX) (K:=K) (mg:=mg) (base:=base) (E:=E) (qual:=qual) (f:=f) (cd:=cdv) S hr.hd e0 hl r x
 refine wpAny_mono (ht [] s1 (start N vs) H _ I hq) (fun fl s' hs=>?_) fun e s' hs=>hs
 cases fl with
 |ret u=>obtain ⟨v,σ',H',J,rv,q⟩:=hs;exact ⟨v,H',J.os,J.bare,J.base,J.hok,rv,q⟩
 |next=>obtain ⟨σ',H',J,q⟩:=hs;exact ⟨V.non,H',J.os,J.bare,J.base,J.hok,rfl,q⟩
 |brk=>obtain ⟨_,_,_,q⟩:=hs;exact q.elim
 |cont=>obtain ⟨_,_,_,q⟩:=hs;exact q.elim
theorem zjT{a b:Int}{t u:Tok}{c:Value}:∀{l:List Value},TriplesOk l->TriplesOk (l++[.int a t,.int b u,c]):=by
 intro l h
 fun_induction TriplesOk l with
 |case1=>simp[TriplesOk]
 |case2 x1 x2 x3 x4 x5 zcc ih=>simpa [TriplesOk] using ih h
 |case3=>exact h.elim
theorem zmR{p:Pos}{a b:Int}{t u:Tok}{c cv:Value}:∀{l:List Value},TriplesOk l->codeAmong p (l++[.int a t,.int b u,c])=some cv->codeAmong p l=some cv\/cv=c:=by
 intro l h e
 fun_induction TriplesOk l with
 |case1 =>
  simp only[List.nil_append,codeAmong] at e
  split at e
  ·exact .inr (Option.some.inj e).symm
  ·cases e
 |case2 x1 x2 x3 x4 x5 zcc ih =>
  simp only[List.cons_append,codeAmong] at e ⊢
  split at e
  ·rename_i hh;rw[if_pos hh];exact .inl e
  ·rename_i hh;rw[if_neg hh];exact ih h e
 |case3=>exact h.elim
section
variable{K:W.Frag}{C:Cn}{G H:Hp}{w:Wn}{ρ:Ev}{σ:L2.St}{j:Nat}{q:Str}{P c Fa:Addr}{ps:Array Value}{a b:Int}{t u:Tok}{ob:Obj}
theorem Rel.lamA(r:Rel K C G w ρ σ H)(hj:ρ[j]? = some (some (.tab q)))(hσ:σ[j]? = some (some (.ref P)))(hw:w P=some j)(T:zos P q G H ps)(hc:H c=none)(hF:H Fa=none)(hne:c≠Fa) :
  Rel K C (upd (upd G c (cHO c q)) Fa (fHO Fa ob)) w ρ σ (upd (upd (upd H P (.tbl (ps++#[.int a t,.int b u,.ref c]))) c (cHO c q)) Fa (fHO Fa ob)) /\
   zbJ G H w (upd (upd G c (cHO c q)) Fa (fHO Fa ob)) (upd (upd (upd H P (.tbl (ps++#[.int a t,.int b u,.ref c]))) c (cHO c q)) Fa (fHO Fa ob)) w:=by
 have gf:∀{x:Addr},H x=none->G x=none:=fun {x} e=>r.gh.free e
 have cP:c≠P:=fun z=>by rw[z,T.at_] at hc;cases hc
 have fP:Fa≠P:=fun z=>by rw[z,T.at_] at hF;cases hF
 have gP:G P=none:=r.wg P (by rw[hw];simp)
 have sG:zcb G (upd (upd G c (cHO c q)) Fa (fHO Fa ob)):=fun x o e=>by rw[zai (zah e (gf hF)),zai (zah e (gf hc))];exact e
 have oth:∀{x:Addr}{o:HO},x≠P->H x=some o->upd (upd (upd H P (.tbl (ps++#[.int a t,.int b u,.ref c]))) c (cHO c q)) Fa (fHO Fa ob) x=some o:=fun {x o} hx e=>by
  rw[zai (zah e hF),zai (zah e hc),zai hx];exact e
 have dom:∀ x,upd (upd (upd H P (.tbl (ps++#[.int a t,.int b u,.ref c]))) c (cHO c q)) Fa (fHO Fa ob) x=none->H x=none:=fun x e=>by
  by_cases h1:x=Fa
  ·rw[h1,zan] at e;cases e
  ·rw[zai h1] at e
   by_cases h2:x=c
   ·rw[h2,zan] at e;cases e
   ·rw[zai h2] at e
    by_cases h3:x=P
    ·rw[h3,zan] at e;cases e
    ·rw[zai h3] at e;exact e
 have st:zbJ G H w (upd (upd G c (cHO c q)) Fa (fHO Fa ob)) (upd (upd (upd H P (.tbl (ps++#[.int a t,.int b u,.ref c]))) c (cHO c q)) Fa (fHO Fa ob)) w:=by
  refine ⟨sG,fun x o e=>?_,fun x o e z=>oth (fun y=>by rw[y,hw] at z;cases z) e,fun x e=>.inl e,dom⟩
  by_cases h1:x=Fa
  ·rw[h1];exact .inr (.inl hF)
  ·rw[zai h1] at e
   by_cases h2:x=c
   ·rw[h2];exact .inr (.inl hc)
   ·rw[zai h2] at e;exact .inl (by rw[e];simp)
 refine ⟨⟨fun x o e=>?_,fun x e=>?_,fun x e z=>r.wh x e (dom x z),r.len,fun i bb e=>?_,r.en.trans st,r.pin⟩,st⟩
 ·by_cases h1:x=Fa
  ·rw[h1,zan] at e ⊢;exact e
  ·rw[zai h1] at e ⊢
   by_cases h2:x=c
   ·rw[h2,zan] at e ⊢;exact e
   ·rw[zai h2] at e ⊢
    rw[zai (fun y=>by rw[y,gP] at e;cases e)]
    exact r.gh x o e
 ·have:=r.wh x e
  rw[zai (fun y=>this (by rw[y];exact hF)),zai (fun y=>this (by rw[y];exact hc))]
  exact r.wg x e
 ·obtain ⟨v,e1,e2⟩:=r.sl i bb e
  by_cases hi:i=j
  ·subst hi
   rw[hj] at e;cases e
   rw[hσ] at e1;cases e1
   refine ⟨_,hσ,P,ps++#[.int a t,.int b u,.ref c],rfl,hw,?_,?_,fun p cv hcv=>?_⟩
   ·rw[zai (Ne.symm fP),zai (Ne.symm cP),zan]
   ·rw[Array.toList_append];exact zjT T.tri
   ·rw[Array.toList_append] at hcv
    rcases zmR T.tri hcv with z|z
    ·obtain ⟨c2,q1,q2⟩:=T.cod p cv z
     exact ⟨c2,q1,sG _ _ q2⟩
    ·exact ⟨c,z,by rw[zai hne,zan]⟩
  ·refine ⟨v,e1,e2.grow sG fun x o z1 z2=>⟨oth (fun y=>?_) z2,z1⟩⟩
   rw[y,hw] at z1
   exact hi (Option.some.inj z1).symm
theorem Rel.lamB(r:Rel K C G w ρ σ H)(hF:H Fa=none):Rel K C (upd G Fa (fHO Fa ob)) w ρ σ (upd H Fa (fHO Fa ob))/\zbJ G H w (upd G Fa (fHO Fa ob)) (upd H Fa (fHO Fa ob)) w :=
 let gr:zec G H (upd G Fa (fHO Fa ob)) (upd H Fa (fHO Fa ob)):=.new r.gh hF
 ⟨r.grow gr,gr.step⟩
theorem zmx{bs:List B}:∀{ρ:Ev}{k:Nat},zfq [] bs k ρ = ρ
 |[],_=>rfl
 |o::r,k=>by unfold zfq;rw[zmx (ρ:=r)];rfl
end
def zkV(j:Nat)(q:Str)(fE:De):DN:=fun ρ=>match ρ[j]? with
 |some (some (.tab q'))=>if q'=q then match fE (zbo ρ) with
   |.er n=>if n<8 then .ok ([.int n],ρ) else .no
   |_=>.no
  else .no
 |_=>.no
def zq2(C:Cn)(G H:Hp)(σ:L2.St):Cn:=⟨G,H,fun _=>none,[0],σ,fun _=>False,C.xv,true⟩
def zse(C:Cn)(G H:Hp)(σ:L2.St)(n:Nat):Cn:=⟨G,H,fun _=>none,[],σ,fun m=>m=n,C.xv,false⟩
abbrev HB(X:Cx)(C:Cn)(xr:Str)(st:Stmt)(f:Addr)(NR:List Str)(k:Nat)(cls:Nat->Addr)(dB:Nat->Addr->DS):Prop:=∀(XR:Cx)(CR:Cn)(n:Nat)(Fa:Addr),n<8->(∃ cdv A outer s H E,XR=zjQ (CXe X.prog X.w) X.prog X.w X.K X.mg X.base NR xr (zak st) f cdv A outer s H E)->(∃ G H,CR=zq2 C G H (start NR [.ref Fa]))->zdC (k+1) XR.A ->
   (∀ pins σ H s,L2.Inv XR pins σ H s->zcb CR.H₀ H->codeAny (model XR.prog XR.w) XR.A (.call (.ref Fa) ⟨[],[]⟩) (fun r s'=>∃ e,r=.error e/\CXf XR.prog XR.w XR.stack H s (EL (cls n) H) e s') s) ->
   (∀ pins σ H s,L2.Inv XR pins σ H s->zcb CR.H₀ H->W.FnAt Fa s.heap)->JSs XR CR (zck st) (dB n (cls n))
abbrev HD(m:Nat)(dB:Nat->Addr->DS):Prop:=∀ n C',n<8->∃ ρ',dB n C' (some .opq::List.replicate m none)=.ok (.rt (.lst [.int n]),ρ')
abbrev HL(X:Cx)(xv:Nat->Value)(k:Nat)(body:Expr)(scope:Scope)(fE:De):Prop:=∀(XL:Cx)(CL:Cn),(∃ XR cl Fa cdv s H E,XR.prog=X.prog/\XR.w=X.w/\XR.K=X.K/\XR.mg=X.mg/\XR.base=X.base/\XL=zj0 XR X.N scope cl (X.env.qual++"<lambda>") Fa cdv s H E)->CL.xv=xv->zdC k XL.A->zco (CXe X.prog X.w) XL (EXc CL)->JE XL CL body fE
abbrev HA(X:Cx)(params:Arguments)(body:Expr)(scope:Scope):Prop:=∀ cl pm cdv ctv,bindArgs (W.kla_fn "<lambda>" (X.env.qual++"<lambda>") params body scope cl pm cdv ctv) ⟨[],[]⟩=pure []
abbrev kLo(X:Cx)(params:Arguments)(body:Expr)(scope:Scope)(cl:List (Str×Addr))(c:Addr)(ctv:Value):Obj:=W.kla_obj "<lambda>" (X.env.qual++"<lambda>") params body scope cl ((X.mg "__name__").getD .none) c ctv
structure zg8(X:Cx)(xv:Nat->Value)(k:Nat)(params:Arguments)(body:Expr)(scope:Scope)(fE:De):Prop where
 hE:HL X xv k body scope fE
 hfr:Hfr X scope
 hbind:HA X params body scope
 hdef:defaultsOf params X.env=([],[]):=by rfl
 hk:scope.kind=.function:=by rfl
 ho:zoL scope.names=true:=by rfl
 hco:scope.isCoroutine=false:=by rfl
 hgen:scope.isGenerator=false:=by rfl
structure zlq(X:Cx)(xv:Nat->Value)(k n:Nat)(ρ:Ev)(G:Hp)(Fa:Addr):Prop where
 ex:∃ params body scope cl c ctv fE,zg8 X xv k params body scope fE/\(∀ x cc,cl.lookup x=some cc->X.env.cells.lookup x=some cc)/\(∀ y∈scope.names,y.2=.free->∃ c,cl.lookup y.1=some c) /\
  G Fa=some (fHO Fa (kLo X params body scope cl c ctv))/\G c=some (cHO c (X.env.qual++"<lambda>"))/\fE (zbo ρ)=.er n
theorem zlq.same{X:Cx}{xv:Nat->Value}{k n:Nat}{ρ:Ev}{G G':Hp}{Fa:Addr}(L:zlq X xv k n ρ G Fa)(e:zcb G G'):zlq X xv k n ρ G' Fa:=by
 obtain ⟨params,body,scope,cl,c,ctv,fE,h1,h2,h3,h4,h5,h6⟩:=L.ex
 exact ⟨params,body,scope,cl,c,ctv,fE,h1,h2,h3,e _ _ h4,e _ _ h5,h6⟩
def tLam(X:Cx)(P:Addr)(params:Arguments)(body:Expr)(scope:Scope)(lpos:Pos)(cl:List (Str×Addr)):TE:=fun σ H Q=>∃ ps:Array Value,zos P (X.env.qual++"<lambda>") H H ps /\
 (∀ c Fa ctv,codeAmong lpos ps.toList=none->H c=none->H Fa=none->c≠Fa->Q (.ref Fa) (upd (upd (upd H P (.tbl (ps++#[rawInt lpos.line,rawInt lpos.col,.ref c]))) c (cHO c (X.env.qual++"<lambda>"))) Fa (fHO Fa (kLo X params body scope cl c ctv)))) /\
 ∀ c Fa ctv,codeAmong lpos ps.toList=some (.ref c)->H Fa=none->Q (.ref Fa) (upd H Fa (fHO Fa (kLo X params body scope cl c ctv)))
section
variable{X:Cx}{C:Cn}{P:Addr}{params:Arguments}{body:Expr}{scope:Scope}{lpos:Pos}{cl:List (Str×Addr)}
theorem zoJ(LB:zgm X P)(hdef:defaultsOf params X.env=([],[]))(hcl:closureFor scope X.env=pure cl):PE X (.Lambda params body scope lpos) (tLam X P params body scope lpos cl):=fun pins s σ H Q I ⟨ps,T,hA,hB⟩=>ztr LB I hdef hcl T hA hB
theorem zjA{G H:Hp}{w:Wn}{ρ:Ev}{σ:L2.St}{j:Nat}{Q:VK}(r:Rel X.K C G w ρ σ H)(hj:ρ[j]? = some (some (.tab (X.env.qual++"<lambda>"))))(hσj:σ[j]? = some (some (.ref P)))
  (k:∀ Fa c ctv G1 H1,Rel X.K C G1 w ρ σ H1->zbJ G H w G1 H1 w->G1 Fa=some (fHO Fa (kLo X params body scope cl c ctv))->G1 c=some (cHO c (X.env.qual++"<lambda>"))->Q (.ref Fa) H1):tLam X P params body scope lpos cl σ H Q:=by
 obtain ⟨vP,eP1,P',ps,rfl,hwP,hHP,htri,hcod⟩:=r.sl j _ hj
 rw[hσj] at eP1
 obtain rfl:P=P':=by injection eP1 with e1;injection e1 with e2;injection e2
 have T:zos P (X.env.qual++"<lambda>") G H ps:=⟨hHP,htri,hcod⟩
 have TH:zos P (X.env.qual++"<lambda>") H H ps:=⟨hHP,htri,fun q cv z=>let ⟨c,z1,z2⟩:=hcod q cv z;⟨c,z1,r.gh _ _ z2⟩⟩
 refine ⟨ps,TH,fun c Fa ctv _ hc hF hne=>?_,fun c Fa ctv hk' hF=>?_⟩
 ·obtain ⟨rel1,st1⟩:=r.lamA (ob:=W.kla_obj "<lambda>" (X.env.qual++"<lambda>") params body scope cl ((X.mg "__name__").getD .none) c ctv) (a:=lpos.line) (b:=lpos.col) (t:=_) (u:=_) hj hσj hwP T hc hF hne
  exact k Fa c ctv _ _ rel1 st1 zan (by rw[zai hne,zan])
 ·obtain ⟨rel1,st1⟩:=r.lamB (ob:=W.kla_obj "<lambda>" (X.env.qual++"<lambda>") params body scope cl ((X.mg "__name__").getD .none) c ctv) hF
  obtain ⟨c2,e1,e2⟩:=hcod _ _ hk'
  cases e1
  have hcH:=r.gh _ _ e2
  exact k Fa c ctv _ _ rel1 st1 zan (by rw[zai (zah hcH hF)];exact e2)
end
section
variable{X:Cx}{C CY:Cn}{f:Addr}{fd:FuncData}{st:Stmt}{xq xr:Str}{NR:List Str}{m k n:Nat}{dB:Nat->Addr->DS}
theorem zmk(cls:Nat->Addr)(hxv:∀ n,n<8->C.xv n=.ref (cls n))(hfn:X.fn=fun _=>true)
  (Fu:Fun X.K xq xr st f fd) (S:zaz NR ["call"] (zak st)) (hNR:NR.length=m+1) (hb:zfP X.K fd ["call"] []) (hr:zdC (k+2) X.A)
  (hB:HB X C xr st f NR k cls dB)
  (hden:HD m dB) (hn8:n<8)
  {pins:List (Addr×Obj)} {σ σY:L2.St} {H1:Hp} {s1:Shared} (I1:L2.Inv X pins σ H1 s1) (e0:zpA X.prog X.w X.K X.mg X.base X.A X.stack s1 H1)
  {G1:Hp} {w:Wn} {ρY ρ:Ev} {Fa:Addr} (rel1:Rel X.K CY G1 w ρY σY H1) (hval:∀(i:Nat)(d:Dt),ρ[i]? = some (some (.val d))->∃ v,σ[i]? = some (some v)/\Rep X.K G1 d v) (hlen:ρ.length = σ.length) (L:zlq X C.xv k n ρ G1 Fa) {Q:VK} (kn:kN X.K CY σY Q G1 H1 w ([.int n],ρY)) :
  codeAny (model X.prog X.w) X.A (.call (.ref f) ⟨[.ref Fa],[]⟩) (L2.CR (CXe X.prog X.w) X.stack X.prog X.w H1 s1 Q (fun _ _ _=>False)) s1:=by
 obtain ⟨params,body,scope,cl,c,ctv,fE,A,hcl,hcf,gF,gc,hfE⟩:=L.ex
 have hHF:=rel1.gh _ _ gF
 have hHc:=rel1.gh _ _ gc
 obtain ⟨oc,od,kV,doc,pm,an,cdv,ct,osl,rfl,lk,hcd⟩:=Fu.ex
 refine zuP (CX:=CXe X.prog X.w) (k:=k+1) (E:=fun _ _ _=>False) (us:=[.ref Fa]) (vs:=[.ref Fa]) (N:=NR) (Q:=Q) lk hcd S hr e0 (by simpa using hb s1 [.ref Fa] I1.kIn rfl) (.cons rfl .nil) rfl ?_
 let XR:=zjQ (CXe X.prog X.w) X.prog X.w X.K X.mg X.base NR xr (zak st) f cdv X.A X.stack s1 H1 (fun _ _ _=>False)
 let CRR:=zq2 C G1 H1 (start NR [.ref Fa])
 have frs0:∀ x cc,cl.lookup x=some cc->cc∉frs X.stack:=fun x cc e hmem=>by
  rcases List.mem_cons.mp (I1.stkSub cc hmem) with z|z
  ·exact I1.cne x cc (hcl x cc e) z
  ·obtain ⟨_,o,ho',_⟩:=I1.ok.funs.mem z
   exact absurd (Heap.lt_size ho') (Nat.not_lt.mpr (I1.ok.cab x cc (by rw[hfn]) (hcl x cc e)))
 have cells:∀ pinsR σR H2 s2,L2.Inv XR pinsR σR H2 s2->ziP X.N scope.names cl σ H2 s2.heap:=fun pinsR σR H2 s2 J=>by
  have mv:∀ x cc v,cl.lookup x=some cc->s1.heap.IsCell cc v->s2.heap.IsCell cc v:=fun x cc v e ⟨o,e1,e2⟩ =>
   ⟨o,J.base.keep cc o e1 (I1.freeC x cc (hcl x cc e)) (frs0 x cc e) (by show cc∉([]:List Addr);simp),e2⟩
  refine ⟨fun x y cc h1 h2=>I1.ok.inj x y cc (hcl x cc h1) (hcl y cc h2),fun x e=>hcf _ (zby e) rfl,fun x cc e=>?_,fun i x v e1 e2 e3=>?_⟩
  ·obtain ⟨v,ic⟩:=I1.cell x cc (hcl x cc e)
   obtain ⟨o,e1,_⟩:=id ic
   exact ⟨⟨v,mv x cc v e ic⟩,J.base.free cc o e1 (I1.freeC x cc (hcl x cc e)) (by show cc∉([]:List Addr);simp)⟩
  ·have hmem:=zby e3
   have kc:=A.hfr _ hmem rfl
   obtain ⟨m0,hn0,hl0⟩:=I1.loc
   obtain ⟨u,ru,lk'⟩:=hl0 i x v e1 e2 (kc.elim (fun z=>.inr (.inl z)) fun z=>.inr (.inr z))
   obtain ⟨cc,hcc⟩:=hcf _ hmem rfl
   refine ⟨u,cc,ru,hcc,?_⟩
   rcases lk' with ⟨z,_⟩|⟨_,c',e',ic⟩
   ·rcases kc with y|y <;> (rw[y] at z;cases z)
   ·rw[hcl _ _ hcc] at e';cases e'
    exact mv x cc _ hcc ic
 have objs:∀ pinsR σR H2 s2,L2.Inv XR pinsR σR H2 s2->zcb H1 H2->s2.heap.get? Fa=some (kLo X params body scope cl c ctv)/\s2.heap.CodeRec (.ref c) (X.env.qual++"<lambda>"):=fun pinsR σR H2 s2 J sm=>by
  have o1:zct XR.prog XR.w H2 s2.heap Fa (fHO Fa _):=J.hok Fa _ (sm _ _ hHF)
  have o2:zct XR.prog XR.w H2 s2.heap c (cHO c _):=J.hok c _ (sm _ _ hHc)
  exact ⟨o1.1,o2.1⟩
 have hrR:zdC (k+1) XR.A:=hr.deeper _
 have hjs:=hB XR CRR n Fa hn8 ⟨cdv,X.A,X.stack,s1,H1,fun _ _ _=>False,rfl⟩ ⟨G1,H1,rfl⟩ hrR (fun pinsR σR H2 s2 J sm=>?_) fun pinsR σR H2 s2 J sm=>?_
 ·refine ⟨_,hjs,G1,fun _=>none,some .opq::List.replicate m none,?_,?_⟩
  ·refine ⟨rel1.gh,fun b e=>absurd rfl e,fun b e=>absurd rfl e,?_,fun i b e=>?_,.refl _ _ _,fun i _=>rfl⟩
   ·unfold L2.start;simp[hNR]
   ·cases i with
    |zero =>
     simp at e;subst e
     exact ⟨.ref Fa,rfl,trivial⟩
    |succ i =>
     rw[List.getElem?_cons_succ,List.getElem?_replicate] at e
     split at e <;> cases e
  ·obtain ⟨ρ',e⟩:=hden n (cls n) hn8
   rw[e]
   intro v σ' G' H' w' st' rel' rt
   obtain ⟨l,pp,us,e1,rfl,e3,e4,e5,e6,e7⟩:=rt
   injection e1 with e1
   subst e1
   have win:wIn w []=fun _=>none:=by
    funext b;unfold wIn;cases w b <;> rfl
   obtain ⟨r2,st2⟩:=rel1.back (as:=[]) (vs:=[]) (bs:=[]) (bs':=[]) (ks:=[]) rfl rfl rfl rfl (by rw[win];exact st') ⟨rel'.gh,rel'.wg,rel'.wh,fun j' v' z=>by simp at z⟩
   rw[zmx] at r2
   have w1p:w pp=none:=by
    cases zz:w pp with
    |none=>rfl
    |some kk=>exact absurd e3 (rel1.wh pp (by rw[zz];simp))
   exact kn pp us G' H' _ st2 r2 e3 e4 e5 (by unfold zp6;rw[e6,w1p];rfl) e7
 ·
  obtain ⟨o1,o2⟩:=objs _ _ _ _ J sm
  refine zpK (σ:=σ) (N:=X.N) (t:=tE X.K (zse C G1 H2 σ n) fE) J rfl (by have:=hrR.dp;omega) A.hk A.ho (cells _ _ _ _ J) I1.len o1 o2 (A.hbind _ _ _ _) A.hco A.hgen ?_ ?_
  ·refine A.hE _ (zse C G1 H2 σ n) ⟨XR,cl,Fa,.ref c,s2,H2,EL (cls n) H2,rfl,rfl,rfl,rfl,rfl,rfl⟩ rfl (hrR.deeper _) (zmL fun u a H' ⟨ea,n',eu,en,G',w',s'⟩=>?_)
   have en':n'=n:=en
   subst en'
   exact ⟨eu.trans (hxv n' hn8),fun b o e=>s'.h b o e rfl⟩
  ·refine ⟨G1,fun _=>none,zbo ρ,⟨rel1.gh.trans sm,fun b e=>absurd rfl e,fun b e=>absurd rfl e,by unfold zbo;rw[List.length_map];exact hlen,fun i b e=>?_,.refl _ _ _,fun i hi=>by simp[zse] at hi⟩,?_⟩
   ·unfold zbo at e
    rw[List.getElem?_map] at e
    cases q:ρ[i]? with
    |none=>rw[q] at e;cases e
    |some o =>
     rw[q] at e
     simp only[Option.map_some,Option.some.injEq] at e
     split at e
     ·cases e
      obtain ⟨v,e1,e2⟩:=hval i _ q
      exact ⟨v,e1,e2⟩
     ·cases e
   ·rw[hfE]
    rfl
 ·obtain ⟨o1,_⟩:=objs _ _ _ _ J sm
  exact ⟨_,_,_,_,o1⟩
end
theorem zo6{Y:Cx}{pins:List (Addr×Obj)}{σ:L2.St}{H:Hp}{s s2:Shared}{Q:VK}{rr:Result}(I:L2.Inv Y pins σ H s)(hq:L2.CR (CXe Y.prog Y.w) Y.stack Y.prog Y.w H s Q (fun _ _ _=>False) rr s2){E:Value->Shared->Prop}:(match (generalizing:=false) rr with|.ok (.ret v)=>EP Y pins σ Q v s2|.ok _=>False|.error e=>E e s2):=by
 cases rr with
 |error e=>exact (CXe.none hq).elim
 |ok fl =>
  cases fl with
  |ret u=>exact I.after hq
  |next=>exact False.elim hq
  |brk=>exact False.elim hq
  |cont=>exact False.elim hq
section
variable{X:Cx}{C:Cn}{P f:Addr}{fd:FuncData}{st:Stmt}{xq xr:Str}{NR:List Str}{m k j:Nat}{p pos lpos:Pos}{params:Arguments}{body:Expr}{scope:Scope}{fE:De}{dB:Nat->Addr->DS}
theorem zjW(LB:zgm X P)(hfn:X.fn=fun _=>true)(hpp:j∈C.pp)(hσ0:C.σ₀[j]? = some (some (.ref P)))(cls:Nat->Addr)(hxv:∀ n,n<8->C.xv n=.ref (cls n))
  (Fu:Fun X.K xq xr st f fd) (S:zaz NR ["call"] (zak st)) (hNR:NR.length=m+1) (hb:zfP X.K fd ["call"] []) (hm:X.mg xr=some (.ref f)) (hr:zdC (k+2) X.A)
  (hB:HB X C xr st f NR k cls dB)
  (hden:HD m dB)
  (hE:HL X C.xv k body scope fE)
  (hdef:defaultsOf params X.env=([],[]):=by rfl) (hk:scope.kind=.function:=by rfl) (ho:zoL scope.names=true:=by rfl) (hfr:Hfr X scope)
  (hbind:HA X params body scope) (hco:scope.isCoroutine=false:=by rfl) (hgen:scope.isGenerator=false:=by rfl)
  (hg:Gl X xr:=by rfl) (hdb:(xr == ("__debug__" : Str))=false:=by decide) (he:starEach [.Lambda params body scope lpos] X.env=(false,eval (.Lambda params body scope lpos) X.env)::starEach [] X.env:=by rfl) (hpl:(backTo pos (starEach [] X.env)).any (·.1)=false:=by rfl) :
  JN X C (.Call (.Name xr p) [.Lambda params body scope lpos] [] pos) (zkV j (X.env.qual++"<lambda>") fE):=by
 intro pins s σ H Q I ⟨G,w,ρ,r,pst⟩
 unfold zkV at pst
 split at pst
 case h_2=>exact pst.elim
 rename_i q' hj
 split at pst
 case isFalse=>exact pst.elim
 rename_i hq'
 subst hq'
 split at pst
 case h_2=>exact pst.elim
 rename_i n hfE
 split at pst
 case isFalse=>exact pst.elim
 rename_i hn8
 have kn:kN X.K C σ Q G H w ([.int n],ρ):=pst
 obtain ⟨cl,hclos,hcl,hcf⟩:=zcv (scope:=scope) (env:=X.env) fun y hy hf=>I.ok.has y.1 (hfr y hy hf)
 have hσj:σ[j]? = some (some (.ref P)):=by rw[r.pin j hpp];exact hσ0
 refine wpAny_Call_Name_kw (zgb I hg hm ?_ hdb)
 refine W.callWith_K (h₀:=X.base) I.ok.mod.kin Fu.kp ?_ he hpl
 rw[he]
 refine Calls.spliced_cons (thn (zoJ LB hdef hclos pins s σ H (fun v H1=>∃ Fa c ctv G1,v=.ref Fa/\Rel X.K C G1 w ρ σ H1/\zbJ G H w G1 H1 w/\G1 Fa=some (fHO Fa (kLo X params body scope cl c ctv))/\G1 c=some (cHO c (X.env.qual++"<lambda>"))) I (zjA r hj hσj fun Fa c ctv G1 H1 a1 a2 a3 a4=>⟨Fa,c,ctv,G1,rfl,a1,a2,a3,a4⟩)) fun u s1 hEP=>?_)
 obtain ⟨v,H1,I1,rv,Fa,c,ctv,G1,rfl,rel1,st1,gF,gc⟩:=hEP
 cases rv
 show wpAny _ _ (spliced []) _ _ s1
 refine Calls.spliced_nil ⟨I1.kIn,wpAny_call (codeAny_mono (zmk cls hxv hfn Fu S hNR hb hr hB hden hn8 I1 I1.env0 rel1 (fun i d e=>rel1.sl i _ e) rel1.len ⟨_,_,_,cl,c,ctv,fE,⟨hE,hfr,hbind,hdef,hk,ho,hco,hgen⟩,hcl,hcf,gF,gc,hfE⟩ (zeF _ _ _ _ _ _ _ st1 kn)) fun rr s2 hq=>zo6 I1 hq)⟩
end
theorem zgV{X:Cx}{pins:List (Addr×Obj)}{σ:L2.St}{H:Hp}{s:Shared}{j:Nat}{x:Str}{o:Option V}(I:L2.Inv X pins σ H s)(hj:X.N[j]? = some x)(hv:¬ Vis X.env.scope x):L2.Inv X pins (σ.set j o) H s:=by
 refine ⟨I.ok,I.os,I.bare,I.base,?_,I.cell,I.free,I.freeC,I.pin,I.hok,by simpa using I.len⟩
 obtain ⟨m,hn,hl⟩:=I.loc
 refine ⟨m,hn,fun i y v e1 e2 e3=>?_⟩
 by_cases hi:i=j
 ·subst hi
  rw[hj] at e1;cases e1
  exact absurd e3 hv
 ·rw[List.getElem?_set_ne (Ne.symm hi)] at e2
  exact hl i y v e1 e2 e3
theorem zlL{P:Program}{w:World}{X:Cx}{C:Cn}(h:∀ n,¬ C.ex n):zco (CXe P w) X (EXc C):=fun _ _ _ _ _ _ _ hx=>by
 rcases hx with ⟨_,_,_,_,_,_,_,_,_,_,_,_,_,_,_,n,_,z,_⟩|⟨_,_,_,_,_,_,_,_,n,_,z,_⟩ <;> exact (h n z).elim
theorem psF{P:Program}{w:World}{X:Cx}:zco (CXe P w) X (fun _ _ _=>False):=fun _ _ _ _ _ _ _ hx=>(CXe.none hx).elim
section
variable{X:Cx}{C:Cn}{a b:Expr}{fa fb:De}{pos:Pos}
theorem zs6{p:Pos}:JE X C (.Dict [] [] p) (dC .dct):=fun pins s σ H Q I ⟨G,w,ρ,r,q⟩=>by
 have big:sysModules<s.heap.objs.size:=Nat.lt_trans (by decide) (I.mod.glob.keeps I.bk).lt
 have hf:H s.heap.objs.size=none:=I.hok.fresh (Nat.le_refl _)
 have ok:zct X.prog X.w (upd H s.heap.objs.size (.dK [])) (s.heap.push { cls:=.type "dict",data:=.dict #[] }) s.heap.objs.size (.dK []):=⟨Nat.zero_le _,beq_eq_false_iff_ne.mpr (Ne.symm (Nat.ne_of_lt big)),[],.nil,Heap.DictOf.new s.heap⟩
 refine wpAny_Dict_empty ⟨.ref s.heap.objs.size,_,I.laid (t':=s.toks) (fun _ _ z=>Heap.get?_push_of_some _ z) (Nat.le_refl _) ok,rfl,?_⟩
 have gr:zec G H (upd G s.heap.objs.size (.dK [])) (upd H s.heap.objs.size (.dK [])):=.new r.gh hf
 exact q _ _ _ w gr.step (r.grow gr) (by unfold Rep;exact ⟨_,rfl,zan⟩)
end
def dAC(ds:List Dt):DA:=fun ρ=>.ok (ds,ρ)
mutual
def zjK:Nat->Expr->Option Dt
 |0,_=>none
 |k+1,e=>match e with
  |.Constant (.int i) _ _=>some (.int i)
  |.Constant (.bool b) _ _=>some (.bl b)
  |.Constant .none _ _=>some .non
  |.Constant (.str x) _ _=>some (.str x)
  |.UnaryOp .USub (.Constant (.int i) _ _) _=>some (.int (-i))
  |.Tuple es _ _=>(zf8 k es).bind fun ds=>if zem ds=true then some (.tup ds) else none
  |.List es _=>(zf8 k es).bind fun ds=>if zem ds=true then some (.lst ds) else none
  |.Dict [] [] _=>some .dct
  |_=>none
def zf8:Nat->List Expr->Option (List Dt)
 |_,[]=>some []
 |0,_::_=>none
 |k+1,e::es=>(zjK k e).bind fun d=>(zf8 k es).bind fun ds=>some (d::ds)
end
section
variable{X:Cx}{C:Cn}
theorem JE.eq{e:Expr}{f g:De}(h:JE X C e f)(q:f=g):JE X C e g:=q ▸ h
theorem JA.eq{e:List Expr}{f g:DA}(h:JA X C e f)(q:f=g):JA X C e g:=q ▸ h
mutual
theorem znX:∀(k:Nat){e:Expr}{d:Dt},zjK k e=some d->JE X C e (dC d)/\∀ es,starEach (e::es) X.env=(false,eval e X.env)::starEach es X.env
 |0,e,d,h=>by simp[zjK] at h
 |k+1,e,d,h=>by
  unfold zjK at h
  split at h
  ·cases h;exact ⟨zal,fun _=>rfl⟩
  ·cases h;exact ⟨zft,fun _=>rfl⟩
  ·cases h;exact ⟨zpu,fun _=>rfl⟩
  ·cases h;exact ⟨zeJ,fun _=>rfl⟩
  ·cases h;exact ⟨(zmA zal).eq rfl,fun _=>rfl⟩
  ·rename_i es x1 pos
   obtain ⟨ds,hds,h⟩:=Option.bind_eq_some_iff.mp h
   split at h
   ·rename_i hf
    cases h
    refine ⟨(zfH (zkR k hds)).eq ?_,fun _=>rfl⟩
    funext ρ
    show (if zem ds=true then _ else _)=_
    rw[if_pos hf];rfl
   ·cases h
  ·rename_i es pos
   obtain ⟨ds,hds,h⟩:=Option.bind_eq_some_iff.mp h
   split at h
   ·rename_i hf
    cases h
    refine ⟨(zaw (zb1 (zkR k hds))).eq ?_,fun _=>rfl⟩
    funext ρ
    show (R.bind (if zem ds=true then _ else _) _)=_
    rw[if_pos hf];rfl
   ·cases h
  ·cases h;exact ⟨zs6,fun _=>rfl⟩
  ·cases h
theorem zkR:∀(k:Nat){es:List Expr}{ds:List Dt},zf8 k es=some ds->JA X C es (dAC ds)
 |k,[],ds,h=>by
  unfold zf8 at h
  cases h
  exact za4
 |0,_::_,ds,h=>by simp[zf8] at h
 |k+1,e::es,ds,h=>by
  unfold zf8 at h
  obtain ⟨d,h1,h⟩:=Option.bind_eq_some_iff.mp h
  obtain ⟨ds',h2,h⟩:=Option.bind_eq_some_iff.mp h
  cases h
  obtain ⟨j1,j2⟩:=znX k h1
  exact (zao j1 (zkR k h2) (j2 es)).eq rfl
end
theorem jd(k:Nat){e:Expr}{d:Dt}(h:zjK k e=some d):JE X C e (dC d):=(znX k h).1
end
section
variable{X:Cx}{C:Cn}{a b:Expr}{fa fb:De}{pos:Pos}
end
end PV
end
section
namespace PV
open PySem PySem.Spec L2
open AutoSeq1 (wpAny_loadPart')
section
variable{X:Cx}{C:Cn}{a b o e:Expr}{es:List Expr}{fa fb:De}{pos apos cpos:Pos}{name:Str}{id:String}{to:TE}{t:TA}{r:V->List V->Hp->VK->Prop}
end
section
variable{X:Cx}{C:Cn}{e1 e2:Expr}{fk fv:De}{pos ps apos:Pos}{x:Str}
def zsm:V->List V->Hp->VK->Prop:=fun x vs H Q=>∃ l xs k y,x=.ref l/\vs=[.int k,y]/\H l=some (.lst xs)/\0<=k/\k.toNat<=xs.length/\xs.length<sizeLine/\Q .non (upd H l (.lst (xs.take k.toNat++y::xs.drop k.toNat)))
theorem zkF{y1 y2:V}{us:List Value}(h:zbp [y1,y2] us):∃ u1 u2,us=[u1,u2]/\zcx y1 u1/\zcx y2 u2:=by
 cases h with
 |cons h1 t=>cases t with
  |cons h2 t2=>cases t2;exact ⟨_,_,rfl,h1,h2⟩
theorem zko:∀(k:Nat){xs:List V}{us:List Value},zbp xs us->zbp (xs.take k) (us.take k)
 |0,_,_,_=>by simpa using Paired.nil
 |k+1,_,_,.nil=>by simpa using Paired.nil
 |k+1,_,_,.cons h t=>by simpa using Paired.cons h (zko k t)
theorem zkh:∀(k:Nat){xs:List V}{us:List Value},zbp xs us->zbp (xs.drop k) (us.drop k)
 |0,_,_,h=>by simpa using h
 |k+1,_,_,.nil=>by simpa using Paired.nil
 |k+1,_,_,.cons h t=>by simpa using zkh k t
theorem zrR{k:Int}(h0:0<=k)(h:k.toNat<16777216):¬ (!Builtin.List.listFitsIndex k)=true:=by
 have:Builtin.List.listFitsIndex k=true:=fitsIndex_both (by omega) (by omega)
 rw[this];exact Bool.false_ne_true
theorem zsL(its:List Value)(k:Int)(u2:Value)(h0:0<=k)(hk:k.toNat<=its.length):(have m:=if k<0 then (k+(its.toArray.size:Int)).toNat else min k.toNat its.toArray.size;(its.toArray.extract 0 m).push u2++its.toArray.extract m)=(its.take k.toNat++u2::its.drop k.toNat).toArray:=by
 have e:(if k<0 then (k+(its.toArray.size:Int)).toNat else min k.toNat its.toArray.size)=k.toNat:=by
  rw[if_neg (by omega),List.size_toArray,Nat.min_eq_left hk]
 dsimp only
 rw[e]
 apply Array.ext'
 simp
 rw[List.take_of_length_le (by simp)]
theorem zpm:MtM X "list.insert" zsm:=by
 intro pins s σ H x vs v us Q I rx rv h
 obtain ⟨l,xs,k,y,rfl,rfl,hH,h0,hk,hz,q⟩:=h
 cases rx
 obtain ⟨u1,u2,rfl,⟨t,ru1⟩,ru2⟩:=zkF rv
 subst ru1
 obtain ⟨z,its,n,r,hl,e⟩:=I.lstM hH
 have hfit:=zrR h0 (show k.toNat<16777216 by rw[<- zcq];omega)
 have hsz0:its.toArray.size<=sizeLine:=by rw[List.size_toArray];omega
 refine call_meets F.slot_list_insert ⟨_,e,rfl⟩ F.entry_list_insert (F.args_list_insert_3 _ _ _) (AutoSeq1.list_insert_list_int_val_1 l its.toArray n k t u2 hfit hsz0) ⟨e,?_⟩
 refine ⟨.non,_,I.lset (its':=its.take k.toNat++u2::its.drop k.toNat) hH e (zsL its k u2 h0 (by omega)) ((zko _ r).append (.cons ru2 (zkh _ r))) ?_,rfl,q⟩
 rw[List.length_append,List.length_cons,List.length_take,List.length_drop]
 omega
def zpR(i:Nat)(fk fv:De):De:=fun ρ=>match ρ[i]? with
 |some (some (.own _))=>(fk ρ).bind fun k=>(fv k.2).bind fun v=>match v.2[i]?,k.1 with
  |some (some (.own ds)),.int n=>if 0<=n/\n<=ds.length/\ds.length<16777216 then .ok (.non,v.2.set i (some (.own (ds.take n.toNat++v.1::ds.drop n.toNat)))) else .no
  |_,_=>.no
 |_=>.no
theorem zs5(i:Nat)(hk:JE X C e1 fk)(hw:JE X C e2 fv)(hN:X.N[i]? = some x:=by rfl)(hv:Vis X.env.scope x:=by first|exact Or.inl rfl|exact Or.inr (Or.inl rfl)|exact Or.inr (Or.inr rfl))(hd:(x == ("__debug__" : Str))=false:=by decide)(hcd:(x == ("__classdict__" : Str))=false:=by decide)
  (hbase:attributeBase (.Name x ps) "insert" X.env (eval (.Name x ps) X.env)=eval (.Name x ps) X.env:=by rfl)
  (hfew:((backTo pos (starEach [e1,e2] X.env)).all (fun x=>!x.1) && (backToKw pos (keywordEach [] X.env)).all (fun x=>x.1.isSome) && decide ([e1,e2].length+([]:List Keyword).length+(if ([]:List Keyword).isEmpty then 0 else 1)<30))=true:=by rfl)
  (hline:(apos.endLine == pos.line)=true:=by rfl) (hs:starEach [e1,e2] X.env=(false,eval e1 X.env)::starEach [e2] X.env:=by rfl) (hs2:starEach [e2] X.env=(false,eval e2 X.env)::starEach [] X.env:=by rfl) (hplain:(backTo pos (starEach [e2] X.env)).any (·.1)=false:=by rfl) :
  JE X C (.Call (.Attribute (.Name x ps) "insert" apos) [e1,e2] [] pos) (zpR i fk fv) :=
 PE.weak (zpf PySem.F.plainAttrs_list PySem.F.slot_list_insert PySem.F.type_list_insert zpm (zce hN hv hd hcd) (zbe hk (zbe hw zcr hs2) hs) hbase hfew hline hs hplain) fun σ H Q ⟨G,w,ρ,r,p⟩=>by
  unfold zpR at p
  split at p
  ·rename_i ds0 e0
   obtain ⟨a,vs,h1,h2,h3,h4⟩:=zc8 r e0
   refine ⟨.ref a,h1,.inl ⟨rfl,vs,SqL.of h3⟩,?_⟩
   refine zer (κ:=fun G H w=>kE X.K C σ Q G H w) zch r p fun dk ρ1 v1 G1 H1 w1 r1 s1 q1 p1=>?_
   refine zer (κ:=fun G H w=>kE X.K C σ Q G H w) zch r1 p1 fun dv ρ2 v2 G2 H2 w2 r2 s2 q2 p2=>?_
   dsimp only at p2
   split at p2
   ·rename_i ds n e2
    obtain ⟨a',vs',k1,k2,k3,k4⟩:=zc8 r2 e2
    rw[h1] at k1;cases k1
    split at p2
    ·rename_i hl
     obtain ⟨r',s'⟩:=r2.mutate e2 h1 k2 ((k4.take n.toNat).append (zaB.cons q2 (k4.drop n.toNat)))
     have hlen:=k4.length
     exact ⟨a,vs',n,v2,rfl,by rw[za5 q1],k3,hl.1,by omega,by rw[<- hlen,zcq];exact hl.2.2,p2 _ _ _ _ s' r' (by unfold Rep;rfl)⟩
    ·exact p2.elim
   ·exact p2.elim
  ·exact p.elim
end
structure Ep(h:Heap)(e it l:Addr)(i:Nat):Prop where
 e:∃ old,IsEnum h e it i old
 a:h.IsListIter it l i
theorem Ep.keep{h h':Heap}{e it l:Addr}{i:Nat}(p:Ep h e it l i)(k:∀ b∈[e,it],∀ o,h.get? b=some o->h'.get? b=some o):Ep h' e it l i :=
 ⟨let ⟨old,q⟩:=p.e;⟨old,k e (by simp) _ q⟩,p.a.at fun o q=>k it (by simp) o q⟩
theorem zlO{X:Cx}{pins:List (Addr×Obj)}{σ:L2.St}{H:Hp}{s:Shared}{a b:Addr}{xs:List V}(I:L2.Inv X pins σ H s)(hf:zfm X pins H b)(hs:SqL X.K H a xs):b≠a:=by
 rintro rfl
 rcases hs with (h|⟨o,h⟩)|⟨o,its,n,h,_⟩
 ·rw[hf.1] at h;cases h
 ·rw[hf.1] at h;cases h
 ·have hb:=I.mod.kin b o h
  rcases hf.2.2.2.1 with z|z
  ·exact I.ok.noex b o hb z
  ·exact absurd (Nat.lt_of_lt_of_le (Heap.lt_size hb) (Nat.le_trans I.ok.bsz z)) (Nat.lt_irrefl _)
section
variable{X:Cx}{C:Cn}{elts:List Expr}{x1:Nat}{pt:Pos}{a:Expr}{fa:De}{p pos:Pos}
end
end PV
end
section
namespace PV
open PySem PySem.Spec L2 PyProof.Rows
section
variable{X:Cx}{C:Cn}{a b:Expr}{fa fb:De}{pos:Pos}
end
section
variable{prog:Program}{w:World}{A:Around}{E:Value->Shared->Prop}{s:Shared}
theorem zf0{t sl:Addr}{items:Array Value}{vl vu:Value}{lo hi:Option Int}{Q:Value->Shared->Prop}(ht:IsTup s.heap t items)(hs:s.heap.IsSliceOf sl vl vu .none)(pl:IsPart vl lo)(pu:IsPart vu hi)
  (hw:HT.sIx items.size 0 lo=0/\HT.sIx items.size items.size hi=items.size) (h:Q (.ref t) s):wpAny (model prog w) A (getItem (.ref t) (.ref sl)) Q E s:=by
 obtain ⟨os,hos,hcs,hds⟩:=id hs
 have hTs:s.TypeIs (.ref sl) "slice":=⟨os,hos,hcs⟩
 unfold getItem
 try with_reducible refine wpAny_holding ?_
 first|refine wpAny_bind (wpAny_pure ?_)|skip
 refine wpAny_bind (wpAny_sequenceKey ht.typeIs (by decide) ?_)
 refine wpAny_bind (wpAny_callSpecial?_slot (name:=Str.ofString "__getitem__") ht.typeIs PyProof.Rows.slot_tuple_getitem
  (wpAny_call_entry PyProof.Rows.slot_tuple_getitem ht.typeIs entry_tuple_getitem ?_ (args_tuple_getitem _ _)))
 show wpAny _ _ (Builtin.Tuple.tupleItemsOf (.ref t) >>= _) _ _ s
 refine wpAny_bind (tupleItemsOf_ ht ?_)
 refine wpAny_bind (wpAny_typeOf hTs ?_)
 rw[if_pos (by decide)]
 refine wpAny_bind (HT.sliceApplied_gen hs pl pu ?_)
 have hyes:(((HT.sIx items.size 0 lo:Nat):Int) == 0 && (1:Int) == 1 && (HT.sIx items.size items.size hi-HT.sIx items.size 0 lo) == items.size)=true:=by
  rw[hw.1,hw.2];simp
 show wpAny _ _ (if (((HT.sIx items.size 0 lo:Nat):Int) == 0 && (1:Int) == 1 && (HT.sIx items.size items.size hi-HT.sIx items.size 0 lo) == items.size)=true then _ else _) _ _ s
 rw[if_pos hyes]
 refine wpAny_bind ?_
 unfold Builtin.Tuple.tupleIsExact
 refine wpAny_bind (wpAny_typeOf ht.typeIs (wpAny_pure ?_))
 rw[if_pos (by decide)]
 refine wpAny_bind (wpAny_rule ?_)
 exact wpAny_pure ⟨_,rfl,wpAny_pure h⟩
end
section
variable{X:Cx}{C:Cn}{a b e:Expr}{fa fb:De}{pos:Pos}
def rSlW(K:W.Frag):V->Option Int->Option Int->Hp->VK->Prop:=fun x lo hi H Q=>∃ a xs,x=.ref a/\SqT K H a xs /\
 (HT.sIx xs.length 0 lo=0/\HT.sIx xs.length xs.length hi=xs.length)/\Q (.ref a) H
theorem zqn:SlR X (rSlW X.K):=by
 intro pins s σ H x v vl vu lo hi sl Q I rx hs pl pu h
 obtain ⟨a,xs,rfl,hx,hw,q⟩:=h
 cases rx
 obtain ⟨its,r,ht,hz⟩:=I.tuple hx
 have hlen:its.toArray.size=xs.length:=by rw[List.size_toArray];exact r.length.symm
 refine ⟨"tuple",_,PyProof.Rows.slot_tuple_getitem.lookup,ht.typeIs,?_⟩
 exact zf0 ht hs pl pu (by rw[hlen];exact hw) ⟨.ref a,H,I,rfl,q⟩
def zmW(fa:De)(fl fh:DO):De:=fun ρ=>(fa ρ).bind fun a=>(fl a.2).bind fun l=>(fh l.2).bind fun h=>match a.1 with
 |.tup ds=>.ok (.tup (zka ds l.1 h.1),h.2)
 |_=>.no
theorem zs7{lo hi:Option Expr}{fl fh:DO}{p2:Pos}(ha:JE X C a fa)(hl:JO X C lo fl)(hh:JO X C hi fh):JE X C (.Subscript a (.Slice lo hi none p2) pos) (zmW fa fl fh) :=
 PE.weak (zmw (ztH.or zqn) ha hl hh) fun σ H Q ⟨G,w,ρ,r,p⟩=>by
  refine zer (κ:=fun G H w=>kE X.K C σ Q G H w) zch r p fun d ρ1 v G1 H1 w1 r1 s1 q1 p1=>?_
  refine zuO (κ:=fun G H w=>kE X.K C σ Q G H w) zch r1 p1 fun l ρ2 G2 H2 w2 r2 s2 p2=>?_
  refine zuO (κ:=fun G H w=>kE X.K C σ Q G H w) zch r2 p2 fun h ρ3 G3 H3 w3 r3 s3 p3=>?_
  cases d with
  |tup ds =>
   have q3:=q1.same (s2.g.trans s3.g)
   obtain ⟨ad,vs,rfl,h1,h2⟩:=zfO q3
   dsimp only at p3
   by_cases hw:HT.sIx ds.length 0 l=0/\HT.sIx ds.length ds.length h=ds.length
   ·refine .inr ⟨ad,vs,rfl,zbc r3.gh h1.sq,by rw[<- h2.length];exact hw,?_⟩
    have e:zka ds l h=ds:=by
     unfold zka
     rw[hw.1,hw.2,List.drop_zero,Nat.sub_zero,List.take_length]
    rw[e] at p3
    exact p3 _ G3 H3 w3 (.refl _ _ _) r3 q3
   ·have fin:∀ p,H3 p=none->Q (.ref p) (upd H3 p (.tup (znF vs l h))):=fun p hp=>by
     have gr:zec G3 H3 (upd G3 p (.tup (znF vs l h))) (upd H3 p (.tup (znF vs l h))):=.new r3.gh hp
     exact p3 _ _ _ w3 gr.step (r3.grow gr) (by unfold Rep;exact ⟨p,_,rfl,zjU.of zan,(zlH h2 l h).same gr.g⟩)
    exact .inl ⟨ad,vs,rfl,zbc r3.gh h1.sq,by rw[<- h2.length];exact hw,fin⟩
  |_=>exact p3.elim
end
section
variable{prog:Program}{w:World}{A:Around}{E:Value->Shared->Prop}{s:Shared}
theorem zjp{r:Addr}{a b c:Int}{t u v:Tok}{n:Nat}{Q:List Value->Shared->Prop}(hh:A.handled=none)(hr:IsRange s.heap r a b c t u v)(hsmall:Builtin.Range.small a b c=true)
  (hn:Builtin.Range.rangeSize a b c=n) (hlen:n<=2 ^ 24)
  (h:∀(h':Heap)(tk:Nat)(acc:Array Value),s.heap.objs.size<=h'.objs.size->(∀ b o,s.heap.get? b=some o->h'.get? b=some o)->ItemsOf (fun i v=>∃ t,v=.int (a+i * c) t) acc n->Q acc.toList { s with heap:=h',toks:=tk }) :
  wpAny (model prog w) A (collect (.ref r)) Q E s:=by
 unfold collect
 refine wpAny_bind (wpAny_runValue (codeAny_builtin entry_proto_collect' ?_))
 show wpAny _ _ (do again (.builtin "list.__iadd__" ⟨[<- newList [],.ref r],[]⟩)) _ _ s
 refine wpAny_bind (wpAny_newList (wpAny_pure ⟨Code.quiet_builtin _ (by decide +kernel),codeAny_builtin entry_list_iadd' ?_⟩))
 show wpAny _ _ (Builtin.List.listExtendWith (.ref s.heap.objs.size) (.ref r) (.ref s.heap.objs.size)) _ _ { s with heap:=s.heap.push (seqObj "list" #[] 0) }
 have hS0:(s.heap.push (seqObj "list" #[] 0)).get? s.heap.objs.size=some { cls:=.type "list",data:=.seq #[] 0 }:=Heap.get?_push_size _ rfl
 have hpl:plainId "list.__iadd__"=true:=by decide +kernel
 rw[Around.under_plainId hpl _]
 refine wpAny_extend_range (A:=A) (R:=fun r s'=>match r with
    |.ok (.ret v)=>wpAny (model prog w) A (match v with
      |.ref a=>do
       let o <- load a
       match o.data with
        |.seq xs _=>pure xs.toList
        |_=>unsupported "internal:collect"
      |_=>unsupported "internal:collect") Q E s'
    |.ok _=>False
    |.error e=>E e s') (s:={ s with heap:=s.heap.push (seqObj "list" #[] 0) }) hh (Heap.get?_push_of_some _ hr) hsmall hn hlen s.heap.objs.size (.ref s.heap.objs.size) 0 hS0 fun h' tk acc' c' hk hS hacc=>?_
 have hz:∀ b o,s.heap.get? b=some o->h'.get? b=some o:=fun b o e=>hk b o (Nat.ne_of_lt (Heap.lt_size e)) (Heap.get?_push_of_some _ e)
 refine wpAny_bind (wpAny_load hS ?_)
 exact wpAny_pure (h h' tk acc' (Nat.le_of_lt (Heap.lt_size hS)) hz hacc)
theorem zhX{r:Addr}{a b c:Int}{t u v:Tok}{n:Nat}{Q₁:Value->Shared->Prop}(hh:A.handled=none)(hr:IsRange s.heap r a b c t u v)(hsmall:Builtin.Range.small a b c=true)
  (hn:Builtin.Range.rangeSize a b c=n) (hlen:n<=2 ^ 24)
  (h:∀(h':Heap)(tk:Nat)(acc:Array Value),s.heap.objs.size<=h'.objs.size->(∀ b o,s.heap.get? b=some o->h'.get? b=some o)->ItemsOf (fun i v=>∃ t,v=.int (a+i * c) t) acc n->Q₁ (.ref h'.objs.size) { s with heap:=h'.push { cls:=.type "tuple",data:=.seq acc },toks:=tk }) :
  codeAny (model prog w) A (.call (.builtin "tuple.__new__") ⟨[.type "tuple",.ref r],[]⟩) (wants Q₁ E) s:=by
 refine codeAny_of_tree ?_
 show wpAny _ A.in1 (do checkBuiltinCall "tuple.__new__" ⟨[.type "tuple",.ref r],[]⟩;again (.builtin "tuple.__new__" ⟨[.type "tuple",.ref r],[]⟩)) _ _ s
 refine wpAny_bind (wpAny_of_eq (F.newCall_tuple_1 _) (wpAny_pure ⟨plainId_quiet F.plain_tuple_new _,codeAny_builtin F.entry_tuple_new ?_⟩))
 rw[Around.under_plainId F.plain_tuple_new _]
 have hsub:=sub_tuple_self
 have hinit:=init_tuple_lookup
 have hmh:=madeHere_tuple
 have hTI:s.TypeIs (.ref r) "range":=⟨_,hr,rfl⟩
 wp_walk using wpAny_typeOf hTI,zjp (A:=A.in1) hh hr hsmall hn hlen
 intro h' tk acc hle hk hacc
 show wpAny _ _ (Builtin.Tuple.tupleExact acc.toList.toArray >>= fun v=>ret v) _ _ _
 unfold Builtin.Tuple.tupleExact
 refine wpAny_bind (wpAny_newObj_type ?_ (by show acc.toList.toArray.size<=sizeLine;simp only[Array.toArray_toList];rw[hacc.1,zcq];exact hlen))
 refine wpAny_pure ?_
 have e:acc.toList.toArray=acc:=by simp
 rw[e]
 exact h h' tk acc hle hk hacc
theorem zh1{r:Addr}{a b c:Int}{t u v:Tok}{n:Nat}{Q:Value->Shared->Prop}(hh:A.handled=none)(hr:IsRange s.heap r a b c t u v)(hsmall:Builtin.Range.small a b c=true)
  (hn:Builtin.Range.rangeSize a b c=n) (hlen:n<=2 ^ 24)
  (hQ:∀(h':Heap)(tk:Nat)(acc:Array Value),s.heap.objs.size<=h'.objs.size->(∀ b o,s.heap.get? b=some o->h'.get? b=some o)->ItemsOf (fun i v=>∃ t,v=.int (a+i * c) t) acc n->Q (.ref h'.objs.size) { s with heap:=h'.push { cls:=.type "tuple",data:=.seq acc },toks:=tk }) :
  wpAny (model prog w) A (call (.type "tuple") [.ref r]) Q E s:=by
 refine callType_codes (Q₁:=fun obj s₁=>s₁.TypeIs obj "tuple"/\Q obj s₁) F.called_tuple (F.typeCall_tuple_1 _) F.entry_object_init
  (zhX hh hr hsmall hn hlen fun h' tk acc hle hk hacc=>⟨⟨_,Heap.get?_push_size _ rfl,rfl⟩,hQ h' tk acc hle hk hacc⟩) fun obj s₁ h₁=>?_
 exact ⟨h₁.1,F.args_object_init_2 obj _,object_init_meets F.called_tuple.init.lookup F.called_tuple.made (by decide) prog w A.in1 _ s₁ ⟨h₁.1,rfl,h₁.2⟩⟩
theorem zlj{l:Addr}{vs:List Value}{Q:List Value->Shared->Prop}(hl:s.heap.IsTuple l vs.toArray)
  (h:Q vs { s with heap:=(s.heap.push (seqObj "list" #[] 0)).update s.heap.objs.size (Obj.mapSeq (·++vs.toArray)) }) (hsz:vs.length<=sizeLine) :
  wpAny (model prog w) A (collect (.ref l)) Q E s:=by
 obtain ⟨o,ho,hc,n,hd⟩:=id hl
 unfold collect
 refine wpAny_bind (wpAny_runValue (codeAny_builtin entry_proto_collect' ?_))
 show wpAny _ _ (do again (.builtin "list.__iadd__" ⟨[<- newList [],.ref l],[]⟩)) _ _ s
 refine wpAny_bind (wpAny_newList (wpAny_pure ⟨Code.quiet_builtin _ (by decide +kernel),codeAny_builtin entry_list_iadd' ?_⟩))
 show wpAny _ _ (Builtin.List.listExtendWith (.ref s.heap.objs.size) (.ref l) (.ref s.heap.objs.size)) _ _ { s with heap:=s.heap.push (seqObj "list" #[] 0) }
 unfold Builtin.List.listExtendWith
 have ho':(s.heap.push (seqObj "list" #[] 0)).get? l=some o:=Heap.get?_push_of_some _ ho
 refine wpAny_bind (wpAny_typeOf (T:="tuple") ⟨o,ho',hc⟩ ?_)
 have ht:(Value.type "tuple" == Value.type "tuple")=true:=by rfl
 rw[if_pos (by rw[ht];simp)]
 refine wpAny_bind (listItems_at ho' hd ?_)
 refine wpAny_bind (listItems_at (xs:=#[]) (n:=0) (Heap.get?_push_size _ rfl) rfl ?_)
 rw[if_neg (by simp)]
 refine wpAny_bind (listUpdate_at (xs:=#[]) (n:=0) (Heap.get?_push_size _ rfl) rfl ?_ (Nat.zero_le _) (by show (#[]++vs.toArray).size<=sizeLine+1;simp only[Array.size_append,List.size_toArray,List.length_nil];omega))
 refine wpAny_pure ?_
 show wpAny (model prog w) A (do
   let o <- load s.heap.objs.size
   match o.data with
   |.seq xs _=>pure xs.toList
   |_=>unsupported "internal:collect") Q E { s with heap:=(s.heap.push (seqObj "list" #[] 0)).update s.heap.objs.size (Obj.mapSeq (·++vs.toArray)) }
 refine wpAny_bind (wpAny_load (get?_update_seq (Heap.get?_push_size _ rfl) _) ?_)
 show wpAny _ _ (pure ((#[]:Array Value)++vs.toArray).toList) Q E _
 rw[show ((#[]:Array Value)++vs.toArray).toList=vs by simp]
 exact wpAny_pure h
theorem zjP{l:Addr}{vs:List Value}{ns:List Int}{Q:Value->Shared->Prop}(hl:s.heap.IsTuple l vs.toArray)(hI:IntsAre vs ns)(h64:vs.length<64)
  (h:∀(out:Array Value)(ns':List Int),IntsAre out.toList ns'->ns'.Perm ns->ns'.Pairwise (· <= ·)->Q (.ref (s.heap.objs.size+1)) { s with heap:=sortedAll s.heap vs out }) :
  wpAny (model prog w) A (call (.builtin "sorted") [.ref l]) Q E s:=by
 refine Calls.call_function_entry kind_sorted plain_sorted entry_sorted (args_sorted1 _) ?_
 unfold Builtin.«sorted»
 refine wpAny_bind (m:=checkCount "sorted" 1 1 _) (wpAny_pure ?_)
 refine wpAny_bind (zlj hl ?_ (by rw[zcq];omega))
 refine wpAny_bind (wpAny_newList ?_)
 have hsz:((s.heap.push (seqObj "list" #[] 0)).update s.heap.objs.size (Obj.mapSeq (·++vs.toArray))).objs.size=s.heap.objs.size+1:=by
  rw[Heap.size_update,size_push']
 have hoL:(((s.heap.push (seqObj "list" #[] 0)).update s.heap.objs.size (Obj.mapSeq (·++vs.toArray))).push (seqObj "list" vs.toArray 0)).get? (s.heap.objs.size+1)=some (seqObj "list" vs.toArray 0):=by
  rw[<- hsz];exact Heap.get?_push_size _ rfl
 show wpAny _ _ _ _ _ { s with heap:=((s.heap.push (seqObj "list" #[] 0)).update s.heap.objs.size (Obj.mapSeq (·++vs.toArray))).push (seqObj "list" vs.toArray 0) }
 rw[hsz]
 refine wpAny_bind (wpAny_holding (wpAny_call_entry slot_list_sort ⟨_,hoL,rfl⟩ entry_list_sort (list_sort_tree hoL hI h64 fun out ns' a1 a2 a3=>⟨_,rfl,?_⟩) (args_list_sort _)))
 exact wpAny_pure ⟨_,rfl,h out ns' a1 a2 a3⟩
end
section
variable{X:Cx}{C:Cn}{a b e:Expr}{fa fb:De}{pos:Pos}
theorem zni:zcz X (.builtin "sorted") (fun xs H Q=>∃(p:Addr)(ns:List Int),xs=[.ref p]/\SqT X.K H p (ns.map V.int)/\ns.length<64/\∀ l,H l=none->Q (.ref l) (upd H l (.lst ((zb9 ns).map V.int)))):=by
 intro pins s σ H xs us Q I r h
 obtain ⟨p,ns,rfl,hq,hl,q⟩:=h
 obtain ⟨u,rfl,ru⟩:=zfd r
 cases ru
 obtain ⟨its,rv,pl,hz⟩:=I.tuple hq
 have hlen:its.length=ns.length:=by rw[<- rv.length];simp
 refine zjP (show s.heap.IsTuple p its.toArray from pl) (PV.intsAre_of rv) (by omega) fun out ns' a1 a2 a3=>?_
 have e:ns'=zb9 ns:=W.lks_uniq (a2.trans (zbF ns).symm) a3 (zeL ns)
 subst e
 obtain ⟨c,hc⟩:=PyProof.Rows.sortedAll_at s.heap its out
 refine ⟨.ref (s.heap.objs.size+1),_,I.laid (t':=s.toks) (fun b o=>PyProof.Rows.sortedAll_old) (Nat.le_succ _) (o:=.lst ((zb9 ns).map V.int)) ⟨?_,out.toList,c,PV.vals_ints a1,?_⟩,rfl,q _ (I.hok.fresh (Nat.le_succ _))⟩
 ·rw[List.length_map,(zbF ns).length_eq,zcq];omega
 ·simpa using hc
def zfo:List Dt->R (List Dt)
 |[.tup l]=>match ziU l with
  |some ns=>if ns.length<64 then .ok ((zb9 ns).map .int) else .no
  |none=>.no
 |_=>.no
theorem zqF{K:W.Frag}:FnN K (fun xs H Q=>∃(p:Addr)(ns:List Int),xs=[.ref p]/\SqT K H p (ns.map V.int)/\ns.length<64/\∀ l,H l=none->Q (.ref l) (upd H l (.lst ((zb9 ns).map V.int)))) zfo:=fun G H vs ds z Q gh hr e k=>by
 unfold zfo at e
 split at e
 ·split at e
  ·rename_i ns en
   split at e
   ·rename_i hl
    obtain ⟨v,rfl,h1⟩:=zfL hr
    obtain ⟨a,us,rfl,h2,h3⟩:=zfO h1
    cases e
    rw[zjj h3 en] at h2
    exact ⟨a,ns,rfl,zbc gh h2.sq,hl,fun l hl=>k l _ hl (zhN _)⟩
   ·cases e
  ·cases e
 ·cases e
theorem zqi:zkM zfo:=fun x n h=>by
 unfold zfo at h
 split at h
 ·split at h
  ·split at h <;> cases h
  ·cases h
 ·cases h
theorem zqf{x:Expr}{p:Pos}(hg:Gl X "sorted")(hm:X.mg "sorted"=none)(ha:JE X C x fa)(hs:starEach [x] X.env=(false,eval x X.env)::starEach [] X.env:=by rfl)(hpl:(backTo pos (starEach [] X.env)).any (·.1)=false:=by rfl) :
  JN X C (.Call (.Name "sorted" p) [x] [] pos) (zgJ zfo (dA fa dA0)) :=
 zmB zqF zqi zni hg hm PyProof.Rows.boot_sorted (zao ha za4 hs) (by decide) (by decide) hs hpl
end
def spH(PT:Addr)(sp:Sp):Sp:=fun vs H Q E=>sp (vs++[.ref PT]) H Q E
def dRT(j:Nat)(fr:DAr):DAr:=fun ρ=>(fr ρ).bind fun b=>.ok (b.1++[.s j],b.2)
theorem zgw{K:W.Frag}{G:Hp}{σ:L2.St}{i:Nat}{v:V}(hi:σ[i]? = some (some v)):∀{as:List Arg}{vs:List V},zcR K G σ as vs->zcR K G σ (as++[.s i]) (vs++[v])
 |[],vs,h=>by cases h;exact ⟨v,[],rfl,hi,rfl⟩
 |.d x::r,vs,⟨v0,t,e,h2,h3⟩=>by subst e;exact ⟨v0,t++[v],rfl,h2,zgw hi h3⟩
 |.s k::r,vs,⟨v0,t,e,h2,h3⟩=>by subst e;exact ⟨v0,t++[v],rfl,h2,zgw hi h3⟩
section
variable{X:Cx}{C:Cn}{CX:CXT}{k k':Nat}{ks:List Bool}{Fd:FD}{x:Str}{p pos:Pos}{e:Expr}{es:List Expr}{far:DAr}{j:Nat}{PT:Addr}
theorem zmY{σ:L2.St}{H:Hp}{Q:VK}(hpp:j∈C.pp)(hσ0:C.σ₀[j]? = some (some (.ref PT)))(h:tE X.K C (zad Fd (dRT j far)) σ H Q)(hks:∀ bs,Fd bs≠.no->zbH bs=ks):zqO (spH PT (zpU false X.K C.xv ks Fd)) [] (EXc C) (tAr X.K C far) σ H Q:=by
 obtain ⟨G,w,ρ,r,p⟩:=h
 unfold zad dRT at p
 rw[R.bind_assoc] at p
 simp only[R.bind_ok] at p
 refine zoi (κ:=fun G H w=>kE X.K C σ Q G H w) zch r p fun as0 ρ1 vs0 G1 H1 w1 r1 s1 q0 p1=>?_
 rw[List.append_nil]
 have hσj:σ[j]? = some (some (.ref PT)):=by rw[r1.pin j hpp];exact hσ0
 have q1:=zgw hσj q0
 dsimp only at p1
 generalize as0++[Arg.s j]=as at p1 q1
 unfold spH
 generalize vs0++[V.ref PT]=vs at q1
 by_cases hu:zgL as=true
 ·simp only[hu,if_true] at p1
  cases er:za1 ρ1 as with
  |ok bs =>
   rw[er,R.bind_ok] at p1
   have hk:zbH bs=ks:=by
    refine hks bs fun z=>?_
    rw[z] at p1;exact p1
   have hl:bs.length=vs.length:=zfK q1 er
   refine ⟨G1,wIn w1 as,bs,by rw[<- hk,<- hl];simp[zbH],hk,⟨r1.gh,fun b e=>r1.wg b fun z=>e (by unfold wIn;rw[z];rfl),fun b e=>r1.wh b fun z=>e (by unfold wIn;rw[z];rfl),hl,fun j b v e1 e2=>?_⟩,?_⟩
   ·have:=zh5 r1 (as:=as) (k:=0) (j:=j) (fun m i e=>by rw[Nat.zero_add];exact zjf hu e) q1 er e1 e2
    rw[Nat.zero_add] at this;exact this
   ·cases ef:Fd bs with
    |ok z =>
     rw[ef,R.bind_ok] at p1
     intro v G' H' w' s' pb q
     obtain ⟨r',st⟩:=r1.back hu q1 er hk s' pb
     exact p1 v G' H' _ st r' q
    |er n =>
     rw[ef] at p1
     intro G' H' w' s'
     refine ⟨rfl,n,rfl,p1,G',fun _=>none,r1.en.trans ⟨s'.g,fun b o e=>?_,fun b o e z=>s'.h b o e (by unfold wIn;rw[z];rfl),fun b e=>absurd rfl e,s'.k⟩⟩
     rcases s'.fr b o e with q|q|q
     ·exact .inl q
     ·exact .inr (.inl q)
     ·exact .inr (.inr fun z=>q (by unfold wIn;rw[z];rfl))
    |no=>rw[ef] at p1;exact p1.elim
  |er n=>exact absurd er zd3
  |no=>rw[er] at p1;exact p1.elim
 ·simp only[hu] at p1;exact p1.elim
structure zuU(P:Program)(w:World)(K:W.Frag)(mg:Str->Option Value)(base:Heap)(CX:CXT)(xv:Nat->Value)(k:Nat)(x:Str)(ks:List Bool)(PT:Addr)(F:FD):Prop where
 ex:∃(f:Addr)(fd:FuncData)(ps:List Str),zfC P w K mg base CX k f fd ps (spH PT (zpU false K xv ks F))/\mg x=some (.ref f)/\W.keepIn K (.ref f)=true/\zfP K fd ps []/\∀ bs,F bs≠.no->zbH bs=ks
theorem zti(D:zuU X.prog X.w X.K X.mg X.base CX C.xv k x ks PT Fd)(hr:zdC k' X.A)(hk:k<=k')(hx:zco CX X (EXc C))(hpp:j∈C.pp)(hσ0:C.σ₀[j]? = some (some (.ref PT)))(ha:JAr X C (e::es) far)(hg:Gl X x:=by rfl)(hdb:(x == ("__debug__" : Str))=false:=by decide)(he:starEach (e::es) X.env=(false,eval e X.env)::starEach es X.env:=by rfl)
  (hpl:(backTo pos (starEach es X.env)).any (·.1)=false:=by rfl):JE X C (.Call (.Name x p) (e::es) [] pos) (zad Fd (dRT j far)):=by
 obtain ⟨f,fd,ps,h1,h2,h3,h4,h5⟩:=D.ex
 exact PE.weak (zjz h1 (hr.mono hk) hg h2 h3 h4 .nil hx ha hdb he hpl) fun σ H Q h=>zmY hpp hσ0 h h5
end
theorem znP{N:List Str}{vs:List V}{v:V}(h:vs.length<N.length):(L2.start N vs).set vs.length (some v)=L2.start N (vs++[v]):=by
 unfold L2.start
 obtain ⟨m,hm⟩ : ∃ m,N.length-vs.length=m+1:=⟨N.length-vs.length-1,by omega⟩
 rw[hm,List.replicate_succ,List.length_append,List.length_singleton,show N.length-(vs.length+1)=m by omega,List.map_append]
 rw[List.set_append_right _ _ (by simp)]
 simp
theorem zqQ{P:Program}{w:World}{K:W.Frag}{mg:Str->Option Value}{base:Heap}{xq qual xt:Str}{st:Stmt}{N ps:List Str}{xv:Nat->Value}{m k:Nat}{ks:List Bool}{fb:DS}{f PT cL:Addr}{fd:FuncData}(Fu:Fun K xq qual st f fd)(hcL:fd.code=.ref cL)(hch:W.codeHdIn K cL PT=true)
  (S:zaz N ps (zak st)) (hl:ps.length=ks.length) (hm:N.length=(ks++[true]).length+m) (hj:N[ks.length]? = some xt) (hv:¬ Vis (zak st) xt) (hbm:base.BuiltinsAt mg PT) (hKb:K.In base)
  (hbody:∀(X:Cx)(C:Cn),(∃ cdv A outer s H E,X=zjQ (CXe P w) P w K mg base N qual (zak st) f cdv A outer s H E)->C.pp=zaP (ks++[true])->C.σ₀[ks.length]? = some (some (.ref PT))->C.xv=xv->C.nw=false->zdC k X.A->zco (CXe P w) X (EXc C)->PassesOwn (model X.prog X.w) X.A X.env X.xe->zgm X PT->JSs X C (zck st) fb) :
  zfC P w K mg base (CXe P w) (k+1) f fd ps (spH PT (zpU false K xv (ks++[true]) (zat false (ks++[true]) m fb))):=by
 obtain ⟨oc,od,kV,doc,pm,an,cdv,ct,osl,rfl,lk,hcd⟩:=Fu.ex
 obtain rfl:cdv=.ref cL:=hcL
 refine zqh lk hcd S (fun vs H Q E ⟨_,_,_,h,_⟩=>by simp at h;omega) fun A outer s H vs0 Q E hr hsp=>?_
 obtain ⟨G,w0,bs,hv',hk,pr,hF⟩:=hsp
 have hlen0:vs0.length=ks.length:=by simpa using hv'
 have hNl:vs0.length<N.length:=by rw[hm,hlen0];simp;omega
 have hset:=znP (N:=N) (vs:=vs0) (v:=V.ref PT) hNl
 rw[hlen0] at hset
 generalize hvs:vs0++[V.ref PT]=vs at hv' pr hF hset
 have hlast:vs[ks.length]? = some (.ref PT):=by rw[<- hvs,<- hlen0];simp
 generalize hks':ks++[true]=ks' at *
 let X:=zjQ (CXe P w) P w K mg base N qual (zak st) f (.ref cL) A outer s H E
 let C:Cn:=⟨G,H,w0,zaP ks',L2.start N vs,fun n=>zat false ks' m fb bs=.er n,xv,false⟩
 have hE:∀ u a H',EXc C u a H'->E u a H':=fun u a H' ⟨ea,n,eu,en,G',w',s'⟩=>by
  subst ea;subst eu
  have en':zat false ks' m fb bs=.er n:=en
  rw[en'] at hF
  exact hF G' H' w' s'
 have hσ:(L2.start N vs)[ks.length]? = some (some (.ref PT)):=by
  unfold L2.start
  rw[List.getElem?_append_left (by simpa using (List.getElem?_eq_some_iff.mp hlast).1),List.getElem?_map,hlast];rfl
 have hb:=hbody X C ⟨.ref cL,A,outer,s,H,E,rfl⟩ rfl hσ rfl rfl hr (zaE N qual (zak st) f (.ref cL) A outer s H E (EXc C) S.kind hE) PassesOwn.leaving ⟨⟨cL,rfl,W.codeHd_of_K hKb hch⟩,hbm⟩
 refine ⟨fun D σ H=>tS K C fb D (σ.set ks.length (some (.ref PT))) H,fun pins s' σ H' D I h=>hb pins s' _ H' D (zgV I hj hv) h,?_⟩
 show tS K C fb _ ((L2.start N vs0).set ks.length (some (V.ref PT))) H
 rw[hset]
 refine ⟨G,w0,bs.map some++List.replicate m none,?_,?_⟩
 ·refine ⟨pr.gh,pr.wg,pr.wh,?_,fun i b e=>?_,.refl _ _ _,fun i _=>rfl⟩
  ·unfold L2.start
   simp only[List.length_append,List.length_map,List.length_replicate]
   have:=pr.len
   omega
  ·have hi:i<bs.length:=by
    by_cases hi:i<bs.length
    ·exact hi
    ·rw[List.getElem?_append_right (by simpa using hi),List.getElem?_replicate] at e
     split at e <;> cases e
   rw[List.getElem?_append_left (by simpa using hi),List.getElem?_map] at e
   have eb:bs[i]? = some b:=by
    cases q:bs[i]? with
    |none=>rw[q] at e;cases e
    |some z=>rw[q] at e;cases e;rfl
   have hiv:i<vs.length:=by rw[<- pr.len];exact hi
   refine ⟨vs[i],?_,pr.sl i b vs[i] eb (by simp[hiv])⟩
   unfold L2.start
   rw[List.getElem?_append_left (by simpa using hiv),List.getElem?_map]
   simp[hiv]
 ·have hF':match zat false ks' m fb bs with
   |.ok a=>∀ v G' H' w',zbJ G H w0 G' H' w'->znb K G' H' w' ks' a.2 vs->RtG false K H G' H' w' a.1 v->Q v H'
   |.er n=>∀ G' H' w',zbJ G H w0 G' H' w'->E (xv n) none H'
   |.no=>False:=hF
  have er:zat false ks' m fb bs=(fb (bs.map some++List.replicate m none)).bind fun a=>match a.1 with
   |.nx=>if false=true then .no else (za0 ks' a.2).bind fun l=>.ok (.non,l)
   |.rt d=>(za0 ks' a.2).bind fun l=>.ok (d,l)
   |_=>.no:=by unfold zat;exact if_pos hk
  have back:∀{ρ':Ev}{l:List B}{σ':L2.St}{G' H':Hp}{w':Wn},za0 ks' ρ'=.ok l->Rel K C G' w' ρ' σ' H'->znb K G' H' w' ks' l vs:=fun {ρ' l σ' G' H' w'} eb r'=>by
   refine ⟨r'.gh,r'.wg,r'.wh,fun j v e1 e2=>?_⟩
   obtain ⟨b,h1,h2⟩:=zdN eb e1
   obtain ⟨v',h3,h4⟩:=r'.sl j b h2
   have hj:j<ks'.length:=(List.getElem?_eq_some_iff.mp e1).1
   have hp:σ'[j]? = (L2.start N vs)[j]? := r'.pin j (by
    show j∈zaP ks'
    unfold zaP
    rw[List.mem_filter]
    exact ⟨List.mem_range.mpr hj,by simp[e1]⟩)
   have hs:(L2.start N vs)[j]? = some (some v):=by
    unfold L2.start
    rw[List.getElem?_append_left (by simpa using (List.getElem?_eq_some_iff.mp e2).1),List.getElem?_map,e2];rfl
   rw[hp,hs] at h3;cases h3
   exact ⟨b,h1,h4⟩
  cases ef:fb (bs.map some++List.replicate m none) with
  |ok z =>
   obtain ⟨fl,ρ'⟩:=z
   rw[ef,R.bind_ok] at er
   cases fl with
   |nx =>
    intro σ' G' H' w' s' r'
    have er:zat false ks' m fb bs=(za0 ks' ρ').bind fun l=>.ok (.non,l):=er
    cases eb:za0 ks' ρ' with
    |ok l =>
     rw[er] at hF';simp only[eb,R.bind_ok] at hF'
     exact hF' _ G' H' w' s' (back eb r') (by unfold RtG Rep;rfl)
    |er n=>exact absurd eb zcQ
    |no =>
     have er':zat false ks' m fb bs=.no:=by rw[er];show ((za0 ks' ρ').bind _)=_;rw[eb];rfl
     rw[er'] at hF';exact hF'.elim
   |rt d =>
    intro v σ' G' H' w' s' r' q
    cases eb:za0 ks' ρ' with
    |ok l =>
     rw[er] at hF';simp only[eb,R.bind_ok] at hF'
     exact hF' _ G' H' w' s' (back eb r') q
    |er n=>exact absurd eb zcQ
    |no =>
     have er':zat false ks' m fb bs=.no:=by rw[er];show ((za0 ks' ρ').bind _)=_;rw[eb];rfl
     rw[er'] at hF';exact hF'.elim
   |bk=>rw[er] at hF';exact hF'.elim
   |ct=>rw[er] at hF';exact hF'.elim
  |er n =>
   show zat false ks' m fb bs=.er n
   rw[er,ef];rfl
  |no=>rw[er,ef] at hF';exact hF'.elim
section
variable{X:Cx}{C:Cn}{a b e:Expr}{fa fb:De}{pos apos:Pos}{zcc:List Expr}
def tOrL(K:W.Frag)(ta tb:TE):TE:=fun σ H Q=>ta σ H fun x H1=>∃ ad xs,x=.ref ad/\SqL K H1 ad xs/\if xs.isEmpty=true then tb σ H1 Q else Q (.ref ad) H1
theorem zu8{ta tb:TE}(ha:PE X a ta)(hb:PE X (.BoolOp .Or (b::zcc) pos) tb):PE X (.BoolOp .Or (a::b::zcc) pos) (tOrL X.K ta tb):=by
 intro pins s σ H Q I h
 refine BoolOp_or (thn (ha pins s σ H _ I h) fun v s1 ⟨x,H1,I1,r1,q1⟩=>?_)
 obtain ⟨ad,xs,rfl,hx,q1⟩:=q1
 cases r1
 obtain ⟨its,rv,pl,hz⟩:=I1.list hx
 have hlen:=rv.length
 have hz':xs.length<=16777216:=by rw[<- zcq];exact hz
 refine wpAny_truthy_list pl.isList (by simp only[List.size_toArray];omega) ?_
 have I2:L2.Inv X pins σ H1 { s1 with toks:=s1.toks+1+1 }:=I1.kept (t':=s1.toks+1+1) fun _ _ q=>q
 cases rv with
 |nil=>exact hb pins _ σ H1 Q I2 q1
 |cons h1 t=>exact ⟨.ref ad,H1,I2,rfl,q1⟩
def zte(fa fb:De):De:=fun ρ=>(fa ρ).bind fun a=>match a.1 with
 |.lst []=>fb a.2
 |.lst (x::r)=>.ok (.lst (x::r),a.2)
 |_=>.no
theorem zts(ha:JE X C a fa)(hb:JE X C (.BoolOp .Or (b::zcc) pos) fb):JE X C (.BoolOp .Or (a::b::zcc) pos) (zte fa fb):=(zu8 ha hb).weak fun σ H Q ⟨G,w,ρ,r,p⟩=>by
 refine zer (κ:=fun G H w=>kE X.K C σ Q G H w) zch r p fun d ρ1 v G1 H1 w1 r1 s1 q1 p1=>?_
 cases d with
 |lst l =>
  obtain ⟨ad,vs,rfl,h1,h2⟩:=zbm q1
  refine ⟨ad,vs,rfl,SqL.of (r1.gh _ _ h1),?_⟩
  cases l with
  |nil =>
   rw[h2.nil_inv]
   exact ⟨G1,w1,ρ1,r1,p1⟩
  |cons x r =>
   obtain ⟨v,t,rfl,_,_⟩:=h2.cons_inv
   exact p1 _ G1 H1 w1 (.refl _ _ _) r1 q1
 |_=>exact p1.elim
theorem zop:zcz X (.type "int") (fun xs H Q=>∃ b:Bool,xs=[.bl b]/\Q (.int (if b then 1 else 0)) H):=by
 intro pins s σ H xs us Q I r h
 obtain ⟨b,rfl,q⟩:=h
 obtain ⟨u,rfl,ru⟩:=zfd r
 cases ru
 exact call_int_bool ⟨.int (if b then 1 else 0),H,I.kept (t':=s.toks+1) (fun _ _ q=>q),⟨_,rfl⟩,q⟩
def zdw:List Dt->R Dt
 |[.bl b]=>.ok (.int (if b then 1 else 0))
 |_=>.no
theorem zrX{K:W.Frag}:FnR K (fun xs H Q=>∃ b:Bool,xs=[.bl b]/\Q (.int (if b then 1 else 0)) H) zdw:=fun G H vs ds z Q gh hr e k=>by
 unfold zdw at e
 split at e
 ·obtain ⟨v,rfl,h1⟩:=zfL hr
  cases e
  exact ⟨_,by rw[zdz h1],k _ G H (.refl gh) (zaF _)⟩
 ·cases e
theorem zrY:zkM zdw:=fun x n h=>by
 unfold zdw at h
 split at h <;> cases h
theorem znW{p:Pos}(hg:Gl X "int")(hm:X.mg "int"=none)(ha:JE X C a fa)(hs:starEach [a] X.env=(false,eval a X.env)::starEach [] X.env:=by rfl)(hpl:(backTo pos (starEach [] X.env)).any (·.1)=false:=by rfl) :
  JE X C (.Call (.Name "int" p) [a] [] pos) (dFn zdw (dA fa dA0)) :=
 zjV zrX zrY zop hg hm PyProof.Rows.boot_int (zao ha za4 hs) (by decide) (by decide) hs hpl
end
end PV
end
section
namespace PV
open PySem PySem.Spec L2
structure ZpL(h:Heap)(z TI TO i1 i2 l1 l2:Addr)(f0:Value)(k:Nat):Prop where
 z:IsZip h z TI TO f0
 ti:IsPair h TI (.ref i1) (.ref i2)
 to:∃ a b,IsPair h TO a b
 a1:h.IsListIter i1 l1 k
 a2:h.IsListIter i2 l2 k
theorem ZpL.keep{h h':Heap}{z TI TO i1 i2 l1 l2:Addr}{f0:Value}{k:Nat}(p:ZpL h z TI TO i1 i2 l1 l2 f0 k)(e:∀ b∈[z,TI,TO,i1,i2],∀ o,h.get? b=some o->h'.get? b=some o):ZpL h' z TI TO i1 i2 l1 l2 f0 k :=
 ⟨e z (by simp) _ p.z,e TI (by simp) _ p.ti,let ⟨a,b,q⟩:=p.to;⟨a,b,e TO (by simp) _ q⟩,p.a1.at fun o q=>e i1 (by simp) o q,p.a2.at fun o q=>e i2 (by simp) o q⟩
theorem zlI{z TI TO i1 i2 l1 l2:Addr}(D:ZpD z TI TO i1 i2)(n1:∀ b∈[z,TI,TO,i1,i2],b≠l1)(n2:∀ b∈[z,TI,TO,i1,i2],b≠l2):ZipApart z TI TO i1 i2 l1 l2 :=
 ⟨D.d1,D.d2,D.d3,D.d4,D.d5,D.d6,D.d7,D.d8,D.d9,D.d0,(n1 z (by simp)).symm,(n1 TO (by simp)).symm,(n1 i1 (by simp)).symm,(n1 i2 (by simp)).symm,(n2 z (by simp)).symm,(n2 TO (by simp)).symm,(n2 i1 (by simp)).symm,(n2 i2 (by simp)).symm⟩
def Itl(K:W.Frag)(a b:Addr):It :=
 ⟨fun i H=>∃ xs ys x y,SqL K H a xs/\SqL K H b ys/\xs[i]? = some x/\ys[i]? = some y,
   fun i H v H'=>∃ p x y,v=.ref p/\H p=none/\H'=upd H p (.tup [x,y])/\(∀ xs,SqL K H a xs->xs[i]? = some x)/\∀ ys,SqL K H b ys->ys[i]? = some y,
   fun i H=>∃ xs ys,SqL K H a xs/\SqL K H b ys/\xs.length<=i⟩
theorem zpk{P:Program}{w:World}{K:W.Frag}{elts:List Expr}{x1}{ps:Pos}{a b z TI TO i1 i2:Addr}(D:ZpD z TI TO i1 i2):zp5 P w K (.Tuple elts x1 ps) (Itl K a b) [z,TI,TO,i1,i2] z (fun i h=>ZpL h z TI TO i1 i2 a b .none i) where
 mem:=by simp
 obj:=fun i h st c hc=>by
  obtain ⟨s1,s2,⟨oa,ob,s3⟩,⟨o4,s4,_,d4⟩,⟨o5,s5,_,d5⟩⟩:=st
  simp only[List.mem_cons,List.not_mem_nil,or_false] at hc
  rcases hc with rfl|rfl|rfl|rfl|rfl
  ·exact ⟨_,s1,fun v q=>by cases q⟩
  ·exact ⟨_,s2,fun v q=>by cases q⟩
  ·exact ⟨_,s3,fun v q=>by cases q⟩
  ·exact ⟨_,s4,fun v q=>by rw[d4] at q;cases q⟩
  ·exact ⟨_,s5,fun v q=>by rw[d5] at q;cases q⟩
 keep:=fun i h h' st k=>st.keep k
 item:=by
  intro X hP hw hK hc i pins s σ H E I hf st hg
  subst hP hw hK
  obtain ⟨xs,ys,x,y,q1,q2,hx,hy⟩:=hg
  obtain ⟨its,rv,p,hz⟩:=I.list q1
  obtain ⟨jts,rw',p',hz'⟩:=I.list q2
  obtain ⟨u,hu,ru⟩:=rv.get hx
  obtain ⟨v,hv,rv'⟩:=rw'.get hy
  obtain ⟨oa0,ob0,hto⟩:=st.to
  have AP:=zlI D (fun c hc=>zlO I (hf c hc) q1) (fun c hc=>zlO I (hf c hc) q2)
  refine wpAny_pyNext_zip_item (x:=u) (y:=v) AP st.z st.ti hto st.a1 st.a2 p.isList p'.isList (by simpa using hu) (by simpa using hv) fun h' b1 b2 b3 b4 ht b6 hk=>?_
  refine ⟨_,rfl,wpAny_letOwnedTupleGo_zip b1 fun h2 hz2 sb=>?_⟩
  have hzp:∀ c∈[z,TI,TO,i1,i2],c≠s.heap.objs.size:=fun c hc q=>by
   obtain ⟨s1,s2,⟨oa,ob,s3⟩,⟨o4,s4,_⟩,⟨o5,s5,_⟩⟩:=st
   simp only[List.mem_cons,List.not_mem_nil,or_false] at hc
   subst q
   rcases hc with rfl|rfl|rfl|rfl|rfl
   ·exact absurd (Heap.lt_size s1) (Nat.lt_irrefl _)
   ·exact absurd (Heap.lt_size s2) (Nat.lt_irrefl _)
   ·exact absurd (Heap.lt_size s3) (Nat.lt_irrefl _)
   ·exact absurd (Heap.lt_size s4) (Nat.lt_irrefl _)
   ·exact absurd (Heap.lt_size s5) (Nat.lt_irrefl _)
  have st2:ZpL h2 z TI TO i1 i2 a b .none (i+1) :=
   ⟨hz2,sb.extBut _ _ D.d1 (hk TI _ D.d1 D.d5 D.d6 D.d7 st.ti),⟨_,_,sb.extBut _ _ D.d2 b2⟩,b3.extBut sb.extBut D.d3,b4.extBut sb.extBut D.d4⟩
  have hk2:∀ c ob,c∉[z,TI,TO,i1,i2]->s.heap.get? c=some ob->h2.get? c=some ob:=fun c ob nc e=>by
   simp only[List.mem_cons,List.not_mem_nil,or_false,not_or] at nc
   exact sb.extBut _ _ nc.1 (hk c ob nc.1 nc.2.2.1 nc.2.2.2.1 nc.2.2.2.2 e)
  have hth:∀ c ob,s.heap.get? c=some ob->∃ ob',h2.get? c=some ob':=fun c ob e=>by
   by_cases nc:c∈[z,TI,TO,i1,i2]
   ·obtain ⟨s1,s2,⟨oa,ob,s3⟩,⟨o4,s4,_⟩,⟨o5,s5,_⟩⟩:=st2
    simp only[List.mem_cons,List.not_mem_nil,or_false] at nc
    rcases nc with rfl|rfl|rfl|rfl|rfl
    ·exact ⟨_,s1⟩
    ·exact ⟨_,s2⟩
    ·exact ⟨_,s3⟩
    ·exact ⟨_,s4⟩
    ·exact ⟨_,s5⟩
   ·exact ⟨ob,hk2 c ob nc e⟩
  have hnew:h2.get? s.heap.objs.size=some { cls:=.type "tuple",data:=.seq #[u,v] }:=sb.extBut _ _ (Ne.symm (hzp z (by simp))) ht
  have IN:L2.Inv X pins σ (upd H s.heap.objs.size (.tup [x,y])) { s with heap:=h2 }:=zhk (s:=s) (t':=s.toks) (o:=.tup [x,y]) I hf hk2 (Nat.le_refl _) hth ⟨by show 2<=sizeLine;decide,[u,v],.cons ru (.cons rv' .nil),0,hnew⟩
  exact ⟨.ref s.heap.objs.size,_,IN,rfl,
   ⟨_,x,y,rfl,I.hok.fresh (Nat.le_refl _),rfl,fun zs q=>by rw[I.list_inj q q1];exact hx,fun zs q=>by rw[I.list_inj q q2];exact hy⟩,st2,fun c hc=>by rw[zai (hzp c hc)];exact (hf c hc).1⟩
 done:=by
  intro X hP hw hK hc i pins s σ H E I hf st hg
  subst hP hw hK
  obtain ⟨xs,ys,q1,q2,hx⟩:=hg
  obtain ⟨its,rv,p,hz⟩:=I.list q1
  obtain ⟨jts,rw',p',hz'⟩:=I.list q2
  have hl:=rv.length
  obtain ⟨oa0,ob0,hto⟩:=st.to
  have AP:=zlI D (fun c hc=>zlO I (hf c hc) q1) (fun c hc=>zlO I (hf c hc) q2)
  refine wpAny_pyNext_zip_end (I.ok.hd hc) AP st.z st.ti hto st.a1 st.a2 p.isList p'.isList (.inl (by simp;omega)) fun h' hk=>⟨rfl,?_⟩
  refine zf9 (t':=s.toks) I hf fun c ob nc e=>?_
  simp only[List.mem_cons,List.not_mem_nil,or_false,not_or] at nc
  exact hk c ob nc.1 nc.2.2.1 nc.2.2.2.1 nc.2.2.2.2 e
 self:=fun _ _ _ _ _ st h=>wpAny_pyIter_zip st.z h
theorem zuC{K:W.Frag}{G:Hp}{a b:Addr}{vs us:List V}{ds es:List Dt}(hs:G a=some (.lst vs))(ht:G b=some (.lst us))(q:zaB K G ds vs)(q':zaB K G es us)(hl:ds.length=es.length):zp3 K (Itl K a b) G ((ds.zip es).map fun z=>.tup [z.1,z.2]):=fun i G1 H s1 s2=>by
 have h1:SqL K H a vs:=SqL.of (s2 _ _ (s1 _ _ hs))
 have h2:SqL K H b us:=SqL.of (s2 _ _ (s1 _ _ ht))
 refine ⟨fun d e=>?_,fun h=>⟨vs,us,h1,h2,?_⟩⟩
 ·rw[List.getElem?_map] at e
  have hi:i<ds.length:=by
   by_cases hi:i<ds.length
   ·exact hi
   ·rw[List.getElem?_eq_none (by rw[List.length_zip];omega)] at e;cases e
  have z1:ds[i]? = some ds[i]:=by simp[hi]
  have z2:es[i]? = some (es[i]'(by omega)):=by simp[show i<es.length by omega]
  obtain ⟨v,e1,e2⟩:=q.get z1
  obtain ⟨u,e3,e4⟩:=q'.get z2
  have ed:d=.tup [ds[i],es[i]'(by omega)]:=by
   rw[(List.getElem?_zip_eq_some (z:=(ds[i],es[i]'(by omega)))).mpr ⟨z1,z2⟩] at e
   exact (Option.some.inj e).symm
  refine ⟨⟨vs,us,v,u,h1,h2,e1,e3⟩,fun x H' y=>?_⟩
  obtain ⟨p,x',y',rfl,hp,rfl,k1,k2⟩:=y
  have kx:=k1 vs h1
  have ky:=k2 us h2
  rw[e1] at kx;rw[e3] at ky
  cases kx;cases ky
  have gr:zec G1 H (upd G1 p (.tup [v,u])) (upd H p (.tup [v,u])):=.new s2 hp
  refine ⟨_,gr,?_⟩
  rw[ed]
  unfold Rep
  exact ⟨p,[v,u],rfl,zjU.of zan,zaB.cons ((e2.same s1).same gr.g) (zaB.cons ((e4.same s1).same gr.g) zaB.nil)⟩
 ·rw[<- q.length]
  simpa [hl] using h
def zls(fa fb:De):DA:=fun ρ=>(fa ρ).bind fun a=>(fb a.2).bind fun b=>match a.1,b.1 with
 |.tup l,.tup r=>if l.length=r.length then .ok ((l.zip r).map fun z=>.tup [z.1,z.2],b.2) else .no
 |.lst l,.lst r=>if l.length=r.length then .ok ((l.zip r).map fun z=>.tup [z.1,z.2],b.2) else .no
 |_,_=>.no
section
variable{X:Cx}{C:Cn}{elts:List Expr}{x1:Nat}{pt:Pos}{a b:Expr}{fa fb:De}{p pos:Pos}
theorem zsy(hg:Gl X "zip")(hm:X.mg "zip"=none)(ha:JE X C a fa)(hb:JE X C b fb)(hs:starEach [a,b] X.env=(false,eval a X.env)::starEach [b] X.env:=by rfl)(hs2:starEach [b] X.env=(false,eval b X.env)::starEach [] X.env:=by rfl)(hpl:(backTo pos (starEach [b] X.env)).any (·.1)=false:=by rfl) :
  JI X C (.Tuple elts x1 pt) (.Call (.Name "zip" p) [a,b] [] pos) (zls fa fb):=by
 intro pins s σ H R I ⟨G,w,ρ,r,pp⟩
 refine PyProof.Rows.Call_ (zfj I hg hm PyProof.Rows.boot_zip (PyProof.Rows.callWith_type1 (thn (zao ha (zao hb za4 hs2) hs pos pins s σ H (fun vs H1=>∃(l1 l2:Addr)(xs ys:List V),vs=[.ref l1,.ref l2]/\((SqT X.K H1 l1 xs/\SqT X.K H1 l2 ys/\R (Itz X.K l1 l2) H1)\/(SqL X.K H1 l1 xs/\SqL X.K H1 l2 ys/\R (Itl X.K l1 l2) H1))) I ?_) fun us s1 ⟨vs,H1,I1,r1,q1⟩=>?_) hs hpl))
 ·refine ⟨G,w,ρ,r,?_⟩
  unfold zls at pp
  unfold dA dA0
  cases e:fa ρ with
  |ok x =>
   obtain ⟨d,ρ1⟩:=x
   rw[e] at pp
   simp only[PV.R.bind_ok] at pp ⊢
   cases e2:fb ρ1 with
   |ok y =>
    obtain ⟨d2,ρ2⟩:=y
    rw[e2] at pp
    simp only[PV.R.bind_ok] at pp ⊢
    intro vs G1 H1 w1 s1 r1 q
    obtain ⟨v,u,rfl,k1,k2⟩:=zsC q
    cases d with
    |tup l =>
     cases d2 with
     |tup l' =>
      dsimp only at pp
      by_cases hl:l.length=l'.length
      ·rw[if_pos hl] at pp
       obtain ⟨a1,xs,rfl,m1,m2⟩:=zcu k1
       obtain ⟨a2,ys,rfl,m3,m4⟩:=zcu k2
       exact ⟨a1,a2,xs,ys,rfl,.inl ⟨zbc r1.gh m1,zbc r1.gh m3,pp _ G1 H1 w1 s1 r1 (zup m1 m3 m2 m4 hl)⟩⟩
      ·rw[if_neg hl] at pp;exact pp.elim
     |_=>exact False.elim pp
    |lst l =>
     cases d2 with
     |lst l' =>
      dsimp only at pp
      by_cases hl:l.length=l'.length
      ·rw[if_pos hl] at pp
       obtain ⟨a1,xs,rfl,m1,m2⟩:=zbm k1
       obtain ⟨a2,ys,rfl,m3,m4⟩:=zbm k2
       exact ⟨a1,a2,xs,ys,rfl,.inr ⟨SqL.of (r1.gh _ _ m1),SqL.of (r1.gh _ _ m3),pp _ G1 H1 w1 s1 r1 (zuC m1 m3 m2 m4 hl)⟩⟩
      ·rw[if_neg hl] at pp;exact pp.elim
     |_=>exact False.elim pp
    |_=>exact False.elim pp
   |er n=>rw[e2] at pp;exact pp
   |no=>rw[e2] at pp;exact pp
  |er n=>rw[e] at pp;exact pp
  |no=>rw[e] at pp;exact pp
 ·obtain ⟨l1,l2,xs,ys,rfl,q⟩:=q1
  obtain ⟨u1,u2,rfl,c1,c2⟩ : ∃ u1 u2,us=[u1,u2]/\zcx (.ref l1) u1/\zcx (.ref l2) u2:=by
   cases r1 with
   |cons h1 t=>cases t with
    |cons h2 t2=>cases t2;exact ⟨_,_,rfl,h1,h2⟩
  cases c1;cases c2
  have D:ZpD (s1.heap.objs.size+4) (s1.heap.objs.size+2) (s1.heap.objs.size+3) s1.heap.objs.size (s1.heap.objs.size+1):=zuA _
  have hfp:∀ c∈[s1.heap.objs.size+4,s1.heap.objs.size+2,s1.heap.objs.size+3,s1.heap.objs.size,s1.heap.objs.size+1],zfm X pins H1 c:=fun c hc=>by
   have hle:s1.heap.objs.size<=c:=by
    simp only[List.mem_cons,List.not_mem_nil,or_false] at hc
    rcases hc with rfl|rfl|rfl|rfl|rfl
    ·exact Nat.le_add_right ..
    ·exact Nat.le_add_right ..
    ·exact Nat.le_add_right ..
    ·exact Nat.le_refl _
    ·exact Nat.le_add_right ..
   exact I1.fpOk hle (I1.hok.fresh hle)
  rcases q with ⟨k1,k2,q⟩|⟨k1,k2,q⟩
  ·obtain ⟨its,rv,p1,_⟩:=I1.tuple k1
   obtain ⟨jts,rw',p2,_⟩:=I1.tuple k2
   refine zs1 (show s1.heap.IsTuple l1 its.toArray from p1) (show s1.heap.IsTuple l2 jts.toArray from p2) fun h' zp hk=>?_
   refine wpAny_pyIter_zip zp.z ?_
   exact ⟨s1.heap.objs.size+4,[s1.heap.objs.size+4,s1.heap.objs.size+2,s1.heap.objs.size+3,s1.heap.objs.size,s1.heap.objs.size+1],_,_,H1,rfl,I1.kept (t':=s1.toks) hk,zqN D,zp,hfp,q⟩
  ·obtain ⟨its,rv,p1,_⟩:=I1.list k1
   obtain ⟨jts,rw',p2,_⟩:=I1.list k2
   refine call_zip_2 p1.isList p2.isList fun h' b1 b2 b3 b4 b5 b6 hk=>?_
   refine wpAny_pyIter_zip b1 ?_
   exact ⟨s1.heap.objs.size+4,[s1.heap.objs.size+4,s1.heap.objs.size+2,s1.heap.objs.size+3,s1.heap.objs.size,s1.heap.objs.size+1],_,_,H1,rfl,I1.kept (t':=s1.toks) hk,zpk D,⟨b1,b2,⟨_,_,b3⟩,b4,b5⟩,hfp,q⟩
end
end PV
end
section
namespace PV
open PySem PySem.Spec L2 PyProof.Rows
section
variable{X:Cx}{C:Cn}{pos:Pos}
def zmG(f:De)(g:DG):DS:=fun ρ=>(f ρ).bind fun a=>(g a.1 a.2).bind fun ρ1=>.ok (.nx,ρ1)
theorem zoM{tg e:Expr}{fa:De}{g:DG}(he:JE X C e fa)(hg:JG X C tg g)(hs:swapsWithSole [tg] e pos.line X.env=pure false:=by rfl)(hw:swappedStores [tg] e X.env=pure none:=by rfl)
  (h1:(assignEach [tg] X.env).map (·.2)=[assign tg X.env]:=by rfl):JS X C (.Assign [tg] e pos) (zmG fa g) :=
 PS.weak (zqW he hg hs hw h1) fun D σ H ⟨G,w,ρ,r,p⟩=>by
  refine zer (κ:=fun G H w=>kS X.K C D G H w) zdS r p fun d ρ1 v G1 H1 w1 r1 s1 q1 p1=>?_
  refine ⟨G1,w1,ρ1,d,r1,q1,?_⟩
  dsimp only at p1
  cases hgd:g d ρ1 with
  |ok ρ2=>rw[hgd] at p1;exact p1
  |er n=>rw[hgd] at p1;exact p1
  |no=>rw[hgd] at p1;exact p1
end
section
variable{X:Cx}{C:Cn}{CX:CXT}{k k':Nat}{ks:List Bool}{Fd:FD}{x a b:Str}{p pos pa pb:Pos}
end
section
variable{X:Cx}{C:Cn}{a b:Expr}{fa fb:De}{pos:Pos}
end
end PV
end
section
end
section
namespace PV
open PySem PySem.Spec L2 PyProof.Rows
def zt0(i:Nat):DA:=fun ρ=>match ρ[i]? with
 |some (some (.own ds))=>.ok (ds,ρ)
 |_=>.no
structure zs0(i:Nat)(g:DG)(ft:DT)(fe:De):Prop where
 t:∀ d ρ ρ1 b ρ2,g d ρ=.ok ρ1->ft ρ1=.ok (b,ρ2)->ρ2[i]? = ρ[i]?
 e:∀ ρ y ρ1,fe ρ=.ok (y,ρ1)->ρ1[i]? = ρ[i]?
section
variable{X:Cx}{C:Cn}
theorem znc{tg iter elt:Expr}{ifs:List Expr}{scope:Scope}{pos:Pos}{N':List Str}{m io:Nat}{g:DG}{ft:DT}{fe:De}(hc:X.calm=true)(hb:zfJ X.N N' scope.names m=true)
  (hkind:scope.kind=.function) (hcell:Hce scope) (hfr:Hfr X scope)
  (hblk:Hbk X C N' scope tg ifs elt g ft fe) (hko:zs0 io g ft fe)
  {pins:List (Addr×Obj)} {σ:L2.St} {s2:Shared} {cl:List (Str×Addr)} {RR:Value->Addr->Result->Shared->Prop} {E:Value->Shared->Prop}
  (hcl:∀ x c,cl.lookup x=some c->X.env.cells.lookup x=some c) (hcf:∀ y∈scope.names,y.2=.free->∃ c,cl.lookup y.1=some c)
  {it p:Addr} {fp:List Addr} {tn:Nat->Heap->Prop} {H2:Hp} (I2:L2.Inv X pins σ H2 s2) (T:zp5 X.prog X.w X.K tg (L2.Itl X.K p) fp it tn) (st2:tn 0 s2.heap) (f2:∀ b∈fp,zfm X pins H2 b)
  {ds zs:List Dt} {ρ1 ρf:Ev} {G1:Hp} {w1:Wn} (r1:Rel X.K C G1 w1 ρ1 σ H2) (hio:ρ1[io]? = some (some (.own ds))) (hsp:σ[io]? = some (some (.ref p))) (hfi:zem ds=true) (ec:zb3 g ft fe ds (ρ1++List.replicate m none)=.ok (zs,ρf))
  (fin:∀(D L:Addr)(s':Shared)(vs:List V)(G' H':Hp)(w':Wn),L2.Inv X pins σ H' s'->zph X pins H' L s'->zbJ G1 H2 w1 G' H' w'->Rel X.K C G' w' (ρf.take ρ1.length) σ H'->H2 D=none->H' D=some (.lst vs)->G' D=none->w' D=none->zaB X.K G' zs vs->RR (.ref D) L (.ok .next) s') :
  wpAny (model X.prog X.w) X.A (newList []) (fun acc s₃=>wpAny (model X.prog X.w) X.A (newFunctionEnv scope X.env.globals cl [] X.env.qual none .none (some X.env)) (fun cenv s₄ =>
   codeAny (model X.prog X.w) X.A (.compStart (.ListComp elt [⟨tg,iter,ifs,0⟩] scope pos) 0 (.ref it) acc { cenv with scope:=relabel scope X.env }) (RR acc cenv.locals) s₄) E s₃) E s2:=by
 have hioN:io<X.N.length:=by
  rw[<- I2.len]
  exact (List.getElem?_eq_some_iff.mp hsp).1
 refine zlE hc hb hkind hcell hfr hblk hcl hcf I2 T st2 f2 r1 (fun ρ=>ρ[io]? = some (some (.own ds))) ?_ (fun d ρ ρ3 b ρ4 k e3 e4=>⟨(hko.t _ _ _ _ _ e3 e4).trans k,fun y ρ5 e=>(hko.e _ _ _ e).trans ((hko.t _ _ _ _ _ e3 e4).trans k)⟩) (fun i ρ' G' w' σ' H' r5 hown=>?_) hfi ec fin
 ·rw[List.getElem?_append_left (by rw[r1.len,I2.len];exact hioN)]
  exact hio
 ·obtain ⟨pa,us,k1,k2,k3,k4⟩:=zc8 r5 hown
  have hpin:σ'[io]? = some (some (.ref p)):=by
   rw[r5.pin io (List.mem_range.mpr hioN)]
   show (σ++List.replicate m none)[io]? = _
   rw[List.getElem?_append_left (by rw[I2.len];exact hioN)]
   exact hsp
  rw[hpin] at k1
  cases k1
  refine ⟨fun d hd=>?_,fun hle=>⟨us,SqL.of k3,by rw[<- k4.length];exact hle⟩⟩
  obtain ⟨x0,hx0,rx0⟩:=k4.get hd
  refine ⟨⟨us,x0,SqL.of k3,hx0⟩,fun x H7 y7=>?_⟩
  obtain ⟨rfl,y7⟩:=y7
  have hx:=y7 us (SqL.of k3)
  rw[hx0] at hx
  cases hx
  exact ⟨G',.refl r5.gh,rx0⟩
theorem zlv{tg elt:Expr}{ifs:List Expr}{scope:Scope}{pos spos ipos:Pos}{N':List Str}{m i io:Nat}{x xi:Str}{px:Pos}{g:DG}{ft:DT}{fe:De}(hN:X.N.Nodup)(hix:X.N[i]? = some x)(hx:Loc X.env.scope x)(hp:i∉C.pp)(hio:X.N[io]? = some xi)(hvi:Vis X.env.scope xi)(hc:X.calm=true)(hb:zfJ X.N N' scope.names m=true)
  (hkind:scope.kind=.function) (hcell:Hce scope) (hfr:Hfr X scope) (hnames:Hnm scope)
  (hblk:Hbk X C N' scope tg ifs elt g ft fe) (hko:zs0 io g ft fe)
  (hsw:swapsWith (.ListComp elt [⟨tg,.Name xi ipos,ifs,0⟩] scope pos) (some (.Name x px)) spos.line X.env=pure true:=by rfl) (hf:X.fn x=true\/X.env.scope.names.lookup x=some .local:=by first|exact .inl rfl|exact .inr rfl|assumption)
  (hs:∀ x,foldedSetIterable (.Name xi ipos) X.env x=pure x:=by intro _;rfl) (hd:(xi == ("__debug__" : Str))=false:=by decide) (hcd:(xi == ("__classdict__" : Str))=false:=by decide):JS X C (.Assign [.Name x px] (.ListComp elt [⟨tg,.Name xi ipos,ifs,0⟩] scope pos) spos) (zbf i (dFz (za3 (zt0 io) g ft fe m))):=by
 intro pins s σ H D I ⟨G,w,ρ,r,p⟩
 unfold zbf dFz za3 zt0 at p
 split at p
 case h_2=>exact p.elim
 rename_i ds eo
 obtain ⟨pa,us,k1,k2,k3,k4⟩:=zc8 r eo
 simp only[R.bind_ok] at p
 split at p
 case isFalse=>exact p.elim
 rename_i hfi
 split at p
 case h_2=>exact p.elim
 rename_i z ez
 simp only[R.bind_ok] at p
 obtain ⟨cl,hclos,hcl,hcf⟩:=zcv (scope:=scope) (env:=X.env) fun y hy hf=>I.ok.has y.1 (hfr y hy hf)
 rw[exec_Assign_Name_used _ _ _ _ hsw]
 refine wpAny_bind (wpAny_standAt (wpAny_bind ?_))
 show wpAny _ X.A (do let _ <- comprehension (.ListComp elt [⟨tg,.Name xi ipos,ifs,0⟩] scope pos) scope X.env _ (newList []) false (eval (.Name xi ipos) X.env) (some (assign (.Name x px) X.env))) _ _ s
 refine wpAny_bind (wpAny_mono (wpAny_comprehension_free (use:=some (assign (.Name x px) X.env)) (Q:=fun _ s'=>SP X pins D .next s') rfl hs hclos hkind hnames ?_) (fun _ s' hq=>wpAny_pure (wpAny_pure hq)) fun _ _ e=>e)
 refine thn (zl0 (tg:=tg) (zce (i:=io) hio hvi hd hcd) pins s σ H (fun J H2=>J=L2.Itl X.K pa/\H2=H) I ⟨.ref pa,k1,pa,rfl,⟨us,SqL.of k3⟩,rfl,rfl⟩) fun v s1 h1=>thn h1 fun itv s2 h2=>?_
 obtain ⟨it,fp,tn,J,H2,rfl,I2,T,st2,f2,rfl,rfl⟩:=h2
 refine znc (RR:=fun acc C=>compPost (model X.prog X.w) X.A X.xe (some (assign (.Name x px) X.env)) (fun _ s'=>SP X pins D .next s') acc C) hc hb hkind hcell hfr hblk hko hcl hcf I2 T st2 f2 r eo k1 hfi ez fun Da L s' vs G' H' w' I' lo st rel h0 h1 h2 h3 q=>?_
 show wpAny _ X.A (assign (.Name x px) X.env (.ref Da)) _ _ _
 refine wpAny_assign_Name (zhf I' hN hix hx (v:=.ref Da) rfl (fun s'' I'' hch=>?_) hf)
 obtain ⟨mm,hn⟩:=lo.ns
 obtain ⟨a,sb,ha⟩:=hch
 have hLa:L≠a:=by
  rcases ha with z|z
  ·rw[z];exact lo.nl
  ·exact fun y=>lo.nc x a z y.symm
 refine ⟨mm,hn.sameBut sb hLa,fun h' hsb=>⟨σ.set i (some (.ref Da)),H',?_,?_⟩⟩
 ·exact I''.turned (t':=s''.toks) (fun b o hb e=>(hsb.2 b hb).trans e) lo.fr lo.nl lo.nw lo.nc lo.np
 ·by_cases hl:i<(z.2.take ρ.length).length
  ·rw[if_pos hl] at p
   obtain ⟨r',s'⟩:=rel.know h1 h2 h3 _ G w st h0 (.inl (r.en.k Da h0))
   have sg:zcb G' (upd G' Da (.lst vs)):=fun b u e=>by rw[zai (zah e h2)];exact e
   exact p _ _ _ _ s' (r'.setVal hl hp (by unfold Rep;exact ⟨Da,vs,rfl,zan,q.same sg⟩))
  ·rw[if_neg hl] at p;exact False.elim p
end
def PuE(f:De):Prop:=∀ ρ y ρ1,f ρ=.ok (y,ρ1)->ρ1 = ρ
theorem znM(i:Nat):PuE (zab i):=fun ρ y ρ1 h=>by
 unfold zab at h
 split at h
 ·cases h;rfl
 ·cases h
theorem zm5{F:FD}{f:De}(hf:PuE f):PuE (zad F (dR f dR0)):=fun ρ y ρ1 h=>by
 unfold zad dR dR0 at h
 cases hd:f ρ with
 |ok d =>
  obtain ⟨d1,ρ2⟩:=d
  have e:=hf _ _ _ hd
  subst e
  rw[hd] at h
  simp only[R.bind_ok,zgL,zaN,if_true,za1] at h
  cases hz:F [.val d1] with
  |ok z =>
   rw[hz] at h
   simp only[R.bind_ok,zm1] at h
   cases h
   rfl
  |er k=>rw[hz] at h;cases h
  |no=>rw[hz] at h;cases h
 |er k=>rw[hd] at h;cases h
 |no=>rw[hd] at h;cases h
theorem zu6{g:List Dt->R Dt}{f:De}(hf:PuE f):PuE (dFn g (dA f dA0)):=fun ρ y ρ1 h=>by
 unfold dFn dA dA0 at h
 cases hd:f ρ with
 |ok d =>
  obtain ⟨d1,ρ2⟩:=d
  have e:=hf _ _ _ hd
  subst e
  rw[hd] at h
  simp only[R.bind_ok] at h
  cases hz:g [d1] with
  |ok z =>
   rw[hz] at h
   cases h
   rfl
  |er k=>rw[hz] at h;cases h
  |no=>rw[hz] at h;cases h
 |er k=>rw[hd] at h;cases h
 |no=>rw[hd] at h;cases h
theorem zv1{g:Dt->Dt->R Dt}{f f':De}(hf:PuE f)(hf':PuE f'):PuE (dOp g f f'):=fun ρ y ρ1 h=>by
 unfold dOp at h
 cases hd:f ρ with
 |ok d =>
  obtain ⟨d1,ρ2⟩:=d
  have e:=hf _ _ _ hd
  subst e
  rw[hd] at h
  simp only[R.bind_ok] at h
  cases hd2:f' ρ2 with
  |ok d2 =>
   obtain ⟨d3,ρ3⟩:=d2
   have e:=hf' _ _ _ hd2
   subst e
   rw[hd2] at h
   simp only[R.bind_ok] at h
   cases hz:g d1 d3 with
   |ok z =>
    rw[hz] at h
    cases h
    rfl
   |er k=>rw[hz] at h;cases h
   |no=>rw[hz] at h;cases h
  |er k=>rw[hd2] at h;cases h
  |no=>rw[hd2] at h;cases h
 |er k=>rw[hd] at h;cases h
 |no=>rw[hd] at h;cases h
theorem zqa{i j:Nat}{f fe:De}(hij:i≠j)(hf:PuE f)(he:PuE fe):zs0 i (zaM j) (dTB f) fe:=by
 refine ⟨fun d ρ ρ1 b ρ2 h1 h2=>?_,fun ρ y ρ1 h=>by rw[he _ _ _ h]⟩
 have e2:ρ2 = ρ1:=by
  unfold dTB at h2
  cases hd:f ρ1 with
  |ok a =>
   obtain ⟨d1,ρa⟩:=a
   have e:=hf _ _ _ hd
   subst e
   rw[hd] at h2
   simp only[R.bind_ok] at h2
   split at h2
   ·cases h2;rfl
   ·cases h2
  |er k=>rw[hd] at h2;cases h2
  |no=>rw[hd] at h2;cases h2
 subst e2
 unfold zaM at h1
 split at h1
 ·cases h1
  rw[List.getElem?_set_ne (Ne.symm hij)]
 ·cases h1
def znA(n:Nat)(r:R (Dt×Ev)):Bool:=match r with
 |.er k=>k == n
 |_=>false
theorem zgY{n:Nat}{r:R (Dt×Ev)}(h:znA n r=true):r=.er n:=by
 cases r with
 |er k=>rw[show k=n by simpa [znA] using h]
 |ok a=>cases h
 |no=>cases h
def zk1(j ci:Nat)(q:Str)(n:Nat)(f1 f2 f3:De):DS:=fun ρ=>match ρ[j]?,ρ[ci]? with
 |some (some (.tab q')),some none=>if q'=q/\n<8/\znA n (f1 (zbo ρ))=true/\znA n (f2 (zbo ρ))=true/\znA n (f3 (zbo ρ))=true then .ok (.nx,ρ) else .no
 |_,_=>.no
structure ztf(X:Cx)(xr xc xl:Str)(ci:Nat)(scope:Scope)(N':List Str)(p2 p3 p5:Pos):Prop where
 hc:X.calm=true
 hci:X.N[ci]? = some xl
 hvl:Vis X.env.scope xl
 hb:zfJ X.N N' scope.names 1=true
 hkind:scope.kind=.function
 hcell:Hce scope
 hfr:Hfr X scope
 hnames:Hnm scope
 hN':N'.Nodup
 hcs:N'[X.N.length]? = some xc
 hgl:∀ cl L s H fp,Gl (zd1 X N' scope cl L s H fp) xr
 he:∀ cl L s H fp,starEach [.Name xc p2] (zd1 X N' scope cl L s H fp).env=(false,eval (.Name xc p2) (zd1 X N' scope cl L s H fp).env)::starEach [] (zd1 X N' scope cl L s H fp).env
 hpl:∀ cl L s H fp,(backTo p3 (starEach [] (zd1 X N' scope cl L s H fp).env)).any (·.1)=false
 hvx:∀ cl L s H fp,Vis (zd1 X N' scope cl L s H fp).env.scope xc/\Loc (zd1 X N' scope cl L s H fp).env.scope xc/\(zd1 X N' scope cl L s H fp).env.scope.names.lookup xc=some .local
 hs:∀ x,foldedSetIterable (.Name xl p5) X.env x=pure x
 hdb:(xr == ("__debug__" : Str))=false:=by decide
 hdc:(xc == ("__debug__" : Str))=false:=by decide
 hdd:(xc == ("__classdict__" : Str))=false:=by decide
 hdl:(xl == ("__debug__" : Str))=false:=by decide
 hdm:(xl == ("__classdict__" : Str))=false:=by decide
section
variable{X:Cx}{C:Cn}{f:Addr}{fd:FuncData}{st:Stmt}{xq xr xc xl:Str}{NR:List Str}{m k n ci:Nat}{dB:Nat->Addr->DS}
theorem Rel.setNone{K:W.Frag}{G H:Hp}{w:Wn}{ρ:Ev}{σ:L2.St}{i:Nat}{v:V}(r:Rel K C G w ρ σ H)(hi:ρ[i]? = some none)(hp:i∉C.pp):Rel K C G w ρ (σ.set i (some v)) H:=by
 refine ⟨r.gh,r.wg,r.wh,by rw[List.length_set];exact r.len,fun j b e=>?_,r.en,fun j hj=>?_⟩
 ·obtain ⟨u,h1,h2⟩:=r.sl j b e
  have hne:i≠j:=fun z=>by subst z;rw[hi] at e;cases e
  exact ⟨u,by rw[List.getElem?_set_ne hne];exact h1,h2⟩
 ·rw[List.getElem?_set_ne (fun z=>by subst z;exact hp hj)]
  exact r.pin j hj
theorem zso{X:Cx}:PTs X [] (fun _ H Q=>Q true H):=fun pins s σ H Q I h=>wpAny_tests_nil ⟨H,I,h⟩
theorem zpP(cls:Nat->Addr)(hxv:∀ n,n<8->C.xv n=.ref (cls n))(hfn:X.fn=fun _=>true)
  (Fu:Fun X.K xq xr st f fd) (S:zaz NR ["call"] (zak st)) (hNR:NR.length=m+1) (hbi:zfP X.K fd ["call"] []) (hm:X.mg xr=some (.ref f)) (hr:zdC (k+2) X.A)
  (hB:HB X C xr st f NR k cls dB)
  (hden:HD m dB) (hn8:n<8)
  (hpp:C.pp=List.range X.N.length) {p:Addr} {Fs:List Addr} (hσ:C.σ₀[ci]? = some (some (.ref p))) (hG:C.G₀ p=some (.lst (Fs.map V.ref))) {ρ0:Ev} (hF:∀ Fa∈Fs,zlq X C.xv k n ρ0 C.G₀ Fa)
  (hval:∀(i:Nat)(d:Dt),ρ0[i]? = some (some (.val d))->∃ v,C.σ₀[i]? = some (some v)/\Rep X.K C.G₀ d v) (hlen:ρ0.length=X.N.length) (hlF:Fs.length<=1000)
  {scope:Scope} {N':List Str} {p1 p2 p3 p4 p5 pos:Pos} (cb:ztf X xr xc xl ci scope N' p2 p3 p5) :
  JN X C (.ListComp (.Call (.Name xr p1) [.Name xc p2] [] p3) [⟨.Name xc p4,.Name xl p5,[],0⟩] scope pos) (fun ρ=>if ρ.length=X.N.length then .ok (List.replicate Fs.length (.lst [.int n]),ρ) else .no):=by
 intro pins s σ H Q I ⟨G,w,ρ,r,p0⟩
 dsimp only at p0
 split at p0
 case isFalse=>exact p0.elim
 rename_i hρl
 obtain ⟨hc,hci,hvl,hb,hkind,hcell,hfr,hnames,hN',hcs,hgl,he,hpl,hvx,hs,hdb,hdc,hdd,hdl,hdm⟩:=cb
 have kn:kN X.K C σ Q G H w (List.replicate Fs.length (.lst [.int n]),ρ):=p0
 obtain ⟨cl,hclos,hcl,hcf⟩:=zcv (scope:=scope) (env:=X.env) fun y hy hf=>I.ok.has y.1 (hfr y hy hf)
 have hlenσ:σ.length=X.N.length:=I.len
 have hciN:ci<X.N.length:=(List.getElem?_eq_some_iff.mp hci).1
 have pinN:∀ i,i<X.N.length->σ[i]? = C.σ₀[i]? := fun i hi=>r.pin i (by rw[hpp];exact List.mem_range.mpr hi)
 have hσp:σ[ci]? = some (some (.ref p)):=by rw[pinN ci hciN];exact hσ
 have gG:G p=some (.lst (Fs.map V.ref)):=r.en.g _ _ hG
 refine wpAny_comprehension_free (use:=none) rfl hs hclos hkind hnames ?_
 refine thn (zl0 (tg:=.Name xc p4) (zce (i:=ci) hci hvl hdl hdm) pins s σ H (fun J H2=>J=L2.Itl X.K p/\H2=H) I ⟨.ref p,hσp,p,rfl,⟨_,SqL.of (r.gh _ _ gG)⟩,rfl,rfl⟩) fun v s1 h1=>thn h1 fun itv s2 h2=>?_
 obtain ⟨it,fp,tn,J,H2,rfl,I2,T,st2,f2,rfl,rfl⟩:=h2
 generalize hCY:znz C X.N.length G H2 w (σ++List.replicate 1 none)=CY
 have cxv:CY.xv=C.xv:=by rw[<- hCY];rfl
 have c0:CY.H₀=H2:=by rw[<- hCY];rfl
 have cG:CY.G₀=G:=by rw[<- hCY];rfl
 have cw:CY.w₀=w:=by rw[<- hCY];rfl
 have cpp:CY.pp=List.range X.N.length:=by rw[<- hCY];rfl
 have csp:X.N.length∉CY.pp:=by rw[cpp];simp
 let ρY:Ev:=ρ++[none]
 have hns:ρY[X.N.length]? = some none:=by
  show (ρ++[none])[X.N.length]? = _
  rw[List.getElem?_append_right (by omega),hρl];simp
 refine zmh (RR:=fun acc C=>compPost (model X.prog X.w) X.A X.xe none (EP X pins σ Q) acc C) (iter:=.Name xl p5) (pos:=pos) (n:=Fs.length) (tgt:=zr7 X.N.length) (tts:=fun _ H Q=>Q true H)
  (te:=fun σY H1 Q=>∃ Fa G1 w1,σY[X.N.length]? = some (some (.ref Fa))/\Rel X.K CY G1 w1 ρY σY H1/\zcb G G1/\zlq X C.xv k n ρ0 G1 Fa/\kN X.K CY σY Q G1 H1 w1 ([.int n],ρY)) hc hb hkind hcell hfr (fun L s H fp I0 f0 hL=>⟨?_,zso,?_⟩) hcl hcf I2 T st2 f2
  (fun D i σ' H' vs=>∃ G' w',Rel X.K CY G' w' ρY σ' H'/\G' D=none/\w' D=none/\zaB X.K G' (List.replicate i (.lst [.int n])) vs) (fun D hD=>?_) (fun D i σ' H' vs hD q5 hd5 hlt=>?_) (fun D σ' H' vs q5=>?_) fun D L s' vs σ' H' IX lo hD hd5 hl6 q5=>?_
 ·exact zjH hN' hcs (hvx cl L s H fp).2.1 (.inr (hvx cl L s H fp).2.2)
 ·intro pinsY s1 σY H1 Q1 J1 ⟨Fa,G1,w1,q1,q2,qg,q3,q4⟩
  refine wpAny_Call_Name_kw (zgb J1 (hgl cl L s H fp) hm ?_ hdb)
  refine W.callWith_K (h₀:=X.base) J1.ok.mod.kin Fu.kp ?_ (he cl L s H fp) (hpl cl L s H fp)
  rw[he cl L s H fp]
  refine Calls.spliced_cons (thn (zce (X:=zd1 X N' scope cl L s H fp) (i:=X.N.length) hcs (hvx cl L s H fp).1 hdc hdd pinsY s1 σY H1 (fun v H'=>v=.ref Fa/\H'=H1) J1 ⟨.ref Fa,q1,rfl,rfl⟩) fun u s2 hEP=>?_)
  obtain ⟨v,H',J2,rv,ev,eH⟩:=hEP
  subst ev
  subst eH
  cases rv
  show wpAny _ _ (spliced []) _ _ s2
  refine Calls.spliced_nil ⟨J2.kIn,?_⟩
  have I2':L2.Inv X pins σ H' s2:=zod (h':=s2.heap) I0 f0 hL J2 ⟨rfl,fun _ _=>rfl⟩
  refine wpAny_call (codeAny_mono (zmk (CY:=CY) cls hxv hfn Fu S hNR hbi hr hB hden hn8 I2' J2.env0 q2 (fun i d e=>?_) (by rw[hlen,hlenσ]) q3 q4) fun rr s3 hq=>?_)
  ·obtain ⟨v,h1,h2⟩:=hval i d e
   have hi:i<X.N.length:=by rw[<- hlen];exact (List.getElem?_eq_some_iff.mp e).1
   exact ⟨v,by rw[pinN i hi];exact h1,h2.same (r.en.g.trans qg)⟩
  ·exact zo6 J2 hq
 ·have w0:w D=none:=zcS r hD
  have base:Rel X.K CY G w ρY (σ++List.replicate 1 none) H2:=by
   refine ⟨r.gh,r.wg,r.wh,by simp[ρY,r.len],fun i b e=>?_,by rw[<- hCY];exact .refl _ _ _,fun i _=>by rw[<- hCY];rfl⟩
   have hi':i < ρ.length:=by
    by_cases hi':i < ρ.length
    ·exact hi'
    ·have e':(ρ++List.replicate 1 none)[i]? = some (some b):=e
     rw[List.getElem?_append_right (by omega),List.getElem?_replicate] at e'
     split at e' <;> cases e'
   have e':(ρ++[none])[i]? = some (some b):=e
   rw[List.getElem?_append_left hi'] at e'
   obtain ⟨v,h1,h2⟩:=r.sl i b e'
   exact ⟨v,by rw[List.getElem?_append_left (by rw[<- r.len];exact hi')];exact h1,h2⟩
  exact ⟨G,w,base.upd_new (r.gh.free hD) w0 (by rw[c0];exact hD),r.gh.free hD,w0,zaB.nil⟩
 ·obtain ⟨G',w',r5,gd5,wd5,q5⟩:=q5
  have sG:zcb G G':=by have:=r5.en.g;rw[cG] at this;exact this
  have hHp:H' p=some (.lst (Fs.map V.ref)):=r5.gh _ _ (sG _ _ gG)
  refine ⟨⟨Fs.map V.ref,.ref Fs[i],SqL.of hHp,by rw[List.getElem?_map,List.getElem?_eq_getElem hlt];rfl⟩,fun x H7 y7=>?_⟩
  obtain ⟨rfl,y7⟩:=y7
  have hx:=y7 _ (SqL.of hHp)
  rw[List.getElem?_map,List.getElem?_eq_getElem hlt] at hx
  have ex:V.ref Fs[i]=x:=by simpa using hx
  subst ex
  have r6:Rel X.K CY G' w' ρY (σ'.set X.N.length (some (.ref Fs[i]))) H7:=r5.setNone hns csp
  have hsl:X.N.length < σ'.length:=by rw[<- r5.len];simp[ρY,hρl]
  show ∃ Fa G1 w1,_/\_/\_/\_/\_
  refine ⟨Fs[i],G',w',by rw[List.getElem?_set_self hsl],r6,sG,(hF _ (List.getElem_mem hlt)).same (r.en.g.trans sG),?_⟩
  intro q us G2 H3 w2 s2s r7 h0 h1 h2 h3 h4
  have keep:=s2s.keep gd5 wd5 hd5
  have qD:q≠D:=fun z=>by subst z;rw[hd5] at h0;cases h0
  obtain ⟨r8,s8⟩:=r7.know h1 h2 h3 _ G' w' s2s h0 (.inl (by rw[c0];exact (by have:=r5.en.k q h0;rw[c0] at this;exact this)))
  have sg:zcb G2 (upd G2 q (.lst us)):=fun b u e=>by rw[zai (zah e h2)];exact e
  have gd:upd G2 q (.lst us) D=none:=by rw[zai (Ne.symm qD)];exact keep.1
  refine ⟨keep.2.2,?_,upd G2 q (.lst us),w2,r8.upd_new gd keep.2.1 (by rw[c0];exact hD),gd,keep.2.1,?_⟩
  ·have:=q5.length
   rw[List.length_replicate] at this
   have:=zcq
   omega
  ·rw[List.replicate_succ']
   exact (q5.same (s2s.g.trans sg)).append (zaB.cons (by unfold Rep;exact ⟨q,us,rfl,zan,h4.same sg⟩) zaB.nil)
 ·obtain ⟨G',w',r5,gd5,wd5,q5⟩:=q5
  have sG:zcb G G':=by have:=r5.en.g;rw[cG] at this;exact this
  have hHp:H' p=some (.lst (Fs.map V.ref)):=r5.gh _ _ (sG _ _ gG)
  exact ⟨_,SqL.of hHp,by simp⟩
 ·obtain ⟨G',w',r5,gd5,wd5,q5⟩:=q5
  obtain ⟨mm,hn⟩:=lo.ns
  have en':zbJ G H2 w G' H' w':=by have:=r5.en;rw[cG,c0,cw] at this;exact this
  refine ⟨mm,hn,fun h' hsb=>⟨.ref D,H',?_,rfl,kn D vs G' H' w' en' ⟨r5.gh,r5.wg,r5.wh,r.len,fun i b e=>?_,r.en.trans en',r.pin⟩ hD hd5 gd5 wd5 q5⟩⟩
  ·exact IX.turned (t':=s'.toks) (fun b o hb e=>(hsb.2 b hb).trans e) lo.fr lo.nl lo.nw lo.nc lo.np
  ·have hi':i < ρ.length:=(List.getElem?_eq_some_iff.mp e).1
   obtain ⟨v,h1,h2⟩:=r5.sl i b (by show (ρ++[none])[i]? = _;rw[List.getElem?_append_left hi'];exact e)
   refine ⟨v,?_,h2⟩
   have hpi:=r5.pin i (by rw[cpp];exact List.mem_range.mpr (by rw[<- hρl];exact hi'))
   rw[h1] at hpi
   rw[<- hCY] at hpi
   have hpi':some (some v)=(σ++List.replicate 1 none)[i]? := hpi
   rw[List.getElem?_append_left (by rw[hlenσ,<- hρl];exact hi')] at hpi'
   exact hpi'.symm
end
def zhn(j ci:Nat)(q:Str)(n:Nat)(f1 f2:De):DS:=fun ρ=>match ρ[j]?,ρ[ci]? with
 |some (some (.tab q')),some none=>if q'=q/\n<8/\znA n (f1 (zbo ρ))=true/\znA n (f2 (zbo ρ))=true then .ok (.nx,ρ) else .no
 |_,_=>.no
theorem zbJ.upd{G H G' H':Hp}{w w':Wn}{p:Addr}{o:HO}(s:zbJ G H w G' H' w')(hp:H p=none):zbJ G H w G' (L2.upd H' p o) w' :=
 ⟨s.g,s.fr,fun b u e z=>by rw[zai (zah e hp)];exact s.h b u e z,s.w,fun b e=>by
  by_cases hb:b=p
  ·subst hb;exact hp
  ·rw[zai hb] at e;exact s.k b e⟩
theorem eqR(n:Int)(l:Nat):gEq true (.lst (List.replicate l (.lst [.int n]))) (.lst (List.replicate l (.lst [.int n])))=.ok (.bl false):=by
 have e1:eqD (.lst [.int n]) (.lst [.int n])=true:=by rw[eqD,zk0,zk0,eqD];simp
 have e2:∀ l,zk0 (List.replicate l (.lst [.int n])) (List.replicate l (.lst [.int n]))=true:=fun l=>by
  induction l with
  |zero=>unfold zk0;rfl
  |succ l ih=>rw[List.replicate_succ,zk0,e1,ih];rfl
 have e3:okN 60 (.lst (List.replicate l (.lst [.int n])))=true:=by
  unfold okN
  rw[List.all_eq_true]
  intro x hx
  rw[List.eq_of_mem_replicate hx]
  rfl
 unfold gEq
 rw[e3,if_pos rfl,eqD,e2]
 rfl
structure CS(X:Cx)(C:Cn)(k n ci:Nat)(ρ:Ev)(G0 H0:Hp)(w:Wn)(l:Nat)(σ:L2.St)(H:Hp):Prop where
 ex:∃(p:Addr)(G1:Hp)(Fs:List Addr),Fs.length=l/\σ[ci]? = some (some (.ref p))/\Rel X.K C G1 w ρ σ H/\zbJ G0 H0 w G1 H w/\H0 p=none/\C.H₀ p=none/\H p=some (.lst (Fs.map V.ref))/\G1 p=none/\w p=none/\∀ Fa∈Fs,zlq X C.xv k n ρ G1 Fa
structure zpI(X:Cx)(xl:Str)(pa:Arguments)(b:Expr)(s:Scope)(l q4 q5 q6 q7:Pos):Prop where
 hsw:swapsWith (.Call (.Attribute (.Name xl q4) "append" q5) [.Lambda pa b s l] [] q6) none q7.line X.env=pure false
 hse:starEach [.Lambda pa b s l] X.env=(false,eval (.Lambda pa b s l) X.env)::starEach [] X.env
 hba:attributeBase (.Name xl q4) "append" X.env (eval (.Name xl q4) X.env)=eval (.Name xl q4) X.env
 hfw:((backTo q6 (starEach [.Lambda pa b s l] X.env)).all (fun x=>!x.1) && (backToKw q6 (keywordEach [] X.env)).all (fun x=>x.1.isSome) && decide ([Expr.Lambda pa b s l].length+([]:List Keyword).length+(if ([]:List Keyword).isEmpty then 0 else 1)<30))=true
 hln:(q5.endLine == q6.line)=true
 hpl:(backTo q6 (starEach [] X.env)).any (·.1)=false
section
variable{X:Cx}{C:Cn}{P f:Addr}{fd:FuncData}{st:Stmt}{xq xr xc xl:Str}{NR N':List Str}{m k n ci j l:Nat}{dB:Nat->Addr->DS}{ρ:Ev}{G0 H0:Hp}{w:Wn}{scope:Scope}{p1 p2 p3 p4 p5 pos:Pos}
 (LB:zgm X P) (hjp:j∈C.pp) (hσ0:C.σ₀[j]? = some (some (.ref P))) (hip:ci∉C.pp)
include LB hjp hσ0 hip
theorem ztB{pa:Arguments}{b:Expr}{s:Scope}{f1:De}(A:zg8 X C.xv k pa b s f1)(hfn:X.fn=fun _=>true)(hN:X.N.Nodup)(hlx:Loc X.env.scope xl)(cb:ztf X xr xc xl ci scope N' p2 p3 p5){l1 q1 q2 q3:Pos}
  (hsw1:swapsWith (.List [.Lambda pa b s l1] q2) (some (.Name xl q1)) q3.line X.env=pure false) (hse1:starEach [.Lambda pa b s l1] X.env=(false,eval (.Lambda pa b s l1) X.env)::starEach [] X.env) (hj:ρ[j]? = some (some (.tab (X.env.qual++"<lambda>")))) (hci0:ρ[ci]? = some none) (hf:f1 (zbo ρ)=.er n) :
  PS X (.Assign [.Name xl q1] (.List [.Lambda pa b s l1] q2) q3) fun D σ H=>H=H0/\Rel X.K C G0 w ρ σ H/\∀ σ' H',CS X C k n ci ρ G0 H0 w 1 σ' H'->D.nx σ' H':=by
 intro pins s' σ H D I ⟨eH,r,kx⟩
 subst eH
 obtain ⟨cl,hclos,hcl,hcf⟩:=zcv (scope:=s) (env:=X.env) fun y hy hf=>I.ok.has y.1 (A.hfr y hy hf)
 have hciN:ci < σ.length:=by rw[I.len];exact (List.getElem?_eq_some_iff.mp cb.hci).1
 refine zm4 (i:=ci) hN cb.hci hlx (zri (zbe (zoJ LB A.hdef hclos) zcr hse1)) hsw1 (.inl (by rw[hfn])) pins s' σ H D I ?_
 unfold zvl tLst zqH
 refine zjA r hj (by rw[r.pin j hjp];exact hσ0) fun F1 c1 ctv1 G1 H1 r1 st1 gF1 gc1=>⟨by show 1<=sizeLine;decide,fun p hp=>kx _ _ ⟨p,G1,[F1],rfl,?_,?_,st1.upd (st1.k p hp),st1.k p hp,r.en.k p (st1.k p hp),zan,r1.gh.free hp,zcS r1 hp,fun Fa hFa=>?_⟩⟩
 ·rw[List.getElem?_set_self hciN]
 ·exact (r1.upd_new (r1.gh.free hp) (zcS r1 hp) (r.en.k p (st1.k p hp))).setNone hci0 hip
 ·obtain rfl:=List.mem_singleton.mp hFa
  exact ⟨_,_,_,cl,c1,ctv1,_,A,hcl,hcf,gF1,gc1,hf⟩
theorem zsS{pa:Arguments}{b:Expr}{s:Scope}{f1:De}(A:zg8 X C.xv k pa b s f1)(cb:ztf X xr xc xl ci scope N' p2 p3 p5){l1 q4 q5 q6 q7:Pos}(a:zpI X xl pa b s l1 q4 q5 q6 q7)(hl:l<9)(hj:ρ[j]? = some (some (.tab (X.env.qual++"<lambda>"))))(hf:f1 (zbo ρ)=.er n) :
  PS X (.Expr (.Call (.Attribute (.Name xl q4) "append" q5) [.Lambda pa b s l1] [] q6) q7) fun D σ H=>CS X C k n ci ρ G0 H0 w l σ H/\∀ σ' H',CS X C k n ci ρ G0 H0 w (l+1) σ' H'->D.nx σ' H':=by
 intro pins s' σ H D I ⟨⟨p,G,Fs,el,hs,r,st,h0,hC0,hp,gp,wp,hF⟩,kx⟩
 obtain ⟨cl,hclos,hcl,hcf⟩:=zcv (scope:=s) (env:=X.env) fun y hy hf=>I.ok.has y.1 (A.hfr y hy hf)
 refine znY (zpf PySem.F.plainAttrs_list PySem.F.slot_list_append PySem.F.type_list_append zhr (zce (i:=ci) cb.hci cb.hvl cb.hdl cb.hdm) (zbe (zoJ LB A.hdef hclos) zcr a.hse) a.hba a.hfw a.hln a.hse a.hpl) a.hsw pins s' σ H D I ?_
 unfold zqH ztm tBM
 refine ⟨.ref p,hs,.inl ⟨rfl,_,SqL.of hp⟩,?_⟩
 refine zjA r hj (by rw[r.pin j hjp];exact hσ0) fun F2 c2 ctv2 G2 H3 r3 st3 gF2 gc2=>?_
 have k3:=st3.keep gp wp hp
 refine ⟨p,Fs.map V.ref,.ref F2,rfl,rfl,k3.2.2,?_,kx _ _ ⟨p,G2,Fs++[F2],by simp[el],hs,r3.upd_new k3.1 wp hC0,(st.trans st3).upd h0,h0,hC0,?_,k3.1,wp,fun Fa hFa=>?_⟩⟩
 ·rw[List.length_map,el,zcq];omega
 ·rw[List.map_append];exact zan
 ·rcases List.mem_append.mp hFa with z|z
  ·exact (hF Fa z).same st3.g
  ·obtain rfl:=List.mem_singleton.mp z
   exact ⟨_,_,_,cl,c2,ctv2,_,A,hcl,hcf,gF2,gc2,hf⟩
variable(cls:Nat->Addr)(hxv:∀ n,n<8->C.xv n=.ref (cls n))(hfn:X.fn=fun _=>true)
 (Fu:Fun X.K xq xr st f fd) (S:zaz NR ["call"] (zak st)) (hNR:NR.length=m+1) (hbi:zfP X.K fd ["call"] []) (hm:X.mg xr=some (.ref f)) (hr:zdC (k+2) X.A) (hu:X.A.units+64<cLine)
 (hB:∀(C:Cn),(∀ n,n<8->C.xv n=.ref (cls n))->HB X C xr st f NR k cls dB) (hden:HD m dB)
include hxv hfn Fu S hNR hbi hm hr hu hB hden
omit LB hjp hσ0 in
theorem ztN(cb:ztf X xr xc xl ci scope N' p2 p3 p5){rhs:Expr}{fR:De}(hR:∀ C,JE X C rhs fR)(hRd:∀ ρ,fR ρ=.ok (.lst (List.replicate l (.lst [.int n])),ρ))(hl:l<9)(hn8:n<8){ret:Stmt}{q12 q13:Pos} :
  PS X (.If (.Compare (.ListComp (.Call (.Name xr p1) [.Name xc p2] [] p3) [⟨.Name xc p4,.Name xl p5,[],0⟩] scope pos) [.NotEq] [rhs] q12) [ret] [] q13) fun D σ H=>CS X C k n ci ρ G0 H0 w l σ H/\∀ σ' H' G' w',Rel X.K C G' w' ρ σ' H'->zbJ G0 H0 w G' H' w'->D.nx σ' H':=by
 intro pins s σ H D I ⟨⟨p,G,Fs,el,hs,r,st,h0,hC0,hp,gp,wp,hF⟩,kx⟩
 subst el
 have hρl:ρ.length=X.N.length:=by rw[r.len,I.len]
 obtain ⟨rK,SK⟩:=r.know hp gp wp H0 G0 w st h0 (.inl hC0)
 have sg:zcb G (upd G p (.lst (Fs.map V.ref))):=fun b u e=>by rw[zai (zah e gp)];exact e
 let C4:Cn:=⟨upd G p (.lst (Fs.map V.ref)),H,w,List.range X.N.length,σ,C.ex,C.xv,C.nw⟩
 have hj4:=zpP (C:=C4) (k:=k) (n:=n) (dB:=dB) cls hxv hfn Fu S hNR hbi hm hr (hB C4 hxv) hden hn8 rfl (Fs:=Fs) hs zan (ρ0:=ρ) (fun Fa z=>(hF Fa z).same sg) (fun i d e=>rK.sl i _ e) hρl (by omega) (p1:=p1) (p4:=p4) (pos:=pos) cb
 refine (zbI (zih hu (zaw hj4) (hR C4)) (zaj zmz) zaG) pins s σ H D I ⟨upd G p (.lst (Fs.map V.ref)),w,ρ,⟨rK.gh,rK.wg,rK.wh,rK.len,rK.sl,.refl _ _ _,fun _ _=>rfl⟩,?_⟩
 have e4:(dIf (dTB (dOp (gEq true) (dFz (fun ρ=>if ρ.length=X.N.length then .ok (List.replicate Fs.length (.lst [.int n]),ρ) else .no)) fR)) dNo dNx:DS) ρ=.ok (.nx,ρ):=by
  unfold dIf dTB dOp dFz
  simp only[hρl,if_true,R.bind_ok,hRd,eqR]
  rfl
 rw[e4]
 intro σ' G' H' w' st' r'
 have sl':σ'.length=X.N.length:=by rw[<- r'.len,hρl]
 refine kx σ' H' G' w' ⟨r'.gh,r'.wg,r'.wh,r'.len,r'.sl,rK.en.trans st',fun i hi=>?_⟩ (SK.trans st')
 rw[<- rK.pin i hi]
 by_cases hiN:i<X.N.length
 ·exact r'.pin i (List.mem_range.mpr hiN)
 ·rw[List.getElem?_eq_none (by omega),List.getElem?_eq_none (by rw[I.len];omega)]
theorem zoc{pa1 pa2 pa3:Arguments}{b1 b2 b3:Expr}{s1 s2 s3:Scope}{f1 f2 f3:De}(A1:zg8 X C.xv k pa1 b1 s1 f1)(A2:zg8 X C.xv k pa2 b2 s2 f2)(A3:zg8 X C.xv k pa3 b3 s3 f3)
  (hN:X.N.Nodup) (hlx:Loc X.env.scope xl) (cb:ztf X xr xc xl ci scope N' p2 p3 p5) {rhs:Expr} {fR:De} (hR:∀ C,JE X C rhs fR) (hRd:∀ ρ,fR ρ=.ok (.lst [.lst [.int n],.lst [.int n],.lst [.int n]],ρ))
  {ret:Stmt} {zcc:List Stmt} {grest:DS} (hrest:JSs X C zcc grest) {l1 l2 l3 q1 q2 q3 q4 q5 q6 q7 q8 q9 q10 q11 q12 q13:Pos}
  (hsw1:swapsWith (.List [.Lambda pa1 b1 s1 l1] q2) (some (.Name xl q1)) q3.line X.env=pure false) (hse1:starEach [.Lambda pa1 b1 s1 l1] X.env=(false,eval (.Lambda pa1 b1 s1 l1) X.env)::starEach [] X.env)
  (a2:zpI X xl pa2 b2 s2 l2 q4 q5 q6 q7) (a3:zpI X xl pa3 b3 s3 l3 q8 q9 q10 q11) :
  JSs X C (.Assign [.Name xl q1] (.List [.Lambda pa1 b1 s1 l1] q2) q3::.Expr (.Call (.Attribute (.Name xl q4) "append" q5) [.Lambda pa2 b2 s2 l2] [] q6) q7::.Expr (.Call (.Attribute (.Name xl q8) "append" q9) [.Lambda pa3 b3 s3 l3] [] q10) q11 ::
   .If (.Compare (.ListComp (.Call (.Name xr p1) [.Name xc p2] [] p3) [⟨.Name xc p4,.Name xl p5,[],0⟩] scope pos) [.NotEq] [rhs] q12) [ret] [] q13::zcc) (za2 (zk1 j ci (X.env.qual++"<lambda>") n f1 f2 f3) grest):=by
 intro pins s σ H D I ⟨G,w,ρ,r,p0⟩
 unfold za2 zk1 at p0
 split at p0
 case h_2=>exact p0.elim
 rename_i q' hj hci0
 split at p0
 case isFalse=>exact p0.elim
 rename_i hcond
 obtain ⟨rfl,hn8,c3,c4,c5⟩:=hcond
 exact (zdd (ztB (ρ:=ρ) LB hjp hσ0 hip A1 hfn hN hlx cb hsw1 hse1 hj hci0 (zgY c3)) (zdd (zsS (ρ:=ρ) LB hjp hσ0 hip A2 cb a2 (by decide) hj (zgY c4)) (zdd (zsS (ρ:=ρ) LB hjp hσ0 hip A3 cb a3 (by decide) hj (zgY c5)) (zdd (ztN hip cls hxv hfn Fu S hNR hbi hm hr hu hB hden cb hR hRd (l:=3) (by decide) hn8) hrest)))) pins s σ H D I
  ⟨rfl,r,fun σ1 H1 c1=>⟨c1,fun σ2 H2 c2=>⟨c2,fun σ3 H3 c3=>⟨c3,fun σ' H' G' w' r' st'=>⟨G',w',ρ,r',zc0.step zdS st' p0⟩⟩⟩⟩⟩
theorem zmH{pa1 pa2:Arguments}{b1 b2:Expr}{s1 s2:Scope}{f1 f2:De}(A1:zg8 X C.xv k pa1 b1 s1 f1)(A2:zg8 X C.xv k pa2 b2 s2 f2)
  (hN:X.N.Nodup) (hlx:Loc X.env.scope xl) (cb:ztf X xr xc xl ci scope N' p2 p3 p5) {rhs:Expr} {fR:De} (hR:∀ C,JE X C rhs fR) (hRd:∀ ρ,fR ρ=.ok (.lst [.lst [.int n],.lst [.int n]],ρ))
  {ret:Stmt} {zcc:List Stmt} {grest:DS} (hrest:JSs X C zcc grest) {l1 l2 q1 q2 q3 q4 q5 q6 q7 q12 q13:Pos}
  (hsw1:swapsWith (.List [.Lambda pa1 b1 s1 l1] q2) (some (.Name xl q1)) q3.line X.env=pure false) (hse1:starEach [.Lambda pa1 b1 s1 l1] X.env=(false,eval (.Lambda pa1 b1 s1 l1) X.env)::starEach [] X.env)
  (a2:zpI X xl pa2 b2 s2 l2 q4 q5 q6 q7) :
  JSs X C (.Assign [.Name xl q1] (.List [.Lambda pa1 b1 s1 l1] q2) q3::.Expr (.Call (.Attribute (.Name xl q4) "append" q5) [.Lambda pa2 b2 s2 l2] [] q6) q7 ::
   .If (.Compare (.ListComp (.Call (.Name xr p1) [.Name xc p2] [] p3) [⟨.Name xc p4,.Name xl p5,[],0⟩] scope pos) [.NotEq] [rhs] q12) [ret] [] q13::zcc) (za2 (zhn j ci (X.env.qual++"<lambda>") n f1 f2) grest):=by
 intro pins s σ H D I ⟨G,w,ρ,r,p0⟩
 unfold za2 zhn at p0
 split at p0
 case h_2=>exact p0.elim
 rename_i q' hj hci0
 split at p0
 case isFalse=>exact p0.elim
 rename_i hcond
 obtain ⟨rfl,hn8,c3,c4⟩:=hcond
 exact (zdd (ztB (ρ:=ρ) LB hjp hσ0 hip A1 hfn hN hlx cb hsw1 hse1 hj hci0 (zgY c3)) (zdd (zsS (ρ:=ρ) LB hjp hσ0 hip A2 cb a2 (by decide) hj (zgY c4)) (zdd (ztN hip cls hxv hfn Fu S hNR hbi hm hr hu hB hden cb hR hRd (l:=2) (by decide) hn8) hrest))) pins s σ H D I
  ⟨rfl,r,fun σ1 H1 c1=>⟨c1,fun σ2 H2 c2=>⟨c2,fun σ' H' G' w' r' st'=>⟨G',w',ρ,r',zc0.step zdS st' p0⟩⟩⟩⟩
end
theorem zn1{P:Program}{w:World}{K:W.Frag}{mg mb:Str->Option Value}{CX:CXT}{k:Nat}{fa a PT QT cL cM:Addr}{fd:FuncData}{x:Str}{sp:Sp}{s₁:Shared}{vs:List Value}{ns:List Int}
  (KX:K.In s₁.heap) (hns:s₁.heap.Ns mainGlobals mg) (hb:s₁.heap.Ns builtinsNs mb) (hbb:∀ x:Str,x≠"__name__"->mb x=bootBuiltins x) (hlim:s₁.heap.NoLimit) (hg:s₁.gens=#[])
  (ha:s₁.heap.get? a=some { cls:=.type "list",data:=.seq vs.toArray }) (hi:IntsAre vs ns) (hl:ns.length<=sizeLine) (hr:zdC k callerA)
  (hPQ:PT≠QT) (hPT:s₁.heap.get? PT=some (W.tabObj #[])) (hQT:s₁.heap.get? QT=some (W.tabObj #[])) (hcodeQ:W.codeHdIn K cM QT=true) (hbmQ:s₁.heap.BuiltinsAt mg QT) (hnt:W.noTabs K=true) (hcode:W.codeHdIn K cL PT=true) (hbm:s₁.heap.BuiltinsAt mg PT)
  (F:∀ base:Heap,K.In base->base.Ns mainGlobals mg->base.BuiltinsAt mg PT->base.BuiltinsAt mg QT->zfC P w K mg base CX k fa fd [x] sp) (hbind:∀(s:Shared)(u:Value),BindsTo s fd ⟨[u],[]⟩ [(x,u)])
  (hsp:∀ H:Hp,H PT=some (.tbl #[])->H QT=some (.tbl #[])->SqL K H a (ns.map V.int)->sp [.ref a] H (fun v _=>v=.bl true) fun _ _ _=>False)
  (hCX:∀ H e s',CX [] H s₁ (fun _ _ _=>False) e s'->False) :
  codeAny (model P w) callerA (.call (.ref fa) ⟨[.ref a],[]⟩) (fun r s'=>r=.ok (.ret (.bool true))/\OldK s₁.heap s'.heap/\s'.os=s₁.os/\AllBare s'.gens) s₁:=by
 have rv:=vals_ints hi
 have lenV:=hi.length
 have aP:a≠PT:=fun z=>by
  rw[z,hPT] at ha
  have:=congrArg Obj.cls (Option.some.inj ha)
  cases this
 have kP:K.lookup PT=none:=by
  cases q:K.lookup PT with
  |none=>rfl
  |some o =>
   have e:=KX _ _ q
   rw[hPT] at e
   have h2:=List.all_eq_true.mp hnt (PT,o) (W.mem_of_lookupK q)
   cases e
   exact absurd (show false=true from h2) Bool.false_ne_true
 have aQ:a≠QT:=fun z=>by
  rw[z,hQT] at ha
  have:=congrArg Obj.cls (Option.some.inj ha)
  cases this
 have kQ:K.lookup QT=none:=by
  cases q:K.lookup QT with
  |none=>rfl
  |some o =>
   have e:=KX _ _ q
   rw[hQT] at e
   have h2:=List.all_eq_true.mp hnt (QT,o) (W.mem_of_lookupK q)
   cases e
   exact absurd (show false=true from h2) Bool.false_ne_true
 have core:∀ H:Hp,(∀ b,b≠PT->b≠QT->H b=none\/∃ o xs,H b=some (.frz o (.lst xs)))->H PT=some (.tbl #[])->H QT=some (.tbl #[])->SqL K H a (ns.map V.int)->HOk P w H s₁.heap->(∀ b,H b≠none->b=a\/b=PT\/b=QT)->(H a≠none->K.lookup a=none) ->
   codeAny (model P w) callerA (.call (.ref fa) ⟨[.ref a],[]⟩) (fun r s'=>r=.ok (.ret (.bool true))/\OldK s₁.heap s'.heap/\s'.os=s₁.os/\AllBare s'.gens) s₁:=by
  intro H hO hP hQ hS hok hA hK
  have base_of:∀{b:Addr}{o:Obj},s₁.heap.get? b=some o->H b=none->(zoQ s₁.heap H).get? b=some o:=fun e n=>zqt e n
  have other:∀{b:Addr}{o:Obj},s₁.heap.get? b=some o->o.cls≠.type "list"->o.cls≠.none->H b=none:=fun {b o} e d1 d2=>by
   cases q:H b with
   |none=>rfl
   |some u =>
    rcases hA b (by rw[q];simp) with z|z|z
    ·rw[z,ha] at e;cases e;exact absurd rfl d1
    ·rw[z,hPT] at e;cases e;exact absurd rfl d2
    ·rw[z,hQT] at e;cases e;exact absurd rfl d2
  have noA:∀{b:Addr}{o:Obj}{es:Array DictEntry}{ep:Nat},s₁.heap.get? b=some o->o.data=.dict es ep->H b=none:=fun {b o es ep} e d=>by
   cases q:H b with
   |none=>rfl
   |some u =>
    rcases hA b (by rw[q];simp) with z|z|z
    ·rw[z,ha] at e;cases e;cases d
    ·rw[z,hPT] at e;cases e;cases d
    ·rw[z,hQT] at e;cases e;cases d
  have nsK:∀{b:Addr}{m:Str->Option Value},s₁.heap.Ns b m->(zoQ s₁.heap H).Ns b m:=fun {b m} ⟨o,es,ep,e,d,r⟩=>⟨o,es,ep,base_of e (noA e d),d,r⟩
  have hKb:K.In (zoQ s₁.heap H):=fun b o e=>base_of (KX b o e) (by
   cases q:H b with
   |none=>rfl
   |some u =>
    rcases hA b (by rw[q];simp) with z|z|z
    ·subst z
     rw[hK (by rw[q];simp)] at e;cases e
    ·rw[z,kP] at e;cases e
    ·rw[z,kQ] at e;cases e)
  have hM:Mod K mg (zoQ s₁.heap H):=⟨hKb,nsK hns,⟨mb,nsK hb,hbb⟩,let ⟨mc,h1,h2⟩:=hlim;⟨mc,nsK h1,h2⟩⟩
  have hbm':(zoQ s₁.heap H).BuiltinsAt mg PT:=by
   obtain ⟨bm,o,b1,b2,b3,b4,b5,b6,b7⟩:=hbm
   exact ⟨bm,o,b1,b2,b3,b4,base_of b5 (other b5 (by rw[b6];decide) (by rw[b6];intro z;cases z)),b6,b7⟩
  have hbmQ':(zoQ s₁.heap H).BuiltinsAt mg QT:=by
   obtain ⟨bm,o,b1,b2,b3,b4,b5,b6,b7⟩:=hbmQ
   exact ⟨bm,o,b1,b2,b3,b4,base_of b5 (other b5 (by rw[b6];decide) (by rw[b6];intro z;cases z)),b6,b7⟩
  have e0:zpA P w K mg (zoQ s₁.heap H) callerA [] s₁ H:=⟨rfl,hM,fun b o e=>zsb e,Nat.le_of_eq (zoo _ _),trivial,fun b hb=>absurd (show b∈([]:List Addr) from hb) (by simp),hok,.of_eq hg⟩
  refine codeAny_mono ((F _ hKb (nsK hns) hbm' hbmQ').run callerA [] s₁ H ⟨[.ref a],[]⟩ [.ref a] [.ref a] _ _ hr e0 (hbind s₁ (.ref a)) (.cons rfl .nil) (hsp H hP hQ hS)) fun r s' h=>?_
  cases r with
  |error e=>exact (hCX H e s' h).elim
  |ok fl =>
   cases fl with
   |next=>exact False.elim h
   |brk=>exact False.elim h
   |cont=>exact False.elim h
   |ret u =>
    obtain ⟨v,H',os,bare,un,hok',r',q⟩:=h
    have q':v=.bl true:=q
    subst q'
    obtain rfl:u=Value.bool true:=r'
    have kept:∀ b o,b≠PT->b≠QT->s₁.heap.get? b=some o->s'.heap.get? b=some o:=fun b o hb hb2 e=>by
     cases q:H b with
     |none=>exact un.keep b o e q (by intro z;exact absurd (show b∈([]:List Addr) from z) (by simp)) (by simp)
     |some u =>
      rcases hO b hb hb2 with z|⟨ob,xs,z⟩
      ·rw[q] at z;cases z
      ·have z2:=un.frzs b ob _ z
       obtain ⟨e1,_⟩:=hok b _ z
       obtain ⟨e2,_⟩:=hok' b _ z2
       rw[e] at e1;cases e1
       exact e2
    obtain ⟨more,hm⟩:=un.tbls PT #[] hP
    obtain ⟨more2,hm2⟩:=un.tbls QT #[] hQ
    have hPT':s'.heap.get? PT=some (W.tabObj (#[]++more)):=hok' PT _ hm
    have hQT':s'.heap.get? QT=some (W.tabObj (#[]++more2)):=hok' QT _ hm2
    have tab:=(W.codeHd_of_K KX hcode).tab hPT
    have tabQ:=(W.codeHd_of_K KX hcodeQ).tab hQT
    refine ⟨rfl,⟨fun b o e=>?_,fun b o e=>?_⟩,os,bare⟩
    ·by_cases hb:b=PT
     ·subst hb
      rw[hPT] at e;cases e
      exact .inr (.inl ⟨tab.isCodeTable,rfl,#[],more,rfl,hPT'⟩)
     ·by_cases hb2:b=QT
      ·subst hb2
       rw[hQT] at e;cases e
       exact .inr (.inl ⟨tabQ.isCodeTable,rfl,#[],more2,rfl,hQT'⟩)
      ·exact .inl (kept b o hb hb2 e)
    ·by_cases hb:b=PT
     ·subst hb;exact ⟨_,hPT'⟩
     ·by_cases hb2:b=QT
      ·subst hb2;exact ⟨_,hQT'⟩
      ·exact ⟨o,kept b o hb hb2 e⟩
 cases hk:K.lookup a with
 |some o =>
  have e:=KX a o hk
  rw[ha] at e
  cases e
  refine core (fun b=>if b=PT then some (.tbl #[]) else if b=QT then some (.tbl #[]) else none) (fun b hb hb2=>.inl ((if_neg hb).trans (if_neg hb2))) (if_pos rfl) ((if_neg (Ne.symm hPQ)).trans (if_pos rfl)) (.inr ⟨_,vs.toArray,_,hk,rfl,rfl,rfl,by rw[List.size_toArray,lenV];exact hl,by simpa using rv⟩) (fun b u z=>?_) (fun b z=>?_) fun z=>absurd ((if_neg aP).trans (if_neg aQ)) z
  ·by_cases hb:b=PT
   ·have z':=(if_pos hb).symm.trans z
    cases z'
    subst hb
    exact hPT
   ·have z:=(if_neg hb).symm.trans z
    by_cases hb2:b=QT
    ·have z':=(if_pos hb2).symm.trans z
     cases z'
     subst hb2
     exact hQT
    ·have z':=(if_neg hb2).symm.trans z
     cases z'
  ·by_cases hb:b=PT
   ·exact .inr (.inl hb)
   ·by_cases hb2:b=QT
    ·exact .inr (.inr hb2)
    ·exact absurd ((if_neg hb).trans (if_neg hb2)) z
 |none =>
  refine core (fun b=>if b=PT then some (.tbl #[]) else if b=QT then some (.tbl #[]) else if b=a then some (.frz { cls:=.type "list",data:=.seq vs.toArray } (.lst (ns.map V.int))) else none) (fun b hb hb2=>?_) (if_pos rfl) ((if_neg (Ne.symm hPQ)).trans (if_pos rfl)) (.inl (.inr ⟨{ cls:=.type "list",data:=.seq vs.toArray },(if_neg aP).trans ((if_neg aQ).trans (if_pos rfl))⟩)) (fun b u z=>?_) (fun b z=>?_) fun _=>hk
  ·by_cases hba:b=a
   ·exact .inr ⟨_,_,(if_neg hb).trans ((if_neg hb2).trans (if_pos hba))⟩
   ·exact .inl ((if_neg hb).trans ((if_neg hb2).trans (if_neg hba)))
  ·by_cases hb:b=PT
   ·have z':=(if_pos hb).symm.trans z
    cases z'
    subst hb
    exact hPT
   ·have z:=(if_neg hb).symm.trans z
    by_cases hb2:b=QT
    ·have z':=(if_pos hb2).symm.trans z
     cases z'
     subst hb2
     exact hQT
    ·have z:=(if_neg hb2).symm.trans z
     by_cases hba:b=a
     ·have z':=(if_pos hba).symm.trans z
      cases z'
      subst hba
      exact ⟨ha,by rw[List.length_map];exact hl,vs,_,rv,ha⟩
     ·have z':=(if_neg hba).symm.trans z
      cases z'
  ·by_cases hb:b=PT
   ·exact .inr (.inl hb)
   ·by_cases hb2:b=QT
    ·exact .inr (.inr hb2)
    ·by_cases hba:b=a
     ·exact .inl hba
     ·exact absurd ((if_neg hb).trans ((if_neg hb2).trans (if_neg hba))) z
theorem zoN{l:W.OpenLaw}{n k:Nat}{q:Program}{loose:List Str}{XP:(Str->Option Value)->Heap->Prop}{YP:World->Heap->Prop}{d:DefRec}{K:Params->W.Frag}{CX:World->CXT}{sp:World->Sp}{x:Str}{PT QT:Addr}(hPQ:PT≠QT)
  (hn:l.most=some n) (hn2:n<=sizeLine) (hdf:d.params.defaults=[]) (hr:zdC k callerA)
  (hY:∀(w:World)(h:Heap),YP w h->(K w.params).In h) (hYT:∀(w:World)(h:Heap),YP w h->h.get? PT=some (W.tabObj #[])) (hYQ:∀(w:World)(h:Heap),YP w h->h.get? QT=some (W.tabObj #[])) (hnt:∀ w:World,W.noTabs (K w.params)=true)
  (F:∀(w:World)(mg:Str->Option Value)(fa:Addr)(h:Heap),(K w.params).In h->h.Ns mainGlobals mg->mg d.name=some (.ref fa) ->
   ∃(fd:FuncData)(cL cM:Addr),(∀(s:Shared)(u:Value),BindsTo s fd ⟨[u],[]⟩ [(x,u)])/\W.codeHdIn (K w.params) cL PT=true/\W.codeHdIn (K w.params) cM QT=true /\
    ∀ base:Heap,(K w.params).In base->base.Ns mainGlobals mg->base.BuiltinsAt mg PT->base.BuiltinsAt mg QT->zfC l.prog w (K w.params) mg base (CX w) k fa fd [x] (sp w))
  (hsp:∀(w:World)(H:Hp)(a:Addr)(ns:List Int),ns.length<=n->H PT=some (.tbl #[])->H QT=some (.tbl #[])->SqL (K w.params) H a (ns.map V.int)->sp w [.ref a] H (fun v _=>v=.bl true) fun _ _ _=>False)
  (hCX:∀(w:World)(H:Hp)(s:Shared)(e:Value)(s':Shared),CX w [] H s (fun _ _ _=>False) e s'->False) :
  W.WalkO q loose XP YP l.row.toRowW d [] (fun f vs=>PySem.call f vs):=by
 refine Att.attach_call hn hdf fun w s₀ s₁ mg mb fa o pm cd doc a vs ns G Y ho hd hcd hmg hobj hints hlen hg=>?_
 have KX:=hY w _ Y
 have hPT:=hYT w _ Y
 have hQT:=hYQ w _ Y
 obtain ⟨fd,cL,cM,hb,hcode,hcodeQ,hF⟩:=F w mg fa _ KX G.T.g hmg
 have hbm:∀ RT:Addr,s₁.heap.get? RT=some (W.tabObj #[])->s₁.heap.BuiltinsAt mg RT:=fun RT hRT=>by
  obtain ⟨bm,ob,b1,b2,b3,b4,b5,b6⟩:=G.T.bmain
  refine ⟨bm,ob,b1,b2,fun z=>?_,fun z=>?_,b3,b4,b5,b6⟩
  ·obtain ⟨o',es,ep,e,hd',_⟩:=G.T.g
   rw[z,e] at b3;cases b3;rw[hd'] at b6;cases b6
  ·rw[z,hRT] at b3;cases b3;cases b4
 exact zn1 KX G.T.g G.T.b G.T.builtins G.T.nolimit hg hobj hints (Nat.le_trans hlen hn2) hr hPQ hPT hQT hcodeQ (hbm QT hQT) (hnt w) hcode (hbm PT hPT) hF hb (fun H hP hQ hS=>hsp w H a ns hlen hP hQ hS) fun H e s'=>hCX w H s₁ e s'
def ztR(K:W.Frag)(PT QT:Addr)(ok:List Int->Prop):Sp:=fun vs H Q _=>∃ a ns,vs=[.ref a]/\SqL K H a (ns.map V.int)/\H PT=some (.tbl #[])/\H QT=some (.tbl #[])/\ok ns/\∀ H',Q (.bl true) H'
def znf(m:Nat)(q q2:Str)(fb:DS)(ns:List Int):Prop:=∃ ρ',fb (some (.val (.scr ns))::(List.replicate m none++[some (.tab q),some (.tab q2)]))=.ok (.rt (.bl true),ρ')
theorem zsJ{P:Program}{w:World}{K:W.Frag}{mg:Str->Option Value}{base:Heap}{xq qual xs xt xu q q2:Str}{st:Stmt}{N:List Str}{xv:Nat->Value}{m k:Nat}{fb:DS}{f PT QT cM:Addr}{fd:FuncData}(hPQ:PT≠QT)
  (Fu:Fun K xq qual st f fd) (hcM:fd.code=.ref cM) (hch:W.codeHdIn K cM QT=true) (S:zaz N [xs] (zak st)) (hm:N.length=m+3) (hj:N[m+1]? = some xt) (hv:¬ Vis (zak st) xt) (hj2:N[m+2]? = some xu) (hv2:¬ Vis (zak st) xu) (hbm:base.BuiltinsAt mg QT) (hKb:K.In base)
  (hbody:∀(X:Cx)(C:Cn),(∃ cdv A outer s H E,X=zjQ (CXe P w) P w K mg base N qual (zak st) f cdv A outer s H E)->C.pp=[m+1,m+2]->C.σ₀[m+1]? = some (some (.ref PT))->C.σ₀[m+2]? = some (some (.ref QT))->C.xv=xv->C.nw=false->zdC k X.A->zco (CXe P w) X (EXc C)->PassesOwn (model X.prog X.w) X.A X.env X.xe->zgm X QT->JSs X C (zck st) fb) :
  zfC P w K mg base (CXe P w) (k+1) f fd [xs] (ztR K PT QT (znf m q q2 fb)):=by
 obtain ⟨oc,od,kV,doc,pm,an,cdv,ct,osl,rfl,lk,hcd⟩:=Fu.ex
 obtain rfl:cdv=.ref cM:=hcM
 refine zqh lk hcd S (fun vs H Q E ⟨a,ns,h,_⟩=>by rw[h];rfl) fun A outer s H vs Q E hr hsp=>?_
 obtain ⟨a,ns,rfl,hS,hP,hQt,⟨ρ',hok⟩,hQ⟩:=hsp
 let X:=zjQ (CXe P w) P w K mg base N qual (zak st) f (.ref cM) A outer s H E
 let G:Hp:=fun b=>if b=PT then none else if b=QT then none else H b
 let w0:Wn:=fun b=>if b=PT then some (m+1) else if b=QT then some (m+2) else none
 let σ1:L2.St:=((L2.start N [.ref a]).set (m+1) (some (.ref PT))).set (m+2) (some (.ref QT))
 let C:Cn:=⟨G,H,w0,[m+1,m+2],σ1,fun _=>False,xv,false⟩
 have lS:(L2.start N [V.ref a]).length=m+3:=by unfold L2.start;simp[hm]
 have lS1:((L2.start N [V.ref a]).set (m+1) (some (.ref PT))).length=m+3:=by rw[List.length_set,lS]
 have s1:σ1[m+1]? = some (some (.ref PT)):=by
  show (((L2.start N [V.ref a]).set (m+1) (some (.ref PT))).set (m+2) (some (.ref QT)))[m+1]? = _
  rw[List.getElem?_set_ne (by omega),List.getElem?_set_self (by rw[lS];omega)]
 have s2:σ1[m+2]? = some (some (.ref QT)):=by
  show (((L2.start N [V.ref a]).set (m+1) (some (.ref PT))).set (m+2) (some (.ref QT)))[m+2]? = _
  rw[List.getElem?_set_self (by rw[lS1];omega)]
 have hb:=hbody X C ⟨.ref cM,A,outer,s,H,E,rfl⟩ rfl s1 s2 rfl rfl hr
  (zaE N qual (zak st) f (.ref cM) A outer s H E (EXc C) S.kind fun u b H' ⟨_,n,_,z,_⟩=>z.elim) PassesOwn.leaving ⟨⟨cM,rfl,W.codeHd_of_K hKb hch⟩,hbm⟩
 refine ⟨fun D σ H=>tS K C fb D ((σ.set (m+1) (some (.ref PT))).set (m+2) (some (.ref QT))) H,fun pins s' σ H' D I h=>hb pins s' _ H' D (zgV (zgV I hj hv) hj2 hv2) h,G,w0,some (.val (.scr ns))::(List.replicate m none++[some (.tab q),some (.tab q2)]),?_,?_⟩
 ·have gP:G PT=none:=if_pos rfl
  have gQ:G QT=none:=(if_neg (Ne.symm hPQ)).trans (if_pos rfl)
  have gO:∀{b:Addr},b≠PT->b≠QT->G b=H b:=fun h h2=>(if_neg h).trans (if_neg h2)
  have wP:w0 PT=some (m+1):=if_pos rfl
  have wQ:w0 QT=some (m+2):=(if_neg (Ne.symm hPQ)).trans (if_pos rfl)
  have wO:∀ b,w0 b≠none->b=PT\/b=QT:=fun b e=>by
   by_cases hb:b=PT
   ·exact .inl hb
   ·by_cases hb2:b=QT
    ·exact .inr hb2
    ·exact absurd ((if_neg hb).trans (if_neg hb2)) e
  refine ⟨fun b o e=>?_,fun b e=>?_,fun b e=>?_,by simp[lS],fun i b e=>?_,.refl _ _ _,fun i _=>rfl⟩
  ·by_cases hb:b=PT
   ·rw[hb,gP] at e;cases e
   ·by_cases hb2:b=QT
    ·rw[hb2,gQ] at e;cases e
    ·rw[gO hb hb2] at e;exact e
  ·rcases wO b e with z|z
   ·rw[z];exact gP
   ·rw[z];exact gQ
  ·rcases wO b e with z|z
   ·rw[z,hP];simp
   ·rw[z,hQt];simp
  ·cases i with
   |zero =>
    simp at e;subst e
    refine ⟨.ref a,?_,?_⟩
    ·rw[List.getElem?_set_ne (by omega),List.getElem?_set_ne (by omega)];unfold L2.start;simp
    ·show Rep K G (.scr ns) (.ref a)
     unfold Rep
     refine ⟨a,rfl,?_⟩
     rcases hS with (h|⟨o,h⟩)|h
     ·exact .inl (.inl ((gO (fun z=>by rw[z,hP] at h;cases h) (fun z=>by rw[z,hQt] at h;cases h)).trans h))
     ·exact .inl (.inr ⟨o,(gO (fun z=>by rw[z,hP] at h;cases h) (fun z=>by rw[z,hQt] at h;cases h)).trans h⟩)
     ·exact .inr h
   |succ i =>
    rw[List.getElem?_cons_succ] at e
    by_cases hi:i<m
    ·rw[List.getElem?_append_left (by simpa using hi),List.getElem?_replicate] at e
     split at e <;> cases e
    ·rw[List.getElem?_append_right (by simpa using hi)] at e
     simp only[List.length_replicate] at e
     by_cases h0:i=m
     ·subst h0
      simp at e
      subst e
      refine ⟨.ref PT,s1,PT,#[],rfl,wP,hP,trivial,fun pos cv z=>?_⟩
      simp[codeAmong] at z
     ·by_cases h1:i=m+1
      ·subst h1
       rw[show m+1-m=1 by omega] at e
       simp at e
       subst e
       refine ⟨.ref QT,s2,QT,#[],rfl,wQ,hQt,trivial,fun pos cv z=>?_⟩
       simp[codeAmong] at z
      ·rw[List.getElem?_eq_none (by simp;omega)] at e
       cases e
 ·rw[hok]
  intro v σ' G' H' w' _ _ rt
  have:v=.bl true:=zdz (K:=K) (G:=G') rt
  subst this
  exact hQ H'
end PV
end
section
end
section
namespace PV
open PySem PySem.Spec L2 PyProof.Rows
def ziD(i:Nat)(fb:De)(F:FD):De:=fun ρ=>match ρ[i]? with
 |some (some (.own _))=>(fb ρ).bind fun b=>match b.2[i]? with
  |some (some (.own l))=>match F [.val (.lst l),.val b.1] with
   |.ok (.bl c,_)=>.ok (.bl c,b.2)
   |_=>.no
  |_=>.no
 |_=>.no
section
variable{X:Cx}{C:Cn}{CX:CXT}{k k':Nat}{ks:List Bool}{Fd:FD}{x a:Str}{eb:Expr}{fb:De}{p pos pa:Pos}
theorem zpE(i:Nat)(D:Dfn false X.prog X.w X.K X.mg X.base CX C.xv k x ks Fd)(hr:zdC k' X.A)(hk:k<=k')(hx:zco CX X (EXc C))(hb:JE X C eb fb)(hN:X.N[i]? = some a:=by rfl)
  (hv:Vis X.env.scope a:=by first|exact Or.inl rfl|exact Or.inr (Or.inl rfl)|exact Or.inr (Or.inr rfl))
  (d1:(a == ("__debug__" : Str))=false:=by decide) (d2:(a == ("__classdict__" : Str))=false:=by decide)
  (hg:Gl X x:=by rfl) (hdb:(x == ("__debug__" : Str))=false:=by decide) (he:starEach [.Name a pa,eb] X.env=(false,eval (.Name a pa) X.env)::starEach [eb] X.env:=by rfl) (he2:starEach [eb] X.env=(false,eval eb X.env)::starEach [] X.env:=by rfl)
  (hpl:(backTo pos (starEach [eb] X.env)).any (·.1)=false:=by rfl):JE X C (.Call (.Name x p) [.Name a pa,eb] [] pos) (ziD i fb Fd):=by
 obtain ⟨f,fd,ps,h1,h2,h3,h4,h5⟩:=D.ex
 refine PE.weak (zjz h1 (hr.mono hk) hg h2 h3 h4 .nil hx (zbe (zce (i:=i) hN hv d1 d2) (zbe hb zcr he2) he) hdb he hpl) fun σ H Q ⟨G,w,ρ,r,q⟩=>?_
 unfold ziD at q
 split at q
 case h_2=>exact q.elim
 rename_i l0 ei0
 obtain ⟨al,vs0,e1,_,_,_⟩:=zc8 r ei0
 refine ⟨.ref al,e1,?_⟩
 refine zer (κ:=fun G H w=>kE X.K C σ Q G H w) zch r q fun d ρ1 v G1 H1 w1 r1 s1 q1 p1=>?_
 dsimp only at p1
 split at p1
 case h_2=>exact p1.elim
 rename_i l ei
 obtain ⟨al',vs,e1',e2,e3,e4⟩:=zc8 r1 ei
 rw[e1] at e1'
 cases e1'
 have hgl:G1 al=none:=r1.wg al (by rw[e2];simp)
 have sg:zcb G1 (upd G1 al (.lst vs)):=fun b u e=>by rw[zai (zah e hgl)];exact e
 split at p1
 case h_2=>exact p1.elim
 rename_i bb bs' eF
 have hks:zbH [.val (.lst l),.val d]=ks:=h5 _ (by rw[eF];exact fun z=>by cases z)
 refine ⟨upd G1 al (.lst vs),fun _=>none,[.val (.lst l),.val d],by rw[<- hks];rfl,hks,⟨fun b u e=>?_,fun b e=>absurd rfl e,fun b e=>absurd rfl e,rfl,fun jj bz vz g1 g2=>?_⟩,?_⟩
 ·by_cases hb:b=al
  ·subst hb;rw[zan] at e;cases e;exact e3
  ·rw[zai hb] at e;exact r1.gh b u e
 ·match jj with
  |0 =>
   cases g1;cases g2
   show Rep X.K _ (.lst l) (.ref al)
   unfold Rep
   exact ⟨al,vs,rfl,zan,e4.same sg⟩
  |1 =>
   cases g1;cases g2
   exact Rep.same sg q1
  |n+2=>simp at g1
 ·rw[eF]
  intro v' G' H' w' s' pb rt
  have ev:v'=.bl bb:=zdz (K:=X.K) (G:=G') rt
  subst ev
  have st:zbJ G1 H1 w1 G1 H' w1:=⟨.refl _,fun b u e=>.inl (by rw[e];simp),fun b u e _=>s'.h b u e rfl,fun _ e=>.inl e,s'.k⟩
  refine p1 _ G1 H' w1 st ⟨fun b u e=>s'.h b u (r1.gh b u e) rfl,r1.wg,fun b e z=>r1.wh b e (s'.k b z),r1.len,fun i' b' e=>?_,r1.en.trans st,r1.pin⟩ (by unfold Rep;rfl)
  obtain ⟨v2,g1,g2⟩:=r1.sl i' b' e
  exact ⟨v2,g1,g2.grow (.refl _) fun a' o q1 q2=>⟨s'.h a' o q2 rfl,q1⟩⟩
end
def zu1(ta:TA):TE:=fun σ H Q=>ta σ H fun vs H1=>∃ i j:Int,vs=[.int i,.int j]/\∀ p,H1 p=none->Q (.ref p) (upd H1 p (.rng i j))
def okR(i j:Int):Bool:=decide (-1000000<=i) && decide (i<=j) && decide (j<=1000000)
theorem zqV{i j:Int}(h:okR i j=true):-1000000<=i/\i<=j/\j<=1000000:=by
 unfold okR at h
 simp only[Bool.and_eq_true,decide_eq_true_eq] at h
 exact ⟨h.1.1,h.1.2,h.2⟩
def zh4(fa fb:De):DN:=fun ρ=>(dA fa (dA fb dA0) ρ).bind fun a=>match a.1 with
 |[.int i,.int j]=>if okR i j=true then .ok (zaI i (j-i).toNat,a.2) else .no
 |_=>.no
def zhc(fa fb:De):De:=fun ρ=>(dA fa (dA fb dA0) ρ).bind fun a=>match a.1 with
 |[.int i,.int j]=>if okR i j=true then .ok (.tup (zaI i (j-i).toNat),a.2) else .no
 |_=>.no
section
variable{X:Cx}{C:Cn}{e e':Expr}{fa fb:De}{pos:Pos}
theorem zot{p:Pos}{ta:TA}(hg:Gl X "range")(hm:X.mg "range"=none)(ha:PA X [e,e'] ta)(hs:starEach [e,e'] X.env=[(false,eval e X.env),(false,eval e' X.env)]:=by rfl)(hs2:starEach [e'] X.env=[(false,eval e' X.env)]:=by rfl):PE X (.Call (.Name "range" p) [e,e'] [] pos) (zu1 ta):=by
 intro pins s σ H Q I h
 refine PyProof.Rows.Call_ (zfj I hg hm PyProof.Rows.boot_range (PyProof.Rows.callWith_type1 (thn (ha pos pins s σ H _ I h) fun us s1 ⟨vs,H1,I1,r1,q1⟩=>?_) (by rw[hs,hs2]) (by rw[hs2];rfl)))
 obtain ⟨i,j,e1,q⟩:=q1
 subst e1
 cases r1 with
 |cons r rr =>
  cases rr with
  |cons r' rr =>
   cases rr
   obtain ⟨t,rfl⟩:=r
   obtain ⟨t',rfl⟩:=r'
   exact call_range_2 ⟨.ref s1.heap.objs.size,_,I1.laid (o:=.rng i j) (fun b u e=>Heap.get?_push_of_some _ e) (Nat.le_refl _) ⟨_,_,_,Heap.get?_push_size _ rfl⟩,rfl,q _ (I1.hok.fresh (Nat.le_refl _))⟩
theorem zhW(hc:X.calm=true):zcz X (.type "list") (fun xs H Q=>∃(p:Addr)(i j:Int),xs=[.ref p]/\H p=some (.rng i j)/\okR i j=true/\∀ l,H l=none->Q (.ref l) (upd H l (.lst ((List.range (j-i).toNat).map fun k=>V.int (i+(k:Nat)))))):=by
 intro pins s σ H xs us Q I r h
 obtain ⟨p,i,j,rfl,hp,hj,q⟩:=h
 obtain ⟨j0,j1,j2⟩:=zqV hj
 obtain ⟨u,rfl,ru⟩:=zfd r
 cases ru
 obtain ⟨t,u,v,e⟩:=(show zct X.prog X.w H s.heap p (.rng i j) from I.hok p _ hp)
 refine call_list_range (n:=(j-i).toNat) (I.ok.hd hc) e (small_one (by omega) (by omega) (by omega) (by omega)) (by rw[rangeSize_one];split <;> omega) (by omega) fun h' tk acc' c' hk hS hacc=>?_
 refine ⟨.ref s.heap.objs.size,_,I.laid (t':=tk) hk (Nat.le_refl _) (o:=.lst ((List.range (j-i).toNat).map fun k=>V.int (i+(k:Nat)))) ⟨?_,acc'.toList,c',?_,by simpa using hS⟩,rfl,q _ (I.hok.fresh (Nat.le_refl _))⟩
 ·rw[List.length_map,List.length_range,zcq];omega
 ·refine zeU (j-i).toNat acc'.toList (by rw[Array.length_toList];exact hacc.1) fun k v' ev=>?_
  obtain ⟨t',ht'⟩:=hacc.2 k v' (by simpa using ev)
  exact ⟨t',by rw[ht',Int.mul_one]⟩
theorem zhv(hc:X.calm=true):zcz X (.type "tuple") (fun xs H Q=>∃(p:Addr)(i j:Int),xs=[.ref p]/\H p=some (.rng i j)/\okR i j=true/\∀ l,H l=none->Q (.ref l) (upd H l (.tup ((List.range (j-i).toNat).map fun k=>V.int (i+(k:Nat)))))):=by
 intro pins s σ H xs us Q I r h
 obtain ⟨p,i,j,rfl,hp,hj,q⟩:=h
 obtain ⟨j0,j1,j2⟩:=zqV hj
 obtain ⟨u,rfl,ru⟩:=zfd r
 cases ru
 obtain ⟨t,u,v,e⟩:=(show zct X.prog X.w H s.heap p (.rng i j) from I.hok p _ hp)
 refine zh1 (n:=(j-i).toNat) (I.ok.hd hc) e (small_one (by omega) (by omega) (by omega) (by omega)) (by rw[rangeSize_one];split <;> omega) (by omega) fun h' tk acc' hle hk hacc=>?_
 refine ⟨.ref h'.objs.size,_,I.laid (t':=tk) (fun b o q=>Heap.get?_push_of_some _ (hk b o q)) hle (o:=.tup ((List.range (j-i).toNat).map fun k=>V.int (i+(k:Nat)))) ⟨?_,acc'.toList,?_,0,by simpa using Heap.get?_push_size (o:={ cls:=.type "tuple",data:=.seq acc' }) h' rfl⟩,rfl,q _ (I.hok.fresh hle)⟩
 ·rw[List.length_map,List.length_range,zcq];omega
 ·refine zeU (j-i).toNat acc'.toList (by rw[Array.length_toList];exact hacc.1) fun k v' ev=>?_
  obtain ⟨t',ht'⟩:=hacc.2 k v' (by simpa using ev)
  exact ⟨t',by rw[ht',Int.mul_one]⟩
theorem zoF{p1 p2 pos2:Pos}(hc:X.calm=true)(hg:Gl X "list")(hm:X.mg "list"=none)(hg2:Gl X "range")(hm2:X.mg "range"=none)(ha:JE X C e fa)(hb:JE X C e' fb)(hs:starEach [e,e'] X.env=[(false,eval e X.env),(false,eval e' X.env)]:=by rfl)(hs1:starEach [e'] X.env=[(false,eval e' X.env)]:=by rfl)
  (hs2:starEach [.Call (.Name "range" p2) [e,e'] [] pos2] X.env=(false,eval (.Call (.Name "range" p2) [e,e'] [] pos2) X.env)::starEach [] X.env:=by rfl) (hpl:(backTo pos (starEach [] X.env)).any (·.1)=false:=by rfl) :
  JN X C (.Call (.Name "list" p1) [.Call (.Name "range" p2) [e,e'] [] pos2] [] pos) (zh4 fa fb) :=
 PE.weak (ze4 (zhW hc) hg hm PyProof.Rows.boot_list (zbe (zot hg2 hm2 (zao ha (zao hb za4 (by rw[hs1];rfl)) (by rw[hs,hs1])) hs hs1) zcr hs2) (by decide) (by decide) hs2 hpl) fun σ H Q ⟨G,w,ρ,r,p⟩=>by
  unfold zh4 at p
  refine zs4 (κ:=fun G H w=>kN X.K C σ Q G H w) zeF r p fun ds ρ1 vs G1 H1 w1 r1 s1 q1 p1=>?_
  dsimp only at p1
  split at p1
  ·rename_i i j
   obtain ⟨v,t,rfl,qa,qb⟩:=q1.cons_inv
   obtain ⟨v2,t2,rfl,qc,qd⟩:=qb.cons_inv
   rw[qd.nil_inv]
   by_cases hj:okR i j=true
   ·rw[if_pos hj] at p1
    refine ⟨i,j,by rw[za5 qa,za5 qc],fun p hp=>?_⟩
    refine ⟨p,i,j,rfl,zan,hj,fun l hl=>?_⟩
    have gr:zec G1 H1 G1 (upd H1 p (.rng i j)):=.newH r1.gh hp
    have r2:=r1.grow gr
    have gr2:zec G1 (upd H1 p (.rng i j)) G1 (upd (upd H1 p (.rng i j)) l (.lst ((List.range (j-i).toNat).map fun k=>V.int (i+(k:Nat))))):=.newH r2.gh hl
    have hl1:H1 l=none:=gr.h.free hl
    exact p1 l _ G1 _ w1 (gr.step.trans gr2.step) (r2.grow gr2) hl1 zan (r1.gh.free hl1) (zcS r1 hl1) (zeV _)
   ·rw[if_neg hj] at p1;exact p1.elim
  ·exact p1.elim
theorem zo2{p1 p2 pos2:Pos}(hc:X.calm=true)(hg:Gl X "tuple")(hm:X.mg "tuple"=none)(hg2:Gl X "range")(hm2:X.mg "range"=none)(ha:JE X C e fa)(hb:JE X C e' fb)(hs:starEach [e,e'] X.env=[(false,eval e X.env),(false,eval e' X.env)]:=by rfl)(hs1:starEach [e'] X.env=[(false,eval e' X.env)]:=by rfl)
  (hs2:starEach [.Call (.Name "range" p2) [e,e'] [] pos2] X.env=(false,eval (.Call (.Name "range" p2) [e,e'] [] pos2) X.env)::starEach [] X.env:=by rfl) (hpl:(backTo pos (starEach [] X.env)).any (·.1)=false:=by rfl) :
  JE X C (.Call (.Name "tuple" p1) [.Call (.Name "range" p2) [e,e'] [] pos2] [] pos) (zhc fa fb) :=
 PE.weak (ze4 (zhv hc) hg hm PyProof.Rows.boot_tuple (zbe (zot hg2 hm2 (zao ha (zao hb za4 (by rw[hs1];rfl)) (by rw[hs,hs1])) hs hs1) zcr hs2) (by decide) (by decide) hs2 hpl) fun σ H Q ⟨G,w,ρ,r,p⟩=>by
  unfold zhc at p
  refine zs4 (κ:=fun G H w=>kE X.K C σ Q G H w) zch r p fun ds ρ1 vs G1 H1 w1 r1 s1 q1 p1=>?_
  dsimp only at p1
  split at p1
  ·rename_i i j
   obtain ⟨v,t,rfl,qa,qb⟩:=q1.cons_inv
   obtain ⟨v2,t2,rfl,qc,qd⟩:=qb.cons_inv
   rw[qd.nil_inv]
   by_cases hj:okR i j=true
   ·rw[if_pos hj] at p1
    refine ⟨i,j,by rw[za5 qa,za5 qc],fun p hp=>?_⟩
    refine ⟨p,i,j,rfl,zan,hj,fun l hl=>?_⟩
    have gr:zec G1 H1 G1 (upd H1 p (.rng i j)):=.newH r1.gh hp
    have r2:=r1.grow gr
    have gr2:zec G1 (upd H1 p (.rng i j)) (upd G1 l (.tup ((List.range (j-i).toNat).map fun k=>V.int (i+(k:Nat))))) (upd (upd H1 p (.rng i j)) l (.tup ((List.range (j-i).toNat).map fun k=>V.int (i+(k:Nat))))):=.new r2.gh hl
    exact p1 _ _ _ w1 (gr.step.trans gr2.step) (r2.grow gr2) (by unfold Rep;exact ⟨l,_,rfl,zjU.of zan,zeV _⟩)
   ·rw[if_neg hj] at p1;exact p1.elim
  ·exact p1.elim
end
end PV
end
section
namespace Lw
open PySem PySem.Spec L2 PV
def top(i:Nat):Stmt:=PySem.Challenge.pw_standtogether_k61_benches_put_in.main.body.getD i (.Pass ⟨0,0,0,0⟩)
def xvC(cls:Nat->Addr):Nat->Value:=fun n=>.ref (cls n)
abbrev zfb:Str:=((Str.ofString "_law_refusals_right")++".<locals>.")++"<lambda>"
abbrev ze8:Str:=((Str.ofString "law")++".<locals>.")++"<lambda>"
abbrev Uf(K:W.Frag)(mg:Str->Option Value)(x:String)(i:Nat):Prop:=∃ f fd,Fun K (Str.ofString x) (Str.ofString x) (top i) f fd/\mg (Str.ofString x)=some (.ref f)
structure Tx(K:W.Frag)(mg:Str->Option Value)(cls:Nat->Addr):Prop where
 xc:∀ n,n<8->Xin K (cls n)
 xm0:mg (Str.ofString "NoGuests")=some (.ref (cls 0))
 xm1:mg (Str.ofString "NoParties")=some (.ref (cls 1))
 xm2:mg (Str.ofString "NoNumber")=some (.ref (cls 2))
 xm3:mg (Str.ofString "NoText")=some (.ref (cls 3))
 xm4:mg (Str.ofString "NoLine")=some (.ref (cls 4))
 xm5:mg (Str.ofString "NoDeed")=some (.ref (cls 5))
 xm6:mg (Str.ofString "NoWeb")=some (.ref (cls 6))
 xm7:mg (Str.ofString "NoOrder")=some (.ref (cls 7))
 xS:∃ Cs,Xin K Cs/\mg (Str.ofString "SeatError")=some (.ref Cs)/\∀ n,n<8->W.subIn K (.ref (cls n)) (.ref Cs)=some true
 xi:∀ n k,n<8->k<8->W.kitOne K (.ref (cls n)) (.ref (cls k))=some (n == k)
 xV:∀ n,n<8->W.kitOne K (.ref (cls n)) (.type "ValueError")=some true
 u_is_whole:Uf K mg "is_whole" 13
 u_check_guests:Uf K mg "check_guests" 14
 u_is_guest:Uf K mg "is_guest" 16
 u_are_guests:Uf K mg "are_guests" 17
 u_rises:Uf K mg "rises" 18
 u_is_party:Uf K mg "is_party" 19
 u_is_parties:Uf K mg "is_parties" 20
 u_check_parties:Uf K mg "check_parties" 15
 u_is_leaf:Uf K mg "is_leaf" 22
 u_row_as_written:Uf K mg "row_as_written" 23
 u_guests_in:Uf K mg "guests_in" 24
 u_least_guest:Uf K mg "least_guest" 25
 u_put_least:Uf K mg "put_least" 26
 u_named:Uf K mg "named" 28
 u_with_steads:Uf K mg "with_steads" 29
 u_check_bench:Uf K mg "check_bench" 30
 u_moved:Uf K mg "moved" 31
 u_party_put_in:Uf K mg "party_put_in" 32
 u_put_in:Uf K mg "put_in" 33
 u_tree_put_in:Uf K mg "tree_put_in" 34
 u__law_led:Uf K mg "_law_led" 36
 u__law_leaves:Uf K mg "_law_leaves" 37
 u__law_least:Uf K mg "_law_least" 38
 u__law_cell_at:Uf K mg "_law_cell_at" 41
 u__law_state:Uf K mg "_law_state" 42
 u__law_take:Uf K mg "_law_take" 39
 u__law_refused:Uf K mg "_law_refused" 40
 u__law_order:Uf K mg "_law_order" 43
 u__law_parties:Uf K mg "_law_parties" 44
 u__law_tree:Uf K mg "_law_tree" 45
 u__law_same:Uf K mg "_law_same" 46
 u__law_due:Uf K mg "_law_due" 47
 u__law_tree_due:Uf K mg "_law_tree_due" 48
 u__law_refusals_right:Uf K mg "_law_refusals_right" 49
 u_law:Uf K mg "law" 50
 b_ValueError:mg (Str.ofString "ValueError")=none
 b_all:mg (Str.ofString "all")=none
 b_bool:mg (Str.ofString "bool")=none
 b_int:mg (Str.ofString "int")=none
 b_isinstance:mg (Str.ofString "isinstance")=none
 b_len:mg (Str.ofString "len")=none
 b_list:mg (Str.ofString "list")=none
 b_max:mg (Str.ofString "max")=none
 b_min:mg (Str.ofString "min")=none
 b_range:mg (Str.ofString "range")=none
 b_reversed:mg (Str.ofString "reversed")=none
 b_sorted:mg (Str.ofString "sorted")=none
 b_tuple:mg (Str.ofString "tuple")=none
 b_zip:mg (Str.ofString "zip")=none
 g_MOST_GUESTS:∃ t,mg (Str.ofString "MOST_GUESTS")=some (.int 7 t)
 g_MOST_PARTIES:∃ t,mg (Str.ofString "MOST_PARTIES")=some (.int 8 t)
section
variable{P:Program}{w:World}{K:W.Frag}{mg:Str->Option Value}{base:Heap}{xv:Nat->Value}{cls:Nat->Addr}
abbrev znq:List Str:=["thing"]
abbrev zgn:List Str:=["thing"]
theorem zlb:zaz znq zgn (zak (top 13)):=⟨rfl,rfl,rfl,by decide +kernel,rfl,by decide +kernel,by decide +kernel⟩
def ziG:DS:=(zb2 (zkS (zes "int" (zab 0)) (zuJ (zes "bool" (zab 0)))))
def zcd:FD:=zat false [false] 0 ziG
theorem zir(T:Tx K mg cls):Dfn false P w K mg base (CXe P w) (xvC cls) 3 (Str.ofString "is_whole") [false] zcd:=by
  obtain ⟨f,fd,U,hm⟩:=T.u_is_whole
  refine ⟨f,fd,zgn,?_,hm,U.kp,U.binds (ps:=zgn) fun _ _ _ _ _ _ us hl=>match us,hl with|[_],_=>rfl,zav⟩
  refine zaH (k:=2) false zaE U zlb rfl rfl fun X C hX hpp hxv hnw hr hx hpo=>?_
  obtain ⟨cG,cH,cw,cpp,cσ,cex,cxv,cnw⟩:=C
  dsimp only at hpp hxv hnw
  subst hpp hxv hnw
  have hnw:(false:Bool)=false:=rfl
  obtain ⟨cdv,A,outer,s,H,E,rfl⟩:=hX
  exact (zaj (by exact (zaC hnw (zis (zdf zr5 rfl T.b_isinstance zcU rfl T.b_int zuh (zaa 0)) (zi7 (zrq (zdf ziQ rfl T.b_isinstance zcU rfl T.b_bool zlf (zaa 0))))))))
abbrev zid:List Str:=["n"]
abbrev zdu:List Str:=["n"]
theorem zhI:zaz zid zdu (zak (top 14)):=⟨rfl,rfl,rfl,by decide +kernel,rfl,by decide +kernel,by decide +kernel⟩
def zbV:DS:=(dIf (zn5 (zbL (dTB (zad zcd (dR (zab 0) dR0)))) (zn5 (dTB (dOp gLt (zab 0) (dC (.int 1)))) (dTB (dOp gGt (zab 0) (dC (.int 7)))))) (zei 0 (dA (dC (.str (Str.ofString "the guests are no whole number from 1 to 7"))) dA0)) dNx)
def zaq:FD:=zat false [false] 0 zbV
theorem zbG(T:Tx K mg cls):Dfn false P w K mg base (CXe P w) (xvC cls) 6 (Str.ofString "check_guests") [false] zaq:=by
  obtain ⟨f,fd,U,hm⟩:=T.u_check_guests
  refine ⟨f,fd,zdu,?_,hm,U.kp,U.binds (ps:=zdu) fun _ _ _ _ _ _ us hl=>match us,hl with|[_],_=>rfl,zav⟩
  refine zaH (k:=5) false zaE U zhI rfl rfl fun X C hX hpp hxv hnw hr hx hpo=>?_
  obtain ⟨cG,cH,cw,cpp,cσ,cex,cxv,cnw⟩:=C
  dsimp only at hpp hxv hnw
  subst hpp hxv hnw
  have hnw:(false:Bool)=false:=rfl
  obtain ⟨cdv,A,outer,s,H,E,rfl⟩:=hX
  exact (zaj (by exact (zbI (JW.jt (zqJ (zeu (zcD (za8 (zir T) hr (by omega) hx (zac (zaa 0) zap)))) (zqJ (znd (zaa 0) zal) (zoY (zjm (zaa 0) (zjw rfl T.g_MOST_GUESTS.choose_spec)))))) (zaj (by exact (zfX hx rfl (T.xc 0 (by decide)).cls T.xm0 rfl (zao zeJ za4)))) zaG)))
abbrev zmK:List Str:=["n","thing"]
abbrev zgp:List Str:=["n","thing"]
theorem zlD:zaz zmK zgp (zak (top 16)):=⟨rfl,rfl,rfl,by decide +kernel,rfl,by decide +kernel,by decide +kernel⟩
def zfc:DS:=(zb2 (zkS (zad zcd (dR (zab 1) dR0)) (zkL gLe gLt (dC (.int 0)) (zab 1) (zab 0))))
def zb0:FD:=zat false [false,false] 0 zfc
theorem ziw(T:Tx K mg cls):Dfn false P w K mg base (CXe P w) (xvC cls) 6 (Str.ofString "is_guest") [false,false] zb0:=by
  obtain ⟨f,fd,U,hm⟩:=T.u_is_guest
  refine ⟨f,fd,zgp,?_,hm,U.kp,U.binds (ps:=zgp) fun _ _ _ _ _ _ us hl=>match us,hl with|[_,_],_=>rfl,zav⟩
  refine zaH (k:=5) false zaE U zlD rfl rfl fun X C hX hpp hxv hnw hr hx hpo=>?_
  obtain ⟨cG,cH,cw,cpp,cσ,cex,cxv,cnw⟩:=C
  dsimp only at hpp hxv hnw
  subst hpp hxv hnw
  have hnw:(false:Bool)=false:=rfl
  obtain ⟨cdv,A,outer,s,H,E,rfl⟩:=hX
  exact (zaj (by exact (zaC hnw (zis (za8 (zir T) hr (by omega) hx (zac (zaa 1) zap)) (zi7 (zpS zv0 zfr zeb zsn zfr zeb zal (zaa 1) (zaa 0)))))))
abbrev zkI:List Str:=["n","thing"]
abbrev zew:List Str:=["n","thing"]
theorem zjt:zaz zkI zew (zak (top 17)):=⟨rfl,rfl,rfl,by decide +kernel,rfl,by decide +kernel,by decide +kernel⟩
abbrev zd9:List Str:=["n","thing","part"]
theorem zht:zd9.Nodup:=by decide +kernel
def zdk:DS:=(zb2 (zkS (zes "tuple" (zab 1)) (dFn zn2 (dA (dFz (za3 (dIt (zab 1)) (zaM 2) dTT (zad zb0 (dR (zab 0) (dR (zab 2) dR0))) 1)) dA0))))
def zcC:FD:=zat false [false,false] 0 zdk
theorem zkv(T:Tx K mg cls):Dfn false P w K mg base (CXe P w) (xvC cls) 9 (Str.ofString "are_guests") [false,false] zcC:=by
  obtain ⟨f,fd,U,hm⟩:=T.u_are_guests
  refine ⟨f,fd,zew,?_,hm,U.kp,U.binds (ps:=zew) fun _ _ _ _ _ _ us hl=>match us,hl with|[_,_],_=>rfl,zav⟩
  refine zaH (k:=8) false zaE U zjt rfl rfl fun X C hX hpp hxv hnw hr hx hpo=>?_
  obtain ⟨cG,cH,cw,cpp,cσ,cex,cxv,cnw⟩:=C
  dsimp only at hpp hxv hnw
  subst hpp hxv hnw
  have hnw:(false:Bool)=false:=rfl
  obtain ⟨cdv,A,outer,s,H,E,rfl⟩:=hX
  exact (zaj (by exact (zaC hnw (zis (zdf zcE rfl T.b_isinstance zcU rfl T.b_tuple zcN (zaa 1)) (zi7 (zqd rfl T.b_all (zaw (zcg (zcF (zaa 1)) rfl (N':=zd9) (m:=1) (by kernel_rfl) rfl (za9 (by kernel_rfl)) (zaD (by kernel_rfl)) (zbl (by kernel_rfl)) (fun cl L s H fp G H' w σ=>⟨(zaO (i:=2) zht rfl (by first|exact Or.inl rfl|exact Or.inr rfl) (show 2∉List.range 2 by decide)),zbK,(za8 (ziw T) hr (by omega) (zlL fun _ z=>z) (zac (zaa 0) (zac (zaa 2) zap)))⟩)))))))))
abbrev zsY:List Str:=["numbers"]
abbrev zkU:List Str:=["numbers"]
theorem zpH:zaz zsY zkU (zak (top 18)):=⟨rfl,rfl,rfl,by decide +kernel,rfl,by decide +kernel,by decide +kernel⟩
abbrev zg6:List Str:=["numbers","k"]
theorem zn6:zg6.Nodup:=by decide +kernel
def zlc:DS:=(zb2 (dFn zn2 (dA (dFz (za3 (zbq (dOp zdc (dFn zbN (dA (zab 0) dA0)) (dC (.int 1)))) (zaM 1) dTT (dOp gLt (dOp gIx (zab 0) (zab 1)) (dOp gIx (zab 0) (dOp zaA (zab 1) (dC (.int 1))))) 1)) dA0)))
def zlg:FD:=zat false [false] 0 zlc
theorem zsP(T:Tx K mg cls):Dfn false P w K mg base (CXe P w) (xvC cls) 3 (Str.ofString "rises") [false] zlg:=by
  obtain ⟨f,fd,U,hm⟩:=T.u_rises
  refine ⟨f,fd,zkU,?_,hm,U.kp,U.binds (ps:=zkU) fun _ _ _ _ _ _ us hl=>match us,hl with|[_],_=>rfl,zav⟩
  refine zaH (k:=2) false zaE U zpH rfl rfl fun X C hX hpp hxv hnw hr hx hpo=>?_
  obtain ⟨cG,cH,cw,cpp,cσ,cex,cxv,cnw⟩:=C
  dsimp only at hpp hxv hnw
  subst hpp hxv hnw
  have hnw:(false:Bool)=false:=rfl
  obtain ⟨cdv,A,outer,s,H,E,rfl⟩:=hX
  exact (zaj (by exact (zaC hnw (zqd rfl T.b_all (zaw (zcg (zbD rfl T.b_range (zel (zfg T.b_len (zaa 0)) zal)) rfl (N':=zg6) (m:=1) (by kernel_rfl) rfl (za9 (by kernel_rfl)) (zaD (by kernel_rfl)) (zbl (by kernel_rfl)) (fun cl L s H fp G H' w σ=>⟨(zaO (i:=1) zn6 rfl (by first|exact Or.inl rfl|exact Or.inr rfl) (show 1∉List.range 1 by decide)),zbK,(zvo (zcm (zaa 0) (zaa 1)) (zcm (zaa 0) (zbj (zaa 1) zal)))⟩)))))))
abbrev zny:List Str:=["n","thing"]
abbrev zgg:List Str:=["n","thing"]
theorem zlm:zaz zny zgg (zak (top 19)):=⟨rfl,rfl,rfl,by decide +kernel,rfl,by decide +kernel,by decide +kernel⟩
def zgk:DS:=(za2 (dEx (zad zaq (dR (zab 0) dR0))) (zb2 (zkS (zad zcC (dR (zab 0) (dR (zab 1) dR0))) (zkS (dOp gGt (dFn zbN (dA (zab 1) dA0)) (dC (.int 0))) (zad zlg (dR (zab 1) dR0))))))
def zeZ:FD:=zat false [false,false] 0 zgk
theorem znm(T:Tx K mg cls):Dfn false P w K mg base (CXe P w) (xvC cls) 12 (Str.ofString "is_party") [false,false] zeZ:=by
  obtain ⟨f,fd,U,hm⟩:=T.u_is_party
  refine ⟨f,fd,zgg,?_,hm,U.kp,U.binds (ps:=zgg) fun _ _ _ _ _ _ us hl=>match us,hl with|[_,_],_=>rfl,zav⟩
  refine zaH (k:=11) false zaE U zlm rfl rfl fun X C hX hpp hxv hnw hr hx hpo=>?_
  obtain ⟨cG,cH,cw,cpp,cσ,cex,cxv,cnw⟩:=C
  dsimp only at hpp hxv hnw
  subst hpp hxv hnw
  have hnw:(false:Bool)=false:=rfl
  obtain ⟨cdv,A,outer,s,H,E,rfl⟩:=hX
  exact (zaf (by exact (zb6 (za8 (zbG T) hr (by omega) hx (zac (zaa 0) zap)))) (zaj (by exact (zaC hnw (zis (za8 (zkv T) hr (by omega) hx (zac (zaa 0) (zac (zaa 1) zap))) (zis (zsg (zfg T.b_len (zaa 1)) zal) (zi7 (za8 (zsP T) hr (by omega) hx (zac (zaa 1) zap)))))))))
abbrev zjX:List Str:=["n","thing"]
abbrev ze5:List Str:=["n","thing"]
theorem ziZ:zaz zjX ze5 (zak (top 20)):=⟨rfl,rfl,rfl,by decide +kernel,rfl,by decide +kernel,by decide +kernel⟩
abbrev zd0:List Str:=["n","thing","part"]
theorem zhb:zd0.Nodup:=by decide +kernel
def ze0:DS:=(za2 (dEx (zad zaq (dR (zab 0) dR0))) (za2 (dIf (zn5 (zbL (dTB (zes "list" (zab 1)))) (dTB (dOp gGt (dFn zbN (dA (zab 1) dA0)) (dC (.int 8))))) (zb2 (dC (.bl false))) dNx) (zb2 (dFn zn2 (dA (dFz (za3 (dIt (zab 1)) (zaM 2) dTT (zad zeZ (dR (zab 0) (dR (zab 2) dR0))) 1)) dA0)))))
def zc9:FD:=zat false [false,false] 0 ze0
theorem zjM(T:Tx K mg cls):Dfn false P w K mg base (CXe P w) (xvC cls) 15 (Str.ofString "is_parties") [false,false] zc9:=by
  obtain ⟨f,fd,U,hm⟩:=T.u_is_parties
  refine ⟨f,fd,ze5,?_,hm,U.kp,U.binds (ps:=ze5) fun _ _ _ _ _ _ us hl=>match us,hl with|[_,_],_=>rfl,zav⟩
  refine zaH (k:=14) false zaE U ziZ rfl rfl fun X C hX hpp hxv hnw hr hx hpo=>?_
  obtain ⟨cG,cH,cw,cpp,cσ,cex,cxv,cnw⟩:=C
  dsimp only at hpp hxv hnw
  subst hpp hxv hnw
  have hnw:(false:Bool)=false:=rfl
  obtain ⟨cdv,A,outer,s,H,E,rfl⟩:=hX
  exact (zaf (by exact (zb6 (za8 (zbG T) hr (by omega) hx (zac (zaa 0) zap)))) (zaf (by exact (zbI (JW.jt (zqJ (zeu (zcD (zdf zgN rfl T.b_isinstance zcU rfl T.b_list zh3 (zaa 1)))) (zoY (zjm (zfg T.b_len (zaa 1)) (zjw rfl T.g_MOST_PARTIES.choose_spec))))) (zaj (by exact (zaC hnw zft))) zaG)) (zaj (by exact (zaC hnw (zqd rfl T.b_all (zaw (zcg (zcF (zaa 1)) rfl (N':=zd0) (m:=1) (by kernel_rfl) rfl (za9 (by kernel_rfl)) (zaD (by kernel_rfl)) (zbl (by kernel_rfl)) (fun cl L s H fp G H' w σ=>⟨(zaO (i:=2) zhb rfl (by first|exact Or.inl rfl|exact Or.inr rfl) (show 2∉List.range 2 by decide)),zbK,(za8 (znm T) hr (by omega) (zlL fun _ z=>z) (zac (zaa 0) (zac (zaa 2) zap)))⟩)))))))))
abbrev zhB:List Str:=["n","thing"]
abbrev zcZ:List Str:=["n","thing"]
theorem zgH:zaz zhB zcZ (zak (top 15)):=⟨rfl,rfl,rfl,by decide +kernel,rfl,by decide +kernel,by decide +kernel⟩
def zbR:DS:=(dIf (zbL (dTB (zad zc9 (dR (zab 0) (dR (zab 1) dR0))))) (zei 1 (dA (dC (.str (Str.ofString "these are no parties of so many guests"))) dA0)) dNx)
def zaR:FD:=zat false [false,false] 0 zbR
theorem zeI(T:Tx K mg cls):Dfn false P w K mg base (CXe P w) (xvC cls) 18 (Str.ofString "check_parties") [false,false] zaR:=by
  obtain ⟨f,fd,U,hm⟩:=T.u_check_parties
  refine ⟨f,fd,zcZ,?_,hm,U.kp,U.binds (ps:=zcZ) fun _ _ _ _ _ _ us hl=>match us,hl with|[_,_],_=>rfl,zav⟩
  refine zaH (k:=17) false zaE U zgH rfl rfl fun X C hX hpp hxv hnw hr hx hpo=>?_
  obtain ⟨cG,cH,cw,cpp,cσ,cex,cxv,cnw⟩:=C
  dsimp only at hpp hxv hnw
  subst hpp hxv hnw
  have hnw:(false:Bool)=false:=rfl
  obtain ⟨cdv,A,outer,s,H,E,rfl⟩:=hX
  exact (zaj (by exact (zbI (zeu (zcD (za8 (zjM T) hr (by omega) hx (zac (zaa 0) (zac (zaa 1) zap))))) (zaj (by exact (zfX hx rfl (T.xc 1 (by decide)).cls T.xm1 rfl (zao zeJ za4)))) zaG)))
abbrev zpo:List Str:=["tree"]
abbrev zhA:List Str:=["tree"]
theorem zmS:zaz zpo zhA (zak (top 22)):=⟨rfl,rfl,rfl,by decide +kernel,rfl,by decide +kernel,by decide +kernel⟩
def znR:DS:=(zb2 (zuJ (zes "tuple" (zab 0))))
def zbW:FD:=zat false [false] 0 znR
theorem zhp(T:Tx K mg cls):Dfn false P w K mg base (CXe P w) (xvC cls) 3 (Str.ofString "is_leaf") [false] zbW:=by
  obtain ⟨f,fd,U,hm⟩:=T.u_is_leaf
  refine ⟨f,fd,zhA,?_,hm,U.kp,U.binds (ps:=zhA) fun _ _ _ _ _ _ us hl=>match us,hl with|[_],_=>rfl,zav⟩
  refine zaH (k:=2) false zaE U zmS rfl rfl fun X C hX hpp hxv hnw hr hx hpo=>?_
  obtain ⟨cG,cH,cw,cpp,cσ,cex,cxv,cnw⟩:=C
  dsimp only at hpp hxv hnw
  subst hpp hxv hnw
  have hnw:(false:Bool)=false:=rfl
  obtain ⟨cdv,A,outer,s,H,E,rfl⟩:=hX
  exact (zaj (by exact (zaC hnw (zrq (zdf zcE rfl T.b_isinstance zcU rfl T.b_tuple zcN (zaa 0))))))
abbrev zgF:List Str:=["tree","guests","branch"]
abbrev zbZ:List Str:=["tree"]
theorem zcs:zaz zgF zbZ (zak (top 23)):=⟨rfl,rfl,rfl,by decide +kernel,rfl,by decide +kernel,by decide +kernel⟩
def zcI(F_self:FD):DS:=(za2 (dIf (dTB (zad zbW (dR (zab 0) dR0))) (zb2 (dFz (zbY (dA (zab 0) dA0)))) dNx) (za2 (zb5 1 (zbY dA0)) (za2 (zga (dIt (dOp gIx (zab 0) (dC (.int 1)))) (zaM 2) (dEx (zia 1 (zad F_self (dR (zab 2) dR0))))) (zb2 (zf4 1)))))
def zaX:Nat->FD
 |0=>fun _=>.no
 |n+1=>zat false [false] 2 (zcI (zaX n))
theorem zed(T:Tx K mg cls):∀ n,Dfn false P w K mg base (CXe P w) (xvC cls) (n+5) (Str.ofString "row_as_written") [false] (zaX n)
 |0=>by
  obtain ⟨f,fd,U,hm⟩:=T.u_row_as_written
  exact zdm rfl U hm (U.binds (ps:=zbZ) fun _ _ _ _ _ _ us hl=>match us,hl with|[_],_=>rfl)
 |n+1=>by
  have DS:=zed T n
  obtain ⟨f,fd,U,hm⟩:=T.u_row_as_written
  refine ⟨f,fd,zbZ,?_,hm,U.kp,U.binds (ps:=zbZ) fun _ _ _ _ _ _ us hl=>match us,hl with|[_],_=>rfl,zav⟩
  refine zfC.mono (j:=(n+5)+1) ?_ (by omega)
  refine zaH (k:=n+5) false zaE U zcs rfl rfl fun X C hX hpp hxv hnw hr hx hpo=>?_
  obtain ⟨cG,cH,cw,cpp,cσ,cex,cxv,cnw⟩:=C
  dsimp only at hpp hxv hnw
  subst hpp hxv hnw
  have hnw:(false:Bool)=false:=rfl
  obtain ⟨cdv,A,outer,s,H,E,rfl⟩:=hX
  exact (zaf (by exact (zbI (zcD (za8 (zhp T) hr (by omega) hx (zac (zaa 0) zap))) (zaj (by exact (zaC hnw (zaw (zb1 (zao (zaa 0) za4)))))) zaG)) (zaf (by exact (zdP (i:=1) zcs.nd rfl (by first|exact Or.inl rfl|exact Or.inr rfl) (show 1∉zaP [false] by decide) (zb1 za4))) (zaf (by exact (zg3 hpo rfl (zcF (zcm (zaa 0) zal)) (zaO (i:=2) zcs.nd rfl (by first|exact Or.inl rfl|exact Or.inr rfl) (show 2∉zaP [false] by decide)) (zaj (by exact (zb6 (zow 1 (za8 DS hr (Nat.le_refl _) hx (zac (zaa 2) zap)))))))) (zaj (by exact (zaC hnw (zfD 1)))))))
abbrev zlo:List Str:=["tree"]
abbrev zfu:List Str:=["tree"]
theorem zku:zaz zlo zfu (zak (top 24)):=⟨rfl,rfl,rfl,by decide +kernel,rfl,by decide +kernel,by decide +kernel⟩
def zf3:DS:=(zb2 (dFz (zgJ zcp (dA (zad (zaX 8) (dR (zab 0) dR0)) dA0))))
def zdK:FD:=zat false [false] 0 zf3
theorem zlr(T:Tx K mg cls):Dfn false P w K mg base (CXe P w) (xvC cls) 16 (Str.ofString "guests_in") [false] zdK:=by
  obtain ⟨f,fd,U,hm⟩:=T.u_guests_in
  refine ⟨f,fd,zfu,?_,hm,U.kp,U.binds (ps:=zfu) fun _ _ _ _ _ _ us hl=>match us,hl with|[_],_=>rfl,zav⟩
  refine zaH (k:=15) false zaE U zku rfl rfl fun X C hX hpp hxv hnw hr hx hpo=>?_
  obtain ⟨cG,cH,cw,cpp,cσ,cex,cxv,cnw⟩:=C
  dsimp only at hpp hxv hnw
  subst hpp hxv hnw
  have hnw:(false:Bool)=false:=rfl
  obtain ⟨cdv,A,outer,s,H,E,rfl⟩:=hX
  exact (zaj (by exact (zaC hnw (zaw (zjG rfl T.b_sorted (za8 (zed T 8) hr (by omega) hx (zac (zaa 0) zap)))))))
abbrev zjx:List Str:=["tree"]
abbrev zdZ:List Str:=["tree"]
theorem zif:zaz zjx zdZ (zak (top 25)):=⟨rfl,rfl,rfl,by decide +kernel,rfl,by decide +kernel,by decide +kernel⟩
def zdM:DS:=(zb2 (dOp gIx (zad zdK (dR (zab 0) dR0)) (dC (.int 0))))
def za6:FD:=zat false [false] 0 zdM
theorem zdV(T:Tx K mg cls):Dfn false P w K mg base (CXe P w) (xvC cls) 19 (Str.ofString "least_guest") [false] za6:=by
  obtain ⟨f,fd,U,hm⟩:=T.u_least_guest
  refine ⟨f,fd,zdZ,?_,hm,U.kp,U.binds (ps:=zdZ) fun _ _ _ _ _ _ us hl=>match us,hl with|[_],_=>rfl,zav⟩
  refine zaH (k:=18) false zaE U zif rfl rfl fun X C hX hpp hxv hnw hr hx hpo=>?_
  obtain ⟨cG,cH,cw,cpp,cσ,cex,cxv,cnw⟩:=C
  dsimp only at hpp hxv hnw
  subst hpp hxv hnw
  have hnw:(false:Bool)=false:=rfl
  obtain ⟨cdv,A,outer,s,H,E,rfl⟩:=hX
  exact (zaj (by exact (zaC hnw (zcm (za8 (zlr T) hr (by omega) hx (zac (zaa 0) zap)) zal))))
abbrev zlB:List Str:=["tree","branches"]
abbrev zdH:List Str:=["tree"]
theorem zdl:zaz zlB zdH (zak (top 26)):=⟨rfl,rfl,rfl,by decide +kernel,rfl,by decide +kernel,by decide +kernel⟩
abbrev zej:List Str:=["tree","branches","branch"]
theorem zic:zej.Nodup:=by decide +kernel
def zfB(F_self:FD):DS:=(za2 (dIf (dTB (zad zbW (dR (zab 0) dR0))) (zb2 (zab 0)) dNx) (za2 (zbf 1 (dFz (za3 (dIt (dOp gIx (zab 0) (dC (.int 1)))) (zaM 2) dTT (zad F_self (dR (zab 2) dR0)) 1))) (za2 (dIf (dTB (dOp (gEq false) (dOp gIx (zab 0) (dC (.int 0))) (dC (.str (Str.ofString "any"))))) (zbf 1 (dFz (zkk za6 (zab 1)))) (dIf (dTB (dOp gGt (zad za6 (dR (dOp gIx (zab 1) (dC (.int 0))) dR0)) (zad za6 (dR (dOp gIx (zab 1) (znD (dC (.int 1)))) dR0)))) (zbf 1 (dFz (zkt (zab 1)))) dNx)) (zb2 (zjJ (dA (dOp gIx (zab 0) (dC (.int 0))) (dA (dFn zbi (dA (zab 1) dA0)) dA0)))))))
def zbQ:Nat->FD
 |0=>fun _=>.no
 |n+1=>zat false [false] 1 (zfB (zbQ n))
theorem zhi(T:Tx K mg cls):∀ n,Dfn false P w K mg base (CXe P w) (xvC cls) (n+21) (Str.ofString "put_least") [false] (zbQ n)
 |0=>by
  obtain ⟨f,fd,U,hm⟩:=T.u_put_least
  exact zdm rfl U hm (U.binds (ps:=zdH) fun _ _ _ _ _ _ us hl=>match us,hl with|[_],_=>rfl)
 |n+1=>by
  have DS:=zhi T n
  obtain ⟨f,fd,U,hm⟩:=T.u_put_least
  refine ⟨f,fd,zdH,?_,hm,U.kp,U.binds (ps:=zdH) fun _ _ _ _ _ _ us hl=>match us,hl with|[_],_=>rfl,zav⟩
  refine zfC.mono (j:=(n+21)+1) ?_ (by omega)
  refine zaH (k:=n+21) false zaE U zdl rfl rfl fun X C hX hpp hxv hnw hr hx hpo=>?_
  obtain ⟨cG,cH,cw,cpp,cσ,cex,cxv,cnw⟩:=C
  dsimp only at hpp hxv hnw
  subst hpp hxv hnw
  have hnw:(false:Bool)=false:=rfl
  obtain ⟨cdv,A,outer,s,H,E,rfl⟩:=hX
  exact (zaf (by exact (zbI (zcD (za8 (zhp T) hr (by omega) hx (zac (zaa 0) zap))) (zaj (by exact (zaC hnw (zaa 0)))) zaG)) (zaf (by exact (zd5 (i:=1) zdl.nd rfl (by first|exact Or.inl rfl|exact Or.inr rfl) (show 1∉zaP [false] by decide) (zcF (zcm (zaa 0) zal)) rfl (N':=zej) (m:=1) (by kernel_rfl) rfl (za9 (by kernel_rfl)) (zaD (by kernel_rfl)) (zbl (by kernel_rfl)) (fun cl L s H fp G H' w σ=>⟨(zaO (i:=2) zic rfl (by first|exact Or.inl rfl|exact Or.inr rfl) (show 2∉List.range 2 by decide)),zbK,(za8 DS hr (Nat.le_refl _) (zlL fun _ z=>z) (zac (zaa 2) zap))⟩))) (zaf (by exact (zbI (zon (ziF hr) (zcm (zaa 0) zal) zeJ) (zaj (by exact (zbt (i:=1) zdl.nd rfl (by first|exact Or.inl rfl|exact Or.inr rfl) (show 1∉zaP [false] by decide) (zaw (zqc (zdV T) hr (by omega) psF rfl T.b_sorted (zaa 1)))))) (zaj (by exact (zbI (zjm (za8 (zdV T) hr (by omega) hx (zac (zcm (zaa 1) zal) zap)) (za8 (zdV T) hr (by omega) hx (zac (zcm (zaa 1) (zmA zal)) zap))) (zaj (by exact (zbt (i:=1) zdl.nd rfl (by first|exact Or.inl rfl|exact Or.inr rfl) (show 1∉zaP [false] by decide) (zaw (zsT rfl rfl T.b_list rfl T.b_reversed (zaa 1)))))) zaG))))) (zaj (by exact (zaC hnw (zfH (zao (zcm (zaa 0) zal) (zao (zcH T.b_tuple (zaa 1)) za4)))))))))
abbrev zsp:List Str:=["guests","order"]
abbrev zli:List Str:=["guests","order"]
theorem zqr:zaz zsp zli (zak (top 28)):=⟨rfl,rfl,rfl,by decide +kernel,rfl,by decide +kernel,by decide +kernel⟩
abbrev zgA:List Str:=["guests","order","guest"]
theorem zn0:zgA.Nodup:=by decide +kernel
def zl1:DS:=(zb2 (dFn zbi (dA (dFz (za3 (dIt (zab 0)) (zaM 2) dTT (dOp gIx (zab 1) (zab 2)) 1)) dA0)))
def zfy:FD:=zat false [false,false] 0 zl1
theorem zrD(T:Tx K mg cls):Dfn false P w K mg base (CXe P w) (xvC cls) 3 (Str.ofString "named") [false,false] zfy:=by
  obtain ⟨f,fd,U,hm⟩:=T.u_named
  refine ⟨f,fd,zli,?_,hm,U.kp,U.binds (ps:=zli) fun _ _ _ _ _ _ us hl=>match us,hl with|[_,_],_=>rfl,zav⟩
  refine zaH (k:=2) false zaE U zqr rfl rfl fun X C hX hpp hxv hnw hr hx hpo=>?_
  obtain ⟨cG,cH,cw,cpp,cσ,cex,cxv,cnw⟩:=C
  dsimp only at hpp hxv hnw
  subst hpp hxv hnw
  have hnw:(false:Bool)=false:=rfl
  obtain ⟨cdv,A,outer,s,H,E,rfl⟩:=hX
  exact (zaj (by exact (zaC hnw (zcH T.b_tuple (zaw (zcg (zcF (zaa 0)) rfl (N':=zgA) (m:=1) (by kernel_rfl) rfl (za9 (by kernel_rfl)) (zaD (by kernel_rfl)) (zbl (by kernel_rfl)) (fun cl L s H fp G H' w σ=>⟨(zaO (i:=2) zn0 rfl (by first|exact Or.inl rfl|exact Or.inr rfl) (show 2∉List.range 2 by decide)),zbK,(zcm (zaa 1) (zaa 2))⟩)))))))
end
section
variable{P:Program}{w:World}{K:W.Frag}{mg:Str->Option Value}{base:Heap}{xv:Nat->Value}{cls:Nat->Addr}
abbrev zjk:List Str:=["tree","steads"]
abbrev zcL:List Str:=["tree","steads"]
theorem zij:zaz zjk zcL (zak (top 29)):=⟨rfl,rfl,rfl,by decide +kernel,rfl,by decide +kernel,by decide +kernel⟩
abbrev zde:List Str:=["tree","steads","branch"]
theorem zgE:zde.Nodup:=by decide +kernel
def ziH(F_self:FD):DS:=(za2 (dIf (dTB (zad zbW (dR (zab 0) dR0))) (zb2 (dOp gIx (zab 1) (zab 0))) dNx) (zb2 (zjJ (dA (dOp gIx (zab 0) (dC (.int 0))) (dA (dFn zbi (dA (dFz (za3 (dIt (dOp gIx (zab 0) (dC (.int 1)))) (zaM 2) dTT (zad F_self (dR (zab 2) (dR (zab 1) dR0))) 1)) dA0)) dA0)))))
def zaS:Nat->FD
 |0=>fun _=>.no
 |n+1=>zat false [false,false] 0 (ziH (zaS n))
theorem zdX(T:Tx K mg cls):∀ n,Dfn false P w K mg base (CXe P w) (xvC cls) (n+5) (Str.ofString "with_steads") [false,false] (zaS n)
 |0=>by
  obtain ⟨f,fd,U,hm⟩:=T.u_with_steads
  exact zdm rfl U hm (U.binds (ps:=zcL) fun _ _ _ _ _ _ us hl=>match us,hl with|[_,_],_=>rfl)
 |n+1=>by
  have DS:=zdX T n
  obtain ⟨f,fd,U,hm⟩:=T.u_with_steads
  refine ⟨f,fd,zcL,?_,hm,U.kp,U.binds (ps:=zcL) fun _ _ _ _ _ _ us hl=>match us,hl with|[_,_],_=>rfl,zav⟩
  refine zfC.mono (j:=(n+5)+1) ?_ (by omega)
  refine zaH (k:=n+5) false zaE U zij rfl rfl fun X C hX hpp hxv hnw hr hx hpo=>?_
  obtain ⟨cG,cH,cw,cpp,cσ,cex,cxv,cnw⟩:=C
  dsimp only at hpp hxv hnw
  subst hpp hxv hnw
  have hnw:(false:Bool)=false:=rfl
  obtain ⟨cdv,A,outer,s,H,E,rfl⟩:=hX
  exact (zaf (by exact (zbI (zcD (za8 (zhp T) hr (by omega) hx (zac (zaa 0) zap))) (zaj (by exact (zaC hnw (zcm (zaa 1) (zaa 0))))) zaG)) (zaj (by exact (zaC hnw (zfH (zao (zcm (zaa 0) zal) (zao (zcH T.b_tuple (zaw (zcg (zcF (zcm (zaa 0) zal)) rfl (N':=zde) (m:=1) (by kernel_rfl) rfl (za9 (by kernel_rfl)) (zaD (by kernel_rfl)) (zbl (by kernel_rfl)) (fun cl L s H fp G H' w σ=>⟨(zaO (i:=2) zgE rfl (by first|exact Or.inl rfl|exact Or.inr rfl) (show 2∉List.range 2 by decide)),zbK,(za8 DS hr (Nat.le_refl _) (zlL fun _ z=>z) (zac (zaa 2) (zac (zaa 1) zap)))⟩)))) za4)))))))
abbrev zjl:List Str:=["n","guest","m"]
abbrev zdR:List Str:=["n","guest","m"]
theorem zhY:zaz zjl zdR (zak (top 30)):=⟨rfl,rfl,rfl,by decide +kernel,rfl,by decide +kernel,by decide +kernel⟩
def zb7:DS:=(za2 (dIf (zbL (dTB (zad zb0 (dR (zab 0) (dR (zab 1) dR0))))) (zei 2 (dA (dC (.str (Str.ofString "this is no guest in whose stead a bench could be put in"))) dA0)) dNx) (dIf (dTB (dOp gGt (dOp zaA (dOp zdc (zab 0) (dC (.int 1))) (zab 2)) (dC (.int 7)))) (zei 0 (dA (dC (.str (Str.ofString "there would be more than seven guests"))) dA0)) dNx))
def zaU:FD:=zat false [false,false,false] 0 zb7
theorem zfZ(T:Tx K mg cls):Dfn false P w K mg base (CXe P w) (xvC cls) 9 (Str.ofString "check_bench") [false,false,false] zaU:=by
  obtain ⟨f,fd,U,hm⟩:=T.u_check_bench
  refine ⟨f,fd,zdR,?_,hm,U.kp,U.binds (ps:=zdR) fun _ _ _ _ _ _ us hl=>match us,hl with|[_,_,_],_=>rfl,zav⟩
  refine zaH (k:=8) false zaE U zhY rfl rfl fun X C hX hpp hxv hnw hr hx hpo=>?_
  obtain ⟨cG,cH,cw,cpp,cσ,cex,cxv,cnw⟩:=C
  dsimp only at hpp hxv hnw
  subst hpp hxv hnw
  have hnw:(false:Bool)=false:=rfl
  obtain ⟨cdv,A,outer,s,H,E,rfl⟩:=hX
  exact (zaf (by exact (zbI (zeu (zcD (za8 (ziw T) hr (by omega) hx (zac (zaa 0) (zac (zaa 1) zap))))) (zaj (by exact (zfX hx rfl (T.xc 2 (by decide)).cls T.xm2 rfl (zao zeJ za4)))) zaG)) (zaj (by exact (zbI (zjm (zbj (zel (zaa 0) zal) (zaa 2)) (zjw rfl T.g_MOST_GUESTS.choose_spec)) (zaj (by exact (zfX hx rfl (T.xc 0 (by decide)).cls T.xm0 rfl (zao zeJ za4)))) zaG))))
abbrev zs8:List Str:=["guest","place","m"]
abbrev zl7:List Str:=["guest","place","m"]
theorem zq1:zaz zs8 zl7 (zak (top 31)):=⟨rfl,rfl,rfl,by decide +kernel,rfl,by decide +kernel,by decide +kernel⟩
def zlz:DS:=(zb2 (zvi (dTB (dOp gLt (zab 0) (zab 1))) (zab 0) (dOp zdc (dOp zaA (zab 0) (zab 2)) (dC (.int 1)))))
def zdo:FD:=zat false [false,false,false] 0 zlz
theorem zom(T:Tx K mg cls):Dfn false P w K mg base (CXe P w) (xvC cls) 3 (Str.ofString "moved") [false,false,false] zdo:=by
  obtain ⟨f,fd,U,hm⟩:=T.u_moved
  refine ⟨f,fd,zl7,?_,hm,U.kp,U.binds (ps:=zl7) fun _ _ _ _ _ _ us hl=>match us,hl with|[_,_,_],_=>rfl,zav⟩
  refine zaH (k:=2) false zaE U zq1 rfl rfl fun X C hX hpp hxv hnw hr hx hpo=>?_
  obtain ⟨cG,cH,cw,cpp,cσ,cex,cxv,cnw⟩:=C
  dsimp only at hpp hxv hnw
  subst hpp hxv hnw
  have hnw:(false:Bool)=false:=rfl
  obtain ⟨cdv,A,outer,s,H,E,rfl⟩:=hX
  exact (zaj (by exact (zaC hnw (zuf (znd (zaa 0) (zaa 1)) (zaa 0) (zel (zbj (zaa 0) (zaa 2)) zal)))))
abbrev zik:List Str:=["party","place","bench","guests"]
abbrev zdp:List Str:=["party","place","bench"]
theorem zeB:zaz zik zdp (zak (top 32)):=⟨rfl,rfl,rfl,by decide +kernel,rfl,by decide +kernel,by decide +kernel⟩
abbrev zcY:List Str:=["party","place","bench","guests","guest"]
theorem zgv:zcY.Nodup:=by decide +kernel
def zds:DS:=(za2 (zb5 3 (za3 (dIt (zab 0)) (zaM 4) (dTB (dOp (gEq true) (zab 4) (zab 1))) (zad zdo (dR (zab 4) (dR (zab 1) (dR (dFn zbN (dA (zab 2) dA0)) dR0)))) 1)) (za2 (dIf (dTB (dOp (gIn false) (zab 1) (zab 0))) (dEx (zia 3 (zab 2))) dNx) (zb2 (dFn zbi (dA (dFz (zgJ zcp (dA (zf4 3) dA0))) dA0)))))
def zbx:FD:=zat false [false,false,false] 1 zds
theorem zig(T:Tx K mg cls):Dfn false P w K mg base (CXe P w) (xvC cls) 6 (Str.ofString "party_put_in") [false,false,false] zbx:=by
  obtain ⟨f,fd,U,hm⟩:=T.u_party_put_in
  refine ⟨f,fd,zdp,?_,hm,U.kp,U.binds (ps:=zdp) fun _ _ _ _ _ _ us hl=>match us,hl with|[_,_,_],_=>rfl,zav⟩
  refine zaH (k:=5) false zaE U zeB rfl rfl fun X C hX hpp hxv hnw hr hx hpo=>?_
  obtain ⟨cG,cH,cw,cpp,cσ,cex,cxv,cnw⟩:=C
  dsimp only at hpp hxv hnw
  subst hpp hxv hnw
  have hnw:(false:Bool)=false:=rfl
  obtain ⟨cdv,A,outer,s,H,E,rfl⟩:=hX
  exact (zaf (by exact (zfz (i:=3) zeB.nd rfl (by first|exact Or.inl rfl|exact Or.inr rfl) (show 3∉zaP [false,false,false] by decide) (zcF (zaa 0)) rfl (N':=zcY) (m:=1) (by kernel_rfl) rfl (za9 (by kernel_rfl)) (zaD (by kernel_rfl)) (zbl (by kernel_rfl)) (fun cl L s H fp G H' w σ=>⟨(zaO (i:=4) zgv rfl (by first|exact Or.inl rfl|exact Or.inr rfl) (show 4∉List.range 4 by decide)),(zhK (zih (ziF hr) (zaa 4) (zaa 1))),(za8 (zom T) hr (by omega) (zlL fun _ z=>z) (zac (zaa 4) (zac (zaa 1) (zac (zfg T.b_len (zaa 2)) zap))))⟩))) (zaf (by exact (zbI (zuW (hu65 hr) (zaa 1) (zaa 0)) (zaj (by exact (zb6 (zow 3 (zaa 2))))) zaG)) (zaj (by exact (zaC hnw (zcH T.b_tuple (zaw (zjG rfl T.b_sorted (zfD 3)))))))))
abbrev zpW:List Str:=["n","parties","guest","m","others","bench","outer"]
abbrev zjv:List Str:=["n","parties","guest","m","others"]
theorem zhE:zaz zpW zjv (zak (top 33)):=⟨rfl,rfl,rfl,by decide +kernel,rfl,by decide +kernel,by decide +kernel⟩
abbrev zfI:List Str:=["n","parties","guest","m","others","bench","outer","party"]
theorem zkY:zfI.Nodup:=by decide +kernel
abbrev zfW:List Str:=["n","parties","guest","m","others","bench","outer","party"]
theorem zl3:zfW.Nodup:=by decide +kernel
def zc2:DS:=(za2 (dEx (zad zaq (dR (zab 0) dR0))) (za2 (dEx (zad zaq (dR (zab 3) dR0))) (za2 (dEx (zad zaR (dR (zab 0) (dR (zab 1) dR0)))) (za2 (dEx (zad zaR (dR (zab 3) (dR (zab 4) dR0)))) (za2 (dEx (zad zaU (dR (zab 0) (dR (zab 2) (dR (zab 3) dR0))))) (za2 (dIf (dTB (dOp gGt (dOp zaA (dOp zaA (dFn zbN (dA (zab 1) dA0)) (dC (.int 1))) (dFn zbN (dA (zab 4) dA0))) (dC (.int 8)))) (zei 1 (dA (dC (.str (Str.ofString "there would be more than eight parties"))) dA0)) dNx) (za2 (zbf 5 (zhc (zab 2) (dOp zaA (zab 2) (zab 3)))) (za2 (zbf 6 (dFz (za3 (dIt (zab 1)) (zaM 7) dTT (zad zbx (dR (zab 7) (dR (zab 2) (dR (zab 5) dR0)))) 1))) (zd6 (zdD (dFz (zdD (zab 6) (dFz (zbY (dA (zab 5) dA0))))) (dFz (za3 (dIt (zab 4)) (zaM 7) dTT (zad zfy (dR (zab 7) (dR (zab 5) dR0))) 1))))))))))))
def zaY:FD:=zat true [false,false,false,false,false] 2 zc2
theorem zdh(T:Tx K mg cls):Dfn true P w K mg base (CXe P w) (xvC cls) 21 (Str.ofString "put_in") [false,false,false,false,false] zaY:=by
  obtain ⟨f,fd,U,hm⟩:=T.u_put_in
  refine ⟨f,fd,zjv,?_,hm,U.kp,U.binds (ps:=zjv) fun _ _ _ _ _ _ us hl=>match us,hl with|[_,_,_,_,_],_=>rfl,zav⟩
  refine zaH (k:=20) true zaE U zhE rfl rfl fun X C hX hpp hxv hnw hr hx hpo=>?_
  obtain ⟨cG,cH,cw,cpp,cσ,cex,cxv,cnw⟩:=C
  dsimp only at hpp hxv hnw
  subst hpp hxv hnw
  have hnw:(true:Bool)=true:=rfl
  obtain ⟨cdv,A,outer,s,H,E,rfl⟩:=hX
  exact (zaf (by exact (zb6 (za8 (zbG T) hr (by omega) hx (zac (zaa 0) zap)))) (zaf (by exact (zb6 (za8 (zbG T) hr (by omega) hx (zac (zaa 3) zap)))) (zaf (by exact (zb6 (za8 (zeI T) hr (by omega) hx (zac (zaa 0) (zac (zaa 1) zap))))) (zaf (by exact (zb6 (za8 (zeI T) hr (by omega) hx (zac (zaa 3) (zac (zaa 4) zap))))) (zaf (by exact (zb6 (za8 (zfZ T) hr (by omega) hx (zac (zaa 0) (zac (zaa 2) (zac (zaa 3) zap)))))) (zaf (by exact (zbI (zjm (zbj (zbj (zfg T.b_len (zaa 1)) zal) (zfg T.b_len (zaa 4))) (zjw rfl T.g_MOST_PARTIES.choose_spec)) (zaj (by exact (zfX hx rfl (T.xc 1 (by decide)).cls T.xm1 rfl (zao zeJ za4)))) zaG)) (zaf (by exact (zbt (i:=5) zhE.nd rfl (by first|exact Or.inl rfl|exact Or.inr rfl) (show 5∉zaP [false,false,false,false,false] by decide) (zo2 rfl rfl T.b_tuple rfl T.b_range (zaa 2) (zbj (zaa 2) (zaa 3))))) (zaf (by exact (zd5 (i:=6) zhE.nd rfl (by first|exact Or.inl rfl|exact Or.inr rfl) (show 6∉zaP [false,false,false,false,false] by decide) (zcF (zaa 1)) rfl (N':=zfI) (m:=1) (by kernel_rfl) rfl (za9 (by kernel_rfl)) (zaD (by kernel_rfl)) (zbl (by kernel_rfl)) (fun cl L s H fp G H' w σ=>⟨(zaO (i:=7) zkY rfl (by first|exact Or.inl rfl|exact Or.inr rfl) (show 7∉List.range 7 by decide)),zbK,(za8 (zig T) hr (by omega) (zlL fun _ z=>z) (zac (zaa 7) (zac (zaa 2) (zac (zaa 5) zap))))⟩))) (zaj (by exact (zgT hnw (by refine zg2 (zaw (by refine zg2 (zaa 6) ?_;exact (zaw (zb1 (zao (zaa 5) za4))))) ?_;exact (zaw (zcg (zcF (zaa 4)) rfl (N':=zfW) (m:=1) (by kernel_rfl) rfl (za9 (by kernel_rfl)) (zaD (by kernel_rfl)) (zbl (by kernel_rfl)) (fun cl L s H fp G H' w σ=>⟨(zaO (i:=7) zl3 rfl (by first|exact Or.inl rfl|exact Or.inr rfl) (show 7∉List.range 7 by decide)),zbK,(za8 (zrD T) hr (by omega) (zlL fun _ z=>z) (zac (zaa 7) (zac (zaa 5) zap)))⟩)))))))))))))))
abbrev zjF:List Str:=["n","tree","guest","m","other","steads"]
abbrev zdJ:List Str:=["n","tree","guest","m","other"]
theorem zfi:zaz zjF zdJ (zak (top 34)):=⟨rfl,rfl,rfl,by decide +kernel,rfl,by decide +kernel,by decide +kernel⟩
abbrev zdi:List Str:=["n","tree","guest","m","other","steads","k"]
theorem zgG:zdi.Nodup:=by decide +kernel
def zcl:DS:=(za2 (dEx (zad zaq (dR (zab 0) dR0))) (za2 (dEx (zad zaq (dR (zab 3) dR0))) (za2 (dEx (zad zaU (dR (zab 0) (dR (zab 2) (dR (zab 3) dR0))))) (za2 (zb5 5 (za3 (zbq (zab 0)) (zaM 6) dTT (zad zdo (dR (zab 6) (dR (zab 2) (dR (zab 3) dR0)))) 1)) (za2 (zgW 5 (zad (zaS 8) (dR (zab 4) (dR (dFz (zh4 (zab 2) (dOp zaA (zab 2) (zab 3)))) dR0))) (zab 2)) (zb2 (zad (zbQ 8) (dR (zad (zaS 8) (dR (zab 1) (dR (zf4 5) dR0))) dR0))))))))
def zaT:FD:=zat false [false,false,false,false,false] 1 zcl
theorem zcO(T:Tx K mg cls):Dfn false P w K mg base (CXe P w) (xvC cls) 32 (Str.ofString "tree_put_in") [false,false,false,false,false] zaT:=by
  obtain ⟨f,fd,U,hm⟩:=T.u_tree_put_in
  refine ⟨f,fd,zdJ,?_,hm,U.kp,U.binds (ps:=zdJ) fun _ _ _ _ _ _ us hl=>match us,hl with|[_,_,_,_,_],_=>rfl,zav⟩
  refine zaH (k:=31) false zaE U zfi rfl rfl fun X C hX hpp hxv hnw hr hx hpo=>?_
  obtain ⟨cG,cH,cw,cpp,cσ,cex,cxv,cnw⟩:=C
  dsimp only at hpp hxv hnw
  subst hpp hxv hnw
  have hnw:(false:Bool)=false:=rfl
  obtain ⟨cdv,A,outer,s,H,E,rfl⟩:=hX
  exact (zaf (by exact (zb6 (za8 (zbG T) hr (by omega) hx (zac (zaa 0) zap)))) (zaf (by exact (zb6 (za8 (zbG T) hr (by omega) hx (zac (zaa 3) zap)))) (zaf (by exact (zb6 (za8 (zfZ T) hr (by omega) hx (zac (zaa 0) (zac (zaa 2) (zac (zaa 3) zap)))))) (zaf (by exact (zfz (i:=5) zfi.nd rfl (by first|exact Or.inl rfl|exact Or.inr rfl) (show 5∉zaP [false,false,false,false,false] by decide) (zbD rfl T.b_range (zaa 0)) rfl (N':=zdi) (m:=1) (by kernel_rfl) rfl (za9 (by kernel_rfl)) (zaD (by kernel_rfl)) (zbl (by kernel_rfl)) (fun cl L s H fp G H' w σ=>⟨(zaO (i:=6) zgG rfl (by first|exact Or.inl rfl|exact Or.inr rfl) (show 6∉List.range 6 by decide)),zbK,(za8 (zom T) hr (by omega) (zlL fun _ z=>z) (zac (zaa 6) (zac (zaa 2) (zac (zaa 3) zap))))⟩))) (zaf (by exact (zjo 5 (za8 (zdX T 8) hr (by omega) hx (zac (zaa 4) (zac (zaw (zoF rfl rfl T.b_list rfl T.b_range (zaa 2) (zbj (zaa 2) (zaa 3)))) zap))) (zaa 2))) (zaj (by exact (zaC hnw (za8 (zhi T 8) hr (by omega) hx (zac (za8 (zdX T 8) hr (by omega) hx (zac (zaa 1) (zac (zfD 5) zap))) zap))))))))))
end
section
variable{P:Program}{w:World}{K:W.Frag}{mg:Str->Option Value}{base:Heap}{xv:Nat->Value}{cls:Nat->Addr}
abbrev zmP:List Str:=["tree","names"]
abbrev zeY:List Str:=["tree","names"]
theorem zle:zaz zmP zeY (zak (top 36)):=⟨rfl,rfl,rfl,by decide +kernel,rfl,by decide +kernel,by decide +kernel⟩
abbrev zeC:List Str:=["tree","names","branch"]
theorem zj1:zeC.Nodup:=by decide +kernel
def znw(F_self:FD):DS:=(za2 (dIf (zbL (dTB (zes "tuple" (zab 0)))) (zb2 (dOp gIx (zab 1) (zab 0))) dNx) (zb2 (zjJ (dA (dOp gIx (zab 0) (dC (.int 0))) (dA (dFn zbi (dA (dFz (za3 (dIt (dOp gIx (zab 0) (dC (.int 1)))) (zaM 2) dTT (zad F_self (dR (zab 2) (dR (zab 1) dR0))) 1)) dA0)) dA0)))))
def zcw:Nat->FD
 |0=>fun _=>.no
 |n+1=>zat false [false,false] 0 (znw (zcw n))
theorem zg0(T:Tx K mg cls):∀ n,Dfn false P w K mg base (CXe P w) (xvC cls) (n+2) (Str.ofString "_law_led") [false,false] (zcw n)
 |0=>by
  obtain ⟨f,fd,U,hm⟩:=T.u__law_led
  exact zdm rfl U hm (U.binds (ps:=zeY) fun _ _ _ _ _ _ us hl=>match us,hl with|[_,_],_=>rfl)
 |n+1=>by
  have DS:=zg0 T n
  obtain ⟨f,fd,U,hm⟩:=T.u__law_led
  refine ⟨f,fd,zeY,?_,hm,U.kp,U.binds (ps:=zeY) fun _ _ _ _ _ _ us hl=>match us,hl with|[_,_],_=>rfl,zav⟩
  refine zfC.mono (j:=(n+2)+1) ?_ (by omega)
  refine zaH (k:=n+2) false zaE U zle rfl rfl fun X C hX hpp hxv hnw hr hx hpo=>?_
  obtain ⟨cG,cH,cw,cpp,cσ,cex,cxv,cnw⟩:=C
  dsimp only at hpp hxv hnw
  subst hpp hxv hnw
  have hnw:(false:Bool)=false:=rfl
  obtain ⟨cdv,A,outer,s,H,E,rfl⟩:=hX
  exact (zaf (by exact (zbI (zeu (zcD (zdf zcE rfl T.b_isinstance zcU rfl T.b_tuple zcN (zaa 0)))) (zaj (by exact (zaC hnw (zcm (zaa 1) (zaa 0))))) zaG)) (zaj (by exact (zaC hnw (zfH (zao (zcm (zaa 0) zal) (zao (zcH T.b_tuple (zaw (zcg (zcF (zcm (zaa 0) zal)) rfl (N':=zeC) (m:=1) (by kernel_rfl) rfl (za9 (by kernel_rfl)) (zaD (by kernel_rfl)) (zbl (by kernel_rfl)) (fun cl L s H fp G H' w σ=>⟨(zaO (i:=2) zj1 rfl (by first|exact Or.inl rfl|exact Or.inr rfl) (show 2∉List.range 2 by decide)),zbK,(za8 DS hr (Nat.le_refl _) (zlL fun _ z=>z) (zac (zaa 2) (zac (zaa 1) zap)))⟩)))) za4)))))))
abbrev zj7:List Str:=["tree","found","branch"]
abbrev zcM:List Str:=["tree"]
theorem zc1:zaz zj7 zcM (zak (top 37)):=⟨rfl,rfl,rfl,by decide +kernel,rfl,by decide +kernel,by decide +kernel⟩
def zdW(F_self:FD):DS:=(za2 (dIf (zbL (dTB (zes "tuple" (zab 0)))) (zb2 (dFz (zbY (dA (zab 0) dA0)))) dNx) (za2 (zbf 1 (dFz (zbY dA0))) (za2 (zga (dIt (dOp gIx (zab 0) (dC (.int 1)))) (zaM 2) (zbf 1 (dFz (zdD (zab 1) (zad F_self (dR (zab 2) dR0)))))) (zb2 (zab 1)))))
def zay:Nat->FD
 |0=>fun _=>.no
 |n+1=>zat false [false] 2 (zdW (zay n))
theorem zci(T:Tx K mg cls):∀ n,Dfn false P w K mg base (CXe P w) (xvC cls) (n+2) (Str.ofString "_law_leaves") [false] (zay n)
 |0=>by
  obtain ⟨f,fd,U,hm⟩:=T.u__law_leaves
  exact zdm rfl U hm (U.binds (ps:=zcM) fun _ _ _ _ _ _ us hl=>match us,hl with|[_],_=>rfl)
 |n+1=>by
  have DS:=zci T n
  obtain ⟨f,fd,U,hm⟩:=T.u__law_leaves
  refine ⟨f,fd,zcM,?_,hm,U.kp,U.binds (ps:=zcM) fun _ _ _ _ _ _ us hl=>match us,hl with|[_],_=>rfl,zav⟩
  refine zfC.mono (j:=(n+2)+1) ?_ (by omega)
  refine zaH (k:=n+2) false zaE U zc1 rfl rfl fun X C hX hpp hxv hnw hr hx hpo=>?_
  obtain ⟨cG,cH,cw,cpp,cσ,cex,cxv,cnw⟩:=C
  dsimp only at hpp hxv hnw
  subst hpp hxv hnw
  have hnw:(false:Bool)=false:=rfl
  obtain ⟨cdv,A,outer,s,H,E,rfl⟩:=hX
  exact (zaf (by exact (zbI (zeu (zcD (zdf zcE rfl T.b_isinstance zcU rfl T.b_tuple zcN (zaa 0)))) (zaj (by exact (zaC hnw (zaw (zb1 (zao (zaa 0) za4)))))) zaG)) (zaf (by exact (zbt (i:=1) zc1.nd rfl (by first|exact Or.inl rfl|exact Or.inr rfl) (show 1∉zaP [false] by decide) (zaw (zb1 za4)))) (zaf (by exact (zg3 hpo rfl (zcF (zcm (zaa 0) zal)) (zaO (i:=2) zc1.nd rfl (by first|exact Or.inl rfl|exact Or.inr rfl) (show 2∉zaP [false] by decide)) (zaj (by exact (zbt (i:=1) zc1.nd rfl (by first|exact Or.inl rfl|exact Or.inr rfl) (show 1∉zaP [false] by decide) (zaw (by refine zg2 (zaa 1) ?_;exact (za8 DS hr (Nat.le_refl _) hx (zac (zaa 2) zap))))))))) (zaj (by exact (zaC hnw (zaa 1)))))))
abbrev zkl:List Str:=["tree","branches","found","branch","ahead"]
abbrev zdn:List Str:=["tree"]
theorem zbB:zaz zkl zdn (zak (top 38)):=⟨rfl,rfl,rfl,by decide +kernel,rfl,by decide +kernel,by decide +kernel⟩
abbrev zd4:List Str:=["tree","branches","found","%3","ahead","branch"]
theorem zh2:zd4.Nodup:=by decide +kernel
abbrev zdA:List Str:=["tree","branches","found","branch","ahead","one"]
theorem zhh:zdA.Nodup:=by decide +kernel
def zeO(F_self:FD):DS:=(za2 (dIf (zbL (dTB (zes "tuple" (zab 0)))) (zb2 (zab 0)) dNx) (za2 (zbf 1 (dFz (za3 (dIt (dOp gIx (zab 0) (dC (.int 1)))) (zaM 5) dTT (zad F_self (dR (zab 5) dR0)) 1))) (za2 (dIf (dTB (dOp (gEq false) (dOp gIx (zab 0) (dC (.int 0))) (dC (.str (Str.ofString "any"))))) (za2 (zb5 2 (zbY dA0)) (za2 (zga (dIt (zab 1)) (zaM 3) (za2 (zbf 4 (dFz (za3 (zt0 2) (zaM 5) (dTB (dOp gLt (dFn zea (dA (zad (zay 8) (dR (zab 5) dR0)) dA0)) (dFn zea (dA (zad (zay 8) (dR (zab 3) dR0)) dA0)))) (zab 5) 1))) (dEx (zpR 2 (dFn zbN (dA (zab 4) dA0)) (zab 3))))) (zbf 1 (zf4 2)))) (dIf (dTB (dOp gLt (dFn zea (dA (zad (zay 8) (dR (dOp gIx (zab 1) (znD (dC (.int 1)))) dR0)) dA0)) (dFn zea (dA (zad (zay 8) (dR (dOp gIx (zab 1) (dC (.int 0))) dR0)) dA0)))) (zbf 1 (dFz (zkt (zab 1)))) dNx)) (zb2 (zjJ (dA (dOp gIx (zab 0) (dC (.int 0))) (dA (dFn zbi (dA (zab 1) dA0)) dA0)))))))
def zbP:Nat->FD
 |0=>fun _=>.no
 |n+1=>zat false [false] 4 (zeO (zbP n))
theorem zgB(T:Tx K mg cls):∀ n,Dfn false P w K mg base (CXe P w) (xvC cls) (n+12) (Str.ofString "_law_least") [false] (zbP n)
 |0=>by
  obtain ⟨f,fd,U,hm⟩:=T.u__law_least
  exact zdm rfl U hm (U.binds (ps:=zdn) fun _ _ _ _ _ _ us hl=>match us,hl with|[_],_=>rfl)
 |n+1=>by
  have DS:=zgB T n
  obtain ⟨f,fd,U,hm⟩:=T.u__law_least
  refine ⟨f,fd,zdn,?_,hm,U.kp,U.binds (ps:=zdn) fun _ _ _ _ _ _ us hl=>match us,hl with|[_],_=>rfl,zav⟩
  refine zfC.mono (j:=(n+12)+1) ?_ (by omega)
  refine zaH (k:=n+12) false zaE U zbB rfl rfl fun X C hX hpp hxv hnw hr hx hpo=>?_
  obtain ⟨cG,cH,cw,cpp,cσ,cex,cxv,cnw⟩:=C
  dsimp only at hpp hxv hnw
  subst hpp hxv hnw
  have hnw:(false:Bool)=false:=rfl
  obtain ⟨cdv,A,outer,s,H,E,rfl⟩:=hX
  exact (zaf (by exact (zbI (zeu (zcD (zdf zcE rfl T.b_isinstance zcU rfl T.b_tuple zcN (zaa 0)))) (zaj (by exact (zaC hnw (zaa 0)))) zaG)) (zaf (by exact (zd5 (i:=1) zbB.nd rfl (by first|exact Or.inl rfl|exact Or.inr rfl) (show 1∉zaP [false] by decide) (zcF (zcm (zaa 0) zal)) rfl (N':=zd4) (m:=1) (by kernel_rfl) rfl (za9 (by kernel_rfl)) (zaD (by kernel_rfl)) (zbl (by kernel_rfl)) (fun cl L s H fp G H' w σ=>⟨(zaO (i:=5) zh2 rfl (by first|exact Or.inl rfl|exact Or.inr rfl) (show 5∉List.range 5 by decide)),zbK,(za8 DS hr (Nat.le_refl _) (zlL fun _ z=>z) (zac (zaa 5) zap))⟩))) (zaf (by exact (zbI (zon (ziF hr) (zcm (zaa 0) zal) zeJ) (zaf (by exact (zdP (i:=2) zbB.nd rfl (by first|exact Or.inl rfl|exact Or.inr rfl) (show 2∉zaP [false] by decide) (zb1 za4))) (zaf (by exact (zg3 hpo rfl (zcF (zaa 1)) (zaO (i:=3) zbB.nd rfl (by first|exact Or.inl rfl|exact Or.inr rfl) (show 3∉zaP [false] by decide)) (zaf (by exact (zlv (i:=4) (io:=2) zbB.nd rfl (by first|exact Or.inl rfl|exact Or.inr rfl) (show 4∉zaP [false] by decide) rfl (Or.inl rfl) rfl (N':=zdA) (m:=1) (by kernel_rfl) rfl (za9 (by kernel_rfl)) (zaD (by kernel_rfl)) (zbl (by kernel_rfl)) (fun cl L s H fp G H' w σ=>⟨(zaO (i:=5) zhh rfl (by first|exact Or.inl rfl|exact Or.inr rfl) (show 5∉List.range 5 by decide)),(zhK (znd (zmg rfl T.b_min (za8 (zci T 8) hr (by omega) (zlL fun _ z=>z) (zac (zaa 5) zap))) (zmg rfl T.b_min (za8 (zci T 8) hr (by omega) (zlL fun _ z=>z) (zac (zaa 3) zap))))),(zaa 5)⟩) (zqa (by decide) (zv1 (zu6 (zm5 (znM 5))) (zu6 (zm5 (znM 3)))) (znM 5)))) (zaj (by exact (zb6 (zs5 2 (zfg T.b_len (zaa 4)) (zaa 3)))))))) (zaj (by exact (zbt (i:=1) zbB.nd rfl (by first|exact Or.inl rfl|exact Or.inr rfl) (show 1∉zaP [false] by decide) (zfD 2)))))) (zaj (by exact (zbI (znd (zmg rfl T.b_min (za8 (zci T 8) hr (by omega) hx (zac (zcm (zaa 1) (zmA zal)) zap))) (zmg rfl T.b_min (za8 (zci T 8) hr (by omega) hx (zac (zcm (zaa 1) zal) zap)))) (zaj (by exact (zbt (i:=1) zbB.nd rfl (by first|exact Or.inl rfl|exact Or.inr rfl) (show 1∉zaP [false] by decide) (zaw (ztn (zaa 1)))))) zaG))))) (zaj (by exact (zaC hnw (zfH (zao (zcm (zaa 0) zal) (zao (zcH T.b_tuple (zaa 1)) za4)))))))))
abbrev zib:List Str:=["script","k"]
abbrev zdr:List Str:=["script","k"]
theorem zgR:zaz zib zdr (zak (top 41)):=⟨rfl,rfl,rfl,by decide +kernel,rfl,by decide +kernel,by decide +kernel⟩
def zbU:DS:=(za2 (dIf (dTB (dOp gLt (zab 1) (dFn zbN (dA (zab 0) dA0)))) (zb2 (dOp gIx (zab 0) (zab 1))) dNx) (zb2 (dC (.int 0))))
def zc5:FD:=zat false [false,false] 0 zbU
theorem zhS(T:Tx K mg cls):Dfn false P w K mg base (CXe P w) (xvC cls) 3 (Str.ofString "_law_cell_at") [false,false] zc5:=by
  obtain ⟨f,fd,U,hm⟩:=T.u__law_cell_at
  refine ⟨f,fd,zdr,?_,hm,U.kp,U.binds (ps:=zdr) fun _ _ _ _ _ _ us hl=>match us,hl with|[_,_],_=>rfl,zav⟩
  refine zaH (k:=2) false zaE U zgR rfl rfl fun X C hX hpp hxv hnw hr hx hpo=>?_
  obtain ⟨cG,cH,cw,cpp,cσ,cex,cxv,cnw⟩:=C
  dsimp only at hpp hxv hnw
  subst hpp hxv hnw
  have hnw:(false:Bool)=false:=rfl
  obtain ⟨cdv,A,outer,s,H,E,rfl⟩:=hX
  exact (zaf (by exact (zbI (znd (zaa 1) (zfg T.b_len (zaa 0))) (zaj (by exact (zaC hnw (zcm (zaa 0) (zaa 1))))) zaG)) (zaj (by exact (zaC hnw zal))))
end
section
variable{P:Program}{w:World}{K:W.Frag}{mg:Str->Option Value}{base:Heap}{xv:Nat->Value}{cls:Nat->Addr}
abbrev zkf:List Str:=["script","k","cell"]
abbrev ze7:List Str:=["script","k"]
theorem zfY:zaz zkf ze7 (zak (top 42)):=⟨rfl,rfl,rfl,by decide +kernel,rfl,by decide +kernel,by decide +kernel⟩
def zcA:DS:=(za2 (zbf 2 (zad zc5 (dR (zab 0) (dR (zab 1) dR0)))) (za2 (dIf (dTB (dOp gGe (zab 2) (dOp zpl (dC (.int 10)) (dC (.int 18))))) (zd6 (zbY (dA (dOp zdc (zab 2) (dOp zpl (dC (.int 10)) (dC (.int 18)))) (dA (dC (.bl true)) dA0)))) dNx) (zd6 (zbY (dA (dOp zns (zab 2) (dC (.int 2147483647))) (dA (dC (.bl false)) dA0))))))
def zcB:FD:=zat true [false,false] 1 zcA
theorem zkE(T:Tx K mg cls):Dfn true P w K mg base (CXe P w) (xvC cls) 6 (Str.ofString "_law_state") [false,false] zcB:=by
  obtain ⟨f,fd,U,hm⟩:=T.u__law_state
  refine ⟨f,fd,ze7,?_,hm,U.kp,U.binds (ps:=ze7) fun _ _ _ _ _ _ us hl=>match us,hl with|[_,_],_=>rfl,zav⟩
  refine zaH (k:=5) true zaE U zfY rfl rfl fun X C hX hpp hxv hnw hr hx hpo=>?_
  obtain ⟨cG,cH,cw,cpp,cσ,cex,cxv,cnw⟩:=C
  dsimp only at hpp hxv hnw
  subst hpp hxv hnw
  have hnw:(true:Bool)=true:=rfl
  obtain ⟨cdv,A,outer,s,H,E,rfl⟩:=hX
  exact (zaf (by exact (zbt (i:=2) zfY.nd rfl (by first|exact Or.inl rfl|exact Or.inr rfl) (show 2∉zaP [false,false] by decide) (za8 (zhS T) hr (by omega) hx (zac (zaa 0) (zac (zaa 1) zap))))) (zaf (by exact (zbI (zvt (zaa 2) (znV zal zal)) (zaj (by exact (zgT hnw (zb1 (zao (zel (zaa 2) (znV zal zal)) (zao zft za4)))))) zaG)) (zaj (by exact (zgT hnw (zb1 (zao (zim (zaa 2) zal) (zao zft za4))))))))
abbrev zl4:List Str:=["state","many","found","stirred"]
abbrev zfw:List Str:=["state","many"]
theorem zdj:zaz zl4 zfw (zak (top 39)):=⟨rfl,rfl,rfl,by decide +kernel,rfl,by decide +kernel,by decide +kernel⟩
def zf5:DS:=(za2 (dIf (dTB (zo8 0 (dC (.int 1)))) (za2 (zbf 2 (dOp zns (zo8 0 (dC (.int 0))) (zab 1))) (za2 (zgW 0 (dOp zqs (zo8 0 (dC (.int 0))) (zab 1)) (dC (.int 0))) (zb2 (zab 2)))) dNx) (za2 (zgW 0 (dOp zns (dOp zaA (dOp zit (zo8 0 (dC (.int 0))) (dC (.int 48271))) (dC (.int 29))) (dC (.int 2147483647))) (dC (.int 0))) (za2 (zbf 3 (dOp zns (dOp zaA (dOp zaA (dOp zit (zo8 0 (dC (.int 0))) (zo8 0 (dC (.int 0)))) (dOp zit (dC (.int 39373)) (zo8 0 (dC (.int 0))))) (dC (.int 7))) (dC (.int 2147483629)))) (za2 (zbf 3 (dOp zns (dOp zaA (dOp zit (zab 3) (zab 3)) (dOp zit (dC (.int 16807)) (zab 3))) (dC (.int 2147483587)))) (zb2 (dOp zns (dOp zqs (zab 3) (dC (.int 8))) (zab 1)))))))
def zae:FD:=zat false [true,false] 2 zf5
theorem zaJ(T:Tx K mg cls):Dfn false P w K mg base (CXe P w) (xvC cls) 3 (Str.ofString "_law_take") [true,false] zae:=by
  obtain ⟨f,fd,U,hm⟩:=T.u__law_take
  refine ⟨f,fd,zfw,?_,hm,U.kp,U.binds (ps:=zfw) fun _ _ _ _ _ _ us hl=>match us,hl with|[_,_],_=>rfl,zav⟩
  refine zaH (k:=2) false zaE U zdj rfl rfl fun X C hX hpp hxv hnw hr hx hpo=>?_
  obtain ⟨cG,cH,cw,cpp,cσ,cex,cxv,cnw⟩:=C
  dsimp only at hpp hxv hnw
  subst hpp hxv hnw
  have hnw:(false:Bool)=false:=rfl
  obtain ⟨cdv,A,outer,s,H,E,rfl⟩:=hX
  exact (zaf (by exact (zbI (zcD (zhe 0 (hb:=zal))) (zaf (by exact (zbt (i:=2) zdj.nd rfl (by first|exact Or.inl rfl|exact Or.inr rfl) (show 2∉zaP [true,false] by decide) (zim (zhe 0 (hb:=zal)) (zaa 1)))) (zaf (by exact (zjo 0 (zrj (zhe 0 (hb:=zal)) (zaa 1)) zal)) (zaj (by exact (zaC hnw (zaa 2)))))) zaG)) (zaf (by exact (zjo 0 (zim (zbj (zh9 (zhe 0 (hb:=zal)) zal) zal) zal) zal)) (zaf (by exact (zbt (i:=3) zdj.nd rfl (by first|exact Or.inl rfl|exact Or.inr rfl) (show 3∉zaP [true,false] by decide) (zim (zbj (zbj (zh9 (zhe 0 (hb:=zal)) (zhe 0 (hb:=zal))) (zh9 zal (zhe 0 (hb:=zal)))) zal) zal))) (zaf (by exact (zbt (i:=3) zdj.nd rfl (by first|exact Or.inl rfl|exact Or.inr rfl) (show 3∉zaP [true,false] by decide) (zim (zbj (zh9 (zaa 3) (zaa 3)) (zh9 zal (zaa 3))) zal))) (zaj (by exact (zaC hnw (zim (zrj (zaa 3) zal) (zaa 1)))))))))
abbrev zc4:List Str:=["call","error","e","kinds"]
theorem za7:zaz zc4 ["call"] (zak (top 40)):=⟨rfl,rfl,rfl,by decide +kernel,rfl,by decide +kernel,by decide +kernel⟩
abbrev zcX:List Str:=["call","error","e","kinds","k"]
theorem zgs:zcX.Nodup:=by decide +kernel
def zaQ(n:Nat)(Cc:Addr):DS:=(za2 (zbf 1 (dC .non)) (za2 (zoU 0 1 2 Cc) (za2 (zbf 3 (dFz (zbY (dA (zhT 1 Cc (n == 0)) (dA (zhT 1 Cc (n == 1)) (dA (zhT 1 Cc (n == 2)) dA0)))))) (za2 (zbf 3 (dFz (zdD (zab 3) (dFz (zbY (dA (zhT 1 Cc (n == 3)) (dA (zhT 1 Cc (n == 4)) (dA (zhT 1 Cc (n == 5)) dA0)))))))) (za2 (zbf 3 (dFz (zdD (zab 3) (dFz (zbY (dA (zhT 1 Cc (n == 6)) (dA (zhT 1 Cc (n == 7)) dA0))))))) (za2 (dIf (zbL (dTB (zhT 1 Cc true))) dNo dNx) (zd6 (za3 (zbq (dC (.int 8))) (zaM 4) (dTB (dOp gIx (zab 3) (zab 4))) (zab 4) 1))))))))
theorem zbz(T:Tx K mg cls){C:Cn}{k:Nat}{f:Addr}(XR:Cx)(CR:Cn)(n:Nat)(Fa:Addr)(hn:n<8)(hX:∃ cdv A outer s H E,XR=zjQ (CXe P w) P w K mg base zc4 (Str.ofString "_law_refused") (zak (top 40)) f cdv A outer s H E)(hC:∃ G H,CR=zq2 C G H (L2.start zc4 [.ref Fa]))(hr:zdC (k+1) XR.A)
  (hF:∀ pins σ H s,L2.Inv XR pins σ H s->zcb CR.H₀ H->codeAny (model XR.prog XR.w) XR.A (.call (.ref Fa) ⟨[],[]⟩) (fun r s'=>∃ e,r=.error e/\CXf XR.prog XR.w XR.stack H s (EL (cls n) H) e s') s)
  (hFn:∀ pins σ H s,L2.Inv XR pins σ H s->zcb CR.H₀ H->W.FnAt Fa s.heap):JSs XR CR (zck (top 40)) (zaQ n (cls n)):=by
  obtain ⟨cdv,A,outer,s,H,E,rfl⟩:=hX
  obtain ⟨G,H',rfl⟩:=hC
  obtain ⟨Cs,xs,hmS,hsub⟩:=T.xS
  have hnw:(zq2 C G H' (L2.start zc4 [.ref Fa])).nw=true:=rfl
  exact (zaf (by exact (zbt (i:=1) za7.nd rfl (by first|exact Or.inl rfl|exact Or.inr rfl) (show 1∉([0]:List Nat) by decide) zpu)) (zaf (by exact (zoz rfl za7.nd rfl rfl rfl rfl rfl hF hFn xs (hsub n hn) hmS rfl rfl rfl rfl (by decide) (by decide) (by decide) rfl rfl rfl)) (zaf (by exact (zbt (i:=3) za7.nd rfl (by first|exact Or.inl rfl|exact Or.inr rfl) (show 3∉([0]:List Nat) by decide) (zaw (zb1 (zao (zgD 1 (T.xc n hn) (T.xi n 0 hn (by decide)) rfl T.b_isinstance rfl T.xm0) (zao (zgD 1 (T.xc n hn) (T.xi n 1 hn (by decide)) rfl T.b_isinstance rfl T.xm1) (zao (zgD 1 (T.xc n hn) (T.xi n 2 hn (by decide)) rfl T.b_isinstance rfl T.xm2) za4))))))) (zaf (by exact (zbt (i:=3) za7.nd rfl (by first|exact Or.inl rfl|exact Or.inr rfl) (show 3∉([0]:List Nat) by decide) (zaw (by refine zg2 (zaa 3) ?_;exact (zaw (zb1 (zao (zgD 1 (T.xc n hn) (T.xi n 3 hn (by decide)) rfl T.b_isinstance rfl T.xm3) (zao (zgD 1 (T.xc n hn) (T.xi n 4 hn (by decide)) rfl T.b_isinstance rfl T.xm4) (zao (zgD 1 (T.xc n hn) (T.xi n 5 hn (by decide)) rfl T.b_isinstance rfl T.xm5) za4))))))))) (zaf (by exact (zbt (i:=3) za7.nd rfl (by first|exact Or.inl rfl|exact Or.inr rfl) (show 3∉([0]:List Nat) by decide) (zaw (by refine zg2 (zaa 3) ?_;exact (zaw (zb1 (zao (zgD 1 (T.xc n hn) (T.xi n 6 hn (by decide)) rfl T.b_isinstance rfl T.xm6) (zao (zgD 1 (T.xc n hn) (T.xi n 7 hn (by decide)) rfl T.b_isinstance rfl T.xm7) za4)))))))) (zaf (by exact (zbI (zeu (zcD (zsV 1 (T.xc n hn) (T.xV n hn) rfl T.b_isinstance rfl T.b_ValueError rfl))) (zaj zmz) zaG)) (zaj (by exact (zgT hnw (zcg (zbD rfl T.b_range zal) rfl (N':=zcX) (m:=1) (by kernel_rfl) rfl (za9 (by kernel_rfl)) (zaD (by kernel_rfl)) (zbl (by kernel_rfl)) (fun cl L s H fp G H' w σ=>⟨(zaO (i:=4) zgs rfl (by first|exact Or.inl rfl|exact Or.inr rfl) (show 4∉List.range 4 by decide)),(zhK (zcD (zcm (zaa 3) (zaa 4)))),(zaa 4)⟩)))))))))))
theorem zbk:∀(n:Nat)(Cc:Addr),n<8->∃ ρ,zaQ n Cc (some .opq::List.replicate 3 none)=.ok (.rt (.lst [.int n]),ρ):=by
 intro n Cc h
 match n,h with
 |0,_=>exact ⟨_,by simp[zaQ,za2,zoU,zhT,zbf,zb5,dFz,zbY,dA,dA0,dC,zdD,zab,zf4,dIf,zbL,dTB,dNx,dNo,zd6,za3,zb3,zbq,zaI,zaM,dOp,gIx,ixN,zem,R.bind];try rfl⟩
 |1,_=>exact ⟨_,by simp[zaQ,za2,zoU,zhT,zbf,zb5,dFz,zbY,dA,dA0,dC,zdD,zab,zf4,dIf,zbL,dTB,dNx,dNo,zd6,za3,zb3,zbq,zaI,zaM,dOp,gIx,ixN,zem,R.bind];try rfl⟩
 |2,_=>exact ⟨_,by simp[zaQ,za2,zoU,zhT,zbf,zb5,dFz,zbY,dA,dA0,dC,zdD,zab,zf4,dIf,zbL,dTB,dNx,dNo,zd6,za3,zb3,zbq,zaI,zaM,dOp,gIx,ixN,zem,R.bind];try rfl⟩
 |3,_=>exact ⟨_,by simp[zaQ,za2,zoU,zhT,zbf,zb5,dFz,zbY,dA,dA0,dC,zdD,zab,zf4,dIf,zbL,dTB,dNx,dNo,zd6,za3,zb3,zbq,zaI,zaM,dOp,gIx,ixN,zem,R.bind];try rfl⟩
 |4,_=>exact ⟨_,by simp[zaQ,za2,zoU,zhT,zbf,zb5,dFz,zbY,dA,dA0,dC,zdD,zab,zf4,dIf,zbL,dTB,dNx,dNo,zd6,za3,zb3,zbq,zaI,zaM,dOp,gIx,ixN,zem,R.bind];try rfl⟩
 |5,_=>exact ⟨_,by simp[zaQ,za2,zoU,zhT,zbf,zb5,dFz,zbY,dA,dA0,dC,zdD,zab,zf4,dIf,zbL,dTB,dNx,dNo,zd6,za3,zb3,zbq,zaI,zaM,dOp,gIx,ixN,zem,R.bind];try rfl⟩
 |6,_=>exact ⟨_,by simp[zaQ,za2,zoU,zhT,zbf,zb5,dFz,zbY,dA,dA0,dC,zdD,zab,zf4,dIf,zbL,dTB,dNx,dNo,zd6,za3,zb3,zbq,zaI,zaM,dOp,gIx,ixN,zem,R.bind];try rfl⟩
 |7,_=>exact ⟨_,by simp[zaQ,za2,zoU,zhT,zbf,zb5,dFz,zbY,dA,dA0,dC,zdD,zab,zf4,dIf,zbL,dTB,dNx,dNo,zd6,za3,zb3,zbq,zaI,zaM,dOp,gIx,ixN,zem,R.bind];try rfl⟩
abbrev zk3:List Str:=["state","n","left","found"]
abbrev zex:List Str:=["state","n"]
theorem zdG:zaz zk3 zex (zak (top 43)):=⟨rfl,rfl,rfl,by decide +kernel,rfl,by decide +kernel,by decide +kernel⟩
def zez:DS:=(za2 (zb5 2 (znp (zab 1))) (za2 (zb5 3 (zbY dA0)) (za2 (zef (dTB (ztg true 2 (dFz (zbY dA0)))) (dEx (zd2 3 (zi6 2 (zad zae (dRO 0 (dR (zn3 2) dR0)))))) 10) (zb2 (dFn zbi (dA (zf4 3) dA0))))))
def zaW:FD:=zat false [true,false] 2 zez
theorem zeP(T:Tx K mg cls):Dfn false P w K mg base (CXe P w) (xvC cls) 6 (Str.ofString "_law_order") [true,false] zaW:=by
  obtain ⟨f,fd,U,hm⟩:=T.u__law_order
  refine ⟨f,fd,zex,?_,hm,U.kp,U.binds (ps:=zex) fun _ _ _ _ _ _ us hl=>match us,hl with|[_,_],_=>rfl,zav⟩
  refine zaH (k:=5) false zaE U zdG rfl rfl fun X C hX hpp hxv hnw hr hx hpo=>?_
  obtain ⟨cG,cH,cw,cpp,cσ,cex,cxv,cnw⟩:=C
  dsimp only at hpp hxv hnw
  subst hpp hxv hnw
  have hnw:(false:Bool)=false:=rfl
  obtain ⟨cdv,A,outer,s,H,E,rfl⟩:=hX
  exact (zaf (by exact (zdP (i:=2) zdG.nd rfl (by first|exact Or.inl rfl|exact Or.inr rfl) (show 2∉zaP [true,false] by decide) (zrJ rfl rfl T.b_list rfl T.b_range (zaa 1)))) (zaf (by exact (zdP (i:=3) zdG.nd rfl (by first|exact Or.inl rfl|exact Or.inr rfl) (show 3∉zaP [true,false] by decide) (zb1 za4))) (zaf (by exact (zpZ 10 hpo (zu9 2 (ziF hr) (zaw (zb1 za4))) (zaj (by exact (zb6 (zgq 3 (zqg 2 (za8 (zaJ T) hr (by omega) hx (zbC 0 (zac (zs2 2 rfl T.b_len) zap)))))))))) (zaj (by exact (zaC hnw (zcH T.b_tuple (zfD 3))))))))
end
section
variable{P:Program}{w:World}{K:W.Frag}{mg:Str->Option Value}{base:Heap}{xv:Nat->Value}{cls:Nat->Addr}
abbrev zhZ:List Str:=["state","n","most","row","way","found","turn","low","party"]
abbrev zdt:List Str:=["state","n","most"]
theorem zbd:zaz zhZ zdt (zak (top 44)):=⟨rfl,rfl,rfl,by decide +kernel,rfl,by decide +kernel,by decide +kernel⟩
abbrev zdb:List Str:=["state","n","most","row","way","found","turn","low","party","guest"]
theorem zgf:zdb.Nodup:=by decide +kernel
def zdq:DS:=(za2 (zbf 3 (zad zaW (dRO 0 (dR (zab 1) dR0)))) (za2 (zbf 4 (zad zae (dRO 0 (dR (dC (.int 4)) dR0)))) (za2 (zb5 5 (zbY dA0)) (za2 (zga (zbq (zad zae (dRO 0 (dR (dOp zaA (zab 2) (dC (.int 1))) dR0)))) (zaM 6) (za2 (zbf 7 (zad zae (dRO 0 (dR (zab 1) dR0)))) (za2 (zbf 8 (dFz (zgJ zfo (dA (zmW (zab 3) (dO1 (zab 7)) (dO1 (dOp zaA (dOp zaA (zab 7) (dC (.int 1))) (zad zae (dRO 0 (dR (dOp zdc (zab 1) (zab 7)) dR0)))))) dA0)))) (za2 (dIf (zgI (dTB (dOp gGt (zab 4) (dC (.int 1)))) (dTB (dOp gLt (zad zae (dRO 0 (dR (dC (.int 3)) dR0))) (dOp zdc (zab 4) (dC (.int 1)))))) (zbf 8 (zte (dFz (za3 (zbq (zab 1)) (zaM 9) (dTB (dOp (gEq false) (zad zae (dRO 0 (dR (dC (.int 2)) dR0))) (dC (.int 1)))) (zab 9) 1)) (zab 8))) dNx) (dEx (zd2 5 (dFn zbi (dA (zab 8) dA0)))))))) (zb2 (zf4 5))))))
def zbE:FD:=zat false [true,false,false] 6 zdq
theorem zfk(T:Tx K mg cls):Dfn false P w K mg base (CXe P w) (xvC cls) 9 (Str.ofString "_law_parties") [true,false,false] zbE:=by
  obtain ⟨f,fd,U,hm⟩:=T.u__law_parties
  refine ⟨f,fd,zdt,?_,hm,U.kp,U.binds (ps:=zdt) fun _ _ _ _ _ _ us hl=>match us,hl with|[_,_,_],_=>rfl,zav⟩
  refine zaH (k:=8) false zaE U zbd rfl rfl fun X C hX hpp hxv hnw hr hx hpo=>?_
  obtain ⟨cG,cH,cw,cpp,cσ,cex,cxv,cnw⟩:=C
  dsimp only at hpp hxv hnw
  subst hpp hxv hnw
  have hnw:(false:Bool)=false:=rfl
  obtain ⟨cdv,A,outer,s,H,E,rfl⟩:=hX
  exact (zaf (by exact (zbt (i:=3) zbd.nd rfl (by first|exact Or.inl rfl|exact Or.inr rfl) (show 3∉zaP [true,false,false] by decide) (za8 (zeP T) hr (by omega) hx (zbC 0 (zac (zaa 1) zap))))) (zaf (by exact (zbt (i:=4) zbd.nd rfl (by first|exact Or.inl rfl|exact Or.inr rfl) (show 4∉zaP [true,false,false] by decide) (za8 (zaJ T) hr (by omega) hx (zbC 0 (zac zal zap))))) (zaf (by exact (zdP (i:=5) zbd.nd rfl (by first|exact Or.inl rfl|exact Or.inr rfl) (show 5∉zaP [true,false,false] by decide) (zb1 za4))) (zaf (by exact (zg3 hpo rfl (zbD rfl T.b_range (za8 (zaJ T) hr (by omega) hx (zbC 0 (zac (zbj (zaa 2) zal) zap)))) (zaO (i:=6) zbd.nd rfl (by first|exact Or.inl rfl|exact Or.inr rfl) (show 6∉zaP [true,false,false] by decide)) (zaf (by exact (zbt (i:=7) zbd.nd rfl (by first|exact Or.inl rfl|exact Or.inr rfl) (show 7∉zaP [true,false,false] by decide) (za8 (zaJ T) hr (by omega) hx (zbC 0 (zac (zaa 1) zap))))) (zaf (by exact (zbt (i:=8) zbd.nd rfl (by first|exact Or.inl rfl|exact Or.inr rfl) (show 8∉zaP [true,false,false] by decide) (zaw (zqf rfl T.b_sorted (zs7 (zaa 3) (zjc (zaa 7)) (zjc (zbj (zbj (zaa 7) zal) (za8 (zaJ T) hr (by omega) hx (zbC 0 (zac (zel (zaa 1) (zaa 7)) zap)))))))))) (zaf (by exact (zbI (JW.jt (zqY (zjm (zaa 4) zal) (zoA (znd (za8 (zaJ T) hr (by omega) hx (zbC 0 (zac zal zap))) (zel (zaa 4) zal))))) (zaj (by exact (zbt (i:=8) zbd.nd rfl (by first|exact Or.inl rfl|exact Or.inr rfl) (show 8∉zaP [true,false,false] by decide) (zts (zaw (zcg (zbD rfl T.b_range (zaa 1)) rfl (N':=zdb) (m:=1) (by kernel_rfl) rfl (za9 (by kernel_rfl)) (zaD (by kernel_rfl)) (zbl (by kernel_rfl)) (fun cl L s H fp G H' w σ=>⟨(zaO (i:=9) zgf rfl (by first|exact Or.inl rfl|exact Or.inr rfl) (show 9∉List.range 9 by decide)),(zhK (zon (ziF hr) (za8 (zaJ T) hr (by omega) (zlL fun _ z=>z) (zbC 0 (zac zal zap))) zal)),(zaa 9)⟩))) (zi7 (zaa 8)))))) zaG)) (zaj (by exact (zb6 (zgq 5 (zcH T.b_tuple (zaa 8))))))))))) (zaj (by exact (zaC hnw (zfD 5))))))))
abbrev zkN:List Str:=["state","guests","many","left","branches","turn","size","word"]
abbrev zdU:List Str:=["state","guests"]
theorem zbw:zaz zkN zdU (zak (top 45)):=⟨rfl,rfl,rfl,by decide +kernel,rfl,by decide +kernel,by decide +kernel⟩
def zdE(F_self:FD):DS:=(za2 (dIf (dTB (dOp (gEq false) (dFn zbN (dA (zab 1) dA0)) (dC (.int 1)))) (zb2 (dOp gIx (zab 1) (dC (.int 0)))) dNx) (za2 (zbf 2 (dFn zgl (dA (dFn zbN (dA (zab 1) dA0)) (dA (dOp zaA (dC (.int 2)) (zad zae (dRO 0 (dR (dC (.int 3)) dR0)))) dA0)))) (za2 (zbf 3 (dFz (zgJ zjq (dA (zab 1) dA0)))) (za2 (zb5 4 (zbY dA0)) (za2 (zga (zbq (dOp zdc (zab 2) (dC (.int 1)))) (zaM 5) (za2 (zbf 6 (dOp zaA (dC (.int 1)) (zad zae (dRO 0 (dR (dOp zdc (dFn zbN (dA (zab 3) dA0)) (dOp zdc (dOp zdc (zab 2) (dC (.int 1))) (zab 5))) dR0))))) (za2 (dEx (zd2 4 (zad F_self (dRO 0 (dR (dFz (zp7 (zab 3) dO0 (dO1 (zab 6)))) dR0))))) (zbf 3 (dFz (zp7 (zab 3) (dO1 (zab 6)) dO0)))))) (za2 (dEx (zd2 4 (zad F_self (dRO 0 (dR (zab 3) dR0))))) (za2 (zbf 7 (dC (.str (Str.ofString "any")))) (za2 (dIf (zgI (dTB (dOp gGt (zab 2) (dC (.int 2)))) (dTB (dOp (gEq false) (zad zae (dRO 0 (dR (dC (.int 2)) dR0))) (dC (.int 0))))) (zbf 7 (dC (.str (Str.ofString "row")))) dNx) (zb2 (zjJ (dA (zab 7) (dA (dFn zbi (dA (zf4 4) dA0)) dA0))))))))))))
def zaK:Nat->FD
 |0=>fun _=>.no
 |n+1=>zat false [true,false] 6 (zdE (zaK n))
theorem zfx(T:Tx K mg cls):∀ n,Dfn false P w K mg base (CXe P w) (xvC cls) (n+5) (Str.ofString "_law_tree") [true,false] (zaK n)
 |0=>by
  obtain ⟨f,fd,U,hm⟩:=T.u__law_tree
  exact zdm rfl U hm (U.binds (ps:=zdU) fun _ _ _ _ _ _ us hl=>match us,hl with|[_,_],_=>rfl)
 |n+1=>by
  have DS:=zfx T n
  obtain ⟨f,fd,U,hm⟩:=T.u__law_tree
  refine ⟨f,fd,zdU,?_,hm,U.kp,U.binds (ps:=zdU) fun _ _ _ _ _ _ us hl=>match us,hl with|[_,_],_=>rfl,zav⟩
  refine zfC.mono (j:=(n+5)+1) ?_ (by omega)
  refine zaH (k:=n+5) false zaE U zbw rfl rfl fun X C hX hpp hxv hnw hr hx hpo=>?_
  obtain ⟨cG,cH,cw,cpp,cσ,cex,cxv,cnw⟩:=C
  dsimp only at hpp hxv hnw
  subst hpp hxv hnw
  have hnw:(false:Bool)=false:=rfl
  obtain ⟨cdv,A,outer,s,H,E,rfl⟩:=hX
  exact (zaf (by exact (zbI (zon (ziF hr) (zfg T.b_len (zaa 1)) zal) (zaj (by exact (zaC hnw (zcm (zaa 1) zal)))) zaG)) (zaf (by exact (zbt (i:=2) zbw.nd rfl (by first|exact Or.inl rfl|exact Or.inr rfl) (show 2∉zaP [true,false] by decide) (zrr rfl T.b_min (zfg T.b_len (zaa 1)) (zbj zal (za8 (zaJ T) hr (by omega) hx (zbC 0 (zac zal zap))))))) (zaf (by exact (zbt (i:=3) zbw.nd rfl (by first|exact Or.inl rfl|exact Or.inr rfl) (show 3∉zaP [true,false] by decide) (zaw (zui T.b_list (zaa 1))))) (zaf (by exact (zdP (i:=4) zbw.nd rfl (by first|exact Or.inl rfl|exact Or.inr rfl) (show 4∉zaP [true,false] by decide) (zb1 za4))) (zaf (by exact (zg3 hpo rfl (zbD rfl T.b_range (zel (zaa 2) zal)) (zaO (i:=5) zbw.nd rfl (by first|exact Or.inl rfl|exact Or.inr rfl) (show 5∉zaP [true,false] by decide)) (zaf (by exact (zbt (i:=6) zbw.nd rfl (by first|exact Or.inl rfl|exact Or.inr rfl) (show 6∉zaP [true,false] by decide) (zbj zal (za8 (zaJ T) hr (by omega) hx (zbC 0 (zac (zel (zfg T.b_len (zaa 3)) (zel (zel (zaa 2) zal) (zaa 5))) zap)))))) (zaf (by exact (zb6 (zgq 4 (za8 DS hr (Nat.le_refl _) hx (zbC 0 (zac (zaw (zro (zaa 3) zp0 (zjc (zaa 6)))) zap)))))) (zaj (by exact (zbt (i:=3) zbw.nd rfl (by first|exact Or.inl rfl|exact Or.inr rfl) (show 3∉zaP [true,false] by decide) (zaw (zro (zaa 3) (zjc (zaa 6)) zp0))))))))) (zaf (by exact (zb6 (zgq 4 (za8 DS hr (Nat.le_refl _) hx (zbC 0 (zac (zaa 3) zap)))))) (zaf (by exact (zbt (i:=7) zbw.nd rfl (by first|exact Or.inl rfl|exact Or.inr rfl) (show 7∉zaP [true,false] by decide) zeJ)) (zaf (by exact (zbI (JW.jt (zqY (zjm (zaa 2) zal) (zoA (zon (ziF hr) (za8 (zaJ T) hr (by omega) hx (zbC 0 (zac zal zap))) zal)))) (zaj (by exact (zbt (i:=7) zbw.nd rfl (by first|exact Or.inl rfl|exact Or.inr rfl) (show 7∉zaP [true,false] by decide) zeJ))) zaG)) (zaj (by exact (zaC hnw (zfH (zao (zaa 7) (zao (zcH T.b_tuple (zfD 4)) za4))))))))))))))
abbrev zla:List Str:=["found","due"]
abbrev zdT:List Str:=["found","due"]
theorem zkc:zaz zla zdT (zak (top 46)):=⟨rfl,rfl,rfl,by decide +kernel,rfl,by decide +kernel,by decide +kernel⟩
abbrev zeg:List Str:=["found","due","one","other"]
theorem zhV:zeg.Nodup:=by decide +kernel
def zca(F_self:FD):DS:=(za2 (dIf (dTB (zr3 "tuple" "list" (zab 1))) (za2 (dIf (zn5 (dTB (dOp (gEq true) (zes "tuple" (zab 0)) (zes "tuple" (zab 1)))) (dTB (dOp (gEq true) (zes "list" (zab 0)) (zes "list" (zab 1))))) (zb2 (dC (.bl false))) dNx) (za2 (dIf (dTB (dOp (gEq true) (dFn zbN (dA (zab 0) dA0)) (dFn zbN (dA (zab 1) dA0)))) (zb2 (dC (.bl false))) dNx) (zb2 (dFn zn2 (dA (dFz (za3 (zls (zab 0) (zab 1)) (zeo 2 3) dTT (zad F_self (dR (zab 2) (dR (zab 3) dR0))) 2)) dA0))))) dNx) (zb2 (zkS (dOp (gEq false) (zab 0) (zab 1)) (dOp (gEq false) (zes "bool" (zab 0)) (zes "bool" (zab 1))))))
def zar:Nat->FD
 |0=>fun _=>.no
 |n+1=>zat false [false,false] 0 (zca (zar n))
theorem zf1(T:Tx K mg cls):∀ n,Dfn false P w K mg base (CXe P w) (xvC cls) (n+2) (Str.ofString "_law_same") [false,false] (zar n)
 |0=>by
  obtain ⟨f,fd,U,hm⟩:=T.u__law_same
  exact zdm rfl U hm (U.binds (ps:=zdT) fun _ _ _ _ _ _ us hl=>match us,hl with|[_,_],_=>rfl)
 |n+1=>by
  have DS:=zf1 T n
  obtain ⟨f,fd,U,hm⟩:=T.u__law_same
  refine ⟨f,fd,zdT,?_,hm,U.kp,U.binds (ps:=zdT) fun _ _ _ _ _ _ us hl=>match us,hl with|[_,_],_=>rfl,zav⟩
  refine zfC.mono (j:=(n+2)+1) ?_ (by omega)
  refine zaH (k:=n+2) false zaE U zkc rfl rfl fun X C hX hpp hxv hnw hr hx hpo=>?_
  obtain ⟨cG,cH,cw,cpp,cσ,cex,cxv,cnw⟩:=C
  dsimp only at hpp hxv hnw
  subst hpp hxv hnw
  have hnw:(false:Bool)=false:=rfl
  obtain ⟨cdv,A,outer,s,H,E,rfl⟩:=hX
  exact (zaf (by exact (zbI (zcD (zr4 zcE zgN rfl T.b_isinstance zcU rfl T.b_tuple zcN rfl T.b_list zh3 (zaa 1))) (zaf (by exact (zbI (JW.jt (zqJ (zih (ziF hr) (zdf zcE rfl T.b_isinstance zcU rfl T.b_tuple zcN (zaa 0)) (zdf zcE rfl T.b_isinstance zcU rfl T.b_tuple zcN (zaa 1))) (zoY (zih (ziF hr) (zdf zgN rfl T.b_isinstance zcU rfl T.b_list zh3 (zaa 0)) (zdf zgN rfl T.b_isinstance zcU rfl T.b_list zh3 (zaa 1)))))) (zaj (by exact (zaC hnw zft))) zaG)) (zaf (by exact (zbI (zih (ziF hr) (zfg T.b_len (zaa 0)) (zfg T.b_len (zaa 1))) (zaj (by exact (zaC hnw zft))) zaG)) (zaj (by exact (zaC hnw (zqd rfl T.b_all (zaw (zcg (zsy rfl T.b_zip (zaa 0) (zaa 1)) rfl (N':=zeg) (m:=2) (by kernel_rfl) rfl (za9 (by kernel_rfl)) (zaD (by kernel_rfl)) (zbl (by kernel_rfl)) (fun cl L s H fp G H' w σ=>⟨(zju (i:=2) (j:=3) rfl zhV rfl rfl (by first|exact Or.inl rfl|exact Or.inr rfl) (by first|exact Or.inl rfl|exact Or.inr rfl) (show 2∉List.range 2 by decide) (show 3∉List.range 2 by decide)),zbK,(za8 DS hr (Nat.le_refl _) (zlL fun _ z=>z) (zac (zaa 2) (zac (zaa 3) zap)))⟩))))))))) zaG)) (zaj (by exact (zaC hnw (zis (zrF (ziF hr) (zaa 0) (zaa 1)) (zi7 (zrF (ziF hr) (zdf ziQ rfl T.b_isinstance zcU rfl T.b_bool zlf (zaa 0)) (zdf ziQ rfl T.b_isinstance zcU rfl T.b_bool zlf (zaa 1)))))))))
end
section
variable{P:Program}{w:World}{K:W.Frag}{mg:Str->Option Value}{base:Heap}{xv:Nat->Value}{cls:Nat->Addr}
abbrev znl:List Str:=["n","parties","guest","m","others","names","bench","found","party","members"]
abbrev zgz:List Str:=["n","parties","guest","m","others"]
theorem zcy:zaz znl zgz (zak (top 47)):=⟨rfl,rfl,rfl,by decide +kernel,rfl,by decide +kernel,by decide +kernel⟩
abbrev zeG:List Str:=["n","parties","guest","m","others","names","bench","found","party","members","one"]
theorem zjy:zeG.Nodup:=by decide +kernel
abbrev zeA:List Str:=["n","parties","guest","m","others","names","bench","found","party","members","one"]
theorem zjg:zeA.Nodup:=by decide +kernel
abbrev zeN:List Str:=["n","parties","guest","m","others","names","bench","found","party","members","one"]
theorem ziR:zeN.Nodup:=by decide +kernel
abbrev zeT:List Str:=["n","parties","guest","m","others","names","bench","found","%8","members","party"]
theorem zje:zeT.Nodup:=by decide +kernel
abbrev zeQ:List Str:=["n","parties","guest","m","others","names","bench","found","%8","members","party","one"]
theorem zjD:zeQ.Nodup:=by decide +kernel
def zgh:DS:=(za2 (zbf 5 (dFz (za3 (zbq (zab 0)) (zaM 10) dTT (dOp zaA (zab 10) (dOp zit (dOp zdc (zab 3) (dC (.int 1))) (dFn zdw (dA (dOp gGt (zab 10) (zab 2)) dA0)))) 1))) (za2 (zbf 6 (dFz (za3 (zbq (zab 3)) (zaM 10) dTT (dOp zaA (zab 2) (zab 10)) 1))) (za2 (zb5 7 (zbY dA0)) (za2 (zga (dIt (zab 1)) (zaM 8) (za2 (zbf 9 (dFz (za3 (dIt (zab 8)) (zaM 10) (dTB (dOp (gEq true) (zab 10) (zab 2))) (dOp gIx (zab 5) (zab 10)) 1))) (dEx (zd2 7 (dFn zbi (dA (dFz (zgJ zcp (dA (dFz (zdD (zab 9) (dFz (zmU (zab 6) (dFn zdw (dA (dOp (gIn false) (zab 2) (zab 8)) dA0)))))) dA0))) dA0)))))) (zd6 (zdD (dFz (zdD (zf4 7) (dFz (zbY (dA (dFn zbi (dA (zab 6) dA0)) dA0))))) (dFz (za3 (dIt (zab 4)) (zaM 10) dTT (dFn zbi (dA (dFz (za3 (dIt (zab 10)) (zaM 11) dTT (dOp zaA (zab 2) (zab 11)) 1)) dA0)) 1))))))))
def zcP:FD:=zat true [false,false,false,false,false] 5 zgh
theorem zmQ(T:Tx K mg cls):Dfn true P w K mg base (CXe P w) (xvC cls) 3 (Str.ofString "_law_due") [false,false,false,false,false] zcP:=by
  obtain ⟨f,fd,U,hm⟩:=T.u__law_due
  refine ⟨f,fd,zgz,?_,hm,U.kp,U.binds (ps:=zgz) fun _ _ _ _ _ _ us hl=>match us,hl with|[_,_,_,_,_],_=>rfl,zav⟩
  refine zaH (k:=2) true zaE U zcy rfl rfl fun X C hX hpp hxv hnw hr hx hpo=>?_
  obtain ⟨cG,cH,cw,cpp,cσ,cex,cxv,cnw⟩:=C
  dsimp only at hpp hxv hnw
  subst hpp hxv hnw
  have hnw:(true:Bool)=true:=rfl
  obtain ⟨cdv,A,outer,s,H,E,rfl⟩:=hX
  exact (zaf (by exact (zbt (i:=5) zcy.nd rfl (by first|exact Or.inl rfl|exact Or.inr rfl) (show 5∉zaP [false,false,false,false,false] by decide) (zaw (zcg (zbD rfl T.b_range (zaa 0)) rfl (N':=zeG) (m:=1) (by kernel_rfl) rfl (za9 (by kernel_rfl)) (zaD (by kernel_rfl)) (zbl (by kernel_rfl)) (fun cl L s H fp G H' w σ=>⟨(zaO (i:=10) zjy rfl (by first|exact Or.inl rfl|exact Or.inr rfl) (show 10∉List.range 10 by decide)),zbK,(zbj (zaa 10) (zh9 (zel (zaa 3) zal) (znW rfl T.b_int (zsg (zaa 10) (zaa 2)))))⟩))))) (zaf (by exact (zd5 (i:=6) zcy.nd rfl (by first|exact Or.inl rfl|exact Or.inr rfl) (show 6∉zaP [false,false,false,false,false] by decide) (zbD rfl T.b_range (zaa 3)) rfl (N':=zeA) (m:=1) (by kernel_rfl) rfl (za9 (by kernel_rfl)) (zaD (by kernel_rfl)) (zbl (by kernel_rfl)) (fun cl L s H fp G H' w σ=>⟨(zaO (i:=10) zjg rfl (by first|exact Or.inl rfl|exact Or.inr rfl) (show 10∉List.range 10 by decide)),zbK,(zbj (zaa 2) (zaa 10))⟩))) (zaf (by exact (zdP (i:=7) zcy.nd rfl (by first|exact Or.inl rfl|exact Or.inr rfl) (show 7∉zaP [false,false,false,false,false] by decide) (zb1 za4))) (zaf (by exact (zg3 hpo rfl (zcF (zaa 1)) (zaO (i:=8) zcy.nd rfl (by first|exact Or.inl rfl|exact Or.inr rfl) (show 8∉zaP [false,false,false,false,false] by decide)) (zaf (by exact (zd5 (i:=9) zcy.nd rfl (by first|exact Or.inl rfl|exact Or.inr rfl) (show 9∉zaP [false,false,false,false,false] by decide) (zcF (zaa 8)) rfl (N':=zeN) (m:=1) (by kernel_rfl) rfl (za9 (by kernel_rfl)) (zaD (by kernel_rfl)) (zbl (by kernel_rfl)) (fun cl L s H fp G H' w σ=>⟨(zaO (i:=10) ziR rfl (by first|exact Or.inl rfl|exact Or.inr rfl) (show 10∉List.range 10 by decide)),(zhK (zih (ziF hr) (zaa 10) (zaa 2))),(zcm (zaa 5) (zaa 10))⟩))) (zaj (by exact (zb6 (zgq 7 (zcH T.b_tuple (zaw (zjG rfl T.b_sorted (zaw (by refine zg2 (zaa 9) ?_;exact (zaw (by refine zol (zaa 6) ?_;exact (znW rfl T.b_int (zvk (hu65 hr) (zaa 2) (zaa 8))))))))))))))))) (zaj (by exact (zgT hnw (by refine zg2 (zaw (by refine zg2 (zfD 7) ?_;exact (zaw (zb1 (zao (zcH T.b_tuple (zaa 6)) za4))))) ?_;exact (zaw (zcg (zcF (zaa 4)) rfl (N':=zeT) (m:=1) (by kernel_rfl) rfl (za9 (by kernel_rfl)) (zaD (by kernel_rfl)) (zbl (by kernel_rfl)) (fun cl L s H fp G H' w σ=>⟨(zaO (i:=10) zje rfl (by first|exact Or.inl rfl|exact Or.inr rfl) (show 10∉List.range 10 by decide)),zbK,(zcH T.b_tuple (zaw (zcg (zcF (zaa 10)) rfl (N':=zeQ) (m:=1) (by kernel_rfl) rfl (za9 (by kernel_rfl)) (zaD (by kernel_rfl)) (zbl (by kernel_rfl)) (fun cl L s H fp G H' w σ=>⟨(zaO (i:=11) zjD rfl (by first|exact Or.inl rfl|exact Or.inr rfl) (show 11∉List.range 11 by decide)),zbK,(zbj (zaa 2) (zaa 11))⟩))))⟩)))))))))))
abbrev zhQ:List Str:=["n","tree","guest","m","other","names"]
abbrev zcW:List Str:=["n","tree","guest","m","other"]
theorem zee:zaz zhQ zcW (zak (top 48)):=⟨rfl,rfl,rfl,by decide +kernel,rfl,by decide +kernel,by decide +kernel⟩
abbrev zcJ:List Str:=["n","tree","guest","m","other","names","one"]
theorem zfE:zcJ.Nodup:=by decide +kernel
abbrev zcK:List Str:=["n","tree","guest","m","other","names","one"]
theorem zfF:zcK.Nodup:=by decide +kernel
def zcV:DS:=(za2 (zb5 5 (za3 (zbq (zab 0)) (zaM 6) dTT (dOp zaA (zab 6) (dOp zit (dOp zdc (zab 3) (dC (.int 1))) (dFn zdw (dA (dOp gGt (zab 6) (zab 2)) dA0)))) 1)) (za2 (zgW 5 (zad (zcw 8) (dR (zab 4) (dR (dFz (za3 (zbq (zab 3)) (zaM 6) dTT (dOp zaA (zab 2) (zab 6)) 1)) dR0))) (zab 2)) (zb2 (zad (zbP 8) (dR (zad (zcw 8) (dR (zab 1) (dR (zf4 5) dR0))) dR0)))))
def zbO:FD:=zat false [false,false,false,false,false] 1 zcV
theorem zhF(T:Tx K mg cls):Dfn false P w K mg base (CXe P w) (xvC cls) 23 (Str.ofString "_law_tree_due") [false,false,false,false,false] zbO:=by
  obtain ⟨f,fd,U,hm⟩:=T.u__law_tree_due
  refine ⟨f,fd,zcW,?_,hm,U.kp,U.binds (ps:=zcW) fun _ _ _ _ _ _ us hl=>match us,hl with|[_,_,_,_,_],_=>rfl,zav⟩
  refine zaH (k:=22) false zaE U zee rfl rfl fun X C hX hpp hxv hnw hr hx hpo=>?_
  obtain ⟨cG,cH,cw,cpp,cσ,cex,cxv,cnw⟩:=C
  dsimp only at hpp hxv hnw
  subst hpp hxv hnw
  have hnw:(false:Bool)=false:=rfl
  obtain ⟨cdv,A,outer,s,H,E,rfl⟩:=hX
  exact (zaf (by exact (zfz (i:=5) zee.nd rfl (by first|exact Or.inl rfl|exact Or.inr rfl) (show 5∉zaP [false,false,false,false,false] by decide) (zbD rfl T.b_range (zaa 0)) rfl (N':=zcJ) (m:=1) (by kernel_rfl) rfl (za9 (by kernel_rfl)) (zaD (by kernel_rfl)) (zbl (by kernel_rfl)) (fun cl L s H fp G H' w σ=>⟨(zaO (i:=6) zfE rfl (by first|exact Or.inl rfl|exact Or.inr rfl) (show 6∉List.range 6 by decide)),zbK,(zbj (zaa 6) (zh9 (zel (zaa 3) zal) (znW rfl T.b_int (zsg (zaa 6) (zaa 2)))))⟩))) (zaf (by exact (zjo 5 (za8 (zg0 T 8) hr (by omega) hx (zac (zaa 4) (zac (zaw (zcg (zbD rfl T.b_range (zaa 3)) rfl (N':=zcK) (m:=1) (by kernel_rfl) rfl (za9 (by kernel_rfl)) (zaD (by kernel_rfl)) (zbl (by kernel_rfl)) (fun cl L s H fp G H' w σ=>⟨(zaO (i:=6) zfF rfl (by first|exact Or.inl rfl|exact Or.inr rfl) (show 6∉List.range 6 by decide)),zbK,(zbj (zaa 2) (zaa 6))⟩))) zap))) (zaa 2))) (zaj (by exact (zaC hnw (za8 (zgB T 8) hr (by omega) hx (zac (za8 (zg0 T 8) hr (by omega) hx (zac (zaa 1) (zac (zfD 5) zap))) zap)))))))
end
section
variable{P:Program}{w:World}{K:W.Frag}{mg:Str->Option Value}{base:Heap}{xv:Nat->Value}{cls:Nat->Addr}
abbrev ze6:List Str:=["state","n","tree","other","<tab>","bad","none","calls"]
abbrev zbT:List Str:=["state","n","tree","other"]
theorem zaZ:zaz ze6 zbT (zak (top 49)):=⟨rfl,rfl,rfl,by decide +kernel,rfl,by decide +kernel,by decide +kernel⟩
abbrev zbu:List Str:=["state","n","tree","other","<tab>","bad","none","calls","call"]
theorem zcf:zbu.Nodup:=by decide +kernel
def zbS:DS:=(za2 (zbf 5 (dOp gIx (dFz (zbY (dA (zab 1) (dA (znD (dC (.int 1))) (dA (dC (.bl true)) (dA (dC .non) (dA (dC (.str (Str.ofString "0"))) (dA (dC (.tup [(.int 0)])) (dA (dOp zpl (dC (.int 10)) (dC (.int 29))) dA0))))))))) (zad zae (dRO 0 (dR (dC (.int 7)) dR0))))) (za2 (zbf 6 (dOp gIx (dC (.lst [(.int 0),(.int 8),(.int (-1)),.non,(.bl true),(.str (Str.ofString "1"))])) (zad zae (dRO 0 (dR (dC (.int 6)) dR0))))) (za2 (zhn 4 7 zfb 2 (dFz (zbs zaY (dR (zab 1) (dR (dFz (zbY dA0)) (dR (zab 5) (dR (dC (.int 1)) (dR (dFz (zbY dA0)) dR0))))))) (zad zaT (dR (zab 1) (dR (zab 2) (dR (zab 5) (dR (dC (.int 1)) (dR (dC (.int 0)) dR0))))))) (za2 (zk1 4 7 zfb 0 (dFz (zbs zaY (dR (zab 1) (dR (dFz (zbY dA0)) (dR (dC (.int 0)) (dR (zab 6) (dR (dFz (zbY dA0)) dR0))))))) (dFz (zbs zaY (dR (zab 6) (dR (dFz (zbY dA0)) (dR (dC (.int 0)) (dR (dC (.int 1)) (dR (dFz (zbY dA0)) dR0))))))) (zad zaT (dR (zab 6) (dR (zab 2) (dR (dC (.int 0)) (dR (dC (.int 1)) (dR (dC (.int 0)) dR0))))))) (za2 (dIf (dTB (dOp (gEq true) (dFz (zkV 4 zfb (dFz (zbs zaY (dR (zab 1) (dR (dC (.lst [(.tup [])])) (dR (dC (.int 0)) (dR (dC (.int 1)) (dR (dFz (zbY dA0)) dR0))))))))) (dC (.lst [(.int 1)])))) (zb2 (dC (.bl false))) dNx) (zb2 (dOp (gEq false) (dFz (zkV 4 zfb (dFz (zbs zaY (dR (zab 1) (dR (dFz (zbY dA0)) (dR (dC (.int 0)) (dR (dC (.int 1)) (dR (dC (.lst [(.tup [(.int 1)])])) dR0))))))))) (dC (.lst [(.int 1)])))))))))
def zaL:FD:=zat false ([true,false,false,false]++[true]) 3 zbS
theorem ze3(T:Tx K mg cls){f PT cL:Addr}{fd:FuncData}(U:Fun K (Str.ofString "_law_refusals_right") (Str.ofString "_law_refusals_right") (top 49) f fd)(hmx:mg (Str.ofString "_law_refusals_right")=some (.ref f))(hcL:fd.code=.ref cL)(hch:W.codeHdIn K cL PT=true)(hbm:base.BuiltinsAt mg PT)(hKb:K.In base):zuU P w K mg base (CXe P w) (xvC cls) 38 (Str.ofString "_law_refusals_right") ([true,false,false,false]++[true]) PT zaL:=by
  obtain ⟨fR,fdR,UR,hmR⟩:=T.u__law_refused
  refine ⟨f,fd,zbT,?_,hmx,U.kp,U.binds (ps:=zbT) fun _ _ _ _ _ _ us hl=>match us,hl with|[_,_,_,_],_=>rfl,zav⟩
  refine zqQ (k:=37) (ks:=[true,false,false,false]) (m:=3) (xt:="<tab>") U hcL hch zaZ rfl rfl rfl (by unfold Vis;decide +kernel) hbm hKb fun X C hX hpp hσ0 hxv hnw hr hx hpo hLB=>?_
  obtain ⟨cdv,A,outer,s,H,E,rfl⟩:=hX
  obtain ⟨cG,cH,cw,cpp,cσ,cex,cxv,cnw⟩:=C
  dsimp only at hpp hσ0 hxv hnw
  subst hpp hxv hnw
  have hnw:(false:Bool)=false:=rfl
  refine zaf ?_ ?_
  ·exact (zbt (i:=5) zaZ.nd rfl (by first|exact Or.inl rfl|exact Or.inr rfl) (show 5∉zaP ([true,false,false,false]++[true]) by decide) (zcm (zaw (zb1 (zao (zaa 1) (zao (zmA zal) (zao zft (zao zpu (zao zeJ (zao (by refine jd 40 ?_;kernel_rfl) (zao (znV zal zal) za4))))))))) (za8 (zaJ T) hr (by omega) hx (zbC 0 (zac zal zap)))))
  refine zaf ?_ ?_
  ·exact (zbt (i:=6) zaZ.nd rfl (by first|exact Or.inl rfl|exact Or.inr rfl) (show 6∉zaP ([true,false,false,false]++[true]) by decide) (zcm (by refine jd 40 ?_;kernel_rfl) (za8 (zaJ T) hr (by omega) hx (zbC 0 (zac zal zap)))))
  refine zmH (fR:=dFz (zmU (dC (.lst [(.lst [(.int 2)])])) (dC (.int 2)))) (k:=32) (n:=2) (j:=4) (ci:=7) (xc:="call") (N':=zbu) (st:=top 40) hLB (show 4∈zaP ([true,false,false,false]++[true]) by decide) hσ0 (show 7∉zaP ([true,false,false,false]++[true]) by decide) cls (fun _ _=>rfl) rfl UR za7 rfl (UR.binds (ps:=["call"]) fun _ _ _ _ _ _ us hl=>match us,hl with|[_],_=>rfl) hmR (hr.mono (by omega)) (ziF hr) ?_ zbk ?_ ?_ zaZ.nd ?_ ?_ ?_ ?_ ?_ ?_ ?_ ?_
  ·exact fun _ _=>zbz T
  ·refine ⟨fun XL CL hXL hcv hr hx=>?_,zaD (by kernel_rfl),fun _ _ _ _=>rfl,rfl,rfl,rfl,rfl,rfl⟩
   obtain ⟨⟨xp,xw,xK,xmg,xb,xA,xN,xs,xH,xenv,xo,xst,xex,xfn,xc,xpn,xxe⟩,cl,Fa,cdv,s,H,E,e1,e2,e3,e4,e5,rfl⟩:=hXL
   obtain ⟨cG,cH,cw,cpp,cσ,cex,cxv,cnw⟩:=CL
   dsimp only at e1 e2 e3 e4 e5 hcv
   subst e1 e2 e3 e4 e5 hcv
   exact (zaw (zhU (zdh T) hr (by omega) hx (zac (zaa 1) (zac (zaw (zb1 za4)) (zac (zaa 5) (zac zal (zac (zaw (zb1 za4)) zap)))))))
  ·refine ⟨fun XL CL hXL hcv hr hx=>?_,zaD (by kernel_rfl),fun _ _ _ _=>rfl,rfl,rfl,rfl,rfl,rfl⟩
   obtain ⟨⟨xp,xw,xK,xmg,xb,xA,xN,xs,xH,xenv,xo,xst,xex,xfn,xc,xpn,xxe⟩,cl,Fa,cdv,s,H,E,e1,e2,e3,e4,e5,rfl⟩:=hXL
   obtain ⟨cG,cH,cw,cpp,cσ,cex,cxv,cnw⟩:=CL
   dsimp only at e1 e2 e3 e4 e5 hcv
   subst e1 e2 e3 e4 e5 hcv
   exact (za8 (zcO T) hr (by omega) hx (zac (zaa 1) (zac (zaa 2) (zac (zaa 5) (zac zal (zac zal zap))))))
  ·first|exact Or.inl rfl|exact Or.inr rfl
  ·refine ⟨rfl,rfl,by first|exact Or.inl rfl|exact Or.inr (Or.inl rfl)|exact Or.inr (Or.inr rfl),by kernel_rfl,rfl,za9 (by kernel_rfl),zaD (by kernel_rfl),zbl (by kernel_rfl),zcf,rfl,fun _ _ _ _ _=>rfl,fun _ _ _ _ _=>rfl,fun _ _ _ _ _=>rfl,fun _ _ _ _ _=>⟨Or.inl rfl,Or.inl rfl,rfl⟩,fun _=>rfl,by decide,by decide,by decide,by decide,by decide⟩
  ·exact fun C=>zaw (by refine zol (by refine jd 40 ?_;kernel_rfl) ?_;exact zal)
  ·exact fun _=>rfl
  ·refine zoc (fR:=dFz (zmU (dC (.lst [(.lst [(.int 0)])])) (dC (.int 3)))) (k:=32) (n:=0) (j:=4) (ci:=7) (xc:="call") (N':=zbu) (st:=top 40) hLB (show 4∈zaP ([true,false,false,false]++[true]) by decide) hσ0 (show 7∉zaP ([true,false,false,false]++[true]) by decide) cls (fun _ _=>rfl) rfl UR za7 rfl (UR.binds (ps:=["call"]) fun _ _ _ _ _ _ us hl=>match us,hl with|[_],_=>rfl) hmR (hr.mono (by omega)) (ziF hr) ?_ zbk ?_ ?_ ?_ zaZ.nd ?_ ?_ ?_ ?_ ?_ ?_ ?_ ?_ ?_
   ·exact fun _ _=>zbz T
   ·refine ⟨fun XL CL hXL hcv hr hx=>?_,zaD (by kernel_rfl),fun _ _ _ _=>rfl,rfl,rfl,rfl,rfl,rfl⟩
    obtain ⟨⟨xp,xw,xK,xmg,xb,xA,xN,xs,xH,xenv,xo,xst,xex,xfn,xc,xpn,xxe⟩,cl,Fa,cdv,s,H,E,e1,e2,e3,e4,e5,rfl⟩:=hXL
    obtain ⟨cG,cH,cw,cpp,cσ,cex,cxv,cnw⟩:=CL
    dsimp only at e1 e2 e3 e4 e5 hcv
    subst e1 e2 e3 e4 e5 hcv
    exact (zaw (zhU (zdh T) hr (by omega) hx (zac (zaa 1) (zac (zaw (zb1 za4)) (zac zal (zac (zaa 6) (zac (zaw (zb1 za4)) zap)))))))
   ·refine ⟨fun XL CL hXL hcv hr hx=>?_,zaD (by kernel_rfl),fun _ _ _ _=>rfl,rfl,rfl,rfl,rfl,rfl⟩
    obtain ⟨⟨xp,xw,xK,xmg,xb,xA,xN,xs,xH,xenv,xo,xst,xex,xfn,xc,xpn,xxe⟩,cl,Fa,cdv,s,H,E,e1,e2,e3,e4,e5,rfl⟩:=hXL
    obtain ⟨cG,cH,cw,cpp,cσ,cex,cxv,cnw⟩:=CL
    dsimp only at e1 e2 e3 e4 e5 hcv
    subst e1 e2 e3 e4 e5 hcv
    exact (zaw (zhU (zdh T) hr (by omega) hx (zac (zaa 6) (zac (zaw (zb1 za4)) (zac zal (zac zal (zac (zaw (zb1 za4)) zap)))))))
   ·refine ⟨fun XL CL hXL hcv hr hx=>?_,zaD (by kernel_rfl),fun _ _ _ _=>rfl,rfl,rfl,rfl,rfl,rfl⟩
    obtain ⟨⟨xp,xw,xK,xmg,xb,xA,xN,xs,xH,xenv,xo,xst,xex,xfn,xc,xpn,xxe⟩,cl,Fa,cdv,s,H,E,e1,e2,e3,e4,e5,rfl⟩:=hXL
    obtain ⟨cG,cH,cw,cpp,cσ,cex,cxv,cnw⟩:=CL
    dsimp only at e1 e2 e3 e4 e5 hcv
    subst e1 e2 e3 e4 e5 hcv
    exact (za8 (zcO T) hr (by omega) hx (zac (zaa 6) (zac (zaa 2) (zac zal (zac zal (zac zal zap))))))
   ·first|exact Or.inl rfl|exact Or.inr rfl
   ·refine ⟨rfl,rfl,by first|exact Or.inl rfl|exact Or.inr (Or.inl rfl)|exact Or.inr (Or.inr rfl),by kernel_rfl,rfl,za9 (by kernel_rfl),zaD (by kernel_rfl),zbl (by kernel_rfl),zcf,rfl,fun _ _ _ _ _=>rfl,fun _ _ _ _ _=>rfl,fun _ _ _ _ _=>rfl,fun _ _ _ _ _=>⟨Or.inl rfl,Or.inl rfl,rfl⟩,fun _=>rfl,by decide,by decide,by decide,by decide,by decide⟩
   ·exact fun C=>zaw (by refine zol (by refine jd 40 ?_;kernel_rfl) ?_;exact zal)
   ·exact fun _=>rfl
   ·refine zaf ?_ ?_
    ·exact (zbI (zih (ziF hr) (zaw (zjW (k:=21) (st:=top 40) hLB rfl (show 4∈zaP ([true,false,false,false]++[true]) by decide) hσ0 cls (fun _ _=>rfl) UR za7 rfl (UR.binds (ps:=["call"]) fun _ _ _ _ _ _ us hl=>match us,hl with|[_],_=>rfl) hmR (hr.mono (by omega)) (zbz T) zbk (fun XL CL hXL hcv hr hx=>by
     obtain ⟨⟨xp,xw,xK,xmg,xb,xA,xN,xs,xH,xenv,xo,xst,xex,xfn,xc,xpn,xxe⟩,cl,Fa,cdv,s,H,E,e1,e2,e3,e4,e5,rfl⟩:=hXL
     obtain ⟨cG,cH,cw,cpp,cσ,cex,cxv,cnw⟩:=CL
     dsimp only at e1 e2 e3 e4 e5 hcv
     subst e1 e2 e3 e4 e5 hcv
     exact (zaw (zhU (zdh T) hr (by omega) hx (zac (zaa 1) (zac (by refine jd 40 ?_;kernel_rfl) (zac zal (zac zal (zac (zaw (zb1 za4)) zap)))))))) (hfr:=zaD (by kernel_rfl)) (hbind:=fun _ _ _ _=>rfl))) (by refine jd 40 ?_;kernel_rfl)) (zaj (by exact (zaC hnw zft))) zaG)
    refine zaj ?_
    exact (zaC hnw (zrF (ziF hr) (zaw (zjW (k:=21) (st:=top 40) hLB rfl (show 4∈zaP ([true,false,false,false]++[true]) by decide) hσ0 cls (fun _ _=>rfl) UR za7 rfl (UR.binds (ps:=["call"]) fun _ _ _ _ _ _ us hl=>match us,hl with|[_],_=>rfl) hmR (hr.mono (by omega)) (zbz T) zbk (fun XL CL hXL hcv hr hx=>by
     obtain ⟨⟨xp,xw,xK,xmg,xb,xA,xN,xs,xH,xenv,xo,xst,xex,xfn,xc,xpn,xxe⟩,cl,Fa,cdv,s,H,E,e1,e2,e3,e4,e5,rfl⟩:=hXL
     obtain ⟨cG,cH,cw,cpp,cσ,cex,cxv,cnw⟩:=CL
     dsimp only at e1 e2 e3 e4 e5 hcv
     subst e1 e2 e3 e4 e5 hcv
     exact (zaw (zhU (zdh T) hr (by omega) hx (zac (zaa 1) (zac (zaw (zb1 za4)) (zac zal (zac zal (zac (by refine jd 40 ?_;kernel_rfl) zap)))))))) (hfr:=zaD (by kernel_rfl)) (hbind:=fun _ _ _ _=>rfl))) (by refine jd 40 ?_;kernel_rfl)))
   ·kernel_rfl
   ·kernel_rfl
   ·exact ⟨by kernel_rfl,by kernel_rfl,by kernel_rfl,by kernel_rfl,by kernel_rfl,by kernel_rfl⟩
   ·exact ⟨by kernel_rfl,by kernel_rfl,by kernel_rfl,by kernel_rfl,by kernel_rfl,by kernel_rfl⟩
  ·kernel_rfl
  ·kernel_rfl
  ·exact ⟨by kernel_rfl,by kernel_rfl,by kernel_rfl,by kernel_rfl,by kernel_rfl,by kernel_rfl⟩
end
section
variable{P:Program}{w:World}{K:W.Frag}{mg:Str->Option Value}{base:Heap}{xv:Nat->Value}{cls:Nat->Addr}
abbrev zvn:List Str:=["script","k","state","n","m","parties","others","tree","other","guest","turn","found","<tab>","<tab2>"]
abbrev ztD:List Str:=["script"]
theorem zfN:zaz zvn ztD (zak (top 50)):=⟨rfl,rfl,rfl,by decide +kernel,rfl,by decide +kernel,by decide +kernel⟩
def zkX:DS:=(za2 (zga (zbq (dFn ziT (dA (dC (.int 1)) (dA (dFn zgl (dA (dFn zbN (dA (zab 0) dA0)) (dA (dC (.int 8)) dA0))) dA0)))) (zaM 1) (za2 (zb5 2 (zbs zcB (dR (zab 0) (dR (zab 1) dR0)))) (za2 (zmG (zjJ (dA (dOp zaA (dC (.int 1)) (zad zae (dRO 2 (dR (dC (.int 6)) dR0)))) (dA (dOp zaA (dC (.int 1)) (zad zae (dRO 2 (dR (dC (.int 4)) dR0)))) dA0))) (zeo 3 4)) (za2 (zmG (zjJ (dA (zad zbE (dRO 2 (dR (zab 3) (dR (dC (.int 5)) dR0)))) (dA (zad zbE (dRO 2 (dR (zab 4) (dR (dC (.int 4)) dR0)))) dA0))) (zeo 5 6)) (za2 (zmG (zjJ (dA (zad (zaK 8) (dRO 2 (dR (zad zaW (dRO 2 (dR (zab 3) dR0))) dR0))) (dA (zad (zaK 8) (dRO 2 (dR (zad zaW (dRO 2 (dR (zab 4) dR0))) dR0))) dA0))) (zeo 7 8)) (za2 (zbf 9 (zad zae (dRO 2 (dR (zab 3) dR0)))) (za2 (dIf (dTB (dOp gGt (dOp zaA (zab 3) (zab 4)) (dC (.int 8)))) (za2 (dIf (dTB (dOp (gEq true) (dFz (zkV 13 ze8 (zad zaT (dR (zab 3) (dR (zab 7) (dR (zab 9) (dR (zab 4) (dR (zab 8) dR0)))))))) (dC (.lst [(.int 0)])))) (zb2 (dC (.bl false))) dNx) (dIf (dTB (dOp (gEq true) (dFz (zkV 13 ze8 (dFz (zbs zaY (dR (zab 3) (dR (zab 5) (dR (zab 9) (dR (zab 4) (dR (zab 6) dR0))))))))) (dC (.lst [(.int 0)])))) (zb2 (dC (.bl false))) dNx)) (dIf (zbL (dTB (zad (zar 16) (dR (zad zaT (dR (zab 3) (dR (zab 7) (dR (zab 9) (dR (zab 4) (dR (zab 8) dR0)))))) (dR (zad zbO (dR (zab 3) (dR (zab 7) (dR (zab 9) (dR (zab 4) (dR (zab 8) dR0)))))) dR0))))) (zb2 (dC (.bl false))) (dIf (dTB (dOp gGt (dOp zaA (dFn zbN (dA (zab 5) dA0)) (dFn zbN (dA (zab 6) dA0))) (dC (.int 7)))) (dIf (dTB (dOp (gEq true) (dFz (zkV 13 ze8 (dFz (zbs zaY (dR (zab 3) (dR (zab 5) (dR (zab 9) (dR (zab 4) (dR (zab 6) dR0))))))))) (dC (.lst [(.int 1)])))) (zb2 (dC (.bl false))) dNx) (zga (zbq (dC (.int 2))) (zaM 10) (za2 (zb5 11 (zbs zaY (dR (zab 3) (dR (zab 5) (dR (zab 9) (dR (zab 4) (dR (zab 6) dR0))))))) (za2 (dIf (zbL (dTB (ziD 11 (dFz (zbs zcP (dR (zab 3) (dR (zab 5) (dR (zab 9) (dR (zab 4) (dR (zab 6) dR0))))))) (zar 16)))) (zb2 (dC (.bl false))) dNx) (dEx (zd2 11 (dC (.int 0)))))))))) (dIf (zbL (dTB (zad zaL (dRT 12 (dRO 2 (dR (zab 3) (dR (zab 7) (dR (zab 8) dR0)))))))) (zb2 (dC (.bl false))) dNx)))))))) (zb2 (dC (.bl true))))
theorem zvr(T:Tx K mg cls){f PT QT cM:Addr}{fd:FuncData}(hPQ:PT≠QT)(hcM:fd.code=.ref cM)(hchM:W.codeHdIn K cM QT=true)(hbmQ:base.BuiltinsAt mg QT)(hKb:K.In base)(U:Fun K "law" "law" (top 50) f fd)(DT:zuU P w K mg base (CXe P w) (xvC cls) 38 (Str.ofString "_law_refusals_right") ([true,false,false,false]++[true]) PT zaL):zfC P w K mg base (CXe P w) 41 f fd ztD (ztR K PT QT (znf 11 zfb ze8 zkX)):=by
  obtain ⟨fR,fdR,UR,hmR⟩:=T.u__law_refused
  refine zsJ (k:=40) (m:=11) (xt:="<tab>") (xu:="<tab2>") (q:=zfb) (q2:=ze8) (xv:=xvC cls) hPQ U hcM hchM zfN rfl rfl (by unfold Vis;decide +kernel) rfl (by unfold Vis;decide +kernel) hbmQ hKb fun X C hX hpp hσ0 hσQ hxv hnw hr hx hpo hLB=>?_
  obtain ⟨cdv,A,outer,s,H,E,rfl⟩:=hX
  obtain ⟨cG,cH,cw,cpp,cσ,cex,cxv,cnw⟩:=C
  dsimp only at hpp hσ0 hσQ hxv hnw
  subst hpp hxv hnw
  have hnw:(false:Bool)=false:=rfl
  exact (zaf (by exact (zg3 hpo rfl (zbD rfl T.b_range (zuE rfl T.b_max zal (zrr rfl T.b_min (zfg T.b_len (zaa 0)) zal))) (zaO (i:=1) zfN.nd rfl (by first|exact Or.inl rfl|exact Or.inr rfl) (show 1∉([12,13]:List Nat) by decide)) (zaf (by exact (zdP (i:=2) zfN.nd rfl (by first|exact Or.inl rfl|exact Or.inr rfl) (show 2∉([12,13]:List Nat) by decide) (zhU (zkE T) hr (by omega) hx (zac (zaa 0) (zac (zaa 1) zap))))) (zaf (by exact (zoM (zfH (zao (zbj zal (za8 (zaJ T) hr (by omega) hx (zbC 2 (zac zal zap)))) (zao (zbj zal (za8 (zaJ T) hr (by omega) hx (zbC 2 (zac zal zap)))) za4))) (zju (i:=3) (j:=4) rfl zfN.nd rfl rfl (by first|exact Or.inl rfl|exact Or.inr rfl) (by first|exact Or.inl rfl|exact Or.inr rfl) (show 3∉([12,13]:List Nat) by decide) (show 4∉([12,13]:List Nat) by decide)) (hw:=by kernel_rfl))) (zaf (by exact (zoM (zfH (zao (za8 (zfk T) hr (by omega) hx (zbC 2 (zac (zaa 3) (zac zal zap)))) (zao (za8 (zfk T) hr (by omega) hx (zbC 2 (zac (zaa 4) (zac zal zap)))) za4))) (zju (i:=5) (j:=6) rfl zfN.nd rfl rfl (by first|exact Or.inl rfl|exact Or.inr rfl) (by first|exact Or.inl rfl|exact Or.inr rfl) (show 5∉([12,13]:List Nat) by decide) (show 6∉([12,13]:List Nat) by decide)) (hw:=by kernel_rfl))) (zaf (by exact (zoM (zfH (zao (za8 (zfx T 8) hr (by omega) hx (zbC 2 (zac (za8 (zeP T) hr (by omega) hx (zbC 2 (zac (zaa 3) zap))) zap))) (zao (za8 (zfx T 8) hr (by omega) hx (zbC 2 (zac (za8 (zeP T) hr (by omega) hx (zbC 2 (zac (zaa 4) zap))) zap))) za4))) (zju (i:=7) (j:=8) rfl zfN.nd rfl rfl (by first|exact Or.inl rfl|exact Or.inr rfl) (by first|exact Or.inl rfl|exact Or.inr rfl) (show 7∉([12,13]:List Nat) by decide) (show 8∉([12,13]:List Nat) by decide)) (hw:=by kernel_rfl))) (zaf (by exact (zbt (i:=9) zfN.nd rfl (by first|exact Or.inl rfl|exact Or.inr rfl) (show 9∉([12,13]:List Nat) by decide) (za8 (zaJ T) hr (by omega) hx (zbC 2 (zac (zaa 3) zap))))) (zaf (by exact (zbI (zjm (zbj (zaa 3) (zaa 4)) zal) (zaf (by exact (zbI (zih (ziF hr) (zaw (zjW (k:=32) (st:=top 40) hLB rfl (show 13∈([12,13]:List Nat) by decide) hσQ cls (fun _ _=>rfl) UR za7 rfl (UR.binds (ps:=["call"]) fun _ _ _ _ _ _ us hl=>match us,hl with|[_],_=>rfl) hmR (hr.mono (by omega)) (zbz T) zbk (fun XL CL hXL hcv hr hx=>by
   obtain ⟨⟨xp,xw,xK,xmg,xb,xA,xN,xs,xH,xenv,xo,xst,xex,xfn,xc,xpn,xxe⟩,cl,Fa,cdv,s,H,E,e1,e2,e3,e4,e5,rfl⟩:=hXL
   obtain ⟨cG,cH,cw,cpp,cσ,cex,cxv,cnw⟩:=CL
   dsimp only at e1 e2 e3 e4 e5 hcv
   subst e1 e2 e3 e4 e5 hcv
   exact (za8 (zcO T) hr (by omega) hx (zac (zaa 3) (zac (zaa 7) (zac (zaa 9) (zac (zaa 4) (zac (zaa 8) zap))))))) (hfr:=zaD (by kernel_rfl)) (hbind:=fun _ _ _ _=>rfl))) (by refine jd 40 ?_;kernel_rfl)) (zaj (by exact (zaC hnw zft))) zaG)) (zaj (by exact (zbI (zih (ziF hr) (zaw (zjW (k:=21) (st:=top 40) hLB rfl (show 13∈([12,13]:List Nat) by decide) hσQ cls (fun _ _=>rfl) UR za7 rfl (UR.binds (ps:=["call"]) fun _ _ _ _ _ _ us hl=>match us,hl with|[_],_=>rfl) hmR (hr.mono (by omega)) (zbz T) zbk (fun XL CL hXL hcv hr hx=>by
   obtain ⟨⟨xp,xw,xK,xmg,xb,xA,xN,xs,xH,xenv,xo,xst,xex,xfn,xc,xpn,xxe⟩,cl,Fa,cdv,s,H,E,e1,e2,e3,e4,e5,rfl⟩:=hXL
   obtain ⟨cG,cH,cw,cpp,cσ,cex,cxv,cnw⟩:=CL
   dsimp only at e1 e2 e3 e4 e5 hcv
   subst e1 e2 e3 e4 e5 hcv
   exact (zaw (zhU (zdh T) hr (by omega) hx (zac (zaa 3) (zac (zaa 5) (zac (zaa 9) (zac (zaa 4) (zac (zaa 6) zap)))))))) (hfr:=zaD (by kernel_rfl)) (hbind:=fun _ _ _ _=>rfl))) (by refine jd 40 ?_;kernel_rfl)) (zaj (by exact (zaC hnw zft))) zaG)))) (zaj (by exact (zbI (zeu (zcD (za8 (zf1 T 16) hr (by omega) hx (zac (za8 (zcO T) hr (by omega) hx (zac (zaa 3) (zac (zaa 7) (zac (zaa 9) (zac (zaa 4) (zac (zaa 8) zap)))))) (zac (za8 (zhF T) hr (by omega) hx (zac (zaa 3) (zac (zaa 7) (zac (zaa 9) (zac (zaa 4) (zac (zaa 8) zap)))))) zap))))) (zaj (by exact (zaC hnw zft))) (zaj (by exact (zbI (zjm (zbj (zfg T.b_len (zaa 5)) (zfg T.b_len (zaa 6))) zal) (zaj (by exact (zbI (zih (ziF hr) (zaw (zjW (k:=21) (st:=top 40) hLB rfl (show 13∈([12,13]:List Nat) by decide) hσQ cls (fun _ _=>rfl) UR za7 rfl (UR.binds (ps:=["call"]) fun _ _ _ _ _ _ us hl=>match us,hl with|[_],_=>rfl) hmR (hr.mono (by omega)) (zbz T) zbk (fun XL CL hXL hcv hr hx=>by
   obtain ⟨⟨xp,xw,xK,xmg,xb,xA,xN,xs,xH,xenv,xo,xst,xex,xfn,xc,xpn,xxe⟩,cl,Fa,cdv,s,H,E,e1,e2,e3,e4,e5,rfl⟩:=hXL
   obtain ⟨cG,cH,cw,cpp,cσ,cex,cxv,cnw⟩:=CL
   dsimp only at e1 e2 e3 e4 e5 hcv
   subst e1 e2 e3 e4 e5 hcv
   exact (zaw (zhU (zdh T) hr (by omega) hx (zac (zaa 3) (zac (zaa 5) (zac (zaa 9) (zac (zaa 4) (zac (zaa 6) zap)))))))) (hfr:=zaD (by kernel_rfl)) (hbind:=fun _ _ _ _=>rfl))) (by refine jd 40 ?_;kernel_rfl)) (zaj (by exact (zaC hnw zft))) zaG))) (zaj (by exact (zg3 hpo rfl (zbD rfl T.b_range zal) (zaO (i:=10) zfN.nd rfl (by first|exact Or.inl rfl|exact Or.inr rfl) (show 10∉([12,13]:List Nat) by decide)) (zaf (by exact (zdP (i:=11) zfN.nd rfl (by first|exact Or.inl rfl|exact Or.inr rfl) (show 11∉([12,13]:List Nat) by decide) (zhU (zdh T) hr (by omega) hx (zac (zaa 3) (zac (zaa 5) (zac (zaa 9) (zac (zaa 4) (zac (zaa 6) zap)))))))) (zaf (by exact (zbI (zeu (zcD (zpE 11 (zf1 T 16) hr (by omega) hx (zaw (zhU (zmQ T) hr (by omega) hx (zac (zaa 3) (zac (zaa 5) (zac (zaa 9) (zac (zaa 4) (zac (zaa 6) zap)))))))))) (zaj (by exact (zaC hnw zft))) zaG)) (zaj (by exact (zb6 (zgq 11 zal))))))))))))))))) (zaj (by exact (zbI (zeu (zcD (zti DT hr (by omega) hx (show 12∈([12,13]:List Nat) by decide) hσ0 (zbC 2 (zac (zaa 3) (zac (zaa 7) (zac (zaa 8) zap))))))) (zaj (by exact (zaC hnw zft))) zaG))))))))))) (zaj (by exact (zaC hnw zft))))
end
theorem zlA{x y:Dt}{bs:List B}:∀{ρ:Ev}{k:Nat},zfq [.d x,.d y] bs k ρ = ρ
 |[],_=>rfl
 |o::r,k=>by
  show (match zd8 [.d x,.d y] k with|some j=>bs[j]?|none=>o)::zfq [.d x,.d y] bs (k+1) r=_
  rw[zlA (ρ:=r)];rfl
theorem zdv{F:FD}{fa:De}{ρ ρ':Ev}{d y:Dt}{l:List B}(h:fa ρ=.ok (d,ρ'))(hF:F [.val d]=.ok (y,l)):zad F (dR fa dR0) ρ=.ok (y,ρ'):=by
 unfold zad dR dR0
 rw[h]
 simp only[R.bind_ok,zgL,zaN,if_true,za1,hF]
 rw[zm1]
theorem zep{F:FD}{fa fb:De}{ρ ρ' ρ'':Ev}{d e y:Dt}{l:List B}(h:fa ρ=.ok (d,ρ'))(h2:fb ρ'=.ok (e,ρ''))(hF:F [.val d,.val e]=.ok (y,l)):zad F (dR fa (dR fb dR0)) ρ=.ok (y,ρ''):=by
 unfold zad dR dR0
 rw[h]
 simp only[R.bind_ok,h2,zgL,zaN,if_true,za1,hF]
 rw[zlA]
theorem zjC{i k:Nat}{d:Dt}:zd8 [.s i,.d d] k=if i=k then some 0 else none:=by
 unfold zd8 zdF
 split <;> rfl
theorem zoI{i:Nat}{d:Dt}{b:B}{bs:List B}:∀{ρ:Ev}{k:Nat},k<=i->zfq [.s i,.d d] (b::bs) k ρ = ρ.set (i-k) (some b)
 |[],k,_=>by simp[zfq]
 |o::r,k,h=>by
  unfold zfq
  rw[zjC]
  by_cases e:i=k
  ·subst e
   simp only[if_true,Nat.sub_self,List.set_cons_zero]
   have:∀(r:Ev)(m:Nat),i<m->zfq [.s i,.d d] (b::bs) m r=r:=by
    intro r
    induction r with
    |nil=>intro m _;rfl
    |cons o r ih =>
     intro m hm
     unfold zfq
     rw[zjC,if_neg (by omega),ih (m+1) (by omega)]
   rw[this r (i+1) (by omega)];rfl
  ·rw[if_neg e,zoI (k:=k+1) (by omega)]
   have:i-k=(i-(k+1))+1:=by omega
   rw[this,List.set_cons_succ]
theorem zjB{F:FD}{fb:De}{i:Nat}{ρ:Ev}{d y:Dt}{st st':List Dt}{l:List B}(hi:ρ[i]? = some (some (.own st)))(h:fb ρ=.ok (d,ρ))(hF:F [.own st,.val d]=.ok (y,.own st'::l)):zad F (dRO i (dR fb dR0)) ρ=.ok (y,ρ.set i (some (.own st'))):=by
 have u:zgL [.s i,.d d]=true:=by
  unfold zgL zaN
  rw[zjC]
  simp[zaN]
 unfold zad dRO dR dR0
 simp only[hi,h,R.bind_ok,u,if_true,za1,zjN,hF]
 rw[zoI (Nat.zero_le _)]
 rfl
theorem zas{nw:Bool}{ks:List Bool}{m:Nat}{body:DS}{bs:List B}{d:Dt}{ρ':Ev}{l:List B}(hk:zbH bs=ks)(hb:body (bs.map some++List.replicate m none)=.ok (.rt d,ρ'))(hl:za0 ks ρ'=.ok l):zat nw ks m body bs=.ok (d,l):=by
 unfold zat
 rw[if_pos hk,hb]
 simp only[R.bind_ok,hl]
theorem zkn{ks:List Bool}{m:Nat}{body:DS}{bs:List B}{ρ':Ev}{l:List B}(hk:zbH bs=ks)(hb:body (bs.map some++List.replicate m none)=.ok (.nx,ρ'))(hl:za0 ks ρ'=.ok l):zat false ks m body bs=.ok (.non,l):=by
 unfold zat
 rw[if_pos hk,hb]
 simp only[R.bind_ok,hl]
 rfl
def St(st:List Dt):Prop:=∃ s b,st=[.int s,.bl b]
theorem zbr{st:List Dt}{m:Int}(h:St st)(h0:0<m)(h1:m<1073741824):∃(v:Int)(st':List Dt),zae [.own st,.val (.int m)]=.ok (.int v,[.own st',.val .non])/\St st'/\0<=v/\v<m:=by
 obtain ⟨s,b,rfl⟩:=h
 cases b with
 |true =>
  refine ⟨s % m,[.int (s / m),.bl true],?_,⟨_,_,rfl⟩,Int.emod_nonneg _ (by omega),Int.emod_lt_of_pos _ h0⟩
  unfold zae zat zf5
  simp[zbH,zjN,za2,dIf,dTB,zo8,dC,atI,ixN,zbf,dOp,zns,zab,zgW,zqs,zb2,za0,h0,h1]
 |false =>
  have e1:∃ a,(s * 48271+29) % 2147483647=a/\0<=a/\a<2147483647:=⟨_,rfl,Int.emod_nonneg _ (by decide),Int.emod_lt_of_pos _ (by decide)⟩
  obtain ⟨a,ea,a0,a1⟩:=e1
  have e2:∃ c,(a * a+39373 * a+7) % 2147483629=c/\0<=c/\c<2147483629:=⟨_,rfl,Int.emod_nonneg _ (by decide),Int.emod_lt_of_pos _ (by decide)⟩
  obtain ⟨c,ec,c0,c1⟩:=e2
  have sa:zcG a=true:=by unfold zcG;simp;omega
  have sc:zcG c=true:=by unfold zcG;simp;omega
  have s1:zcG 48271=true:=by decide
  have s2:zcG 39373=true:=by decide
  have s3:zcG 16807=true:=by decide
  refine ⟨(c * c+16807 * c) % 2147483587 / 8 % m,[.int a,.bl false],?_,⟨_,_,rfl⟩,Int.emod_nonneg _ (by omega),Int.emod_lt_of_pos _ h0⟩
  unfold zae zat zf5
  simp[zbH,zjN,za2,dIf,dTB,zo8,dC,atI,ixN,zbf,dOp,zns,zit,zaA,zab,zgW,zqs,zb2,dNx,za0,h0,h1,ea,ec,sa,sc,s1,s2,s3]
theorem zfT:∀(n:Nat)(d:Dt),okN n d=true->okN (n+1) d=true
 |_,.non,_=>by simp[okN]
 |_,.bl _,_=>by simp[okN]
 |_,.int _,_=>by simp[okN]
 |n,.str x,h=>by cases n <;> simpa [okN] using h
 |0,.tup l,h=>by simp[okN] at h
 |0,.lst l,h=>by simp[okN] at h
 |n+1,.tup l,h=>by
  simp only[okN,List.all_eq_true] at h ⊢
  exact fun d hd=>zfT n d (h d hd)
 |n+1,.lst l,h=>by
  simp only[okN,List.all_eq_true] at h ⊢
  exact fun d hd=>zfT n d (h d hd)
 |n,.dct,h=>by cases n <;> simp[okN] at h
 |n,.scr _,h=>by cases n <;> simp[okN] at h
theorem ztZ{n m:Nat}{d:Dt}(h:okN n d=true)(hl:n<=m):okN m d=true:=by
 induction hl with
 |refl=>exact h
 |step _ ih=>exact zfT _ _ ih
theorem zkZ{n:Nat}{v:Int}(h0:0<=v)(h1:v<n):ixN n v=some v.toNat:=by
 unfold ixN
 rw[if_pos h0,if_pos h1]
theorem ziE{α:Type}:∀{l:List α}{j:Nat}{d:α},l[j]? = some d->(d::l.eraseIdx j).Perm l
 |[],_,_,h=>by simp at h
 |a::l,0,d,h=>by simp at h;subst h;exact .refl _
 |a::l,j+1,d,h=>by
  have:=ziE (l:=l) (j:=j) (d:=d) (by simpa using h)
  exact (List.Perm.swap a d _).trans (this.cons a)
theorem zek{neg:Bool}{x y:Dt}(h1:okN 60 x=true)(h2:okN 60 y=true):gEq neg x y=.ok (.bl (if neg then !eqD x y else eqD x y)):=by
 unfold gEq
 rw[h1,h2];rfl
theorem zjZ{d:Dt}{l:List Dt}:eqD (.lst (d::l)) (.lst [])=false:=by rw[eqD];simp[zk0]
theorem zlu:eqD (.lst []) (.lst [])=true:=by rw[eqD,zk0]
theorem zux{st found l:List Dt}{o:Option B}{b:Bool}(h:okN 60 (.lst l)=true)(e:(!eqD (.lst l) (.lst []))=b):dTB (ztg true 2 (dFz (zbY dA0))) [some (.own st),o,some (.own l),some (.own found)]=.ok (b,[some (.own st),o,some (.own l),some (.own found)]):=by
 show (((gEq true (.lst l) (.lst [])).bind fun z=>.ok (z,[some (.own st),o,some (.own l),some (.own found)])).bind fun (a:Dt×Ev)=>match a.1 with|.bl b=>.ok (b,a.2)|_=>.no)=_
 rw[zek h rfl]
 simp only[if_true,e]
 rfl
theorem zi3{things:Option B}:∀(n:Nat)(left found:List Dt)(st:List Dt),left.length<n->left.length+found.length<=1000->(∀ d∈left,okN 59 d=true)->St st->∃ st' p,St st'/\p.Perm left /\
  zef (dTB (ztg true 2 (dFz (zbY dA0)))) (dEx (zd2 3 (zi6 2 (zad zae (dRO 0 (dR (zn3 2) dR0)))))) n [some (.own st),things,some (.own left),some (.own found)]=.ok (.nx,[some (.own st'),things,some (.own []),some (.own (found++p))])
 |0,left,found,st,h,_,_,_=>absurd h (Nat.not_lt_zero _)
 |n+1,[],found,st,h,hl,hk,hs=>by
  refine ⟨st,[],hs,.refl _,?_⟩
  unfold zef
  rw[zux (b:=false) rfl (by rw[zlu];rfl)]
  simp
 |n+1,d::left,found,st,h,hl,hk,hs=>by
  obtain ⟨v,st1,e,hs1,v0,v1⟩:=zbr (m:=((d::left).length:Nat)) hs (by simp only[List.length_cons];omega) (by simp only[List.length_cons] at hl ⊢;omega)
  have hv:v.toNat<(d::left).length:=by omega
  have hget:(d::left)[v.toNat]? = some (d::left)[v.toNat]:=by simp[hv]
  have hel:=ziE hget
  have hlen:((d::left).eraseIdx v.toNat).length=left.length:=by
   have:=hel.length_eq
   simp only[List.length_cons] at this
   omega
  obtain ⟨st',p,hs',hp,hw⟩:=zi3 (things:=things) n ((d::left).eraseIdx v.toNat) (found++[(d::left)[v.toNat]]) st1 (by simp only[List.length_cons] at h;omega) (by simp only[List.length_append,List.length_cons,List.length_nil] at hl ⊢;omega)
   (fun x hx=>hk x (hel.mem_iff.mp (List.mem_cons_of_mem _ hx))) hs1
  refine ⟨st',(d::left)[v.toNat]::p,hs',((hp.cons _).trans hel),?_⟩
  have hall:((d::left).all (okN 59))=true:=List.all_eq_true.mpr hk
  have ec:zad zae (dRO 0 (dR (zn3 2) dR0)) [some (.own st),things,some (.own (d::left)),some (.own found)]=.ok (.int v,[some (.own st1),things,some (.own (d::left)),some (.own found)]):=zjB (ρ:=[some (.own st),things,some (.own (d::left)),some (.own found)]) rfl rfl e
  have hm:zeD v=true:=by unfold zeD;simp;simp only[List.length_cons] at hl v1;omega
  unfold zef
  have t1:=zux (st:=st) (found:=found) (l:=d::left) (o:=things) (b:=true) (show okN 60 (.lst (d::left))=true from hall) (by rw[zjZ];rfl)
  rw[t1]
  simp only[R.bind_ok,if_true]
  have t2:dEx (zd2 3 (zi6 2 (zad zae (dRO 0 (dR (zn3 2) dR0))))) [some (.own st),things,some (.own (d::left)),some (.own found)]=.ok (.nx,[some (.own st1),things,some (.own ((d::left).eraseIdx v.toNat)),some (.own (found++[(d::left)[v.toNat]]))]):=by
   have hpop:zpN (d::left) v=some ((d::left)[v.toNat],(d::left).eraseIdx v.toNat):=by
    unfold zpN
    rw[if_pos hm,zkZ v0 v1]
    simp only[hget]
   unfold dEx zd2 zi6
   simp only[List.getElem?_cons_succ,List.getElem?_cons_zero,ec,R.bind_ok,hpop,List.set_cons_succ,List.set_cons_zero]
   rw[if_pos (by omega)]
   rfl
  rw[t2]
  simp only[R.bind_ok]
  rw[hw]
  simp
theorem zax{g:Dt->Dt->R Dt}{fa fb:De}{ρ ρ1 ρ2:Ev}{d e z:Dt}(h1:fa ρ=.ok (d,ρ1))(h2:fb ρ1=.ok (e,ρ2))(h3:g d e=.ok z):dOp g fa fb ρ=.ok (z,ρ2):=by
 unfold dOp
 rw[h1]
 simp only[R.bind_ok,h2,h3]
theorem zbn{f:De}{ρ ρ1:Ev}{b:Bool}(h:f ρ=.ok (.bl b,ρ1)):dTB f ρ=.ok (b,ρ1):=by
 unfold dTB
 rw[h];rfl
theorem zdB{c:DT}{f g:DS}{ρ ρ1:Ev}(h:c ρ=.ok (true,ρ1)):dIf c f g ρ=f ρ1:=by
 unfold dIf
 rw[h];rfl
theorem zcn{c:DT}{f g:DS}{ρ ρ1:Ev}(h:c ρ=.ok (false,ρ1)):dIf c f g ρ=g ρ1:=by
 unfold dIf
 rw[h];rfl
theorem zag{f g:DS}{ρ ρ1:Ev}(h:f ρ=.ok (.nx,ρ1)):za2 f g ρ=g ρ1:=by
 unfold za2
 rw[h];rfl
theorem ze2{f g:DS}{ρ ρ1:Ev}{d:Dt}(h:f ρ=.ok (.rt d,ρ1)):za2 f g ρ=.ok (.rt d,ρ1):=by
 unfold za2
 rw[h];rfl
theorem zb8{f:De}{ρ ρ1:Ev}{d:Dt}(h:f ρ=.ok (d,ρ1)):zb2 f ρ=.ok (.rt d,ρ1):=by
 unfold zb2
 rw[h];rfl
theorem zbv{f:De}{i:Nat}{ρ ρ1:Ev}{d:Dt}(h:f ρ=.ok (d,ρ1))(hi:i < ρ1.length):zbf i f ρ=.ok (.nx,ρ1.set i (some (.val d))):=by
 unfold zbf
 rw[h]
 simp only[R.bind_ok,hi,if_true]
theorem zdY{f:DN}{i:Nat}{ρ ρ1:Ev}{d:List Dt}(h:f ρ=.ok (d,ρ1))(hi:i < ρ1.length):zb5 i f ρ=.ok (.nx,ρ1.set i (some (.own d))):=by
 unfold zb5
 rw[h]
 simp only[R.bind_ok,hi,if_true]
theorem zba{f:DN}{ρ ρ1:Ev}{d:List Dt}(h:f ρ=.ok (d,ρ1)):dFz f ρ=.ok (.lst d,ρ1):=by
 unfold dFz
 rw[h];rfl
theorem zen{f:De}{ρ ρ1:Ev}{d:Dt}(h:f ρ=.ok (d,ρ1)):dEx f ρ=.ok (.nx,ρ1):=by
 unfold dEx
 rw[h];rfl
theorem zbM{g:List Dt->R Dt}{f:De}{ρ ρ1:Ev}{d z:Dt}(h:f ρ=.ok (d,ρ1))(hg:g [d]=.ok z):dFn g (dA f dA0) ρ=.ok (z,ρ1):=by
 unfold dFn dA dA0
 rw[h]
 simp only[R.bind_ok,hg]
theorem zm8{f g:DT}{ρ ρ1:Ev}(h:f ρ=.ok (false,ρ1)):zn5 f g ρ=g ρ1:=by
 unfold zn5
 rw[h];rfl
theorem ztw{f g:DT}{ρ ρ1:Ev}(h:f ρ=.ok (true,ρ1)):zn5 f g ρ=.ok (true,ρ1):=by
 unfold zn5
 rw[h];rfl
theorem zj8{f g:DT}{ρ ρ1:Ev}(h:f ρ=.ok (true,ρ1)):zgI f g ρ=g ρ1:=by
 unfold zgI
 rw[h];rfl
theorem zok{f g:DT}{ρ ρ1:Ev}(h:f ρ=.ok (false,ρ1)):zgI f g ρ=.ok (false,ρ1):=by
 unfold zgI
 rw[h];rfl
theorem zdL{f:DT}{ρ ρ1:Ev}{b:Bool}(h:f ρ=.ok (b,ρ1)):zbL f ρ=.ok (!b,ρ1):=by
 unfold zbL
 rw[h];rfl
theorem zsd{ρ0:Ev}{o:Option B}{d:Dt}:zaM ρ0.length d (ρ0++[o])=.ok (ρ0++[some (.val d)]):=by
 unfold zaM
 rw[if_pos (by simp)]
 simp
theorem zoV{ρ0:Ev}{d:Dt}:zab ρ0.length (ρ0++[some (.val d)])=.ok (d,ρ0++[some (.val d)]):=by
 unfold zab
 simp
theorem zk2{α:Type}{u f:α->Dt}{fe:De}{ρ0:Ev}:∀{l:List α}{o:Option B},(∀ a∈l,fe (ρ0++[some (.val (u a))])=.ok (f a,ρ0++[some (.val (u a))]))->∃ o',zb3 (zaM ρ0.length) dTT fe (l.map u) (ρ0++[o])=.ok (l.map f,ρ0++[o'])
 |[],o,_=>⟨o,rfl⟩
 |a::l,o,h=>by
  obtain ⟨o',e⟩:=zk2 (l:=l) (o:=some (.val (u a))) fun b hb=>h b (by simp[hb])
  refine ⟨o',?_⟩
  rw[List.map_cons,zb3,zsd]
  simp only[R.bind_ok,dTT,if_true]
  rw[h a (by simp)]
  simp only[R.bind_ok]
  rw[e]
  rfl
theorem zbg{α:Type}{u f:α->Dt}{fe:De}{ρ0:Ev}{fi:DA}{l:List α}{ds:List Dt}(hi:fi ρ0=.ok (ds,ρ0))(hd:ds=l.map u)(hl:l.length<=1000)(h:∀ a∈l,fe (ρ0++[some (.val (u a))])=.ok (f a,ρ0++[some (.val (u a))])){j:Nat}(hj:j = ρ0.length) :
  za3 fi (zaM j) dTT fe 1 ρ0=.ok (l.map f,ρ0):=by
 subst hd;subst hj
 obtain ⟨o',e⟩:=zk2 (o:=none) h
 unfold za3
 rw[hi]
 simp only[R.bind_ok]
 rw[if_pos (by unfold zem;simp;omega)]
 show (match zb3 (zaM ρ0.length) dTT fe (l.map u) (ρ0++[none]) with|.ok z=>R.ok (z.1,z.2.take ρ0.length)|_=>.no)=_
 rw[e]
 simp
theorem zmc{α:Type}{a:α}{l:List α}:atI (a::l) 0=some a:=by
 unfold atI ixN
 simp
theorem eqI{a b:Int}:eqD (.int a) (.int b)=(a == b):=by rw[eqD]
theorem zrb{F:FD}{fb:De}{i:Nat}{ρ ρ1:Ev}{d y:Dt}{b0:B}{st st':List Dt}{l:List B}(hi0:ρ[i]? = some (some b0))(h:fb ρ=.ok (d,ρ1))(hi:ρ1[i]? = some (some (.own st)))(hF:F [.own st,.val d]=.ok (y,.own st'::l)):zad F (dRO i (dR fb dR0)) ρ=.ok (y,ρ1.set i (some (.own st'))):=by
 have u:zgL [.s i,.d d]=true:=by
  unfold zgL zaN
  rw[zjC]
  simp[zaN]
 unfold zad dRO dR dR0
 simp only[hi0,h,R.bind_ok,u,if_true,za1,hi,zjN,hF]
 rw[zoI (Nat.zero_le _)]
 rfl
theorem zlW{x:Option B}{zcc:Ev}{o:Option B}{d:Dt}:zaM (zcc.length+1) d (x::(zcc++[o]))=.ok (x::(zcc++[some (.val d)])):=by
 unfold zaM
 rw[if_pos (by simp)]
 simp
theorem zjR{p:List Dt}{l:List Int}(h:p.Perm (l.map .int)):∃ q:List Int,q.Perm l/\p=q.map .int:=by
 refine ⟨p.map fun d=>match d with|.int i=>i|_=>0,?_,?_⟩
 ·have:=h.map fun d=>match d with|.int i=>i|_=>0
  rw[List.map_map] at this
  have e:((fun d=>match d with|.int i=>i|_=>0) ∘ Dt.int)=(id:Int->Int):=rfl
  rw[e,List.map_id] at this
  exact this
 ·rw[List.map_map]
  conv=>lhs;rw[<- List.map_id p]
  refine List.map_congr_left fun d hd=>?_
  obtain ⟨i,_,rfl⟩:=List.mem_map.mp (h.mem_iff.mp hd)
  rfl
def isW:Dt->Bool
 |.int _=>true
 |_=>false
theorem zge(d:Dt):zcd [.val d]=.ok (.bl (isW d),[.val .non]):=by
 cases d <;> simp[zcd,zat,ziG,zbH,zjN,zb2,zkS,zes,zab,zuJ,zi1,tyD,za0,isW]
theorem ziY{n:Int}(h1:1<=n)(h7:n<=7):zaq [.val (.int n)]=.ok (.non,[.val .non]):=by
 have e:zad zcd (dR (zab 0) dR0) [some (.val (.int n))]=.ok (.bl true,[some (.val (.int n))]):=zdv (ρ':=[some (.val (.int n))]) rfl (zge _)
 have a1:decide (n<1)=false:=by simp;omega
 have a2:decide (7<n)=false:=by simp;omega
 simp[zaq,zat,zbV,zbH,zjN,dIf,zn5,zbL,dTB,e,dOp,zab,dC,zn4,a1,a2,dNx,za0]
theorem zgX{d:Dt}(h:isW d=false\/∃ n,d=.int n/\(n<1\/7<n)):zaq [.val d]=.er 0:=by
 have e:zad zcd (dR (zab 0) dR0) [some (.val d)]=.ok (.bl (isW d),[some (.val d)]):=zdv (ρ':=[some (.val d)]) rfl (zge _)
 rcases h with h|⟨n,rfl,h⟩
 ·simp[zaq,zat,zbV,zbH,zjN,dIf,zn5,zbL,dTB,e,h,zei,dA,dC,dA0,zem]
 ·have hw:isW (.int n)=true:=rfl
  by_cases h1:n<1
  ·simp[zaq,zat,zbV,zbH,zjN,dIf,zn5,zbL,dTB,e,hw,dOp,zab,dC,zn4,h1,zei,dA,dA0,zem]
  ·have h7:7<n:=by omega
   simp[zaq,zat,zbV,zbH,zjN,dIf,zn5,zbL,dTB,e,hw,dOp,zab,dC,zn4,h1,h7,zei,dA,dA0,zem]
def isG(n:Int):Dt->Bool
 |.int i=>decide (0<=i) && decide (i<n)
 |_=>false
theorem zgr(n:Int)(d:Dt):zb0 [.val (.int n),.val d]=.ok (.bl (isG n d),[.val .non,.val .non]):=by
 have e:zad zcd (dR (zab 1) dR0) [some (.val (.int n)),some (.val d)]=.ok (.bl (isW d),[some (.val (.int n)),some (.val d)]):=zdv (ρ':=[some (.val (.int n)),some (.val d)]) rfl (zge _)
 cases d with
 |int i =>
  by_cases h:0<=i
  ·simp[zb0,zat,zfc,zbH,zjN,zb2,zkS,e,isW,zkL,dC,zab,zn4,h,isG,za0]
  ·simp[zb0,zat,zfc,zbH,zjN,zb2,zkS,e,isW,zkL,dC,zab,zn4,h,isG,za0]
 |_=>simp[zb0,zat,zfc,zbH,zjN,zb2,zkS,e,isW,isG,za0]
theorem zuL{neg:Bool}{i j:Int}:gEq neg (.int i) (.int j)=.ok (.bl (if neg then !(i == j) else (i == j))):=by
 rw[zek rfl rfl,eqI]
theorem zlR{ρ0:Ev}{o:Option B}{d:Dt}:zaM ρ0.length d (ρ0++[o])=.ok (ρ0++[some (.val d)]):=by
 unfold zaM
 rw[if_pos (by simp)]
 simp
def zbh(n:Nat):List Int:=(List.range n).map fun (k:Nat)=>(k:Int)
theorem zfQ(n:Nat):zaI 0 n=(zbh n).map .int:=by
 unfold zaI zbh
 rw[List.map_map]
 refine List.map_congr_left fun k _=>?_
 simp
theorem zgy:∀(a b:List Int),a.Nodup->(∀ x∈a,x∈b)->b.length<=a.length->a.Perm b
 |[],b,_,_,h=>by
  have:b=[]:=List.length_eq_zero_iff.mp (by simpa using h)
  subst this;exact .refl _
 |x::a,b,hn,hs,hl=>by
  rw[List.nodup_cons] at hn
  have hx:x∈b:=hs x (by simp)
  have hp:=List.perm_cons_erase hx
  have hlen:=hp.length_eq
  simp only[List.length_cons] at hlen hl
  have:=zgy a (b.erase x) hn.2 (fun y hy=>(List.mem_erase_of_ne (fun (e:y=x)=>hn.1 (e ▸ hy))).mpr (hs y (by simp[hy]))) (by omega)
  exact (this.cons x).trans hp.symm
theorem zdx{n:Nat}{x:Int}:x∈zbh n ↔ 0<=x/\x<n:=by
 unfold zbh
 rw[List.mem_map]
 constructor
 ·rintro ⟨k,hk,rfl⟩
  have:=List.mem_range.mp hk
  omega
 ·rintro ⟨h0,h1⟩
  exact ⟨x.toNat,List.mem_range.mpr (by omega),by omega⟩
theorem zbb(n:Nat):(zbh n).length=n:=by unfold zbh;simp
theorem zeR(n:Nat):(zbh n).Nodup:=by
 unfold zbh
 unfold List.Nodup
 rw[List.pairwise_map]
 refine List.Pairwise.imp (R:=fun a b=>a<b) (fun {a b} h=>by omega) List.pairwise_lt_range
theorem zj2{α:Type}{l:List α}{v:Int}(h0:0<=v)(h1:v<l.length):atI l v=l[v.toNat]? := by
 unfold atI
 rw[zkZ h0 h1];rfl
theorem zkO{l:List Dt}{v:Int}{d:Dt}(h0:0<=v)(h1:v<l.length)(hd:l[v.toNat]? = some d):gIx (.tup l) (.int v)=.ok d:=by
 unfold gIx
 simp only[zj2 h0 h1,hd]
theorem zhy{l:List Dt}{v:Int}{d:Dt}(h0:0<=v)(h1:v<l.length)(hd:l[v.toNat]? = some d):gIx (.lst l) (.int v)=.ok d:=by
 unfold gIx
 simp only[zj2 h0 h1,hd]
theorem zrl{F:FD}{fb fc:De}{i:Nat}{ρ:Ev}{d d2 y:Dt}{st st':List Dt}{l:List B}(hi:ρ[i]? = some (some (.own st)))(h:fb ρ=.ok (d,ρ))(h2:fc ρ=.ok (d2,ρ))(hF:F [.own st,.val d,.val d2]=.ok (y,.own st'::l)):zad F (dRO i (dR fb (dR fc dR0))) ρ=.ok (y,ρ.set i (some (.own st'))):=by
 have hp:∀ k,zd8 [.s i,.d d,.d d2] k=if i=k then some 0 else none:=by
  intro k
  unfold zd8 zdF
  split <;> rfl
 have u:zgL [.s i,.d d,.d d2]=true:=by
  unfold zgL zaN
  rw[hp]
  simp[zaN]
 have hput:∀(ρ:Ev)(k:Nat)(b:B)(bs:List B),k<=i->zfq [.s i,.d d,.d d2] (b::bs) k ρ = ρ.set (i-k) (some b):=by
  intro ρ
  induction ρ with
  |nil=>intro k b bs _;simp[zfq]
  |cons o r ih =>
   intro k b bs h
   unfold zfq
   rw[hp]
   by_cases e:i=k
   ·subst e
    simp only[if_true,Nat.sub_self,List.set_cons_zero]
    have:∀(r:Ev)(m:Nat),i<m->zfq [.s i,.d d,.d d2] (b::bs) m r=r:=by
     intro r
     induction r with
     |nil=>intro m _;rfl
     |cons o r ih =>
      intro m hm
      unfold zfq
      rw[hp,if_neg (by omega),ih (m+1) (by omega)]
    rw[this r (i+1) (by omega)];rfl
   ·rw[if_neg e,ih (k+1) b bs (by omega)]
    have:i-k=(i-(k+1))+1:=by omega
    rw[this,List.set_cons_succ]
 unfold zad dRO dR dR0
 simp only[hi,h,h2,R.bind_ok,u,if_true,za1,zjN,hF]
 rw[hput _ _ _ _ (Nat.zero_le _)]
 rfl
theorem zev{fa:De}{fr:DA}{ρ ρ1 ρ2:Ev}{d:Dt}{ds:List Dt}(h1:fa ρ=.ok (d,ρ1))(h2:fr ρ1=.ok (ds,ρ2)):dA fa fr ρ=.ok (d::ds,ρ2):=by
 unfold dA
 rw[h1];simp only[R.bind_ok]
 rw[h2];rfl
theorem znU{f:DA}{ρ ρ1:Ev}{ds:List Dt}(h:f ρ=.ok (ds,ρ1))(hl:ds.length<=16777216):zbY f ρ=.ok (ds,ρ1):=by
 unfold zbY
 rw[h];simp only[R.bind_ok]
 rw[if_pos (by unfold zem;simpa using hl)]
theorem zg1{f:DA}{ρ ρ1:Ev}{ds:List Dt}(h:f ρ=.ok (ds,ρ1))(hl:ds.length<=16777216):zjJ f ρ=.ok (.tup ds,ρ1):=by
 unfold zjJ
 rw[h];simp only[R.bind_ok]
 rw[if_pos (by unfold zem;simpa using hl)]
theorem zpb{ns:List Int}{k:Nat}:∃ c:Int,zc5 [.val (.scr ns),.val (.int k)]=.ok (.int c,[.val .non,.val .non]):=by
 have e0:dTB (dOp gLt (zab 1) (dFn zbN (dA (zab 0) dA0))) [some (.val (.scr ns)),some (.val (.int k))]=.ok (decide ((k:Int)<ns.length),[some (.val (.scr ns)),some (.val (.int k))]):=zbn (zax (d:=.int k) (e:=.int ns.length) rfl rfl rfl)
 by_cases h:k<ns.length
 ·refine ⟨ns[k],zas (ρ':=[some (.val (.scr ns)),some (.val (.int k))]) rfl ?_ rfl⟩
  show zbU [some (.val (.scr ns)),some (.val (.int k))]=_
  unfold zbU
  refine ze2 ?_
  rw[zdB (by rw[e0,decide_eq_true (by omega)])]
  refine zb8 (zax (d:=.scr ns) (e:=.int k) rfl rfl ?_)
  unfold gIx
  simp only[zj2 (l:=ns) (v:=(k:Int)) (by omega) (by omega),Int.toNat_natCast,List.getElem?_eq_getElem h]
 ·refine ⟨0,zas (ρ':=[some (.val (.scr ns)),some (.val (.int k))]) rfl ?_ rfl⟩
  show zbU [some (.val (.scr ns)),some (.val (.int k))]=_
  unfold zbU
  rw[zag (ρ1:=[some (.val (.scr ns)),some (.val (.int k))]) (by rw[zcn (by rw[e0,decide_eq_false (by omega)])];rfl)]
  rfl
theorem zng{ns:List Int}{k:Nat}:∃ st,St st/\zcB [.val (.scr ns),.val (.int k)]=.ok (.lst st,[.val .non,.val .non]):=by
 obtain ⟨c,hc⟩:=zpb (ns:=ns) (k:=k)
 have e1:zbf 2 (zad zc5 (dR (zab 0) (dR (zab 1) dR0))) [some (.val (.scr ns)),some (.val (.int k)),none]=.ok (.nx,[some (.val (.scr ns)),some (.val (.int k)),some (.val (.int c))]):=zbv (zep (ρ':=[some (.val (.scr ns)),some (.val (.int k)),none]) (ρ'':=[some (.val (.scr ns)),some (.val (.int k)),none]) rfl rfl hc) (by simp)
 have ep:dOp zpl (dC (.int 10)) (dC (.int 18)) [some (.val (.scr ns)),some (.val (.int k)),some (.val (.int c))]=.ok (.int 1000000000000000000,[some (.val (.scr ns)),some (.val (.int k)),some (.val (.int c))]):=by
  refine zax rfl rfl ?_
  show (if 0<=(18:Int)/\(18:Int)<=1000/\(10:Int).natAbs<18446744073709551616 then R.ok (Dt.int ((10:Int) ^ (18:Int).toNat)) else R.no)=_
  rw[if_pos (by decide)]
  rfl
 have e2:dTB (dOp gGe (zab 2) (dOp zpl (dC (.int 10)) (dC (.int 18)))) [some (.val (.scr ns)),some (.val (.int k)),some (.val (.int c))]=.ok (decide ((1000000000000000000:Int)<=c),[some (.val (.scr ns)),some (.val (.int k)),some (.val (.int c))]):=zbn (zax (d:=.int c) rfl ep rfl)
 by_cases h:(1000000000000000000:Int)<=c
 ·refine ⟨[.int (c-1000000000000000000),.bl true],⟨_,_,rfl⟩,zas (ρ':=[some (.val (.scr ns)),some (.val (.int k)),some (.val (.int c))]) rfl ?_ rfl⟩
  show zcA [some (.val (.scr ns)),some (.val (.int k)),none]=_
  unfold zcA
  rw[zag e1]
  refine ze2 ?_
  rw[zdB (by rw[e2,decide_eq_true h])]
  unfold zd6 zbY
  rw[dA,zax (d:=.int c) (z:=.int (c-1000000000000000000)) rfl ep rfl]
  rfl
 ·refine ⟨[.int (c % 2147483647),.bl false],⟨_,_,rfl⟩,zas (ρ':=[some (.val (.scr ns)),some (.val (.int k)),some (.val (.int c))]) rfl ?_ rfl⟩
  show zcA [some (.val (.scr ns)),some (.val (.int k)),none]=_
  unfold zcA
  rw[zag e1,zag (ρ1:=[some (.val (.scr ns)),some (.val (.int k)),some (.val (.int c))]) (by rw[zcn (by rw[e2,decide_eq_false h])];rfl)]
  unfold zd6 zbY
  rw[dA,zax (d:=.int c) (z:=.int (c % 2147483647)) rfl rfl rfl]
  rfl
theorem ztC{F:FD}{fa fb:De}{ρ ρ' ρ'':Ev}{d e:Dt}{y:List Dt}{l:List B}(h:fa ρ=.ok (d,ρ'))(h2:fb ρ'=.ok (e,ρ''))(hF:F [.val d,.val e]=.ok (.lst y,l)):zbs F (dR fa (dR fb dR0)) ρ=.ok (y,ρ''):=by
 unfold zbs dR dR0
 rw[h]
 simp only[R.bind_ok,h2,zgL,zaN,if_true,za1,hF]
 rw[zlA]
theorem zjh{g:DG}{body:DS}{I:Ev->Prop}:∀{ds:List Dt}{ρ:Ev},(∀ d∈ds,∀ ρ,I ρ->∃ ρ1 ρ2,g d ρ=.ok ρ1/\body ρ1=.ok (.nx,ρ2)/\I ρ2)->I ρ->∃ ρ',I ρ'/\zii g body ds ρ=.ok (.nx,ρ')
 |[],ρ,_,h=>⟨ρ,h,rfl⟩
 |d::ds,ρ,hb,h=>by
  obtain ⟨ρ1,ρ2,e1,e2,h2⟩:=hb d (by simp) ρ h
  obtain ⟨ρ',h',e⟩:=zjh (ds:=ds) (ρ:=ρ2) (fun c hc=>hb c (List.mem_cons_of_mem _ hc)) h2
  refine ⟨ρ',h',?_⟩
  rw[zii,e1]
  simp only[R.bind_ok]
  rw[e2]
  exact e
theorem zmy{F:FD}{fa fb:De}{ρ ρ' ρ'':Ev}{d e:Dt}{n:Nat}(h:fa ρ=.ok (d,ρ'))(h2:fb ρ'=.ok (e,ρ''))(hF:F [.val d,.val e]=.er n):zad F (dR fa (dR fb dR0)) ρ=.er n:=by
 unfold zad dR dR0
 rw[h]
 simp only[R.bind_ok,h2,zgL,zaN,if_true,za1,hF,R.bind_er]
def tz(p:List Int):Dt:=.tup (p.map .int)
theorem zjL(l:List Int)(n:Nat):(l.map Dt.int).all (okN n)=true:=by
 rw[List.all_eq_true]
 intro d hd
 obtain ⟨i,_,rfl⟩:=List.mem_map.mp hd
 cases n <;> rfl
theorem zsI{α:Type}{l:List α}{f m:Nat}(h:f<=l.length):zka l (some (f:Int)) (some ((f:Int)+m))=(l.drop f).take m:=by
 unfold zka
 rw[show (f:Int)+m=((f+m:Nat):Int) from rfl,HT.sIx_nat,HT.sIx_nat,Nat.min_eq_left h]
 by_cases z:f+m<=l.length
 ·rw[Nat.min_eq_left z,show f+m-f=m by omega]
 ·rw[Nat.min_eq_right (by omega),List.take_of_length_le (by simp),List.take_of_length_le (by simp;omega)]
theorem zsr(g:Int)(p:List Int):inD (.int g) (p.map .int)=p.any fun x=>x == g:=by
 unfold inD
 rw[List.any_map]
 congr 1
def zrW(x:List Dt)(k:Int)(ρ:Ev):R (List Dt×Ev):=if zeD k=true/\x.length * k.toNat<=16777216 then .ok ((List.replicate k.toNat x).flatten,ρ) else .no
theorem ztE{fa fb:De}{ρ ρ1 ρ2:Ev}{x:List Dt}{k:Int}(h0:fa ρ=.ok (.lst x,ρ1))(h:fb ρ1=.ok (.int k,ρ2)):zmU fa fb ρ=zrW x k ρ2:=by
 unfold zmU zrW
 rw[h0]
 simp only[R.bind_ok]
 rw[h]
 rfl
theorem zq4{x:List Dt}{k:Int}{ρ:Ev}(hc:zeD k=true/\x.length * k.toNat<=16777216):zrW x k ρ=.ok ((List.replicate k.toNat x).flatten,ρ):=if_pos hc
theorem zjS{m:Nat}(hm:m<=1000):zeD (m:Int)=true:=by
 unfold zeD
 rw[Bool.and_eq_true,decide_eq_true_eq,decide_eq_true_eq]
 omega
def Pty(n:Nat)(p:List Int):Prop:=p≠[]/\p.Pairwise (· < ·)/\∀ x∈p,0<=x/\x<n
theorem zm0{ft:DT}{zcc:Ev}:∀{l:List Dt}{st:List Dt}{o:Option B},(∀ d∈l,∀ st,St st->∃ b st',St st'/\ft (some (.own st)::(zcc++[some (.val d)]))=.ok (b,some (.own st')::(zcc++[some (.val d)])))->St st ->
  ∃ ys st' o',St st'/\ys.Sublist l/\zb3 (zaM (zcc.length+1)) ft (zab (zcc.length+1)) l (some (.own st)::(zcc++[o]))=.ok (ys,some (.own st')::(zcc++[o']))
 |[],st,o,_,hs=>⟨[],st,o,hs,.slnil,rfl⟩
 |d::l,st,o,h,hs=>by
  obtain ⟨b,st1,hs1,e1⟩:=h d (by simp) st hs
  obtain ⟨ys,st',o',hs',hp,e⟩:=zm0 (l:=l) (st:=st1) (o:=some (.val d)) (fun b hb=>h b (List.mem_cons_of_mem _ hb)) hs1
  have hv:zab (zcc.length+1) (some (.own st1)::(zcc++[some (.val d)]))=.ok (d,some (.own st1)::(zcc++[some (.val d)])):=by
   simp[zab]
  cases b with
  |true =>
   refine ⟨d::ys,st',o',hs',hp.cons_cons d,?_⟩
   rw[zb3,zlW]
   simp only[R.bind_ok]
   rw[e1]
   simp only[R.bind_ok,if_true]
   rw[hv]
   simp only[R.bind_ok]
   rw[e]
   rfl
  |false =>
   refine ⟨ys,st',o',hs',hp.cons d,?_⟩
   rw[zb3,zlW]
   simp only[R.bind_ok]
   rw[e1]
   simp only[R.bind_ok,Bool.false_eq_true,if_false]
   exact e
theorem zoq(n:Nat):(zbh n).Pairwise (· < ·):=by
 unfold zbh
 rw[List.pairwise_map]
 refine List.Pairwise.imp (R:=fun a b=>a<b) (fun {a b} h=>by omega) List.pairwise_lt_range
theorem zhd{zcc:Ev}{st:List Dt}{fb:De}{m:Int}{v:Int}{st':List Dt}(e:zae [.own st,.val (.int m)]=.ok (.int v,[.own st',.val .non]))(h:fb (some (.own st)::zcc)=.ok (.int m,some (.own st)::zcc)):zad zae (dRO 0 (dR fb dR0)) (some (.own st)::zcc)=.ok (.int v,some (.own st')::zcc) :=
 zjB (ρ:=some (.own st)::zcc) rfl h e
theorem zl6{α:Type}{l:List α}(h:l.length<=1000):zem l=true:=by
 unfold zem
 rw[decide_eq_true_eq]
 omega
def zvv(j:Int)(ρ:Ev):R (List Dt×Ev):=if zeD j=true then .ok (zaI 0 j.toNat,ρ) else .no
theorem zlp{j:Int}{ρ:Ev}(h:zeD j=true):zvv j ρ=.ok (zaI 0 j.toNat,ρ):=if_pos h
theorem zp1{fa:De}{ρ ρ1:Ev}{j:Int}(h:fa ρ=.ok (.int j,ρ1)):zbq fa ρ=zvv j ρ1:=by
 unfold zbq zvv
 rw[h]
 rfl
theorem zfA{fa:De}{ρ ρ1:Ev}{j:Nat}(h:fa ρ=.ok (.int j,ρ1))(hj:j<=1000):zbq fa ρ=.ok (zaI 0 j,ρ1):=by
 rw[zp1 h,zlp (zjS hj),Int.toNat_natCast]
def zja(n:Nat)(ps:List (List Int)):Prop:=∀ p∈ps,Pty n p
def lp(ps:List (List Int)):List Dt:=ps.map tz
theorem zrB{fa:De}{ρ ρ1:Ev}{n:Nat}(h:fa ρ=.ok (.int n,ρ1))(hn:n<=1000):znp fa ρ=.ok ((zbh n).map .int,ρ1):=by
 have hc:(0:Int)<=n/\(n:Int)<=16777216:=by omega
 unfold znp
 rw[h]
 show (if 0<=(n:Int)/\(n:Int)<=16777216 then R.ok (zaI 0 (n:Int).toNat,ρ1) else .no)=_
 rw[if_pos hc,Int.toNat_natCast,zfQ]
theorem zlF{α:Type}(f:α->Bool):∀ l:List α,zfe (l.map fun d=>.bl (f d))=some (l.map f)
 |[]=>rfl
 |a::r=>by rw[List.map_cons,zfe,zlF f r];rfl
theorem zpd{α:Type}(f:α->Bool)(l:List α):zn2 [.lst (l.map fun d=>.bl (f d))]=.ok (.bl (l.all f)):=by
 unfold zn2
 simp only[zlF]
 rw[List.all_map]
 rfl
theorem zlk:∀ l:List Int,l.Pairwise (· < ·) ↔ ∀ k (h:k+1<l.length),l[k]<l[k+1]
 |[]=>by simp
 |[a]=>by simp
 |a::b::r=>by
  rw[List.pairwise_cons,zlk (b::r)]
  constructor
  ·rintro ⟨h1,h2⟩ k hk
   cases k with
   |zero=>exact h1 b (by simp)
   |succ k=>exact h2 k (by simpa using hk)
  ·intro h
   have h2:∀ k (hk:k+1<(b::r).length),(b::r)[k]<(b::r)[k+1]:=fun k hk=>h (k+1) (by simpa using hk)
   refine ⟨fun x hx=>?_,h2⟩
   have hab:a<b:=h 0 (by simp)
   have:=(zlk (b::r)).mpr h2
   rw[List.pairwise_cons] at this
   rcases List.mem_cons.mp hx with rfl|hx
   ·exact hab
   ·have:=this.1 x hx;omega
theorem znt(p:List Int)(hl:p.length<=1000):zlg [.val (tz p)]=.ok (.bl (decide (p.Pairwise (· < ·))),[.val .non]):=by
 let ρ0:Ev:=[some (.val (tz p))]
 have elen:dFn zbN (dA (zab 0) dA0) ρ0=.ok (.int p.length,ρ0):=zbM (d:=tz p) rfl (by simp[tz,zbN])
 obtain ⟨m,hm,em⟩ : ∃ m:Nat,m=p.length-1/\zbq (dOp zdc (dFn zbN (dA (zab 0) dA0)) (dC (.int 1))) ρ0=.ok (zaI 0 m,ρ0):=by
  refine ⟨p.length-1,rfl,?_⟩
  have es:dOp zdc (dFn zbN (dA (zab 0) dA0)) (dC (.int 1)) ρ0=.ok (.int ((p.length:Int)-1),ρ0):=zax elen rfl rfl
  cases p with
  |nil=>rfl
  |cons a r =>
   have e':((a::r).length:Int)-1=((r.length:Nat):Int):=by simp
   rw[e'] at es
   rw[zfA es (by simp at hl;omega)]
   rfl
 let f:Nat->Bool:=fun k=>decide (p.getD k 0<p.getD (k+1) 0)
 have hc:za3 (zbq (dOp zdc (dFn zbN (dA (zab 0) dA0)) (dC (.int 1)))) (zaM 1) dTT (dOp gLt (dOp gIx (zab 0) (zab 1)) (dOp gIx (zab 0) (dOp zaA (zab 1) (dC (.int 1))))) 1 ρ0=.ok ((List.range m).map fun k=>.bl (f k),ρ0):=by
  refine zbg (l:=List.range m) (u:=fun k=>.int (0+(k:Nat))) (f:=fun k=>.bl (f k)) (ds:=zaI 0 m) em rfl (by rw[List.length_range];omega) (fun k hk=>?_) rfl
  have hkm:=List.mem_range.mp hk
  show dOp gLt (dOp gIx (zab 0) (zab 1)) (dOp gIx (zab 0) (dOp zaA (zab 1) (dC (.int 1)))) [some (.val (tz p)),some (.val (.int (0+(k:Nat))))]=_
  have hk1:k<p.length:=by omega
  have hk2:k+1<p.length:=by omega
  have g1:gIx (tz p) (.int (0+(k:Nat)))=.ok (.int (p.getD k 0)):=by
   refine zkO (by omega) (by simp;omega) ?_
   rw[show (0+((k:Nat):Int)).toNat=k by omega,List.getElem?_map,List.getElem?_eq_getElem hk1,List.getD_eq_getElem?_getD,List.getElem?_eq_getElem hk1]
   rfl
  have g2:gIx (tz p) (.int (0+(k:Nat)+1))=.ok (.int (p.getD (k+1) 0)):=by
   refine zkO (by omega) (by simp;omega) ?_
   rw[show (0+((k:Nat):Int)+1).toNat=k+1 by omega,List.getElem?_map,List.getElem?_eq_getElem hk2,List.getD_eq_getElem?_getD,List.getElem?_eq_getElem hk2]
   rfl
  exact zax (zax rfl rfl g1) (zax rfl (zax rfl rfl rfl) g2) rfl
 refine zas (ρ':=ρ0) rfl ?_ rfl
 show zlc ρ0=_
 unfold zlc
 refine zb8 (zbM (zba hc) ?_)
 rw[zpd]
 congr 2
 rw[Bool.eq_iff_iff,List.all_eq_true,decide_eq_true_eq,zlk]
 constructor
 ·intro h k hk
  have:=h k (List.mem_range.mpr (by omega))
  simp only[f,decide_eq_true_eq,List.getD_eq_getElem?_getD,List.getElem?_eq_getElem hk,List.getElem?_eq_getElem (show k<p.length by omega),Option.getD_some] at this
  exact this
 ·intro h k hk
  have hkm:=List.mem_range.mp hk
  have hk2:k+1<p.length:=by omega
  have:=h k hk2
  simp only[f,decide_eq_true_eq,List.getD_eq_getElem?_getD,List.getElem?_eq_getElem hk2,List.getElem?_eq_getElem (show k<p.length by omega),Option.getD_some]
  exact this
theorem zpB(n:Int)(d:Dt)(hl:∀ l,d=.tup l->l.length<=1000):zcC [.val (.int n),.val d]=.ok (.bl (match d with|.tup l=>l.all (isG n)|_=>false),[.val .non,.val .non]):=by
 cases d with
 |tup l =>
  let ρ0:Ev:=[some (.val (.int n)),some (.val (.tup l))]
  have hc:za3 (dIt (zab 1)) (zaM 2) dTT (zad zb0 (dR (zab 0) (dR (zab 2) dR0))) 1 ρ0=.ok (l.map fun x=>.bl (isG n x),ρ0):=by
   refine zbg (l:=l) (u:=id) (f:=fun x=>.bl (isG n x)) (ds:=l) rfl (by rw[List.map_id]) (hl l rfl) (fun x hx=>?_) rfl
   exact zep (ρ':=[some (.val (.int n)),some (.val (.tup l)),some (.val x)]) (ρ'':=[some (.val (.int n)),some (.val (.tup l)),some (.val x)]) rfl rfl (zgr n x)
  refine zas (ρ':=ρ0) rfl ?_ rfl
  show zdk ρ0=_
  unfold zdk
  refine zb8 ?_
  unfold zkS
  have e1:zes "tuple" (zab 1) ρ0=.ok (.bl true,ρ0):=by simp[zes,zab,ρ0,zi1,tyD]
  rw[e1]
  simp only[R.bind_ok]
  exact zbM (zba hc) (zpd _ _)
 |_=>simp[zcC,zat,zdk,zbH,zjN,zb2,zkS,zes,zab,zi1,tyD,za0]
theorem zlP{n:Int}:∀{l:List Dt},l.all (isG n)=true->∃ zs:List Int,l=zs.map .int/\∀ x∈zs,0<=x/\x<n
 |[],_=>⟨[],rfl,by simp⟩
 |d::r,h=>by
  rw[List.all_cons,Bool.and_eq_true] at h
  obtain ⟨zs,rfl,hz⟩:=zlP h.2
  have h1:=h.1
  unfold isG at h1
  split at h1
  ·rename_i i
   simp only[Bool.and_eq_true,decide_eq_true_eq] at h1
   exact ⟨i::zs,rfl,fun x hx=>by
    rcases List.mem_cons.mp hx with rfl|hx
    ·exact h1
    ·exact hz x hx⟩
  ·cases h1
def zl5(n:Int):Dt->Bool
 |.tup l=>l.all (isG n) && (match ziU l with|some zs=>decide (0<zs.length) && decide (zs.Pairwise (· < ·))|none=>false)
 |_=>false
theorem zjO{n:Nat}(h1:1<=n)(h7:n<=7)(d:Dt)(hl:∀ l,d=.tup l->l.length<=1000):zeZ [.val (.int n),.val d]=.ok (.bl (zl5 n d),[.val .non,.val .non]):=by
 let ρ0:Ev:=[some (.val (.int n)),some (.val d)]
 have ec:dEx (zad zaq (dR (zab 0) dR0)) ρ0=.ok (.nx,ρ0):=zen (zdv (ρ':=ρ0) rfl (ziY (by omega) (by omega)))
 refine zas (ρ':=ρ0) rfl ?_ rfl
 show zgk ρ0=_
 unfold zgk
 rw[zag ec]
 refine zb8 ?_
 have ea:zad zcC (dR (zab 0) (dR (zab 1) dR0)) ρ0=.ok (.bl (match d with|.tup l=>l.all (isG n)|_=>false),ρ0):=zep (ρ':=ρ0) (ρ'':=ρ0) rfl rfl (zpB n d hl)
 unfold zkS
 rw[ea]
 simp only[R.bind_ok]
 cases d with
 |tup l =>
  cases ha:l.all (isG n) with
  |false =>
   simp only[ha]
   show R.ok (Dt.bl false,ρ0)=R.ok (Dt.bl (zl5 n (.tup l)),ρ0)
   have:zl5 n (.tup l)=false:=by
    show (l.all (isG n) && _)=false
    rw[ha];rfl
   rw[this]
  |true =>
   obtain ⟨zs,rfl,hz⟩:=zlP ha
   simp only[ha]
   have hpt:zl5 n (.tup (zs.map .int))=(decide (0<zs.length) && decide (zs.Pairwise (· < ·))):=by
    show ((zs.map Dt.int).all (isG n) && (match ziU (zs.map Dt.int) with|some zs=>decide (0<zs.length) && decide (zs.Pairwise (· < ·))|none=>false))=_
    rw[ha,zh7]
    rfl
   rw[hpt]
   have hlz:zs.length<=1000:=by have:=hl _ rfl;simpa using this
   have e2:dOp gGt (dFn zbN (dA (zab 1) dA0)) (dC (.int 0)) ρ0=.ok (.bl (decide (0<zs.length)),ρ0):=by
    refine zax (d:=.int zs.length) (e:=.int 0) (ρ1:=ρ0) (zbM (d:=.tup (zs.map .int)) rfl (by simp[zbN])) rfl ?_
    show R.ok (Dt.bl (decide ((0:Int)<(zs.length:Nat))))=_
    congr 2
    by_cases h:0<zs.length
    ·rw[decide_eq_true h,decide_eq_true (by omega)]
    ·rw[decide_eq_false h,decide_eq_false (by omega)]
   rw[e2]
   simp only[R.bind_ok]
   cases hp:decide (0<zs.length) with
   |false=>simp
   |true =>
    simp only[Bool.true_and]
    exact zdv (ρ':=ρ0) rfl (znt zs hlz)
 |_=>rfl
theorem zsZ{n:Nat}{p:List Int}(h:Pty n p):zl5 n (tz p)=true:=by
 obtain ⟨h1,h2,h3⟩:=h
 unfold zl5 tz
 simp only[zh7,Bool.and_eq_true,decide_eq_true_eq,List.all_eq_true]
 refine ⟨fun d hd=>?_,List.length_pos_iff.mpr h1,h2⟩
 obtain ⟨i,hi,rfl⟩:=List.mem_map.mp hd
 have:=h3 i hi
 unfold isG
 simp only[Bool.and_eq_true,decide_eq_true_eq]
 exact this
def zf7(n:Int):Dt->Bool
 |.lst l=>decide (l.length<=8) && l.all (zl5 n)
 |_=>false
def zn9:Dt->Prop
 |.lst l=>∀ d∈l,∀ t,d=.tup t->t.length<=1000
 |.scr _=>False
 |_=>True
theorem zfl{n:Nat}(h1:1<=n)(h7:n<=7)(d:Dt)(hl:zn9 d):zc9 [.val (.int n),.val d]=.ok (.bl (zf7 n d),[.val .non,.val .non]):=by
 let ρ0:Ev:=[some (.val (.int n)),some (.val d)]
 have ec:dEx (zad zaq (dR (zab 0) dR0)) ρ0=.ok (.nx,ρ0):=zen (zdv (ρ':=ρ0) rfl (ziY (by omega) (by omega)))
 refine zas (ρ':=ρ0) rfl ?_ rfl
 show ze0 ρ0=_
 unfold ze0
 rw[zag ec]
 cases d with
 |lst l =>
  have t1:zbL (dTB (zes "list" (zab 1))) ρ0=.ok (false,ρ0):=by simp[zbL,dTB,zes,zab,ρ0,zi1,tyD]
  have t2:dTB (dOp gGt (dFn zbN (dA (zab 1) dA0)) (dC (.int 8))) ρ0=.ok (decide (8<l.length),ρ0):=by
   refine zbn (zax (d:=.int l.length) (e:=.int 8) (ρ1:=ρ0) (zbM (d:=.lst l) rfl rfl) rfl ?_)
   show R.ok (Dt.bl (decide ((8:Int)<(l.length:Nat))))=_
   congr 2
   by_cases h:8<l.length
   ·rw[decide_eq_true h,decide_eq_true (by omega)]
   ·rw[decide_eq_false h,decide_eq_false (by omega)]
  by_cases h8:l.length<=8
  ·rw[decide_eq_false (by omega)] at t2
   rw[zag (ρ1:=ρ0) (by rw[zcn (by rw[zm8 t1];exact t2)];rfl)]
   have hc:za3 (dIt (zab 1)) (zaM 2) dTT (zad zeZ (dR (zab 0) (dR (zab 2) dR0))) 1 ρ0=.ok (l.map fun x=>.bl (zl5 n x),ρ0):=by
    refine zbg (l:=l) (u:=id) (f:=fun x=>.bl (zl5 n x)) (ds:=l) rfl (by rw[List.map_id]) (by omega) (fun x hx=>?_) rfl
    exact zep (ρ':=[some (.val (.int n)),some (.val (.lst l)),some (.val x)]) (ρ'':=[some (.val (.int n)),some (.val (.lst l)),some (.val x)]) rfl rfl (zjO h1 h7 x (hl x hx))
   refine zb8 (zbM (zba hc) ?_)
   rw[zpd]
   have:zf7 n (.lst l)=l.all (zl5 n):=by
    show (decide (l.length<=8) && l.all (zl5 n))=_
    rw[decide_eq_true h8,Bool.true_and]
   rw[this]
  ·rw[decide_eq_true (by omega)] at t2
   rw[ze2 (ρ1:=ρ0) (d:=.bl false) (by rw[zdB (by rw[zm8 t1];exact t2)];rfl)]
   have:zf7 n (.lst l)=false:=by
    show (decide (l.length<=8) && l.all (zl5 n))=_
    rw[decide_eq_false h8,Bool.false_and]
   rw[this]
 |scr _=>exact hl.elim
 |_ =>
  rw[ze2 (ρ1:=ρ0) (d:=.bl false)]
  ·rfl
  ·rw[zdB (ρ1:=ρ0) (ztw (by simp[zbL,dTB,zes,zab,ρ0,zi1,tyD]))];rfl
theorem znI{n:Nat}(h1:1<=n)(h7:n<=7){d:Dt}(hl:zn9 d)(hp:zf7 n d=true):zaR [.val (.int n),.val d]=.ok (.non,[.val .non,.val .non]):=by
 let ρ0:Ev:=[some (.val (.int n)),some (.val d)]
 refine zkn (ρ':=ρ0) rfl ?_ rfl
 show zbR ρ0=_
 unfold zbR
 have e:zad zc9 (dR (zab 0) (dR (zab 1) dR0)) ρ0=.ok (.bl true,ρ0):=by
  have:=zfl h1 h7 d hl
  rw[hp] at this
  exact zep (ρ':=ρ0) (ρ'':=ρ0) rfl rfl this
 rw[zcn (zdL (b:=true) (zbn e))]
 rfl
theorem zk8{n:Nat}(h1:1<=n)(h7:n<=7){d:Dt}(hl:zn9 d)(hp:zf7 n d=false):zaR [.val (.int n),.val d]=.er 1:=by
 let ρ0:Ev:=[some (.val (.int n)),some (.val d)]
 have e:zad zc9 (dR (zab 0) (dR (zab 1) dR0)) ρ0=.ok (.bl false,ρ0):=by
  have:=zfl h1 h7 d hl
  rw[hp] at this
  exact zep (ρ':=ρ0) (ρ'':=ρ0) rfl rfl this
 unfold zaR zat
 rw[if_pos (show zbH [.val (.int n),.val d]=[false,false] from rfl)]
 show (zbR ρ0).bind _=_
 unfold zbR
 rw[zdB (zdL (b:=false) (zbn e))]
 rfl
theorem zgS{fa fb:De}{ρ ρ1 ρ2:Ev}{x y:List Dt}(h1:fa ρ=.ok (.lst x,ρ1))(h2:fb ρ1=.ok (.lst y,ρ2))(hl:x.length+y.length<=16777216):zdD fa fb ρ=.ok (x++y,ρ2):=by
 unfold zdD
 rw[h1];simp only[R.bind_ok]
 rw[h2];simp only[R.bind_ok]
 rw[if_pos hl]
theorem zo1{fa:De}{fl fh:DO}{ρ:Ev}{ds:List Dt}{lo hi:Option Int}(h1:fa ρ=.ok (.lst ds,ρ))(h2:fl ρ=.ok (lo,ρ))(h3:fh ρ=.ok (hi,ρ)):zp7 fa fl fh ρ=.ok (zka ds lo hi,ρ):=by
 unfold zp7
 rw[h1];simp only[R.bind_ok]
 rw[h2];simp only[R.bind_ok]
 rw[h3];rfl
theorem zsl{l:List Int}{lo hi:Option Int}:zka (l.map Dt.int) lo hi=(zka l lo hi).map .int:=by
 unfold zka
 rw[List.length_map,List.map_take,List.map_drop]
theorem zfh(ps:List (List Int)):(lp ps).length=ps.length:=by unfold lp;rw[List.length_map]
theorem zuB{x:List Dt}{k:Nat}{fa fb:De}{ρ ρ1 ρ2:Ev}(h0:fa ρ=.ok (.lst x,ρ1))(h:fb ρ1=.ok (.int k,ρ2))(hk:k<=1000)(hl:x.length<=1000):zmU fa fb ρ=.ok ((List.replicate k x).flatten,ρ2):=by
 have hm:x.length * k<=1000 * 1000:=Nat.mul_le_mul hl hk
 rw[ztE h0 h,zq4 ⟨zjS hk,by rw[Int.toNat_natCast];omega⟩,Int.toNat_natCast]
theorem zpq{j:Nat}{q:Str}{fE:De}{ρ:Ev}{n:Nat}(h0:ρ[j]? = some (some (.tab q)))(h:fE (zbo ρ)=.er n)(hn:n<8):zkV j q fE ρ=.ok ([.int n],ρ):=by
 unfold zkV
 rw[h0]
 simp only[if_true,h,hn]
theorem zlJ{x y z:Dt}{bs:List B}:∀{ρ:Ev}{k:Nat},zfq [.d x,.d y,.d z] bs k ρ = ρ
 |[],_=>rfl
 |o::r,k=>by
  show (match zd8 [.d x,.d y,.d z] k with|some j=>bs[j]?|none=>o)::zfq [.d x,.d y,.d z] bs (k+1) r=_
  rw[zlJ (ρ:=r)];rfl
theorem zpn{F:FD}{fa fb fc:De}{ρ ρ1 ρ2 ρ3:Ev}{d e g y:Dt}{l:List B}(h:fa ρ=.ok (d,ρ1))(h2:fb ρ1=.ok (e,ρ2))(h3:fc ρ2=.ok (g,ρ3))(hF:F [.val d,.val e,.val g]=.ok (y,l)):zad F (dR fa (dR fb (dR fc dR0))) ρ=.ok (y,ρ3):=by
 unfold zad dR dR0
 rw[h]
 simp only[R.bind_ok,h2,h3,zgL,zaN,if_true,za1,hF]
 rw[zlJ]
theorem zmi{F:FD}{fa fb fc:De}{ρ ρ1 ρ2 ρ3:Ev}{d e g:Dt}{n:Nat}(h:fa ρ=.ok (d,ρ1))(h2:fb ρ1=.ok (e,ρ2))(h3:fc ρ2=.ok (g,ρ3))(hF:F [.val d,.val e,.val g]=.er n):zad F (dR fa (dR fb (dR fc dR0))) ρ=.er n:=by
 unfold zad dR dR0
 rw[h]
 simp only[R.bind_ok,h2,h3,zgL,zaN,if_true,za1,hF,R.bind_er]
theorem ziN{n:Nat}{ps:List (List Int)}(h7:n<=7)(hp:zja n ps):zn9 (.lst (lp ps)):=by
 intro d hd t ht
 obtain ⟨p,hpm,rfl⟩:=List.mem_map.mp hd
 have hpp:=hp p hpm
 unfold tz at ht
 cases ht
 rw[List.length_map]
 by_cases z:p.length<=(zbh n).length
 ·rw[zbb] at z;omega
 ·have h1:p.Nodup:=hpp.2.1.imp (fun h=>by omega)
  have:=(zgy p (zbh n) h1 (fun x hx=>zdx.mpr (hpp.2.2 x hx)) (by omega)).length_eq
  omega
theorem zgP{n:Nat}{ps:List (List Int)}(hl:ps.length<=8)(hp:zja n ps):zf7 n (.lst (lp ps))=true:=by
 show (decide ((lp ps).length<=8) && (lp ps).all (zl5 n))=true
 rw[Bool.and_eq_true,decide_eq_true_eq,List.all_eq_true]
 refine ⟨by unfold lp;rw[List.length_map];exact hl,fun d hd=>?_⟩
 obtain ⟨p,hpm,rfl⟩:=List.mem_map.mp hd
 exact zsZ (hp p hpm)
theorem zgx{n:Nat}{st:List Dt}(h7:n<=7)(hs:St st):∃(row:List Int)(st':List Dt),St st'/\row.Perm (zbh n)/\zaW [.own st,.val (.int n)]=.ok (tz row,[.own st',.val .non]):=by
 obtain ⟨st',p,hs',hp,e⟩:=zi3 (things:=some (.val (.int n))) 10 ((zbh n).map .int) [] st (by rw[List.length_map,zbb];omega) (by rw[List.length_map,zbb];simp;omega) (fun d hd=>by obtain ⟨x,_,rfl⟩:=List.mem_map.mp hd;rfl) hs
 obtain ⟨q,hq,rfl⟩:=zjR hp
 refine ⟨q,st',hs',hq,zas (ρ':=[some (.own st'),some (.val (.int n)),some (.own []),some (.val (.lst (q.map .int)))]) rfl ?_ rfl⟩
 let ρ0:Ev:=[some (.own st),some (.val (.int n)),none,none]
 show zez ρ0=_
 unfold zez
 have x1:zb5 2 (znp (zab 1)) ρ0=.ok (.nx,[some (.own st),some (.val (.int n)),some (.own ((zbh n).map .int)),none]):=zdY (i:=2) (zrB (ρ1:=ρ0) rfl (by omega)) (by simp[ρ0])
 rw[zag x1]
 rw[zag (ρ1:=[some (.own st),some (.val (.int n)),some (.own ((zbh n).map .int)),some (.own [])]) rfl,zag e]
 rfl
def zl8:DS:=(za2 (zbf 7 (zad zae (dRO 0 (dR (zab 1) dR0)))) (za2 (zbf 8 (dFz (zgJ zfo (dA (zmW (zab 3) (dO1 (zab 7)) (dO1 (dOp zaA (dOp zaA (zab 7) (dC (.int 1))) (zad zae (dRO 0 (dR (dOp zdc (zab 1) (zab 7)) dR0)))))) dA0)))) (za2 (dIf (zgI (dTB (dOp gGt (zab 4) (dC (.int 1)))) (dTB (dOp gLt (zad zae (dRO 0 (dR (dC (.int 3)) dR0))) (dOp zdc (zab 4) (dC (.int 1)))))) (zbf 8 (zte (dFz (za3 (zbq (zab 1)) (zaM 9) (dTB (dOp (gEq false) (zad zae (dRO 0 (dR (dC (.int 2)) dR0))) (dC (.int 1)))) (zab 9) 1)) (zab 8))) dNx) (dEx (zd2 5 (dFn zbi (dA (zab 8) dA0)))))))
theorem znS:zdq=(za2 (zbf 3 (zad zaW (dRO 0 (dR (zab 1) dR0)))) (za2 (zbf 4 (zad zae (dRO 0 (dR (dC (.int 4)) dR0)))) (za2 (zb5 5 (zbY dA0)) (za2 (zga (zbq (zad zae (dRO 0 (dR (dOp zaA (zab 2) (dC (.int 1))) dR0)))) (zaM 6) zl8) (zb2 (zf4 5)))))):=rfl
theorem zpr{fa:De}{fl fh:DO}{ρ ρ1 ρ2 ρ3:Ev}{ds:List Dt}{lo hi:Option Int}(h1:fa ρ=.ok (.tup ds,ρ1))(h2:fl ρ1=.ok (lo,ρ2))(h3:fh ρ2=.ok (hi,ρ3)):zmW fa fl fh ρ=.ok (.tup (zka ds lo hi),ρ3):=by
 unfold zmW
 rw[h1];simp only[R.bind_ok]
 rw[h2];simp only[R.bind_ok]
 rw[h3];simp only[R.bind_ok]
theorem zuD{fa:De}{ρ ρ1:Ev}{i:Int}(h:fa ρ=.ok (.int i,ρ1)):dO1 fa ρ=.ok (some i,ρ1):=by
 unfold dO1;rw[h];rfl
theorem zqB{fa:De}{ρ ρ1:Ev}{zs:List Int}(h:fa ρ=.ok (tz zs,ρ1))(hl:zs.length<64):dFz (zgJ zfo (dA fa dA0)) ρ=.ok (.lst ((zb9 zs).map .int),ρ1):=by
 refine zba ?_
 unfold zgJ
 rw[zev (fr:=dA0) (d:=tz zs) (ds:=[]) (ρ1:=ρ1) (ρ2:=ρ1) h rfl]
 simp only[R.bind_ok]
 unfold zfo tz
 simp only[zh7]
 rw[if_pos hl]
 rfl
abbrev EP(s n m r w f t l p:Option B):Ev:=[s,n,m,r,w,f,t,l,p]
theorem zmJ{n:Nat}{row:List Int}{way:Int}{M t o7 o8:Option B}{st:List Dt}{acc:List (List Int)}(h1:1<=n)(h7:n<=7)(hr:row.Perm (zbh n))(hs:St st)(ha:zja n acc)(hl:acc.length<=100) :
  ∃ p st' b7 b8,St st'/\Pty n p/\zl8 (EP (some (.own st)) (some (.val (.int n))) M (some (.val (tz row))) (some (.val (.int way))) (some (.own (lp acc))) t o7 o8)=.ok (.nx,EP (some (.own st')) (some (.val (.int n))) M (some (.val (tz row))) (some (.val (.int way))) (some (.own (lp (acc++[p])))) t b7 b8):=by
 let N:Option B:=some (.val (.int n))
 let Rw:Option B:=some (.val (tz row))
 let W:Option B:=some (.val (.int way))
 let A:Option B:=some (.own (lp acc))
 have hrl:row.length=n:=by rw[hr.length_eq,zbb]
 obtain ⟨v,st1,e1,hs1,v0,v1⟩:=zbr (m:=(n:Nat)) hs (by omega) (by omega)
 obtain ⟨f,rfl⟩ : ∃ f:Nat,v=f:=⟨v.toNat,by omega⟩
 have x1:zbf 7 (zad zae (dRO 0 (dR (zab 1) dR0))) (EP (some (.own st)) N M Rw W A t o7 o8)=.ok (.nx,EP (some (.own st1)) N M Rw W A t (some (.val (.int f))) o8) :=
  zbv (i:=7) (zhd e1 rfl) (by simp)
 obtain ⟨u,st2,e2,hs2,u0,u1⟩:=zbr (m:=(n:Int)-f) hs1 (by omega) (by omega)
 obtain ⟨g,rfl⟩ : ∃ g:Nat,u=g:=⟨u.toNat,by omega⟩
 let c:List Int:=(row.drop f).take (1+g)
 have hsubl:c.Sublist row:=(List.take_sublist _ _).trans (List.drop_sublist _ _)
 have hcl:c.length=1+g:=by
  show ((row.drop f).take (1+g)).length=_
  rw[List.length_take,List.length_drop,hrl]
  omega
 have hnd:c.Nodup:=(hr.nodup_iff.mpr (zeR n)).sublist hsubl
 have hsp:=zbF c
 have hP:Pty n (zb9 c):=by
  refine ⟨fun h=>?_,?_,fun x hx=>?_⟩
  ·have:=hsp.length_eq
   rw[h,hcl] at this
   simp at this
   omega
  ·have h2:(zb9 c).Nodup:=hsp.nodup_iff.mpr hnd
   exact (List.Pairwise.and (zeL c) h2).imp (fun h=>by omega)
  ·exact zdx.mp (hr.mem_iff.mp (hsubl.subset (hsp.mem_iff.mp hx)))
 have x2:zbf 8 (dFz (zgJ zfo (dA (zmW (zab 3) (dO1 (zab 7)) (dO1 (dOp zaA (dOp zaA (zab 7) (dC (.int 1))) (zad zae (dRO 0 (dR (dOp zdc (zab 1) (zab 7)) dR0)))))) dA0))) (EP (some (.own st1)) N M Rw W A t (some (.val (.int f))) o8)=.ok (.nx,EP (some (.own st2)) N M Rw W A t (some (.val (.int f))) (some (.val (.lst ((zb9 c).map .int))))):=by
  refine zbv (i:=8) (ρ1:=EP (some (.own st2)) N M Rw W A t (some (.val (.int f))) o8) (zqB (zs:=c) ?_ (by omega)) (by simp)
  have:=zpr (fa:=zab 3) (fl:=dO1 (zab 7)) (fh:=dO1 (dOp zaA (dOp zaA (zab 7) (dC (.int 1))) (zad zae (dRO 0 (dR (dOp zdc (zab 1) (zab 7)) dR0))))) (ρ:=EP (some (.own st1)) N M Rw W A t (some (.val (.int f))) o8) (ρ1:=EP (some (.own st1)) N M Rw W A t (some (.val (.int f))) o8) (ρ2:=EP (some (.own st1)) N M Rw W A t (some (.val (.int f))) o8) (ρ3:=EP (some (.own st2)) N M Rw W A t (some (.val (.int f))) o8) (ds:=row.map .int) (lo:=some (f:Int)) (hi:=some ((f:Int)+1+g)) rfl rfl
   (zuD (zax (d:=.int ((f:Int)+1)) (ρ1:=EP (some (.own st1)) N M Rw W A t (some (.val (.int f))) o8) rfl (zhd e2 rfl) rfl))
  rw[this,zsl]
  have hh:((f:Int)+1+g)=(f:Int)+((1+g:Nat):Int):=by omega
  rw[hh,zsI (by omega)]
  rfl
 obtain ⟨p,st3,hs3,hp,x3⟩ : ∃ p st3,St st3/\Pty n p/\dIf (zgI (dTB (dOp gGt (zab 4) (dC (.int 1)))) (dTB (dOp gLt (zad zae (dRO 0 (dR (dC (.int 3)) dR0))) (dOp zdc (zab 4) (dC (.int 1)))))) (zbf 8 (zte (dFz (za3 (zbq (zab 1)) (zaM 9) (dTB (dOp (gEq false) (zad zae (dRO 0 (dR (dC (.int 2)) dR0))) (dC (.int 1)))) (zab 9) 1)) (zab 8))) dNx (EP (some (.own st2)) N M Rw W A t (some (.val (.int f))) (some (.val (.lst ((zb9 c).map .int)))))=.ok (.nx,EP (some (.own st3)) N M Rw W A t (some (.val (.int f))) (some (.val (.lst (p.map .int))))):=by
  let ρ2:Ev:=EP (some (.own st2)) N M Rw W A t (some (.val (.int f))) (some (.val (.lst ((zb9 c).map .int))))
  by_cases hw:(1:Int)<way
  ·obtain ⟨z,st3,e3,hs3,z0,z1⟩:=zbr (m:=3) hs2 (by decide) (by decide)
   have c1:dTB (dOp gGt (zab 4) (dC (.int 1))) ρ2=.ok (true,ρ2):=zbn (zax (d:=.int way) (e:=.int 1) (ρ1:=ρ2) rfl rfl (by show R.ok (Dt.bl (decide ((1:Int)<way)))=_;rw[decide_eq_true hw]))
   let ρ3:Ev:=EP (some (.own st3)) N M Rw W A t (some (.val (.int f))) (some (.val (.lst ((zb9 c).map .int))))
   have c2:dTB (dOp gLt (zad zae (dRO 0 (dR (dC (.int 3)) dR0))) (dOp zdc (zab 4) (dC (.int 1)))) ρ2=.ok (decide (z<way-1),ρ3):=zbn (zax (zhd e3 rfl) (e:=.int (way-1)) rfl rfl)
   by_cases hz:z<way-1
   ·rw[decide_eq_true hz] at c2
    obtain ⟨ys,st4,o',hs4,hsub,e⟩:=zm0 (ft:=dTB (dOp (gEq false) (zad zae (dRO 0 (dR (dC (.int 2)) dR0))) (dC (.int 1)))) (zcc:=[N,M,Rw,W,A,t,some (.val (.int f)),some (.val (.lst ((zb9 c).map .int)))]) (l:=zaI 0 n) (st:=st3) (o:=none) (fun d _ st hs=>by
     obtain ⟨v,st',e,hs',v0,v1⟩:=zbr (m:=2) hs (by decide) (by decide)
     exact ⟨v == 1,st',hs',zbn (zax (zhd e rfl) rfl (by rw[zuL];rfl))⟩) hs3
    rw[zfQ] at hsub
    obtain ⟨zs,hzs,rfl⟩:=List.sublist_map_iff.mp hsub
    let ρ4:Ev:=EP (some (.own st4)) N M Rw W A t (some (.val (.int f))) (some (.val (.lst ((zb9 c).map .int))))
    have hc:za3 (zbq (zab 1)) (zaM 9) (dTB (dOp (gEq false) (zad zae (dRO 0 (dR (dC (.int 2)) dR0))) (dC (.int 1)))) (zab 9) 1 ρ3=.ok (zs.map .int,ρ4):=by
     unfold za3
     rw[show zbq (zab 1) ρ3=.ok (zaI 0 n,ρ3) from zfA (j:=n) rfl (by omega)]
     simp only[R.bind_ok]
     rw[if_pos (zl6 (by unfold zaI;rw[List.length_map,List.length_range];omega))]
     show (match zb3 (zaM 9) _ (zab 9) (zaI 0 n) (some (.own st3)::([N,M,Rw,W,A,t,some (.val (.int f)),some (.val (.lst ((zb9 c).map .int)))]++[none])) with|.ok z=>R.ok (z.1,z.2.take 9)|_=>.no)=_
     have e':zb3 (zaM 9) (dTB (dOp (gEq false) (zad zae (dRO 0 (dR (dC (.int 2)) dR0))) (dC (.int 1)))) (zab 9) (zaI 0 n) (some (.own st3)::([N,M,Rw,W,A,t,some (.val (.int f)),some (.val (.lst ((zb9 c).map .int)))]++[none]))=_:=e
     rw[e']
     rfl
    have hpw:zs.Pairwise (· < ·):=(zoq n).sublist hzs
    have hin:∀ x∈zs,0<=x/\x<n:=fun x hx=>zdx.mp (hzs.subset hx)
    have cc:zgI (dTB (dOp gGt (zab 4) (dC (.int 1)))) (dTB (dOp gLt (zad zae (dRO 0 (dR (dC (.int 3)) dR0))) (dOp zdc (zab 4) (dC (.int 1))))) ρ2=.ok (true,ρ3):=by rw[zj8 c1];exact c2
    cases zs with
    |nil =>
     refine ⟨zb9 c,st4,hs4,hP,?_⟩
     rw[zdB cc]
     refine zbv (i:=8) (ρ1:=ρ4) ?_ (by simp[ρ4])
     unfold zte
     rw[zba hc]
     rfl
    |cons a r =>
     refine ⟨a::r,st4,hs4,⟨by simp,hpw,hin⟩,?_⟩
     rw[zdB cc]
     refine zbv (i:=8) (ρ1:=ρ4) ?_ (by simp[ρ4])
     unfold zte
     rw[zba hc]
     rfl
   ·rw[decide_eq_false hz] at c2
    refine ⟨zb9 c,st3,hs3,hP,?_⟩
    rw[zcn (ρ1:=ρ3) (by rw[zj8 c1];exact c2)]
    rfl
  ·have c1:dTB (dOp gGt (zab 4) (dC (.int 1))) ρ2=.ok (false,ρ2):=zbn (zax (d:=.int way) (e:=.int 1) (ρ1:=ρ2) rfl rfl (by show R.ok (Dt.bl (decide ((1:Int)<way)))=_;rw[decide_eq_false hw]))
   refine ⟨zb9 c,st2,hs2,hP,?_⟩
   rw[zcn (ρ1:=ρ2) (zok c1)]
   rfl
 refine ⟨p,st3,some (.val (.int f)),some (.val (.lst (p.map .int))),hs3,hp,?_⟩
 unfold zl8
 rw[zag x1,zag x2,zag x3]
 refine zen (d:=.non) ?_
 unfold zd2
 have ec:dFn zbi (dA (zab 8) dA0) (EP (some (.own st3)) N M Rw W A t (some (.val (.int f))) (some (.val (.lst (p.map .int)))))=.ok (tz p,EP (some (.own st3)) N M Rw W A t (some (.val (.int f))) (some (.val (.lst (p.map .int))))):=rfl
 simp only[EP,A,List.getElem?_cons_succ,List.getElem?_cons_zero] at ec ⊢
 rw[ec]
 simp only[R.bind_ok,List.getElem?_cons_succ,List.getElem?_cons_zero]
 rw[if_pos (by unfold lp;rw[List.length_map];omega)]
 simp[lp,N,Rw,W]
theorem zum{n:Nat}{row:List Int}{way:Int}{M:Option B}(h1:1<=n)(h7:n<=7)(hr:row.Perm (zbh n)):∀(ds:List Dt)(acc:List (List Int))(st:List Dt)(t o7 o8:Option B),St st->zja n acc->acc.length+ds.length<=8 ->
  ∃ ps st' b6 b7 b8,St st'/\zja n ps/\ps.length<=8/\zii (zaM 6) zl8 ds (EP (some (.own st)) (some (.val (.int n))) M (some (.val (tz row))) (some (.val (.int way))) (some (.own (lp acc))) t o7 o8)=.ok (.nx,EP (some (.own st')) (some (.val (.int n))) M (some (.val (tz row))) (some (.val (.int way))) (some (.own (lp ps))) b6 b7 b8)
 |[],acc,st,t,o7,o8,hs,ha,hl=>⟨acc,st,t,o7,o8,hs,ha,by simpa using hl,rfl⟩
 |d::ds,acc,st,t,o7,o8,hs,ha,hl=>by
  simp only[List.length_cons] at hl
  obtain ⟨p,st1,b7,b8,hs1,hp,e⟩:=zmJ (way:=way) (M:=M) (t:=some (.val d)) (o7:=o7) (o8:=o8) h1 h7 hr hs ha (by omega)
  obtain ⟨ps,st2,c6,c7,c8,hs2,hps,hpl,e2⟩:=zum (way:=way) (M:=M) h1 h7 hr ds (acc++[p]) st1 (some (.val d)) b7 b8 hs1 (fun q hq=>by
   rcases List.mem_append.mp hq with h|h
   ·exact ha q h
   ·have:q=p:=by simpa using h
    rw[this];exact hp) (by rw[List.length_append];simp;omega)
  refine ⟨ps,st2,c6,c7,c8,hs2,hps,hpl,?_⟩
  rw[zii]
  show ((zl8 (EP (some (.own st)) (some (.val (.int n))) M (some (.val (tz row))) (some (.val (.int way))) (some (.own (lp acc))) (some (.val d)) o7 o8)).bind _)=_
  rw[show zl8 (EP (some (.own st)) (some (.val (.int n))) M (some (.val (tz row))) (some (.val (.int way))) (some (.own (lp acc))) (some (.val d)) o7 o8)=_ from e]
  exact e2
theorem zg9{n mo:Nat}{st:List Dt}(hmo:mo<=8)(h1:1<=n)(h7:n<=7)(hs:St st):∃ ps st',St st'/\zja n ps/\ps.length<=8/\zbE [.own st,.val (.int n),.val (.int mo)]=.ok (.lst (lp ps),[.own st',.val .non,.val .non]):=by
 let N:Option B:=some (.val (.int n))
 let M:Option B:=some (.val (.int mo))
 obtain ⟨row,st1,hs1,hr,e1⟩:=zgx h7 hs
 obtain ⟨way,st2,e2,hs2,w0,w1⟩:=zbr (m:=4) hs1 (by decide) (by decide)
 obtain ⟨v,st3,e3,hs3,v0,v1⟩:=zbr (m:=(mo:Int)+1) hs2 (by omega) (by omega)
 obtain ⟨ps,st4,b6,b7,b8,hs4,hps,hpl,e4⟩:=zum (way:=way) (M:=M) h1 h7 hr (zaI 0 v.toNat) [] st3 none none none hs3 (fun q hq=>by cases hq) (by unfold zaI;simp;omega)
 refine ⟨ps,st4,hs4,hps,hpl,zas (ρ':=EP (some (.own st4)) N M (some (.val (tz row))) (some (.val (.int way))) (some (.val (.lst (lp ps)))) b6 b7 b8) rfl ?_ rfl⟩
 show zdq (EP (some (.own st)) N M none none none none none none)=_
 rw[znS]
 rw[zag (ρ1:=EP (some (.own st1)) N M (some (.val (tz row))) none none none none none) (zbv (i:=3) (zjB (ρ:=EP (some (.own st)) N M none none none none none none) rfl rfl e1) (by simp))]
 rw[zag (ρ1:=EP (some (.own st2)) N M (some (.val (tz row))) (some (.val (.int way))) none none none none) (zbv (i:=4) (zhd e2 rfl) (by simp))]
 rw[zag (ρ1:=EP (some (.own st2)) N M (some (.val (tz row))) (some (.val (.int way))) (some (.own (lp []))) none none none) rfl]
 have x4:zga (zbq (zad zae (dRO 0 (dR (dOp zaA (zab 2) (dC (.int 1))) dR0)))) (zaM 6) zl8 (EP (some (.own st2)) N M (some (.val (tz row))) (some (.val (.int way))) (some (.own (lp []))) none none none)=.ok (.nx,EP (some (.own st4)) N M (some (.val (tz row))) (some (.val (.int way))) (some (.own (lp ps))) b6 b7 b8):=by
  unfold zga
  rw[zp1 (zhd e3 rfl),zlp (by unfold zeD;rw[Bool.and_eq_true,decide_eq_true_eq,decide_eq_true_eq];omega)]
  exact e4
 rw[zag x4]
 rfl
inductive Tr where
 |lf (i:Int)|nd (row:Bool) (l:List Tr)
def wd(r:Bool):Str:=if r then Str.ofString "row" else Str.ofString "any"
mutual
def toD:Tr->Dt
 |.lf i=>.int i
 |.nd r l=>.tup [.str (wd r),.tup (zg4 l)]
def zg4:List Tr->List Dt
 |[]=>[]
 |t::r=>toD t::zg4 r
end
mutual
def zam:Tr->List Int
 |.lf i=>[i]
 |.nd _ l=>zau l
def zau:List Tr->List Int
 |[]=>[]
 |t::r=>zam t++zau r
end
mutual
def dep:Tr->Nat
 |.lf _=>1
 |.nd _ l=>zeq l+1
def zeq:List Tr->Nat
 |[]=>0
 |t::r=>max (dep t) (zeq r)
end
mutual
def okT:Tr->Bool
 |.lf _=>true
 |.nd r l=>decide ((if r then 3 else 2)<=l.length) && zhR l
def zhR:List Tr->Bool
 |[]=>true
 |t::r=>okT t && zhR r
end
theorem zc7:∀ l:List Tr,zg4 l=l.map toD
 |[]=>by simp[zg4]
 |t::r=>by simp[zg4,zc7 r]
theorem zbA:∀ l:List Tr,zau l=l.flatMap zam
 |[]=>by simp[zau]
 |t::r=>by simp[zau,zbA r]
theorem zc3:∀ l:List Tr,zhR l=l.all okT
 |[]=>by simp[zhR]
 |t::r=>by simp[zhR,zc3 r]
theorem zcj{n:Nat}:∀{l:List Tr},zeq l<=n ↔ ∀ t∈l,dep t<=n
 |[]=>by simp[zeq]
 |t::r=>by
  have:=zcj (n:=n) (l:=r)
  simp only[zeq,List.mem_cons,forall_eq_or_imp]
  rw[<- this]
  omega
def mn(t:Tr):Int:=(zb9 (zam t)).headD 0
def zmC(r:Bool)(l:List Tr):List Tr:=if r then (if mn (l.headD (.lf 0)) > mn (l.getLastD (.lf 0)) then l.reverse else l) else byK (l.map mn) l
mutual
def zaV:Tr->Tr
 |.lf i=>.lf i
 |.nd r l=>.nd r (zmC r (zkA l))
def zkA:List Tr->List Tr
 |[]=>[]
 |t::r=>zaV t::zkA r
end
theorem zeX:∀ l:List Tr,zkA l=l.map zaV
 |[]=>by simp[zkA]
 |t::r=>by simp[zkA,zeX r]
theorem ze1:∀(n:Nat)(t:Tr),dep t<=n->okT t=true->zam t≠[]
 |n,.lf i,_,_=>by simp[zam]
 |0,.nd r l,h,_=>by simp[dep] at h
 |n+1,.nd r l,h,ho=>by
  simp only[dep,okT,Bool.and_eq_true,decide_eq_true_eq] at h ho
  cases l with
  |nil=>have:=ho.1;cases r <;> simp at this
  |cons t q =>
   simp only[zhR,Bool.and_eq_true] at ho
   have:=ze1 n t (by simp only[zeq] at h;omega) ho.2.1
   simp only[zam,zau]
   intro z
   exact this (List.append_eq_nil_iff.mp z).1
theorem zm9{l:List Int}(h:l≠[]):(zb9 l).headD 0∈l:=by
 have hp:=zbF l
 cases e:zb9 l with
 |nil=>rw[e] at hp;exact absurd hp.symm.eq_nil h
 |cons a r=>rw[e] at hp;exact hp.mem_iff.mp (by simp)
theorem zrT{l:List Int}{x:Int}(h:x∈l):(zb9 l).headD 0<=x:=by
 have hp:=zbF l
 have ha:=zeL l
 cases e:zb9 l with
 |nil=>rw[e] at hp;rw[hp.symm.eq_nil] at h;cases h
 |cons a r =>
  rw[e] at hp ha
  rcases List.mem_cons.mp (hp.mem_iff.mpr h) with rfl|z
  ·simp
  ·simpa using (List.pairwise_cons.mp ha).1 x z
theorem zuk{t:Tr}(h:zam t≠[]):mn t∈zam t:=zm9 h
inductive Tn:Tr->Tr->Prop
 |lf (i:Int):Tn (.lf i) (.lf i)
 |any {l l1 l2:List Tr}:Paired Tn l l1->l1.Perm l2->Tn (.nd false l) (.nd false l2)
 |row {l l1 l2:List Tr}:Paired Tn l l1->(l2=l1\/l2=l1.reverse)->Tn (.nd true l) (.nd true l2)
theorem zqj{l1 l2:List Tr}(h:l2=l1\/l2=l1.reverse):l1.Perm l2:=by
 rcases h with rfl|rfl
 ·exact .refl _
 ·exact (List.reverse_perm _).symm
theorem zpi{l1 l2:List Tr}(h:l1.Perm l2):zhR l2=zhR l1/\(zau l2).Perm (zau l1)/\(∀ n,zeq l1<=n->zeq l2<=n)/\l2.length=l1.length:=by
 refine ⟨?_,?_,fun n hn=>?_,h.length_eq.symm⟩
 ·rw[zc3,zc3,Bool.eq_iff_iff,List.all_eq_true,List.all_eq_true]
  exact ⟨fun k t ht=>k t (h.mem_iff.mp ht),fun k t ht=>k t (h.mem_iff.mpr ht)⟩
 ·rw[zbA,zbA]
  exact (h.flatMap_right zam).symm
 ·rw[zcj] at hn ⊢
  exact fun t ht=>hn t (h.mem_iff.mpr ht)
theorem zdg{n:Nat}(ih:∀ t t',dep t<=n->Tn t t'->okT t'=okT t/\(zam t').Perm (zam t)/\dep t'<=dep t):∀{l l1:List Tr},Paired Tn l l1->zeq l<=n->zhR l1=zhR l/\(zau l1).Perm (zau l)/\zeq l1<=zeq l/\l1.length=l.length
 |_,_,.nil,_=>by simp[zau,zeq]
 |t::l,t'::l1,.cons h r,hd=>by
  simp only[zeq] at hd
  obtain ⟨a1,a2,a3⟩:=ih t t' (by omega) h
  obtain ⟨b1,b2,b3,b4⟩:=zdg ih r (by omega)
  simp only[zhR,zau,zeq,List.length_cons]
  exact ⟨by rw[a1,b1],a2.append b2,by omega,by omega⟩
theorem zgK(n:Nat):∀(t t':Tr),dep t<=n->Tn t t'->okT t'=okT t/\(zam t').Perm (zam t)/\dep t'<=dep t:=by
 induction n with
 |zero =>
  intro t t' hd h
  cases t <;> simp[dep] at hd
 |succ n ih =>
  intro t t' hd h
  cases h with
  |lf i=>exact ⟨rfl,.refl _,Nat.le_refl _⟩
  |any hp hq =>
   simp only[dep] at hd
   obtain ⟨b1,b2,b3,b4⟩:=zdg ih hp (by omega)
   obtain ⟨c1,c2,c3,c4⟩:=zpi hq
   simp only[okT,zam,dep]
   refine ⟨by rw[c1,b1,c4,b4],c2.trans b2,?_⟩
   have:=c3 _ b3
   omega
  |row hp hq =>
   simp only[dep] at hd
   obtain ⟨b1,b2,b3,b4⟩:=zdg ih hp (by omega)
   obtain ⟨c1,c2,c3,c4⟩:=zpi (zqj hq)
   simp only[okT,zam,dep]
   refine ⟨by rw[c1,b1,c4,b4],c2.trans b2,?_⟩
   have:=c3 _ b3
   omega
theorem zqp{α:Type}{ks:List Int}{l:List α}(h:ks.length=l.length):(byK ks l).Perm l:=by
 have:=(zdy (ks.zip l)).map Prod.snd
 rw[List.map_snd_zip (by omega)] at this
 exact this
theorem zgc{α β:Type}{F:α->β->Prop}(f:α->β):∀{l:List α},(∀ a∈l,F a (f a))->Paired F l (l.map f)
 |[],_=>.nil
 |a::l,h=>.cons (h a (by simp)) (zgc f fun b hb=>h b (by simp[hb]))
theorem zfR:∀(n:Nat)(t:Tr),dep t<=n->Tn t (zaV t)
 |n,.lf i,_=>by simp only[zaV];exact .lf i
 |0,.nd r l,h=>by simp[dep] at h
 |n+1,.nd r l,h=>by
  simp only[dep] at h
  have hp:Paired Tn l (l.map zaV):=zgc zaV fun t ht=>zfR n t (zcj.mp (by omega:zeq l<=n) t ht)
  simp only[zaV]
  rw[zeX]
  cases r with
  |false =>
   refine .any hp ?_
   show (l.map zaV).Perm (byK _ _)
   exact (zqp (by simp)).symm
  |true =>
   refine .row hp ?_
   unfold zmC
   simp only[if_true]
   split
   ·exact .inr rfl
   ·exact .inl rfl
theorem ziA{f:Tr->Int}:∀{l:List Tr},(∀ t∈l,f t∈zam t)->(zau l).Nodup->(l.map f).Nodup
 |[],_,_=>by simp
 |t::r,hm,hn=>by
  simp only[zau] at hn
  rw[List.nodup_append] at hn
  rw[List.map_cons,List.nodup_cons]
  refine ⟨fun z=>?_,ziA (fun u hu=>hm u (by simp[hu])) hn.2.1⟩
  obtain ⟨u,hu,e⟩:=List.mem_map.mp z
  have h1:=hm t (by simp)
  have h2:f t∈zau r:=by
   rw[zbA,List.mem_flatMap]
   exact ⟨u,hu,by rw[<- e];exact hm u (by simp[hu])⟩
  exact hn.2.2 _ h1 _ h2 rfl
theorem ziK{n:Nat}{l:List Tr}(hd:zeq l<=n)(ho:zhR l=true):∀ t∈l.map zaV,mn t∈zam t:=fun u hu=>by
 obtain ⟨t,ht,rfl⟩:=List.mem_map.mp hu
 have h1:=zcj.mp hd t ht
 rw[zc3,List.all_eq_true] at ho
 have h2:=zgK n t (zaV t) h1 (zfR n t h1)
 exact zuk (ze1 n _ (Nat.le_trans h2.2.2 h1) (by rw[h2.1];exact ho t ht))
theorem zhO{n:Nat}{l:List Tr}(hd:zeq l<=n)(ho:zhR l=true)(hn:(zau l).Nodup):((l.map zaV).map mn).Nodup:=by
 refine ziA (ziK hd ho) ?_
 have:=(zdg (zgK n) (zgc zaV fun t ht=>zfR n t (zcj.mp hd t ht)) hd).2.1
 exact this.nodup_iff.mpr hn
theorem zgZ:∀{l:List Tr}{t:Tr},t∈l->(zau l).Nodup->(zam t).Nodup
 |[],_,h,_=>by cases h
 |u::l,t,h,hn=>by
  simp only[zau] at hn
  rw[List.nodup_append] at hn
  rcases List.mem_cons.mp h with rfl|h
  ·exact hn.1
  ·exact zgZ h hn.2.1
theorem zjr(r:Bool):PySem.PyData.strOk (wd r)=true:=by cases r <;> decide +kernel
theorem zoS:∀(n:Nat)(t:Tr),dep t<=n->okN (2 * n) (toD t)=true
 |n,.lf i,_=>by simp[toD,okN]
 |0,.nd r l,h=>by simp[dep] at h
 |n+1,.nd r l,h=>by
  simp only[dep] at h
  have e:2 * (n+1)=(2 * n+1)+1:=by omega
  rw[e,toD]
  have h2:okN (2 * n+1) (.tup (zg4 l))=true:=by
   simp only[okN,zc7,List.all_eq_true,List.mem_map]
   rintro d ⟨t,ht,rfl⟩
   exact zoS n t (zcj.mp (by omega:zeq l<=n) t ht)
  have h1:okN (2 * n+1) (.str (wd r))=true:=by
   rw[okN];exact zjr r
  rw[okN]
  simp only[List.all_cons,List.all_nil,h1,h2,Bool.and_self]
theorem ok60{t:Tr}(h:dep t<=9):okN 59 (toD t)=true:=ztZ (zoS 9 t h) (by decide)
def isLf:Tr->Bool
 |.lf _=>true
 |.nd _ _=>false
theorem zhL(t:Tr):zbW [.val (toD t)]=.ok (.bl (isLf t),[.val .non]):=by
 cases t with
 |lf i=>rw[toD];rfl
 |nd r l=>rw[toD];rfl
theorem zeK:∀{l:List Tr}{t:Tr},t∈l->(zam t).length<=(zau l).length
 |[],_,h=>by cases h
 |u::l,t,h=>by
  simp only[zau,List.length_append]
  rcases List.mem_cons.mp h with rfl|h
  ·omega
  ·have:=zeK h;omega
theorem zg7{F:FD}{x:Option B}:∀{l:List Tr}{acc:List Int}{o:Option B},(∀ t∈l,F [.val (toD t)]=.ok (.lst ((zam t).map .int),[.val .non]))->acc.length+(zau l).length<=1000 ->
  ∃ o',zii (zaM 2) (dEx (zia 1 (zad F (dR (zab 2) dR0)))) (zg4 l) [x,some (.own (acc.map .int)),o]=.ok (.nx,[x,some (.own ((acc++zau l).map .int)),o'])
 |[],acc,o,_,_=>⟨o,by simp[zg4,zii,zau]⟩
 |t::l,acc,o,h,hl=>by
  simp only[zau,List.length_append] at hl
  obtain ⟨o',e⟩:=zg7 (F:=F) (x:=x) (l:=l) (acc:=acc++zam t) (o:=some (.val (toD t))) (fun u hu=>h u (by simp[hu])) (by simp only[List.length_append];omega)
  refine ⟨o',?_⟩
  rw[zg4,zii]
  show ((dEx (zia 1 (zad F (dR (zab 2) dR0)))) [x,some (.own (acc.map .int)),some (.val (toD t))]).bind _=_
  have e1:dEx (zia 1 (zad F (dR (zab 2) dR0))) [x,some (.own (acc.map .int)),some (.val (toD t))]=.ok (.nx,[x,some (.own ((acc++zam t).map .int)),some (.val (toD t))]):=by
   have ec:=zdv (F:=F) (fa:=zab 2) (ρ:=[x,some (.own (acc.map .int)),some (.val (toD t))]) (ρ':=[x,some (.own (acc.map .int)),some (.val (toD t))]) rfl (h t (by simp))
   unfold dEx zia
   simp only[List.getElem?_cons_succ,List.getElem?_cons_zero,ec,R.bind_ok,zra]
   rw[if_pos (by simp only[List.length_map];omega)]
   simp
  rw[e1]
  simp only[R.bind_ok]
  rw[e,zau,List.append_assoc]
theorem zg5:∀(n:Nat)(t:Tr),dep t<=n->(zam t).length<64->zaX n [.val (toD t)]=.ok (.lst ((zam t).map .int),[.val .non])
 |0,t,h,_=>by cases t <;> simp[dep] at h
 |n+1,.lf i,h,hl=>by
  refine zas (ρ':=[some (.val (.int i)),none,none]) rfl ?_ rfl
  rw[toD]
  rfl
 |n+1,.nd r l,h,hl=>by
  simp only[dep] at h
  simp only[zam] at hl ⊢
  have hsub:∀ t∈l,(zam t).length<=(zau l).length:=fun t ht=>zeK ht
  obtain ⟨o',e⟩:=zg7 (F:=zaX n) (x:=some (.val (toD (.nd r l)))) (l:=l) (acc:=[]) (o:=none) (fun t ht=>zg5 n t (zcj.mp (by omega:zeq l<=n) t ht) (by have:=hsub t ht;omega)) (by simp;omega)
  refine zas (ρ':=[some (.val (toD (.nd r l))),some (.val (.lst ((zau l).map .int))),o']) rfl ?_ rfl
  show zcI (zaX n) [some (.val (toD (.nd r l))),none,none]=_
  unfold zcI
  have e0:dIf (dTB (zad zbW (dR (zab 0) dR0))) (zb2 (dFz (zbY (dA (zab 0) dA0)))) dNx [some (.val (toD (.nd r l))),none,none]=.ok (.nx,[some (.val (toD (.nd r l))),none,none]):=by
   have ec:=zdv (F:=zbW) (fa:=zab 0) (ρ:=[some (.val (toD (.nd r l))),none,none]) (ρ':=[some (.val (toD (.nd r l))),none,none]) rfl (zhL (.nd r l))
   unfold dIf dTB
   rw[ec]
   rfl
  have e1:zb5 1 (zbY dA0) [some (.val (toD (.nd r l))),none,none]=.ok (.nx,[some (.val (toD (.nd r l))),some (.own []),none]):=rfl
  have e2:zga (dIt (dOp gIx (zab 0) (dC (.int 1)))) (zaM 2) (dEx (zia 1 (zad (zaX n) (dR (zab 2) dR0)))) [some (.val (toD (.nd r l))),some (.own []),none]=.ok (.nx,[some (.val (toD (.nd r l))),some (.own ((zau l).map .int)),o']):=by
   unfold zga
   have:dIt (dOp gIx (zab 0) (dC (.int 1))) [some (.val (toD (.nd r l))),some (.own []),none]=.ok (zg4 l,[some (.val (toD (.nd r l))),some (.own []),none]):=by rw[toD];rfl
   rw[this]
   simpa using e
  unfold za2
  rw[e0]
  simp only[R.bind_ok]
  rw[e1]
  simp only[R.bind_ok]
  rw[e2]
  rfl
theorem zkT(t:Tr)(h:dep t<=8)(hl:(zam t).length<64):zdK [.val (toD t)]=.ok (.lst ((zb9 (zam t)).map .int),[.val .non]):=by
 refine zas (ρ':=[some (.val (toD t))]) rfl ?_ rfl
 show zf3 [some (.val (toD t))]=_
 have ec:=zdv (F:=zaX 8) (fa:=zab 0) (ρ:=[some (.val (toD t))]) (ρ':=[some (.val (toD t))]) rfl (zg5 8 t h hl)
 unfold zf3 zb2 dFz zgJ dA dA0
 rw[ec]
 simp only[R.bind_ok]
 unfold zcp
 simp only[zh7]
 rw[if_pos hl]
 rfl
theorem zf6{t:Tr}(h:dep t<=8)(hl:(zam t).length<64)(hne:zam t≠[]):za6 [.val (toD t)]=.ok (.int (mn t),[.val .non]):=by
 refine zas (ρ':=[some (.val (toD t))]) rfl ?_ rfl
 show zdM [some (.val (toD t))]=_
 have ec:=zdv (F:=zdK) (fa:=zab 0) (ρ:=[some (.val (toD t))]) (ρ':=[some (.val (toD t))]) rfl (zkT t h hl)
 unfold zdM zb2 dOp
 rw[ec]
 have hne':zb9 (zam t)≠[]:=fun z=>hne (by have:=zbF (zam t);rw[z] at this;exact this.symm.eq_nil)
 cases e:zb9 (zam t) with
 |nil=>exact absurd e hne'
 |cons a q =>
  simp only[R.bind_ok,dC,List.map_cons]
  have:gIx (.lst (.int a::q.map .int)) (.int 0)=.ok (.int a):=by
   unfold gIx
   simp only[zmc]
  rw[this]
  simp only[R.bind_ok]
  unfold mn
  rw[e]
  rfl
theorem zpz{L:List Tr}(h:L≠[]):gIx (.lst (L.map toD)) (.int 0)=.ok (toD (L.headD (.lf 0))):=by
 cases L with
 |nil=>exact absurd rfl h
 |cons a q =>
  unfold gIx
  simp only[List.map_cons,zmc]
  rfl
theorem zlQ{α:Type}{l:List α}(h:l≠[]):atI l (-1)=l.getLast? := by
 unfold atI ixN
 have hl:0<l.length:=List.length_pos_iff.mpr h
 rw[if_neg (by decide),if_pos (by omega)]
 have e:((-1:Int)+(l.length:Nat)).toNat=l.length-1:=by omega
 rw[e,Option.bind_some,List.getLast?_eq_getElem?]
theorem znJ{L:List Tr}(h:L≠[]):gIx (.lst (L.map toD)) (.int (-1))=.ok (toD (L.getLastD (.lf 0))):=by
 unfold gIx
 have:atI (L.map toD) (-1)=some (toD (L.getLastD (.lf 0))):=by
  rw[zlQ (by simpa using h),List.getLast?_map,List.getLastD_eq_getLast?]
  cases e:L.getLast? with
  |none=>exact absurd (List.getLast?_eq_none_iff.mp e) h
  |some a=>rfl
 simp only[this]
theorem zkq:∀{l:List Int},l.Nodup->zhl l=true
 |[],_=>rfl
 |a::r,h=>by
  rw[List.nodup_cons] at h
  unfold zhl
  rw[zkq h.2,Bool.and_true]
  simpa using h.1
theorem zlY{α β:Type}(f:α->β)(p:Int×α):∀ l:List (Int×α),znx (p.1,f p.2) (l.map fun q=>(q.1,f q.2))=(znx p l).map fun q=>(q.1,f q.2)
 |[]=>rfl
 |q::r=>by
  simp only[List.map_cons,znx]
  split
  ·rfl
  ·simp only[List.map_cons,zlY f p r]
theorem zkr{α β:Type}(f:α->β):∀ l:List (Int×α),zhP (l.map fun q=>(q.1,f q.2))=(zhP l).map fun q=>(q.1,f q.2)
 |[]=>rfl
 |q::r=>by
  simp only[List.map_cons,zhP,zkr f r]
  exact zlY f q _
theorem zsv{α β:Type}(f:α->β)(ks:List Int)(l:List α):byK ks (l.map f)=(byK ks l).map f:=by
 unfold byK
 have:ks.zip (l.map f)=(ks.zip l).map fun q=>(q.1,f q.2):=by
  rw[List.zip_map_right]
  rfl
 rw[this,zkr,List.map_map,List.map_map]
 rfl
theorem zkb:∀{L:List Tr},(∀ t∈L,dep t<=8/\(zam t).length<64/\zam t≠[])->zeh za6 (L.map toD)=some (L.map mn)
 |[],_=>rfl
 |t::r,h=>by
  have ht:=h t (by simp)
  have ih:zeh za6 (r.map toD)=some (r.map mn):=zkb fun u hu=>h u (List.mem_cons_of_mem _ hu)
  rw[List.map_cons,zeh,zf6 ht.1 ht.2.1 ht.2.2]
  simp only[ih]
  rfl
theorem eqS{x y:Str}:eqD (.str x) (.str y)=(x == y):=by rw[eqD]
theorem ztQ(r:Bool):(wd r == Str.ofString "any") = !r:=by cases r <;> decide +kernel
theorem zoR:PySem.PyData.strOk (Str.ofString "any")=true:=by decide +kernel
theorem zrm{D:List Dt}{r:Bool}{x:Dt}{ρ:Ev}{i:Nat}(h:ρ[i]? = some (some (.val (.tup [.str (wd r),x])))):dTB (dOp (gEq false) (dOp gIx (zab i) (dC (.int 0))) (dC (.str (Str.ofString "any")))) ρ=.ok (!r,ρ):=by
 have e:dOp gIx (zab i) (dC (.int 0)) ρ=.ok (.str (wd r),ρ):=by
  unfold dOp zab
  rw[h]
  rfl
 unfold dTB
 rw[dOp,e]
 simp only[R.bind_ok,dC]
 rw[zek (by rw[okN];exact zjr r) (by rw[okN];exact zoR),eqS,ztQ]
 rfl
theorem zmv{n:Nat}{r:Bool}{l:List Tr}(hd:zeq l<=n)(ho:okT (.nd r l)=true)(hn:(zau l).Nodup)(hl:(zau l).length<64) :
  (∀ t∈l.map zaV,dep t<=n/\(zam t).length<64/\zam t≠[])/\((l.map zaV).map mn).Nodup/\l.map zaV≠[]/\2<=(l.map zaV).length/\(l.map zaV).length<64:=by
 simp only[okT,Bool.and_eq_true,decide_eq_true_eq] at ho
 have h2:2<=l.length:=by have:=ho.1;cases r <;> simp at this <;> omega
 refine ⟨fun u hu=>?_,zhO hd ho.2 hn,?_,by simpa using h2,?_⟩
 ·obtain ⟨t,ht,rfl⟩:=List.mem_map.mp hu
  have h1:=zcj.mp hd t ht
  have ho':=ho.2
  rw[zc3,List.all_eq_true] at ho'
  obtain ⟨q1,q2,q3⟩:=zgK n t (zaV t) h1 (zfR n t h1)
  refine ⟨Nat.le_trans q3 h1,?_,ze1 n _ (Nat.le_trans q3 h1) (by rw[q1];exact ho' t ht)⟩
  have:=zeK ht
  rw[q2.length_eq]
  omega
 ·intro z
  rw[List.map_eq_nil_iff] at z
  rw[z] at h2;simp at h2
 ·rw[List.length_map]
  have:l.length<=(zau l).length:=by
   have hok:=ho.2
   have:∀(l:List Tr),zeq l<=n->zhR l=true->l.length<=(zau l).length:=by
    intro l
    induction l with
    |nil=>intros;simp
    |cons t q ih =>
     intro hd ho
     simp only[zeq] at hd
     simp only[zhR,Bool.and_eq_true] at ho
     have h1:=List.length_pos_iff.mpr (ze1 n t (by omega) ho.1)
     have h2:=ih (by omega) ho.2
     simp only[zau,List.length_append,List.length_cons]
     omega
   exact this l hd hok
  omega
theorem zm6:∀(n:Nat)(t:Tr),n<=8->dep t<=n->okT t=true->(zam t).Nodup->(zam t).length<64->zbQ n [.val (toD t)]=.ok (toD (zaV t),[.val .non])
 |0,t,_,h,_,_,_=>by cases t <;> simp[dep] at h
 |n+1,.lf i,h8,h,ho,hn,hl=>by
  refine zas (ρ':=[some (.val (.int i)),none]) rfl ?_ rfl
  rw[toD,zaV]
  rfl
 |n+1,.nd r l,h8,h,ho,hn,hl=>by
  simp only[dep] at h
  simp only[zam] at hl hn
  have hd:zeq l<=n:=by omega
  obtain ⟨B1,B2,B3,B4,B5⟩:=zmv hd ho hn hl
  have ho2:∀ t∈l,okT t=true:=by
   simp only[okT,Bool.and_eq_true] at ho
   have:=ho.2
   rw[zc3,List.all_eq_true] at this
   exact this
  have hn2:∀ t∈l,(zam t).Nodup:=fun t ht=>zgZ ht hn
  have hD:toD (.nd r l)=.tup [.str (wd r),.tup (zg4 l)]:=by rw[toD]
  have e0:dIf (dTB (zad zbW (dR (zab 0) dR0))) (zb2 (zab 0)) dNx [some (.val (toD (.nd r l))),none]=.ok (.nx,[some (.val (toD (.nd r l))),none]):=by
   have ec:=zdv (F:=zbW) (fa:=zab 0) (ρ:=[some (.val (toD (.nd r l))),none]) (ρ':=[some (.val (toD (.nd r l))),none]) rfl (zhL (.nd r l))
   unfold dIf dTB
   rw[ec]
   rfl
  have e1:zbf 1 (dFz (za3 (dIt (dOp gIx (zab 0) (dC (.int 1)))) (zaM 2) dTT (zad (zbQ n) (dR (zab 2) dR0)) 1)) [some (.val (toD (.nd r l))),none]=.ok (.nx,[some (.val (toD (.nd r l))),some (.val (.lst ((l.map zaV).map toD)))]):=by
   have:=zbg (ρ0:=[some (.val (toD (.nd r l))),none]) (fi:=dIt (dOp gIx (zab 0) (dC (.int 1)))) (fe:=zad (zbQ n) (dR (zab 2) dR0)) (l:=l) (u:=toD) (f:=fun t=>toD (zaV t)) (ds:=zg4 l) (j:=2) (by rw[hD];rfl) (zc7 l) (by simp only[List.length_map] at B5;omega)
    (fun t ht=>zdv (ρ':=[some (.val (toD (.nd r l))),none]++[some (.val (toD t))]) rfl (zm6 n t (by omega) (zcj.mp hd t ht) (ho2 t ht) (hn2 t ht) (by have:=zeK ht;omega))) rfl
   unfold zbf dFz
   rw[this]
   simp only[R.bind_ok]
   rw[List.map_map]
   rfl
  have e2:dIf (dTB (dOp (gEq false) (dOp gIx (zab 0) (dC (.int 0))) (dC (.str (Str.ofString "any"))))) (zbf 1 (dFz (zkk za6 (zab 1)))) (dIf (dTB (dOp gGt (zad za6 (dR (dOp gIx (zab 1) (dC (.int 0))) dR0)) (zad za6 (dR (dOp gIx (zab 1) (znD (dC (.int 1)))) dR0)))) (zbf 1 (dFz (zkt (zab 1)))) dNx) [some (.val (toD (.nd r l))),some (.val (.lst ((l.map zaV).map toD)))]=.ok (.nx,[some (.val (toD (.nd r l))),some (.val (.lst ((zmC r (l.map zaV)).map toD)))]):=by
   unfold dIf
   rw[zrm (D:=[]) (r:=r) (x:=.tup (zg4 l)) (by rw[hD];rfl)]
   simp only[R.bind_ok]
   cases r with
   |false =>
    simp only[Bool.not_false,if_true]
    unfold zbf dFz zkk
    show ((((match zeh za6 ((l.map zaV).map toD) with|some ks=>if (decide (((l.map zaV).map toD).length<64) && zhl ks)=true then R.ok (byK ks ((l.map zaV).map toD),_) else .no|none=>.no):R (List Dt×Ev)).bind _).bind _)=_
    rw[zkb fun t ht=>by
     have:=B1 t ht
     exact ⟨by omega,this.2⟩]
    simp only
    rw[zkq B2,if_pos (by simp only[Bool.and_true,decide_eq_true_eq,List.length_map] at B5 ⊢;exact B5)]
    rw[zsv]
    rfl
   |true =>
    rw[if_neg (by decide)]
    have c1:=zdv (F:=za6) (fa:=dOp gIx (zab 1) (dC (.int 0))) (ρ:=[some (.val (toD (.nd true l))),some (.val (.lst ((l.map zaV).map toD)))]) (ρ':=[some (.val (toD (.nd true l))),some (.val (.lst ((l.map zaV).map toD)))]) (d:=toD ((l.map zaV).headD (.lf 0))) (by
      show ((gIx (.lst ((l.map zaV).map toD)) (.int 0)).bind _)=_
      rw[zpz B3];rfl) (by
      have hm:(l.map zaV).headD (.lf 0)∈l.map zaV:=by
       cases e:l.map zaV with
       |nil=>exact absurd e B3
       |cons a q=>simp
      have:=B1 _ hm
      exact zf6 (by omega) this.2.1 this.2.2)
    have c2:=zdv (F:=za6) (fa:=dOp gIx (zab 1) (znD (dC (.int 1)))) (ρ:=[some (.val (toD (.nd true l))),some (.val (.lst ((l.map zaV).map toD)))]) (ρ':=[some (.val (toD (.nd true l))),some (.val (.lst ((l.map zaV).map toD)))]) (d:=toD ((l.map zaV).getLastD (.lf 0))) (by
      show ((gIx (.lst ((l.map zaV).map toD)) (.int (-1))).bind _)=_
      rw[znJ B3];rfl) (by
      have hm:(l.map zaV).getLastD (.lf 0)∈l.map zaV:=by
       rw[List.getLastD_eq_getLast?]
       cases e:(l.map zaV).getLast? with
       |none=>exact absurd (List.getLast?_eq_none_iff.mp e) B3
       |some a=>exact List.mem_of_getLast? e
      have:=B1 _ hm
      exact zf6 (by omega) this.2.1 this.2.2)
    have c3:dTB (dOp gGt (zad za6 (dR (dOp gIx (zab 1) (dC (.int 0))) dR0)) (zad za6 (dR (dOp gIx (zab 1) (znD (dC (.int 1)))) dR0))) [some (.val (toD (.nd true l))),some (.val (.lst ((l.map zaV).map toD)))]=.ok (decide (mn ((l.map zaV).getLastD (.lf 0))<mn ((l.map zaV).headD (.lf 0))),[some (.val (toD (.nd true l))),some (.val (.lst ((l.map zaV).map toD)))]):=by
     exact zbn (zax c1 c2 rfl)
    rw[c3]
    simp only[R.bind_ok]
    unfold zmC
    rw[if_pos rfl]
    by_cases hgt:mn ((l.map zaV).getLastD (.lf 0))<mn ((l.map zaV).headD (.lf 0))
    ·rw[if_pos (decide_eq_true hgt),if_pos hgt]
     rw[List.map_reverse]
     rfl
    ·rw[if_neg (by simpa using hgt),if_neg hgt]
     rfl
  refine zas (ρ':=[some (.val (toD (.nd r l))),some (.val (.lst ((zmC r (l.map zaV)).map toD)))]) rfl ?_ rfl
  show zfB (zbQ n) [some (.val (toD (.nd r l))),none]=_
  unfold zfB za2
  rw[e0]
  simp only[R.bind_ok]
  rw[e1]
  simp only[R.bind_ok]
  rw[e2]
  simp only[R.bind_ok]
  rw[zaV,zeX,hD,toD]
  simp only[zc7]
  rfl
theorem zhx{F:FD}{x:Option B}:∀{l:List Tr}{acc:List Int}{o:Option B},(∀ t∈l,F [.val (toD t)]=.ok (.lst ((zam t).map .int),[.val .non]))->acc.length+(zau l).length<=1000 ->
  ∃ o',zii (zaM 2) (zbf 1 (dFz (zdD (zab 1) (zad F (dR (zab 2) dR0))))) (zg4 l) [x,some (.val (.lst (acc.map .int))),o]=.ok (.nx,[x,some (.val (.lst ((acc++zau l).map .int))),o'])
 |[],acc,o,_,_=>⟨o,by simp[zg4,zii,zau]⟩
 |t::l,acc,o,h,hl=>by
  simp only[zau,List.length_append] at hl
  obtain ⟨o',e⟩:=zhx (F:=F) (x:=x) (l:=l) (acc:=acc++zam t) (o:=some (.val (toD t))) (fun u hu=>h u (List.mem_cons_of_mem _ hu)) (by simp only[List.length_append];omega)
  refine ⟨o',?_⟩
  rw[zg4,zii]
  show ((zbf 1 (dFz (zdD (zab 1) (zad F (dR (zab 2) dR0))))) [x,some (.val (.lst (acc.map .int))),some (.val (toD t))]).bind _=_
  have e1:zbf 1 (dFz (zdD (zab 1) (zad F (dR (zab 2) dR0)))) [x,some (.val (.lst (acc.map .int))),some (.val (toD t))]=.ok (.nx,[x,some (.val (.lst ((acc++zam t).map .int))),some (.val (toD t))]):=by
   have ec:=zdv (F:=F) (fa:=zab 2) (ρ:=[x,some (.val (.lst (acc.map .int))),some (.val (toD t))]) (ρ':=[x,some (.val (.lst (acc.map .int))),some (.val (toD t))]) rfl (h t (by simp))
   have e2:zdD (zab 1) (zad F (dR (zab 2) dR0)) [x,some (.val (.lst (acc.map .int))),some (.val (toD t))]=.ok ((acc++zam t).map .int,[x,some (.val (.lst (acc.map .int))),some (.val (toD t))]):=by
    have ev:zab 1 [x,some (.val (.lst (acc.map .int))),some (.val (toD t))]=.ok (.lst (acc.map .int),[x,some (.val (.lst (acc.map .int))),some (.val (toD t))]):=rfl
    unfold zdD
    rw[ev]
    simp only[R.bind_ok]
    rw[ec]
    simp only[R.bind_ok]
    rw[if_pos (by simp only[List.length_map];omega),List.map_append]
   exact zbv (zba e2) (by simp)
  rw[e1]
  simp only[R.bind_ok]
  rw[e,zau,List.append_assoc]
theorem zhm:∀(n:Nat)(t:Tr),dep t<=n->(zam t).length<=1000->zay n [.val (toD t)]=.ok (.lst ((zam t).map .int),[.val .non])
 |0,t,h,_=>by cases t <;> simp[dep] at h
 |n+1,.lf i,h,hl=>by
  refine zas (ρ':=[some (.val (.int i)),none,none]) rfl ?_ rfl
  rw[toD,zam]
  rfl
 |n+1,.nd r l,h,hl=>by
  simp only[dep] at h
  simp only[zam] at hl ⊢
  obtain ⟨o',e⟩:=zhx (F:=zay n) (x:=some (.val (toD (.nd r l)))) (l:=l) (acc:=[]) (o:=none) (fun t ht=>zhm n t (zcj.mp (by omega:zeq l<=n) t ht) (by have:=zeK ht;omega)) (by simp;omega)
  have hD:toD (.nd r l)=.tup [.str (wd r),.tup (zg4 l)]:=by rw[toD]
  refine zas (ρ':=[some (.val (toD (.nd r l))),some (.val (.lst ((zau l).map .int))),o']) rfl ?_ rfl
  show zdW (zay n) [some (.val (toD (.nd r l))),none,none]=_
  unfold zdW
  rw[zag (ρ1:=[some (.val (toD (.nd r l))),none,none]) (by rw[hD];rfl)]
  rw[zag (ρ1:=[some (.val (toD (.nd r l))),some (.val (.lst [])),none]) rfl]
  rw[zag (ρ1:=[some (.val (toD (.nd r l))),some (.val (.lst ((zau l).map .int))),o'])]
  ·rfl
  ·unfold zga
   have:dIt (dOp gIx (zab 0) (dC (.int 1))) [some (.val (toD (.nd r l))),some (.val (.lst [])),none]=.ok (zg4 l,[some (.val (toD (.nd r l))),some (.val (.lst [])),none]):=by rw[hD];rfl
   rw[this]
   simpa using e
theorem zsh{l:List Int}(h:l≠[]):znB l=(zb9 l).headD 0:=(zre (zm9 h) fun a ha=>zrT ha).symm
def tdN:Nat->Dt->Bool
 |_,.int _=>true
 |_,.str x=>PySem.PyData.strOk x
 |n+1,.tup l=>decide (l.length<=1000) && l.all (tdN n)
 |_,_=>false
theorem zlC{n:Nat}:∀(l:List Tr),zeq l<=n->zhR l=true->l.length<=(zau l).length
 |[],_,_=>by simp
 |t::q,hd,ho=>by
  simp only[zeq] at hd
  simp only[zhR,Bool.and_eq_true] at ho
  have h1:=List.length_pos_iff.mpr (ze1 n t (by omega) ho.1)
  have h2:=zlC (n:=n) q (by omega) ho.2
  simp only[zau,List.length_append,List.length_cons]
  omega
theorem znK:∀(n:Nat)(t:Tr),dep t<=n->okT t=true->(zam t).length<64->tdN (2 * n) (toD t)=true
 |n,.lf i,_,_,_=>by rw[toD];cases n <;> rfl
 |0,.nd r l,h,_,_=>by simp[dep] at h
 |n+1,.nd r l,h,ho,hl=>by
  simp only[dep] at h
  simp only[okT,Bool.and_eq_true] at ho
  simp only[zam] at hl
  have e:2 * (n+1)=(2 * n+1)+1:=by omega
  rw[e,toD]
  have hk:=zlC (n:=n) l (by omega) ho.2
  have ho2:=ho.2
  rw[zc3,List.all_eq_true] at ho2
  have h2:tdN (2 * n+1) (.tup (zg4 l))=true:=by
   rw[tdN,zc7,Bool.and_eq_true,List.all_eq_true]
   refine ⟨by simp only[List.length_map,decide_eq_true_eq];omega,fun d hd=>?_⟩
   obtain ⟨t,ht,rfl⟩:=List.mem_map.mp hd
   exact znK n t (zcj.mp (by omega:zeq l<=n) t ht) (ho2 t ht) (by have:=zeK ht;omega)
  have h1:tdN (2 * n+1) (.str (wd r))=true:=zjr r
  rw[tdN]
  simp only[List.all_cons,List.all_nil,h1,h2,Bool.and_self,List.length_cons,List.length_nil]
  rfl
theorem okB{b:Bool}:okN 60 (.bl b)=true:=rfl
theorem eqB{a b:Bool}:eqD (.bl a) (.bl b)=(a == b):=by rw[eqD]
theorem zjE{f:Dt->Dt}{fe:De}{a b:Option B}:∀{l:List Dt}{o o2:Option B},(∀ d∈l,fe [a,b,some (.val d),some (.val d)]=.ok (f d,[a,b,some (.val d),some (.val d)]))->∃ o' o2',zb3 (zeo 2 3) dTT fe (l.map fun d=>.tup [d,d]) [a,b,o,o2]=.ok (l.map f,[a,b,o',o2'])
 |[],o,o2,_=>⟨o,o2,rfl⟩
 |d::l,o,o2,h=>by
  obtain ⟨o',o2',e⟩:=zjE (l:=l) (o:=some (.val d)) (o2:=some (.val d)) fun c hc=>h c (List.mem_cons_of_mem _ hc)
  refine ⟨o',o2',?_⟩
  rw[List.map_cons,zb3]
  show (((fe [a,b,some (.val d),some (.val d)]).bind fun y=>(zb3 (zeo 2 3) dTT fe (l.map fun d=>.tup [d,d]) y.2).bind fun z=>R.ok (y.1::z.1,z.2)):R _)=_
  rw[h d (by simp)]
  simp only[R.bind_ok]
  rw[e]
  rfl
theorem zgo:∀(l:List Dt),zfe (l.map fun _=>Dt.bl true)=some (l.map fun _=>true)
 |[]=>rfl
 |d::l=>by simp[zfe,zgo l]
theorem zkK{F:FD}{d:Dt}(h1:(zi1 (tyD d) "tuple" || zi1 (tyD d) "list")=false)(h2:okN 60 d=true)(h3:eqD d d=true):zca F [some (.val d),some (.val d)]=.ok (.rt (.bl true),[some (.val d),some (.val d)]):=by
 unfold zca
 have e0:dTB (zr3 "tuple" "list" (zab 1)) [some (.val d),some (.val d)]=.ok (false,[some (.val d),some (.val d)]):=by
  show R.ok ((zi1 (tyD d) "tuple" || zi1 (tyD d) "list"),[some (B.val d),some (.val d)])=_
  rw[h1]
 rw[zag (ρ1:=[some (.val d),some (.val d)]) (by rw[zcn e0];rfl)]
 refine zb8 ?_
 have e1:dOp (gEq false) (zab 0) (zab 1) [some (.val d),some (.val d)]=.ok (.bl true,[some (.val d),some (.val d)]):=zax rfl rfl (by rw[zek h2 h2,h3];rfl)
 have e2:dOp (gEq false) (zes "bool" (zab 0)) (zes "bool" (zab 1)) [some (.val d),some (.val d)]=.ok (.bl true,[some (.val d),some (.val d)]):=zax rfl rfl (by
  rw[zek okB okB,eqB];simp)
 unfold zkS
 rw[e1]
 simp only[R.bind_ok]
 rw[e2]
theorem zmf{n:Nat}{l:List Dt}(hl:l.length<=1000)(hs:∀ d∈l,zar (n+1) [.val d,.val d]=.ok (.bl true,[.val .non,.val .non])):zar (n+2) [.val (.tup l),.val (.tup l)]=.ok (.bl true,[.val .non,.val .non]):=by
  refine zas (ρ':=[some (.val (.tup l)),some (.val (.tup l))]) rfl ?_ rfl
  show zca (zar (n+1)) [some (.val (.tup l)),some (.val (.tup l))]=_
  unfold zca
  refine ze2 ?_
  rw[zdB (ρ1:=[some (.val (.tup l)),some (.val (.tup l))]) rfl]
  have t1:dTB (dOp (gEq true) (zes "tuple" (zab 0)) (zes "tuple" (zab 1))) [some (.val (.tup l)),some (.val (.tup l))]=.ok (false,[some (.val (.tup l)),some (.val (.tup l))]):=zbn (zax rfl rfl (by rw[zek okB okB,eqB];simp))
  have t2:dTB (dOp (gEq true) (zes "list" (zab 0)) (zes "list" (zab 1))) [some (.val (.tup l)),some (.val (.tup l))]=.ok (false,[some (.val (.tup l)),some (.val (.tup l))]):=zbn (zax rfl rfl (by rw[zek okB okB,eqB];simp))
  have t3:dTB (dOp (gEq true) (dFn zbN (dA (zab 0) dA0)) (dFn zbN (dA (zab 1) dA0))) [some (.val (.tup l)),some (.val (.tup l))]=.ok (false,[some (.val (.tup l)),some (.val (.tup l))]):=zbn (zax (d:=.int l.length) (e:=.int l.length) rfl rfl (by rw[zek rfl rfl,eqI];simp))
  rw[zag (ρ1:=[some (.val (.tup l)),some (.val (.tup l))]) (by rw[zcn (ρ1:=[some (.val (.tup l)),some (.val (.tup l))]) (by rw[zm8 t1,t2])];rfl)]
  rw[zag (ρ1:=[some (.val (.tup l)),some (.val (.tup l))]) (by rw[zcn t3];rfl)]
  refine zb8 ?_
  obtain ⟨o',o2',e⟩:=zjE (a:=some (.val (.tup l))) (b:=some (.val (.tup l))) (fe:=zad (zar (n+1)) (dR (zab 2) (dR (zab 3) dR0))) (f:=fun _=>.bl true) (l:=l) (o:=none) (o2:=none) fun d hd =>
   zep (ρ':=[some (.val (.tup l)),some (.val (.tup l)),some (.val d),some (.val d)]) rfl rfl (hs d hd)
  have ez:∀(l:List Dt),(l.zip l).map (fun z=>Dt.tup [z.1,z.2])=l.map fun d=>.tup [d,d]:=fun l=>by
   induction l with
   |nil=>rfl
   |cons d l ih=>simp[ih]
  have ec:dFz (za3 (zls (zab 0) (zab 1)) (zeo 2 3) dTT (zad (zar (n+1)) (dR (zab 2) (dR (zab 3) dR0))) 2) [some (.val (.tup l)),some (.val (.tup l))]=.ok (.lst (l.map fun _=>.bl true),[some (.val (.tup l)),some (.val (.tup l))]):=by
   refine zba ?_
   have eZ:zls (zab 0) (zab 1) [some (.val (.tup l)),some (.val (.tup l))]=.ok (l.map fun d=>.tup [d,d],[some (.val (.tup l)),some (.val (.tup l))]):=by
    show (if l.length=l.length then R.ok ((l.zip l).map (fun z=>Dt.tup [z.1,z.2]),[some (B.val (.tup l)),some (.val (.tup l))]) else .no)=_
    rw[if_pos rfl,ez]
   unfold za3
   rw[eZ]
   simp only[R.bind_ok]
   rw[if_pos (by unfold zem;simp only[List.length_map,decide_eq_true_eq];omega)]
   show (match zb3 (zeo 2 3) dTT (zad (zar (n+1)) (dR (zab 2) (dR (zab 3) dR0))) (l.map fun d=>.tup [d,d]) [some (.val (.tup l)),some (.val (.tup l)),none,none] with|.ok z=>R.ok (z.1,z.2.take 2)|_=>.no)=_
   rw[e]
   rfl
  refine zbM ec ?_
  unfold zn2
  simp only[zgo]
  simp
theorem zqq{n:Nat}{l:List Dt}(hl:l.length<=1000)(hs:∀ d∈l,zar (n+1) [.val d,.val d]=.ok (.bl true,[.val .non,.val .non])):zar (n+2) [.val (.lst l),.val (.lst l)]=.ok (.bl true,[.val .non,.val .non]):=by
  refine zas (ρ':=[some (.val (.lst l)),some (.val (.lst l))]) rfl ?_ rfl
  show zca (zar (n+1)) [some (.val (.lst l)),some (.val (.lst l))]=_
  unfold zca
  refine ze2 ?_
  rw[zdB (ρ1:=[some (.val (.lst l)),some (.val (.lst l))]) rfl]
  have t1:dTB (dOp (gEq true) (zes "tuple" (zab 0)) (zes "tuple" (zab 1))) [some (.val (.lst l)),some (.val (.lst l))]=.ok (false,[some (.val (.lst l)),some (.val (.lst l))]):=zbn (zax rfl rfl (by rw[zek okB okB,eqB];simp))
  have t2:dTB (dOp (gEq true) (zes "list" (zab 0)) (zes "list" (zab 1))) [some (.val (.lst l)),some (.val (.lst l))]=.ok (false,[some (.val (.lst l)),some (.val (.lst l))]):=zbn (zax rfl rfl (by rw[zek okB okB,eqB];simp))
  have t3:dTB (dOp (gEq true) (dFn zbN (dA (zab 0) dA0)) (dFn zbN (dA (zab 1) dA0))) [some (.val (.lst l)),some (.val (.lst l))]=.ok (false,[some (.val (.lst l)),some (.val (.lst l))]):=zbn (zax (d:=.int l.length) (e:=.int l.length) rfl rfl (by rw[zek rfl rfl,eqI];simp))
  rw[zag (ρ1:=[some (.val (.lst l)),some (.val (.lst l))]) (by rw[zcn (ρ1:=[some (.val (.lst l)),some (.val (.lst l))]) (by rw[zm8 t1,t2])];rfl)]
  rw[zag (ρ1:=[some (.val (.lst l)),some (.val (.lst l))]) (by rw[zcn t3];rfl)]
  refine zb8 ?_
  obtain ⟨o',o2',e⟩:=zjE (a:=some (.val (.lst l))) (b:=some (.val (.lst l))) (fe:=zad (zar (n+1)) (dR (zab 2) (dR (zab 3) dR0))) (f:=fun _=>.bl true) (l:=l) (o:=none) (o2:=none) fun d hd =>
   zep (ρ':=[some (.val (.lst l)),some (.val (.lst l)),some (.val d),some (.val d)]) rfl rfl (hs d hd)
  have ez:∀(l:List Dt),(l.zip l).map (fun z=>Dt.tup [z.1,z.2])=l.map fun d=>.tup [d,d]:=fun l=>by
   induction l with
   |nil=>rfl
   |cons d l ih=>simp[ih]
  have ec:dFz (za3 (zls (zab 0) (zab 1)) (zeo 2 3) dTT (zad (zar (n+1)) (dR (zab 2) (dR (zab 3) dR0))) 2) [some (.val (.lst l)),some (.val (.lst l))]=.ok (.lst (l.map fun _=>.bl true),[some (.val (.lst l)),some (.val (.lst l))]):=by
   refine zba ?_
   have eZ:zls (zab 0) (zab 1) [some (.val (.lst l)),some (.val (.lst l))]=.ok (l.map fun d=>.tup [d,d],[some (.val (.lst l)),some (.val (.lst l))]):=by
    show (if l.length=l.length then R.ok ((l.zip l).map (fun z=>Dt.tup [z.1,z.2]),[some (B.val (.lst l)),some (.val (.lst l))]) else .no)=_
    rw[if_pos rfl,ez]
   unfold za3
   rw[eZ]
   simp only[R.bind_ok]
   rw[if_pos (by unfold zem;simp only[List.length_map,decide_eq_true_eq];omega)]
   show (match zb3 (zeo 2 3) dTT (zad (zar (n+1)) (dR (zab 2) (dR (zab 3) dR0))) (l.map fun d=>.tup [d,d]) [some (.val (.lst l)),some (.val (.lst l)),none,none] with|.ok z=>R.ok (z.1,z.2.take 2)|_=>.no)=_
   rw[e]
   rfl
  refine zbM ec ?_
  unfold zn2
  simp only[zgo]
  simp
theorem zh0:∀(n:Nat)(d:Dt),tdN n d=true->okN 60 d=true->zar (n+1) [.val d,.val d]=.ok (.bl true,[.val .non,.val .non])
 |n,.int i,ht,ho=>zas rfl (zkK rfl ho (by rw[eqI];simp)) rfl
 |n,.str x,ht,ho=>zas rfl (zkK rfl ho (by rw[eqS];simp)) rfl
 |0,.tup l,ht,ho=>by simp[tdN] at ht
 |n+1,.tup l,ht,ho=>by
  rw[tdN,Bool.and_eq_true,List.all_eq_true,decide_eq_true_eq] at ht
  exact zmf ht.1 fun d hd=>zh0 n d (ht.2 d hd) (by
   rw[okN,List.all_eq_true] at ho
   exact zfT _ _ (ho d hd))
 |n,.non,ht,ho=>by cases n <;> simp[tdN] at ht
 |n,.bl _,ht,ho=>by cases n <;> simp[tdN] at ht
 |n,.lst _,ht,ho=>by cases n <;> simp[tdN] at ht
 |n,.dct,ht,ho=>by cases n <;> simp[tdN] at ht
 |n,.scr _,ht,ho=>by cases n <;> simp[tdN] at ht
theorem zmm:∀(n:Nat)(d:Dt),tdN n d=true->tdN (n+1) d=true
 |n,.int _,_=>rfl
 |n,.str x,h=>by cases n <;> simpa [tdN] using h
 |0,.tup l,h=>by simp[tdN] at h
 |n+1,.tup l,h=>by
  rw[tdN,Bool.and_eq_true,List.all_eq_true] at h ⊢
  exact ⟨h.1,fun d hd=>zmm n d (h.2 d hd)⟩
 |n,.non,h=>by cases n <;> simp[tdN] at h
 |n,.bl _,h=>by cases n <;> simp[tdN] at h
 |n,.lst _,h=>by cases n <;> simp[tdN] at h
 |n,.dct,h=>by cases n <;> simp[tdN] at h
 |n,.scr _,h=>by cases n <;> simp[tdN] at h
theorem zor{t:Tr}(h:dep t<=7)(ho:okT t=true)(hl:(zam t).length<64):zar 16 [.val (toD t),.val (toD t)]=.ok (.bl true,[.val .non,.val .non]) :=
 zh0 15 _ (zmm _ _ (znK 7 t h ho hl)) (zfT _ _ (ok60 (by omega)))
theorem zsW{k:Nat}(p:List Int)(hl:p.length<=1000):zar (k+2) [.val (tz p),.val (tz p)]=.ok (.bl true,[.val .non,.val .non]):=by
 unfold tz
 refine zmf (by simpa using hl) fun d hd=>?_
 obtain ⟨i,_,rfl⟩:=List.mem_map.mp hd
 exact zh0 k (.int i) (by cases k <;> rfl) rfl
theorem zsF{k:Nat}(ps:List (List Int))(hl:ps.length<=1000)(h:∀ p∈ps,p.length<=1000):zar (k+3) [.val (.lst (lp ps)),.val (.lst (lp ps))]=.ok (.bl true,[.val .non,.val .non]):=by
 refine zqq (by unfold lp;simpa using hl) fun d hd=>?_
 obtain ⟨p,hp,rfl⟩:=List.mem_map.mp hd
 exact zsW p (h p hp)
def znC(t:Tr):List Tr->List Tr
 |[]=>[t]
 |a::r=>if mn a<mn t then a::znC t r else t::a::r
def zeE(t:Tr)(l:List Tr):List Tr:=l.filter fun o=>decide (mn o<mn t)
theorem zrp(t:Tr):∀(l:List Tr),l.Pairwise (fun a b=>mn a<=mn b)->l.take (zeE t l).length++t::l.drop (zeE t l).length=znC t l
 |[],_=>rfl
 |a::r,h=>by
  have ih:=zrp t r h.tail
  unfold znC
  by_cases hm:mn a<mn t
  ·rw[if_pos hm]
   have e:zeE t (a::r)=a::zeE t r:=by unfold zeE;rw[List.filter_cons_of_pos (by simpa using hm)]
   rw[e]
   simp only[List.length_cons,List.take_succ_cons,List.drop_succ_cons,List.cons_append,ih]
  ·rw[if_neg hm]
   have e:zeE t (a::r)=[]:=by
    unfold zeE
    rw[List.filter_eq_nil_iff]
    intro o ho
    rcases List.mem_cons.mp ho with rfl|ho
    ·simpa using hm
    ·have:=(List.pairwise_cons.mp h).1 o ho
     simp only[decide_eq_true_eq]
     omega
   rw[e]
   rfl
theorem zeH(t:Tr):∀ l:List Tr,(znC t l).Perm (t::l)
 |[]=>.refl _
 |a::r=>by
  unfold znC
  split
  ·exact ((zeH t r).cons a).trans (.swap ..)
  ·exact .refl _
theorem zj5(t:Tr):∀ l:List Tr,l.Pairwise (fun a b=>mn a<=mn b)->(znC t l).Pairwise (fun a b=>mn a<=mn b)
 |[],_=>by simp[znC]
 |a::r,h=>by
  obtain ⟨h1,h2⟩:=List.pairwise_cons.mp h
  unfold znC
  split
  ·rename_i hm
   refine List.pairwise_cons.mpr ⟨fun b hb=>?_,zj5 t r h2⟩
   rcases List.mem_cons.mp ((zeH t r).mem_iff.mp hb) with rfl|hb
   ·omega
   ·exact h1 b hb
  ·rename_i hm
   refine List.pairwise_cons.mpr ⟨fun b hb=>?_,h⟩
   rcases List.mem_cons.mp hb with rfl|hb
   ·omega
   ·have:=h1 b hb;omega
def zfn:List Tr->List Tr->List Tr
 |[],acc=>acc
 |t::r,acc=>zfn r (znC t acc)
theorem zk9:∀(l acc:List Tr),acc.Pairwise (fun a b=>mn a<=mn b)->(zfn l acc).Perm (l++acc)/\(zfn l acc).Pairwise (fun a b=>mn a<=mn b)
 |[],acc,h=>⟨.refl _,h⟩
 |t::r,acc,h=>by
  obtain ⟨h1,h2⟩:=zk9 r (znC t acc) (zj5 t acc h)
  refine ⟨?_,h2⟩
  unfold zfn
  refine h1.trans (((zeH t acc).append_left r).trans ?_)
  exact List.perm_middle
theorem zn7{l:List Tr}(hn:(l.map mn).Nodup):zfn l []=byK (l.map mn) l:=by
 obtain ⟨h1,h2⟩:=zk9 l [] .nil
 rw[List.append_nil] at h1
 have hz:∀ l:List Tr,(l.map mn).zip l=l.map fun t=>(mn t,t):=fun l=>by
  induction l with
  |nil=>rfl
  |cons a r ih=>simp[ih]
 unfold byK
 rw[hz]
 have hp:((zfn l []).map fun t=>(mn t,t)).Perm (zhP (l.map fun t=>(mn t,t))):=(h1.map _).trans (zdy _).symm
 have hq:((zfn l []).map fun t=>(mn t,t)).Pairwise (fun x y:Int×Tr=>x.1<=y.1):=by
  rw[List.pairwise_map];exact h2
 rw[<- zsq hp ?_ hq (zhz _),List.map_map]
 ·exact (List.map_id _).symm
 ·rw[List.map_map]
  exact ((h1.map mn).nodup_iff).mpr hn
theorem ziv{α:Type}{u:α->Dt}{p:α->Bool}{ft:DT}{fe:De}{ρ0:Ev}:∀{l:List α}{o:Option B},(∀ a∈l,ft (ρ0++[some (.val (u a))])=.ok (p a,ρ0++[some (.val (u a))]))->(∀ a∈l,fe (ρ0++[some (.val (u a))])=.ok (u a,ρ0++[some (.val (u a))])) ->
  ∃ o',zb3 (zaM ρ0.length) ft fe (l.map u) (ρ0++[o])=.ok ((l.filter p).map u,ρ0++[o'])
 |[],o,_,_=>⟨o,rfl⟩
 |a::l,o,h,h2=>by
  obtain ⟨o',e⟩:=ziv (l:=l) (o:=some (.val (u a))) (fun b hb=>h b (List.mem_cons_of_mem _ hb)) (fun b hb=>h2 b (List.mem_cons_of_mem _ hb))
  refine ⟨o',?_⟩
  rw[List.map_cons,zb3,zlR]
  simp only[R.bind_ok]
  rw[h a (by simp)]
  simp only[R.bind_ok]
  by_cases hp:p a=true
  ·rw[if_pos hp,h2 a (by simp)]
   simp only[R.bind_ok]
   rw[e]
   simp only[R.bind_ok]
   rw[List.filter_cons_of_pos hp]
   rfl
  ·rw[if_neg hp,e,List.filter_cons_of_neg hp]
def zpg:DT:=(dTB (dOp gLt (dFn zea (dA (zad (zay 8) (dR (zab 5) dR0)) dA0)) (dFn zea (dA (zad (zay 8) (dR (zab 3) dR0)) dA0))))
def zkD:DS:=(za2 (zbf 4 (dFz (za3 (zt0 2) (zaM 5) zpg (zab 5) 1))) (dEx (zpR 2 (dFn zbN (dA (zab 4) dA0)) (zab 3))))
theorem znv(F:FD):zeO F=(za2 (dIf (zbL (dTB (zes "tuple" (zab 0)))) (zb2 (zab 0)) dNx) (za2 (zbf 1 (dFz (za3 (dIt (dOp gIx (zab 0) (dC (.int 1)))) (zaM 5) dTT (zad F (dR (zab 5) dR0)) 1))) (za2 (dIf (dTB (dOp (gEq false) (dOp gIx (zab 0) (dC (.int 0))) (dC (.str (Str.ofString "any"))))) (za2 (zb5 2 (zbY dA0)) (za2 (zga (dIt (zab 1)) (zaM 3) zkD) (zbf 1 (zf4 2)))) (dIf (dTB (dOp gLt (dFn zea (dA (zad (zay 8) (dR (dOp gIx (zab 1) (znD (dC (.int 1)))) dR0)) dA0)) (dFn zea (dA (zad (zay 8) (dR (dOp gIx (zab 1) (dC (.int 0))) dR0)) dA0)))) (zbf 1 (dFz (zkt (zab 1)))) dNx)) (zb2 (zjJ (dA (dOp gIx (zab 0) (dC (.int 0))) (dA (dFn zbi (dA (zab 1) dA0)) dA0))))))):=rfl
theorem zfU{fa:De}{ρ ρ1:Ev}{t:Tr}(h:fa ρ=.ok (toD t,ρ1))(hd:dep t<=8)(hl:(zam t).length<=1000)(hne:zam t≠[]):dFn zea (dA (zad (zay 8) (dR fa dR0)) dA0) ρ=.ok (.int (mn t),ρ1) :=
 zbM (zdv h (zhm 8 t hd hl)) (by
  unfold zea
  simp only[zh7]
  have hz:=zsh hne
  show _=R.ok (Dt.int ((zb9 (zam t)).headD 0))
  rw[<- hz]
  cases hq:zam t with
  |nil=>exact absurd hq hne
  |cons a q=>rfl)
def zu2(t:Tr):Prop:=dep t<=8/\(zam t).length<=1000/\zam t≠[]
theorem zmM{A Bv o4:Option B}{t:Tr}{f:List Tr}(ht:zu2 t)(hf:∀ o∈f,zu2 o)(hs:f.Pairwise (fun a b=>mn a<=mn b))(hl:f.length<=1000) :
  ∃ b4,zkD [A,Bv,some (.own (f.map toD)),some (.val (toD t)),o4]=.ok (.nx,[A,Bv,some (.own ((znC t f).map toD)),some (.val (toD t)),b4]):=by
 let ρ:Ev:=[A,Bv,some (.own (f.map toD)),some (.val (toD t)),o4]
 obtain ⟨o',e⟩:=ziv (u:=toD) (p:=fun o=>decide (mn o<mn t)) (ft:=zpg) (fe:=zab 5) (ρ0:=ρ) (l:=f) (o:=none) (fun o ho=>by
  have e1:=zfU (fa:=zab 5) (ρ:=ρ++[some (.val (toD o))]) (ρ1:=ρ++[some (.val (toD o))]) (t:=o) rfl (hf o ho).1 (hf o ho).2.1 (hf o ho).2.2
  have e2:=zfU (fa:=zab 3) (ρ:=ρ++[some (.val (toD o))]) (ρ1:=ρ++[some (.val (toD o))]) (t:=t) rfl ht.1 ht.2.1 ht.2.2
  exact zbn (zax e1 e2 rfl)) (fun o ho=>rfl)
 have ec:za3 (zt0 2) (zaM 5) zpg (zab 5) 1 ρ=.ok ((zeE t f).map toD,ρ):=by
  unfold za3
  show (if zem (f.map toD)=true then (match zb3 (zaM 5) zpg (zab 5) (f.map toD) (ρ++[none]) with|.ok z=>R.ok (z.1,z.2.take 5)|_=>.no) else .no)=_
  rw[if_pos (zl6 (by simpa using hl))]
  have e':zb3 (zaM 5) zpg (zab 5) (f.map toD) (ρ++[none])=_:=e
  rw[e']
  rfl
 have hle:(zeE t f).length<=f.length:=List.length_filter_le _ _
 refine ⟨some (.val (.lst ((zeE t f).map toD))),?_⟩
 show zkD ρ=_
 unfold zkD
 rw[zag (zbv (i:=4) (zba ec) (by simp[ρ]))]
 refine zen (d:=.non) ?_
 have el:((zeE t f).map toD).length=(zeE t f).length:=List.length_map _
 show (if 0<=((((zeE t f).map toD).length:Nat):Int)/\((((zeE t f).map toD).length:Nat):Int)<=((f.map toD).length:Nat)/\(f.map toD).length<16777216 then R.ok (Dt.non,([A,Bv,some (B.own ((f.map toD).take ((((zeE t f).map toD).length:Nat):Int).toNat++toD t::(f.map toD).drop ((((zeE t f).map toD).length:Nat):Int).toNat)),some (.val (toD t)),some (.val (.lst ((zeE t f).map toD)))]:Ev)) else .no)=_
 rw[el,List.length_map,if_pos (by omega),Int.toNat_natCast,<- List.map_take,<- List.map_drop,<- zrp t f hs,List.map_append,List.map_cons]
theorem zuz{A Bv:Option B}:∀(l f:List Tr)(o3 o4:Option B),(∀ t∈l,zu2 t)->(∀ o∈f,zu2 o)->f.Pairwise (fun a b=>mn a<=mn b)->f.length+l.length<=1000 ->
  ∃ b3 b4,zii (zaM 3) zkD (l.map toD) [A,Bv,some (.own (f.map toD)),o3,o4]=.ok (.nx,[A,Bv,some (.own ((zfn l f).map toD)),b3,b4])
 |[],f,o3,o4,_,_,_,_=>⟨o3,o4,rfl⟩
 |t::r,f,o3,o4,h1,h2,h3,h4=>by
  obtain ⟨b4,e⟩:=zmM (A:=A) (Bv:=Bv) (o4:=o4) (h1 t (by simp)) h2 h3 (by simp at h4;omega)
  obtain ⟨c3,c4,e2⟩:=zuz (A:=A) (Bv:=Bv) r (znC t f) (some (.val (toD t))) b4 (fun x hx=>h1 x (List.mem_cons_of_mem _ hx)) (fun o ho=>by
   rcases List.mem_cons.mp ((zeH t f).mem_iff.mp ho) with rfl|ho
   ·exact h1 _ (by simp)
   ·exact h2 o ho) (zj5 t f h3) (by rw[(zeH t f).length_eq];simp at h4 ⊢;omega)
  refine ⟨c3,c4,?_⟩
  show ((zaM 3 (toD t) [A,Bv,some (.own (f.map toD)),o3,o4]).bind _)=_
  show ((zkD [A,Bv,some (.own (f.map toD)),some (.val (toD t)),o4]).bind _)=_
  rw[e]
  exact e2
theorem zgU:∀(n:Nat)(t:Tr),n<=8->dep t<=n->okT t=true->(zam t).Nodup->(zam t).length<64->zbP n [.val (toD t)]=.ok (toD (zaV t),[.val .non])
 |0,t,_,h,_,_,_=>by cases t <;> simp[dep] at h
 |n+1,.lf i,h8,h,ho,hn,hl=>by
  refine zas (ρ':=[some (.val (.int i)),none,none,none,none]) rfl ?_ rfl
  rw[toD,zaV]
  rfl
 |n+1,.nd r l,h8,h,ho,hn,hl=>by
  simp only[dep] at h
  simp only[zam] at hl hn
  have hd:zeq l<=n:=by omega
  obtain ⟨B1,B2,B3,B4,B5⟩:=zmv hd ho hn hl
  have ho2:∀ t∈l,okT t=true:=by
   simp only[okT,Bool.and_eq_true] at ho
   have:=ho.2
   rw[zc3,List.all_eq_true] at this
   exact this
  have hn2:∀ t∈l,(zam t).Nodup:=fun t ht=>zgZ ht hn
  have hD:toD (.nd r l)=.tup [.str (wd r),.tup (zg4 l)]:=by rw[toD]
  have hll:l.length<=1000:=by simp only[List.length_map] at B5;omega
  let T:Option B:=some (.val (toD (.nd r l)))
  let L:List Tr:=l.map zaV
  have hG:∀ t∈L,zu2 t:=fun t ht=>by have:=B1 t ht;exact ⟨by omega,by omega,this.2.2⟩
  let ρ0:Ev:=[T,none,none,none,none]
  let ρ1:Ev:=[T,some (.val (.lst (L.map toD))),none,none,none]
  have e0:dIf (zbL (dTB (zes "tuple" (zab 0)))) (zb2 (zab 0)) dNx ρ0=.ok (.nx,ρ0):=by
   show dIf (zbL (dTB (zes "tuple" (zab 0)))) (zb2 (zab 0)) dNx [some (.val (toD (.nd r l))),none,none,none,none]=.ok (.nx,[some (.val (toD (.nd r l))),none,none,none,none])
   rw[hD];rfl
  have e1:zbf 1 (dFz (za3 (dIt (dOp gIx (zab 0) (dC (.int 1)))) (zaM 5) dTT (zad (zbP n) (dR (zab 5) dR0)) 1)) ρ0=.ok (.nx,ρ1):=by
   have:=zbg (ρ0:=ρ0) (fi:=dIt (dOp gIx (zab 0) (dC (.int 1)))) (fe:=zad (zbP n) (dR (zab 5) dR0)) (l:=l) (u:=toD) (f:=fun t=>toD (zaV t)) (ds:=zg4 l) (j:=5) (by
     show dIt (dOp gIx (zab 0) (dC (.int 1))) [some (.val (toD (.nd r l))),none,none,none,none]=.ok (zg4 l,[some (.val (toD (.nd r l))),none,none,none,none])
     rw[hD];rfl) (zc7 l) hll
    (fun t ht=>zdv (ρ':=ρ0++[some (.val (toD t))]) rfl (zgU n t (by omega) (zcj.mp hd t ht) (ho2 t ht) (hn2 t ht) (by have:=zeK ht;omega))) rfl
   rw[show l.map (fun t=>toD (zaV t))=L.map toD by rw[List.map_map];rfl] at this
   exact zbv (zba this) (by simp[ρ0])
  obtain ⟨c2,c3,c4,e2⟩ : ∃ c2 c3 c4,dIf (dTB (dOp (gEq false) (dOp gIx (zab 0) (dC (.int 0))) (dC (.str (Str.ofString "any"))))) (za2 (zb5 2 (zbY dA0)) (za2 (zga (dIt (zab 1)) (zaM 3) zkD) (zbf 1 (zf4 2)))) (dIf (dTB (dOp gLt (dFn zea (dA (zad (zay 8) (dR (dOp gIx (zab 1) (znD (dC (.int 1)))) dR0)) dA0)) (dFn zea (dA (zad (zay 8) (dR (dOp gIx (zab 1) (dC (.int 0))) dR0)) dA0)))) (zbf 1 (dFz (zkt (zab 1)))) dNx) ρ1=.ok (.nx,[T,some (.val (.lst ((zmC r L).map toD))),c2,c3,c4]):=by
   have ea:=zrm (D:=[]) (r:=r) (x:=.tup (zg4 l)) (ρ:=ρ1) (i:=0) (by show some (some (B.val (toD (.nd r l))))=_;rw[hD])
   cases r with
   |false =>
    obtain ⟨b3,b4,ef⟩:=zuz (A:=T) (Bv:=some (.val (.lst (L.map toD)))) L [] none none hG (by simp) .nil (by simp[L];omega)
    refine ⟨some (.val (.lst ((zfn L []).map toD))),b3,b4,?_⟩
    rw[zdB ea,zag (zdY (i:=2) (d:=[]) (ρ1:=ρ1) rfl (by simp[ρ1])),zag (show zga (dIt (zab 1)) (zaM 3) zkD (ρ1.set 2 (some (.own [])))=_ from ef)]
    rw[show zmC false L=zfn L [] from by unfold zmC;rw[if_neg (by decide),zn7 B2]]
    rfl
   |true =>
    refine ⟨none,none,none,?_⟩
    rw[zcn ea]
    have mh:(L.headD (.lf 0))∈L:=by
     cases e:L with
     |nil=>exact absurd e B3
     |cons a q=>simp
    have ml:(L.getLastD (.lf 0))∈L:=by
     rw[List.getLastD_eq_getLast?]
     cases e:L.getLast? with
     |none=>exact absurd (List.getLast?_eq_none_iff.mp e) B3
     |some a=>exact List.mem_of_getLast? e
    have k1:=zfU (fa:=dOp gIx (zab 1) (znD (dC (.int 1)))) (ρ:=ρ1) (ρ1:=ρ1) (t:=L.getLastD (.lf 0)) (zax (d:=.lst (L.map toD)) (e:=.int (-1)) (ρ1:=ρ1) rfl rfl (znJ B3)) (hG _ ml).1 (hG _ ml).2.1 (hG _ ml).2.2
    have k2:=zfU (fa:=dOp gIx (zab 1) (dC (.int 0))) (ρ:=ρ1) (ρ1:=ρ1) (t:=L.headD (.lf 0)) (zax (d:=.lst (L.map toD)) (e:=.int 0) (ρ1:=ρ1) rfl rfl (zpz B3)) (hG _ mh).1 (hG _ mh).2.1 (hG _ mh).2.2
    have kt:dTB (dOp gLt (dFn zea (dA (zad (zay 8) (dR (dOp gIx (zab 1) (znD (dC (.int 1)))) dR0)) dA0)) (dFn zea (dA (zad (zay 8) (dR (dOp gIx (zab 1) (dC (.int 0))) dR0)) dA0))) ρ1=.ok (decide (mn (L.getLastD (.lf 0))<mn (L.headD (.lf 0))),ρ1):=zbn (zax k1 k2 rfl)
    unfold zmC
    rw[if_pos rfl]
    by_cases hgt:mn (L.headD (.lf 0)) > mn (L.getLastD (.lf 0))
    ·rw[decide_eq_true hgt] at kt
     rw[zdB kt,if_pos hgt,List.map_reverse]
     rfl
    ·rw[decide_eq_false hgt] at kt
     rw[zcn kt,if_neg hgt]
     rfl
  refine zas (ρ':=[T,some (.val (.lst ((zmC r L).map toD))),c2,c3,c4]) rfl ?_ rfl
  show zeO (zbP n) ρ0=_
  rw[znv,zag e0,zag e1,zag e2]
  refine zb8 ?_
  have ew:dOp gIx (zab 0) (dC (.int 0)) [T,some (.val (.lst ((zmC r L).map toD))),c2,c3,c4]=.ok (.str (wd r),[T,some (.val (.lst ((zmC r L).map toD))),c2,c3,c4]):=by
   refine zax (d:=toD (.nd r l)) (e:=.int 0) rfl rfl ?_
   rw[hD];rfl
  rw[zg1 (zev ew (zev (fr:=dA0) (zbM (g:=zbi) (d:=.lst ((zmC r L).map toD)) (z:=.tup ((zmC r L).map toD)) rfl rfl) rfl)) (by simp)]
  rw[zaV,zeX]
  simp only[toD,zc7]
  rfl
theorem zbX{nw:Bool}{ks:List Bool}{m:Nat}{body:DS}{bs:List B}{n:Nat}(hk:zbH bs=ks)(hb:body (bs.map some++List.replicate m none)=.er n):zat nw ks m body bs=.er n:=by
 unfold zat
 rw[if_pos hk,hb]
 rfl
theorem zpY{n:Int}{d:Dt}{m:Dt}(h:isG n d=false):zaU [.val (.int n),.val d,.val m]=.er 2:=by
 let ρ0:Ev:=[some (.val (.int n)),some (.val d),some (.val m)]
 have e:zad zb0 (dR (zab 0) (dR (zab 1) dR0)) ρ0=.ok (.bl false,ρ0):=by
  have:=zgr n d
  rw[h] at this
  exact zep (ρ':=ρ0) (ρ'':=ρ0) rfl rfl this
 have ed:zb7 ρ0=.er 2:=by
  unfold zb7
  show za2 _ _ ρ0=_
  unfold za2
  rw[zdB (zdL (b:=false) (zbn e))]
  rfl
 exact zbX rfl ed
theorem zlX{n g m:Int}:dTB (dOp gGt (dOp zaA (dOp zdc (zab 0) (dC (.int 1))) (zab 2)) (dC (.int 7))) [some (.val (.int n)),some (.val (.int g)),some (.val (.int m))]=.ok (decide (7<n-1+m),[some (.val (.int n)),some (.val (.int g)),some (.val (.int m))]):=rfl
theorem zlG{n g m:Int}(h0:0<=g)(h1:g<n):dIf (zbL (dTB (zad zb0 (dR (zab 0) (dR (zab 1) dR0))))) (zei 2 (dA (dC (.str (Str.ofString "this is no guest in whose stead a bench could be put in"))) dA0)) dNx [some (.val (.int n)),some (.val (.int g)),some (.val (.int m))]=.ok (.nx,[some (.val (.int n)),some (.val (.int g)),some (.val (.int m))]):=by
 have e:zad zb0 (dR (zab 0) (dR (zab 1) dR0)) [some (.val (.int n)),some (.val (.int g)),some (.val (.int m))]=.ok (.bl true,[some (.val (.int n)),some (.val (.int g)),some (.val (.int m))]):=by
  have:=zgr n (.int g)
  rw[show isG n (.int g)=true by simp[isG];omega] at this
  exact zep (ρ':=[some (.val (.int n)),some (.val (.int g)),some (.val (.int m))]) (ρ'':=[some (.val (.int n)),some (.val (.int g)),some (.val (.int m))]) rfl rfl this
 rw[zcn (zdL (b:=true) (zbn e))]
 rfl
theorem zlU{n g m:Int}(h0:0<=g)(h1:g<n)(h:n-1+m<=7):zaU [.val (.int n),.val (.int g),.val (.int m)]=.ok (.non,[.val .non,.val .non,.val .non]):=by
 let ρ0:Ev:=[some (.val (.int n)),some (.val (.int g)),some (.val (.int m))]
 refine zkn (ρ':=ρ0) rfl ?_ rfl
 show zb7 ρ0=_
 unfold zb7
 have eg:=zlX (n:=n) (g:=g) (m:=m)
 rw[decide_eq_false (by omega)] at eg
 rw[zag (zlG h0 h1),zcn eg]
 rfl
theorem znh{n g m:Int}(h0:0<=g)(h1:g<n)(h:7<n-1+m):zaU [.val (.int n),.val (.int g),.val (.int m)]=.er 0:=by
 let ρ0:Ev:=[some (.val (.int n)),some (.val (.int g)),some (.val (.int m))]
 have ed:zb7 ρ0=.er 0:=by
  unfold zb7
  have eg:=zlX (n:=n) (g:=g) (m:=m)
  rw[decide_eq_true h] at eg
  rw[zag (zlG h0 h1),zdB eg]
  rfl
 exact zbX rfl ed
def mv(a m g:Int):Int:=if g<a then g else g+m-1
theorem zin(g a m:Int):zdo [.val (.int g),.val (.int a),.val (.int m)]=.ok (.int (mv a m g),[.val .non,.val .non,.val .non]):=by
 let ρ0:Ev:=[some (.val (.int g)),some (.val (.int a)),some (.val (.int m))]
 refine zas (ρ':=ρ0) rfl ?_ rfl
 show zlz ρ0=_
 unfold zlz
 refine zb8 ?_
 have eg:dTB (dOp gLt (zab 0) (zab 1)) ρ0=.ok (decide (g<a),ρ0):=rfl
 unfold zvi
 rw[eg]
 simp only[R.bind_ok]
 unfold mv
 by_cases h:g<a
 ·rw[if_pos (decide_eq_true h),if_pos h];rfl
 ·rw[if_neg (by simpa using h),if_neg h];rfl
def bn(a:Int)(m:Nat):List Int:=(List.range m).map fun k=>a+(k:Nat)
theorem zet(a:Int)(m:Nat):(bn a m).length=m:=by simp[bn]
theorem zkd(a:Int)(m:Nat):zaI a m=(bn a m).map .int:=by
 unfold zaI bn
 rw[List.map_map]
 rfl
def pp(a:Int)(m:Nat)(p:List Int):List Int:=zb9 ((p.filter fun g=>!(g == a)).map (mv a m)++(if a∈p then bn a m else []))
theorem zuy(a:Int)(m:Nat)(p:List Int):(pp a m p).length<=p.length+m:=by
 unfold pp
 rw[(zbF _).length_eq,List.length_append,List.length_map]
 have:=List.length_filter_le (fun g=>!(g == a)) p
 split
 ·rw[zet];omega
 ·simp;omega
theorem zt6(a:Int)(p:List Int):inD (.int a) (p.map .int)=decide (a∈p):=by
 rw[zsr]
 by_cases h:a∈p
 ·rw[decide_eq_true h,List.any_eq_true]
  exact ⟨a,h,by simp⟩
 ·rw[decide_eq_false h,List.any_eq_false]
  intro x hx e
  exact h (by simpa using (by simpa using e:x=a) ▸ hx)
theorem zrv(a:Int)(p:List Int):gIn false (.int a) (tz p)=.ok (.bl (decide (a∈p))):=by
 unfold gIn tz
 simp only
 rw[if_pos (by rw[zjL];rfl),zt6]
 rfl
theorem zi5{p:Int->Bool}{f:Int->Int}{ft:DT}{fe:De}{ρ0:Ev}:∀{l:List Int}{o:Option B},(∀ a∈l,ft (ρ0++[some (.val (.int a))])=.ok (p a,ρ0++[some (.val (.int a))]))->(∀ a∈l,p a=true->fe (ρ0++[some (.val (.int a))])=.ok (.int (f a),ρ0++[some (.val (.int a))])) ->
  ∃ o',zb3 (zaM ρ0.length) ft fe (l.map .int) (ρ0++[o])=.ok (((l.filter p).map f).map .int,ρ0++[o'])
 |[],o,_,_=>⟨o,rfl⟩
 |a::l,o,h,h2=>by
  obtain ⟨o',e⟩:=zi5 (l:=l) (o:=some (.val (.int a))) (fun b hb=>h b (List.mem_cons_of_mem _ hb)) (fun b hb=>h2 b (List.mem_cons_of_mem _ hb))
  refine ⟨o',?_⟩
  rw[List.map_cons,zb3,zlR]
  simp only[R.bind_ok]
  rw[h a (by simp)]
  simp only[R.bind_ok]
  by_cases hp:p a=true
  ·rw[if_pos hp,h2 a (by simp) hp]
   simp only[R.bind_ok]
   rw[e]
   simp only[R.bind_ok]
   rw[List.filter_cons_of_pos hp]
   rfl
  ·rw[if_neg hp,e,List.filter_cons_of_neg hp]
theorem zha{p:Int->Bool}{f:Int->Int}{ft:DT}{fe:De}{ρ0:Ev}{fi:DA}{l:List Int}{j:Nat}(hi:fi ρ0=.ok (l.map .int,ρ0))(hl:l.length<=1000)(h:∀ a∈l,ft (ρ0++[some (.val (.int a))])=.ok (p a,ρ0++[some (.val (.int a))]))(h2:∀ a∈l,p a=true->fe (ρ0++[some (.val (.int a))])=.ok (.int (f a),ρ0++[some (.val (.int a))]))(hj:j = ρ0.length) :
  za3 fi (zaM j) ft fe 1 ρ0=.ok (((l.filter p).map f).map .int,ρ0):=by
 subst hj
 obtain ⟨o',e⟩:=zi5 (o:=none) h h2
 unfold za3
 rw[hi]
 simp only[R.bind_ok]
 rw[if_pos (zl6 (by simpa using hl))]
 show (match zb3 (zaM ρ0.length) ft fe (l.map .int) (ρ0++[none]) with|.ok z=>R.ok (z.1,z.2.take ρ0.length)|_=>.no)=_
 rw[e]
 simp
theorem zpw{i j:Nat}{ρ:Ev}{a b:Int}(h1:zab i ρ=.ok (.int a,ρ))(h2:zab j ρ=.ok (.int b,ρ)):dTB (dOp (gEq true) (zab i) (zab j)) ρ=.ok (!(a == b),ρ) :=
 zbn (zax h1 h2 (by rw[zuL];rfl))
theorem zpx{p:List Int}{a:Int}{m:Nat}(hm:m<=7)(hp:p.length<=40):zbx [.val (tz p),.val (.int a),.val (tz (bn a m))]=.ok (tz (pp a m p),[.val .non,.val .non,.val .non]):=by
 let P:Option B:=some (.val (tz p))
 let A:Option B:=some (.val (.int a))
 let N:Option B:=some (.val (tz (bn a m)))
 let q:List Int:=(p.filter fun g=>!(g == a)).map (mv a m)
 have hq:q.length<=40:=by
  show ((p.filter fun g=>!(g == a)).map (mv a m)).length<=40
  rw[List.length_map]
  have:=List.length_filter_le (fun g=>!(g == a)) p
  omega
 have hc:za3 (dIt (zab 0)) (zaM 4) (dTB (dOp (gEq true) (zab 4) (zab 1))) (zad zdo (dR (zab 4) (dR (zab 1) (dR (dFn zbN (dA (zab 2) dA0)) dR0)))) 1 [P,A,N,none]=.ok (q.map .int,[P,A,N,none]):=by
  refine zha (ρ0:=[P,A,N,none]) (l:=p) (j:=4) rfl (by omega) (fun g hg=>zpw rfl rfl) (fun g hg _=>?_) rfl
  have el:dFn zbN (dA (zab 2) dA0) ([P,A,N,none]++[some (.val (.int g))])=.ok (.int m,[P,A,N,none]++[some (.val (.int g))]):=zbM (d:=tz (bn a m)) rfl (by simp[zbN,tz,zet])
  exact zpn (ρ1:=[P,A,N,none]++[some (.val (.int g))]) (ρ2:=[P,A,N,none]++[some (.val (.int g))]) rfl rfl el (zin g a m)
 have x1:zb5 3 (za3 (dIt (zab 0)) (zaM 4) (dTB (dOp (gEq true) (zab 4) (zab 1))) (zad zdo (dR (zab 4) (dR (zab 1) (dR (dFn zbN (dA (zab 2) dA0)) dR0)))) 1) [P,A,N,none]=.ok (.nx,[P,A,N,some (.own (q.map .int))]):=zdY (i:=3) hc (by simp)
 have ei:dTB (dOp (gIn false) (zab 1) (zab 0)) [P,A,N,some (.own (q.map .int))]=.ok (decide (a∈p),[P,A,N,some (.own (q.map .int))]):=zbn (zax (d:=.int a) (e:=tz p) rfl rfl (zrv a p))
 have x2:dIf (dTB (dOp (gIn false) (zab 1) (zab 0))) (dEx (zia 3 (zab 2))) dNx [P,A,N,some (.own (q.map .int))]=.ok (.nx,[P,A,N,some (.own ((q++if a∈p then bn a m else []).map .int))]):=by
  by_cases h:a∈p
  ·rw[decide_eq_true h] at ei
   rw[zdB ei,if_pos h,List.map_append]
   refine zen (d:=.non) ?_
   show (if (q.map Dt.int).length+((bn a m).map Dt.int).length<=16777216 then R.ok (Dt.non,[P,A,N,some (.own (q.map .int++(bn a m).map .int))]) else .no)=_
   have h1:(q.map Dt.int).length=q.length:=List.length_map _
   have h2:((bn a m).map Dt.int).length=m:=by rw[List.length_map,zet]
   rw[if_pos (by rw[h1,h2];omega)]
  ·rw[decide_eq_false h] at ei
   rw[zcn ei,if_neg h,List.append_nil]
   rfl
 refine zas (ρ':=[P,A,N,some (.val (.lst ((q++if a∈p then bn a m else []).map .int)))]) rfl ?_ rfl
 show zds [P,A,N,none]=_
 unfold zds
 rw[zag x1,zag x2]
 refine zb8 (zbM (d:=.lst ((pp a m p).map .int)) (zba ?_) rfl)
 show ((zcp [.lst ((q++if a∈p then bn a m else []).map .int)]).bind _)=_
 unfold zcp
 simp only[zh7]
 rw[if_pos (by
  rw[List.length_append]
  split
  ·rw[zet];omega
  ·simp;omega)]
 rfl
theorem ztj{α:Type}{l:List α}{j:Nat}(h:j<=l.length):zka l none (some (j:Int))=l.take j:=by
 unfold zka
 rw[HT.sIx_none,HT.sIx_nat,List.drop_zero,Nat.sub_zero,Nat.min_eq_left h]
theorem zqk{α:Type}{l:List α}{j:Nat}(h:j<=l.length):zka l (some (j:Int)) none=l.drop j:=by
 unfold zka
 rw[HT.sIx_none,HT.sIx_nat,Nat.min_eq_left h]
 rw[List.take_of_length_le (by rw[List.length_drop];omega)]
def TrE(gs:List Int)(t:Tr):Prop:=okT t=true/\zam t=gs/\dep t<=gs.length
def zmX(F:FD):DS:=(za2 (zbf 6 (dOp zaA (dC (.int 1)) (zad zae (dRO 0 (dR (dOp zdc (dFn zbN (dA (zab 3) dA0)) (dOp zdc (dOp zdc (zab 2) (dC (.int 1))) (zab 5))) dR0))))) (za2 (dEx (zd2 4 (zad F (dRO 0 (dR (dFz (zp7 (zab 3) dO0 (dO1 (zab 6)))) dR0))))) (zbf 3 (dFz (zp7 (zab 3) (dO1 (zab 6)) dO0)))))
theorem zlV(F:FD):zdE F=(za2 (dIf (dTB (dOp (gEq false) (dFn zbN (dA (zab 1) dA0)) (dC (.int 1)))) (zb2 (dOp gIx (zab 1) (dC (.int 0)))) dNx) (za2 (zbf 2 (dFn zgl (dA (dFn zbN (dA (zab 1) dA0)) (dA (dOp zaA (dC (.int 2)) (zad zae (dRO 0 (dR (dC (.int 3)) dR0)))) dA0)))) (za2 (zbf 3 (dFz (zgJ zjq (dA (zab 1) dA0)))) (za2 (zb5 4 (zbY dA0)) (za2 (zga (zbq (dOp zdc (zab 2) (dC (.int 1)))) (zaM 5) (zmX F)) (za2 (dEx (zd2 4 (zad F (dRO 0 (dR (zab 3) dR0))))) (za2 (zbf 7 (dC (.str (Str.ofString "any")))) (za2 (dIf (zgI (dTB (dOp gGt (zab 2) (dC (.int 2)))) (dTB (dOp (gEq false) (zad zae (dRO 0 (dR (dC (.int 2)) dR0))) (dC (.int 0))))) (zbf 7 (dC (.str (Str.ofString "row")))) dNx) (zb2 (zjJ (dA (zab 7) (dA (dFn zbi (dA (zf4 4) dA0)) dA0)))))))))))):=rfl
theorem appS{F:FD}{fb:De}{st st':List Dt}{d y:Dt}{G M Lf o5 o6 o7:Option B}{bs:List Dt}(h:fb [some (.own st),G,M,Lf,some (.own bs),o5,o6,o7]=.ok (d,[some (.own st),G,M,Lf,some (.own bs),o5,o6,o7]))(hF:F [.own st,.val d]=.ok (y,[.own st',.val .non]))(hl:bs.length<1000) :
  dEx (zd2 4 (zad F (dRO 0 (dR fb dR0)))) [some (.own st),G,M,Lf,some (.own bs),o5,o6,o7]=.ok (.nx,[some (.own st'),G,M,Lf,some (.own (bs++[y])),o5,o6,o7]):=by
 have e:=zjB (F:=F) (fb:=fb) (i:=0) (ρ:=[some (.own st),G,M,Lf,some (.own bs),o5,o6,o7]) rfl h hF
 refine zen (d:=.non) ?_
 unfold zd2
 show ((zad F (dRO 0 (dR fb dR0)) [some (.own st),G,M,Lf,some (.own bs),o5,o6,o7]).bind _)=_
 rw[e]
 show (if bs.length<16777216 then R.ok (Dt.non,([some (B.own st'),G,M,Lf,some (.own (bs++[y])),o5,o6,o7]:Ev)) else .no)=_
 rw[if_pos (by omega)]
theorem zkH{F:FD}{L many:Nat}{G o7:Option B}(hF:∀(gs:List Int)(st:List Dt),1<=gs.length->gs.length<L->St st->∃ t st',St st'/\TrE gs t/\F [.own st,.val (.lst (gs.map .int))]=.ok (toD t,[.own st',.val .non]))(hL:L<=7) :
  ∀(r k:Nat)(left:List Int)(bs:List Tr)(st:List Dt)(o5 o6:Option B),k+r+1=many->r+1<=left.length->left.length+k<=L->(∀ t∈bs,okT t=true/\dep t+1<=L)->bs.length+r<=100->St st ->
  ∃ left' bs' st' b5 b6,St st'/\1<=left'.length/\left'.length+(many-1)<=L/\zau bs'++left'=zau bs++left/\bs'.length=bs.length+r/\(∀ t∈bs',okT t=true/\dep t+1<=L) /\
   zii (zaM 5) (zmX F) ((List.range' k r).map fun (i:Nat)=>Dt.int ((0:Int)+i)) [some (.own st),G,some (.val (.int many)),some (.val (.lst (left.map .int))),some (.own (bs.map toD)),o5,o6,o7]=.ok (.nx,[some (.own st'),G,some (.val (.int many)),some (.val (.lst (left'.map .int))),some (.own (bs'.map toD)),b5,b6,o7])
 |0,k,left,bs,st,o5,o6,hk,h1,h2,hb,hc,hs=>⟨left,bs,st,o5,o6,hs,by omega,by omega,rfl,rfl,hb,rfl⟩
 |r+1,k,left,bs,st,o5,o6,hk,h1,h2,hb,hc,hs=>by
  let M:Option B:=some (.val (.int many))
  let T5:Option B:=some (.val (.int ((0:Int)+k)))
  obtain ⟨v,st1,e1,hs1,v0,v1⟩:=zbr (m:=(left.length:Int)-(((many:Int)-1)-((0:Int)+k))) hs (by omega) (by omega)
  obtain ⟨s,hsz⟩ : ∃ s:Nat,(s:Int)=1+v:=⟨(1+v).toNat,by omega⟩
  have hs1':1<=s:=by omega
  have hs2':s+(r+1)<=left.length:=by omega
  let Lf:Option B:=some (.val (.lst (left.map .int)))
  have x1:zbf 6 (dOp zaA (dC (.int 1)) (zad zae (dRO 0 (dR (dOp zdc (dFn zbN (dA (zab 3) dA0)) (dOp zdc (dOp zdc (zab 2) (dC (.int 1))) (zab 5))) dR0)))) [some (.own st),G,M,Lf,some (.own (bs.map toD)),T5,o6,o7]=.ok (.nx,[some (.own st1),G,M,Lf,some (.own (bs.map toD)),T5,some (.val (.int s)),o7]):=by
   have e1':zae [.own st,.val (.int (((left.map Dt.int).length:Nat)-(((many:Int)-1)-((0:Int)+k))))]=.ok (.int v,[.own st1,.val .non]):=by rw[List.length_map];exact e1
   have:=zhd (zcc:=[G,M,Lf,some (.own (bs.map toD)),T5,o6,o7]) (fb:=dOp zdc (dFn zbN (dA (zab 3) dA0)) (dOp zdc (dOp zdc (zab 2) (dC (.int 1))) (zab 5))) e1' rfl
   refine zbv (i:=6) (zax (d:=.int 1) rfl this (z:=.int s) ?_) (by simp)
   rw[hsz];rfl
  obtain ⟨t,st2,hs2,ht,e2⟩:=hF (left.take s) st1 (by rw[List.length_take];omega) (by rw[List.length_take];omega) hs1
  have htl:(left.take s).length=s:=by rw[List.length_take];omega
  have c1:dFz (zp7 (zab 3) dO0 (dO1 (zab 6))) [some (.own st1),G,M,Lf,some (.own (bs.map toD)),T5,some (.val (.int s)),o7]=.ok (.lst ((left.take s).map .int),[some (.own st1),G,M,Lf,some (.own (bs.map toD)),T5,some (.val (.int s)),o7]):=by
   refine zba ?_
   rw[zo1 (ds:=left.map .int) (lo:=none) (hi:=some (s:Int)) rfl rfl rfl,ztj (by rw[List.length_map];omega),List.map_take]
  have x2:=appS (F:=F) c1 e2 (by rw[List.length_map];omega)
  have x3:zbf 3 (dFz (zp7 (zab 3) (dO1 (zab 6)) dO0)) [some (.own st2),G,M,Lf,some (.own (bs.map toD++[toD t])),T5,some (.val (.int s)),o7]=.ok (.nx,[some (.own st2),G,M,some (.val (.lst ((left.drop s).map .int))),some (.own ((bs++[t]).map toD)),T5,some (.val (.int s)),o7]):=by
   have c2:dFz (zp7 (zab 3) (dO1 (zab 6)) dO0) [some (.own st2),G,M,Lf,some (.own (bs.map toD++[toD t])),T5,some (.val (.int s)),o7]=.ok (.lst ((left.drop s).map .int),[some (.own st2),G,M,Lf,some (.own (bs.map toD++[toD t])),T5,some (.val (.int s)),o7]):=by
    refine zba ?_
    rw[zo1 (ds:=left.map .int) (lo:=some (s:Int)) (hi:=none) rfl rfl rfl,zqk (by rw[List.length_map];omega),List.map_drop]
   rw[zbv (i:=3) c2 (by simp),List.map_append]
   rfl
  obtain ⟨left',bs',st',b5,b6,k1,k2,k3,k4,k5,k6,k7⟩:=zkH (many:=many) (G:=G) (o7:=o7) hF hL r (k+1) (left.drop s) (bs++[t]) st2 T5 (some (.val (.int s))) (by omega) (by rw[List.length_drop];omega) (by rw[List.length_drop];omega) (fun x hx=>by
   rcases List.mem_append.mp hx with hx|hx
   ·exact hb x hx
   ·have:x=t:=by simpa using hx
    subst this
    refine ⟨ht.1,?_⟩
    have:=ht.2.2
    rw[htl] at this
    omega) (by simp;omega) hs2
  refine ⟨left',bs',st',b5,b6,k1,k2,k3,?_,by rw[k5,List.length_append];simp only[List.length_cons,List.length_nil];omega,k6,?_⟩
  ·rw[k4,zbA,zbA,List.flatMap_append,List.append_assoc]
   congr 1
   show (zam t++[])++left.drop s=left
   rw[ht.2.1,List.append_nil,List.take_append_drop]
  ·rw[List.range'_succ,List.map_cons]
   show ((zaM 5 (.int ((0:Int)+k)) [some (.own st),G,M,Lf,some (.own (bs.map toD)),o5,o6,o7]).bind _)=_
   show ((zmX F [some (.own st),G,M,Lf,some (.own (bs.map toD)),T5,o6,o7]).bind _)=_
   have eb:zmX F [some (.own st),G,M,Lf,some (.own (bs.map toD)),T5,o6,o7]=.ok (.nx,[some (.own st2),G,M,some (.val (.lst ((left.drop s).map .int))),some (.own ((bs++[t]).map toD)),T5,some (.val (.int s)),o7]):=by
    unfold zmX
    rw[zag x1,zag x2]
    exact x3
   rw[eb]
   exact k7
def Sq(gs:List Int)(d:Dt):Prop:=d=tz gs\/d=.lst (gs.map .int)
theorem zhM:∀(n:Nat)(gs:List Int)(d:Dt)(st:List Dt),Sq gs d->gs.length<=n->n<=8->1<=gs.length->gs.length<=7->St st->∃ t st',St st'/\TrE gs t/\zaK n [.own st,.val d]=.ok (toD t,[.own st',.val .non])
 |0,gs,d,st,_,h,_,h1,_,_=>by omega
 |n+1,gs,d,st,hd,h,h8,h1,h7,hs=>by
  let G:Option B:=some (.val d)
  have hlen:dFn zbN (dA (zab 1) dA0) [some (.own st),G,none,none,none,none,none,none]=.ok (.int gs.length,[some (.own st),G,none,none,none,none,none,none]):=by
   refine zbM (d:=d) rfl ?_
   rcases hd with rfl|rfl <;> simp[zbN,tz]
  have ht:dTB (dOp (gEq false) (dFn zbN (dA (zab 1) dA0)) (dC (.int 1))) [some (.own st),G,none,none,none,none,none,none]=.ok ((gs.length:Int) == 1,[some (.own st),G,none,none,none,none,none,none]):=zbn (zax hlen rfl (by rw[zuL];rfl))
  by_cases hone:gs.length=1
  ·obtain ⟨g,rfl⟩:=List.length_eq_one_iff.mp hone
   refine ⟨.lf g,st,hs,⟨rfl,rfl,by simp[dep]⟩,zas (ρ':=[some (.own st),G,none,none,none,none,none,none]) rfl ?_ rfl⟩
   show zdE (zaK n) [some (.own st),G,none,none,none,none,none,none]=_
   rw[zlV]
   refine ze2 ?_
   rw[zdB (by rw[ht];rfl),toD]
   refine zb8 (zax (d:=d) (e:=.int 0) rfl rfl ?_)
   rcases hd with rfl|rfl <;> rfl
  ·have ht':dTB (dOp (gEq false) (dFn zbN (dA (zab 1) dA0)) (dC (.int 1))) [some (.own st),G,none,none,none,none,none,none]=.ok (false,[some (.own st),G,none,none,none,none,none,none]):=by
    rw[ht,show ((gs.length:Int) == 1)=false from by rw[beq_eq_false_iff_ne];omega]
   have x0:dIf (dTB (dOp (gEq false) (dFn zbN (dA (zab 1) dA0)) (dC (.int 1)))) (zb2 (dOp gIx (zab 1) (dC (.int 0)))) dNx [some (.own st),G,none,none,none,none,none,none]=.ok (.nx,[some (.own st),G,none,none,none,none,none,none]):=by rw[zcn ht'];rfl
   obtain ⟨v,st1,e1,hs1,v0,v1⟩:=zbr (m:=3) hs (by decide) (by decide)
   obtain ⟨many,hm⟩ : ∃ many:Nat,(many:Int)=(if 2+v<(gs.length:Int) then 2+v else gs.length):=⟨(if 2+v<(gs.length:Int) then 2+v else gs.length).toNat,by split <;> omega⟩
   have hm2:2<=many/\many<=gs.length:=by
    split at hm <;> omega
   let M:Option B:=some (.val (.int many))
   have x1:zbf 2 (dFn zgl (dA (dFn zbN (dA (zab 1) dA0)) (dA (dOp zaA (dC (.int 2)) (zad zae (dRO 0 (dR (dC (.int 3)) dR0)))) dA0))) [some (.own st),G,none,none,none,none,none,none]=.ok (.nx,[some (.own st1),G,M,none,none,none,none,none]):=by
    have et:=zhd (zcc:=[G,none,none,none,none,none,none]) (fb:=dC (.int 3)) e1 rfl
    have ea:dA (dFn zbN (dA (zab 1) dA0)) (dA (dOp zaA (dC (.int 2)) (zad zae (dRO 0 (dR (dC (.int 3)) dR0)))) dA0) [some (.own st),G,none,none,none,none,none,none]=.ok ([.int gs.length,.int (2+v)],[some (.own st1),G,none,none,none,none,none,none]):=zev hlen (zev (fr:=dA0) (zax (d:=.int 2) rfl et rfl) rfl)
    refine zbv (i:=2) (d:=.int many) (ρ1:=[some (.own st1),G,none,none,none,none,none,none]) ?_ (by simp)
    show ((dA (dFn zbN (dA (zab 1) dA0)) (dA (dOp zaA (dC (.int 2)) (zad zae (dRO 0 (dR (dC (.int 3)) dR0)))) dA0) [some (.own st),G,none,none,none,none,none,none]).bind fun a=>(zgl a.1).bind fun z=>R.ok (z,a.2))=_
    rw[ea]
    show R.ok (Dt.int (if 2+v<(gs.length:Int) then 2+v else gs.length),_)=_
    rw[<- hm]
   have x2:zbf 3 (dFz (zgJ zjq (dA (zab 1) dA0))) [some (.own st1),G,M,none,none,none,none,none]=.ok (.nx,[some (.own st1),G,M,some (.val (.lst (gs.map .int))),none,none,none,none]):=by
    refine zbv (i:=3) (d:=.lst (gs.map .int)) (ρ1:=[some (.own st1),G,M,none,none,none,none,none]) (zba ?_) (by simp)
    show ((zjq [d]).bind _)=_
    rcases hd with rfl|rfl <;> rfl
   have x3:zb5 4 (zbY dA0) [some (.own st1),G,M,some (.val (.lst (gs.map .int))),none,none,none,none]=.ok (.nx,[some (.own st1),G,M,some (.val (.lst (gs.map .int))),some (.own []),none,none,none]):=rfl
   have hF:∀(gs':List Int)(st:List Dt),1<=gs'.length->gs'.length<gs.length->St st->∃ t st',St st'/\TrE gs' t/\zaK n [.own st,.val (.lst (gs'.map .int))]=.ok (toD t,[.own st',.val .non]):=fun gs' st a1 a2 a3=>zhM n gs' _ st (.inr rfl) (by omega) (by omega) a1 (by omega) a3
   obtain ⟨left',bs',st2,b5,b6,k1,k2,k3,k4,k5,k6,k7⟩:=zkH (F:=zaK n) (L:=gs.length) (many:=many) (G:=G) (o7:=none) hF h7 (many-1) 0 gs [] st1 none none (by omega) (by omega) (by omega) (by simp) (by simp;omega) hs1
   have x4:zga (zbq (dOp zdc (zab 2) (dC (.int 1)))) (zaM 5) (zmX (zaK n)) [some (.own st1),G,M,some (.val (.lst (gs.map .int))),some (.own []),none,none,none]=.ok (.nx,[some (.own st2),G,M,some (.val (.lst (left'.map .int))),some (.own (bs'.map toD)),b5,b6,none]):=by
    unfold zga
    rw[zfA (j:=many-1) (ρ1:=[some (.own st1),G,M,some (.val (.lst (gs.map .int))),some (.own []),none,none,none]) (by
     refine zax (d:=.int many) (e:=.int 1) rfl rfl ?_
     show R.ok (Dt.int ((many:Int)-1))=_
     congr 2;omega) (by omega)]
    show zii (zaM 5) _ (zaI 0 (many-1)) _=_
    unfold zaI
    rw[List.range_eq_range']
    exact k7
   obtain ⟨t,st3,hs3,ht3,e3⟩:=hF left' st2 k2 (by omega) k1
   have x5:=appS (F:=zaK n) (fb:=zab 3) (st:=st2) (st':=st3) (G:=G) (M:=M) (Lf:=some (.val (.lst (left'.map .int)))) (o5:=b5) (o6:=b6) (o7:=none) (bs:=bs'.map toD) (d:=.lst (left'.map .int)) rfl e3 (by rw[List.length_map,k5];simp;omega)
   let A:Option B:=some (.val (.str (Str.ofString "any")))
   let Lf:Option B:=some (.val (.lst (left'.map .int)))
   have x6:zbf 7 (dC (.str (Str.ofString "any"))) [some (.own st3),G,M,Lf,some (.own (bs'.map toD++[toD t])),b5,b6,none]=.ok (.nx,[some (.own st3),G,M,Lf,some (.own (bs'.map toD++[toD t])),b5,b6,A]):=rfl
   obtain ⟨r,st4,hs4,hr,x7⟩ : ∃(r:Bool)(st4:List Dt),St st4/\(r=true->3<=many)/\dIf (zgI (dTB (dOp gGt (zab 2) (dC (.int 2)))) (dTB (dOp (gEq false) (zad zae (dRO 0 (dR (dC (.int 2)) dR0))) (dC (.int 0))))) (zbf 7 (dC (.str (Str.ofString "row")))) dNx [some (.own st3),G,M,Lf,some (.own (bs'.map toD++[toD t])),b5,b6,A]=.ok (.nx,[some (.own st4),G,M,Lf,some (.own (bs'.map toD++[toD t])),b5,b6,some (.val (.str (wd r)))]):=by
    have g1:dTB (dOp gGt (zab 2) (dC (.int 2))) [some (.own st3),G,M,Lf,some (.own (bs'.map toD++[toD t])),b5,b6,A]=.ok (decide ((2:Int)<many),[some (.own st3),G,M,Lf,some (.own (bs'.map toD++[toD t])),b5,b6,A]):=zbn (zax (d:=.int many) (e:=.int 2) rfl rfl rfl)
    by_cases hgt:(2:Int)<many
    ·rw[decide_eq_true hgt] at g1
     obtain ⟨u,st4,e4,hs4,u0,u1⟩:=zbr (m:=2) hs3 (by decide) (by decide)
     have et:=zhd (zcc:=[G,M,Lf,some (.own (bs'.map toD++[toD t])),b5,b6,A]) (fb:=dC (.int 2)) e4 rfl
     have g2:dTB (dOp (gEq false) (zad zae (dRO 0 (dR (dC (.int 2)) dR0))) (dC (.int 0))) [some (.own st3),G,M,Lf,some (.own (bs'.map toD++[toD t])),b5,b6,A]=.ok (u == 0,[some (.own st4),G,M,Lf,some (.own (bs'.map toD++[toD t])),b5,b6,A]):=zbn (zax et rfl (by rw[zuL];rfl))
     refine ⟨u == 0,st4,hs4,fun _=>by omega,?_⟩
     by_cases hu:u=0
     ·rw[show (u == 0)=true from by simpa using hu] at g2 ⊢
      rw[zdB (by rw[zj8 g1];exact g2)]
      rfl
     ·rw[show (u == 0)=false from by simpa using hu] at g2 ⊢
      rw[zcn (by rw[zj8 g1];exact g2)]
      rfl
    ·rw[decide_eq_false hgt] at g1
     refine ⟨false,st3,hs3,(fun z=>by cases z),?_⟩
     rw[zcn (zok g1)]
     rfl
   let B':List Tr:=bs'++[t]
   have hB:bs'.map toD++[toD t]=B'.map toD:=by simp[B']
   refine ⟨.nd r B',st4,hs4,⟨?_,?_,?_⟩,zas (ρ':=[some (.own st4),G,M,Lf,some (.val (.lst (B'.map toD))),b5,b6,some (.val (.str (wd r)))]) rfl ?_ rfl⟩
   ·simp only[okT,Bool.and_eq_true,decide_eq_true_eq,zc3,List.all_eq_true]
    refine ⟨?_,fun x hx=>?_⟩
    ·simp only[B',List.length_append,k5,List.length_cons,List.length_nil]
     cases r with
     |true=>have:=hr rfl;simp;omega
     |false=>simp;omega
    ·rcases List.mem_append.mp hx with hx|hx
     ·exact (k6 x hx).1
     ·have:x=t:=by simpa using hx
      subst this;exact ht3.1
   ·simp only[zam,B',zbA,List.flatMap_append]
    rw[zbA] at k4
    simp only[zau,List.nil_append] at k4
    show bs'.flatMap zam++(zam t++[])=gs
    rw[ht3.2.1,List.append_nil,k4]
   ·have hdp:zeq B'<=gs.length-1:=zcj.mpr fun x hx=>by
     rcases List.mem_append.mp hx with hx|hx
     ·have:=(k6 x hx).2;omega
     ·have:x=t:=by simpa using hx
      subst this
      have:=ht3.2.2
      omega
    simp only[dep]
    omega
   ·show zdE (zaK n) [some (.own st),G,none,none,none,none,none,none]=_
    rw[zlV,zag x0,zag x1,zag x2,zag x3,zag x4,zag x5,zag x6,zag x7,hB]
    refine zb8 ?_
    have eu:zf4 4 [some (.own st4),G,M,Lf,some (.own (B'.map toD)),b5,b6,some (.val (.str (wd r)))]=.ok (.lst (B'.map toD),[some (.own st4),G,M,Lf,some (.val (.lst (B'.map toD))),b5,b6,some (.val (.str (wd r)))]):=rfl
    rw[zg1 (zev (d:=.str (wd r)) (ρ1:=[some (.own st4),G,M,Lf,some (.own (B'.map toD)),b5,b6,some (.val (.str (wd r)))]) rfl (zev (fr:=dA0) (zbM (g:=zbi) (z:=.tup (B'.map toD)) eu rfl) rfl)) (by simp)]
    rw[toD,zc7]
def nm(o:List Int)(g:Int):Int:=(o[g.toNat]?).getD 0
theorem zuQ{o:List Int}{g:Int}(h0:0<=g)(h1:g<o.length):gIx (tz o) (.int g)=.ok (.int (nm o g)):=by
 refine zkO h0 (by simpa using h1) ?_
 have hl:g.toNat<o.length:=by omega
 unfold nm
 rw[List.getElem?_map,List.getElem?_eq_getElem hl]
 rfl
theorem zn8{p o:List Int}(hp:∀ x∈p,0<=x/\x<o.length)(hl:p.length<=1000):zfy [.val (tz p),.val (tz o)]=.ok (tz (p.map (nm o)),[.val .non,.val .non]):=by
 let ρ0:Ev:=[some (.val (tz p)),some (.val (tz o))]
 refine zas (ρ':=ρ0) rfl ?_ rfl
 show zl1 ρ0=_
 have hc:za3 (dIt (zab 0)) (zaM 2) dTT (dOp gIx (zab 1) (zab 2)) 1 ρ0=.ok (p.map fun g=>.int (nm o g),ρ0) :=
  zbg (l:=p) (u:=Dt.int) (f:=fun g=>.int (nm o g)) (ds:=p.map .int) (j:=2) rfl rfl hl (fun g hg=>zax (d:=tz o) (e:=.int g) (ρ1:=ρ0++[some (.val (.int g))]) rfl rfl (zuQ (hp g hg).1 (hp g hg).2)) rfl
 unfold zl1
 rw[show (p.map fun g=>Dt.int (nm o g))=(p.map (nm o)).map .int by rw[List.map_map];rfl] at hc
 exact zb8 (zbM (d:=.lst ((p.map (nm o)).map .int)) (zba hc) rfl)
theorem zeW{n:Nat}{p:List Int}(h7:n<=7)(h:Pty n p):p.length<=7:=by
 by_cases z:p.length<=(zbh n).length
 ·rw[zbb] at z;omega
 ·have h1:p.Nodup:=h.2.1.imp (fun h=>by omega)
  have:=(zgy p (zbh n) h1 (fun x hx=>zdx.mpr (h.2.2 x hx)) (by omega)).length_eq
  omega
theorem zho{f:De}{g:DS}{ρ:Ev}{n:Nat}(h:f ρ=.er n):za2 (dEx f) g ρ=.er n:=by
 unfold za2 dEx
 rw[h]
 rfl
def znE(a:Int)(m:Nat)(ps os:List (List Int)):List (List Int):=(ps.map (pp a m)++[bn a m])++os.map fun p=>p.map fun g=>a+g
theorem ztU{a:Int}{m:Nat}{g:Int}(h0:0<=g)(h1:g<m):nm (bn a m) g=a+g:=by
 have hl:g.toNat<(bn a m).length:=by rw[zet];omega
 unfold nm
 rw[List.getElem?_eq_getElem hl]
 simp only[Option.getD_some,bn,List.getElem_map,List.getElem_range]
 omega
abbrev EP5(n ps g m os b o:Option B):Ev:=[n,ps,g,m,os,b,o]
def vI(i:Int):Option B:=some (.val (.int i))
def vL(l:List Dt):Option B:=some (.val (.lst l))
theorem zd7{n:Nat}(h1:1<=n)(h7:n<=7){i:Nat}{ρ:Ev}(h:zab i ρ=.ok (.int n,ρ)):dEx (zad zaq (dR (zab i) dR0)) ρ=.ok (.nx,ρ):=zen (zdv h (ziY (by omega) (by omega)))
theorem zke{n:Nat}(h1:1<=n)(h7:n<=7){i j:Nat}{ρ:Ev}{d:Dt}(h:zab i ρ=.ok (.int n,ρ))(h2:zab j ρ=.ok (d,ρ))(hl:zn9 d)(hp:zf7 n d=true):dEx (zad zaR (dR (zab i) (dR (zab j) dR0))) ρ=.ok (.nx,ρ):=zen (zep h h2 (znI h1 h7 hl hp))
def zqA:DS:=(za2 (dIf (dTB (dOp gGt (dOp zaA (dOp zaA (dFn zbN (dA (zab 1) dA0)) (dC (.int 1))) (dFn zbN (dA (zab 4) dA0))) (dC (.int 8)))) (zei 1 (dA (dC (.str (Str.ofString "there would be more than eight parties"))) dA0)) dNx) (za2 (zbf 5 (zhc (zab 2) (dOp zaA (zab 2) (zab 3)))) (za2 (zbf 6 (dFz (za3 (dIt (zab 1)) (zaM 7) dTT (zad zbx (dR (zab 7) (dR (zab 2) (dR (zab 5) dR0)))) 1))) (zd6 (zdD (dFz (zdD (zab 6) (dFz (zbY (dA (zab 5) dA0))))) (dFz (za3 (dIt (zab 4)) (zaM 7) dTT (zad zfy (dR (zab 7) (dR (zab 5) dR0))) 1)))))))
theorem zgu:zc2=(za2 (dEx (zad zaq (dR (zab 0) dR0))) (za2 (dEx (zad zaq (dR (zab 3) dR0))) (za2 (dEx (zad zaR (dR (zab 0) (dR (zab 1) dR0)))) (za2 (dEx (zad zaR (dR (zab 3) (dR (zab 4) dR0)))) (za2 (dEx (zad zaU (dR (zab 0) (dR (zab 2) (dR (zab 3) dR0))))) zqA))))):=rfl
theorem zsE{d e f g h:Dt}(hb:isW d=false\/∃ n,d=.int n/\(n<1\/7<n)):zaY [.val d,.val e,.val f,.val g,.val h]=.er 0:=by
 let ρ0:Ev:=[some (.val d),some (.val e),some (.val f),some (.val g),some (.val h),none,none]
 refine zbX rfl (show zc2 ρ0=_ from ?_)
 rw[zgu]
 exact zho (by
  unfold zad dR dR0
  show ((zaq [.val d]).bind _)=_
  rw[zgX hb];rfl)
theorem zp8{n:Nat}(h1:1<=n)(h7:n<=7){e f g h:Dt}(hb:isW g=false\/∃ n,g=.int n/\(n<1\/7<n)):zaY [.val (.int n),.val e,.val f,.val g,.val h]=.er 0:=by
 let ρ0:Ev:=[some (.val (.int n)),some (.val e),some (.val f),some (.val g),some (.val h),none,none]
 refine zbX rfl (show zc2 ρ0=_ from ?_)
 rw[zgu,zag (zd7 h1 h7 (ρ:=ρ0) (i:=0) rfl)]
 exact zho (by
  unfold zad dR dR0
  show ((zaq [.val g]).bind _)=_
  rw[zgX hb];rfl)
theorem zrM{n m:Nat}(h1:1<=n)(h7:n<=7)(m1:1<=m)(m7:m<=7){e f h:Dt}(hl:zn9 e)(hp:zf7 n e=false):zaY [.val (.int n),.val e,.val f,.val (.int m),.val h]=.er 1:=by
 let ρ0:Ev:=[some (.val (.int n)),some (.val e),some (.val f),some (.val (.int m)),some (.val h),none,none]
 refine zbX rfl (show zc2 ρ0=_ from ?_)
 rw[zgu,zag (zd7 h1 h7 (ρ:=ρ0) (i:=0) rfl),zag (zd7 m1 m7 (ρ:=ρ0) (i:=3) rfl)]
 exact zho (zmy (ρ':=ρ0) (ρ'':=ρ0) rfl rfl (zk8 h1 h7 hl hp))
theorem zql{n m:Nat}(h1:1<=n)(h7:n<=7)(m1:1<=m)(m7:m<=7){e f h:Dt}(hl:zn9 e)(hp:zf7 n e=true)(hl2:zn9 h)(hp2:zf7 m h=false):zaY [.val (.int n),.val e,.val f,.val (.int m),.val h]=.er 1:=by
 let ρ0:Ev:=[some (.val (.int n)),some (.val e),some (.val f),some (.val (.int m)),some (.val h),none,none]
 refine zbX rfl (show zc2 ρ0=_ from ?_)
 rw[zgu,zag (zd7 h1 h7 (ρ:=ρ0) (i:=0) rfl),zag (zd7 m1 m7 (ρ:=ρ0) (i:=3) rfl),zag (zke h1 h7 (ρ:=ρ0) (i:=0) (j:=1) rfl rfl hl hp)]
 exact zho (zmy (ρ':=ρ0) (ρ'':=ρ0) rfl rfl (zk8 m1 m7 hl2 hp2))
theorem zk4{n m:Nat}(h1:1<=n)(h7:n<=7)(m1:1<=m)(m7:m<=7){e f h:Dt}{k:Nat}(hl:zn9 e)(hp:zf7 n e=true)(hl2:zn9 h)(hp2:zf7 m h=true)(hb:zaU [.val (.int n),.val f,.val (.int m)]=.er k):zaY [.val (.int n),.val e,.val f,.val (.int m),.val h]=.er k:=by
 let ρ0:Ev:=[some (.val (.int n)),some (.val e),some (.val f),some (.val (.int m)),some (.val h),none,none]
 refine zbX rfl (show zc2 ρ0=_ from ?_)
 rw[zgu,zag (zd7 h1 h7 (ρ:=ρ0) (i:=0) rfl),zag (zd7 m1 m7 (ρ:=ρ0) (i:=3) rfl),zag (zke h1 h7 (ρ:=ρ0) (i:=0) (j:=1) rfl rfl hl hp),zag (zke m1 m7 (ρ:=ρ0) (i:=3) (j:=4) rfl rfl hl2 hp2)]
 exact zho (zmi (ρ1:=ρ0) (ρ2:=ρ0) (ρ3:=ρ0) rfl rfl rfl hb)
theorem zrf{n a m:Int}{ps os:List (List Int)}{b o:Option B}:dTB (dOp gGt (dOp zaA (dOp zaA (dFn zbN (dA (zab 1) dA0)) (dC (.int 1))) (dFn zbN (dA (zab 4) dA0))) (dC (.int 8))) (EP5 (vI n) (vL (lp ps)) (vI a) (vI m) (vL (lp os)) b o)=.ok (decide (8<(ps.length:Int)+1+os.length),EP5 (vI n) (vL (lp ps)) (vI a) (vI m) (vL (lp os)) b o):=by
 have l1:dFn zbN (dA (zab 1) dA0) (EP5 (vI n) (vL (lp ps)) (vI a) (vI m) (vL (lp os)) b o)=.ok (.int ps.length,EP5 (vI n) (vL (lp ps)) (vI a) (vI m) (vL (lp os)) b o):=zbM (d:=.lst (lp ps)) rfl (by simp[zbN,zfh])
 have l2:dFn zbN (dA (zab 4) dA0) (EP5 (vI n) (vL (lp ps)) (vI a) (vI m) (vL (lp os)) b o)=.ok (.int os.length,EP5 (vI n) (vL (lp ps)) (vI a) (vI m) (vL (lp os)) b o):=zbM (d:=.lst (lp os)) rfl (by simp[zbN,zfh])
 exact zbn (zax (zax (zax l1 rfl rfl) l2 rfl) rfl rfl)
theorem zo5{n m:Nat}{a:Int}{ps os:List (List Int)}{ρ:Ev}(h1:1<=n)(h7:n<=7)(m1:1<=m)(m7:m<=7)(hp:zja n ps)(hl:ps.length<=8)(hq:zja m os)(ho:os.length<=8)(a0:0<=a)(a1:a<n)(hs:(n:Int)-1+m<=7)(hρ:ρ=EP5 (vI n) (vL (lp ps)) (vI a) (vI m) (vL (lp os)) none none):zc2 ρ=zqA ρ:=by
 subst hρ
 rw[zgu,zag (zd7 h1 h7 (i:=0) rfl),zag (zd7 m1 m7 (i:=3) rfl),zag (zke h1 h7 (i:=0) (j:=1) (d:=.lst (lp ps)) rfl rfl (ziN h7 hp) (zgP hl hp)),zag (zke m1 m7 (i:=3) (j:=4) (d:=.lst (lp os)) rfl rfl (ziN m7 hq) (zgP ho hq)),
  zag (zen (zpn (ρ1:=EP5 (vI n) (vL (lp ps)) (vI a) (vI m) (vL (lp os)) none none) (ρ2:=EP5 (vI n) (vL (lp ps)) (vI a) (vI m) (vL (lp os)) none none) (ρ3:=EP5 (vI n) (vL (lp ps)) (vI a) (vI m) (vL (lp os)) none none) rfl rfl rfl (zlU a0 a1 hs)))]
theorem zqm{n m:Nat}{a:Int}{ps os:List (List Int)}(h1:1<=n)(h7:n<=7)(m1:1<=m)(m7:m<=7)(hp:zja n ps)(hl:ps.length<=8)(hq:zja m os)(ho:os.length<=8)(a0:0<=a)(a1:a<n)(hs:(n:Int)-1+m<=7)(hm:7<ps.length+os.length):zaY [.val (.int n),.val (.lst (lp ps)),.val (.int a),.val (.int m),.val (.lst (lp os))]=.er 1:=by
 refine zbX rfl (show zc2 (EP5 (vI n) (vL (lp ps)) (vI a) (vI m) (vL (lp os)) none none)=_ from ?_)
 rw[zo5 h1 h7 m1 m7 hp hl hq ho a0 a1 hs rfl]
 unfold zqA
 have e:=zrf (n:=n) (a:=a) (m:=m) (ps:=ps) (os:=os) (b:=none) (o:=none)
 rw[decide_eq_true (by omega)] at e
 unfold za2
 rw[zdB e]
 rfl
theorem ztV{n m:Nat}{a:Int}{ps os:List (List Int)}(h1:1<=n)(h7:n<=7)(m1:1<=m)(m7:m<=7)(hp:zja n ps)(hl:ps.length<=8)(hq:zja m os)(ho:os.length<=8)(a0:0<=a)(a1:a<n)(hs:(n:Int)-1+m<=7)(hm:ps.length+os.length<=7) :
  zaY [.val (.int n),.val (.lst (lp ps)),.val (.int a),.val (.int m),.val (.lst (lp os))]=.ok (.lst (lp (znE a m ps os)),[.val .non,.val .non,.val .non,.val .non,.val .non]):=by
 let ρ0:Ev:=EP5 (vI n) (vL (lp ps)) (vI a) (vI m) (vL (lp os)) none none
 let Bn:Option B:=some (.val (tz (bn a m)))
 let ρ1:Ev:=EP5 (vI n) (vL (lp ps)) (vI a) (vI m) (vL (lp os)) Bn none
 let Ou:Option B:=vL (lp (ps.map (pp a m)))
 let ρ2:Ev:=EP5 (vI n) (vL (lp ps)) (vI a) (vI m) (vL (lp os)) Bn Ou
 refine zas (ρ':=ρ2) rfl (show zc2 ρ0=_ from ?_) rfl
 rw[zo5 h1 h7 m1 m7 hp hl hq ho a0 a1 hs rfl]
 have e:=zrf (n:=n) (a:=a) (m:=m) (ps:=ps) (os:=os) (b:=none) (o:=none)
 rw[decide_eq_false (by omega)] at e
 have x1:dIf (dTB (dOp gGt (dOp zaA (dOp zaA (dFn zbN (dA (zab 1) dA0)) (dC (.int 1))) (dFn zbN (dA (zab 4) dA0))) (dC (.int 8)))) (zei 1 (dA (dC (.str (Str.ofString "there would be more than eight parties"))) dA0)) dNx ρ0=.ok (.nx,ρ0):=by rw[zcn e];rfl
 have x2:zbf 5 (zhc (zab 2) (dOp zaA (zab 2) (zab 3))) ρ0=.ok (.nx,ρ1):=by
  refine zbv (i:=5) (ρ1:=ρ0) (d:=tz (bn a m)) ?_ (by simp[ρ0])
  show (if okR a (a+m)=true then R.ok (Dt.tup (zaI a (a+m-a).toNat),ρ0) else .no)=_
  rw[if_pos (by unfold okR;simp only[Bool.and_eq_true,decide_eq_true_eq];omega),show (a+m-a).toNat=m by omega,zkd]
  rfl
 have hc1:za3 (dIt (zab 1)) (zaM 7) dTT (zad zbx (dR (zab 7) (dR (zab 2) (dR (zab 5) dR0)))) 1 ρ1=.ok (ps.map fun p=>tz (pp a m p),ρ1):=by
  refine zbg (l:=ps) (u:=tz) (f:=fun p=>tz (pp a m p)) (ds:=lp ps) (j:=7) rfl rfl (by omega) (fun p hpp=>?_) rfl
  exact zpn (F:=zbx) (fa:=zab 7) (fb:=zab 2) (fc:=zab 5) (ρ:=ρ1++[some (.val (tz p))]) (d:=tz p) (e:=.int a) (g:=tz (bn a m)) (ρ1:=ρ1++[some (.val (tz p))]) (ρ2:=ρ1++[some (.val (tz p))]) (ρ3:=ρ1++[some (.val (tz p))]) rfl rfl rfl (zpx (p:=p) (a:=a) (m:=m) m7 (by
   have h:=hp p hpp
   have:=zeW h7 h
   omega))
 have x3:zbf 6 (dFz (za3 (dIt (zab 1)) (zaM 7) dTT (zad zbx (dR (zab 7) (dR (zab 2) (dR (zab 5) dR0)))) 1)) ρ1=.ok (.nx,ρ2):=by
  refine zbv (i:=6) (ρ1:=ρ1) (d:=.lst (lp (ps.map (pp a m)))) ?_ (by simp[ρ1])
  rw[zba hc1]
  unfold lp
  rw[List.map_map]
  rfl
 have hc2:za3 (dIt (zab 4)) (zaM 7) dTT (zad zfy (dR (zab 7) (dR (zab 5) dR0))) 1 ρ2=.ok (os.map fun p=>tz (p.map fun g=>a+g),ρ2):=by
  refine zbg (l:=os) (u:=tz) (f:=fun p=>tz (p.map fun g=>a+g)) (ds:=lp os) (j:=7) rfl rfl (by omega) (fun p hpp=>?_) rfl
  have h:=hq p hpp
  have hpl:=zeW m7 h
  have:=zn8 (p:=p) (o:=bn a m) (fun x hx=>by have:=h.2.2 x hx;rw[zet];omega) (by omega)
  rw[show p.map (nm (bn a m))=p.map fun g=>a+g from List.map_congr_left fun g hg=>ztU (h.2.2 g hg).1 (h.2.2 g hg).2] at this
  exact zep (F:=zfy) (fa:=zab 7) (fb:=zab 5) (ρ:=ρ2++[some (.val (tz p))]) (ρ':=ρ2++[some (.val (tz p))]) (ρ'':=ρ2++[some (.val (tz p))]) (d:=tz p) (e:=tz (bn a m)) rfl rfl this
 unfold zqA
 rw[zag x1,zag x2,zag x3]
 have c1:zdD (zab 6) (dFz (zbY (dA (zab 5) dA0))) ρ2=.ok (lp (ps.map (pp a m)++[bn a m]),ρ2):=by
  rw[zgS (x:=lp (ps.map (pp a m))) (y:=[tz (bn a m)]) (ρ1:=ρ2) (ρ2:=ρ2) rfl (zba (znU (zev rfl rfl) (by simp))) (by rw[zfh,List.length_map];simp;omega)]
  unfold lp
  rw[List.map_append]
  rfl
 have c2:zdD (dFz (zdD (zab 6) (dFz (zbY (dA (zab 5) dA0))))) (dFz (za3 (dIt (zab 4)) (zaM 7) dTT (zad zfy (dR (zab 7) (dR (zab 5) dR0))) 1)) ρ2=.ok (lp (znE a m ps os),ρ2):=by
  rw[zgS (zba c1) (zba hc2) (by rw[zfh];simp;omega)]
  simp only[lp,znE,List.map_append,List.map_map]
  rfl
 unfold zd6
 rw[c2]
 rfl
def zrS(a:Int)(m:Nat)(g:Int):Int:=g+((m:Int)-1) * (if a<g then 1 else 0)
theorem zqT{a g:Int}{m:Nat}(h:g≠a):zrS a m g=mv a m g:=by
 unfold zrS mv
 by_cases h1:a<g
 ·rw[if_pos h1,if_neg (by omega)];omega
 ·rw[if_neg h1,if_pos (by omega)];omega
theorem dueE{i j k:Nat}{ρ:Ev}{g a:Int}{m:Nat}(hm:m<=7)(h1:zab i ρ=.ok (.int g,ρ))(h2:zab j ρ=.ok (.int m,ρ))(h3:zab k ρ=.ok (.int a,ρ)):dOp zaA (zab i) (dOp zit (dOp zdc (zab j) (dC (.int 1))) (dFn zdw (dA (dOp gGt (zab i) (zab k)) dA0))) ρ=.ok (.int (zrS a m g),ρ):=by
 have eg:dOp gGt (zab i) (zab k) ρ=.ok (.bl (decide (a<g)),ρ):=zax h1 h3 rfl
 have ei:dFn zdw (dA (dOp gGt (zab i) (zab k)) dA0) ρ=.ok (.int (if a<g then 1 else 0),ρ):=by
  refine zbM eg ?_
  by_cases h:a<g
  ·rw[decide_eq_true h,if_pos h];rfl
  ·rw[decide_eq_false h,if_neg h];rfl
 have em:dOp zit (dOp zdc (zab j) (dC (.int 1))) (dFn zdw (dA (dOp gGt (zab i) (zab k)) dA0)) ρ=.ok (.int (((m:Int)-1) * (if a<g then 1 else 0)),ρ):=by
  refine zax (zax h2 rfl rfl) ei ?_
  show zit (.int ((m:Int)-1)) (.int (if a<g then 1 else 0))=_
  unfold zit
  simp only
  rw[if_pos (by unfold zcG;split <;> simp <;> omega)]
 exact zax h1 em rfl
abbrev ED(n ps a m os nm b f p q:Option B):Ev:=[n,ps,a,m,os,nm,b,f,p,q]
def zrU:DS:=(za2 (zbf 9 (dFz (za3 (dIt (zab 8)) (zaM 10) (dTB (dOp (gEq true) (zab 10) (zab 2))) (dOp gIx (zab 5) (zab 10)) 1))) (dEx (zd2 7 (dFn zbi (dA (dFz (zgJ zcp (dA (dFz (zdD (zab 9) (dFz (zmU (zab 6) (dFn zdw (dA (dOp (gIn false) (zab 2) (zab 8)) dA0)))))) dA0))) dA0)))))
def names(a:Int)(n m:Nat):List Int:=(zbh n).map (zrS a m)
theorem zmu{a:Int}{n m:Nat}{g:Int}(h0:0<=g)(h1:g<n):(names a n m)[g.toNat]? = some (zrS a m g):=by
 have hl:g.toNat<n:=by omega
 unfold names zbh
 rw[List.map_map,List.getElem?_map,List.getElem?_range hl]
 simp only[Option.map_some,Function.comp]
 rw[Int.toNat_of_nonneg h0]
theorem zld(a:Int)(m:Nat):((zbh m).map fun g=>Dt.int (a+g))=(bn a m).map .int:=by
 unfold zbh bn
 rw[List.map_map,List.map_map]
 rfl
theorem zqR{fa:De}{ρ ρ1:Ev}{zs:List Int}(h:fa ρ=.ok (.lst (zs.map .int),ρ1))(hl:zs.length<64):dFz (zgJ zcp (dA fa dA0)) ρ=.ok (.lst ((zb9 zs).map .int),ρ1):=by
 refine zba ?_
 unfold zgJ dA
 rw[h]
 show ((zcp [.lst (zs.map Dt.int)]).bind _)=_
 unfold zcp
 simp only[zh7]
 rw[if_pos hl]
 rfl
theorem zo4{n m:Nat}{a:Int}{p:List Int}{N P O:Option B}{acc:List (List Int)}{o9:Option B}(h7:n<=7)(m7:m<=7)(hp:Pty n p)(ha:acc.length<=100) :
  ∃ b9,zrU (ED N P (vI a) (vI m) O (vL ((names a n m).map .int)) (vL ((bn a m).map .int)) (some (.own (lp acc))) (some (.val (tz p))) o9)=.ok (.nx,ED N P (vI a) (vI m) O (vL ((names a n m).map .int)) (vL ((bn a m).map .int)) (some (.own (lp (acc++[pp a m p])))) (some (.val (tz p))) b9):=by
 have hpl:=zeW h7 hp
 let q:List Int:=(p.filter fun g=>!(g == a)).map (mv a m)
 let ρ0:Ev:=ED N P (vI a) (vI m) O (vL ((names a n m).map .int)) (vL ((bn a m).map .int)) (some (.own (lp acc))) (some (.val (tz p))) o9
 let ρ1:Ev:=ED N P (vI a) (vI m) O (vL ((names a n m).map .int)) (vL ((bn a m).map .int)) (some (.own (lp acc))) (some (.val (tz p))) (vL (q.map .int))
 refine ⟨vL (q.map .int),?_⟩
 have hc:za3 (dIt (zab 8)) (zaM 10) (dTB (dOp (gEq true) (zab 10) (zab 2))) (dOp gIx (zab 5) (zab 10)) 1 ρ0=.ok (q.map .int,ρ0):=by
  refine zha (ρ0:=ρ0) (l:=p) (j:=10) rfl (by omega) (fun g hg=>zpw rfl rfl) (fun g hg hne=>?_) rfl
  have hg':=hp.2.2 g hg
  rw[<- zqT (m:=m) (by simpa using hne)]
  refine zax (d:=.lst ((names a n m).map .int)) (e:=.int g) (ρ1:=ρ0++[some (.val (.int g))]) rfl rfl (zhy hg'.1 (by simp[names,zbb];omega) ?_)
  rw[List.getElem?_map,zmu hg'.1 hg'.2]
  rfl
 have x1:zbf 9 (dFz (za3 (dIt (zab 8)) (zaM 10) (dTB (dOp (gEq true) (zab 10) (zab 2))) (dOp gIx (zab 5) (zab 10)) 1)) ρ0=.ok (.nx,ρ1):=zbv (i:=9) (zba hc) (by simp[ρ0])
 have hq:q.length<=40:=by
  show ((p.filter fun g=>!(g == a)).map (mv a m)).length<=40
  rw[List.length_map]
  have:=List.length_filter_le (fun g=>!(g == a)) p
  omega
 have ei:dFn zdw (dA (dOp (gIn false) (zab 2) (zab 8)) dA0) ρ1=.ok (.int ((if a∈p then 1 else 0:Nat):Int),ρ1):=by
  refine zbM (zax (d:=.int a) (e:=tz p) (ρ1:=ρ1) rfl rfl (zrv a p)) ?_
  by_cases h:a∈p
  ·rw[decide_eq_true h,if_pos h];rfl
  ·rw[decide_eq_false h,if_neg h];rfl
 have er:zmU (zab 6) (dFn zdw (dA (dOp (gIn false) (zab 2) (zab 8)) dA0)) ρ1=.ok ((if a∈p then bn a m else []).map .int,ρ1):=by
  rw[zuB (x:=(bn a m).map .int) (k:=if a∈p then 1 else 0) (ρ1:=ρ1) (ρ2:=ρ1) rfl ei (by split <;> omega) (by rw[List.length_map,zet];omega)]
  split <;> simp
 have hlen:(q++if a∈p then bn a m else []).length<64:=by
  rw[List.length_append]
  split
  ·rw[zet];omega
  ·simp;omega
 have ec:zdD (zab 9) (dFz (zmU (zab 6) (dFn zdw (dA (dOp (gIn false) (zab 2) (zab 8)) dA0)))) ρ1=.ok ((q++if a∈p then bn a m else []).map .int,ρ1):=by
  rw[zgS (x:=q.map .int) (ρ1:=ρ1) rfl (zba er) (by rw[<- List.length_append,<- List.map_append,List.length_map];omega),List.map_append]
 have es:dFz (zgJ zcp (dA (dFz (zdD (zab 9) (dFz (zmU (zab 6) (dFn zdw (dA (dOp (gIn false) (zab 2) (zab 8)) dA0)))))) dA0)) ρ1=.ok (.lst ((pp a m p).map .int),ρ1):=zqR (zba ec) hlen
 have et:dFn zbi (dA (dFz (zgJ zcp (dA (dFz (zdD (zab 9) (dFz (zmU (zab 6) (dFn zdw (dA (dOp (gIn false) (zab 2) (zab 8)) dA0)))))) dA0))) dA0) ρ1=.ok (tz (pp a m p),ρ1):=zbM es rfl
 show zrU ρ0=_
 unfold zrU
 rw[zag x1]
 refine zen (d:=.non) ?_
 unfold zd2
 show ((dFn zbi (dA (dFz (zgJ zcp (dA (dFz (zdD (zab 9) (dFz (zmU (zab 6) (dFn zdw (dA (dOp (gIn false) (zab 2) (zab 8)) dA0)))))) dA0))) dA0) ρ1).bind _)=_
 rw[et]
 show (if (lp acc).length<16777216 then R.ok (Dt.non,(ED N P (vI a) (vI m) O (vL ((names a n m).map .int)) (vL ((bn a m).map .int)) (some (.own (lp acc++[tz (pp a m p)]))) (some (.val (tz p))) (vL (q.map .int)))) else .no)=_
 rw[if_pos (by rw[zfh];omega)]
 unfold lp
 rw[List.map_append]
 rfl
theorem zoe{n m:Nat}{a:Int}{N P O:Option B}(h7:n<=7)(m7:m<=7):∀(ps acc:List (List Int))(o8 o9:Option B),zja n ps->acc.length+ps.length<=100 ->
  ∃ b8 b9,zii (zaM 8) zrU (lp ps) (ED N P (vI a) (vI m) O (vL ((names a n m).map .int)) (vL ((bn a m).map .int)) (some (.own (lp acc))) o8 o9)=.ok (.nx,ED N P (vI a) (vI m) O (vL ((names a n m).map .int)) (vL ((bn a m).map .int)) (some (.own (lp (acc++ps.map (pp a m))))) b8 b9)
 |[],acc,o8,o9,_,_=>⟨o8,o9,by simp[lp,zii]⟩
 |p::ps,acc,o8,o9,hp,hl=>by
  simp only[List.length_cons] at hl
  obtain ⟨b9,e⟩:=zo4 (a:=a) (m:=m) (N:=N) (P:=P) (O:=O) (acc:=acc) (o9:=o9) h7 m7 (hp p (by simp)) (by omega)
  obtain ⟨c8,c9,e2⟩:=zoe (a:=a) (N:=N) (P:=P) (O:=O) h7 m7 ps (acc++[pp a m p]) (some (.val (tz p))) b9 (fun q hq=>hp q (by simp[hq])) (by rw[List.length_append];simp;omega)
  refine ⟨c8,c9,?_⟩
  show ((zrU (ED N P (vI a) (vI m) O (vL ((names a n m).map .int)) (vL ((bn a m).map .int)) (some (.own (lp acc))) (some (.val (tz p))) o9)).bind _)=_
  rw[e,List.map_cons,show acc++pp a m p::ps.map (pp a m)=(acc++[pp a m p])++ps.map (pp a m) by simp]
  exact e2
theorem zsD:zgh=(za2 (zbf 5 (dFz (za3 (zbq (zab 0)) (zaM 10) dTT (dOp zaA (zab 10) (dOp zit (dOp zdc (zab 3) (dC (.int 1))) (dFn zdw (dA (dOp gGt (zab 10) (zab 2)) dA0)))) 1))) (za2 (zbf 6 (dFz (za3 (zbq (zab 3)) (zaM 10) dTT (dOp zaA (zab 2) (zab 10)) 1))) (za2 (zb5 7 (zbY dA0)) (za2 (zga (dIt (zab 1)) (zaM 8) zrU) (zd6 (zdD (dFz (zdD (zf4 7) (dFz (zbY (dA (dFn zbi (dA (zab 6) dA0)) dA0))))) (dFz (za3 (dIt (zab 4)) (zaM 10) dTT (dFn zbi (dA (dFz (za3 (dIt (zab 10)) (zaM 11) dTT (dOp zaA (zab 2) (zab 11)) 1)) dA0)) 1)))))))):=rfl
theorem ziC{n m:Nat}{a:Int}{ρ:Ev}{j k l i:Nat}(hn:n<=7)(hm:m<=7)(h1:zab i ρ=.ok (.int n,ρ))(hj:j = ρ.length)(h2:∀ g:Int,zab k (ρ++[some (.val (.int g))])=.ok (.int m,ρ++[some (.val (.int g))]))(h3:∀ g:Int,zab l (ρ++[some (.val (.int g))])=.ok (.int a,ρ++[some (.val (.int g))])):za3 (zbq (zab i)) (zaM j) dTT (dOp zaA (zab j) (dOp zit (dOp zdc (zab k) (dC (.int 1))) (dFn zdw (dA (dOp gGt (zab j) (zab l)) dA0)))) 1 ρ=.ok ((names a n m).map .int,ρ):=by
 rw[show (names a n m).map Dt.int=(zbh n).map fun g=>Dt.int (zrS a m g) by unfold names;rw[List.map_map];rfl]
 refine zbg (l:=zbh n) (u:=Dt.int) (f:=fun g=>.int (zrS a m g)) (ds:=zaI 0 n) (zfA h1 (by omega)) (zfQ n) (by rw[zbb];omega) (fun g hg=>dueE hm ?_ (h2 g) (h3 g)) hj
 subst hj
 exact zoV
theorem zi9{m:Nat}{a:Int}{ρ:Ev}{j l i:Nat}(hm:m<=7)(h1:zab i ρ=.ok (.int m,ρ))(hj:j = ρ.length)(h3:∀ g:Int,zab l (ρ++[some (.val (.int g))])=.ok (.int a,ρ++[some (.val (.int g))])):za3 (zbq (zab i)) (zaM j) dTT (dOp zaA (zab l) (zab j)) 1 ρ=.ok ((bn a m).map .int,ρ):=by
 rw[<- zld]
 refine zbg (l:=zbh m) (u:=Dt.int) (f:=fun g=>.int (a+g)) (ds:=zaI 0 m) (zfA h1 (by omega)) (zfQ m) (by rw[zbb];omega) (fun g hg=>zax (h3 g) (e:=.int g) ?_ rfl) hj
 subst hj
 exact zoV
theorem zpD{n m:Nat}{a:Int}{ps os:List (List Int)}(h7:n<=7)(m7:m<=7)(hp:zja n ps)(hl:ps.length<=8)(hq:zja m os)(ho:os.length<=8) :
  zcP [.val (.int n),.val (.lst (lp ps)),.val (.int a),.val (.int m),.val (.lst (lp os))]=.ok (.lst (lp (znE a m ps os)),[.val .non,.val .non,.val .non,.val .non,.val .non]):=by
 let N:Option B:=vI n
 let P:Option B:=vL (lp ps)
 let O:Option B:=vL (lp os)
 let A:Option B:=vI a
 let M:Option B:=vI m
 let Nm:Option B:=vL ((names a n m).map .int)
 let Bn:Option B:=vL ((bn a m).map .int)
 have x1:zbf 5 (dFz (za3 (zbq (zab 0)) (zaM 10) dTT (dOp zaA (zab 10) (dOp zit (dOp zdc (zab 3) (dC (.int 1))) (dFn zdw (dA (dOp gGt (zab 10) (zab 2)) dA0)))) 1)) (ED N P A M O none none none none none)=.ok (.nx,ED N P A M O Nm none none none none) :=
  zbv (i:=5) (zba (ziC h7 m7 (ρ:=ED N P A M O none none none none none) rfl rfl (fun _=>rfl) (fun _=>rfl))) (by simp)
 have x2:zbf 6 (dFz (za3 (zbq (zab 3)) (zaM 10) dTT (dOp zaA (zab 2) (zab 10)) 1)) (ED N P A M O Nm none none none none)=.ok (.nx,ED N P A M O Nm Bn none none none) :=
  zbv (i:=6) (zba (zi9 m7 (ρ:=ED N P A M O Nm none none none none) rfl rfl (fun _=>rfl))) (by simp)
 obtain ⟨b8,b9,e4⟩:=zoe (n:=n) (m:=m) (a:=a) (N:=N) (P:=P) (O:=O) h7 m7 ps [] none none hp (by simp;omega)
 rw[List.nil_append] at e4
 have x4:zga (dIt (zab 1)) (zaM 8) zrU (ED N P A M O Nm Bn (some (.own (lp []))) none none)=.ok (.nx,ED N P A M O Nm Bn (some (.own (lp (ps.map (pp a m))))) b8 b9):=e4
 let ρ1:Ev:=ED N P A M O Nm Bn (some (.own (lp (ps.map (pp a m))))) b8 b9
 let ρ2:Ev:=ED N P A M O Nm Bn (vL (lp (ps.map (pp a m)))) b8 b9
 have hu:zf4 7 ρ1=.ok (.lst (lp (ps.map (pp a m))),ρ2):=rfl
 have c1:zdD (zf4 7) (dFz (zbY (dA (dFn zbi (dA (zab 6) dA0)) dA0))) ρ1=.ok (lp (ps.map (pp a m)++[bn a m]),ρ2):=by
  rw[zgS (x:=lp (ps.map (pp a m))) (y:=[tz (bn a m)]) (ρ1:=ρ2) (ρ2:=ρ2) hu (zba (znU (zev rfl rfl) (by simp))) (by rw[zfh,List.length_map];simp;omega)]
  unfold lp
  rw[List.map_append]
  rfl
 have hc2:za3 (dIt (zab 4)) (zaM 10) dTT (dFn zbi (dA (dFz (za3 (dIt (zab 10)) (zaM 11) dTT (dOp zaA (zab 2) (zab 11)) 1)) dA0)) 1 ρ2=.ok (os.map fun p=>tz (p.map fun g=>a+g),ρ2):=by
  refine zbg (l:=os) (u:=tz) (f:=fun p=>tz (p.map fun g=>a+g)) (ds:=lp os) (j:=10) rfl rfl (by omega) (fun p hpp=>?_) rfl
  have hpl:=zeW m7 (hq p hpp)
  let ρ3:Ev:=ρ2++[some (.val (tz p))]
  have hc3:za3 (dIt (zab 10)) (zaM 11) dTT (dOp zaA (zab 2) (zab 11)) 1 ρ3=.ok (p.map fun g=>.int (a+g),ρ3) :=
   zbg (l:=p) (u:=Dt.int) (f:=fun g=>.int (a+g)) (ds:=p.map .int) (j:=11) rfl rfl (by omega) (fun g hg=>zax (d:=.int a) (e:=.int g) (ρ1:=ρ3++[some (.val (.int g))]) rfl rfl rfl) rfl
  refine zbM (d:=.lst (p.map fun g=>.int (a+g))) (zba hc3) ?_
  unfold tz
  rw[List.map_map]
  rfl
 have c2:zdD (dFz (zdD (zf4 7) (dFz (zbY (dA (dFn zbi (dA (zab 6) dA0)) dA0))))) (dFz (za3 (dIt (zab 4)) (zaM 10) dTT (dFn zbi (dA (dFz (za3 (dIt (zab 10)) (zaM 11) dTT (dOp zaA (zab 2) (zab 11)) 1)) dA0)) 1)) ρ1=.ok (lp (znE a m ps os),ρ2):=by
  rw[zgS (zba c1) (zba hc2) (by rw[zfh];simp;omega)]
  simp only[lp,znE,List.map_append,List.map_map]
  rfl
 refine zas (ρ':=ρ2) rfl (show zgh (ED N P A M O none none none none none)=_ from ?_) rfl
 rw[zsD,zag x1,zag x2,zag (ρ1:=ED N P A M O Nm Bn (some (.own (lp []))) none none) rfl,zag x4]
 unfold zd6
 rw[show zdD _ _ ρ1=_ from c2]
 rfl
theorem zqC{a:Int}{m:Nat}{ps os:List (List Int)}:(znE a m ps os).length=ps.length+1+os.length:=by simp[znE];omega
theorem zpj{n m:Nat}{a:Int}{ps os:List (List Int)}(h7:n<=7)(m7:m<=7)(hp:zja n ps)(hq:zja m os):∀ p∈znE a m ps os,p.length<=1000:=fun p h=>by
 unfold znE at h
 rcases List.mem_append.mp h with h|h
 ·rcases List.mem_append.mp h with h|h
  ·obtain ⟨q,hq',rfl⟩:=List.mem_map.mp h
   have:=zuy a m q
   have:=zeW h7 (hp q hq')
   omega
  ·have:p=bn a m:=by simpa using h
   rw[this,zet];omega
 ·obtain ⟨q,hq',rfl⟩:=List.mem_map.mp h
  have:=zeW m7 (hq q hq')
  rw[List.length_map];omega
mutual
def sub(f:Int->Tr):Tr->Tr
 |.lf i=>f i
 |.nd r l=>.nd r (zmp f l)
def zmp(f:Int->Tr):List Tr->List Tr
 |[]=>[]
 |t::r=>sub f t::zmp f r
end
theorem zmt(f:Int->Tr):∀ l:List Tr,zmp f l=l.map (sub f)
 |[]=>by simp[zmp]
 |t::r=>by simp[zmp,zmt f r]
theorem zhJ(f:Int->Tr)(D:Nat):∀(n:Nat)(t:Tr),dep t<=n->(∀ i∈zam t,okT (f i)=true/\dep (f i)<=D+1)->okT t=true->okT (sub f t)=true/\zam (sub f t)=(zam t).flatMap (fun i=>zam (f i))/\dep (sub f t)<=dep t+D
 |0,t,h,_,_=>by cases t <;> simp[dep] at h
 |n+1,.lf i,_,hf,_=>by
  have:=hf i (by simp[zam])
  refine ⟨this.1,by simp[sub,zam],?_⟩
  simp only[sub,dep]
  omega
 |n+1,.nd r l,h,hf,ho=>by
  simp only[dep] at h
  have hs:∀ l:List Tr,zeq l<=n->(∀ i∈zau l,okT (f i)=true/\dep (f i)<=D+1)->zhR l=true->zhR (zmp f l)=true/\zau (zmp f l)=(zau l).flatMap (fun i=>zam (f i))/\zeq (zmp f l)<=zeq l+D/\(zmp f l).length=l.length:=by
   intro l
   induction l with
   |nil=>intro _ _ _;simp[zmp,zhR,zau,zeq]
   |cons t q ih =>
    intro hd hf ho
    simp only[zeq] at hd
    simp only[zhR,Bool.and_eq_true] at ho
    simp only[zau] at hf
    obtain ⟨a1,a2,a3⟩:=zhJ f D n t (by omega) (fun i hi=>hf i (List.mem_append.mpr (.inl hi))) ho.1
    obtain ⟨b1,b2,b3,b4⟩:=ih (by omega) (fun i hi=>hf i (List.mem_append.mpr (.inr hi))) ho.2
    refine ⟨by simp[zmp,zhR,a1,b1],by simp[zmp,zau,a2,b2],?_,by simp[zmp,b4]⟩
    simp only[zmp,zeq]
    omega
  simp only[okT,Bool.and_eq_true,decide_eq_true_eq] at ho
  obtain ⟨b1,b2,b3,b4⟩:=hs l (by omega) (by simpa [zam] using hf) ho.2
  refine ⟨?_,by simp[sub,zam,b2],?_⟩
  ·simp only[sub,okT,Bool.and_eq_true,decide_eq_true_eq,b4]
   exact ⟨ho.1,b1⟩
  ·simp only[sub,dep]
   omega
def stB(T:DT)(F:FD):DS:=(za2 (dIf T (zb2 (dOp gIx (zab 1) (zab 0))) dNx) (zb2 (zjJ (dA (dOp gIx (zab 0) (dC (.int 0))) (dA (dFn zbi (dA (dFz (za3 (dIt (dOp gIx (zab 0) (dC (.int 1)))) (zaM 2) dTT (zad F (dR (zab 2) (dR (zab 1) dR0))) 1)) dA0)) dA0)))))
theorem zjd{T:DT}{FF:Nat->FD}{L:Dt}{f:Int->Tr}(hF:∀ n,FF (n+1)=zat false [false,false] 0 (stB T (FF n)))(hT:∀ t,T [some (.val (toD t)),some (.val L)]=.ok (isLf t,[some (.val (toD t)),some (.val L)])) :
  ∀(n:Nat)(t:Tr),dep t<=n->okT t=true->(zam t).length<64->(∀ x∈zam t,gIx L (.int x)=.ok (toD (f x)))->FF n [.val (toD t),.val L]=.ok (toD (sub f t),[.val .non,.val .non])
 |0,t,h,_,_,_=>by cases t <;> simp[dep] at h
 |n+1,.lf i,_,_,_,hx=>by
  let ρ0:Ev:=[some (.val (toD (.lf i))),some (.val L)]
  rw[hF]
  refine zas (ρ':=ρ0) rfl ?_ rfl
  show stB T (FF n) ρ0=_
  unfold stB
  refine ze2 ?_
  rw[zdB (hT (.lf i)),sub]
  exact zb8 (zax (d:=L) (e:=.int i) (ρ1:=ρ0) rfl (by simp only[ρ0,toD];rfl) (hx i (by simp[zam])))
 |n+1,.nd r l,h,ho,hl,hx=>by
  simp only[dep] at h
  simp only[zam] at hl hx
  simp only[okT,Bool.and_eq_true] at ho
  have hd:zeq l<=n:=by omega
  have hk:=zlC (n:=n) l (by omega) ho.2
  have ho2:=ho.2
  rw[zc3,List.all_eq_true] at ho2
  have hsub:∀ t∈l,∀ x∈zam t,x∈zau l:=fun t ht x hx=>by rw[zbA];exact List.mem_flatMap.mpr ⟨t,ht,hx⟩
  have ht:=hT (.nd r l)
  rw[show toD (.nd r l)=.tup [.str (wd r),.tup (zg4 l)] by rw[toD]] at ht ⊢
  let ρ0:Ev:=[some (.val (.tup [.str (wd r),.tup (zg4 l)])),some (.val L)]
  rw[hF]
  refine zas (ρ':=ρ0) rfl ?_ rfl
  show stB T (FF n) ρ0=_
  have hc:za3 (dIt (dOp gIx (zab 0) (dC (.int 1)))) (zaM 2) dTT (zad (FF n) (dR (zab 2) (dR (zab 1) dR0))) 1 ρ0=.ok (l.map fun t=>toD (sub f t),ρ0) :=
   zbg (l:=l) (u:=toD) (f:=fun t=>toD (sub f t)) (ds:=zg4 l) (j:=2) rfl (zc7 l) (by omega) (fun t ht=>zep (ρ':=ρ0++[some (.val (toD t))]) (ρ'':=ρ0++[some (.val (toD t))]) rfl rfl (zjd hF hT n t (zcj.mp hd t ht) (ho2 t ht) (by have:=zeK ht;omega) (fun x hx'=>hx x (hsub t ht x hx')))) rfl
  unfold stB
  rw[zag (ρ1:=ρ0) (by rw[zcn ht];rfl)]
  refine zb8 ?_
  rw[zg1 (zev (ρ1:=ρ0) (d:=.str (wd r)) rfl (zev (fr:=dA0) (zbM (g:=zbi) (d:=.lst _) (z:=.tup _) (zba hc) rfl) rfl)) (by simp)]
  rw[sub,toD,zc7,zmt,List.map_map]
  rfl
theorem zhq{L:Dt}{f:Int->Tr}{t:Tr}(hd:dep t<=8)(ho:okT t=true)(hl:(zam t).length<64)(hx:∀ x∈zam t,gIx L (.int x)=.ok (toD (f x))):zaS 8 [.val (toD t),.val L]=.ok (toD (sub f t),[.val .non,.val .non]) :=
 zjd (T:=dTB (zad zbW (dR (zab 0) dR0))) (FF:=zaS) (fun n=>rfl) (fun t=>zbn (zdv (ρ':=[some (.val (toD t)),some (.val L)]) rfl (zhL t))) 8 t hd ho hl hx
theorem zmj{L:Dt}{f:Int->Tr}{t:Tr}(hd:dep t<=8)(ho:okT t=true)(hl:(zam t).length<64)(hx:∀ x∈zam t,gIx L (.int x)=.ok (toD (f x))):zcw 8 [.val (toD t),.val L]=.ok (toD (sub f t),[.val .non,.val .non]) :=
 zjd (T:=zbL (dTB (zes "tuple" (zab 0)))) (FF:=zcw) (fun n=>rfl) (fun t=>by cases t <;> rw[toD] <;> rfl) 8 t hd ho hl hx
def inn(a:Int)(o:Tr):Tr:=sub (fun g=>.lf (a+g)) o
def stf(a:Int)(m:Nat)(o:Tr)(g:Int):Tr:=if g=a then inn a o else .lf (mv a m g)
theorem ziB{f:Int->List Int}:∀{l:List Int},l.Nodup->(∀ g∈l,(f g).Nodup)->(∀ g∈l,∀ h∈l,g≠h->∀ x∈f g,x∉f h)->(l.flatMap f).Nodup
 |[],_,_,_=>by simp
 |g::l,hn,h1,h2=>by
  rw[List.nodup_cons] at hn
  rw[List.flatMap_cons,List.nodup_append]
  refine ⟨h1 g (by simp),ziB hn.2 (fun k hk=>h1 k (by simp[hk])) (fun k hk j hj=>h2 k (by simp[hk]) j (by simp[hj])),fun x hx y hy e=>?_⟩
  subst e
  obtain ⟨k,hk,hy⟩:=List.mem_flatMap.mp hy
  exact h2 g (by simp) k (by simp[hk]) (fun e=>hn.1 (e ▸ hk)) x hx hy
theorem zmE{f:Int->List Int}:∀{l:List Int},(∀ g∈l,(f g).length<=7)->(l.flatMap f).length<=7 * l.length
 |[],_=>by simp
 |g::l,h=>by
  have:=zmE (l:=l) (fun k hk=>h k (by simp[hk]))
  have:=h g (by simp)
  rw[List.flatMap_cons,List.length_append,List.length_cons]
  omega
theorem zmq{a:Int}:∀ l:List Int,(l.flatMap fun i=>zam (.lf (a+i)))=l.map fun i=>a+i
 |[]=>rfl
 |i::l=>by rw[List.flatMap_cons,zmq l];rfl
structure TT(n:Nat)(t:Tr):Prop where
 ok:okT t=true
 lv:(zam t).Perm (zbh n)
 dp:dep t<=n
theorem TT.len{n:Nat}{t:Tr}(h:TT n t):(zam t).length=n:=by rw[h.lv.length_eq,zbb]
theorem TT.mem{n:Nat}{t:Tr}(h:TT n t){x:Int}(hx:x∈zam t):0<=x/\x<n:=zdx.mp (h.lv.mem_iff.mp hx)
theorem zo7{a:Int}{m:Nat}{o:Tr}(h:TT m o)(m7:m<=7):okT (inn a o)=true/\zam (inn a o)=(zam o).map (fun i=>a+i)/\dep (inn a o)<=m:=by
 obtain ⟨a1,a2,a3⟩:=zhJ (fun g=>.lf (a+g)) 0 7 o (by have:=h.dp;omega) (fun i _=>⟨rfl,by simp[dep]⟩) h.ok
 refine ⟨a1,?_,?_⟩
 ·rw[<- zmq];exact a2
 ·have:=h.dp
  show dep (sub _ o)<=m
  omega
theorem zhw{n m:Nat}{a:Int}{t o:Tr}(ht:TT n t)(h7:n<=7)(ho:TT m o)(m1:1<=m)(m7:m<=7):okT (sub (stf a m o) t)=true/\(zam (sub (stf a m o) t)).Nodup/\(zam (sub (stf a m o) t)).length<64/\dep (sub (stf a m o) t)+1<=n+m:=by
 obtain ⟨i1,i2,i3⟩:=zo7 (a:=a) ho m7
 obtain ⟨a1,a2,a3⟩:=zhJ (stf a m o) (m-1) 7 t (by have:=ht.dp;omega) (fun i _=>by
  unfold stf
  split
  ·exact ⟨i1,by omega⟩
  ·exact ⟨rfl,by simp[dep]⟩) ht.ok
 have hin:∀ x∈zam (inn a o),a<=x/\x<a+m:=fun x hx=>by
  rw[i2] at hx
  obtain ⟨g,hg,rfl⟩:=List.mem_map.mp hx
  have:=ho.mem hg
  omega
 have hmv:∀ g x:Int,g≠a->x∈zam (stf a m o g)->x=mv a m g:=fun g x hg hx=>by
  unfold stf at hx
  rw[if_neg hg] at hx
  simpa [zam] using hx
 have hbn:∀ x,x∈zam (stf a m o a)->a<=x/\x<a+m:=fun x hx=>by
  unfold stf at hx
  rw[if_pos rfl] at hx
  exact hin x hx
 refine ⟨a1,?_,?_,?_⟩
 ·rw[a2]
  refine ziB (ht.lv.nodup_iff.mpr (zeR n)) (fun g _=>?_) (fun g hg h hh hne x hx hx'=>?_)
  ·unfold stf
   split
   ·rw[i2]
    refine List.pairwise_map.mpr ((ho.lv.nodup_iff.mpr (zeR m)).imp ?_)
    intro x y hxy e
    exact hxy (by omega)
   ·simp[zam]
  ·by_cases e1:g=a
   ·subst e1
    have q1:=hbn x hx
    have q2:=hmv h x (fun e=>hne e.symm) hx'
    unfold mv at q2
    split at q2 <;> omega
   ·have q1:=hmv g x e1 hx
    by_cases e2:h=a
    ·subst e2
     have q2:=hbn x hx'
     unfold mv at q1
     split at q1 <;> omega
    ·have q2:=hmv h x e2 hx'
     unfold mv at q1 q2
     split at q1 <;> split at q2 <;> omega
 ·rw[a2]
  have:=zmE (f:=fun i=>zam (stf a m o i)) (l:=zam t) (fun g _=>by
   show (zam (stf a m o g)).length<=7
   unfold stf
   split
   ·rw[i2,List.length_map,ho.len];exact m7
   ·simp[zam])
  rw[ht.len] at this
  omega
 ·have:=ht.dp
  omega
def stL(ds:List Int)(a:Int)(o:Tr):List Dt:=(ds.map Dt.int).set a.toNat (toD (inn a o))
theorem zrg{n m:Nat}{a:Int}{o:Tr}{ds:List Int}(hl:ds.length=n)(h:∀ g:Int,0<=g->g<n->g≠a->ds[g.toNat]? = some (mv a m g))(a0:0<=a){x:Int}(x0:0<=x)(x1:x<n):gIx (.lst (stL ds a o)) (.int x)=.ok (toD (stf a m o x)):=by
 refine zhy x0 (by simp[stL,hl];exact x1) ?_
 unfold stL stf
 by_cases e:x=a
 ·subst e
  rw[if_pos rfl,List.getElem?_set_self (by rw[List.length_map];omega)]
 ·rw[if_neg e,List.getElem?_set_ne (by omega),List.getElem?_map,h x x0 x1 e,toD]
  rfl
theorem zml{ρ ρ1:Ev}{i j:Nat}{a:Int}{ds:List Int}{o:Tr}{fv:De}(hv:fv ρ=.ok (toD (inn a o),ρ1))(h1:ρ1[i]? = some (some (.own (ds.map .int))))(hk:zab j ρ1=.ok (.int a,ρ1))(a0:0<=a)(a1:a<ds.length):zgW i fv (zab j) ρ=.ok (.nx,ρ1.set i (some (.own (stL ds a o)))):=by
 unfold zgW
 rw[hv]
 simp only[R.bind_ok,h1,hk]
 rw[zkZ a0 (by simpa using a1)]
 rfl
theorem zrz{a:Int}{m:Nat}{o:Tr}(ho:TT m o):∀ x∈zam o,gIx (.lst ((bn a m).map .int)) (.int x)=.ok (toD (.lf (a+x))):=fun x hx=>by
 have h:=ho.mem hx
 refine zhy h.1 (by rw[List.length_map,zet];exact h.2) ?_
 have e:=ztU (a:=a) (m:=m) h.1 h.2
 have hl:x.toNat<(bn a m).length:=by rw[zet];omega
 unfold nm at e
 rw[List.getElem?_eq_getElem hl] at e
 rw[List.getElem?_map,List.getElem?_eq_getElem hl,toD]
 simpa using e
abbrev ET(n t a m o s:Option B):Ev:=[n,t,a,m,o,s]
theorem zjb:zcl=(za2 (dEx (zad zaq (dR (zab 0) dR0))) (za2 (dEx (zad zaq (dR (zab 3) dR0))) (za2 (dEx (zad zaU (dR (zab 0) (dR (zab 2) (dR (zab 3) dR0))))) (za2 (zb5 5 (za3 (zbq (zab 0)) (zaM 6) dTT (zad zdo (dR (zab 6) (dR (zab 2) (dR (zab 3) dR0)))) 1)) (za2 (zgW 5 (zad (zaS 8) (dR (zab 4) (dR (dFz (zh4 (zab 2) (dOp zaA (zab 2) (zab 3)))) dR0))) (zab 2)) (zb2 (zad (zbQ 8) (dR (zad (zaS 8) (dR (zab 1) (dR (zf4 5) dR0))) dR0)))))))):=rfl
theorem zpO{d e f g h:Dt}(hb:isW d=false\/∃ n,d=.int n/\(n<1\/7<n)):zaT [.val d,.val e,.val f,.val g,.val h]=.er 0:=by
 refine zbX rfl (show zcl (ET (some (.val d)) (some (.val e)) (some (.val f)) (some (.val g)) (some (.val h)) none)=_ from ?_)
 rw[zjb]
 exact zho (by
  unfold zad dR dR0
  show ((zaq [.val d]).bind _)=_
  rw[zgX hb];rfl)
theorem ziu{n m:Nat}(h1:1<=n)(h7:n<=7)(m1:1<=m)(m7:m<=7){e f h:Dt}{k:Nat}(hb:zaU [.val (.int n),.val f,.val (.int m)]=.er k):zaT [.val (.int n),.val e,.val f,.val (.int m),.val h]=.er k:=by
 let ρ0:Ev:=ET (vI n) (some (.val e)) (some (.val f)) (vI m) (some (.val h)) none
 refine zbX rfl (show zcl ρ0=_ from ?_)
 rw[zjb,zag (zd7 h1 h7 (ρ:=ρ0) (i:=0) rfl),zag (zd7 m1 m7 (ρ:=ρ0) (i:=3) rfl)]
 exact zho (zmi (ρ1:=ρ0) (ρ2:=ρ0) (ρ3:=ρ0) rfl rfl rfl hb)
def mvs(a:Int)(n m:Nat):List Int:=(zbh n).map (mv a m)
theorem ztT{a:Int}{n m:Nat}{g:Int}(h0:0<=g)(h1:g<n):(mvs a n m)[g.toNat]? = some (mv a m g):=by
 have hl:g.toNat<n:=by omega
 unfold mvs zbh
 rw[List.map_map,List.getElem?_map,List.getElem?_range hl]
 simp only[Option.map_some,Function.comp]
 rw[Int.toNat_of_nonneg h0]
theorem zsM{n m:Nat}{a:Int}{t o:Tr}(h1:1<=n)(h7:n<=7)(m1:1<=m)(m7:m<=7)(ht:TT n t)(ho:TT m o)(a0:0<=a)(a1:a<n)(hs:(n:Int)-1+m<=7) :
  zaT [.val (.int n),.val (toD t),.val (.int a),.val (.int m),.val (toD o)]=.ok (toD (zaV (sub (stf a m o) t)),[.val .non,.val .non,.val .non,.val .non,.val .non]):=by
 let T:Option B:=some (.val (toD t))
 let O:Option B:=some (.val (toD o))
 let ρ0:Ev:=ET (vI n) T (vI a) (vI m) O none
 let ρ1:Ev:=ET (vI n) T (vI a) (vI m) O (some (.own ((mvs a n m).map .int)))
 let ρ2:Ev:=ET (vI n) T (vI a) (vI m) O (some (.own (stL (mvs a n m) a o)))
 let ρ3:Ev:=ET (vI n) T (vI a) (vI m) O (vL (stL (mvs a n m) a o))
 obtain ⟨k1,k2,k3,k4⟩:=zhw (a:=a) ht h7 ho m1 m7
 have x1:dEx (zad zaU (dR (zab 0) (dR (zab 2) (dR (zab 3) dR0)))) ρ0=.ok (.nx,ρ0):=zen (zpn (ρ1:=ρ0) (ρ2:=ρ0) (ρ3:=ρ0) rfl rfl rfl (zlU a0 a1 hs))
 have hc:za3 (zbq (zab 0)) (zaM 6) dTT (zad zdo (dR (zab 6) (dR (zab 2) (dR (zab 3) dR0)))) 1 ρ0=.ok ((mvs a n m).map .int,ρ0):=by
  rw[show (mvs a n m).map Dt.int=(zbh n).map fun g=>Dt.int (mv a m g) by unfold mvs;rw[List.map_map];rfl]
  exact zbg (l:=zbh n) (u:=Dt.int) (f:=fun g=>.int (mv a m g)) (ds:=zaI 0 n) (zfA (j:=n) rfl (by omega)) (zfQ n) (by rw[zbb];omega) (fun g hg=>zpn (F:=zdo) (fa:=zab 6) (fb:=zab 2) (fc:=zab 3) (ρ:=ρ0++[some (.val (.int g))]) (d:=.int g) (e:=.int a) (g:=.int m) (ρ1:=ρ0++[some (.val (.int g))]) (ρ2:=ρ0++[some (.val (.int g))]) (ρ3:=ρ0++[some (.val (.int g))]) rfl rfl rfl (zin g a m)) rfl
 have x2:zb5 5 (za3 (zbq (zab 0)) (zaM 6) dTT (zad zdo (dR (zab 6) (dR (zab 2) (dR (zab 3) dR0)))) 1) ρ0=.ok (.nx,ρ1):=zdY (i:=5) hc (by simp[ρ0])
 have er:dFz (zh4 (zab 2) (dOp zaA (zab 2) (zab 3))) ρ1=.ok (.lst ((bn a m).map .int),ρ1):=by
  refine zba ?_
  show (if okR a (a+m)=true then R.ok (zaI a (a+m-a).toNat,ρ1) else .no)=_
  rw[if_pos (by unfold okR;simp only[Bool.and_eq_true,decide_eq_true_eq];omega),show (a+m-a).toNat=m by omega,zkd]
 have ev:zad (zaS 8) (dR (zab 4) (dR (dFz (zh4 (zab 2) (dOp zaA (zab 2) (zab 3)))) dR0)) ρ1=.ok (toD (inn a o),ρ1) :=
  zep (d:=toD o) (ρ':=ρ1) rfl er (zhq (by have:=ho.dp;omega) ho.ok (by rw[ho.len];omega) (zrz ho))
 have hml:(mvs a n m).length=n:=by unfold mvs;rw[List.length_map,zbb]
 have x3:zgW 5 (zad (zaS 8) (dR (zab 4) (dR (dFz (zh4 (zab 2) (dOp zaA (zab 2) (zab 3)))) dR0))) (zab 2) ρ1=.ok (.nx,ρ2):=zml (i:=5) ev rfl rfl a0 (by omega)
 have e4:zad (zaS 8) (dR (zab 1) (dR (zf4 5) dR0)) ρ2=.ok (toD (sub (stf a m o) t),ρ3) :=
  zep (d:=toD t) (e:=.lst (stL (mvs a n m) a o)) (ρ':=ρ2) (ρ'':=ρ3) rfl rfl (zhq (by have:=ht.dp;omega) ht.ok (by rw[ht.len];omega) (fun x hx=>zrg (m:=m) hml (fun g g0 g1 _=>ztT g0 g1) a0 (ht.mem hx).1 (ht.mem hx).2))
 refine zas (ρ':=ρ3) rfl (show zcl ρ0=_ from ?_) rfl
 rw[zjb,zag (zd7 h1 h7 (ρ:=ρ0) (i:=0) rfl),zag (zd7 m1 m7 (ρ:=ρ0) (i:=3) rfl),zag x1,zag x2,zag x3]
 exact zb8 (zdv e4 (zm6 8 _ (by omega) (by omega) k1 k2 k3))
theorem zsH{n m:Nat}{a:Int}{t o:Tr}(h1:1<=n)(h7:n<=7)(m1:1<=m)(m7:m<=7)(ht:TT n t)(ho:TT m o)(a0:0<=a)(a1:a<n)(hs:(n:Int)-1+m<=7) :
  zbO [.val (.int n),.val (toD t),.val (.int a),.val (.int m),.val (toD o)]=.ok (toD (zaV (sub (stf a m o) t)),[.val .non,.val .non,.val .non,.val .non,.val .non]):=by
 let T:Option B:=some (.val (toD t))
 let O:Option B:=some (.val (toD o))
 let ρ0:Ev:=ET (vI n) T (vI a) (vI m) O none
 let ρ1:Ev:=ET (vI n) T (vI a) (vI m) O (some (.own ((names a n m).map .int)))
 let ρ2:Ev:=ET (vI n) T (vI a) (vI m) O (some (.own (stL (names a n m) a o)))
 let ρ3:Ev:=ET (vI n) T (vI a) (vI m) O (vL (stL (names a n m) a o))
 obtain ⟨k1,k2,k3,k4⟩:=zhw (a:=a) ht h7 ho m1 m7
 have hml:(names a n m).length=n:=by unfold names;rw[List.length_map,zbb]
 refine zas (ρ':=ρ3) rfl (show zcV ρ0=_ from ?_) rfl
 unfold zcV
 rw[zag (ρ1:=ρ1) (zdY (i:=5) (ziC h7 m7 (a:=a) (ρ:=ρ0) (i:=0) (j:=6) (k:=3) (l:=2) rfl rfl (fun _=>rfl) (fun _=>rfl)) (by simp[ρ0]))]
 rw[zag (ρ1:=ρ2) (zml (i:=5) (zep (d:=toD o) (ρ':=ρ1) rfl (zba (zi9 m7 (a:=a) (ρ:=ρ1) (i:=3) (j:=6) (l:=2) rfl rfl (fun _=>rfl))) (zmj (by have:=ho.dp;omega) ho.ok (by rw[ho.len];omega) (zrz ho))) rfl rfl a0 (by omega))]
 have e4:zad (zcw 8) (dR (zab 1) (dR (zf4 5) dR0)) ρ2=.ok (toD (sub (stf a m o) t),ρ3) :=
  zep (d:=toD t) (e:=.lst (stL (names a n m) a o)) (ρ':=ρ2) (ρ'':=ρ3) rfl rfl (zmj (by have:=ht.dp;omega) ht.ok (by rw[ht.len];omega) (fun x hx=>zrg (m:=m) hml (fun g g0 g1 hne=>by rw[zmu g0 g1,zqT hne]) a0 (ht.mem hx).1 (ht.mem hx).2))
 exact zb8 (zdv e4 (zgU 8 _ (by omega) (by omega) k1 k2 k3))
theorem zqo{n m:Nat}{a:Int}{t o:Tr}(h7:n<=7)(m1:1<=m)(m7:m<=7)(ht:TT n t)(ho:TT m o)(hs:(n:Int)-1+m<=7):zar 16 [.val (toD (zaV (sub (stf a m o) t))),.val (toD (zaV (sub (stf a m o) t)))]=.ok (.bl true,[.val .non,.val .non]):=by
 obtain ⟨k1,k2,k3,k4⟩:=zhw (a:=a) ht h7 ho m1 m7
 have k5:dep (sub (stf a m o) t)<=8:=by omega
 obtain ⟨q1,q2,q3⟩:=zgK 8 _ _ k5 (zfR 8 _ k5)
 exact zor (by omega) (by rw[q1];exact k1) (by rw[q2.length_eq];exact k3)
theorem zl2{v w x y z:Dt}{bs:List B}:∀{ρ:Ev}{k:Nat},zfq [.d v,.d w,.d x,.d y,.d z] bs k ρ = ρ
 |[],_=>rfl
 |o::r,k=>by
  show (match zd8 [.d v,.d w,.d x,.d y,.d z] k with|some j=>bs[j]?|none=>o)::zfq [.d v,.d w,.d x,.d y,.d z] bs (k+1) r=_
  rw[zl2 (ρ:=r)];rfl
section
variable{F:FD}{fa fb fc fd fe:De}{ρ:Ev}{a b c d e y:Dt}{ys:List Dt}{l:List B}{n:Nat}(h1:fa ρ=.ok (a,ρ))(h2:fb ρ=.ok (b,ρ))(h3:fc ρ=.ok (c,ρ))(h4:fd ρ=.ok (d,ρ))(h5:fe ρ=.ok (e,ρ))
include h1 h2 h3 h4 h5
theorem zuq(hF:F [.val a,.val b,.val c,.val d,.val e]=.ok (y,l)):zad F (dR fa (dR fb (dR fc (dR fd (dR fe dR0))))) ρ=.ok (y,ρ):=by
 unfold zad dR dR0
 rw[h1]
 simp only[R.bind_ok,h2,h3,h4,h5,zgL,zaN,if_true,za1,hF]
 rw[zl2]
theorem ziV(hF:F [.val a,.val b,.val c,.val d,.val e]=.er n):zad F (dR fa (dR fb (dR fc (dR fd (dR fe dR0))))) ρ=.er n:=by
 unfold zad dR dR0
 rw[h1]
 simp only[R.bind_ok,h2,h3,h4,h5,zgL,zaN,if_true,za1,hF]
 rfl
theorem zrd(hF:F [.val a,.val b,.val c,.val d,.val e]=.ok (.lst ys,l)):zbs F (dR fa (dR fb (dR fc (dR fd (dR fe dR0))))) ρ=.ok (ys,ρ):=by
 unfold zbs dR dR0
 rw[h1]
 simp only[R.bind_ok,h2,h3,h4,h5,zgL,zaN,if_true,za1,hF]
 rw[zl2]
theorem zcT(hF:F [.val a,.val b,.val c,.val d,.val e]=.er n):dFz (zbs F (dR fa (dR fb (dR fc (dR fd (dR fe dR0)))))) ρ=.er n:=by
 unfold dFz zbs dR dR0
 rw[h1]
 simp only[R.bind_ok,h2,h3,h4,h5,zgL,zaN,if_true,za1,hF]
 rfl
end
def zuT:De:=(dFz (zbY (dA (zab 1) (dA (znD (dC (.int 1))) (dA (dC (.bl true)) (dA (dC .non) (dA (dC (.str (Str.ofString "0"))) (dA (dC (.tup [(.int 0)])) (dA (dOp zpl (dC (.int 10)) (dC (.int 29))) dA0)))))))))
def zkW:List Dt:=[(.int 0),(.int 8),(.int (-1)),.non,(.bl true),(.str (Str.ofString "1"))]
def cf1:De:=(dFz (zbs zaY (dR (zab 1) (dR (dFz (zbY dA0)) (dR (zab 5) (dR (dC (.int 1)) (dR (dFz (zbY dA0)) dR0)))))))
def cf2:De:=(zad zaT (dR (zab 1) (dR (zab 2) (dR (zab 5) (dR (dC (.int 1)) (dR (dC (.int 0)) dR0))))))
def cg1:De:=(dFz (zbs zaY (dR (zab 1) (dR (dFz (zbY dA0)) (dR (dC (.int 0)) (dR (zab 6) (dR (dFz (zbY dA0)) dR0)))))))
def cg2:De:=(dFz (zbs zaY (dR (zab 6) (dR (dFz (zbY dA0)) (dR (dC (.int 0)) (dR (dC (.int 1)) (dR (dFz (zbY dA0)) dR0)))))))
def cg3:De:=(zad zaT (dR (zab 6) (dR (zab 2) (dR (dC (.int 0)) (dR (dC (.int 1)) (dR (dC (.int 0)) dR0))))))
def rf1:De:=(dFz (zbs zaY (dR (zab 1) (dR (dC (.lst [(.tup [])])) (dR (dC (.int 0)) (dR (dC (.int 1)) (dR (dFz (zbY dA0)) dR0)))))))
def rf2:De:=(dFz (zbs zaY (dR (zab 1) (dR (dFz (zbY dA0)) (dR (dC (.int 0)) (dR (dC (.int 1)) (dR (dC (.lst [(.tup [(.int 1)])])) dR0)))))))
theorem zq5:zbS=(za2 (zbf 5 (dOp gIx zuT (zad zae (dRO 0 (dR (dC (.int 7)) dR0))))) (za2 (zbf 6 (dOp gIx (dC (.lst zkW)) (zad zae (dRO 0 (dR (dC (.int 6)) dR0))))) (za2 (zhn 4 7 zfb 2 cf1 cf2) (za2 (zk1 4 7 zfb 0 cg1 cg2 cg3) (za2 (dIf (dTB (dOp (gEq true) (dFz (zkV 4 zfb rf1)) (dC (.lst [(.int 1)])))) (zb2 (dC (.bl false))) dNx) (zb2 (dOp (gEq false) (dFz (zkV 4 zfb rf2)) (dC (.lst [(.int 1)]))))))))):=rfl
theorem zoj:∀ d∈zkW,isW d=false\/∃ n,d=.int n/\(n<1\/7<n):=by
 intro d hd
 simp only[zkW,List.mem_cons,List.not_mem_nil,or_false] at hd
 rcases hd with rfl|rfl|rfl|rfl|rfl|rfl
 ·exact .inr ⟨_,rfl,by decide⟩
 ·exact .inr ⟨_,rfl,by decide⟩
 ·exact .inr ⟨_,rfl,by decide⟩
 ·exact .inl rfl
 ·exact .inl rfl
 ·exact .inl rfl
theorem eq1(neg:Bool)(z:Int):gEq neg (.lst [.int z]) (.lst [.int z])=.ok (.bl (!neg)):=by
 rw[zek rfl rfl,show eqD (.lst [.int z]) (.lst [.int z])=true by rw[eqD,zk0,zk0,eqI,beq_self_eq_true];rfl]
 cases neg <;> rfl
theorem zhu(n:Nat):zf7 n (.lst [])=true:=rfl
theorem zjn:zn9 (.lst []):=fun d hd=>by cases hd
abbrev EW(s n t o q b no ca:Option B):Ev:=[s,n,t,o,q,b,no,ca]
theorem zoO{n:Nat}{tD oD:Dt}{st:List Dt}(h1:1<=n)(h7:n<=7)(hs:St st) :
  ∃ st',St st'/\zaL [.own st,.val (.int n),.val tD,.val oD,.tab zfb]=.ok (.bl true,[.own st',.val .non,.val .non,.val .non,.tab zfb]):=by
 let N:Option B:=some (.val (.int n))
 let T:Option B:=some (.val tD)
 let O:Option B:=some (.val oD)
 let Q:Option B:=some (.tab zfb)
 let ρ0:Ev:=EW (some (.own st)) N T O Q none none none
 let badL:List Dt:=[.int n,.int (-1),.bl true,.non,.str (Str.ofString "0"),.tup [.int 0],.int (10 ^ 29)]
 have eb:zuT ρ0=.ok (.lst badL,ρ0):=rfl
 obtain ⟨u,st1,e1,hs1,u0,u1⟩:=zbr (m:=7) hs (by decide) (by decide)
 have hul:u.toNat<badL.length:=by show u.toNat<7;omega
 let ba:Dt:=badL[u.toNat]
 have hba:isG n ba=false:=by
  have hd:ba∈badL:=List.getElem_mem hul
  simp only[badL,List.mem_cons,List.not_mem_nil,or_false] at hd
  rcases hd with q|q|q|q|q|q|q <;> rw[q] <;> simp[isG]
  omega
 let Bb:Option B:=some (.val ba)
 let ρ1:Ev:=EW (some (.own st1)) N T O Q Bb none none
 have x1:zbf 5 (dOp gIx zuT (zad zae (dRO 0 (dR (dC (.int 7)) dR0)))) ρ0=.ok (.nx,ρ1) :=
  zbv (i:=5) (zax eb (zhd e1 rfl) (zhy u0 (by show u<7;omega) (List.getElem?_eq_getElem hul))) (by simp[ρ0])
 obtain ⟨y,st2,e2,hs2,y0,y1⟩:=zbr (m:=6) hs1 (by decide) (by decide)
 have hyl:y.toNat<zkW.length:=by show y.toNat<6;omega
 let no:Dt:=zkW[y.toNat]
 have hno:=zoj no (List.getElem_mem hyl)
 let Nn:Option B:=some (.val no)
 let ρ2:Ev:=EW (some (.own st2)) N T O Q Bb Nn none
 have x2:zbf 6 (dOp gIx (dC (.lst zkW)) (zad zae (dRO 0 (dR (dC (.int 6)) dR0)))) ρ1=.ok (.nx,ρ2) :=
  zbv (i:=6) (zax (d:=.lst zkW) (e:=.int y) (ρ1:=ρ1) rfl (zhd e2 rfl) (zhy y0 (by show y<6;omega) (List.getElem?_eq_getElem hyl))) (by simp[ρ1])
 have hb2:=zpY (n:=n) (d:=ba) (m:=.int 1) hba
 have g1:cf1 (zbo ρ2)=.er 2:=zcT (a:=.int n) (b:=.lst []) (c:=ba) (d:=.int 1) (e:=.lst []) rfl rfl rfl rfl rfl (zk4 (m:=1) h1 h7 (by omega) (by omega) zjn (zhu n) zjn (zhu 1) hb2)
 have g2:cf2 (zbo ρ2)=.er 2:=ziV (a:=.int n) (b:=tD) (c:=ba) (d:=.int 1) (e:=.int 0) rfl rfl rfl rfl rfl (ziu (m:=1) h1 h7 (by omega) (by omega) hb2)
 have x3:zhn 4 7 zfb 2 cf1 cf2 ρ2=.ok (.nx,ρ2):=by
  show (if zfb=zfb/\2<8/\znA 2 (cf1 (zbo ρ2))=true/\znA 2 (cf2 (zbo ρ2))=true then R.ok (Fl.nx,ρ2) else .no)=_
  rw[g1,g2,if_pos ⟨rfl,by decide,rfl,rfl⟩]
 have k1:cg1 (zbo ρ2)=.er 0:=zcT (a:=.int n) (b:=.lst []) (c:=.int 0) (d:=no) (e:=.lst []) rfl rfl rfl rfl rfl (zp8 h1 h7 hno)
 have k2:cg2 (zbo ρ2)=.er 0:=zcT (a:=no) (b:=.lst []) (c:=.int 0) (d:=.int 1) (e:=.lst []) rfl rfl rfl rfl rfl (zsE hno)
 have k3:cg3 (zbo ρ2)=.er 0:=ziV (a:=no) (b:=tD) (c:=.int 0) (d:=.int 1) (e:=.int 0) rfl rfl rfl rfl rfl (zpO hno)
 have x4:zk1 4 7 zfb 0 cg1 cg2 cg3 ρ2=.ok (.nx,ρ2):=by
  show (if zfb=zfb/\0<8/\znA 0 (cg1 (zbo ρ2))=true/\znA 0 (cg2 (zbo ρ2))=true/\znA 0 (cg3 (zbo ρ2))=true then R.ok (Fl.nx,ρ2) else .no)=_
  rw[k1,k2,k3,if_pos ⟨rfl,by decide,rfl,rfl,rfl⟩]
 have hL:∀ l:List Dt,l.length<=7->zn9 (.lst [.tup l]):=fun l hl d hd t ht=>by
  have:d=.tup l:=by simpa using hd
  rw[this] at ht;cases ht;omega
 have r1:zkV 4 zfb rf1 ρ2=.ok ([.int 1],ρ2):=zpq rfl (zcT (a:=.int n) (b:=.lst [.tup []]) (c:=.int 0) (d:=.int 1) (e:=.lst []) rfl rfl rfl rfl rfl (zrM (m:=1) h1 h7 (by omega) (by omega) (hL [] (by simp)) (by simp[zf7,zl5,ziU]))) (by decide)
 have r2:zkV 4 zfb rf2 ρ2=.ok ([.int 1],ρ2):=zpq rfl (zcT (a:=.int n) (b:=.lst []) (c:=.int 0) (d:=.int 1) (e:=.lst [.tup [.int 1]]) rfl rfl rfl rfl rfl (zql (m:=1) h1 h7 (by omega) (by omega) zjn (zhu n) (hL [.int 1] (by simp)) (by simp[zf7,zl5,isG]))) (by decide)
 have x5:dIf (dTB (dOp (gEq true) (dFz (zkV 4 zfb rf1)) (dC (.lst [(.int 1)])))) (zb2 (dC (.bl false))) dNx ρ2=.ok (.nx,ρ2):=by
  rw[zcn (zbn (zax (zba r1) (e:=.lst [.int 1]) rfl (eq1 true 1)))];rfl
 refine ⟨st2,hs2,zas (ρ':=ρ2) rfl (show zbS ρ0=_ from ?_) rfl⟩
 rw[zq5,zag x1,zag x2,zag x3,zag x4,zag x5]
 exact zb8 (zax (zba r2) (e:=.lst [.int 1]) rfl (eq1 false 1))
abbrev EV(S K s n m ps os t o g tu f Q R:Option B):Ev:=[S,K,s,n,m,ps,os,t,o,g,tu,f,Q,R]
def nmE:De:=(zjJ (dA (dOp zaA (dC (.int 1)) (zad zae (dRO 2 (dR (dC (.int 6)) dR0)))) (dA (dOp zaA (dC (.int 1)) (zad zae (dRO 2 (dR (dC (.int 4)) dR0)))) dA0)))
def psE:De:=(zjJ (dA (zad zbE (dRO 2 (dR (zab 3) (dR (dC (.int 5)) dR0)))) (dA (zad zbE (dRO 2 (dR (zab 4) (dR (dC (.int 4)) dR0)))) dA0)))
def tsE:De:=(zjJ (dA (zad (zaK 8) (dRO 2 (dR (zad zaW (dRO 2 (dR (zab 3) dR0))) dR0))) (dA (zad (zaK 8) (dRO 2 (dR (zad zaW (dRO 2 (dR (zab 4) dR0))) dR0))) dA0)))
def tpE:De:=(zad zaT (dR (zab 3) (dR (zab 7) (dR (zab 9) (dR (zab 4) (dR (zab 8) dR0))))))
def ppN:DN:=(zbs zaY (dR (zab 3) (dR (zab 5) (dR (zab 9) (dR (zab 4) (dR (zab 6) dR0))))))
def rfS(fE:De)(k:Int):DS:=(dIf (dTB (dOp (gEq true) (dFz (zkV 13 ze8 fE)) (dC (.lst [(.int k)])))) (zb2 (dC (.bl false))) dNx)
def zrP:DS:=(za2 (zb5 11 ppN) (za2 (dIf (zbL (dTB (ziD 11 (dFz (zbs zcP (dR (zab 3) (dR (zab 5) (dR (zab 9) (dR (zab 4) (dR (zab 6) dR0))))))) (zar 16)))) (zb2 (dC (.bl false))) dNx) (dEx (zd2 11 (dC (.int 0))))))
def mid:DS:=(dIf (dTB (dOp gGt (dOp zaA (zab 3) (zab 4)) (dC (.int 8)))) (za2 (rfS tpE 0) (rfS (dFz ppN) 0)) (dIf (zbL (dTB (zad (zar 16) (dR tpE (dR (zad zbO (dR (zab 3) (dR (zab 7) (dR (zab 9) (dR (zab 4) (dR (zab 8) dR0)))))) dR0))))) (zb2 (dC (.bl false))) (dIf (dTB (dOp gGt (dOp zaA (dFn zbN (dA (zab 5) dA0)) (dFn zbN (dA (zab 6) dA0))) (dC (.int 7)))) (rfS (dFz ppN) 1) (zga (zbq (dC (.int 2))) (zaM 10) zrP))))
def zuY:De:=(zad zaL (dRT 12 (dRO 2 (dR (zab 3) (dR (zab 7) (dR (zab 8) dR0))))))
def outer:DS:=(za2 (zb5 2 (zbs zcB (dR (zab 0) (dR (zab 1) dR0)))) (za2 (zmG nmE (zeo 3 4)) (za2 (zmG psE (zeo 5 6)) (za2 (zmG tsE (zeo 7 8)) (za2 (zbf 9 (zad zae (dRO 2 (dR (zab 3) dR0)))) (za2 mid (dIf (zbL (dTB zuY)) (zb2 (dC (.bl false))) dNx)))))))
theorem zss:zkX=za2 (zga (zbq (dFn ziT (dA (dC (.int 1)) (dA (dFn zgl (dA (dFn zbN (dA (zab 0) dA0)) (dA (dC (.int 8)) dA0))) dA0)))) (zaM 1) outer) (zb2 (dC (.bl true))):=rfl
theorem zoT{ρ:Ev}{fE:De}{k:Nat}(h0:ρ[13]? = some (some (.tab ze8)))(h:fE (zbo ρ)=.er k)(hk:k<8):rfS fE k ρ=.ok (.nx,ρ):=by
 unfold rfS
 rw[zcn (zbn (zax (zba (zpq h0 h hk)) (e:=.lst [.int k]) rfl (eq1 true k)))]
 rfl
theorem zpt{n:Nat}{tD oD:Dt}{S K M P O g tu f Rr:Option B}{st:List Dt}(h1:1<=n)(h7:n<=7)(hs:St st):∃ st',zuY (EV S K (some (.own st)) (vI n) M P O (some (.val tD)) (some (.val oD)) g tu f (some (.tab zfb)) Rr)=.ok (.bl true,EV S K (some (.own st')) (vI n) M P O (some (.val tD)) (some (.val oD)) g tu f (some (.tab zfb)) Rr):=by
 obtain ⟨st',hs',e⟩:=zoO (tD:=tD) (oD:=oD) h1 h7 hs
 refine ⟨st',?_⟩
 unfold zuY
 show ((zaL [.own st,.val (.int n),.val tD,.val oD,.tab zfb]).bind fun z=>R.ok (z.1,zfq [.s 2,.d (.int n),.d tD,.d oD,.s 12] z.2 0 (EV S K (some (.own st)) (vI n) M P O (some (.val tD)) (some (.val oD)) g tu f (some (.tab zfb)) Rr)))=_
 rw[e]
 rfl
theorem TT.of{n:Nat}{gs:List Int}{t:Tr}(hg:gs.Perm (zbh n))(h:TrE gs t):TT n t:=⟨h.1,by rw[h.2.1];exact hg,by have:=h.2.2;rw[hg.length_eq,zbb] at this;exact this⟩
theorem zqe{n m:Nat}{a:Int}{ps os:List (List Int)}{t o:Tr}{S K X o10 o11 Q:Option B}(h1:1<=n)(h7:n<=7)(m1:1<=m)(m7:m<=7)(hp:zja n ps)(hl:ps.length<=8)(hq:zja m os)(ho:os.length<=8)(ht:TT n t)(hto:TT m o)(a0:0<=a)(a1:a<n) :
  ∃ b10 b11,mid (EV S K X (vI n) (vI m) (vL (lp ps)) (vL (lp os)) (some (.val (toD t))) (some (.val (toD o))) (vI a) o10 o11 Q (some (.tab ze8)))=.ok (.nx,EV S K X (vI n) (vI m) (vL (lp ps)) (vL (lp os)) (some (.val (toD t))) (some (.val (toD o))) (vI a) b10 b11 Q (some (.tab ze8))):=by
 let E:Option B->Option B->Ev:=fun x y=>EV S K X (vI n) (vI m) (vL (lp ps)) (vL (lp os)) (some (.val (toD t))) (some (.val (toD o))) (vI a) x y Q (some (.tab ze8))
 let ρ:Ev:=E o10 o11
 have c1:dTB (dOp gGt (dOp zaA (zab 3) (zab 4)) (dC (.int 8))) ρ=.ok (decide ((8:Int)<n+m),ρ):=rfl
 by_cases hb:(8:Int)<n+m
 ·refine ⟨o10,o11,?_⟩
  show mid ρ=_
  have hbm:=znh (m:=m) a0 a1 (by omega)
  rw[decide_eq_true hb] at c1
  unfold mid
  rw[zdB c1]
  have r1:rfS tpE (0:Nat) ρ=.ok (.nx,ρ):=zoT rfl (ziV (a:=.int n) (b:=toD t) (c:=.int a) (d:=.int m) (e:=toD o) rfl rfl rfl rfl rfl (ziu h1 h7 m1 m7 hbm)) (by decide)
  have r2:rfS (dFz ppN) (0:Nat) ρ=.ok (.nx,ρ):=zoT rfl (zcT (a:=.int n) (b:=.lst (lp ps)) (c:=.int a) (d:=.int m) (e:=.lst (lp os)) rfl rfl rfl rfl rfl (zk4 h1 h7 m1 m7 (ziN h7 hp) (zgP hl hp) (ziN m7 hq) (zgP ho hq) hbm)) (by decide)
  exact (zag r1).trans r2
 ·rw[decide_eq_false hb] at c1
  have hs:(n:Int)-1+m<=7:=by omega
  have e1:zad (zar 16) (dR tpE (dR (zad zbO (dR (zab 3) (dR (zab 7) (dR (zab 9) (dR (zab 4) (dR (zab 8) dR0)))))) dR0)) ρ=.ok (.bl true,ρ) :=
   zep (ρ':=ρ) (ρ'':=ρ) (zuq (a:=.int n) (b:=toD t) (c:=.int a) (d:=.int m) (e:=toD o) rfl rfl rfl rfl rfl (zsM h1 h7 m1 m7 ht hto a0 a1 hs)) (zuq (a:=.int n) (b:=toD t) (c:=.int a) (d:=.int m) (e:=toD o) rfl rfl rfl rfl rfl (zsH h1 h7 m1 m7 ht hto a0 a1 hs)) (zqo h7 m1 m7 ht hto hs)
  have l1:dFn zbN (dA (zab 5) dA0) ρ=.ok (.int ps.length,ρ):=zbM (d:=.lst (lp ps)) rfl (by simp[zbN,zfh])
  have l2:dFn zbN (dA (zab 6) dA0) ρ=.ok (.int os.length,ρ):=zbM (d:=.lst (lp os)) rfl (by simp[zbN,zfh])
  have c3:dTB (dOp gGt (dOp zaA (dFn zbN (dA (zab 5) dA0)) (dFn zbN (dA (zab 6) dA0))) (dC (.int 7))) ρ=.ok (decide ((7:Int)<ps.length+os.length),ρ):=zbn (zax (zax l1 l2 rfl) rfl rfl)
  show ∃ b10 b11,mid ρ=.ok (.nx,E b10 b11)
  unfold mid
  rw[zcn c1,zcn (zdL (b:=true) (zbn e1))]
  by_cases hm:(7:Int)<ps.length+os.length
  ·rw[decide_eq_true hm] at c3
   refine ⟨o10,o11,?_⟩
   rw[zdB c3]
   exact zoT (k:=1) rfl (zcT (a:=.int n) (b:=.lst (lp ps)) (c:=.int a) (d:=.int m) (e:=.lst (lp os)) rfl rfl rfl rfl rfl (zqm h1 h7 m1 m7 hp hl hq ho a0 a1 hs (by omega))) (by decide)
  ·rw[decide_eq_false hm] at c3
   rw[zcn c3]
   let L:List (List Int):=znE a m ps os
   have hLl:L.length<=8:=by show (znE a m ps os).length<=8;rw[zqC];omega
   have hsame:zar 16 [.val (.lst (lp L)),.val (.lst (lp L))]=.ok (.bl true,[.val .non,.val .non]):=zsF (k:=13) L (by omega) (zpj h7 m7 hp hq)
   obtain ⟨ρ',⟨b10,b11,rfl⟩,e⟩:=zjh (g:=zaM 10) (body:=zrP) (ds:=zaI 0 2) (ρ:=ρ) (I:=fun ρ=>∃ x y,ρ=E x y)
    (fun d hd ρ ⟨x,y,hρ⟩=>by
     subst hρ
     refine ⟨E (some (.val d)) y,E (some (.val d)) (some (.own (lp L++[.int 0]))),rfl,?_,_,_,rfl⟩
     let ρ6:Ev:=E (some (.val d)) (some (.own (lp L)))
     have y1:zb5 11 ppN (E (some (.val d)) y)=.ok (.nx,ρ6) :=
      zdY (i:=11) (zrd (ρ:=E (some (.val d)) y) (a:=.int n) (b:=.lst (lp ps)) (c:=.int a) (d:=.int m) (e:=.lst (lp os)) rfl rfl rfl rfl rfl (ztV h1 h7 m1 m7 hp hl hq ho a0 a1 hs (by omega))) (by simp[E])
     have y2:dFz (zbs zcP (dR (zab 3) (dR (zab 5) (dR (zab 9) (dR (zab 4) (dR (zab 6) dR0)))))) ρ6=.ok (.lst (lp L),ρ6) :=
      zba (zrd (a:=.int n) (b:=.lst (lp ps)) (c:=.int a) (d:=.int m) (e:=.lst (lp os)) rfl rfl rfl rfl rfl (zpD h7 m7 hp hl hq ho))
     have y3:ziD 11 (dFz (zbs zcP (dR (zab 3) (dR (zab 5) (dR (zab 9) (dR (zab 4) (dR (zab 6) dR0))))))) (zar 16) ρ6=.ok (.bl true,ρ6):=by
      unfold ziD
      rw[y2]
      show (match zar 16 [.val (.lst (lp L)),.val (.lst (lp L))] with|.ok (.bl c,_)=>R.ok (Dt.bl c,ρ6)|_=>.no)=_
      rw[hsame]
     unfold zrP
     rw[zag y1,zag (ρ1:=ρ6) (by rw[zcn (zdL (b:=true) (zbn y3))];rfl)]
     refine zen (d:=.non) ?_
     show (if (lp L).length<16777216 then R.ok (Dt.non,E (some (.val d)) (some (.own (lp L++[.int 0])))) else .no)=_
     rw[if_pos (by rw[zfh];omega)]) ⟨o10,o11,rfl⟩
   refine ⟨b10,b11,?_⟩
   unfold zga
   rw[zfA (j:=2) (ρ1:=ρ) rfl (by omega)]
   exact e
theorem zno{ns:List Int}{k:Nat}{R S K o2 o3 o4 o5 o6 o7 o8 o9 o10 o11:Option B}(hR:R=some (.tab ze8))(hS:S=some (.val (.scr ns)))(hK:K=some (.val (.int k))):∃ b2 b3 b4 b5 b6 b7 b8 b9 b10 b11,outer (EV S K o2 o3 o4 o5 o6 o7 o8 o9 o10 o11 (some (.tab zfb)) R)=.ok (.nx,EV S K b2 b3 b4 b5 b6 b7 b8 b9 b10 b11 (some (.tab zfb)) R):=by
 subst hR hS hK
 let S:Option B:=some (.val (.scr ns))
 let K:Option B:=some (.val (.int k))
 let Q:Option B:=some (.tab zfb)
 let R:Option B:=some (.tab ze8)
 obtain ⟨st,hs,e1⟩:=zng (ns:=ns) (k:=k)
 have x1:zb5 2 (zbs zcB (dR (zab 0) (dR (zab 1) dR0))) (EV S K o2 o3 o4 o5 o6 o7 o8 o9 o10 o11 Q R)=.ok (.nx,EV S K (some (.own st)) o3 o4 o5 o6 o7 o8 o9 o10 o11 Q R) :=
  zdY (i:=2) (ztC (ρ':=EV S K o2 o3 o4 o5 o6 o7 o8 o9 o10 o11 Q R) (ρ'':=EV S K o2 o3 o4 o5 o6 o7 o8 o9 o10 o11 Q R) rfl rfl e1) (by simp)
 obtain ⟨v,st1,e2,hs1,v0,v1⟩:=zbr (m:=6) hs (by decide) (by decide)
 obtain ⟨w,st2,e3,hs2,w0,w1⟩:=zbr (m:=4) hs1 (by decide) (by decide)
 obtain ⟨n,hn⟩ : ∃ n:Nat,(n:Int)=1+v:=⟨(1+v).toNat,by omega⟩
 obtain ⟨m,hm⟩ : ∃ m:Nat,(m:Int)=1+w:=⟨(1+w).toNat,by omega⟩
 have h1:1<=n:=by omega
 have h7:n<=7:=by omega
 have m1:1<=m:=by omega
 have m7:m<=7:=by omega
 let N:Option B:=vI n
 let M:Option B:=vI m
 have x2:zmG nmE (zeo 3 4) (EV S K (some (.own st)) o3 o4 o5 o6 o7 o8 o9 o10 o11 Q R)=.ok (.nx,EV S K (some (.own st2)) N M o5 o6 o7 o8 o9 o10 o11 Q R):=by
  have ep:nmE (EV S K (some (.own st)) o3 o4 o5 o6 o7 o8 o9 o10 o11 Q R)=.ok (.tup [.int n,.int m],EV S K (some (.own st2)) o3 o4 o5 o6 o7 o8 o9 o10 o11 Q R):=by
   unfold nmE
   refine zg1 (zev (zax rfl (zjB (ρ:=EV S K (some (.own st)) o3 o4 o5 o6 o7 o8 o9 o10 o11 Q R) rfl rfl e2) (z:=.int n) (by rw[hn];rfl)) (zev (fr:=dA0) (zax rfl (zjB (ρ:=EV S K (some (.own st1)) o3 o4 o5 o6 o7 o8 o9 o10 o11 Q R) rfl rfl e3) (z:=.int m) (by rw[hm];rfl)) rfl)) (by simp)
  unfold zmG
  rw[ep]
  rfl
 obtain ⟨ps,st3,hs3,hps,hl,e4⟩:=zg9 (n:=n) (mo:=5) (st:=st2) (by omega) h1 h7 hs2
 obtain ⟨os,st4,hs4,hos,hol,e5⟩:=zg9 (n:=m) (mo:=4) (st:=st3) (by omega) m1 m7 hs3
 let P:Option B:=vL (lp ps)
 let O:Option B:=vL (lp os)
 have x3:zmG psE (zeo 5 6) (EV S K (some (.own st2)) N M o5 o6 o7 o8 o9 o10 o11 Q R)=.ok (.nx,EV S K (some (.own st4)) N M P O o7 o8 o9 o10 o11 Q R):=by
  have ep:psE (EV S K (some (.own st2)) N M o5 o6 o7 o8 o9 o10 o11 Q R)=.ok (.tup [.lst (lp ps),.lst (lp os)],EV S K (some (.own st4)) N M o5 o6 o7 o8 o9 o10 o11 Q R):=by
   unfold psE
   exact zg1 (zev (zrl (ρ:=EV S K (some (.own st2)) N M o5 o6 o7 o8 o9 o10 o11 Q R) rfl rfl rfl e4) (zev (fr:=dA0) (zrl (ρ:=EV S K (some (.own st3)) N M o5 o6 o7 o8 o9 o10 o11 Q R) rfl rfl rfl e5) rfl)) (by simp)
  unfold zmG
  rw[ep]
  rfl
 obtain ⟨gs,st5,hs5,hg,e6⟩:=zgx (n:=n) h7 hs4
 have hgl:gs.length=n:=by rw[hg.length_eq,zbb]
 obtain ⟨t,st6,hs6,ht,e7⟩:=zhM 8 gs (tz gs) st5 (.inl rfl) (by omega) (by omega) (by omega) (by omega) hs5
 obtain ⟨ks,st7,hs7,hk,e8⟩:=zgx (n:=m) m7 hs6
 have hkl:ks.length=m:=by rw[hk.length_eq,zbb]
 obtain ⟨o,st8,hs8,ho,e9⟩:=zhM 8 ks (tz ks) st7 (.inl rfl) (by omega) (by omega) (by omega) (by omega) hs7
 let T:Option B:=some (.val (toD t))
 let Ot:Option B:=some (.val (toD o))
 have x4:zmG tsE (zeo 7 8) (EV S K (some (.own st4)) N M P O o7 o8 o9 o10 o11 Q R)=.ok (.nx,EV S K (some (.own st8)) N M P O T Ot o9 o10 o11 Q R):=by
  have ep:tsE (EV S K (some (.own st4)) N M P O o7 o8 o9 o10 o11 Q R)=.ok (.tup [toD t,toD o],EV S K (some (.own st8)) N M P O o7 o8 o9 o10 o11 Q R):=by
   unfold tsE
   have c1:zad zaW (dRO 2 (dR (zab 3) dR0)) (EV S K (some (.own st4)) N M P O o7 o8 o9 o10 o11 Q R)=.ok (tz gs,EV S K (some (.own st5)) N M P O o7 o8 o9 o10 o11 Q R):=zjB (ρ:=EV S K (some (.own st4)) N M P O o7 o8 o9 o10 o11 Q R) rfl rfl e6
   have c2:zad (zaK 8) (dRO 2 (dR (zad zaW (dRO 2 (dR (zab 3) dR0))) dR0)) (EV S K (some (.own st4)) N M P O o7 o8 o9 o10 o11 Q R)=.ok (toD t,EV S K (some (.own st6)) N M P O o7 o8 o9 o10 o11 Q R):=zrb (b0:=.own st4) rfl c1 rfl e7
   have c3:zad zaW (dRO 2 (dR (zab 4) dR0)) (EV S K (some (.own st6)) N M P O o7 o8 o9 o10 o11 Q R)=.ok (tz ks,EV S K (some (.own st7)) N M P O o7 o8 o9 o10 o11 Q R):=zjB (ρ:=EV S K (some (.own st6)) N M P O o7 o8 o9 o10 o11 Q R) rfl rfl e8
   have c4:zad (zaK 8) (dRO 2 (dR (zad zaW (dRO 2 (dR (zab 4) dR0))) dR0)) (EV S K (some (.own st6)) N M P O o7 o8 o9 o10 o11 Q R)=.ok (toD o,EV S K (some (.own st8)) N M P O o7 o8 o9 o10 o11 Q R):=zrb (b0:=.own st6) rfl c3 rfl e9
   exact zg1 (zev c2 (zev (fr:=dA0) c4 rfl)) (by simp)
  unfold zmG
  rw[ep]
  rfl
 obtain ⟨a,st9,e10,hs9,a0,a1⟩:=zbr (m:=(n:Int)) hs8 (by omega) (by omega)
 have x5:zbf 9 (zad zae (dRO 2 (dR (zab 3) dR0))) (EV S K (some (.own st8)) N M P O T Ot o9 o10 o11 Q R)=.ok (.nx,EV S K (some (.own st9)) N M P O T Ot (vI a) o10 o11 Q R):=zbv (i:=9) (zjB (ρ:=EV S K (some (.own st8)) N M P O T Ot o9 o10 o11 Q R) rfl rfl e10) (by simp)
 obtain ⟨b10,b11,x6⟩:=zqe (S:=S) (K:=K) (X:=some (.own st9)) (o10:=o10) (o11:=o11) (Q:=Q) h1 h7 m1 m7 hps hl hos hol (TT.of hg ht) (TT.of hk ho) a0 a1
 obtain ⟨st10,e11⟩:=zpt (S:=S) (K:=K) (M:=M) (P:=P) (O:=O) (g:=vI a) (tu:=b10) (f:=b11) (Rr:=R) (tD:=toD t) (oD:=toD o) h1 h7 hs9
 refine ⟨some (.own st10),N,M,P,O,T,Ot,vI a,b10,b11,?_⟩
 unfold outer
 rw[zag x1,zag x2,zag x3,zag x4,zag x5,zag x6,zcn (zdL (b:=true) (zbn e11))]
 rfl
theorem zp9(ns:List Int):znf 11 zfb ze8 zkX ns:=by
 let S:Option B:=some (.val (.scr ns))
 let Q:Option B:=some (.tab zfb)
 let R:Option B:=some (.tab ze8)
 let ρ0:Ev:=EV S none none none none none none none none none none none Q R
 obtain ⟨j,hj,ej⟩ : ∃ j:Int,zeD j=true/\dFn ziT (dA (dC (.int 1)) (dA (dFn zgl (dA (dFn zbN (dA (zab 0) dA0)) (dA (dC (.int 8)) dA0))) dA0)) ρ0=.ok (.int j,ρ0):=by
  refine ⟨(if (if (8:Int)<ns.length then (8:Int) else ns.length) > 1 then (if (8:Int)<ns.length then (8:Int) else ns.length) else 1),?_,rfl⟩
  unfold zeD
  simp only[Bool.and_eq_true,decide_eq_true_eq]
  split <;> split <;> omega
 obtain ⟨ρ',⟨a1,a2,a3,a4,a5,a6,a7,a8,a9,a10,a11,rfl⟩,e⟩:=zjh (g:=zaM 1) (body:=outer) (ds:=zaI 0 j.toNat) (ρ:=ρ0)
  (I:=fun ρ=>∃ a1 a2 a3 a4 a5 a6 a7 a8 a9 a10 a11,ρ=EV S a1 a2 a3 a4 a5 a6 a7 a8 a9 a10 a11 Q R)
  (fun d hd ρ ⟨a1,a2,a3,a4,a5,a6,a7,a8,a9,a10,a11,hρ⟩=>by
   subst hρ
   obtain ⟨k,_,rfl⟩:=List.mem_map.mp hd
   obtain ⟨b2,b3,b4,b5,b6,b7,b8,b9,b10,b11,e⟩:=zno (R:=R) (S:=S) (K:=some (.val (.int k))) (o2:=a2) (o3:=a3) (o4:=a4) (o5:=a5) (o6:=a6) (o7:=a7) (o8:=a8) (o9:=a9) (o10:=a10) (o11:=a11) rfl rfl rfl
   refine ⟨EV S (some (.val (.int k))) a2 a3 a4 a5 a6 a7 a8 a9 a10 a11 Q R,_,?_,e,_,_,_,_,_,_,_,_,_,_,_,rfl⟩
   rw[Int.zero_add]
   rfl) ⟨none,none,none,none,none,none,none,none,none,none,none,rfl⟩
 have x:zga (zbq (dFn ziT (dA (dC (.int 1)) (dA (dFn zgl (dA (dFn zbN (dA (zab 0) dA0)) (dA (dC (.int 8)) dA0))) dA0)))) (zaM 1) outer ρ0=.ok (.nx,EV S a1 a2 a3 a4 a5 a6 a7 a8 a9 a10 a11 Q R):=by
  unfold zga
  rw[zp1 ej,zlp hj]
  exact e
 refine ⟨EV S a1 a2 a3 a4 a5 a6 a7 a8 a9 a10 a11 Q R,?_⟩
 show zkX ρ0=_
 rw[zss,zag x]
 rfl
theorem at8{α:Type}{f g:Nat->α}(h:(List.range 8).map f=(List.range 8).map g):∀ n,n<8->f n=g n:=fun n hn=>List.map_inj_left.mp h n (List.mem_range.mpr hn)
theorem xc_of{K:W.Frag}{cls:Nat->Addr}(h:((List.range 8).map fun n=>(W.excIn K (cls n) bmV "ValueError.__new__",W.findIn K (.ref (cls n)) "__getattribute__",W.findIn K (.ref (cls n)) "__getattr__",W.findIn K (.ref (cls n)) "__class__",W.subIn K (.ref (cls n)) (.type "BaseException")))=(List.range 8).map fun _=>(true,some (some (.builtin "BaseException.__getattribute__")),some none,some (some (.builtin "object.__class__")),some true)):∀ n,n<8->Xin K (cls n):=fun n hn=>by
 have e:=at8 h n hn
 simp only[Prod.mk.injEq] at e
 exact ⟨e.1,e.2.1,e.2.2.1,e.2.2.2.1,e.2.2.2.2⟩
theorem xi_of{K:W.Frag}{cls:Nat->Addr}(h:((List.range 8).map fun n=>(List.range 8).map fun k=>W.kitOne K (.ref (cls n)) (.ref (cls k)))=(List.range 8).map fun n=>(List.range 8).map fun k=>some (n == k)):∀ n k,n<8->k<8->W.kitOne K (.ref (cls n)) (.ref (cls k))=some (n == k):=fun n k hn hk=>at8 (at8 h n hn) k hk
abbrev c8(a b c d e f g h:Addr):Nat->Addr:=fun n=>match n with|0=>a|1=>b|2=>c|3=>d|4=>e|5=>f|6=>g|_=>h
section
variable{K:W.Frag}{h:Heap}{mg:Str->Option Value}(X:K.In h)(G:h.Ns mainGlobals mg)
include X G in
theorem fe{x:String}{i:Nat}{f:Addr}{od an:Option Addr}{sl:Array (Option Value)}{oc kV dc pm cd ct:Value}(a:W.nsIn K mainGlobals (Str.ofString x)=some (some (.ref f)))(l:K.lookup f=some ⟨oc,od,.func (W.fnOf (Str.ofString x) (Str.ofString x) (zeM (top i)) (zck (top i)) (zak (top i)) .none kV dc pm an cd ct),sl⟩)(c:W.codeIn K cd (Str.ofString x)=true)(k:W.keepIn K (.ref f)=true):Uf K mg x i:=⟨_,_,zoy (st:=top i) l c k,W.mg_of X G a⟩
include X G in
theorem xs_of{CS:Addr}{x:Str}{cls:Nat->Addr}(m:W.nsIn K mainGlobals x=some (some (.ref CS)))(i:Xin K CS)(s:∀ n,n<8->W.subIn K (.ref (cls n)) (.ref CS)=some true):∃ Cs,Xin K Cs/\mg x=some (.ref Cs)/\∀ n,n<8->W.subIn K (.ref (cls n)) (.ref Cs)=some true:=⟨_,i,W.mg_of X G m,s⟩
include X G in
theorem ct{x:Str}{i:Int}{t:Tok}(m:W.nsIn K mainGlobals x=some (some (.int i t))):∃ t,mg x=some (.int i t):=⟨_,W.mg_of X G m⟩
include X G in
theorem fin{l:W.OpenLaw}{w:World}{fa f g cL PT cM QT:Addr}{C0 C1 C2 C3 C4 C5 C6 C7:Addr}(hfa:mg "law"=some (.ref fa)){od an oe ao:Option Addr}{sl sm:Array (Option Value)}{oc kV dc pm ct o2 k2 d2 p2 c2:Value}(T:Tx K mg (c8 C0 C1 C2 C3 C4 C5 C6 C7))
  (a:W.nsIn K mainGlobals (Str.ofString "_law_refusals_right")=some (some (.ref f))) (la:K.lookup f=some ⟨oc,od,.func (W.fnOf (Str.ofString "_law_refusals_right") (Str.ofString "_law_refusals_right") (zeM (top 49)) (zck (top 49)) (zak (top 49)) .none kV dc pm an (.ref cL) ct),sl⟩) (ca:W.codeIn K (.ref cL) (Str.ofString "_law_refusals_right")=true) (ka:W.keepIn K (.ref f)=true)
  (b:W.nsIn K mainGlobals (Str.ofString "law")=some (some (.ref g))) (lb:K.lookup g=some ⟨o2,oe,.func (W.fnOf (Str.ofString "law") (Str.ofString "law") (zeM (top 50)) (zck (top 50)) (zak (top 50)) .none k2 d2 p2 ao (.ref cM) c2),sm⟩) (cb:W.codeIn K (.ref cM) (Str.ofString "law")=true) (kb:W.keepIn K (.ref g)=true)
  (ch:W.codeHdIn K cL PT=true) (ch2:W.codeHdIn K cM QT=true) (hPQ:PT≠QT) :
  ∃(fd:FuncData)(cL cM:Addr),(∀(s:Shared)(v:Value),BindsTo s fd ⟨[v],[]⟩ [("script",v)])/\W.codeHdIn K cL PT=true/\W.codeHdIn K cM QT=true/\∀ base:Heap,K.In base->base.Ns mainGlobals mg->base.BuiltinsAt mg PT->base.BuiltinsAt mg QT->zfC l.prog w K mg base (CXe l.prog w) 41 fa fd ["script"] (ztR K PT QT (znf 11 zfb ze8 zkX)):=by
 have e:=hfa.symm.trans (W.mg_of X G b)
 cases e
 exact ⟨W.fnOf "law" "law" (zeM (top 50)) (zck (top 50)) (zak (top 50)) .none k2 d2 p2 ao (.ref cM) c2,cL,cM,fun s v=>.of_eq rfl,ch,ch2,fun base hK _ hb hbQ=>zvr T hPQ rfl ch2 hbQ hK (zoy (st:=top 50) lb cb kb) (ze3 T (zoy (st:=top 49) la ca ka) (W.mg_of X G a) rfl ch hb hK)⟩
end
theorem walk{l:W.OpenLaw}{q:Program}{loose:List Str}{XP:(Str->Option Value)->Heap->Prop}{YP:World->Heap->Prop}{d:DefRec}{K:Params->W.Frag}{PT QT:Addr}(hn:l.most=some 63)(hdf:d.params.defaults=[])
  (hY:∀(w:World)(h:Heap),YP w h->(K w.params).In h) (hYT:∀(w:World)(h:Heap),YP w h->h.get? PT=some (W.tabObj #[])) (hYQ:∀(w:World)(h:Heap),YP w h->h.get? QT=some (W.tabObj #[])) (hPQ:PT≠QT) (hnt:∀ w:World,W.noTabs (K w.params)=true)
  (F:∀(w:World)(mg:Str->Option Value)(fa:Addr)(h:Heap),(K w.params).In h->h.Ns mainGlobals mg->mg d.name=some (.ref fa) ->
   ∃(fd:FuncData)(cL cM:Addr),(∀(s:Shared)(u:Value),BindsTo s fd ⟨[u],[]⟩ [("script",u)])/\W.codeHdIn (K w.params) cL PT=true/\W.codeHdIn (K w.params) cM QT=true/\∀ base:Heap,(K w.params).In base->base.Ns mainGlobals mg->base.BuiltinsAt mg PT->base.BuiltinsAt mg QT->zfC l.prog w (K w.params) mg base (CXe l.prog w) 41 fa fd ["script"] (ztR (K w.params) PT QT (znf 11 zfb ze8 zkX))) :
  W.WalkO q loose XP YP l.row.toRowW d [] (fun f vs=>PySem.call f vs) :=
 zoN (n:=63) (k:=41) (x:="script") (CX:=fun w=>CXe l.prog w) (sp:=fun w=>ztR (K w.params) PT QT (znf 11 zfb ze8 zkX)) hPQ hn (by decide) hdf ⟨rfl,by decide,by decide⟩ hY hYT hYQ hnt F (fun w H a ns hl hP hQ hS=>⟨a,ns,rfl,hS,hP,hQ,zp9 ns,fun _=>rfl⟩) fun _ _ _ _ _ z=>CXe.none z
end Lw
def PySem.W.Fast.tw15752041307270649077:=0
def PySem.W.Fast.tw922861820684753059:=0
def PySem.W.Fast.tw8606782870006158198:=0
def PySem.W.Fast.tw4486675468159860062:=0
def PySem.W.Fast.tw586761762123660807:=0
def PySem.W.Fast.tw767746020625413550:=0
def PySem.W.Fast.tw9064874637811552119:=0
def PySem.W.Fast.tw4072954366036729626:=0
def PySem.W.Fast.tw2234977547203418301:=0
def PySem.W.Fast.tw10753226644904553271:=0
def PySem.W.Fast.tw5351237851040597944:=0
def PySem.W.Fast.tw17339810120115542265:=0
def PySem.W.Fast.tw4729193301582535196:=0
def PySem.W.Fast.tw17447691866654767459:=0
def PySem.W.Fast.tw5923527324070149730:=0
def PySem.W.Fast.tw12537438883096940165:=0
open PySem PySem.W PyProof.Rows
set_option maxRecDepth 100000 in
set_option maxHeartbeats 0 in
theorem PySem.Challenge.cw_standtogether_k61_benches_put_in_holds : PySem.Challenge.rw_standtogether_k61_benches_put_in.Holds := by
  w_on; o_law; k_head; (case hw => w_witness2)
  k_fill
  refine Lw.walk (l := PySem.Challenge.rw_standtogether_k61_benches_put_in) rfl rfl (fun w h Y => PySem.W.km_in_of Y) (fun w h Y => PySem.W.km_tabs_of Y _ List.mem_cons_self) (fun w h Y => PySem.W.km_tabs_of Y _ (List.mem_cons_of_mem _ List.mem_cons_self)) (by decide) (fun w => by kernel_rfl) ?F
  case F =>
    intro w mg fa h KX G hmg
    refine' Lw.fin KX G hmg ⟨Lw.xc_of ?_,PySem.W.mg_of KX G ?x0,PySem.W.mg_of KX G ?x1,PySem.W.mg_of KX G ?x2,PySem.W.mg_of KX G ?x3,PySem.W.mg_of KX G ?x4,PySem.W.mg_of KX G ?x5,PySem.W.mg_of KX G ?x6,
     PySem.W.mg_of KX G ?x7,Lw.xs_of KX G ?x8 ⟨?_,?_,?_,?_,?_⟩ (Lw.at8 ?_),Lw.xi_of ?_,Lw.at8 ?_,Lw.fe KX G ?_ ?_ ?_ ?_,Lw.fe KX G ?_ ?_ ?_ ?_,Lw.fe KX G ?_ ?_ ?_ ?_,Lw.fe KX G ?_ ?_ ?_ ?_,
     Lw.fe KX G ?_ ?_ ?_ ?_,Lw.fe KX G ?_ ?_ ?_ ?_,Lw.fe KX G ?_ ?_ ?_ ?_,Lw.fe KX G ?_ ?_ ?_ ?_,Lw.fe KX G ?_ ?_ ?_ ?_,Lw.fe KX G ?_ ?_ ?_ ?_,Lw.fe KX G ?_ ?_ ?_ ?_,Lw.fe KX G ?_ ?_ ?_ ?_,
     Lw.fe KX G ?_ ?_ ?_ ?_,Lw.fe KX G ?_ ?_ ?_ ?_,Lw.fe KX G ?_ ?_ ?_ ?_,Lw.fe KX G ?_ ?_ ?_ ?_,Lw.fe KX G ?_ ?_ ?_ ?_,Lw.fe KX G ?_ ?_ ?_ ?_,Lw.fe KX G ?_ ?_ ?_ ?_,Lw.fe KX G ?_ ?_ ?_ ?_,
     Lw.fe KX G ?_ ?_ ?_ ?_,Lw.fe KX G ?_ ?_ ?_ ?_,Lw.fe KX G ?_ ?_ ?_ ?_,Lw.fe KX G ?_ ?_ ?_ ?_,Lw.fe KX G ?_ ?_ ?_ ?_,Lw.fe KX G ?_ ?_ ?_ ?_,Lw.fe KX G ?_ ?_ ?_ ?_,Lw.fe KX G ?_ ?_ ?_ ?_,
     Lw.fe KX G ?_ ?_ ?_ ?_,Lw.fe KX G ?_ ?_ ?_ ?_,Lw.fe KX G ?_ ?_ ?_ ?_,Lw.fe KX G ?_ ?_ ?_ ?_,Lw.fe KX G ?_ ?_ ?_ ?_,Lw.fe KX G ?_ ?_ ?_ ?_,Lw.fe KX G ?_ ?_ ?_ ?_,PySem.W.mg_none_of KX G ?_,
     PySem.W.mg_none_of KX G ?_,PySem.W.mg_none_of KX G ?_,PySem.W.mg_none_of KX G ?_,PySem.W.mg_none_of KX G ?_,PySem.W.mg_none_of KX G ?_,PySem.W.mg_none_of KX G ?_,PySem.W.mg_none_of KX G ?_,PySem.W.mg_none_of KX G ?_,
     PySem.W.mg_none_of KX G ?_,PySem.W.mg_none_of KX G ?_,PySem.W.mg_none_of KX G ?_,PySem.W.mg_none_of KX G ?_,PySem.W.mg_none_of KX G ?_,Lw.ct KX G ?_,Lw.ct KX G ?_⟩ ?_ ?_ ?_ ?_ ?_ ?_ ?_ ?_ ?_ ?_ (by decide)
    (case x0|x1|x2|x3|x4|x5|x6|x7|x8 => k_is)
    all_goals try first | k_is | kernel_rfl
end
