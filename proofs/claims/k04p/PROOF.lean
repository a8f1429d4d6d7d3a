import PyProof.Rows.All
import Wide.All
import OpenK.AllK
import Wide.FinOn
import Lean
import PyProof.EqAt
import PyProof.EqKinds
import PyProof.TupleCall
import PySem.Challenge.RW_standtogether_k04_rows_of_trees
set_option Elab.async false
set_option linter.all false
set_option maxRecDepth 100000
set_option maxHeartbeats 4000000
section
namespace L2
open PySem PySem.Spec PyProof.Rows
abbrev Key:=Sum Int Str
def zsB:Key->Value->Bool
 |.inl k,v=>Value.isInt k v
 |.inr x,v=>Value.isStrOf x v
def keyH(w:World):Key->Int
 |.inl k=>hashInt k
 |.inr x=>hashStr w x
theorem zaX:∀{k:Key}{v:Value},zsB k v=true->(∃ i t,k=Sum.inl i/\v=Value.int i t)\/(∃ x t,k=Sum.inr x/\v=Value.str x t)
 |.inl i,v,h=>by
  obtain ⟨t,e⟩:=Value.isInt_shape (k:=i) (v:=v) h
  exact .inl ⟨i,t,rfl,e⟩
 |.inr x,v,h=>by
  obtain ⟨t,e⟩:=Value.isStrOf_shape (x:=x) (v:=v) h
  exact .inr ⟨x,t,rfl,e⟩
theorem zsp(a b:Int):decide ((Sum.inl a:Key)=Sum.inl b)=(a == b):=by
 by_cases e:a=b
 ·subst e;simp
 ·have h:¬ (Sum.inl a:Key)=Sum.inl b:=fun q=>e (Sum.inl.inj q)
  rw[decide_eq_false h]
  exact (beq_eq_false_iff_ne.mpr e).symm
theorem ztd(a b:Str):decide ((Sum.inr a:Key)=Sum.inr b)=decide (a=b):=by
 by_cases e:a=b
 ·subst e;simp
 ·have h:¬ (Sum.inr a:Key)=Sum.inr b:=fun q=>e (Sum.inr.inj q)
  rw[decide_eq_false h,decide_eq_false e]
theorem zrX(a:Int)(b:Str):decide ((Sum.inl a:Key)=Sum.inr b)=false:=decide_eq_false (fun q=>nomatch q)
theorem zs9(a:Str)(b:Int):decide ((Sum.inr a:Key)=Sum.inl b)=false:=decide_eq_false (fun q=>nomatch q)
def zm0(prog:Program)(w:World):PySem.KeyKind prog w Key where
 is:=zsB
 hash:=keyH w
 inj:=fun v a b ha hb=>by
  rcases zaX ha with ⟨i,t,rfl,rfl⟩|⟨x,t,rfl,rfl⟩
  ·rcases zaX hb with ⟨j,u,rfl,e⟩|⟨y,u,rfl,e⟩
   ·injection e with e1 _;rw[e1]
   ·exact nomatch e
  ·rcases zaX hb with ⟨j,u,rfl,e⟩|⟨y,u,rfl,e⟩
   ·exact nomatch e
   ·injection e with e1 _;rw[e1]
 byValue:=fun k v h=>by
  rcases zaX h with ⟨i,t,rfl,rfl⟩|⟨x,t,rfl,rfl⟩ <;> rfl
 pyHash:=fun hv h=>by
  rcases zaX hv with ⟨i,t,rfl,rfl⟩|⟨x,t,rfl,rfl⟩
  ·exact wpAny_pyHash_int h
  ·exact wpAny_pyHash_str h
 eqBool:=fun hu hv h=>by
  rcases zaX hu with ⟨i,t,rfl,rfl⟩|⟨x,t,rfl,rfl⟩
  ·rcases zaX hv with ⟨j,u,rfl,rfl⟩|⟨y,u,rfl,rfl⟩
   ·rw[zsp] at h;exact wpAny_eqBool_int h
   ·rw[zrX] at h;exact SeqAt.EqAt.int_str i t y u _ _ _ _ h
  ·rcases zaX hv with ⟨j,u,rfl,rfl⟩|⟨y,u,rfl,rfl⟩
   ·rw[zs9] at h;exact SeqAt.EqAt.str_int x t j u _ _ _ _ h
   ·rw[ztd] at h;exact wpAny_eqBool_str h
 «strs» := fun k x t v h=>by
  rcases zaX h with ⟨i,u,rfl,e⟩|⟨y,u,rfl,e⟩
  ·exact nomatch e
  ·injection e with e1 _
   subst e1
   cases v <;> rfl
end L2
namespace L2
open PySem PySem.Spec PyProof.Rows
inductive V where
 |non|bl (b:Bool)|int (i:Int)|str (x:Str)|byt (b:Array UInt8)|flt (b:UInt64)|ref (a:Addr)|ty (n:String)
 deriving DecidableEq
def zbD:V->Value->Prop
 |.non,u=>u=Value.none
 |.bl b,u=>u=Value.bool b
 |.int i,u=>∃ t,u=Value.int i t
 |.str x,u=>∃ t,u=Value.str x t
 |.byt b,u=>∃ t,u=Value.bytes b t
 |.flt b,u=>∃ t,u=Value.float b t
 |.ref a,u=>u=Value.ref a
 |.ty n,u=>u=Value.type n
abbrev zaM:List V->List Value->Prop:=Paired zbD
theorem zaM.length{xs:List V}{us:List Value}(r:zaM xs us):xs.length=us.length:=Paired.length r
theorem zaM.get:∀{xs:List V}{us:List Value}{i:Nat}{x:V},zaM xs us->xs[i]? = some x->∃ u,us[i]? = some u/\zbD x u
 |_,_,_,_,.nil,e=>by simp at e
 |_,_,0,_,.cons r _,e=>by simp at e;subst e;exact ⟨_,rfl,r⟩
 |_,_,i+1,x,.cons _ t,e=>by
  obtain ⟨u,h1,h2⟩:=zaM.get (i:=i) (x:=x) t (by simpa using e)
  exact ⟨u,by simpa using h1,h2⟩
theorem zaM.set{x:V}{u:Value}(r:zbD x u):∀{xs:List V}{us:List Value}(i:Nat),zaM xs us->zaM (xs.set i x) (us.set i u)
 |_,_,_,.nil=>.nil
 |_,_,0,.cons _ t=>.cons r t
 |_,_,i+1,.cons q t=>.cons q (zaM.set r i t)
theorem zaM.append:∀{xs ys:List V}{us ws:List Value},zaM xs us->zaM ys ws->zaM (xs++ys) (us++ws)
 |_,_,_,_,.nil,s=>s
 |_,_,_,_,.cons r t,s=>.cons r (zaM.append t s)
theorem zaM.take:∀{xs:List V}{us:List Value}(n:Nat),zaM xs us->zaM (xs.take n) (us.take n)
 |_,_,0,_=>.nil
 |_,_,_+1,.nil=>.nil
 |_,_,n+1,.cons r t=>.cons r (zaM.take n t)
theorem zaM.drop:∀{xs:List V}{us:List Value}(n:Nat),zaM xs us->zaM (xs.drop n) (us.drop n)
 |_,_,0,r=>r
 |_,_,_+1,.nil=>.nil
 |_,_,n+1,.cons _ t=>zaM.drop n t
def zrC:Option V->Option Value->Prop
 |some v,some u=>zbD v u
 |none,none=>True
 |_,_=>False
def KV{κ:Type}:List (κ×V)->List (κ×Value)->Prop:=Paired fun (p:κ×V) (q:κ×Value)=>p.1=q.1/\zbD p.2 q.2
def kV:Key->V
 |.inl i=>.int i
 |.inr x=>.str x
inductive HO where
  |lst (xs:List V)
  |tup (xs:List V)
  |dK (kvs:List (Key×V))|dT (kvs:List (List Key×V))
  |set (S:Int->Bool) (n:Nat)
  |ins (C dx:Addr) (fs:List (Str×V))
  |own (x:Addr)
  |xd (fs:List (Str×V))
  |met (f x:Addr)
  |rng (lo hi:Int)
  |frz (o:Obj) (u:HO)
  |tbl (ps:Array Value)
  |ext (φ : Heap->Prop)
abbrev Hp:=Addr->Option HO
def upd(H:Hp)(a:Addr)(o:HO):Hp:=fun b=>if b=a then some o else H b
theorem zah{H:Hp}{a:Addr}{o:HO}:upd H a o a=some o:=by unfold upd;rw[if_pos rfl]
theorem zae{H:Hp}{a b:Addr}{o:HO}(h:b≠a):upd H a o b=H b:=by unfold upd;rw[if_neg h]
theorem zaf{H:Hp}{a b:Addr}{o:HO}(h:H a=some o)(h':H b=none):a≠b:=by
 intro e;subst e;rw[h] at h';cases h'
section
variable(P:Program)(w:World)
def zcd(H:Hp)(h:Heap)(a:Addr):HO->Prop
 |.lst xs=>xs.length<=sizeLine/\∃(its:List Value)(n:Nat),zaM xs its/\h.get? a=some { cls:=.type "list",data:=.seq its.toArray n }
 |.tup xs=>xs.length<=sizeLine/\∃ its:List Value,zaM xs its/\∃ n,h.get? a=some { cls:=.type "tuple",data:=.seq its.toArray n }
 |.dK kvs=>kvs.length<=sizeLine/\(a == sysModules)=false/\∃ vs,KV kvs vs/\h.DictOf (zm0 P w) a vs
 |.dT kvs=>kvs.length<=sizeLine/\(a == sysModules)=false/\∃ xs:List (List Key×Addr×Value),
   Paired (fun (p:List Key×V) (q:List Key×Addr×Value)=>p.1=q.1/\H q.2.1=some (.tup (p.1.map kV))/\zbD p.2 q.2.2) kvs xs /\
   ∃ o es ep,h.get? a=some o/\o.ExactDict/\o.data=.dict es ep/\es.toList=xs.map (entryOfKey (tupleKind (zm0 P w)))/\(xs.map (·.1)).Nodup
 |.set S n=>h.SetOf (intKind P w) a S n
 |.ins C dx fs=>H dx=some (.own a)/\fs.length<=1000/\dx≠a/\h.get? a=some (W.instObj C dx) /\
   ∃ mA,h.Ns1 dx mA/\(∀ f,zrC (fs.lookup f) (mA f))/\PySem.Within mA (fs.map (·.1))
 |.own _=>∃ o,h.get? a=some o
 |.xd fs=>∃ mA,h.Ns1 a mA/\∀ f,zrC (fs.lookup f) (mA f)
 |.rng lo hi=>∃ t u v,h.get? a=some { cls:=.type "range",data:=.fields #[.int lo t,.int hi u,.int 1 v] }
 |.frz o u=>h.get? a=some o/\zcd H h a u
 |.tbl ps=>h.get? a=some { cls:=.none,data:=.fields ps }
 |.met f x=>h.get? a=some (W.methodObj (.ref f) (.ref x))
 |.ext φ => φ h/\(∃ o,h.get? a=some o)/\∀ h1 h2:Heap,φ h1->(∀ o,h1.get? a=some o->h2.get? a=some o)->φ h2
def HOk(H:Hp)(h:Heap):Prop:=∀ a o,H a=some o->zcd P w H h a o
end
section
variable{P:Program}{w:World}{H H':Hp}{h h':Heap}{a:Addr}{o:HO}
theorem zcd.lt(x:zcd P w H h a o):a<h.objs.size:=by
 cases o with
 |lst xs=>obtain ⟨_,_,_,_,e⟩:=x;exact Heap.lt_size e
 |tup xs=>obtain ⟨_,_,_,_,e⟩:=x;exact Heap.lt_size e
 |dK kvs=>obtain ⟨_,_,_,_,o,_,_,e,_⟩:=x;exact Heap.lt_size e
 |dT kvs=>obtain ⟨_,_,_,_,o,_,_,e,_⟩:=x;exact Heap.lt_size e
 |set S n=>obtain ⟨o,_,_,_,e,_⟩:=x;exact Heap.lt_size e
 |ins C dx fs=>obtain ⟨_,_,_,e,_⟩:=x;exact Heap.lt_size e
 |own y=>obtain ⟨_,e⟩:=x;exact Heap.lt_size e
 |xd fs=>obtain ⟨_,⟨_,_,_,e,_⟩,_⟩:=x;exact Heap.lt_size e
 |rng lo hi=>obtain ⟨_,_,_,e⟩:=x;exact Heap.lt_size e
 |frz ob u=>obtain ⟨e,_⟩:=x;exact Heap.lt_size e
 |tbl ps=>exact Heap.lt_size (show h.get? a=some _ from x)
 |met f y=>exact Heap.lt_size (show h.get? a=some _ from x)
 |ext φ => obtain ⟨_,⟨_,e⟩,_⟩:=x;exact Heap.lt_size e
theorem Paired.mapP{α β:Type}{F G:α->β->Prop}:∀{l₁:List α}{l₂:List β},Paired F l₁ l₂->(∀ a b,F a b->G a b)->Paired G l₁ l₂
 |_,_,.nil,_=>.nil
 |_,_,.cons r t,f=>.cons (f _ _ r) (Paired.mapP t f)
theorem zcd.stay(x:zcd P w H h a o)(k:∀ b u,(b=a\/H b=some (.own a))->h.get? b=some u->h'.get? b=some u)
  (ho:∀ b,H b=some (.own a)->H' b=some (.own a)) (ht:∀ b xs,H b=some (.tup xs)->H' b=some (.tup xs)):zcd P w H' h' a o:=by
 induction o with
 |lst xs=>obtain ⟨z,its,n,r,e⟩:=x;exact ⟨z,its,n,r,k _ _ (.inl rfl) e⟩
 |tup xs=>obtain ⟨z,its,r,n,e⟩:=x;exact ⟨z,its,r,n,k _ _ (.inl rfl) e⟩
 |dK kvs=>obtain ⟨z,y,vs,r,ob,es,ep,e,c⟩:=x;exact ⟨z,y,vs,r,ob,es,ep,k _ _ (.inl rfl) e,c⟩
 |dT kvs =>
  obtain ⟨z,y,xs,r,ob,es,ep,e,c⟩:=x
  exact ⟨z,y,xs,Paired.mapP r fun p q z=>⟨z.1,ht _ _ z.2.1,z.2.2⟩,ob,es,ep,k _ _ (.inl rfl) e,c⟩
 |set S n=>obtain ⟨ob,es,ep,t,e,c⟩:=x;exact ⟨ob,es,ep,t,k _ _ (.inl rfl) e,c⟩
 |ins C dx fs =>
  obtain ⟨d,z,ne,e,mA,⟨od,es,ep,e2,c⟩,r⟩:=x
  exact ⟨ho _ d,z,ne,k _ _ (.inl rfl) e,mA,⟨od,es,ep,k _ _ (.inr d) e2,c⟩,r⟩
 |own y=>obtain ⟨ob,e⟩:=x;exact ⟨ob,k _ _ (.inl rfl) e⟩
 |xd fs=>obtain ⟨mA,⟨od,es,ep,e,c⟩,r⟩:=x;exact ⟨mA,⟨od,es,ep,k _ _ (.inl rfl) e,c⟩,r⟩
 |rng lo hi=>obtain ⟨t,u,v,e⟩:=x;exact ⟨t,u,v,k _ _ (.inl rfl) e⟩
 |frz ob u ih=>obtain ⟨e,q⟩:=x;exact ⟨k _ _ (.inl rfl) e,ih q⟩
 |tbl ps =>
  have e:h.get? a=some { cls:=.none,data:=.fields ps }:=x
  show h'.get? a=some { cls:=.none,data:=.fields ps }
  exact k a _ (.inl rfl) e
 |met f y =>
  have e:h.get? a=some (W.methodObj (.ref f) (.ref y)):=x
  show h'.get? a=some (W.methodObj (.ref f) (.ref y))
  exact k a _ (.inl rfl) e
 |ext φ => obtain ⟨p,⟨o,e⟩,st⟩:=x;exact ⟨st _ _ p fun o q=>k _ _ (.inl rfl) q,⟨o,k _ _ (.inl rfl) e⟩,st⟩
theorem HOk.lt(x:HOk P w H h)(e:H a=some o):a<h.objs.size:=(x a o e).lt
theorem HOk.fresh(x:HOk P w H h)(e:h.objs.size<=a):H a=none:=by
 cases q:H a with
 |none=>rfl
 |some u=>exact absurd (Nat.lt_of_lt_of_le (x.lt q) e) (Nat.lt_irrefl _)
theorem HOk.kept(x:HOk P w H h)(k:∀ b u,h.get? b=some u->h'.get? b=some u):HOk P w H h':=fun a o e =>
 (x a o e).stay (fun b u _ q=>k b u q) (fun _ q=>q) fun _ _ q=>q
theorem HOk.laid(x:HOk P w H h)(k:∀ b u,h.get? b=some u->h'.get? b=some u)(hp:h.objs.size<=a)(new:zcd P w (upd H a o) h' a o):HOk P w (upd H a o) h':=fun b u e=>by
 have hn:=x.fresh hp
 by_cases hb:b=a
 ·subst hb;rw[zah] at e;cases e;exact new
 ·rw[zae hb] at e
  exact (x b u e).stay (fun c v _ q=>k c v q) (fun c q=>by rw[zae (zaf q hn)];exact q) fun c xs q=>by rw[zae (zaf q hn)];exact q
end
def Rd(H:Hp)(a:Addr)(u:HO):Prop:=H a=some u\/∃ o,H a=some (.frz o u)
theorem Rd.of{H:Hp}{a:Addr}{u:HO}(h:H a=some u):Rd H a u:=.inl h
theorem Rd.ok{P:Program}{w:World}{H:Hp}{h:Heap}{a:Addr}{u:HO}(r:Rd H a u)(x:HOk P w H h):zcd P w H h a u:=by
 rcases r with r|⟨o,r⟩
 ·exact x a u r
 ·obtain ⟨_,q⟩:=x a _ r
  exact q
def Mut:Option HO->Prop
 |some (.lst _)=>True
 |some (.dK _)=>True
 |some (.dT _)=>True
 |some (.set _ _)=>True
 |some (.ins _ _ _)=>True
 |some (.ext _)=>True
 |_=>False
section
variable{P:Program}{w:World}{H:Hp}{h h':Heap}{x e:Addr}{o':HO}
theorem HOk.write(ok:HOk P w H h)(mu:Mut (H x))(he:e=x\/H e=some (.own x))(k:∀ b u,b≠e->h.get? b=some u->h'.get? b=some u)(heo:∃ u,h'.get? e=some u)
  (new:zcd P w (upd H x o') h' x o'):HOk P w (upd H x o') h':=fun b u q=>by
 have nown:∀ c y,H c=some (.own y)->c≠x:=fun c y r z=>by subst z;rw[r] at mu;exact mu
 have ntup:∀ c xs,H c=some (.tup xs)->c≠x:=fun c xs r z=>by subst z;rw[r] at mu;exact mu
 by_cases hb:b=x
 ·subst hb;rw[zah] at q;cases q;exact new
 ·rw[zae hb] at q
  by_cases hbe:b=e
  ·have q':H b=some (.own x):=by
    rcases he with z|z
    ·exact absurd (hbe.trans z) hb
    ·rw[hbe];exact z
   rw[q] at q';cases q'
   obtain ⟨v,hv⟩:=heo
   exact ⟨v,by rw[hbe];exact hv⟩
  ·refine (ok b u q).stay (fun c v hc r=>k c v ?_ r) (fun c r=>by rw[zae (nown c b r)];exact r) fun c xs r=>by rw[zae (ntup c xs r)];exact r
   rcases hc with rfl|hc
   ·exact hbe
   ·rintro rfl
    rcases he with z|z
    ·exact nown c b hc z
    ·rw[hc] at z;cases z;exact hb rfl
end
structure Un(fs ex:List Addr)(H H':Hp)(h h':Heap):Prop where
 keep:∀ b o,h.get? b=some o->H b=none->b∉fs->b∉ex->h'.get? b=some o
 slot:∀ b o,h.get? b=some o->H b=none->b∈fs->b∉ex->∃ sl,h'.get? b=some { o with slots:=sl }
 free:∀ b o,h.get? b=some o->H b=none->b∉ex->H' b=none
 there:∀ b o,h.get? b=some o->b∉ex->∃ o',h'.get? b=some o'
 tups:∀ b xs,H b=some (.tup xs)->H' b=some (.tup xs)
 frzs:∀ b o u,H b=some (.frz o u)->H' b=some (.frz o u)
 tbls:∀ b ps,H b=some (.tbl ps)->∃ more,H' b=some (.tbl (ps++more))
section
variable{fs fs' ex ex':List Addr}{H H1 H2:Hp}{h h1 h2 h':Heap}{a x e:Addr}{o:HO}
theorem Un.any(u:Un fs ex H H1 h h1){b:Addr}{ob:Obj}(q:h.get? b=some ob)(n:H b=none)(hx:b∉ex):∃ sl,h1.get? b=some { ob with slots:=sl }:=by
 by_cases hb:b∈fs
 ·exact u.slot b ob q n hb hx
 ·exact ⟨ob.slots,u.keep b ob q n hb hx⟩
theorem Un.trans(a:Un fs ex H H1 h h1)(b:Un fs ex H1 H2 h1 h2):Un fs ex H H2 h h2 where
 keep:=fun c ob q n hc hx=>b.keep c ob (a.keep c ob q n hc hx) (a.free c ob q n hx) hc hx
 slot:=fun c ob q n hc hx=>by
  obtain ⟨sl,e1⟩:=a.slot c ob q n hc hx
  obtain ⟨sl',e2⟩:=b.slot c _ e1 (a.free c ob q n hx) hc hx
  exact ⟨sl',e2⟩
 free:=fun c ob q n hx=>by
  obtain ⟨o',e1⟩:=a.there c ob q hx
  exact b.free c o' e1 (a.free c ob q n hx) hx
 there:=fun c ob q hx=>by
  obtain ⟨o',e1⟩:=a.there c ob q hx
  exact b.there c o' e1 hx
 tups:=fun c xs q=>b.tups c xs (a.tups c xs q)
 frzs:=fun c ob xs q=>b.frzs c ob xs (a.frzs c ob xs q)
 tbls:=fun c ps q=>by
  obtain ⟨m1,e1⟩:=a.tbls c ps q
  obtain ⟨m2,e2⟩:=b.tbls c _ e1
  exact ⟨m1++m2,by rw[e2,Array.append_assoc]⟩
theorem Un.kept(k:∀ b u,h.get? b=some u->h'.get? b=some u):Un fs ex H H h h' :=
 ⟨fun b ob q _ _ _=>k b ob q,fun b ob q _ _ _=>⟨ob.slots,k b ob q⟩,fun _ _ _ n _=>n,fun b ob q _=>⟨ob,k b ob q⟩,fun _ _ q=>q,fun _ _ _ q=>q,fun _ ps q=>⟨#[],by rw[q];simp⟩⟩
theorem Un.refl:Un fs ex H H h h:=Un.kept fun _ _ q=>q
theorem Un.laid(k:∀ b u,h.get? b=some u->h'.get? b=some u)(hp:h.objs.size<=a)(hn:H a=none):Un fs ex H (upd H a o) h h' where
 keep:=fun b u q _ _ _=>k b u q
 slot:=fun b u q _ _ _=>⟨u.slots,k b u q⟩
 free:=fun b u q n _=>by rw[zae (Nat.ne_of_lt (Nat.lt_of_lt_of_le (Heap.lt_size q) hp))];exact n
 there:=fun b u q _=>⟨u,k b u q⟩
 tups:=fun b xs q=>by rw[zae (zaf q hn)];exact q
 frzs:=fun b u xs q=>by rw[zae (zaf q hn)];exact q
 tbls:=fun b ps q=>⟨#[],by rw[zae (zaf q hn),q];simp⟩
theorem Un.write(mu:Mut (H x))(he:e=x\/H e=some (.own x))(k:∀ b u,b≠e->h.get? b=some u->h'.get? b=some u)(heo:∃ u,h'.get? e=some u):Un fs ex H (upd H x o) h h':=by
 have hx:∀ b,H b=none->b≠x:=fun b n z=>by subst z;rw[n] at mu;exact mu
 have hb:∀ b,H b=none->b≠e:=fun b n z=>by
  subst z
  rcases he with r|r
  ·exact hx b n r
  ·rw[n] at r;cases r
 have hm:∀ b u,H b=some u->¬ Mut (some u)->b≠x:=fun b u q nm z=>by subst z;rw[q] at mu;exact nm mu
 refine ⟨fun b u q n _ _=>k b u (hb b n) q,fun b u q n _ _=>⟨u.slots,k b u (hb b n) q⟩,fun b u q n _=>by rw[zae (hx b n)];exact n,fun b u q _=>?_,
  fun b xs q=>by rw[zae (hm b _ q fun z=>z)];exact q,fun b u xs q=>by rw[zae (hm b _ q fun z=>z)];exact q,fun b ps q=>⟨#[],by rw[zae (hm b _ q fun z=>z),q];simp⟩⟩
 by_cases hbe:b=e
 ·subst hbe;exact heo
 ·exact ⟨u,k b u hbe q⟩
theorem Un.mono(u:Un fs ex H H1 h h1)(hs:∀ b∈fs,b∈fs')(hx:∀ b∈ex,b∈ex'):Un fs' ex' H H1 h h1 :=
 ⟨fun b ob q n hb he=>u.keep b ob q n (fun z=>hb (hs b z)) fun z=>he (hx b z),fun _ _ q n _ he=>u.any q n fun z=>he (hx _ z),fun b ob q n he=>u.free b ob q n fun z=>he (hx b z),fun b ob q he=>u.there b ob q fun z=>he (hx b z),u.tups,u.frzs,u.tbls⟩
end
def trk(h:Heap)(H:Hp):List Addr:=(List.range h.objs.size).filter fun a=>(H a).isSome
def zn8(h:Heap)(H:Hp):Heap:=W.hideAll h (trk h H)
theorem zmA(h:Heap)(H:Hp):(zn8 h H).objs.size=h.objs.size:=W.hideAll_size _ _
theorem zo0{h:Heap}{H:Hp}{b:Addr}{o:Obj}(e:h.get? b=some o)(n:H b=none):(zn8 h H).get? b=some o :=
 W.hideAll_get _ e fun hm=>by
  have q:(H b).isSome=true:=(List.mem_filter.mp hm).2
  rw[n] at q;simp at q
theorem zqw{h:Heap}{H:Hp}{b:Addr}{o:Obj}(e:(zn8 h H).get? b=some o):h.get? b=some o/\H b=none:=by
 have e':h.get? b=some o:=W.of_hideAll (trk h H) e
 refine ⟨e',?_⟩
 cases q:H b with
 |none=>rfl
 |some x =>
  have hm:b∈trk h H:=List.mem_filter.mpr ⟨List.mem_range.mpr (Heap.lt_size e'),by simp[q]⟩
  have z:(zn8 h H).get? b=none:=W.hideAll_none (trk h H) hm
  rw[z] at e;cases e
def zqV(g h:Heap)(L:Addr):List (Addr×Obj):=(List.range h.objs.size).filterMap fun a=>if a=L\/(g.get? a).isSome=true then none else (h.get? a).map fun o=>(a,o)
def zbm(g h:Heap)(L d:Addr):List (Addr×Obj):=(zqV g h L).filter fun p=>decide (p.1≠d)
end L2
namespace L2
open PySem PySem.Spec PyProof.Rows
structure Mod(K:W.Frag)(mg:Str->Option Value)(base:Heap):Prop where
 kin:K.In base
 glob:base.Ns mainGlobals mg
 blt:∃ mb,base.Ns builtinsNs mb/\∀ x:Str,x≠"__name__"->mb x=bootBuiltins x
 nolimit:base.NoLimit
structure Cx where
 prog:Program
 w:World
 K:W.Frag
 mg:Str->Option Value
 base:Heap
 A:Around
 N:List Str
 s₀:Shared
 H₀:Hp
 env:Env
 outer:List Env
 stack:List Env
 ex:List Addr
 fn:Str->Bool
 calm:Bool
 pn:List (Addr×Obj)
 xe:Value->Shared->Prop
def frs(l:List Env):List Addr:=l.filterMap (·.frame)
abbrev Cx.fs(X:Cx):List Addr:=frs X.outer
def Vis(sc:Scope)(x:Str):Prop:=sc.names.lookup x=some .local\/sc.names.lookup x=some .cell\/sc.names.lookup x=some .free
def Loc(sc:Scope)(x:Str):Prop:=sc.names.lookup x=some .local\/sc.names.lookup x=some .cell
def Look(env:Env)(h:Heap)(m:Str->Option Value)(x:Str)(u:Value):Prop :=
 (env.kindOf x=some .local/\m x=some u)\/((env.kindOf x=some .cell\/env.kindOf x=some .free)/\∃ c,env.cells.lookup x=some c/\h.IsCell c (some u))
structure Cx.Ok(X:Cx):Prop where
 mod:Mod X.K X.mg X.base
 kind:X.env.scope.kind=.function
 glob:X.env.globals=mainGlobals
 blt:X.env.builtins=builtinsNs
 above:X.s₀.heap.objs.size<=X.env.locals
 inj:∀ x y c,X.env.cells.lookup x=some c->X.env.cells.lookup y=some c->x=y
 has:∀ x,(X.env.kindOf x=some .cell\/X.env.kindOf x=some .free)->∃ c,X.env.cells.lookup x=some c
 cab:∀ x c,X.fn x=true->X.env.cells.lookup x=some c->X.s₀.heap.objs.size<=c
 hd:X.calm=true->X.A.handled=none
 frames:X.A.frames=some X.stack
 stk:X.stack=X.outer\/(X.stack=X.env::X.outer/\X.env.frame=some X.env.locals)
 exf:∀ b∈X.ex,b≠X.env.locals/\∀ x c,X.env.cells.lookup x=some c->c≠b
 bs:∀ b o,X.base.get? b=some o->X.s₀.heap.get? b=some o/\X.H₀ b=none
 bsz:X.base.objs.size<=X.s₀.heap.objs.size
 noex:∀ b o,X.base.get? b=some o->b∉X.ex
 exfs:∀ b∈X.ex,b∉X.fs
 funs:X.s₀.heap.FunFrames X.base X.outer
 frf:∀ b∈X.fs,X.H₀ b=none
structure Inv(X:Cx)(pins:List (Addr×Obj))(σ:List (Option V))(H:Hp)(s:Shared):Prop where
 ok:X.Ok
 os:s.os=X.s₀.os
 bare:AllBare s.gens
 base:Un X.fs X.ex X.H₀ H X.s₀.heap s.heap
 loc:∃ m,s.heap.Ns X.env.locals m/\∀(i:Nat)(x:Str)(v:V),X.N[i]? = some x->σ[i]? = some (some v)->Vis X.env.scope x->∃ u,zbD v u/\Look X.env s.heap m x u
 cell:∀ x c,X.env.cells.lookup x=some c->∃ v,s.heap.IsCell c v
 free:H X.env.locals=none
 freeC:∀ x c,X.env.cells.lookup x=some c->H c=none
 pin:∀ p∈X.pn++pins,s.heap.get? p.1=some p.2/\H p.1=none/\p.1≠X.env.locals/\p.1∉X.fs/\∀ v,p.2.data≠.cell v
 hok:HOk X.prog X.w H s.heap
 len:σ.length=X.N.length
section
variable{X:Cx}{pins:List (Addr×Obj)}{σ:List (Option V)}{H H':Hp}{s:Shared}{h':Heap}
theorem Cx.Ok.nofr(ok:X.Ok){b:Addr}{o:Obj}(e:X.base.get? b=some o):b∉X.fs:=fun hb=>by
 have:=(ok.funs.mem hb).1
 rw[e] at this;cases this
theorem Inv.bs(I:Inv X pins σ H s):∀ b o,X.base.get? b=some o->s.heap.get? b=some o/\H b=none:=fun b o e =>
 ⟨I.base.keep b o (I.ok.bs b o e).1 (I.ok.bs b o e).2 (I.ok.nofr e) (I.ok.noex b o e),I.base.free b o (I.ok.bs b o e).1 (I.ok.bs b o e).2 (I.ok.noex b o e)⟩
theorem Inv.bk(I:Inv X pins σ H s):∀ b o,X.base.get? b=some o->s.heap.get? b=some o:=fun b o e=>(I.bs b o e).1
theorem Inv.mod(I:Inv X pins σ H s):Mod X.K X.mg X.base:=I.ok.mod
theorem Inv.kIn(I:Inv X pins σ H s):X.K.In s.heap:=I.ok.mod.kin.keeps I.bk
theorem Inv.nolimit(I:Inv X pins σ H s):s.heap.NoLimit:=I.ok.mod.nolimit.keeps I.bk
theorem Inv.fr(I:Inv X pins σ H s):∃ m,Fr X.base X.env.locals s.heap m :=
 let ⟨m,hn,_⟩:=I.loc
 ⟨m,hn,I.bk,Nat.le_trans I.ok.bsz I.ok.above⟩
theorem Inv.lt(I:Inv X pins σ H s):X.env.locals<s.heap.objs.size:=let ⟨_,hn,_⟩:=I.loc;hn.lt
theorem Inv.sz(I:Inv X pins σ H s):X.s₀.heap.objs.size<=s.heap.objs.size:=Nat.le_trans I.ok.above (Nat.le_of_lt I.lt)
theorem Inv.nofs(I:Inv X pins σ H s){a:Addr}(h:s.heap.objs.size<=a):a∉X.fs:=fun hb=>by
 obtain ⟨_,o,ho,_⟩:=I.ok.funs.mem hb
 exact absurd (Nat.lt_of_lt_of_le (Heap.lt_size ho) (Nat.le_trans I.sz h)) (Nat.lt_irrefl _)
theorem Inv.cne(I:Inv X pins σ H s):∀ x c,X.env.cells.lookup x=some c->c≠X.env.locals:=fun x c e z=>by
 obtain ⟨v,o,ho,hd⟩:=I.cell x c e
 obtain ⟨m,⟨o',es,ep,ho',hd',_⟩,_⟩:=I.loc
 rw[z,ho'] at ho;cases ho;rw[hd'] at hd;cases hd
theorem Inv.funs(I:Inv X pins σ H s):s.heap.FunFrames X.base X.outer:=by
 have all:∀(l:List Env),(∀ b∈frs l,b∈X.fs)->X.s₀.heap.FunFrames X.base l->s.heap.FunFrames X.base l:=by
  intro l
  induction l with
  |nil=>intro _ _;trivial
  |cons env r ih =>
   intro hs hl
   obtain ⟨hk,⟨L,o,hf,hn,ho,hd⟩,hr⟩:=hl
   have hL:L∈X.fs:=hs L (by unfold frs;rw[List.filterMap_cons,hf];exact List.mem_cons_self)
   obtain ⟨sl,e⟩:=I.base.slot L o ho (I.ok.frf L hL) hL fun z=>I.ok.exfs L z hL
   exact ⟨hk,⟨L,_,hf,hn,e,hd⟩,ih (fun b hb=>hs b (by unfold frs;rw[List.filterMap_cons,hf];exact List.mem_cons_of_mem _ hb)) hr⟩
 exact all X.outer (fun _ hb=>hb) I.ok.funs
theorem Inv.stack(I:Inv X pins σ H s):s.heap.FunFrames X.base X.stack:=by
 rcases I.ok.stk with e|⟨e,hf⟩
 ·rw[e];exact I.funs
 ·rw[e]
  obtain ⟨m,hn,_⟩:=I.loc
  refine .cons (by rw[I.ok.kind];decide) hf hn ?_ I.funs
  exact Heap.get?_none_of_le (Nat.le_trans I.ok.bsz I.ok.above)
theorem Inv.stkSub(I:Inv X pins σ H s):∀ b∈frs X.stack,b∈X.env.locals::X.fs:=fun b hb=>by
 rcases I.ok.stk with e|⟨e,hf⟩
 ·rw[e] at hb;exact List.mem_cons_of_mem _ hb
 ·rw[e] at hb
  unfold frs at hb
  rw[List.filterMap_cons,hf] at hb
  exact hb
theorem Inv.stkFree(I:Inv X pins σ H s):∀ b∈frs X.stack,H b=none:=fun b hb=>by
 rcases List.mem_cons.mp (I.stkSub b hb) with e|hb
 ·rw[e];exact I.free
 ·obtain ⟨_,o,ho,_⟩:=I.ok.funs.mem hb
  exact I.base.free b o ho (I.ok.frf b hb) fun z=>I.ok.exfs b z hb
theorem Inv.step{g':Array GenState}{t':Nat}{d':Drawn}{ch:List Addr}(I:Inv X pins σ H s)
  (hch:∀ b∈ch,(b∈X.ex\/X.s₀.heap.objs.size<=b)/\b≠X.env.locals/\(∀ x c,X.env.cells.lookup x=some c->c≠b)/\∀ p∈X.pn++pins,p.1≠b)
  (keep:∀ b o,b≠X.env.locals->b∉X.fs->b∉ch->s.heap.get? b=some o->H b=none->h'.get? b=some o)
  (slot:∀ b o,b≠X.env.locals->b∈X.fs->b∉ch->s.heap.get? b=some o->H b=none->∃ sl,h'.get? b=some { o with slots:=sl }) (free:∀ b o,b∉ch->s.heap.get? b=some o->H b=none->H' b=none)
  (there:∀ b o,b∉ch->s.heap.get? b=some o->∃ o',h'.get? b=some o')
  (tups:∀ b xs,H b=some (.tup xs)->H' b=some (.tup xs)) (frzs:∀ b o u,H b=some (.frz o u)->H' b=some (.frz o u)) (tbls:∀ b ps,H b=some (.tbl ps)->∃ more,H' b=some (.tbl (ps++more)))
  (ns:∀ m,s.heap.Ns X.env.locals m->h'.Ns X.env.locals m) (hok:HOk X.prog X.w H' h') (hg:AllBare g') :
  Inv X pins σ H' { s with heap:=h',gens:=g',drawn:=d',toks:=t' }:=by
 have neL:∀ b o,X.s₀.heap.get? b=some o->b≠X.env.locals:=fun b o e=>Nat.ne_of_lt (Nat.lt_of_lt_of_le (Heap.lt_size e) I.ok.above)
 have neC:∀ b o,X.s₀.heap.get? b=some o->b∉X.ex->b∉ch:=fun b o e hx hb=>by
  rcases (hch b hb).1 with z|z
  ·exact hx z
  ·exact absurd (Nat.lt_of_lt_of_le (Heap.lt_size e) z) (Nat.lt_irrefl _)
 have cellK:∀ x c,X.env.cells.lookup x=some c->∀ v,s.heap.IsCell c v->h'.IsCell c v:=fun x c e v ⟨o,ho,hd⟩=>by
  have nch:c∉ch:=fun z=>(hch c z).2.2.1 x c e rfl
  by_cases hc:c∈X.fs
  ·obtain ⟨sl,q⟩:=slot c o (I.cne x c e) hc nch ho (I.freeC x c e)
   exact ⟨_,q,hd⟩
  ·exact ⟨o,keep c o (I.cne x c e) hc nch ho (I.freeC x c e),hd⟩
 refine ⟨I.ok,I.os,hg,⟨fun b o e n hb hx=>?_,fun b o e n hb hx=>?_,fun b o e n hx=>?_,fun b o e hx=>?_,fun b xs e=>tups b xs (I.base.tups b xs e),fun b o xs e=>frzs b o xs (I.base.frzs b o xs e),fun b ps e=>?_⟩,?_,fun x c e=>?_,?_,fun x c e=>?_,fun p hp=>?_,hok,I.len⟩
 ·exact keep b o (neL b o e) hb (neC b o e hx) (I.base.keep b o e n hb hx) (I.base.free b o e n hx)
 ·obtain ⟨sl,e1⟩:=I.base.slot b o e n hb hx
  obtain ⟨sl',e2⟩:=slot b _ (neL b o e) hb (neC b o e hx) e1 (I.base.free b o e n hx)
  exact ⟨sl',e2⟩
 ·obtain ⟨o',e1⟩:=I.base.there b o e hx
  exact free b o' (neC b o e hx) e1 (I.base.free b o e n hx)
 ·obtain ⟨o',e1⟩:=I.base.there b o e hx
  exact there b o' (neC b o e hx) e1
 ·obtain ⟨m1,e1⟩:=I.base.tbls b ps e
  obtain ⟨m2,e2⟩:=tbls b _ e1
  exact ⟨m1++m2,by rw[e2,Array.append_assoc]⟩
 ·obtain ⟨m,hn,hl⟩:=I.loc
  refine ⟨m,ns m hn,fun i x v e1 e2 e3=>?_⟩
  obtain ⟨u,r,l⟩:=hl i x v e1 e2 e3
  refine ⟨u,r,?_⟩
  rcases l with l|⟨k,c,e,z⟩
  ·exact .inl l
  ·exact .inr ⟨k,c,e,cellK x c e _ z⟩
 ·obtain ⟨v,z⟩:=I.cell x c e
  exact ⟨v,cellK x c e v z⟩
 ·obtain ⟨m,⟨o,_,_,ho,_⟩,_⟩:=I.loc
  exact free _ o (fun z=>(hch _ z).2.1 rfl) ho I.free
 ·obtain ⟨v,o,ho,hd⟩:=I.cell x c e
  exact free c o (fun z=>(hch c z).2.2.1 x c e rfl) ho (I.freeC x c e)
 ·obtain ⟨e,n,ne,nf,d⟩:=I.pin p hp
  have nch:p.1∉ch:=fun z=>(hch p.1 z).2.2.2 p hp rfl
  exact ⟨keep p.1 p.2 ne nf nch e n,free p.1 p.2 nch e n,ne,nf,d⟩
theorem Inv.un{t':Nat}(I:Inv X pins σ H s)(u:Un X.fs [] H H' s.heap h')(hok:HOk X.prog X.w H' h'):Inv X pins σ H' { s with heap:=h',toks:=t' }:=by
 obtain ⟨m,⟨o,es,ep,ho,r⟩,_⟩:=id I.loc
 obtain ⟨sl,hL⟩:=u.any ho I.free (by simp)
 exact I.step (g':=s.gens) (d':=s.drawn) (ch:=[]) (fun _ z=>nomatch z) (fun b o _ hb _ e n=>u.keep b o e n hb (by simp)) (fun b o _ hb _ e n=>u.slot b o e n hb (by simp)) (fun b o _ e n=>u.free b o e n (by simp)) (fun b o _ e=>u.there b o e (by simp)) u.tups u.frzs u.tbls (fun m' hm=>by
  obtain ⟨o',es',ep',ho',r'⟩:=hm
  rw[ho] at ho';cases ho'
  exact ⟨_,es',ep',hL,r'⟩) hok I.bare
theorem Inv.call{g':Array GenState}{t':Nat}{d':Drawn}{ch:List Addr}(I:Inv X pins σ H s)(u:Un (frs X.stack) ch H H' s.heap h')(hok:HOk X.prog X.w H' h')(hg:AllBare g')
  (hch:∀ b∈ch,(b∈X.ex\/X.s₀.heap.objs.size<=b)/\b≠X.env.locals/\(∀ x c,X.env.cells.lookup x=some c->c≠b)/\∀ p∈X.pn++pins,p.1≠b) :
  Inv X pins σ H' { s with heap:=h',gens:=g',drawn:=d',toks:=t' }:=by
 obtain ⟨m,⟨o,es,ep,ho,r⟩,_⟩:=id I.loc
 obtain ⟨sl,hL⟩:=u.any ho I.free fun z=>(hch _ z).2.1 rfl
 exact I.step (ch:=ch) hch (fun b o hL hb hc e n=>u.keep b o e n (fun z=>(List.mem_cons.mp (I.stkSub b z)).elim hL hb) hc) (fun b o _ _ hc e n=>u.any e n hc) (fun b o hc e n=>u.free b o e n hc) (fun b o hc e=>u.there b o e hc) u.tups u.frzs u.tbls (fun m' hm=>by
  obtain ⟨o',es',ep',ho',r'⟩:=hm
  rw[ho] at ho';cases ho'
  exact ⟨_,es',ep',hL,r'⟩) hok hg
theorem Inv.turned{t':Nat}{it:Addr}(I:Inv X pins σ H s)(k:∀ b o,b≠it->s.heap.get? b=some o->h'.get? b=some o)(hn:H it=none)(hL:it≠X.env.locals)
  (h1:it∈X.ex\/X.s₀.heap.objs.size<=it) (h2:∀ x c,X.env.cells.lookup x=some c->c≠it) (h3:∀ p∈X.pn++pins,p.1≠it):Inv X pins σ H { s with heap:=h',toks:=t' }:=by
 have nit:∀ b u,H b=some u->b≠it:=fun b u e z=>by rw[z,hn] at e;cases e
 refine I.step (g':=s.gens) (d':=s.drawn) (ch:=[it]) (fun b hb=>?_) (fun b o _ _ hc e _=>k b o (fun z=>hc (by simp[z])) e) (fun b o _ _ hc e _=>⟨o.slots,k b o (fun z=>hc (by simp[z])) e⟩) (fun _ _ _ _ n=>n)
  (fun b o hc e=>⟨o,k b o (fun z=>hc (by simp[z])) e⟩) (fun _ _ e=>e) (fun _ _ _ e=>e) (fun b ps e=>⟨#[],by rw[e];simp⟩) (fun m hm=>?_) (fun b u e=>?_) I.bare
 ·have e:b=it:=by simpa using hb
  subst e
  exact ⟨h1,hL,h2,h3⟩
 ·obtain ⟨o,es,ep,ho,r⟩:=hm
  exact ⟨o,es,ep,k _ o (Ne.symm hL) ho,r⟩
 ·refine (I.hok b u e).stay (fun c v hc q=>k c v ?_ q) (fun _ q=>q) fun _ _ q=>q
  rcases hc with z|z
  ·rw[z];exact nit b u e
  ·exact nit c _ z
theorem Inv.tok(I:Inv X pins σ H s)(t:Nat):Inv X pins σ H { s with toks:=t }:=I.un (h':=s.heap) (t':=t) Un.refl I.hok
theorem Inv.kept{t':Nat}(I:Inv X pins σ H s)(k:∀ b u,s.heap.get? b=some u->h'.get? b=some u):Inv X pins σ H { s with heap:=h',toks:=t' }:=I.un (Un.kept k) (I.hok.kept k)
theorem Inv.laid{a:Addr}{o:HO}{t':Nat}(I:Inv X pins σ H s)(k:∀ b u,s.heap.get? b=some u->h'.get? b=some u)(hp:s.heap.objs.size<=a)(new:zcd X.prog X.w (upd H a o) h' a o) :
  Inv X pins σ (upd H a o) { s with heap:=h',toks:=t' }:=I.un (Un.laid k hp (I.hok.fresh hp)) (I.hok.laid k hp new)
theorem Inv.write{x e:Addr}{o:HO}{t':Nat}(I:Inv X pins σ H s)(mu:Mut (H x))(he:e=x\/H e=some (.own x))(k:∀ b u,b≠e->s.heap.get? b=some u->h'.get? b=some u)(heo:∃ u,h'.get? e=some u)
  (new:zcd X.prog X.w (upd H x o) h' x o):Inv X pins σ (upd H x o) { s with heap:=h',toks:=t' }:=I.un (Un.write mu he k heo) (I.hok.write mu he k heo new)
theorem Inv.weak{σ':List (Option V)}(I:Inv X pins σ H s)(hl:σ'.length = σ.length)(w:∀(i:Nat) v,σ'[i]? = some (some v)->σ[i]? = some (some v)):Inv X pins σ' H s :=
 ⟨I.ok,I.os,I.bare,I.base,let ⟨m,hn,hl'⟩:=I.loc;⟨m,hn,fun i x v e1 e2 e3=>hl' i x v e1 (w i v e2) e3⟩,I.cell,I.free,I.freeC,I.pin,I.hok,hl.trans I.len⟩
theorem Inv.pins_of{pins':List (Addr×Obj)}(I:Inv X pins σ H s)(h:∀ p∈pins',s.heap.get? p.1=some p.2/\H p.1=none/\p.1≠X.env.locals/\p.1∉X.fs/\∀ v,p.2.data≠.cell v):Inv X pins' σ H s :=
 ⟨I.ok,I.os,I.bare,I.base,I.loc,I.cell,I.free,I.freeC,fun p hp=>(List.mem_append.mp hp).elim (fun z=>I.pin p (List.mem_append_left _ z)) (h p),I.hok,I.len⟩
theorem zhR{N:List Str}(hN:N.Nodup){i j:Nat}{x:Str}(a:N[i]? = some x)(b:N[j]? = some x):i=j:=by
 obtain ⟨h1,e1⟩:=List.getElem?_eq_some_iff.mp a
 obtain ⟨h2,e2⟩:=List.getElem?_eq_some_iff.mp b
 exact (List.getElem_inj hN).mp (e1.trans e2.symm)
theorem zfC{M:Model}{A:Around}{E:Value->Shared->Prop}{i:Nat}{x:Str}{v:V}{u:Value}{Q:Unit->Shared->Prop}(I:Inv X pins σ H s)(hN:X.N.Nodup)(hi:X.N[i]? = some x)(hx:Loc X.env.scope x)(r:zbD v u)
  (h:∀ s',Inv X pins (σ.set i (some v)) H s'->(∃ a,Heap.SameBut a s.heap s'.heap/\(a=X.env.locals\/X.env.cells.lookup x=some a))->Q () s') (hf:X.fn x=true\/X.env.scope.names.lookup x=some .local:=by first|exact .inl rfl|exact .inr rfl|assumption):wpAny M A (storeName X.env x u) Q E s:=by
 obtain ⟨m,hn,hl⟩:=id I.loc
 have hcls:(X.env.scope.kind == .class || (X.env.scope.kind == .module && X.env.locals != X.env.globals))=false:=by rw[I.ok.kind];rfl
 have hiσ:i < σ.length:=by rw[I.len];exact (List.getElem?_eq_some_iff.mp hi).1
 have cne:=I.cne
 have tracked:∀{a:Addr}{h':Heap},(∃ o,s.heap.get? a=some o/\H a=none)->Heap.SameBut a s.heap h'->HOk X.prog X.w H h':=fun {a h'} ha hs b ob e=>by
  obtain ⟨_,_,hfree⟩:=ha
  refine (I.hok b ob e).stay (fun c w' hc q=>(hs.2 c ?_).trans q) (fun _ q=>q) fun _ _ q=>q
  rintro rfl
  rcases hc with rfl|hc
  ·rw[hfree] at e;cases e
  ·rw[hfree] at hc;cases hc
 rcases hx with hk|hk
 ·refine wpAny_storeName_local hk hn (fun h' hn' hs=>?_) hcls
  obtain ⟨oL,_,_,hoL,_⟩:=id hn
  refine h _ ⟨I.ok,I.os,I.bare,⟨fun b o e n hb hx=>?_,fun b o e n hb hx=>?_,I.base.free,fun b o e hx=>?_,I.base.tups,I.base.frzs,I.base.tbls⟩,⟨_,hn',fun j y v' e1 e2 e3=>?_⟩,fun y c e=>?_,I.free,I.freeC,fun p hp=>?_,tracked ⟨oL,hoL,I.free⟩ hs,by simpa using I.len⟩ ⟨_,hs,.inl rfl⟩
  ·exact (hs.2 b (Nat.ne_of_lt (Nat.lt_of_lt_of_le (Heap.lt_size e) I.ok.above))).trans (I.base.keep b o e n hb hx)
  ·obtain ⟨sl,e1⟩:=I.base.slot b o e n hb hx
   exact ⟨sl,(hs.2 b (Nat.ne_of_lt (Nat.lt_of_lt_of_le (Heap.lt_size e) I.ok.above))).trans e1⟩
  ·obtain ⟨o',e1⟩:=I.base.there b o e hx
   exact ⟨o',(hs.2 b (Nat.ne_of_lt (Nat.lt_of_lt_of_le (Heap.lt_size e) I.ok.above))).trans e1⟩
  ·by_cases hj:j=i
   ·subst hj
    rw[hi] at e1;cases e1
    rw[List.getElem?_set_self hiσ] at e2
    cases e2
    exact ⟨u,r,.inl ⟨hk,by simp⟩⟩
   ·rw[List.getElem?_set_ne (Ne.symm hj)] at e2
    obtain ⟨u',r',q⟩:=hl j y v' e1 e2 e3
    refine ⟨u',r',?_⟩
    rcases q with ⟨k,e⟩|⟨k,c,e,z⟩
    ·refine .inl ⟨k,?_⟩
     have:y≠x:=fun e=>hj (zhR hN e1 (e ▸ hi))
     simp[this,e]
    ·exact .inr ⟨k,c,e,z.sameBut hs (cne y c e)⟩
  ·obtain ⟨w',z⟩:=I.cell y c e
   exact ⟨w',z.sameBut hs (cne y c e)⟩
  ·obtain ⟨e,n,ne,nf,d⟩:=I.pin p hp
   exact ⟨(hs.2 p.1 ne).trans e,n,ne,nf,d⟩
 ·have hfn:X.fn x=true:=by
   rcases hf with z|z
   ·exact z
   ·rw[z] at hk;cases hk
  obtain ⟨c,hc⟩:=I.ok.has x (.inl hk)
  obtain ⟨w',z⟩:=I.cell x c hc
  refine wpAny_storeName_cell I.ok.kind hk hc z (fun h' hc' hs=>?_)
  obtain ⟨oc,hoc,hocd⟩:=id z
  refine h { s with heap:=h' } ⟨I.ok,I.os,I.bare,⟨fun b o e n hb hx=>?_,fun b o e n hb hx=>?_,I.base.free,fun b o e hx=>?_,I.base.tups,I.base.frzs,I.base.tbls⟩,⟨m,hn.sameBut hs (Ne.symm (cne x c hc)),fun j y v' e1 e2 e3=>?_⟩,fun y c' e=>?_,I.free,I.freeC,fun p hp=>?_,tracked ⟨oc,hoc,I.freeC x c hc⟩ hs,by simpa using I.len⟩ ⟨c,hs,.inr hc⟩
  ·exact (hs.2 b (Nat.ne_of_lt (Nat.lt_of_lt_of_le (Heap.lt_size e) (I.ok.cab x c hfn hc)))).trans (I.base.keep b o e n hb hx)
  ·obtain ⟨sl,e1⟩:=I.base.slot b o e n hb hx
   exact ⟨sl,(hs.2 b (Nat.ne_of_lt (Nat.lt_of_lt_of_le (Heap.lt_size e) (I.ok.cab x c hfn hc)))).trans e1⟩
  ·obtain ⟨o',e1⟩:=I.base.there b o e hx
   exact ⟨o',(hs.2 b (Nat.ne_of_lt (Nat.lt_of_lt_of_le (Heap.lt_size e) (I.ok.cab x c hfn hc)))).trans e1⟩
  ·by_cases hj:j=i
   ·subst hj
    rw[hi] at e1;cases e1
    rw[List.getElem?_set_self hiσ] at e2
    cases e2
    exact ⟨u,r,.inr ⟨.inl hk,c,hc,hc'⟩⟩
   ·rw[List.getElem?_set_ne (Ne.symm hj)] at e2
    obtain ⟨u',r',q⟩:=hl j y v' e1 e2 e3
    refine ⟨u',r',?_⟩
    rcases q with q|⟨k,c',e,z'⟩
    ·exact .inl q
    ·refine .inr ⟨k,c',e,z'.sameBut hs ?_⟩
     rintro rfl
     exact hj (zhR hN e1 (I.ok.inj _ _ _ e hc ▸ hi))
  ·by_cases hcc:c'=c
   ·subst hcc;exact ⟨_,hc'⟩
   ·obtain ⟨w2,z2⟩:=I.cell y c' e
    exact ⟨w2,z2.sameBut hs hcc⟩
  ·obtain ⟨e,n,ne,nf,d⟩:=I.pin p hp
   refine ⟨(hs.2 p.1 ?_).trans e,n,ne,nf,d⟩
   intro q
   rw[q,hoc] at e
   have q':oc=p.2:=Option.some.inj e
   exact d w' (by rw[<- q'];exact hocd)
theorem zhv{M:Model}{A:Around}{E:Value->Shared->Prop}{i:Nat}{x:Str}{v:V}{u:Value}{Q:Unit->Shared->Prop}(I:Inv X pins σ H s)(hN:X.N.Nodup)(hi:X.N[i]? = some x)(hx:Loc X.env.scope x)(r:zbD v u)
  (h:∀ s',Inv X pins (σ.set i (some v)) H s'->Q () s') (hf:X.fn x=true\/X.env.scope.names.lookup x=some .local:=by first|exact .inl rfl|exact .inr rfl|assumption):wpAny M A (storeName X.env x u) Q E s :=
 zfC I hN hi hx r (fun s' I' _=>h s' I') hf
theorem Inv.call'{s':Shared}{ch:List Addr}(I:Inv X pins σ H s)(ho:s'.os=s.os)(u:Un (frs X.stack) ch H H' s.heap s'.heap)(hok:HOk X.prog X.w H' s'.heap)(hg:AllBare s'.gens)
  (hch:∀ b∈ch,(b∈X.ex\/X.s₀.heap.objs.size<=b)/\b≠X.env.locals/\(∀ x c,X.env.cells.lookup x=some c->c≠b)/\∀ p∈X.pn++pins,p.1≠b):Inv X pins σ H' s':=by
 obtain ⟨h',g',d',t',o'⟩:=s'
 have e:o'=s.os:=ho
 subst e
 exact I.call (g':=g') (t':=t') (d':=d') u hok hg hch
end
abbrev XK:=Value->Option Addr->Hp->Prop
abbrev St:=List (Option V)
abbrev VK:=V->Hp->Prop
abbrev TE:=St->Hp->VK->Prop
abbrev TT:=St->Hp->(Bool->Hp->Prop)->Prop
abbrev TA:=St->Hp->(List V->Hp->Prop)->Prop
structure zp2 where
 nx:St->Hp->Prop
 rt:VK
 bk:St->Hp->Prop:=fun _ _=>False
 ct:St->Hp->Prop:=fun _ _=>False
abbrev TS:=zp2->St->Hp->Prop
def EP(X:Cx)(pins:List (Addr×Obj))(σ:St)(Q:VK)(u:Value)(s':Shared):Prop:=∃ v H',Inv X pins σ H' s'/\zbD v u/\Q v H'
def TP(X:Cx)(pins:List (Addr×Obj))(σ:St)(Q:Bool->Hp->Prop)(b:Bool)(s':Shared):Prop:=∃ H',Inv X pins σ H' s'/\Q b H'
def AP(X:Cx)(pins:List (Addr×Obj))(σ:St)(Q:List V->Hp->Prop)(us:List Value)(s':Shared):Prop:=∃ vs H',Inv X pins σ H' s'/\zaM vs us/\Q vs H'
def SP(X:Cx)(pins:List (Addr×Obj))(D:zp2)(f:Flow)(s':Shared):Prop :=
 match f with
 |.next=>∃ σ' H',Inv X pins σ' H' s'/\D.nx σ' H'
 |.brk=>∃ σ' H',Inv X pins σ' H' s'/\D.bk σ' H'
 |.cont=>∃ σ' H',Inv X pins σ' H' s'/\D.ct σ' H'
 |.ret u=>∃ v σ' H',Inv X pins σ' H' s'/\zbD v u/\D.rt v H'
def PE(X:Cx)(e:Expr)(t:TE):Prop :=
 ∀(pins:List (Addr×Obj))(s:Shared)(σ:St)(H:Hp)(Q:VK),Inv X pins σ H s->t σ H Q->wpAny (model X.prog X.w) X.A (eval e X.env) (EP X pins σ Q) X.xe s
def PT(X:Cx)(e:Expr)(t:TT):Prop :=
 ∀(pins:List (Addr×Obj))(s:Shared)(σ:St)(H:Hp)(Q:Bool->Hp->Prop),Inv X pins σ H s->t σ H Q->wpAny (model X.prog X.w) X.A (isTrue e X.env (eval e X.env)) (TP X pins σ Q) X.xe s
def PW(X:Cx)(e:Expr)(t:TT):Prop :=
 ∀(whole:Sem Value)(pins:List (Addr×Obj))(s:Shared)(σ:St)(H:Hp)(Q:Bool->Hp->Prop),Inv X pins σ H s->t σ H Q->wpAny (model X.prog X.w) X.A (isTrue e X.env whole) (TP X pins σ Q) X.xe s
theorem PW.pt{X:Cx}{e:Expr}{t:TT}(h:PW X e t):PT X e t:=h _
def PA(X:Cx)(es:List Expr)(t:TA):Prop :=
 ∀(pos:Pos)(pins:List (Addr×Obj))(s:Shared)(σ:St)(H:Hp)(Q:List V->Hp->Prop),Inv X pins σ H s->t σ H Q->wpAny (model X.prog X.w) X.A (spliced (backTo pos (starEach es X.env))) (AP X pins σ Q) X.xe s
def PS(X:Cx)(st:Stmt)(t:TS):Prop :=
 ∀(pins:List (Addr×Obj))(s:Shared)(σ:St)(H:Hp)(D:zp2),Inv X pins σ H s->t D σ H->wpAny (model X.prog X.w) X.A (exec st X.env) (SP X pins D) X.xe s
def PSs(X:Cx)(st:List Stmt)(t:TS):Prop :=
 ∀(pins:List (Addr×Obj))(s:Shared)(σ:St)(H:Hp)(D:zp2),Inv X pins σ H s->t D σ H->wpAny (model X.prog X.w) X.A (execs st X.env) (SP X pins D) X.xe s
theorem thn{α:Type}{t:Sem α}{Q Q':α->Shared->Prop}{M:Model}{A:Around}{E:Value->Shared->Prop}{s:Shared}(h:wpAny M A t Q E s)(hQ:∀ a s,Q a s->Q' a s):wpAny M A t Q' E s:=wpAny_mono h hQ fun _ _ x=>x
end L2
namespace L2
open PySem PySem.Spec PyProof.Rows
section
variable{X:Cx}
def ztT(i:Nat):TE:=fun σ H Q=>∃ v,σ[i]? = some (some v)/\Q v H
def tC(v:V):TE:=fun _ H Q=>Q v H
theorem zbB{i:Nat}{x:Str}{pos:Pos}(hN:X.N[i]? = some x)(hv:Vis X.env.scope x)(hd:(x == ("__debug__" : Str))=false:=by decide)(hcd:(x == ("__classdict__" : Str))=false:=by decide):PE X (.Name x pos) (ztT i):=by
 intro pins s σ H Q I h
 obtain ⟨v,e,h⟩:=h
 obtain ⟨m,hn,hl⟩:=I.loc
 obtain ⟨u,r,l⟩:=hl i x v hN e hv
 have fin:EP X pins σ Q u s:=⟨v,H,I,r,h⟩
 rcases l with ⟨hk,hm⟩|⟨hk,c,hc,hcell⟩
 ·exact wpAny_Name (wpAny_loadName_local I.ok.kind hk hn hm fin) hd
 ·rcases hk with hk|hk
  ·exact wpAny_Name (wpAny_loadName_cell I.ok.kind hk hc hcell fin) hd
  ·exact wpAny_Name (wpAny_loadName_free I.ok.kind hk hc hcell fin hcd) hd
theorem znh{i j pos}:PE X (.Constant (.int i) j pos) (tC (.int i)):=fun _ _ _ H _ I h=>wpAny_Constant_int ⟨.int i,H,I.tok _,⟨_,rfl⟩,h⟩
theorem ztO{b j pos}:PE X (.Constant (.bool b) j pos) (tC (.bl b)):=fun _ _ _ H _ I h=>Constant_bool ⟨.bl b,H,I,rfl,h⟩
theorem zrL{j pos}:PE X (.Constant .none j pos) (tC .non):=fun _ _ _ H _ I h=>Constant_none ⟨.non,H,I,rfl,h⟩
theorem zsn{x j pos}:PE X (.Constant (.str x) j pos) (tC (.str x)):=fun _ _ _ H _ I h=>Calls.Constant_str ⟨.str x,H,I.tok _,⟨_,rfl⟩,h⟩
def Gl(X:Cx)(x:Str):Prop:=X.env.kindOf x=some .globalImplicit
theorem zgq{E:Value->Shared->Prop}{pins:List (Addr×Obj)}{s:Shared}{σ:St}{H:Hp}{x:Str}{u:Value}{pos:Pos}{Q:Value->Shared->Prop}(I:Inv X pins σ H s)(hg:Gl X x)(hm:X.mg x=some u)(h:Q u s)
  (hd:(x == ("__debug__" : Str))=false:=by decide):wpAny (model X.prog X.w) X.A (eval (.Name x pos) X.env) Q E s :=
 Calls.Name_function_global I.ok.kind hg (Calls.loadGlobal_global (by rw[I.ok.glob];exact I.mod.glob.keeps I.bk) hm h) hd
theorem zeC{E:Value->Shared->Prop}{pins:List (Addr×Obj)}{s:Shared}{σ:St}{H:Hp}{x:Str}{u:Value}{pos:Pos}{Q:Value->Shared->Prop}(I:Inv X pins σ H s)(hg:Gl X x)(hm:X.mg x=none)(hv:bootBuiltins x=some u)(h:Q u s)
  (hn:x≠"__name__":=by decide) (hd:(x == ("__debug__" : Str))=false:=by decide):wpAny (model X.prog X.w) X.A (eval (.Name x pos) X.env) Q E s:=by
 obtain ⟨mb,h1,h2⟩:=I.mod.blt
 exact Calls.Name_function_global I.ok.kind hg (Calls.loadGlobal_builtin (by rw[I.ok.glob];exact I.mod.glob.keeps I.bk) hm (by rw[I.ok.blt];exact h1.keeps I.bk) ((h2 x hn).trans hv) h) hd
theorem zmf{x:Str}{v:V}{u:Value}{pos:Pos}(hg:Gl X x)(hm:X.mg x=some u)(r:zbD v u)(hd:(x == ("__debug__" : Str))=false:=by decide):PE X (.Name x pos) (tC v) :=
 fun _ _ _ H _ I h=>zgq I hg hm ⟨v,H,I,r,h⟩ hd
theorem zhQ{x:Str}{v:V}{u:Value}{pos:Pos}(hg:Gl X x)(hm:X.mg x=none)(hv:bootBuiltins x=some u)(r:zbD v u)(hn:x≠"__name__":=by decide)(hd:(x == ("__debug__" : Str))=false:=by decide):PE X (.Name x pos) (tC v) :=
 fun _ _ _ H _ I h=>zeC I hg hm hv ⟨v,H,I,r,h⟩ hn hd
variable{a b:Expr}{ta tb:TE}{pos:Pos}
def tB(t:TE):TT:=fun σ H Q=>t σ H fun x H1=>∃ c,x=.bl c/\Q c H1
theorem zsA{e:Expr}{t:TE}(h:PE X e t)(he:∀ whole,isTrue e X.env whole=(do let v <- whole;standAt e.pos;holding [v] (truthy v)):=by intro _;rfl):PT X e (tB t):=by
 intro pins s σ H Q I hw
 refine isTrue_plain (thn (h pins s σ H _ I hw) fun v s1 ⟨x,H1,I1,r1,q1⟩=>?_) (he _)
 obtain ⟨d,rfl,q⟩:=q1
 cases r1
 exact wpAny_truthy_bool ⟨H1,I1,q⟩
variable{tA tB':TT}{zbm:List Expr}
def tAnd(t u:TT):TT:=fun σ H Q=>t σ H fun c H1=>if c=true then u σ H1 Q else Q false H1
def tOr(t u:TT):TT:=fun σ H Q=>t σ H fun c H1=>if c=true then Q true H1 else u σ H1 Q
def tNot(t:TT):TT:=fun σ H Q=>t σ H fun c H1=>Q (!c) H1
theorem zpZ(ha:PT X a tA):PW X (.BoolOp .And [a] pos) tA:=by
 intro wh pins s σ H Q I h
 refine isTrue_and (thn (ha pins s σ H Q I h) fun c s1 e=>?_)
 cases c with
 |true=>exact isTrue_and_nil e
 |false=>exact e
theorem zsa(ha:PT X a tA):PW X (.BoolOp .Or [a] pos) tA:=by
 intro wh pins s σ H Q I h
 refine isTrue_or (thn (ha pins s σ H Q I h) fun c s1 e=>?_)
 cases c with
 |false=>exact isTrue_or_nil e
 |true=>exact e
theorem ztk(ha:PT X a tA)(hb:PW X (.BoolOp .And (b::zbm) pos) tB'):PW X (.BoolOp .And (a::b::zbm) pos) (tAnd tA tB'):=by
 intro wh pins s σ H Q I h
 refine isTrue_and (thn (ha pins s σ H _ I h) fun c s1 ⟨H1,I1,q1⟩=>?_)
 cases c with
 |true=>exact hb wh pins s1 σ H1 Q I1 q1
 |false=>exact ⟨H1,I1,q1⟩
theorem zt7(ha:PT X a tA)(hb:PW X (.BoolOp .Or (b::zbm) pos) tB'):PW X (.BoolOp .Or (a::b::zbm) pos) (tOr tA tB'):=by
 intro wh pins s σ H Q I h
 refine isTrue_or (thn (ha pins s σ H _ I h) fun c s1 ⟨H1,I1,q1⟩=>?_)
 cases c with
 |true=>exact ⟨H1,I1,q1⟩
 |false=>exact hb wh pins s1 σ H1 Q I1 q1
theorem zsw(ha:PT X a tA):PT X (.UnaryOp .Not a pos) (tNot tA):=by
 intro pins s σ H Q I h
 exact isTrue_not (ha pins s σ H (fun c H1=>Q (!c) H1) I h)
def ztx(ta tb:TE):TE:=fun σ H Q=>ta σ H fun x H1=>∃ c,x=.bl c/\if c=true then tb σ H1 Q else Q (.bl false) H1
def tOrV(ta tb:TE):TE:=fun σ H Q=>ta σ H fun x H1=>∃ c,x=.bl c/\if c=true then Q (.bl true) H1 else tb σ H1 Q
def zug(ta:TE):TE:=fun σ H Q=>ta σ H fun x H1=>∃ c,x=.bl c/\Q (.bl (!c)) H1
theorem zsh{op}{t:TE}(h:PE X a t):PE X (.BoolOp op [a] pos) t:=fun pins s σ H Q I hw=>BoolOp_one (h pins s σ H Q I hw)
theorem zsQ(ha:PE X a ta)(hb:PE X (.BoolOp .And (b::zbm) pos) tb):PE X (.BoolOp .And (a::b::zbm) pos) (ztx ta tb):=by
 intro pins s σ H Q I h
 refine BoolOp_and (thn (ha pins s σ H _ I h) fun v s1 ⟨x,H1,I1,r1,q1⟩=>?_)
 obtain ⟨c,rfl,q1⟩:=q1
 cases r1
 refine wpAny_truthy_bool ?_
 cases c with
 |true=>exact hb pins s1 σ H1 Q I1 q1
 |false=>exact ⟨.bl false,H1,I1,rfl,q1⟩
theorem ztL(ha:PE X a ta)(hb:PE X (.BoolOp .Or (b::zbm) pos) tb):PE X (.BoolOp .Or (a::b::zbm) pos) (tOrV ta tb):=by
 intro pins s σ H Q I h
 refine BoolOp_or (thn (ha pins s σ H _ I h) fun v s1 ⟨x,H1,I1,r1,q1⟩=>?_)
 obtain ⟨c,rfl,q1⟩:=q1
 cases r1
 refine wpAny_truthy_bool ?_
 cases c with
 |false=>exact hb pins s1 σ H1 Q I1 q1
 |true=>exact ⟨.bl true,H1,I1,rfl,q1⟩
theorem zsV(ha:PE X a ta):PE X (.UnaryOp .Not a pos) (zug ta):=by
 intro pins s σ H Q I h
 refine UnaryOp_ (thn (ha pins s σ H _ I h) fun v s1 ⟨x,H1,I1,r1,q1⟩=>?_)
 obtain ⟨c,rfl,q1⟩:=q1
 cases r1
 exact not_of (wpAny_truthy_bool ⟨.bl (!c),H1,I1,rfl,q1⟩)
def tIf(t:TT)(ta tb:TE):TE:=fun σ H Q=>t σ H fun c H1=>if c=true then ta σ H1 Q else tb σ H1 Q
theorem zpo{c:Expr}(hc:PT X c tA)(ha:PE X a ta)(hb:PE X b tb):PE X (.IfExp c a b pos) (tIf tA ta tb):=by
 intro pins s σ H Q I h
 refine wpAny_IfExp (thn (hc pins s σ H _ I h) fun d s1 ⟨H1,I1,q1⟩=>?_)
 cases d with
 |true=>exact ha pins s1 σ H1 Q I1 q1
 |false=>exact hb pins s1 σ H1 Q I1 q1
end
end L2
namespace L2
open PySem PySem.Spec PyProof.Rows
def SqL(K:W.Frag)(H:Hp)(a:Addr)(xs:List V):Prop :=
 Rd H a (.lst xs) \/
  ∃(o:Obj)(its:Array Value)(n:Nat),K.lookup a=some o/\o.cls=.type "list"/\o.dict=none/\o.data=.seq its n/\its.size<=sizeLine/\zaM xs its.toList
def SqT(K:W.Frag)(H:Hp)(a:Addr)(xs:List V):Prop :=
 Rd H a (.tup xs) \/
  ∃(o:Obj)(its:Array Value)(n:Nat),K.lookup a=some o/\o.cls=.type "tuple"/\o.data=.seq its n/\its.size<=sizeLine/\zaM xs its.toList
def absV:Value->Option V
 |.none=>some .non
 |.bool b=>some (.bl b)
 |.int i _=>some (.int i)
 |.str x _=>some (.str x)
 |.bytes b _=>some (.byt b)
 |.float b _=>some (.flt b)
 |.ref a=>some (.ref a)
 |.type n=>some (.ty n)
 |_=>none
theorem zbD.abs{x:V}{u:Value}(r:zbD x u):absV u=some x:=by
 cases x with
 |non=>cases r;rfl
 |bl _=>cases r;rfl
 |int _=>obtain ⟨t,rfl⟩:=r;rfl
 |str _=>obtain ⟨t,rfl⟩:=r;rfl
 |byt _=>obtain ⟨t,rfl⟩:=r;rfl
 |flt _=>obtain ⟨t,rfl⟩:=r;rfl
 |ref _=>cases r;rfl
 |ty _=>cases r;rfl
theorem zbD.inj{x y:V}{u:Value}(r:zbD x u)(q:zbD y u):x=y:=Option.some.inj (r.abs.symm.trans q.abs)
theorem zaM.inj:∀{xs ys:List V}{us:List Value},zaM xs us->zaM ys us->xs=ys
 |_,_,_,.nil,.nil=>rfl
 |_,_,_,.cons r t,.cons r' t'=>by rw[r.inj r',zaM.inj t t']
section
variable{X:Cx}{pins:List (Addr×Obj)}{σ:St}{H:Hp}{s:Shared}{a:Addr}{xs ys:List V}
theorem SqL.of{K:W.Frag}(h:H a=some (.lst xs)):SqL K H a xs:=.inl (.inl h)
theorem SqT.of{K:W.Frag}(h:H a=some (.tup xs)):SqT K H a xs:=.inl (.inl h)
theorem Inv.list(I:Inv X pins σ H s)(h:SqL X.K H a xs):∃ its:List Value,zaM xs its/\PlainL s.heap a its.toArray/\xs.length<=sizeLine:=by
 rcases h with h|⟨o,its,n,hk,hc,hd,hs,hz,r⟩
 ·obtain ⟨z,its,n,r,e⟩:=h.ok I.hok
  exact ⟨its,r,⟨_,n,e,rfl,rfl,rfl⟩,z⟩
 ·refine ⟨its.toList,r,⟨o,n,I.kIn a o hk,hc,hd,by simpa using hs⟩,?_⟩
  have e:=r.length
  simp only[Array.length_toList] at e
  omega
theorem Inv.tuple(I:Inv X pins σ H s)(h:SqT X.K H a xs):∃ its:List Value,zaM xs its/\IsTup s.heap a its.toArray/\xs.length<=sizeLine:=by
 rcases h with h|⟨o,its,n,hk,hc,hs,hz,r⟩
 ·obtain ⟨z,its,r,n,e⟩:=h.ok I.hok
  exact ⟨its,r,⟨_,e,rfl,n,rfl⟩,z⟩
 ·refine ⟨its.toList,r,⟨o,I.kIn a o hk,hc,n,by simpa using hs⟩,?_⟩
  have e:=r.length
  simp only[Array.length_toList] at e
  omega
theorem Inv.list_inj(I:Inv X pins σ H s)(h:SqL X.K H a xs)(h':SqL X.K H a ys):xs=ys:=by
 obtain ⟨its,r,⟨o,n,e,_,_,d⟩,_⟩:=I.list h
 obtain ⟨its',r',⟨o',n',e',_,_,d'⟩,_⟩:=I.list h'
 rw[e] at e';cases e'
 rw[d] at d'
 injection d' with d1 _
 have:its=its':=by simpa using congrArg Array.toList d1
 subst this
 exact r.inj r'
theorem Inv.tuple_inj(I:Inv X pins σ H s)(h:SqT X.K H a xs)(h':SqT X.K H a ys):xs=ys:=by
 obtain ⟨its,r,⟨o,e,_,n,d⟩,_⟩:=I.tuple h
 obtain ⟨its',r',⟨o',e',_,n',d'⟩,_⟩:=I.tuple h'
 rw[e] at e';cases e'
 rw[d] at d'
 injection d' with d1 _
 have:its=its':=by simpa using congrArg Array.toList d1
 subst this
 exact r.inj r'
end
abbrev Cx.wish(X:Cx)(E:Value->Shared->Prop):Cx:={ X with xe:=E }
abbrev Cx.nox(X:Cx):Cx:=X.wish fun _ _=>False
theorem Cx.Ok.wish{X:Cx}(ok:X.Ok)(E:Value->Shared->Prop):(X.wish E).Ok :=
 ⟨ok.mod,ok.kind,ok.glob,ok.blt,ok.above,ok.inj,ok.has,ok.cab,ok.hd,ok.frames,ok.stk,ok.exf,ok.bs,ok.bsz,ok.noex,ok.exfs,ok.funs,ok.frf⟩
theorem Cx.Ok.unwish{X:Cx}{E:Value->Shared->Prop}(ok:(X.wish E).Ok):X.Ok :=
 ⟨ok.mod,ok.kind,ok.glob,ok.blt,ok.above,ok.inj,ok.has,ok.cab,ok.hd,ok.frames,ok.stk,ok.exf,ok.bs,ok.bsz,ok.noex,ok.exfs,ok.funs,ok.frf⟩
section
variable{X:Cx}{pins:List (Addr×Obj)}{σ:St}{H:Hp}{s:Shared}{E:Value->Shared->Prop}
theorem Inv.wish(I:Inv X pins σ H s)(E:Value->Shared->Prop):Inv (X.wish E) pins σ H s:=⟨I.ok.wish E,I.os,I.bare,I.base,I.loc,I.cell,I.free,I.freeC,I.pin,I.hok,I.len⟩
theorem Inv.unwish(I:Inv (X.wish E) pins σ H s):Inv X pins σ H s:=⟨I.ok.unwish,I.os,I.bare,I.base,I.loc,I.cell,I.free,I.freeC,I.pin,I.hok,I.len⟩
theorem SP.unwish{D:zp2}{f:Flow}{s':Shared}(h:SP (X.wish E) pins D f s'):SP X pins D f s':=by
 cases f with
 |next=>obtain ⟨σ',H',I,q⟩:=h;exact ⟨σ',H',I.unwish,q⟩
 |brk=>obtain ⟨σ',H',I,q⟩:=h;exact ⟨σ',H',I.unwish,q⟩
 |cont=>obtain ⟨σ',H',I,q⟩:=h;exact ⟨σ',H',I.unwish,q⟩
 |ret u=>obtain ⟨v,σ',H',I,r,q⟩:=h;exact ⟨v,σ',H',I.unwish,r,q⟩
theorem PE.nox{e:Expr}{t:TE}(h:PE X.nox e t):PE X e t:=fun pins s σ H Q I hw =>
 wpAny_mono (h pins s σ H Q (I.wish _) hw) (fun _ _ ⟨v,H',I',r,q⟩=>⟨v,H',I'.unwish,r,q⟩) fun _ _ z=>False.elim z
theorem PT.nox{e:Expr}{t:TT}(h:PT X.nox e t):PT X e t:=fun pins s σ H Q I hw =>
 wpAny_mono (h pins s σ H Q (I.wish _) hw) (fun _ _ ⟨H',I',q⟩=>⟨H',I'.unwish,q⟩) fun _ _ z=>False.elim z
theorem PSs.nox{st:List Stmt}{t:TS}(h:PSs X.nox st t):PSs X st t:=fun pins s σ H D I hw =>
 wpAny_mono (h pins s σ H D (I.wish _) hw) (fun _ _ q=>q.unwish) fun _ _ z=>False.elim z
end
section
variable{X:Cx}{st:Stmt}{zbm:List Stmt}{t u:TS}{e:Expr}{te:TE}{pos:Pos}
def ztJ:TS:=fun D σ H=>D.nx σ H
def tSeq(t u:TS):TS:=fun D σ H=>t { D with nx:=u D } σ H
theorem zqm:PSs X [] ztJ:=fun _ _ σ H _ I h=>wpAny_execs_nil ⟨σ,H,I,h⟩
theorem zoM(h1:PS X st t)(h2:PSs X zbm u):PSs X (st::zbm) (tSeq t u):=by
 intro pins s σ H D I h
 refine wpAny_execs_cons (thn (h1 pins s σ H { D with nx:=u D } I h) fun f s1 q=>?_)
 cases f with
 |next =>
  obtain ⟨σ',H',I',q⟩:=q
  exact h2 pins s1 σ' H' D I' q
 |ret v=>exact q
 |brk=>exact q
 |cont=>exact q
theorem znq(h1:PS X st t):PSs X [st] t:=by
 intro pins s σ H D I h
 refine wpAny_execs_cons (thn (h1 pins s σ H D I h) fun f s1 q=>?_)
 cases f with
 |next=>exact wpAny_execs_nil q
 |ret v=>exact q
 |brk=>exact q
 |cont=>exact q
theorem Inv.quiet{pins:List (Addr×Obj)}{σ:St}{H:Hp}{s:Shared}(I:Inv X pins σ H s):interactive X.env=false:=by simp[interactive,I.ok.kind]
def ztK(te:TE):TS:=fun D σ H=>te σ H fun _ H1=>D.nx σ H1
theorem zqX(he:PE X e te)(hs:swapsWith e none pos.line X.env=pure false:=by rfl):PS X (.Expr e pos) (ztK te):=by
 intro pins s σ H D I h
 exact wpAny_Expr_any (thn (he pins s σ H _ I h) fun v s1 ⟨x,H1,I1,r1,q1⟩=>⟨σ,H1,I1,q1⟩) I.quiet hs
def tRet(te:TE):TS:=fun D σ H=>te σ H D.rt
theorem zpJ(he:PE X e te):PS X (.Return (some e) pos) (tRet te):=by
 intro pins s σ H D I h
 exact wpAny_Return_some (thn (he pins s σ H _ I h) fun v s1 ⟨x,H1,I1,r1,q1⟩=>⟨x,σ,H1,I1,r1,q1⟩)
def tIfS(c:TT)(t u:TS):TS:=fun D σ H=>c σ H fun b H1=>if b=true then t D σ H1 else u D σ H1
theorem ztZ{c:Expr}{a b:List Stmt}{tc:TT}(hc:PT X c tc)(ha:PSs X a t)(hb:PSs X b u):PS X (.If c a b pos) (tIfS tc t u):=by
 intro pins s σ H D I h
 refine wpAny_If (thn (hc pins s σ H _ I h) fun d s1 ⟨H1,I1,q1⟩=>?_)
 cases d with
 |true=>exact ha pins s1 σ H1 D I1 q1
 |false=>exact hb pins s1 σ H1 D I1 q1
end
abbrev TG:=V->St->Hp->(St->Hp->Prop)->Prop
abbrev TGs:=List V->St->Hp->(St->Hp->Prop)->Prop
def PG(X:Cx)(target:Expr)(t:TG):Prop :=
 ∀(pins:List (Addr×Obj))(s:Shared)(σ:St)(H:Hp)(v:V)(u:Value)(Q:St->Hp->Prop),Inv X pins σ H s->zbD v u->t v σ H Q ->
  wpAny (model X.prog X.w) X.A (assign target X.env u) (fun _ s'=>∃ σ' H',Inv X pins σ' H' s'/\Q σ' H') X.xe s
def PGs(X:Cx)(ts:List Expr)(t:TGs):Prop :=
 ∀(pins:List (Addr×Obj))(s:Shared)(σ:St)(H:Hp)(vs:List V)(us:List Value)(Q:St->Hp->Prop),Inv X pins σ H s->zaM vs us->t vs σ H Q ->
  wpAny (model X.prog X.w) X.A (assignInOrder ((assignEach ts X.env).map (·.2)) us) (fun _ s'=>∃ σ' H',Inv X pins σ' H' s'/\Q σ' H') X.xe s
abbrev ztN:=V->V->V->Hp->(Hp->Prop)->Prop
def PSet(X:Cx)(t:ztN):Prop :=
 ∀(pins:List (Addr×Obj))(s:Shared)(σ:St)(H:Hp)(o i v:V)(ov iv u:Value)(Q:Hp->Prop),Inv X pins σ H s->zbD o ov->zbD i iv->zbD v u->t o i v H Q ->
  wpAny (model X.prog X.w) X.A (setItem ov iv u) (fun _ s'=>∃ H',Inv X pins σ H' s'/\Q H') X.xe s
section
variable{X:Cx}{pos:Pos}
def zsr(i:Nat):TG:=fun v σ H Q=>Q (σ.set i (some v)) H
theorem zjq{i:Nat}{x:Str}(hN:X.N.Nodup)(hi:X.N[i]? = some x)(hx:Loc X.env.scope x)(hf:X.fn x=true\/X.env.scope.names.lookup x=some .local:=by first|exact .inl rfl|exact .inr rfl|assumption):PG X (.Name x pos) (zsr i):=by
 intro pins s σ H v u Q I r h
 exact wpAny_assign_Name (zhv I hN hi hx r (fun s' I'=>⟨_,H,I',h⟩) hf)
def gNil:TGs:=fun vs σ H Q=>vs=[]/\Q σ H
def ztM(t:TG)(u:TGs):TGs:=fun vs σ H Q=>∃ v r,vs=v::r/\t v σ H fun σ' H'=>u r σ' H' Q
theorem zr4:PGs X [] gNil:=by
 intro pins s σ H vs us Q I r h
 obtain ⟨e,h⟩:=h
 subst e
 cases r
 exact assignInOrder_nil ⟨σ,H,I,h⟩
theorem zkp{e:Expr}{es:List Expr}{t:TG}{u:TGs}(h1:PG X e t)(h2:PGs X es u)
  (hs:(assignEach (e::es) X.env).map (·.2)=assign e X.env::(assignEach es X.env).map (·.2):=by rfl):PGs X (e::es) (ztM t u):=by
 intro pins s σ H vs us Q I r h
 obtain ⟨v,vr,e1,h⟩:=h
 subst e1
 cases r with
 |cons r rr =>
  rw[hs]
  refine assignInOrder_cons (thn (h1 pins s σ H _ _ _ I r h) fun _ s1 ⟨σ1,H1,I1,q1⟩=>?_)
  exact h2 pins s1 σ1 H1 _ _ Q I1 rr q1
def gTup(K:W.Frag)(n:Nat)(t:TGs):TG:=fun v σ H Q=>∃ a xs,v=.ref a/\SqT K H a xs/\xs.length=n/\t xs σ H Q
theorem zsb{es:List Expr}{k:Nat}{t:TGs}{n:Nat}(hc:X.calm=true)(h:PGs X es t)
  (hn:(assignEach es X.env).length=n:=by rfl) (hst:(assignEach es X.env).findIdx? (·.1)=none:=by rfl):PG X (.Tuple es k pos) (gTup X.K n t):=by
 intro pins s σ H v u Q I r hw
 obtain ⟨a,xs,e1,hq,hl,hw⟩:=hw
 subst e1
 cases r
 obtain ⟨its,rv,ht,hz⟩:=I.tuple hq
 refine assign_Tuple_tuple (I.ok.hd hc) ht (by simp[hn,<- hl,rv.length]) hst fun h' hx=>?_
 have I1:Inv X pins σ H { s with heap:=h' }:=I.kept (t':=s.toks) fun b o e=>hx b o (Nat.ne_of_lt (Heap.lt_size e)) e
 exact h pins _ σ H xs _ Q I1 (by simpa using rv) hw
def zmJ(to ti:TE)(t:ztN):TG:=fun v σ H Q=>to σ H fun o H1=>ti σ H1 fun i H2=>t o i v H2 fun H3=>Q σ H3
theorem zsH{o i:Expr}{to ti:TE}{t:ztN}(ho:PE X o to)(hi:PE X i ti)(hs:PSet X t)
  (ha:∀ v,assign (.Subscript o i pos) X.env v=(do
   let ov <- holding [v] (eval o X.env)
   let iv <- holding [v,ov] (eval i X.env)
   standAt pos
   holding [v,ov,iv] (setItem ov iv v)
   release [v,ov,iv] []):=by intro _;rfl):PG X (.Subscript o i pos) (zmJ to ti t):=by
 intro pins s σ H v u Q I r h
 rw[ha]
 refine wpAny_bind (wpAny_holding (thn (ho pins s σ H _ I h) fun ov s1 ⟨x,H1,I1,r1,q1⟩=>?_))
 refine wpAny_bind (wpAny_holding (thn (hi pins s1 σ H1 _ I1 q1) fun iv s2 ⟨y,H2,I2,r2,q2⟩=>?_))
 refine wpAny_bind (wpAny_standAt (wpAny_bind (wpAny_holding (thn (hs pins s2 σ H2 x y v ov iv u _ I2 r1 r2 r q2) fun _ s3 ⟨H3,I3,q3⟩=>?_))))
 exact wpAny_release ⟨σ,H3,I3,q3⟩
def tAsg(te:TE)(g:TG):TS:=fun D σ H=>te σ H fun x H1=>g x σ H1 D.nx
theorem ztg{tg e:Expr}{te:TE}{g:TG}(he:PE X e te)(hg:PG X tg g)(hs:swapsWithSole [tg] e pos.line X.env=pure false:=by rfl)(hw:swappedStores [tg] e X.env=pure none:=by rfl)
  (h1:(assignEach [tg] X.env).map (·.2)=[assign tg X.env]:=by rfl):PS X (.Assign [tg] e pos) (tAsg te g):=by
 intro pins s σ H D I h
 refine wpAny_Assign_stores (thn (he pins s σ H _ I h) fun v s1 ⟨x,H1,I1,r1,q1⟩=>?_) hs hw
 rw[h1]
 exact thn (hg pins s1 σ H1 x v _ I1 r1 q1) fun _ s2 q=>q
theorem zm6{i:Nat}{x:Str}{e:Expr}{te:TE}{pos':Pos}(hN:X.N.Nodup)(hi:X.N[i]? = some x)(hx:Loc X.env.scope x)(he:PE X e te)(hs:swapsWith e (some (.Name x pos')) pos.line X.env=pure false:=by rfl)(hf:X.fn x=true\/X.env.scope.names.lookup x=some .local:=by first|exact .inl rfl|exact .inr rfl|assumption) :
  PS X (.Assign [.Name x pos'] e pos) (tAsg te (zsr i)):=by
 intro pins s σ H D I h
 refine wpAny_Assign_Name (thn (he pins s σ H _ I h) fun v s1 ⟨y,H1,I1,r1,q1⟩=>?_) hs
 exact zhv I1 hN hi hx r1 (fun s2 I2=>⟨_,H1,I2,q1⟩) hf
end
section
variable{X:Cx}{pos:Pos}
def zrP(c:TT)(tb:TS):TS:=fun D σ H=>∃ W:Nat->St->Hp->Prop,(∃ m,W m σ H)/\∀ m σ H,W m σ H ->
 c σ H fun b H1=>if b=true then ∃ N:St->Hp->Prop,(∀ σ' H',N σ' H'->∃ m',m'<m/\W m' σ' H')/\tb { D with nx:=N,ct:=N,bk:=D.nx } σ H1 else D.nx σ H1
theorem zps{c:Expr}{body:List Stmt}{tc:TT}{tb:TS}(hp:PassesOwn (model X.prog X.w) X.A X.env X.xe)(hc:PT X c tc)(hb:PSs X body tb):PS X (.While c body [] pos) (zrP tc tb):=by
 intro pins s σ H D I h
 obtain ⟨W,⟨m0,w0⟩,turn⟩:=h
 refine wpAny_While (codeAny_whileLoop (fun n s'=>∃ σ' H',Inv X pins σ' H' s'/\W n σ' H') ?_ m0 ⟨σ,H,I,w0⟩)
 rintro n s1 ⟨σ1,H1,I1,w1⟩
 refine wpAny_passesOwn hp (thn (hc pins s1 σ1 H1 _ I1 (turn n σ1 H1 w1)) fun b s2 ⟨H2,I2,q2⟩=>?_)
 cases b with
 |true =>
  obtain ⟨N,hN,q2⟩:=q2
  rw[if_pos rfl]
  refine wpAny_passesOwn hp (thn (hb pins s2 σ1 H2 _ I2 q2) fun f s3 q3=>?_)
  cases f with
  |next =>
   obtain ⟨σ3,H3,I3,n3⟩:=q3
   obtain ⟨m',hm,w3⟩:=hN σ3 H3 n3
   exact ⟨m',hm,σ3,H3,I3,w3⟩
  |cont =>
   obtain ⟨σ3,H3,I3,n3⟩:=q3
   obtain ⟨m',hm,w3⟩:=hN σ3 H3 n3
   exact ⟨m',hm,σ3,H3,I3,w3⟩
  |brk=>exact q3
  |ret v=>exact q3
 |false =>
  rw[if_neg Bool.false_ne_true]
  exact wpAny_execs_nil ⟨σ1,H2,I2,q2⟩
end
structure It where
 go:Nat->Hp->Prop
 yld:Nat->Hp->V->Hp->Prop
 stop:Nat->Hp->Prop
def zgx(X:Cx)(pins:List (Addr×Obj))(H:Hp)(b:Addr):Prop :=
 H b=none/\b≠X.env.locals/\b∉X.fs/\(b∈X.ex\/X.s₀.heap.objs.size<=b)/\(∀ x c,X.env.cells.lookup x=some c->c≠b)/\∀ p∈X.pn++pins,p.1≠b
theorem Inv.fpOk{X:Cx}{pins:List (Addr×Obj)}{σ:St}{H H':Hp}{s:Shared}{b:Addr}(I:Inv X pins σ H s)(hb:s.heap.objs.size<=b)(hn:H' b=none):zgx X pins H' b:=by
 refine ⟨hn,Nat.ne_of_gt (Nat.lt_of_lt_of_le I.lt hb),I.nofs hb,.inr (Nat.le_trans I.sz hb),fun x c e z=>?_,fun p hp z=>?_⟩
 ·obtain ⟨v,q⟩:=I.cell x c e
  exact absurd (Nat.lt_of_lt_of_le q.lt (by rw[z];exact hb)) (Nat.lt_irrefl _)
 ·exact absurd (Nat.lt_of_lt_of_le (Heap.lt_size (I.pin p hp).1) (by rw[z];exact hb)) (Nat.lt_irrefl _)
structure zlV(P:Program)(w:World)(K:W.Frag)(tg:Expr)(J:It)(fp:List Addr)(it:Addr)(tn:Nat->Heap->Prop):Prop where
 mem:it∈fp
 obj:∀ i h,tn i h->∀ b∈fp,∃ o,h.get? b=some o/\∀ v,o.data≠.cell v
 keep:∀ i h h',tn i h->(∀ b∈fp,∀ o,h.get? b=some o->h'.get? b=some o)->tn i h'
 item:∀(X:Cx),X.prog=P->X.w=w->X.K=K->X.calm=true->∀(i:Nat)(pins:List (Addr×Obj))(s:Shared)(σ:St)(H:Hp)(E:Value->Shared->Prop),Inv X pins σ H s->(∀ b∈fp,zgx X pins H b)->tn i s.heap->J.go i H ->
  wpAny (model P w) X.A (pyNext (.ref it)) (fun r s1=>∃ u,r=some u /\
   wpAny (model P w) X.A (letOwnedTupleGo tg (.ref it) u) (fun _ s2=>∃ x H',Inv X pins σ H' s2/\zbD x u/\J.yld i H x H'/\tn (i+1) s2.heap/\∀ b∈fp,H' b=none) E s1) E s
 done:∀(X:Cx),X.prog=P->X.w=w->X.K=K->X.calm=true->∀(i:Nat)(pins:List (Addr×Obj))(s:Shared)(σ:St)(H:Hp)(E:Value->Shared->Prop),Inv X pins σ H s->(∀ b∈fp,zgx X pins H b)->tn i s.heap->J.stop i H ->
  wpAny (model P w) X.A (pyNext (.ref it)) (fun r s1=>r=none/\Inv X pins σ H s1) E s
 self:∀(A:Around)(i:Nat)(s:Shared)(Q:Value->Shared->Prop)(E:Value->Shared->Prop),tn i s.heap->Q (.ref it) s->wpAny (model P w) A (pyIter (.ref it)) Q E s
abbrev TI:=St->Hp->(It->Hp->Prop)->Prop
def PIE(X:Cx)(pins:List (Addr×Obj))(σ:St)(tg:Expr)(R:It->Hp->Prop)(itv:Value)(s2:Shared):Prop :=
 ∃(it:Addr)(fp:List Addr)(tn:Nat->Heap->Prop)(J:It)(H':Hp),itv=.ref it/\Inv X pins σ H' s2/\zlV X.prog X.w X.K tg J fp it tn/\tn 0 s2.heap/\(∀ b∈fp,zgx X pins H' b)/\R J H'
def PI(X:Cx)(tg iter:Expr)(wi:TI):Prop :=
 ∀(pins:List (Addr×Obj))(s:Shared)(σ:St)(H:Hp)(R:It->Hp->Prop),Inv X pins σ H s->wi σ H R ->
  wpAny (model X.prog X.w) X.A (eval iter X.env) (fun v s1=>wpAny (model X.prog X.w) X.A (pyIter v) (PIE X pins σ tg R) X.xe s1) X.xe s
theorem zry{M:Model}{A:Around}{E:Value->Shared->Prop}{s:Shared}{tg:Expr}{it:Addr}{u:Value}{o:Obj}{n:String}{vs:Array Value}{Q:Unit->Shared->Prop}(ho:s.heap.get? it=some o)(hc:o.cls=.type n)(hd:o.data=.fields vs)
  (hn:["enumerate","zip","dict_itemiterator","dict_reverseitemiterator","odict_iterator","itertools.zip_longest","itertools.pairwise"].contains n=false) (hQ:Q () s):wpAny M A (letOwnedTupleGo tg (.ref it) u) Q E s:=by
 unfold letOwnedTupleGo
 cases tg <;> first
  |exact wpAny_pure hQ
  | (cases u <;> first
    |exact wpAny_pure hQ
    | (refine wpAny_bind (wpAny_load ho ?_)
       rw[hc,hd]
       show wpAny M A (if (["enumerate","zip","dict_itemiterator","dict_reverseitemiterator","odict_iterator","itertools.zip_longest","itertools.pairwise"].contains n && vs[0]? == some (rawInt _))=true then _ else _) Q E s
       rw[if_neg (by intro h;rw[hn,Bool.false_and] at h;cases h)]
       exact wpAny_pure hQ))
def Itl(K:W.Frag)(a:Addr):It :=
 ⟨fun i H=>∃ xs x,SqL K H a xs/\xs[i]? = some x,fun i H x H'=>H'=H/\∀ xs,SqL K H a xs->xs[i]? = some x,fun i H=>∃ xs,SqL K H a xs/\xs.length<=i⟩
def Itt(K:W.Frag)(a:Addr):It :=
 ⟨fun i H=>∃ xs x,SqT K H a xs/\xs[i]? = some x,fun i H x H'=>H'=H/\∀ xs,SqT K H a xs->xs[i]? = some x,fun i H=>∃ xs,SqT K H a xs/\xs.length<=i⟩
def Itr(lo:Int)(n:Nat):It:=⟨fun i _=>i<n,fun i H x H'=>H'=H/\x=.int (lo+i),fun i _=>n<=i⟩
theorem zlS{P:Program}{w:World}{K:W.Frag}{tg:Expr}(a it:Addr):zlV P w K tg (Itl K a) [it] it (fun i h=>h.IsListIter it a i) where
 mem:=by simp
 obj:=fun i h st b hb=>by
  have e:b=it:=by simpa using hb
  subst e
  obtain ⟨o,e,c,d⟩:=st
  exact ⟨o,e,fun v z=>by rw[d] at z;cases z⟩
 keep:=fun i h h' st k=>st.at fun o e=>k it (by simp) o e
 item:=by
  intro X hP hw hK hc i pins s σ H E I hf st hg
  subst hP hw hK
  obtain ⟨xs,x,hq,hx⟩:=hg
  obtain ⟨its,rv,p,hz⟩:=I.list hq
  obtain ⟨u,hu,ru⟩:=rv.get hx
  obtain ⟨f0,f1,f2,f3,f4,f5⟩:=hf it (by simp)
  refine wpAny_pyNext_list_item st p.isList (x:=u) (by simpa using hu) fun h' st' sb=>?_
  have I1:Inv X pins σ H { s with heap:=h' }:=I.turned (t':=s.toks) (fun b o hb e=>(sb.2 b hb).trans e) f0 f1 f3 f4 f5
  obtain ⟨o,e,c,d⟩:=id st'
  exact ⟨u,rfl,zry (s:={ s with heap:=h' }) e c d (by decide) ⟨x,H,I1,ru,⟨rfl,fun ys hy=>by rw[I.list_inj hy hq];exact hx⟩,st',fun b hb=>(hf b hb).1⟩⟩
 done:=by
  intro X hP hw hK hc i pins s σ H E I hf st hg
  subst hP hw hK
  obtain ⟨xs,hq,hx⟩:=hg
  obtain ⟨its,rv,p,hz⟩:=I.list hq
  obtain ⟨f0,f1,f2,f3,f4,f5⟩:=hf it (by simp)
  have hl:=rv.length
  exact wpAny_pyNext_list_end (I.ok.hd hc) st p.isList (by simp;omega) fun h' eb=>⟨rfl,I.turned (t':=s.toks) (fun b o hb e=>eb b o hb e) f0 f1 f3 f4 f5⟩
 self:=fun _ _ _ _ _ st h=>wpAny_pyIter_listiter st h
theorem zlt{P:Program}{w:World}{K:W.Frag}{tg:Expr}(a it:Addr):zlV P w K tg (Itt K a) [it] it (fun i h=>h.IsTupleIter it a i) where
 mem:=by simp
 obj:=fun i h st b hb=>by
  have e:b=it:=by simpa using hb
  subst e
  obtain ⟨o,e,c,d⟩:=st
  exact ⟨o,e,fun v z=>by rw[d] at z;cases z⟩
 keep:=fun i h h' st k=>st.at fun o e=>k it (by simp) o e
 item:=by
  intro X hP hw hK hc i pins s σ H E I hf st hg
  subst hP hw hK
  obtain ⟨xs,x,hq,hx⟩:=hg
  obtain ⟨its,rv,p,hz⟩:=I.tuple hq
  obtain ⟨u,hu,ru⟩:=rv.get hx
  obtain ⟨f0,f1,f2,f3,f4,f5⟩:=hf it (by simp)
  refine wpAny_pyNext_tuple_item st (show s.heap.IsTuple a its.toArray from p) (x:=u) (by simpa using hu) fun h' st' sb=>?_
  have I1:Inv X pins σ H { s with heap:=h' }:=I.turned (t':=s.toks) (fun b o hb e=>(sb.2 b hb).trans e) f0 f1 f3 f4 f5
  obtain ⟨o,e,c,d⟩:=id st'
  exact ⟨u,rfl,zry (s:={ s with heap:=h' }) e c d (by decide) ⟨x,H,I1,ru,⟨rfl,fun ys hy=>by rw[I.tuple_inj hy hq];exact hx⟩,st',fun b hb=>(hf b hb).1⟩⟩
 done:=by
  intro X hP hw hK hc i pins s σ H E I hf st hg
  subst hP hw hK
  obtain ⟨xs,hq,hx⟩:=hg
  obtain ⟨its,rv,p,hz⟩:=I.tuple hq
  obtain ⟨f0,f1,f2,f3,f4,f5⟩:=hf it (by simp)
  have hl:=rv.length
  exact wpAny_pyNext_tuple_end (I.ok.hd hc) st (show s.heap.IsTuple a its.toArray from p) (by simp;omega) fun h' eb=>⟨rfl,I.turned (t':=s.toks) (fun b o hb e=>eb b o hb e) f0 f1 f3 f4 f5⟩
 self:=fun _ _ _ _ _ st h=>wpAny_pyIter_tupleiter st h
theorem zlB{P:Program}{w:World}{K:PySem.W.Frag}{tg:Expr}(it:Addr)(lo:Int)(n:Nat):zlV P w K tg (Itr lo n) [it] it (fun i h=>IsRangeIter h it (lo+(i:Nat) * 1) ((n:Int)-(i:Nat)) 1) where
 mem:=by simp
 obj:=fun i h st b hb=>by
  have e:b=it:=by simpa using hb
  subst e
  exact ⟨_,st,fun v z=>by
   have z':Data.fields _=Data.cell v:=z
   cases z'⟩
 keep:=fun i h h' st k=>k it (by simp) _ st
 item:=by
  intro X hP hw hK hc i pins s σ H E I hf st hg
  subst hP hw hK
  obtain ⟨f0,f1,f2,f3,f4,f5⟩:=hf it (by simp)
  have W:=Walks.range (prog:=X.prog) (w:=X.w) (I.ok.hd hc) it lo 1 n
  refine W.item i s _ _ hg st fun v h' tk hv st' kk=>?_
  obtain ⟨t,rfl⟩:=hv
  have I1:Inv X pins σ H { s with heap:=h',toks:=tk }:=I.turned (fun b o hb e=>kk b o (by simpa using hb) e) f0 f1 f3 f4 f5
  refine ⟨_,rfl,zry (s:={ s with heap:=h',toks:=tk }) (n:="range_iterator") st' rfl rfl (by decide) ⟨.int (lo+i),H,I1,⟨t,?_⟩,⟨rfl,rfl⟩,st',fun b hb=>(hf b hb).1⟩⟩
  rw[Int.mul_one]
 done:=by
  intro X hP hw hK hc i pins s σ H E I hf st hg
  subst hP hw hK
  obtain ⟨f0,f1,f2,f3,f4,f5⟩:=hf it (by simp)
  exact wpAny_pyNext_range_end (I.ok.hd hc) st (by have:n<=i:=hg;omega) fun h' eb=>⟨rfl,I.turned (t':=s.toks) (fun b o hb e=>eb b o hb e) f0 f1 f3 f4 f5⟩
 self:=fun _ _ _ _ _ st h=>wpAny_pyIter_rangeiter st h
end L2
namespace L2
open PySem PySem.Spec PyProof.Rows
section
variable{X:Cx}{tg:Expr}
def zuf(K:W.Frag)(tl:TE):TI:=fun σ H R=>tl σ H fun x H1=>∃ a,x=.ref a/\(∃ xs,SqL K H1 a xs)/\R (Itl K a) H1
def iTup(K:W.Frag)(tl:TE):TI:=fun σ H R=>tl σ H fun x H1=>∃ a,x=.ref a/\(∃ xs,SqT K H1 a xs)/\R (Itt K a) H1
theorem zqv{l:Expr}{tl:TE}(hl:PE X l tl):PI X tg l (zuf X.K tl):=by
 intro pins s σ H R I h
 refine thn (hl pins s σ H _ I h) fun v s1 ⟨x,H1,I1,r1,q1⟩=>?_
 obtain ⟨a,e,⟨xs,hq⟩,q⟩:=q1
 subst e
 cases r1
 obtain ⟨its,rv,p,hz⟩:=I1.list hq
 refine wpAny_pyIter_list p.isList ?_
 refine ⟨s1.heap.objs.size,[s1.heap.objs.size],_,_,H1,rfl,I1.kept (t':=s1.toks) fun b o e=>Heap.get?_push_of_some _ e,zlS a _,⟨_,Heap.get?_push_size _ rfl,rfl,rfl⟩,fun b hb=>?_,q⟩
 have e:b=s1.heap.objs.size:=by simpa using hb
 subst e
 exact I1.fpOk (Nat.le_refl _) (I1.hok.fresh (Nat.le_refl _))
theorem zsI{l:Expr}{tl:TE}(hl:PE X l tl):PI X tg l (iTup X.K tl):=by
 intro pins s σ H R I h
 refine thn (hl pins s σ H _ I h) fun v s1 ⟨x,H1,I1,r1,q1⟩=>?_
 obtain ⟨a,e,⟨xs,hq⟩,q⟩:=q1
 subst e
 cases r1
 obtain ⟨its,rv,p,hz⟩:=I1.tuple hq
 refine wpAny_pyIter_tuple (show s1.heap.IsTuple a its.toArray from p) ?_
 refine ⟨s1.heap.objs.size,[s1.heap.objs.size],_,_,H1,rfl,I1.kept (t':=s1.toks) fun b o e=>Heap.get?_push_of_some _ e,zlt a _,⟨_,Heap.get?_push_size _ rfl,rfl,rfl⟩,fun b hb=>?_,q⟩
 have e:b=s1.heap.objs.size:=by simpa using hb
 subst e
 exact I1.fpOk (Nat.le_refl _) (I1.hok.fresh (Nat.le_refl _))
theorem znL{pins:List (Addr×Obj)}{σ:St}{H:Hp}{s:Shared}{R:It->Hp->Prop}{E:Value->Shared->Prop}{lo hi:Int}{t u v:Tok}{tk:Nat}(I:Inv X pins σ H s)(h1:-(2 ^ 62)<=lo)(h2:lo<2 ^ 62)(h3:-(2 ^ 62)<=hi)(h4:hi<2 ^ 62)
  (q:R (Itr lo (hi-lo).toNat) H):wpAny (model X.prog X.w) X.A (pyIter (.ref s.heap.objs.size)) (PIE X pins σ tg R) E { s with heap:=s.heap.push { cls:=.type "range",data:=.fields #[.int lo t,.int hi u,.int 1 v] },toks:=tk }:=by
 refine wpAny_pyIter_range (IsRange.new ..) (small_one h1 h2 h3 h4) ?_
 have I1:Inv X pins σ H { s with heap:=s.heap.push { cls:=.type "range",data:=.fields #[.int lo t,.int hi u,.int 1 v] },toks:=tk }:=I.kept fun b o e=>Heap.get?_push_of_some _ e
 refine ⟨(s.heap.push { cls:=.type "range",data:=.fields #[.int lo t,.int hi u,.int 1 v] }).objs.size,[(s.heap.push { cls:=.type "range",data:=.fields #[.int lo t,.int hi u,.int 1 v] }).objs.size],_,_,H,rfl,
  I1.kept (t':=tk) fun b o e=>Heap.get?_push_of_some _ e,zlB _ lo (hi-lo).toNat,?_,fun b hb=>?_,q⟩
 ·have e1:lo+((0:Nat):Int) * 1=lo:=by simp
  have e2:(((hi-lo).toNat:Nat):Int)-((0:Nat):Int)=Builtin.Range.rangeSize lo hi 1:=by rw[rangeSize_one];split <;> omega
  show IsRangeIter _ _ (lo+((0:Nat):Int) * 1) ((((hi-lo).toNat:Nat):Int)-((0:Nat):Int)) 1
  rw[e1,e2]
  exact Heap.get?_push_size _ rfl
 ·have e:b=(s.heap.push { cls:=.type "range",data:=.fields #[.int lo t,.int hi u,.int 1 v] }).objs.size:=by simpa using hb
  subst e
  exact I1.fpOk (Nat.le_refl _) (I1.hok.fresh (Nat.le_refl _))
def zua(ta:TA):TI:=fun σ H R=>ta σ H fun vs H1=>∃ j:Int,vs=[.int j]/\-(2 ^ 62)<=j/\j<2 ^ 62/\R (Itr 0 j.toNat) H1
theorem zml{a:Expr}{ta:TA}{p pos:Pos}(hg:Gl X "range")(hm:X.mg "range"=none)(ha:PA X [a] ta)(hs:starEach [a] X.env=[(false,eval a X.env)]:=by rfl):PI X tg (.Call (.Name "range" p) [a] [] pos) (zua ta):=by
 intro pins s σ H R I h
 refine Call_ (zeC I hg hm boot_range (PyProof.Rows.callWith_type1 (thn (ha pos pins s σ H _ I h) fun us s1 ⟨vs,H1,I1,r1,q1⟩=>?_) hs rfl))
 obtain ⟨j,e,q1,q2,q⟩:=q1
 subst e
 cases r1 with
 |cons r rr =>
  cases rr
  obtain ⟨t,rfl⟩:=r
  exact call_range_1 (znL I1 (by omega) (by omega) q1 q2 (by simpa using q))
def tFor(wi:TI)(g:TG)(tb:TS):TS:=fun D σ H=>wi σ H fun J H1=>∃ W:Nat->Nat->St->Hp->Prop,(∃ m,W 0 m σ H1)/\∀ i m σ H,W i m σ H ->
 (J.stop i H/\D.nx σ H)\/(J.go i H/\∃ N:St->Hp->Prop,(∀ σ' H',N σ' H'->∃ m',m'<m/\W (i+1) m' σ' H')/\∀ x H',J.yld i H x H'->g x σ H' fun σ2 H2=>tb { D with nx:=N,ct:=N,bk:=D.nx } σ2 H2)
def zcA(fp:List Addr)(h:Heap):List (Addr×Obj):=fp.filterMap fun b=>(h.get? b).map fun o=>(b,o)
theorem zck{fp:List Addr}{h:Heap}{b:Addr}{o:Obj}(hb:b∈fp)(e:h.get? b=some o):(b,o)∈zcA fp h:=List.mem_filterMap.mpr ⟨b,hb,by rw[e];rfl⟩
theorem zmF{fp:List Addr}{h:Heap}{p:Addr×Obj}(hp:p∈zcA fp h):p.1∈fp/\h.get? p.1=some p.2:=by
 obtain ⟨b,hb,e⟩:=List.mem_filterMap.mp hp
 cases q:h.get? b with
 |none=>rw[q] at e;cases e
 |some o =>
  rw[q] at e
  have e':(b,o)=p:=Option.some.inj e
  subst e'
  exact ⟨hb,q⟩
theorem Inv.pinned{pins:List (Addr×Obj)}{σ:St}{H:Hp}{s:Shared}{fp:List Addr}(I:Inv X pins σ H s)(hf:∀ b∈fp,zgx X pins H b)(ho:∀ b∈fp,∃ o,s.heap.get? b=some o/\∀ v,o.data≠.cell v):Inv X (pins++zcA fp s.heap) σ H s :=
 I.pins_of fun p hp=>(List.mem_append.mp hp).elim (fun z=>I.pin p (List.mem_append_right _ z)) fun z=>by
  obtain ⟨hb,e⟩:=zmF z
  obtain ⟨f0,f1,f2,_⟩:=hf p.1 hb
  obtain ⟨o,e',d⟩:=ho p.1 hb
  rw[e] at e';cases e'
  exact ⟨e,f0,f1,f2,d⟩
theorem Inv.unpinned{pins pl:List (Addr×Obj)}{σ:St}{H:Hp}{s:Shared}(I:Inv X (pins++pl) σ H s):Inv X pins σ H s:=I.pins_of fun p hp=>I.pin p (List.mem_append_right _ (List.mem_append_left _ hp))
theorem zrT{iter:Expr}{body:List Stmt}{wi:TI}{g:TG}{tb:TS}{pos:Pos}(hp:PassesOwn (model X.prog X.w) X.A X.env X.xe)(hc:X.calm=true)(hi:PI X tg iter wi)(hg:PG X tg g)(hb:PSs X body tb)
  (hs:∀ x,foldedSetIterable iter X.env x=pure x:=by intro _;rfl):PS X (.For tg iter body [] pos) (tFor wi g tb):=by
 intro pins s σ H D I h
 refine wpAny_For (thn (hi pins s σ H _ I h) fun v s1 h1=>thn h1 fun itv s2 h2=>?_) hs
 obtain ⟨it,fp,tn,J,H2,e,I2,T,st2,f2,W,⟨m0,w0⟩,turn⟩:=h2
 subst e
 have stat:∀{H':Hp},(∀ b∈fp,H' b=none)->∀ b∈fp,zgx X pins H' b:=fun hn b hb=>⟨hn b hb,(f2 b hb).2⟩
 refine codeAny_forLoop_any (fun n s'=>∃ i σ' H',Inv X pins σ' H' s'/\tn i s'.heap/\(∀ b∈fp,H' b=none)/\W i n σ' H') ?_ m0 ⟨0,σ,H2,I2,st2,fun b hb=>(f2 b hb).1,w0⟩
 rintro n s3 ⟨i,σ3,H3,I3,st3,fr3,w3⟩
 rcases turn i n σ3 H3 w3 with ⟨stop,qn⟩|⟨go,N,hN,step⟩
 ·refine wpAny_passesOwn hp (thn (T.done X rfl rfl rfl hc i pins s3 σ3 H3 X.xe I3 (stat fr3) st3 stop) fun r s4 ⟨hr,I4⟩=>?_)
  subst hr
  exact wpAny_execs_nil ⟨σ3,H3,I4,qn⟩
 ·refine wpAny_passesOwn hp (thn (T.item X rfl rfl rfl hc i pins s3 σ3 H3 X.xe I3 (stat fr3) st3 go) fun r s4 ⟨u,hr,h4⟩=>?_)
  subst hr
  refine wpAny_passesOwn hp (thn h4 fun _ s5 ⟨x,H5,I5,r5,y5,st5,fr5⟩=>?_)
  have I5':=I5.pinned (stat fr5) (T.obj _ _ st5)
  refine wpAny_passesOwn hp (thn (hg _ s5 σ3 H5 x u _ I5' r5 (step x H5 y5)) fun _ s6 ⟨σ6,H6,I6,q6⟩=>?_)
  refine wpAny_passesOwn hp (thn (hb _ s6 σ6 H6 _ I6 q6) fun f s7 q7=>?_)
  have again:∀{σ7:St}{H7:Hp},Inv X (pins++zcA fp s5.heap) σ7 H7 s7->N σ7 H7->∃ m,m<n/\∃ i σ' H',Inv X pins σ' H' s7/\tn i s7.heap/\(∀ b∈fp,H' b=none)/\W i m σ' H':=fun {σ7 H7} I7 n7=>by
   obtain ⟨m',hm,w7⟩:=hN σ7 H7 n7
   refine ⟨m',hm,i+1,σ7,H7,I7.unpinned,T.keep _ _ _ st5 fun b hb o e=>(I7.pin (b,o) (List.mem_append_right _ (List.mem_append_right _ (zck hb e)))).1,fun b hb=>?_,w7⟩
   obtain ⟨o,e,d⟩:=T.obj _ _ st5 b hb
   exact (I7.pin (b,o) (List.mem_append_right _ (List.mem_append_right _ (zck hb e)))).2.1
  cases f with
  |next=>obtain ⟨σ7,H7,I7,n7⟩:=q7;exact again I7 n7
  |cont=>obtain ⟨σ7,H7,I7,n7⟩:=q7;exact again I7 n7
  |brk=>obtain ⟨σ7,H7,I7,q7⟩:=q7;exact ⟨σ7,H7,I7.unpinned,q7⟩
  |ret v=>obtain ⟨x7,σ7,H7,I7,r7,q7⟩:=q7;exact ⟨x7,σ7,H7,I7.unpinned,r7,q7⟩
end
end L2
namespace L2
open PySem PySem.Spec PyProof.Rows
abbrev R2:=V->V->Hp->VK->Prop
def OpR(X:Cx)(f:Value->Value->Sem Value)(r:R2):Prop :=
 ∀(pins:List (Addr×Obj))(s:Shared)(σ:St)(H:Hp)(x y:V)(v u:Value)(Q:VK),Inv X pins σ H s->zbD x v->zbD y u->r x y H Q ->
  wpAny (model X.prog X.w) X.A (f v u) (EP X pins σ Q) X.xe s
def UnR(X:Cx)(f:Value->Sem Value)(r:V->Hp->VK->Prop):Prop :=
 ∀(pins:List (Addr×Obj))(s:Shared)(σ:St)(H:Hp)(x:V)(v:Value)(Q:VK),Inv X pins σ H s->zbD x v->r x H Q ->
  wpAny (model X.prog X.w) X.A (f v) (EP X pins σ Q) X.xe s
def zcg(X:Cx)(f:Value)(r:List V->Hp->VK->Prop):Prop :=
 ∀(pins:List (Addr×Obj))(s:Shared)(σ:St)(H:Hp)(xs:List V)(us:List Value)(Q:VK),Inv X pins σ H s->zaM xs us->r xs H Q ->
  wpAny (model X.prog X.w) X.A (call f us) (EP X pins σ Q) X.xe s
def tOp(r:R2)(ta tb:TE):TE:=fun σ H Q=>ta σ H fun x H1=>tb σ H1 fun y H2=>r x y H2 Q
def tUn(r:V->Hp->VK->Prop)(ta:TE):TE:=fun σ H Q=>ta σ H fun x H1=>r x H1 Q
def rI(C:Int->Int->Prop)(g:Int->Int->V):R2:=fun x y H Q=>∃ i j,x=.int i/\y=.int j/\C i j/\Q (g i j) H
def rI0(g:Int->Int->V):R2:=fun x y H Q=>∃ i j,x=.int i/\y=.int j/\Q (g i j) H
def rU(g:Int->V):V->Hp->VK->Prop:=fun x H Q=>∃ i,x=.int i/\Q (g i) H
section
variable{X:Cx}{a b c:Expr}{ta tb tc:TE}{pos:Pos}
theorem ztE(ha:PE X a ta)(hb:PE X b tb){pins:List (Addr×Obj)}{s:Shared}{σ:St}{H:Hp}{R:V->V->Hp->Prop}(I:Inv X pins σ H s)
  (h:ta σ H fun x H1=>tb σ H1 fun y H2=>R x y H2) {Q:Value->Shared->Prop} {f:Value->Value->Sem Value}
  (hf:∀ v u s2 x y H2,Inv X pins σ H2 s2->zbD x v->zbD y u->R x y H2->wpAny (model X.prog X.w) X.A (f v u) Q X.xe s2) :
  wpAny (model X.prog X.w) X.A (eval a X.env) (fun v s₁=>wpAny (model X.prog X.w) X.A (eval b X.env) (fun u s₂=>wpAny (model X.prog X.w) X.A (f v u) Q X.xe s₂) X.xe s₁) X.xe s:=by
 refine thn (ha pins s σ H _ I h) fun v s1 ⟨x,H1,I1,r1,q1⟩=>?_
 refine thn (hb pins s1 σ H1 _ I1 q1) fun u s2 ⟨y,H2,I2,r2,q2⟩=>?_
 exact hf v u s2 x y H2 I2 r1 r2 q2
theorem zs6{op:Operator}{r:R2}(ho:OpR X (binaryOp op) r)(ha:PE X a ta)(hb:PE X b tb):PE X (.BinOp a op b pos) (tOp r ta tb):=by
 intro pins s σ H Q I h
 exact wpAny_BinOp (ztE ha hb I h fun v u s2 x y H2 I2 rx ry q=>ho pins s2 σ H2 x y v u Q I2 rx ry q)
theorem zrJ{op:UnaryOp}{r:V->Hp->VK->Prop}(ho:UnR X (unaryOp op) r)(ha:PE X a ta):PE X (.UnaryOp op a pos) (tUn r ta):=by
 intro pins s σ H Q I h
 exact UnaryOp_ (thn (ha pins s σ H _ I h) fun v s1 ⟨x,H1,I1,r1,q1⟩=>ho pins s1 σ H1 x v Q I1 r1 q1)
theorem opI{f:Value->Value->Sem Value}{C:Int->Int->Prop}{g:Int->Int->Int}
  (rule:∀(i j:Int)(t u:Tok)(s:Shared)(Q:Value->Shared->Prop)(E:Value->Shared->Prop),C i j->Q (.int (g i j) s.toks) { s with toks:=s.toks+1 }->wpAny (model X.prog X.w) X.A (f (.int i t) (.int j u)) Q E s) :
  OpR X f (rI C fun i j=>.int (g i j)):=by
 intro pins s σ H x y v u Q I rx ry h
 obtain ⟨i,j,rfl,rfl,hc,q⟩:=h
 obtain ⟨t,rfl⟩:=rx
 obtain ⟨t',rfl⟩:=ry
 exact rule i j t t' s _ _ hc ⟨.int (g i j),H,I.tok _,⟨_,rfl⟩,q⟩
theorem opI0{f:Value->Value->Sem Value}{g:Int->Int->Int}
  (rule:∀(i j:Int)(t u:Tok)(s:Shared)(Q:Value->Shared->Prop)(E:Value->Shared->Prop),Q (.int (g i j) s.toks) { s with toks:=s.toks+1 }->wpAny (model X.prog X.w) X.A (f (.int i t) (.int j u)) Q E s) :
  OpR X f (rI0 fun i j=>.int (g i j)):=by
 intro pins s σ H x y v u Q I rx ry h
 obtain ⟨i,j,rfl,rfl,q⟩:=h
 obtain ⟨t,rfl⟩:=rx
 obtain ⟨t',rfl⟩:=ry
 exact rule i j t t' s _ _ ⟨.int (g i j),H,I.tok _,⟨_,rfl⟩,q⟩
theorem ztV{f:Value->Value->Sem Value}{g:Int->Int->Bool}
  (rule:∀(i j:Int)(t u:Tok)(s:Shared)(Q:Value->Shared->Prop)(E:Value->Shared->Prop),Q (.bool (g i j)) s->wpAny (model X.prog X.w) X.A (f (.int i t) (.int j u)) Q E s) :
  OpR X f (rI0 fun i j=>.bl (g i j)):=by
 intro pins s σ H x y v u Q I rx ry h
 obtain ⟨i,j,rfl,rfl,q⟩:=h
 obtain ⟨t,rfl⟩:=rx
 obtain ⟨t',rfl⟩:=ry
 exact rule i j t t' s _ _ ⟨.bl (g i j),H,I,rfl,q⟩
def CDiv(i j:Int):Prop:=0<j/\j<1073741824
def CPow(i j:Int):Prop:=0<=j/\j<=1000000/\i.natAbs<2 ^ 64
def zto(i j:Int):Prop:=(-(2 ^ 64)<i/\i<2 ^ 64)\/(-(2 ^ 64)<j/\j<2 ^ 64)
theorem zto.ok{i j:Int}(h:zto i j):IntMulOk i j:=by
 rcases h with ⟨h1,h2⟩|⟨h1,h2⟩
 ·exact .of_left (intBits_le_64 h1 h2)
 ·exact .of_right (intBits_le_64 h1 h2)
theorem zsN:OpR X (binaryOp .Add) (rI0 fun i j=>.int (i+j)):=opI0 fun _ _ _ _ _ _ _ q=>add_int q
theorem zsU:OpR X (binaryOp .Sub) (rI0 fun i j=>.int (i-j)):=opI0 fun _ _ _ _ _ _ _ q=>sub_int q
theorem zsc:OpR X (binaryOp .Mult) (rI zto fun i j=>.int (i * j)):=opI fun _ _ _ _ _ _ _ hc q=>mul_int q hc.ok
theorem zqG:OpR X (binaryOp .FloorDiv) (rI CDiv fun i j=>.int (i / j)):=opI fun i j _ _ _ _ _ hc q=>by
 have h1:(0:Int)<j:=hc.1
 have h2:j<1073741824:=hc.2
 exact floordiv_int (by omega) (by rw[Int.fdiv_eq_ediv_of_nonneg i (by omega)];exact q) (.inl (PyProof.noPylong_small (by omega)))
theorem zsi:OpR X (binaryOp .Mod) (rI (fun _ j=>0<j) fun i j=>.int (i % j)):=opI fun i j _ _ _ _ _ hc q=>by
 have h1:(0:Int)<j:=hc
 exact mod_int' (by omega) (by rw[Int.fmod_eq_emod_of_nonneg i (by omega)];exact q)
theorem zss:OpR X (binaryOp .Pow) (rI CPow fun i j=>.int (i ^ j.toNat)):=opI fun _ _ _ _ _ _ _ hc q=>pow_int_small hc.1 hc.2.1 hc.2.2 q
theorem unI{f:Value->Sem Value}{g:Int->Int}
  (rule:∀(i:Int)(t:Tok)(s:Shared)(Q:Value->Shared->Prop)(E:Value->Shared->Prop),Q (.int (g i) s.toks) { s with toks:=s.toks+1 }->wpAny (model X.prog X.w) X.A (f (.int i t)) Q E s) :
  UnR X f (rU fun i=>.int (g i)):=by
 intro pins s σ H x v Q I rx h
 obtain ⟨i,rfl,q⟩:=h
 obtain ⟨t,rfl⟩:=rx
 exact rule i t s _ _ ⟨.int (g i),H,I.tok _,⟨_,rfl⟩,q⟩
theorem zpR:UnR X (unaryOp .USub) (rU fun i=>.int (-i)):=unI fun _ _ _ _ _ q=>neg_int q
end
section
variable{X:Cx}{a b c:Expr}{ta tb tc:TE}{pos:Pos}
theorem zud:OpR X (compareOp .Lt) (rI0 fun i j=>.bl (decide (i<j))):=ztV fun _ _ _ _ _ _ _ q=>lt_int q
theorem ztA:OpR X (compareOp .Gt) (rI0 fun i j=>.bl (decide (j<i))):=ztV fun _ _ _ _ _ _ _ q=>gt_int q
theorem ztW:OpR X (compareOp .GtE) (rI0 fun i j=>.bl (decide (j<=i))):=ztV fun _ _ _ _ _ _ _ q=>ge_int q
theorem OpR.or{f:Value->Value->Sem Value}{r r':R2}(h:OpR X f r)(h':OpR X f r'):OpR X f (fun x y H Q=>r x y H Q\/r' x y H Q):=by
 intro pins s σ H x y v u Q I rx ry q
 rcases q with q|q
 ·exact h pins s σ H x y v u Q I rx ry q
 ·exact h' pins s σ H x y v u Q I rx ry q
theorem zgj(b:Expr){op:CmpOp}(h:op≠.In:=by decide)(h2:op≠.NotIn:=by decide):behindInMarks op b=false:=by
 have e1:(op == CmpOp.In)=false:=by cases op <;> first|rfl|exact absurd rfl h
 have e2:(op == CmpOp.NotIn)=false:=by cases op <;> first|rfl|exact absurd rfl h2
 cases b <;> simp[behindInMarks,e1,e2]
theorem zqB{op:CmpOp}{r:R2}(ho:OpR X (compareOp op) r)(ha:PE X a ta)(hb:PE X b tb)(hm:behindInMarks op b=false):PE X (.Compare a [op] [b] pos) (tOp r ta tb):=by
 intro pins s σ H Q I h
 exact wpAny_Compare1 (ztE ha hb I h fun v u s2 x y H2 I2 rx ry q=>ho pins s2 σ H2 x y v u Q I2 rx ry q) hm
def ztS(t:TE):TT:=fun σ H Q=>t σ H fun x H'=>∃ k,x=.bl k/\Q k H'
theorem zke{op:CmpOp}{r:R2}(ho:OpR X (compareOp op) r)(ha:PE X a ta)(hb:PE X b tb)(hm:behindInMarks op b=false):PT X (.Compare a [op] [b] pos) (ztS (tOp r ta tb)):=by
 intro pins s σ H Q I h
 refine wpAny_isTrue_Compare1 (thn (ha pins s σ H _ I h) fun v s1 ⟨x,H1,I1,r1,q1⟩=>thn (hb pins s1 σ H1 _ I1 q1) fun u s2 ⟨y,H2,I2,r2,q2⟩ =>
  thn (ho pins s2 σ H2 x y v u _ I2 r1 r2 q2) fun c s3 ⟨z,H3,I3,r3,k,e,q3⟩=>?_) hm
 subst e
 cases r3
 exact wpAny_truthy_bool ⟨H3,I3,q3⟩
theorem ziR:(sizeLine:Nat)<2 ^ 63:=by rw[sizeLine_eq];decide
theorem zeX{x:V}{us:List Value}(r:zaM [x] us):∃ u,us=[u]/\zbD x u:=by
 cases r with
 |cons r1 r2=>cases r2;exact ⟨_,rfl,r1⟩
theorem zjA{x y:V}{us:List Value}(r:zaM [x,y] us):∃ u w',us=[u,w']/\zbD x u/\zbD y w':=by
 cases r with
 |cons r1 r2 =>
  cases r2 with
  |cons r3 r4=>cases r4;exact ⟨_,_,rfl,r1,r3⟩
theorem zmW(hc:X.calm=true):zcg X (.builtin "max") (fun xs H Q=>∃ i j,xs=[.int i,.int j]/\Q (.int (if j > i then j else i)) H):=by
 intro pins s σ H xs us Q I r h
 obtain ⟨i,j,rfl,q⟩:=h
 obtain ⟨u,w',rfl,⟨t,rfl⟩,⟨t',rfl⟩⟩:=zjA r
 refine max_two_ints (I.ok.hd hc) fun h' tk k=>⟨_,H,I.kept k,?_,q⟩
 by_cases hj:j > i
 ·rw[if_pos hj,if_pos hj];exact ⟨_,rfl⟩
 ·rw[if_neg hj,if_neg hj];exact ⟨_,rfl⟩
theorem znd(hc:X.calm=true):zcg X (.builtin "min") (fun xs H Q=>∃ i j,xs=[.int i,.int j]/\Q (.int (if j<i then j else i)) H):=by
 intro pins s σ H xs us Q I r h
 obtain ⟨i,j,rfl,q⟩:=h
 obtain ⟨u,w',rfl,⟨t,rfl⟩,⟨t',rfl⟩⟩:=zjA r
 refine min_two_ints (I.ok.hd hc) fun h' tk k=>⟨_,H,I.kept k,?_,q⟩
 by_cases hj:j<i
 ·rw[if_pos hj,if_pos hj];exact ⟨_,rfl⟩
 ·rw[if_neg hj,if_neg hj];exact ⟨_,rfl⟩
end
end L2
namespace L2
open PySem PySem.Spec PyProof.Rows
structure ObjM(h:Heap)(x dx C:Addr)(mA:Str->Option Value):Prop where
 obj:h.get? x=some (W.instObj C dx)
 ns:h.Ns1 dx mA
 ne:dx≠x
section
variable{prog:Program}{w:World}{A:Around}{E:Value->Shared->Prop}{s:Shared}{K:W.Frag}{x dx C f:Addr}{mA:Str->Option Value}{name:Str}{v:Value}
end
section
variable{P:Program}{w:World}{H H':Hp}{h h':Heap}{a C dx:Addr}{fs fs':List (Str×V)}
end
structure Cls(K:W.Frag)(C:Addr):Prop where
 pg:W.plainGet K C Str.empty=true
 hd:W.hasDictIn K C=true
 po:W.plainOver K C=true
 sa:W.findIn K (.ref C) "__setattr__"=some (some (.builtin "object.__setattr__"))
theorem Cls.get{K:W.Frag}{C:Addr}(c:Cls K C)(f:Str):W.plainGet K C f=true:=c.pg
structure Con(K:W.Frag)(C:Addr)(f:Str)(v:V)(u:Value):Prop where
 at_:W.findIn K (.ref C) f=some (some u)
 rel:zbD v u
 get:W.specialIn K u "__get__"=some none
 cp:W.copiedNames.contains f=false
structure Meth(K:W.Frag)(C:Addr)(m:Str)(f:Addr):Prop where
 at_:W.findIn K (.ref C) m=some (some (.ref f))
 fn:W.isFn K (.ref f)=true
 kp:W.keepIn K (.ref f)=true
section
variable{X:Cx}{pins:List (Addr×Obj)}{σ:St}{H:Hp}{s:Shared}{a C dx:Addr}{fs:List (Str×V)}{f:Str}{v:V}{A:Around}{E:Value->Shared->Prop}
theorem Inv.made(I:Inv X pins σ H s):Inv X pins σ (upd (upd H s.heap.objs.size (.own (s.heap.objs.size+1))) (s.heap.objs.size+1) (.ins C s.heap.objs.size []))
  { s with heap:=(s.heap.push W.emptyDict).push (W.instObj C s.heap.objs.size) }:=by
 have e1:(s.heap.push W.emptyDict).get? s.heap.objs.size=some W.emptyDict:=Heap.get?_push_size s.heap rfl
 have e2:((s.heap.push W.emptyDict).push (W.instObj C s.heap.objs.size)).get? (s.heap.objs.size+1)=some (W.instObj C s.heap.objs.size):=by
  have:=Heap.get?_push_size (s.heap.push W.emptyDict) (o:=W.instObj C s.heap.objs.size) rfl
  rwa [Heap.size_push] at this
 have e3:(s.heap.push W.emptyDict).Ns s.heap.objs.size (fun _=>none):=⟨W.emptyDict,#[],_,e1,rfl,(fun e he=>absurd he (by simp)),fun _=>rfl⟩
 have I1:=I.laid (a:=s.heap.objs.size) (o:=.own (s.heap.objs.size+1)) (h':=s.heap.push W.emptyDict) (t':=s.toks) (fun b u q=>Heap.get?_push_of_some _ q) (Nat.le_refl _) ⟨_,e1⟩
 refine I1.laid (a:=s.heap.objs.size+1) (o:=.ins C s.heap.objs.size []) (t':=s.toks) (fun b u q=>Heap.get?_push_of_some _ q) (Nat.le_of_eq (Heap.size_push _ _)) ?_
 have ne:s.heap.objs.size≠s.heap.objs.size+1:=Nat.ne_of_lt (Nat.lt_succ_self _)
 refine ⟨by rw[zae ne,zah],Nat.zero_le _,ne,e2,fun _=>none,(Heap.Ns1.of_empty e3).at fun o q=>Heap.get?_push_of_some _ q,fun _=>True.intro,fun y hy=>absurd rfl hy⟩
end
section
variable{X:Cx}{o e value:Expr}{f:Str}{pos pos' tpos:Pos}{ta tv:TE}
end
section
variable{X:Cx}{pins:List (Addr×Obj)}{σ:St}{H:Hp}{s:Shared}{A:Around}{E:Value->Shared->Prop}{Q:Value->Shared->Prop}{c:Value}{b:Bool}
inductive zmd(K:W.Frag)(H:Hp):V->Value->Prop where
 |non:zmd K H .non (.type "NoneType")
 |bl (x:Bool):zmd K H (.bl x) (.type "bool")
 |int (i:Int):zmd K H (.int i) (.type "int")
 |str (x:Str):zmd K H (.str x) (.type "str")
 |flt (x:UInt64):zmd K H (.flt x) (.type "float")
 |lst {a:Addr} {xs:List V} (e:H a=some (.lst xs)):zmd K H (.ref a) (.type "list")
 |frz {a:Addr} {o:Obj} {xs:List V} (e:H a=some (.frz o (.lst xs))):zmd K H (.ref a) (.type "list")
 |tup {a:Addr} {xs:List V} (e:H a=some (.tup xs)):zmd K H (.ref a) (.type "tuple")
 |dK {a:Addr} {kvs:List (Key×V)} (e:H a=some (.dK kvs)):zmd K H (.ref a) (.type "dict")
 |dT {a:Addr} {kvs:List (List Key×V)} (e:H a=some (.dT kvs)):zmd K H (.ref a) (.type "dict")
 |ins {a C dx:Addr} {fs:List (Str×V)} (e:H a=some (.ins C dx fs)) (cl:Cls K C) (ha:W.findIn K (.ref C) "__class__"=some (some (.builtin "object.__class__")))
   (hn:W.specialIn K (.builtin "object.__class__") "__get__"=some (some (.builtin "getset_descriptor.__get__"))) (htk:W.takesIn K (.builtin "object.__class__")=some true)
   (hm:W.mroIn K C (.type "object")=some true):zmd K H (.ref a) (.ref C)
end
end L2
namespace L2
open PySem PySem.Spec PyProof.Rows
structure zds(k:Nat)(A:Around):Prop where
 hd:A.handled=none
 dp:A.depth+3 * k+5<recursionLimit
 un:A.units+16 * k+200<cLine
theorem zds.mono{j k:Nat}{A:Around}(r:zds k A)(h:j<=k):zds j A:=⟨r.hd,by have:=r.dp;omega,by have:=r.un;omega⟩
theorem zds.deeper{k:Nat}{A:Around}(r:zds (k+1) A)(env:Env):zds k (A.deeper env) :=
 ⟨r.hd,by have:=r.dp;show A.depth+1+3 * k+5<_;omega,by have:=r.un;show A.units+3+16 * k+200<_;omega⟩
theorem zds.in1{k:Nat}{A:Around}(r:zds (k+1) A):zds k A.in1 :=
 ⟨r.hd,by have:=r.dp;show A.depth+3 * k+5<_;omega,by have:=r.un;show A.units+1+16 * k+200<_;omega⟩
theorem zds.depth{k:Nat}{A:Around}(r:zds k A):A.depth<recursionLimit:=by have:=r.dp;omega
theorem zds.units{k:Nat}{A:Around}(r:zds k A):A.units+64<cLine:=by have:=r.un;omega
def tNil:TA:=fun _ H Q=>Q [] H
def zsv(ta:TE)(tr:TA):TA:=fun σ H Q=>ta σ H fun x H1=>tr σ H1 fun xs H2=>Q (x::xs) H2
section
variable{X:Cx}{e:Expr}{es:List Expr}{te:TE}{t:TA}{pos:Pos}
theorem zc8:PA X [] tNil:=fun _ _ _ _ H Q I h=>Calls.spliced_nil ⟨[],H,I,.nil,h⟩
theorem zaP(ha:PE X e te)(hr:PA X es t)(hs:starEach (e::es) X.env=(false,eval e X.env)::starEach es X.env:=by rfl):PA X (e::es) (zsv te t):=by
 intro pos pins s σ H Q I h
 rw[hs]
 show wpAny _ _ (spliced ((false,eval e X.env)::backTo pos (starEach es X.env))) _ _ s
 refine Calls.spliced_cons (thn (ha pins s σ H _ I h) fun u s1 ⟨x,H1,I1,r1,q1⟩=>?_)
 exact thn (hr pos pins s1 σ H1 _ I1 q1) fun us s2 ⟨xs,H2,I2,r2,q2⟩=>⟨x::xs,H2,I2,.cons r1 r2,q2⟩
def tTup(t:TA):TE:=fun σ H Q=>t σ H fun xs H1=>xs.length<=sizeLine/\∀ p,H1 p=none->Q (.ref p) (upd H1 p (.tup xs))
def tLst(t:TA):TE:=fun σ H Q=>t σ H fun xs H1=>xs.length<=sizeLine/\∀ p,H1 p=none->Q (.ref p) (upd H1 p (.lst xs))
theorem zpQ{x1}(h:PA X es t):PE X (.Tuple es x1 pos) (tTup t):=by
 intro pins s σ H Q I hq
 refine wpAny_Tuple_spliced (thn (h pos pins s σ H _ I hq) fun us s1 ⟨xs,H1,I1,r,z,q⟩=>⟨by rw[<- r.length];exact z,?_⟩)
 have hf:H1 s1.heap.objs.size=none:=I1.hok.fresh (Nat.le_refl _)
 refine ⟨.ref s1.heap.objs.size,upd H1 s1.heap.objs.size (.tup xs),I1.laid (t':=s1.toks) (fun b u e=>Heap.get?_push_of_some _ e) (Nat.le_refl _) ?_,rfl,q _ hf⟩
 exact ⟨z,us,r,⟨_,Heap.get?_push_size _ rfl⟩⟩
theorem ztl(h:PA X es t):PE X (.List es pos) (tLst t):=by
 intro pins s σ H Q I hq
 refine wpAny_List_spliced (thn (h pos pins s σ H _ I hq) fun us s1 ⟨xs,H1,I1,r,z,q⟩=>⟨by rw[<- r.length];exact z,?_⟩)
 have hf:H1 s1.heap.objs.size=none:=I1.hok.fresh (Nat.le_refl _)
 refine ⟨.ref s1.heap.objs.size,upd H1 s1.heap.objs.size (.lst xs),I1.laid (t':=s1.toks) (fun b u e=>Heap.get?_push_of_some _ e) (Nat.le_refl _) ?_,rfl,q _ hf⟩
 exact ⟨z,us,0,r,Heap.get?_push_size _ rfl⟩
end
abbrev Sp:=List V->Hp->VK->XK->Prop
abbrev CXT:=List Env->Hp->Shared->XK->Value->Shared->Prop
structure zop(P:Program)(w:World)(K:W.Frag)(mg:Str->Option Value)(base:Heap)(A:Around)(outer:List Env)(s:Shared)(H:Hp):Prop where
 frames:A.frames=some outer
 mod:Mod K mg base
 bs:∀ b o,base.get? b=some o->s.heap.get? b=some o/\H b=none
 bsz:base.objs.size<=s.heap.objs.size
 funs:s.heap.FunFrames base outer
 frf:∀ b∈frs outer,H b=none
 hok:HOk P w H s.heap
 bare:AllBare s.gens
def CE(outer:List Env)(P:Program)(w:World)(H:Hp)(s:Shared)(Q:VK)(u:Value)(s':Shared):Prop :=
 ∃ v H',s'.os=s.os/\AllBare s'.gens/\Un (frs outer) [] H H' s.heap s'.heap/\HOk P w H' s'.heap/\zbD v u/\Q v H'
def CR(CX:CXT)(outer:List Env)(P:Program)(w:World)(H:Hp)(s:Shared)(Q:VK)(E:XK)(r:Result)(s':Shared):Prop :=
 match r with
 |.ok (.ret u)=>CE outer P w H s Q u s'
 |.ok _=>False
 |.error e=>CX outer H s E e s'
structure zeJ(P:Program)(w:World)(K:W.Frag)(mg:Str->Option Value)(base:Heap)(CX:CXT)(k:Nat)(f:Addr)(fd:FuncData)(ps:List Str)(sp:Sp):Prop where
 len:∀ vs H Q E,sp vs H Q E->vs.length=ps.length
 run:∀(A:Around)(outer:List Env)(s:Shared)(H:Hp)(args:Args)(us:List Value)(vs:List V)(Q:VK)(E:XK),zds k A->zop P w K mg base A outer s H->BindsTo s fd args (ps.zip us)->zaM vs us->sp vs H Q E ->
  codeAny (model P w) A (.call (.ref f) args) (CR CX outer P w H s Q E) s
theorem zeJ.mono{P:Program}{w:World}{K:W.Frag}{mg:Str->Option Value}{base:Heap}{CX:CXT}{j k:Nat}{f:Addr}{fd:FuncData}{ps:List Str}{sp:Sp}(F:zeJ P w K mg base CX j f fd ps sp)(h:j<=k) :
  zeJ P w K mg base CX k f fd ps sp:=⟨F.len,fun A outer s H args us vs Q E hr=>F.run A outer s H args us vs Q E (hr.mono h)⟩
theorem zeJ.imp{P:Program}{w:World}{K:W.Frag}{mg:Str->Option Value}{base:Heap}{CX:CXT}{k:Nat}{f:Addr}{fd:FuncData}{ps:List Str}{sp sp':Sp}(F:zeJ P w K mg base CX k f fd ps sp)
  (h:∀ vs H Q E,sp' vs H Q E->sp vs H Q E):zeJ P w K mg base CX k f fd ps sp' :=
 ⟨fun vs H Q E q=>F.len vs H Q E (h _ _ _ _ q),fun A outer s H args us vs Q E hr he hb hv hs=>F.run A outer s H args us vs Q E hr he hb hv (h _ _ _ _ hs)⟩
theorem zop.in1{P:Program}{w:World}{K:W.Frag}{mg:Str->Option Value}{base:Heap}{A:Around}{outer:List Env}{s:Shared}{H:Hp}(e:zop P w K mg base A outer s H) :
  zop P w K mg base A.in1 outer s H:=⟨e.frames,e.mod,e.bs,e.bsz,e.funs,e.frf,e.hok,e.bare⟩
section
variable{X:Cx}{pins:List (Addr×Obj)}{σ:St}{H:Hp}{s s':Shared}
theorem Inv.env0(I:Inv X pins σ H s):zop X.prog X.w X.K X.mg X.base X.A X.stack s H :=
 ⟨I.ok.frames,I.ok.mod,I.bs,Nat.le_trans I.ok.bsz I.sz,I.stack,I.stkFree,I.hok,I.bare⟩
theorem Inv.after{Q:VK}{u:Value}(I:Inv X pins σ H s)(h:CE X.stack X.prog X.w H s Q u s'):EP X pins σ Q u s':=by
 obtain ⟨v,H',os,bare,un,hok,r,q⟩:=h
 obtain ⟨hh,g,d,t,os'⟩:=s'
 obtain rfl:os'=s.os:=os
 exact ⟨v,H',I.call (h':=hh) (g':=g) (d':=d) (t':=t) (ch:=[]) un hok bare (fun b z=>absurd z (by simp)),r,q⟩
end
def zq2(sp:Sp)(dvs:List V)(E:XK)(t:TA):TE:=fun σ H Q=>t σ H fun vs H1=>sp (vs++dvs) H1 Q E
def zeO(K:W.Frag)(fd:FuncData)(ps:List Str)(ds:List Value):Prop :=
 ∀(s:Shared)(us:List Value),K.In s.heap->(us++ds).length=ps.length->BindsTo s fd ⟨us,[]⟩ (ps.zip (us++ds))
theorem zeO.all{K:W.Frag}{fd:FuncData}{ps:List Str}(h:∀ us:List Value,us.length=ps.length->bindArgs fd ⟨us,[]⟩=pure (ps.zip us)):zeO K fd ps []:=fun s us _ hl=>by
 rw[List.append_nil] at hl ⊢
 exact .of_eq (h us hl)
def zc9(CX:CXT)(X:Cx)(E:XK):Prop:=∀(pins:List (Addr×Obj))(σ:St)(H:Hp)(s:Shared)(e:Value)(s':Shared),Inv X pins σ H s->CX X.stack H s E e s'->X.xe e s'
section
variable{X:Cx}{CX:CXT}{k:Nat}{f C:Addr}{fd:FuncData}{ps:List Str}{sp:Sp}{dvs:List V}{ds:List Value}{E:XK}{x m:Str}{p pos apos:Pos}{e o:Expr}{es:List Expr}{ta:TE}{t:TA}
theorem zsF{pins:List (Addr×Obj)}{σ:St}{H:Hp}{s:Shared}{Q:VK}{us:List Value}{vs:List V}(F:zeJ X.prog X.w X.K X.mg X.base CX k f fd ps sp)(hr:zds k X.A)(hb:zeO X.K fd ps ds)(hd:zaM dvs ds)(hx:zc9 CX X E)
  (I:Inv X pins σ H s) (r:zaM vs us) (h:sp (vs++dvs) H Q E):wpAny (model X.prog X.w) X.A (call (.ref f) us) (EP X pins σ Q) X.xe s:=by
 have r2:zaM (vs++dvs) (us++ds):=r.append hd
 have hl:(us++ds).length=ps.length:=by rw[<- r2.length];exact F.len _ _ _ _ h
 refine wpAny_call (codeAny_mono (F.run X.A X.stack s H ⟨us,[]⟩ (us++ds) (vs++dvs) Q E hr I.env0 (hb s us I.kIn hl) r2 h) fun r s' hq=>?_)
 cases r with
 |error e=>exact hx pins σ H s e s' I hq
 |ok fl =>
  cases fl with
  |ret u=>exact I.after hq
  |next=>exact False.elim hq
  |brk=>exact False.elim hq
  |cont=>exact False.elim hq
theorem zjH(F:zeJ X.prog X.w X.K X.mg X.base CX k f fd ps sp)(hr:zds k X.A)(hg:Gl X x)(hm:X.mg x=some (.ref f))(hk:W.keepIn X.K (.ref f)=true)(hb:zeO X.K fd ps ds)(hd:zaM dvs ds)(hx:zc9 CX X E)
  (ha:PA X (e::es) t) (hdb:(x == ("__debug__" : Str))=false:=by decide) (he:starEach (e::es) X.env=(false,eval e X.env)::starEach es X.env:=by rfl) (hpl:(backTo pos (starEach es X.env)).any (·.1)=false:=by rfl) :
  PE X (.Call (.Name x p) (e::es) [] pos) (zq2 sp dvs E t):=by
 intro pins s σ H Q I h
 refine wpAny_Call_Name_kw (zgq I hg hm ?_ hdb)
 refine W.callWith_K (h₀:=X.base) I.ok.mod.kin hk (thn (ha pos pins s σ H _ I h) fun us s1 ⟨vs,H1,I1,r,q⟩=>⟨I1.kIn,?_⟩) he hpl
 exact zsF F hr hb hd hx I1 r q
structure Mk(K:W.Frag)(C f:Addr):Prop where
 makes:W.makesIn K C=true
 init:W.findIn K (.ref C) "__init__"=some (some (.ref f))
 fn:W.isFn K (.ref f)=true
 kp:W.keepIn K (.ref C)=true
end
def PK(X:Cx)(kws:List Keyword)(t:TA):Prop :=
 ∀(pos:Pos)(pins:List (Addr×Obj))(s:Shared)(σ:St)(H:Hp)(Q:List V->Hp->Prop),Inv X pins σ H s->t σ H Q->wpAny (model X.prog X.w) X.A (evalAll ((backToKw pos (keywordEach kws X.env)).map (·.2))) (AP X pins σ Q) X.xe s
section
variable{X:Cx}{CX:CXT}{k:Nat}{f C:Addr}{fd:FuncData}{ps ks:List Str}{sp:Sp}{E:XK}{x m:Str}{p pos apos kpos:Pos}{e o:Expr}{es:List Expr}{kws:List Keyword}{te ta:TE}{t tk:TA}{nm:Option Str}
theorem zs1:PK X [] tNil:=fun _ _ _ _ H Q I h=>wpAny_evalAll_nil ⟨[],H,I,.nil,h⟩
theorem zq6(ha:PE X e te)(hr:PK X kws t):PK X (⟨nm,e,kpos⟩::kws) (zsv te t):=by
 intro pos pins s σ H Q I h
 show wpAny _ _ (evalAll ((do let v <- eval e X.env;standAt pos;pure v)::(backToKw pos (keywordEach kws X.env)).map (·.2))) _ _ s
 refine wpAny_evalAll_cons (wpAny_bind (thn (ha pins s σ H _ I h) fun u s1 ⟨x,H1,I1,r1,q1⟩=>wpAny_bind (wpAny_standAt (wpAny_pure ?_))))
 exact thn (hr pos pins s1 σ H1 _ I1 q1) fun us s2 ⟨xs,H2,I2,r2,q2⟩=>⟨x::xs,H2,I2,.cons r1 r2,q2⟩
structure KBinds(K:W.Frag)(fd:FuncData)(ps ks:List Str)(g:List Value->List Value->List Value)(gV:List V->List V->List V):Prop where
 to:∀(s:Shared)(us ws:List Value),K.In s.heap->(g us ws).length=ps.length->BindsTo s fd ⟨us,ks.zip ws⟩ (ps.zip (g us ws))
 rel:∀{vs:List V}{us:List Value}{zs:List V}{ws:List Value},zaM vs us->zaM zs ws->zaM (gV vs zs) (g us ws)
variable{g:List Value->List Value->List Value}{gV:List V->List V->List V}
end
structure za6(N P:List Str)(sc:Scope):Prop where
 kind:sc.kind=.function
 co:sc.isCoroutine=false
 gen:sc.isGenerator=false
 nd:N.Nodup
 pre:N.take P.length=P
 par:∀ x∈P,sc.names.lookup x=some .local\/sc.names.lookup x=some .cell
 nofree:∀ y∈sc.names,y.2≠.free
theorem zif{kindOf:Str->Option NameKind}{x:Str}:∀{binds:List (Str×Value)}{m:Str->Option Value},(∀ v,(x,v)∉binds)->bindL kindOf binds m x=m x
 |[],_,_=>rfl
 | (n,v)::r,m,h=>by
  unfold bindL
  rw[zif fun w hw=>h w (List.mem_cons_of_mem _ hw)]
  split
  ·have:x≠n:=by rintro rfl;exact h v List.mem_cons_self
   simp[this]
  ·rfl
theorem ziS{kindOf:Str->Option NameKind}{x:Str}:∀{binds:List (Str×Value)}{m:Str->Option Value},(∀ v,(x,v)∉binds)->bindC kindOf binds m x=m x
 |[],_,_=>rfl
 | (n,v)::r,m,h=>by
  unfold bindC
  rw[ziS fun w hw=>h w (List.mem_cons_of_mem _ hw)]
  split
  ·rfl
  ·have:x≠n:=by rintro rfl;exact h v List.mem_cons_self
   simp[this]
theorem ziW{kindOf:Str->Option NameKind}{x:Str}{v:Value}:∀{P:List Str}{vs:List Value}{i:Nat}{m:Str->Option Value},P.Nodup->P[i]? = some x->vs[i]? = some v->kindOf x=some .local ->
  bindL kindOf (P.zip vs) m x=some v
 |[],_,_,_,_,h,_,_=>by simp at h
 |_::_,[],_,_,_,_,h,_=>by simp at h
 |p::P,w::vs,0,m,nd,h1,h2,hk=>by
  simp at h1 h2;subst h1;subst h2
  show bindL kindOf ((p,w)::P.zip vs) m p=_
  unfold bindL
  rw[zif fun v hv=>(List.nodup_cons.mp nd).1 (List.of_mem_zip hv).1,if_pos hk]
  simp
 |p::P,w::vs,i+1,m,nd,h1,h2,hk=>by
  show bindL kindOf ((p,w)::P.zip vs) m x=_
  unfold bindL
  exact ziW (i:=i) (List.nodup_cons.mp nd).2 (by simpa using h1) (by simpa using h2) hk
theorem ziE{kindOf:Str->Option NameKind}{x:Str}{v:Value}:∀{P:List Str}{vs:List Value}{i:Nat}{m:Str->Option Value},P.Nodup->P[i]? = some x->vs[i]? = some v->kindOf x≠some .local ->
  bindC kindOf (P.zip vs) m x=some v
 |[],_,_,_,_,h,_,_=>by simp at h
 |_::_,[],_,_,_,_,h,_=>by simp at h
 |p::P,w::vs,0,m,nd,h1,h2,hk=>by
  simp at h1 h2;subst h1;subst h2
  show bindC kindOf ((p,w)::P.zip vs) m p=_
  unfold bindC
  rw[ziS fun v hv=>(List.nodup_cons.mp nd).1 (List.of_mem_zip hv).1,if_neg hk]
  simp
 |p::P,w::vs,i+1,m,nd,h1,h2,hk=>by
  show bindC kindOf ((p,w)::P.zip vs) m x=_
  unfold bindC
  exact ziE (i:=i) (List.nodup_cons.mp nd).2 (by simpa using h1) (by simpa using h2) hk
def start(N:List Str)(vs:List V):St:=vs.map some++List.replicate (N.length-vs.length) none
def zjK(CX:CXT)(P:Program)(w:World)(K:W.Frag)(mg:Str->Option Value)(base:Heap)(N:List Str)(qual:Str)(scope:Scope)(f:Addr)(cd:Value)(A:Around)(outer:List Env)(s:Shared)(H:Hp)(E:XK):Cx where
 prog:=P
 w:=w
 K:=K
 mg:=mg
 base:=base
 A:=A.deeper (envOfC qual scope s.heap.objs.size f cd)
 N:=N
 s₀:=s
 H₀:=H
 env:=envOfC qual scope s.heap.objs.size f cd
 outer:=outer
 stack:=envOfC qual scope s.heap.objs.size f cd::outer
 ex:=[]
 calm:=true
 fn:=fun _=>true
 pn:=[]
 xe:=fun e s'=>wpAny (model P w) (A.deeper (envOfC qual scope s.heap.objs.size f cd)) (leaving (envOfC qual scope s.heap.objs.size f cd) e) (fun _ s''=>CX outer H s E e s'') (fun e' s''=>CX outer H s E e' s'') s'
theorem zkx{sc:Scope}{n:Nat}{x:Str}(h:sc.names.lookup x=some .cell):∃ c,(cellsFrom n sc.names []).lookup x=some c:=by
 have q:=W.cellsFrom_some sc.names n [] (.inl h)
 exact Option.isSome_iff_exists.mp q
theorem zhX{CX:CXT}{P:Program}{w:World}{K:W.Frag}{mg:Str->Option Value}{base:Heap}{N ps:List Str}{qual:Str}{scope:Scope}{f:Addr}{cd:Value}{A:Around}{outer:List Env}{s s1:Shared}{H:Hp}{E:XK}{us:List Value}{vs:List V}
  (S:za6 N ps scope) (hd:A.handled=none) (e0:zop P w K mg base A outer s H) (hl:vs.length=ps.length) (r:zaM vs us)
  (x:InCallC s s.heap.objs.size (bindL (envOfC qual scope s.heap.objs.size f cd).kindOf (ps.zip us) fun _=>none) (cellsFrom (s.heap.objs.size+1) scope.names []) (bindC (envOfC qual scope s.heap.objs.size f cd).kindOf (ps.zip us) fun _=>none) s1) :
  Inv (zjK CX P w K mg base N qual scope f cd A outer s H E) [] (start N vs) H s1:=by
 have hpl:ps.length<=N.length:=by have:=congrArg List.length S.pre;rw[List.length_take] at this;omega
 obtain ⟨h1,tk,rfl,hk⟩:=x.done
 have noA:∀ b:Addr,b∉(zjK CX P w K mg base N qual scope f cd A outer s H E).ex:=fun b z=>absurd (show b∈([]:List Addr) from z) (by simp)
 refine ⟨⟨e0.mod,S.kind,rfl,rfl,Nat.le_refl _,fun y z c h1 h2=>?_,fun y hy=>?_,fun y c _ h=>?_,fun _=>hd,Around.frames_deeper e0.frames,.inr ⟨rfl,rfl⟩,fun b z=>absurd z (noA b),e0.bs,e0.bsz,fun b _ _=>noA b,fun b z=>absurd z (noA b),e0.funs,e0.frf⟩,
  rfl,e0.bare,Un.kept hk,⟨_,x.toInCall.ns,fun i y v h1 h2 h3=>?_⟩,fun y c h=>⟨_,x.cell y c h⟩,e0.hok.fresh (Nat.le_refl _),fun y c h=>?_,fun p hp=>absurd (show p∈([]:List (Addr×Obj)) from hp) (by simp),e0.hok.kept hk,?_⟩
 ·exact name_of_addr x.apart (PySem.mem_of_lookup h1) (PySem.mem_of_lookup h2)
 ·have hy:scope.names.lookup y=some .cell\/scope.names.lookup y=some .free:=hy
  rcases hy with hy|hy
  ·exact zkx hy
  ·exact absurd rfl (S.nofree _ (PySem.mem_of_lookup hy))
 ·exact Nat.le_of_lt (x.above y c (PySem.mem_of_lookup h))
 ·have hi:i<vs.length:=by
   unfold start at h2
   by_cases hi:i<vs.length
   ·exact hi
   ·rw[List.getElem?_append_right (by simpa using hi)] at h2
    rw[List.getElem?_replicate] at h2
    split at h2 <;> cases h2
  have ha:vs[i]? = some v:=by
   unfold start at h2
   rw[List.getElem?_append_left (by simpa using hi),List.getElem?_map] at h2
   cases e:vs[i]? with
   |none=>rw[e] at h2;cases h2
   |some a=>rw[e] at h2;cases h2;rfl
  obtain ⟨u,hu,rv⟩:=r.get ha
  have hp:ps[i]? = some y:=by
   rw[<- S.pre,List.getElem?_take_of_lt (by omega)];exact h1
  have ndP:ps.Nodup:=by rw[<- S.pre];exact S.nd.sublist (List.take_sublist _ _)
  refine ⟨u,rv,?_⟩
  rcases S.par y (List.mem_of_getElem? hp) with k|k
  ·exact .inl ⟨k,ziW ndP hp hu k⟩
  ·obtain ⟨c,e⟩:=zkx (n:=s.heap.objs.size+1) k
   refine .inr ⟨.inl k,c,e,?_⟩
   have q:=x.cell y c e
   rw[ziE ndP hp hu (by show scope.names.lookup y≠_;rw[k];decide)] at q
   exact q
 ·exact e0.hok.fresh (Nat.le_of_lt (x.above y c (PySem.mem_of_lookup h)))
 ·unfold start
  show _=N.length
  rw[List.length_append,List.length_map,List.length_replicate]
  omega
theorem zrl{CX:CXT}{P:Program}{w:World}{K:W.Frag}{mg:Str->Option Value}{base:Heap}{k:Nat}{f:Addr}{name qual:Str}{params:Arguments}{body:List Stmt}{scope:Scope}{dV kV doc pm cdv ct oc:Value}{an od:Option Addr}
  {osl:Array (Option Value)} {N ps:List Str} {sp:Sp} (lk:K.lookup f=some ⟨oc,od,.func (W.fnOf name qual params body scope dV kV doc pm an cdv ct),osl⟩) (hcd:W.codeIn K cdv qual=true) (S:za6 N ps scope)
  (len:∀ vs H Q E,sp vs H Q E->vs.length=ps.length)
  (hbody:∀(A:Around)(outer:List Env)(s:Shared)(H:Hp)(vs:List V)(Q:VK)(E:XK),zds k (A.deeper (envOfC qual scope s.heap.objs.size f cdv))->sp vs H Q E ->
   ∃ t,PSs (zjK CX P w K mg base N qual scope f cdv A outer s H E) body t/\t { nx:=fun _ H'=>Q .non H',rt:=Q } (start N vs) H) :
  zeJ P w K mg base CX (k+1) f (W.fnOf name qual params body scope dV kV doc pm an cdv ct) ps sp:=by
 refine ⟨len,fun A outer s H args us vs Q E hr e0 hb r hsp=>?_⟩
 have hl:=len _ _ _ _ hsp
 have KX:K.In s.heap:=e0.mod.kin.keeps fun b o e=>(e0.bs b o e).1
 have lim:s.heap.NoLimit:=e0.mod.nolimit.keeps fun b o e=>(e0.bs b o e).1
 have hkind:∀ y∈ps.zip us,scope.names.lookup y.1=some .local\/(scope.names.lookup y.1=some .cell/\((cellsFrom (s.heap.objs.size+1) scope.names []).lookup y.1).isSome=true):=fun ⟨n,v⟩ hy=>by
  rcases S.par n (List.of_mem_zip hy).1 with q|q
  ·exact .inl q
  ·exact .inr ⟨q,W.cellsFrom_some _ _ _ (.inl q)⟩
 refine codeAny_call_function hr.depth (KX _ _ lk) rfl S.co S.gen rfl (W.codeRec_of KX hcd) (hb _ _ _ _ ?_)
 refine wpAny_newFunctionEnv_cells S.kind hkind fun env he s1 x=>?_
 subst he
 refine ⟨lim.keeps x.toInCall.keep,codeAny_func ?_⟩
 obtain ⟨t,ht,hq⟩:=hbody A outer s H vs Q E (hr.deeper _) hsp
 have I:Inv (zjK CX P w K mg base N qual scope f cdv A outer s H E) [] (start N vs) H s1:=zhX S hr.hd e0 hl r x
 refine wpAny_mono (ht [] s1 (start N vs) H _ I hq) (fun fl s' hs=>?_) fun e s' hs=>hs
 have fin:∀{σ':St}{H':Hp}{v:V}{u:Value},Inv (zjK CX P w K mg base N qual scope f cdv A outer s H E) [] σ' H' s'->zbD v u->Q v H'->CE outer P w H s Q u s' :=
  fun {σ' H' v u} J rv q=>⟨v,H',J.os,J.bare,J.base,J.hok,rv,q⟩
 cases fl with
 |ret u =>
  obtain ⟨v,σ',H',J,rv,q⟩:=hs
  exact fin J rv q
 |next =>
  obtain ⟨σ',H',J,q⟩:=hs
  exact fin (v:=V.non) (u:=Value.none) J rfl q
 |brk =>
  obtain ⟨_,_,_,q⟩:=hs
  exact False.elim q
 |cont =>
  obtain ⟨_,_,_,q⟩:=hs
  exact False.elim q
end L2
namespace L2
open PySem PySem.Spec PyProof.Rows
section
variable{X:Cx}{x:Str}{p pos:Pos}{e:Expr}{es:List Expr}{t:TA}{id T:String}{r:List V->Hp->VK->Prop}
def tCB(r:List V->Hp->VK->Prop)(t:TA):TE:=fun σ H Q=>t σ H fun vs H1=>r vs H1 Q
theorem zdf(hc:zcg X (.builtin id) r)(hg:Gl X x)(hm:X.mg x=none)(hv:bootBuiltins x=some (.builtin id))(ha:PA X (e::es) t)(hn:x≠"__name__":=by decide)(hdb:(x == ("__debug__" : Str))=false:=by decide)
  (he:starEach (e::es) X.env=(false,eval e X.env)::starEach es X.env:=by rfl) (hpl:(backTo pos (starEach es X.env)).any (·.1)=false:=by rfl):PE X (.Call (.Name x p) (e::es) [] pos) (tCB r t):=by
 intro pins s σ H Q I h
 refine wpAny_Call_Name_kw (zeC I hg hm hv ?_ hn hdb)
 exact PyProof.Rows.callWith_builtin1 (thn (ha pos pins s σ H _ I h) fun us s1 ⟨vs,H1,I1,r1,q1⟩=>hc pins s1 σ H1 vs us Q I1 r1 q1) he hpl
theorem zfA(hc:zcg X (.type T) r)(hg:Gl X x)(hm:X.mg x=none)(hv:bootBuiltins x=some (.type T))(ha:PA X (e::es) t)(hn:x≠"__name__":=by decide)(hdb:(x == ("__debug__" : Str))=false:=by decide)
  (he:starEach (e::es) X.env=(false,eval e X.env)::starEach es X.env:=by rfl) (hpl:(backTo pos (starEach es X.env)).any (·.1)=false:=by rfl):PE X (.Call (.Name x p) (e::es) [] pos) (tCB r t):=by
 intro pins s σ H Q I h
 refine wpAny_Call_Name_kw (zeC I hg hm hv ?_ hn hdb)
 exact PyProof.Rows.callWith_type1 (thn (ha pos pins s σ H _ I h) fun us s1 ⟨vs,H1,I1,r1,q1⟩=>hc pins s1 σ H1 vs us Q I1 r1 q1) he hpl
end
end L2
namespace HT
open PySem PyProof.Rows
section
open PySem.SeqAt
open PySem.AutoSeq1 (wpAny_loadPart')
open PySem.MeetsSeq PySem.MeetsSeq2 PySem.MeetsSeq3
end
section
variable{prog:Program}{w:World}{A:Around}{E:Value->Shared->Prop}{s:Shared}
theorem cat_tup{t b:Addr}{vs ws:List Value}{Q:Value->Shared->Prop}(ht:IsTup s.heap t vs.toArray)(hb:IsTup s.heap b ws.toArray)(hv:vs≠[])
  (h1:ws=[]->Q (.ref t) s) (h2:ws≠[]->Q (.ref s.heap.objs.size) { s with heap:=s.heap.push { cls:=.type "tuple",data:=.seq (vs++ws).toArray } })
  (hsz:vs.length+ws.length<=sizeLine):wpAny (model prog w) A (binaryOp .Add (.ref t) (.ref b)) Q E s:=by
 obtain ⟨⟨cls,dd,data,sl⟩,ho,hc,n,hd⟩:=id ht
 obtain ⟨⟨cls2,dd2,data2,sl2⟩,ho2,hc2,n2,hd2⟩:=id hb
 simp only at hc hd hc2 hd2
 subst hc hd hc2 hd2
 have e:vs.toArray++ws.toArray=(vs++ws).toArray:=by simp
 by_cases hw:ws=[]
 ·exact concat_meets ⟨_,ho,rfl⟩ ⟨_,ho2,rfl⟩ noFill_tuple_add seq_tuple_add PySem.F.slot_tuple_add PySem.F.entry_tuple_add (PySem.F.args_tuple_add_2 _ _)
   (tuple_addW1 t b vs.toArray ws.toArray n n2 dd dd2 sl sl2 (by simpa using hv) (by simp[hw])) ⟨ho,ho2,h1 hw⟩
 ·refine concat_meets ⟨_,ho,rfl⟩ ⟨_,ho2,rfl⟩ noFill_tuple_add seq_tuple_add PySem.F.slot_tuple_add PySem.F.entry_tuple_add (PySem.F.args_tuple_add_2 _ _)
   (tuple_addW2 t b vs.toArray ws.toArray n n2 dd dd2 sl sl2 (by simpa using hv) (by simpa using hw) (by rw[List.size_toArray,List.size_toArray];exact hsz)) ⟨ho,ho2,?_⟩
  rw[e]
  exact h2 hw
def sIx(n d:Nat):Option Int->Nat
 |none=>d
 |some v=>if v<0 then (v+(n:Int)).toNat else min v.toNat n
theorem sIx_none(n d:Nat):sIx n d none=d:=rfl
theorem sIx_nat(n d k:Nat):sIx n d (some (k:Int))=min k n:=by
 show (if (k:Int)<0 then ((k:Int)+(n:Int)).toNat else min (k:Int).toNat n)=min k n
 rw[if_neg (by omega),Int.toNat_natCast]
theorem zsy(n d:Nat)(hd:d<=n)(o:Option Int):sIx n d o<=n:=by
 cases o with
 |none=>exact hd
 |some v =>
  show (if v<0 then (v+(n:Int)).toNat else min v.toNat n)<=n
  by_cases hv:v<0
  ·rw[if_pos hv];omega
  ·rw[if_neg hv];exact Nat.min_le_right _ _
theorem zm8(v:Int)(n d:Nat):(if v<0 then max (v+(n:Int)) 0 else min v (n:Int))=((sIx n d (some v):Nat):Int):=by
 show (if v<0 then max (v+(n:Int)) 0 else min v (n:Int))=(((if v<0 then (v+(n:Int)).toNat else min v.toNat n):Nat):Int)
 by_cases hv:v<0
 ·simp only[if_pos hv];omega
 ·simp only[if_neg hv];omega
theorem zl8(lo hi:Option Int)(n:Nat):Builtin.Slice.sliceAdjust lo hi 1 (n:Int)=(((sIx n 0 lo:Nat):Int),((sIx n n hi:Nat):Int)):=by
 have h1:¬ ((1:Int)<0):=by omega
 unfold Builtin.Slice.sliceAdjust
 simp only[h1,if_false]
 refine Prod.ext ?_ ?_
 ·cases lo with
  |none=>rfl
  |some v=>exact zm8 v n 0
 ·cases hi with
  |none=>rfl
  |some v=>exact zm8 v n n
theorem zl4(i j:Nat):Builtin.Slice.slicePlaces (i:Int) (j:Int) 1=j-i:=by
 unfold Builtin.Slice.slicePlaces
 have h1:(1:Int) > 0:=by omega
 simp only[h1,if_true,Int.ediv_one]
 split <;> omega
theorem zgP{v:Value}{o:Option Int}{Q:Option Int->Shared->Prop}(p:IsPart v o)(h:Q o s):wpAny (model prog w) A (Builtin.Slice.slicePartIndex v) Q E s:=by
 cases p with
 |none=>exact slicePart_none h
 |int i t=>exact slicePart_int h
theorem sliceApplied_gen{sl:Addr}{vl vu:Value}{lo hi:Option Int}{n:Nat}{Q:Int×Int×Nat->Shared->Prop}(hs:s.heap.IsSliceOf sl vl vu .none)(pl:IsPart vl lo)(pu:IsPart vu hi)
  (h:Q (((sIx n 0 lo:Nat):Int),1,sIx n n hi-sIx n 0 lo) s):wpAny (model prog w) A (Builtin.Slice.sliceApplied (.ref sl) (pure (n:Int))) Q E s:=by
 obtain ⟨os,hos,hcs,hds⟩:=id hs
 unfold Builtin.Slice.sliceApplied Builtin.Slice.sliceFields
 refine wpAny_bind (wpAny_bind (wpAny_field hos hds (x:=vl) rfl (wpAny_bind (wpAny_field hos hds (x:=vu) rfl (wpAny_bind (wpAny_field hos hds (x:=.none) rfl (wpAny_pure ?_)))))))
 refine wpAny_bind (slicePart_none ?_)
 show wpAny _ _ (if ((1:Int) == 0)=true then _ else _) _ _ s
 rw[if_neg (by decide)]
 refine wpAny_bind (zgP pl (wpAny_bind (zgP pu (wpAny_bind (wpAny_pure ?_)))))
 show wpAny _ _ (match Builtin.Slice.sliceAdjust lo hi 1 (n:Int) with|(lo,hi)=>pure (lo,(1:Int),Builtin.Slice.slicePlaces lo hi 1)) _ _ s
 rw[zl8 lo hi n]
 show wpAny _ _ (pure (((sIx n 0 lo:Nat):Int),(1:Int),Builtin.Slice.slicePlaces ((sIx n 0 lo:Nat):Int) ((sIx n n hi:Nat):Int) 1)) _ _ s
 rw[zl4]
 exact wpAny_pure h
theorem zoC(xs:Array Value)(i k:Nat):((List.range k).filterMap fun (m:Nat)=>xs[((i:Int)+(m:Int) * 1).toNat]?).toArray=((xs.toList.drop i).take k).toArray:=by
 have e:(fun (m:Nat)=>xs[((i:Int)+(m:Int) * 1).toNat]?)=fun m=>xs[i+m]? := by
  funext m
  have:((i:Int)+(m:Int) * 1).toNat=i+m:=by omega
  rw[this]
 rw[e]
 have:=pick_run xs i k
 rw[List.filterMap_map] at this
 have e2:((fun x=>xs[x]?) ∘ fun x=>i+x)=fun m=>xs[i+m]? := rfl
 rw[e2] at this
 rw[this]
theorem getItem_tuple_cut{t sl:Addr}{items:Array Value}{vl vu:Value}{lo hi:Option Int}{Q:Value->Shared->Prop}(ht:IsTup s.heap t items)(hs:s.heap.IsSliceOf sl vl vu .none)(pl:IsPart vl lo)(pu:IsPart vu hi)
  (hw:¬ (sIx items.size 0 lo=0/\sIx items.size items.size hi=items.size))
  (h:Q (.ref s.heap.objs.size) { s with heap:=s.heap.push { cls:=.type "tuple",data:=.seq ((items.toList.drop (sIx items.size 0 lo)).take (sIx items.size items.size hi-sIx items.size 0 lo)).toArray } })
  (hsz:items.size<=sizeLine):wpAny (model prog w) A (getItem (.ref t) (.ref sl)) Q E s:=by
 have htake:sizeOk (.seq ((items.toList.drop (sIx items.size 0 lo)).take (sIx items.size items.size hi-sIx items.size 0 lo)).toArray):=by
  show ((items.toList.drop (sIx items.size 0 lo)).take (sIx items.size items.size hi-sIx items.size 0 lo)).toArray.size<=sizeLine
  rw[List.size_toArray,List.length_take,List.length_drop,Array.length_toList]
  omega
 have hj:sIx items.size items.size hi<=items.size:=zsy _ _ (Nat.le_refl _) hi
 obtain ⟨os,hos,hcs,hds⟩:=id hs
 have hTs:s.TypeIs (.ref sl) "slice":=⟨os,hos,hcs⟩
 unfold getItem
 try with_reducible refine wpAny_holding ?_
 first|refine wpAny_bind (wpAny_pure ?_)|skip
 refine wpAny_bind (wpAny_sequenceKey ht.typeIs (by decide) ?_)
 refine wpAny_bind (wpAny_callSpecial?_slot (name:=Str.ofString "__getitem__") ht.typeIs PyProof.Rows.slot_tuple_getitem
  (wpAny_call_entry PyProof.Rows.slot_tuple_getitem ht.typeIs entry_tuple_getitem ?_ (args_tuple_getitem _ _)))
 show wpAny _ _ (Builtin.Tuple.tupleItemsOf (.ref t) >>= _) _ _ s
 refine wpAny_bind (tupleItemsOf_ ht ?_)
 refine wpAny_bind (wpAny_typeOf hTs ?_)
 rw[if_pos (by decide)]
 refine wpAny_bind (sliceApplied_gen hs pl pu ?_)
 have hno:¬ ((((sIx items.size 0 lo:Nat):Int) == 0 && (1:Int) == 1 && (sIx items.size items.size hi-sIx items.size 0 lo) == items.size)=true):=by
  intro q
  rw[Bool.and_eq_true,Bool.and_eq_true] at q
  have q1:((sIx items.size 0 lo:Nat):Int)=0:=eq_of_beq q.1.1
  have q2:sIx items.size items.size hi-sIx items.size 0 lo=items.size:=eq_of_beq q.2
  exact hw ⟨by omega,by omega⟩
 show wpAny _ _ (if (((sIx items.size 0 lo:Nat):Int) == 0 && (1:Int) == 1 && (sIx items.size items.size hi-sIx items.size 0 lo) == items.size)=true then _ else _) _ _ s
 rw[if_neg hno,zoC]
 first
  |exact wpAny_bind (m:=Builtin.Tuple.tupleExact _) (wpAny_newObj_type (wpAny_pure ⟨_,rfl,wpAny_pure h⟩) htake)
  |exact wpAny_bind (m:=Builtin.Tuple.tupleExact _) (wpAny_newObj_type (wpAny_bind (wpAny_pure (wpAny_pure ⟨_,rfl,wpAny_pure h⟩))) htake)
  |exact wpAny_bind (wpAny_bind (m:=Builtin.Tuple.tupleExact _) (wpAny_newObj_type (wpAny_pure (wpAny_pure ⟨_,rfl,wpAny_pure h⟩)) htake))
  |exact wpAny_bind (wpAny_bind (m:=Builtin.Tuple.tupleExact _) (wpAny_newObj_type (wpAny_pure ⟨_,rfl,wpAny_pure h⟩) htake))
end
end HT
namespace L2
open PySem PySem.Spec PyProof.Rows
abbrev TO:=St->Hp->(Option Int->Hp->Prop)->Prop
def PO(X:Cx)(e:Option Expr)(t:TO):Prop :=
 ∀(pins:List (Addr×Obj))(s:Shared)(σ:St)(H:Hp)(Q:Option Int->Hp->Prop),Inv X pins σ H s->t σ H Q ->
  wpAny (model X.prog X.w) X.A (evalPart e X.env) (fun u s'=>∃ o H',Inv X pins σ H' s'/\IsPart u o/\Q o H') X.xe s
def zqF:TO:=fun _ H Q=>Q none H
def ztB(t:TE):TO:=fun σ H Q=>t σ H fun x H1=>∃ i,x=.int i/\Q (some i) H1
theorem intsAre_of{ns:List Int}:∀{us:List Value},zaM (ns.map V.int) us->IntsAre us ns:=by
 induction ns with
 |nil=>intro us r;rw[List.map_nil] at r;cases r;exact .nil
 |cons n ns ih =>
  intro us r
  rw[List.map_cons] at r
  cases r with
  |cons r1 r2 =>
   obtain ⟨t,e⟩:=r1
   subst e
   exact .cons n t (ih r2)
section
variable{X:Cx}{e:Expr}{te:TE}{lo hi:Option Expr}{tl th:TO}{pos p2:Pos}
theorem zqp:PO X none zqF:=by
 intro pins s σ H Q I h
 rw[evalPart_none]
 exact wpAny_pure ⟨none,H,I,.none,h⟩
theorem zrc(h:PE X e te):PO X (some e) (ztB te):=by
 intro pins s σ H Q I hw
 rw[evalPart_some]
 refine thn (h pins s σ H _ I hw) fun u s1 ⟨x,H1,I1,r1,q1⟩=>?_
 obtain ⟨i,rfl,q⟩:=q1
 obtain ⟨t,rfl⟩:=r1
 exact ⟨some i,H1,I1,.int i t,q⟩
def SlR(X:Cx)(r:V->Option Int->Option Int->Hp->VK->Prop):Prop :=
 ∀(pins:List (Addr×Obj))(s:Shared)(σ:St)(H:Hp)(x:V)(v vl vu:Value)(lo hi:Option Int)(sl:Addr)(Q:VK),Inv X pins σ H s->zbD x v->s.heap.IsSliceOf sl vl vu .none->IsPart vl lo->IsPart vu hi->r x lo hi H Q ->
  ∃ T id,typeLookup (.type T) "__getitem__"=pure (some (.builtin id))/\s.TypeIs v T/\wpAny (model X.prog X.w) X.A (getItem v (.ref sl)) (EP X pins σ Q) X.xe s
theorem SlR.or{r r':V->Option Int->Option Int->Hp->VK->Prop}(h:SlR X r)(h':SlR X r'):SlR X (fun x lo hi H Q=>r x lo hi H Q\/r' x lo hi H Q):=by
 intro pins s σ H x v vl vu lo hi sl Q I rx hs pl pu q
 rcases q with q|q
 ·exact h pins s σ H x v vl vu lo hi sl Q I rx hs pl pu q
 ·exact h' pins s σ H x v vl vu lo hi sl Q I rx hs pl pu q
def tSl(r:V->Option Int->Option Int->Hp->VK->Prop)(te:TE)(tl th:TO):TE:=fun σ H Q=>te σ H fun x H1=>tl σ H1 fun l H2=>th σ H2 fun u H3=>r x l u H3 Q
theorem zkI{r:V->Option Int->Option Int->Hp->VK->Prop}(hr:SlR X r)(he:PE X e te)(hl:PO X lo tl)(hu:PO X hi th):PE X (.Subscript e (.Slice lo hi none p2) pos) (tSl r te tl th):=by
 intro pins s σ H Q I h
 refine Subscript_ (thn (he pins s σ H _ I h) fun v s1 ⟨x,H1,I1,r1,q1⟩=>?_)
 refine wpAny_Slice (thn (hl pins s1 σ H1 _ I1 q1) fun vl s2 ⟨l,H2,I2,pl,q2⟩=>thn (hu pins s2 σ H2 _ I2 q2) fun vu s3 ⟨u,H3,I3,pu,q3⟩=>?_)
 rw[evalPart_none]
 refine wpAny_pure ?_
 have I4:Inv X pins σ H3 { s3 with heap:=s3.heap.push { cls:=.type "slice",data:=.fields #[vl,vu,.none] } }:=I3.kept (t':=s3.toks) fun b ob q=>Heap.get?_push_of_some _ q
 obtain ⟨T,id,hT,ht,hg⟩:=hr pins { s3 with heap:=s3.heap.push { cls:=.type "slice",data:=.fields #[vl,vu,.none] } } σ H3 x v vl vu l u s3.heap.objs.size Q I4 r1 (Heap.IsSliceOf.new ..) pl pu q3
 show wpAny (model X.prog X.w) X.A (subscriptTail e (.Slice lo hi none p2) v (.ref s3.heap.objs.size)) (EP X pins σ Q) X.xe { s3 with heap:=s3.heap.push { cls:=.type "slice",data:=.fields #[vl,vu,.none] } }
 exact tail_any (ops:=[.ref s3.heap.objs.size,v]) ht hT hg (by with_unfolding_all rfl)
def zlM(xs:List V)(lo hi:Option Int):List V:=(xs.drop (HT.sIx xs.length 0 lo)).take (HT.sIx xs.length xs.length hi-HT.sIx xs.length 0 lo)
theorem zfH(xs:List V)(lo hi:Option Int):(zlM xs lo hi).length<=xs.length:=by
 unfold zlM
 rw[List.length_take,List.length_drop]
 omega
def rSlT(K:W.Frag):V->Option Int->Option Int->Hp->VK->Prop:=fun x lo hi H Q=>∃ a xs,x=.ref a/\SqT K H a xs /\
 ¬ (HT.sIx xs.length 0 lo=0/\HT.sIx xs.length xs.length hi=xs.length)/\∀ p,H p=none->Q (.ref p) (upd H p (.tup (zlM xs lo hi)))
theorem ztj:SlR X (rSlT X.K):=by
 intro pins s σ H x v vl vu lo hi sl Q I rx hs pl pu h
 obtain ⟨a,xs,rfl,hx,hw,q⟩:=h
 cases rx
 obtain ⟨its,r,ht,hz⟩:=I.tuple hx
 have hlen:its.toArray.size=xs.length:=by rw[List.size_toArray];exact r.length.symm
 refine ⟨"tuple",_,PyProof.Rows.slot_tuple_getitem.lookup,ht.typeIs,?_⟩
 refine HT.getItem_tuple_cut ht hs pl pu (by rw[hlen];exact hw) ?_ (by rw[hlen];exact hz)
 rw[hlen]
 refine ⟨.ref s.heap.objs.size,_,I.laid (t':=s.toks) (o:=.tup (zlM xs lo hi)) (fun b ob q=>Heap.get?_push_of_some _ q) (Nat.le_refl _) ?_,rfl,q _ (I.hok.fresh (Nat.le_refl _))⟩
 exact ⟨Nat.le_trans (zfH xs lo hi) hz,_,(r.drop (HT.sIx xs.length 0 lo)).take (HT.sIx xs.length xs.length hi-HT.sIx xs.length 0 lo),_,Heap.get?_push_size _ rfl⟩
def ztQ(K:W.Frag):R2:=fun x y H Q=>∃ a b xs ys,x=.ref a/\y=.ref b/\SqT K H a xs/\SqT K H b ys/\xs≠[]/\xs.length+ys.length<=sizeLine /\
 (ys=[]->Q (.ref a) H)/\(ys≠[]->∀ p,H p=none->Q (.ref p) (upd H p (.tup (xs++ys))))
theorem zaM.nil_iff{xs:List V}{us:List Value}(r:zaM xs us):us=[] ↔ xs=[]:=by
 cases r with
 |nil=>simp
 |cons _ _=>simp
theorem zru:OpR X (binaryOp .Add) (ztQ X.K):=by
 intro pins s σ H x y v u Q I rx ry h
 obtain ⟨a,b,xs,ys,rfl,rfl,ha,hb,hx,hz,q1,q2⟩:=h
 cases rx
 cases ry
 obtain ⟨its,r1,p1,_⟩:=I.tuple ha
 obtain ⟨its2,r2,p2,_⟩:=I.tuple hb
 refine HT.cat_tup p1 p2 (fun z=>hx (r1.nil_iff.mp z)) (fun z=>⟨.ref a,H,I,rfl,q1 (r2.nil_iff.mp z)⟩) (fun z=>?_) (by rw[<- r1.length,<- r2.length];exact hz)
 refine ⟨.ref s.heap.objs.size,_,I.laid (t':=s.toks) (o:=.tup (xs++ys)) (fun b ob q=>Heap.get?_push_of_some _ q) (Nat.le_refl _) ?_,rfl,q2 (fun w=>z (r2.nil_iff.mpr w)) _ (I.hok.fresh (Nat.le_refl _))⟩
 exact ⟨by rw[List.length_append];exact hz,_,r1.append r2,_,Heap.get?_push_size _ rfl⟩
end
end L2
namespace L2
open PySem PySem.Spec PyProof.Rows
def ixN(n:Nat)(i:Int):Option Nat:=if 0<=i then (if i<n then some i.toNat else none) else if -(n:Int)<=i then some (i+n).toNat else none
def atI{α:Type}(xs:List α)(i:Int):Option α:=(ixN xs.length i).bind fun j=>xs[j]?
theorem zkl{n:Nat}{i:Int}{j:Nat}(h:ixN n i=some j):seqIndex? i n=some j/\j<n/\-(n:Int)<=i/\i<n:=by
 unfold ixN at h
 by_cases h0:0<=i
 ·rw[if_pos h0] at h
  by_cases h1:i<n
  ·rw[if_pos h1] at h
   have e:i.toNat=j:=Option.some.inj h
   exact ⟨by rw[seqIndex_of h0 h1,e],by omega,by omega,h1⟩
  ·rw[if_neg h1] at h;cases h
 ·rw[if_neg h0] at h
  by_cases h1:-(n:Int)<=i
  ·rw[if_pos h1] at h
   have e:(i+n).toNat=j:=Option.some.inj h
   exact ⟨by rw[seqIndex_neg (by omega) h1,e],by omega,h1,by omega⟩
  ·rw[if_neg h1] at h;cases h
theorem zm3{α:Type}{xs:List α}{i:Int}{v:α}(h:atI xs i=some v):∃ j,seqIndex? i xs.length=some j/\xs[j]? = some v/\j<xs.length/\-(xs.length:Int)<=i/\i<xs.length:=by
 unfold atI at h
 cases e:ixN xs.length i with
 |none=>rw[e] at h;cases h
 |some j =>
  rw[e] at h
  obtain ⟨h1,h2,h3,h4⟩:=zkl e
  exact ⟨j,h1,h,h2,h3,h4⟩
theorem zhz{α:Type}{xs:List α}{j:Nat}{v:α}(h:xs[j]? = some v):atI xs (j:Int)=some v:=by
 have hj:j<xs.length:=(List.getElem?_eq_some_iff.mp h).1
 have e:ixN xs.length (j:Int)=some j:=by
  unfold ixN
  rw[if_pos (by omega),if_pos (by omega)];simp
 unfold atI;rw[e];exact h
def zhC(b:Expr):Prop:=∀ o i,subscripted b false o i=operate [o,i] (getItem o i)
def IxR(X:Cx)(r:R2):Prop :=
 ∀(value slice:Expr)(pins:List (Addr×Obj))(s:Shared)(σ:St)(H:Hp)(x y:V)(v u:Value)(Q:VK),Inv X pins σ H s->zbD x v->zbD y u->r x y H Q ->
  subscripted slice false v u=operate [v,u] (getItem v u)->wpAny (model X.prog X.w) X.A (subscriptTail value slice v u) (EP X pins σ Q) X.xe s
def MtR(X:Cx)(id:String)(r:V->List V->Hp->VK->Prop):Prop :=
 ∀(pins:List (Addr×Obj))(s:Shared)(σ:St)(H:Hp)(x:V)(xs:List V)(v:Value)(us:List Value)(Q:VK),Inv X pins σ H s->zbD x v->zaM xs us->r x xs H Q ->
  wpAny (model X.prog X.w) X.A (call (.builtin id) (v::us)) (EP X pins σ Q) X.xe s
section
variable{X:Cx}{a b:Expr}{ta tb:TE}{pos:Pos}
theorem IxR.or{r r':R2}(h:IxR X r)(h':IxR X r'):IxR X (fun x y H Q=>r x y H Q\/r' x y H Q):=by
 intro value slice pins s σ H x y v u Q I rx ry q hs
 rcases q with q|q
 ·exact h value slice pins s σ H x y v u Q I rx ry q hs
 ·exact h' value slice pins s σ H x y v u Q I rx ry q hs
theorem MtR.or{id:String}{r r':V->List V->Hp->VK->Prop}(h:MtR X id r)(h':MtR X id r'):MtR X id (fun x xs H Q=>r x xs H Q\/r' x xs H Q):=by
 intro pins s σ H x xs v us Q I rx rs q
 rcases q with q|q
 ·exact h pins s σ H x xs v us Q I rx rs q
 ·exact h' pins s σ H x xs v us Q I rx rs q
theorem zq1{r:R2}(hr:IxR X r)(ha:PE X a ta)(hb:PE X b tb)(hs:zhC b):PE X (.Subscript a b pos) (tOp r ta tb):=by
 intro pins s σ H Q I h
 exact Subscript_ (ztE ha hb I h fun v u s2 x y H2 I2 rx ry q=>hr a b pins s2 σ H2 x y v u Q I2 rx ry q (hs _ _))
def rIxL(K:W.Frag):R2:=fun x y H Q=>∃ p xs i v,x=.ref p/\y=.int i/\SqL K H p xs/\atI xs i=some v/\Q v H
def rIxT(K:W.Frag):R2:=fun x y H Q=>∃ p xs i v,x=.ref p/\y=.int i/\SqT K H p xs/\atI xs i=some v/\Q v H
theorem zkk:IxR X (rIxL X.K):=by
 intro value slice pins s σ H x y v u Q I rx ry h hs
 obtain ⟨p,xs,i,z,rfl,rfl,hq,he,q⟩:=h
 cases rx
 obtain ⟨t,rfl⟩:=ry
 obtain ⟨its,r,pl,hz⟩:=I.list hq
 obtain ⟨j,h1,h2,h3,h4,h5⟩:=zm3 he
 obtain ⟨w,ew,rw'⟩:=r.get h2
 have hl:=r.length
 have hn:=ziR
 have fin:EP X pins σ Q w s:=⟨z,H,I,rw',q⟩
 by_cases h0:0<=i
 ·have hj:i.toNat=j:=by
   rw[seqIndex_of h0 h5] at h1
   exact Option.some.inj h1
  exact item_listR pl.isList h0 (by omega) (by rw[hj];simpa using ew) fin hs
 ·have hj:(i+(its.toArray.size:Int)).toNat=j:=by
   rw[seqIndex_neg (by omega) h4] at h1
   rw[List.size_toArray,<- hl]
   exact Option.some.inj h1
  exact subscriptTail_builtinR (x:=w) pl.isList.typeIs slot_list_getitem.lookup
   (wpAny_getItem_list_neg (Q:=fun r s'=>r=w/\EP X pins σ Q r s') pl.isList (by omega) (by rw[List.size_toArray] <;> omega) (by omega) (by rw[hj];simpa using ew) ⟨rfl,fin⟩) hs
theorem ztc:IxR X (rIxT X.K):=by
 intro value slice pins s σ H x y v u Q I rx ry h hs
 obtain ⟨p,xs,i,z,rfl,rfl,hq,he,q⟩:=h
 cases rx
 obtain ⟨t,rfl⟩:=ry
 obtain ⟨its,r,pl,hz⟩:=I.tuple hq
 obtain ⟨j,h1,h2,h3,h4,h5⟩:=zm3 he
 obtain ⟨w,ew,rw'⟩:=r.get h2
 have hl:=r.length
 have hn:=ziR
 have fin:EP X pins σ Q w s:=⟨z,H,I,rw',q⟩
 exact subscriptTail_builtinR (x:=w) pl.typeIs slot_tuple_getitem.lookup
  (getItem_tuple (j:=j) (Q:=fun r s'=>r=w/\EP X pins σ Q r s') pl (by omega) (by omega) (by rw[List.size_toArray,<- hl];exact h1) (by simpa using ew) ⟨rfl,fin⟩) hs
theorem zli(its:List Value)(n j:Nat)(u:Value):Obj.mapSeq (·.setIfInBounds j u) { cls:=.type "list",data:=.seq its.toArray n }={ cls:=.type "list",data:=.seq (its.set j u).toArray n }:=by
 simp[Obj.mapSeq]
theorem Inv.lst{pins:List (Addr×Obj)}{σ:St}{H:Hp}{s:Shared}{p:Addr}{xs:List V}(I:Inv X pins σ H s)(h:H p=some (.lst xs)) :
  ∃(its:List Value)(n:Nat),zaM xs its/\s.heap.get? p=some { cls:=.type "list",data:=.seq its.toArray n }/\xs.length<=sizeLine:=by
 obtain ⟨z,its,n,r,e⟩:=I.hok p _ h
 exact ⟨its,n,r,e,z⟩
theorem Inv.lstUpd{pins:List (Addr×Obj)}{σ:St}{H:Hp}{s:Shared}{p:Addr}{xs ys:List V}{its its':List Value}{n n':Nat}{f:Obj->Obj}(I:Inv X pins σ H s)(h:H p=some (.lst xs))
  (ho:s.heap.get? p=some { cls:=.type "list",data:=.seq its.toArray n }) (hf:f { cls:=.type "list",data:=.seq its.toArray n }={ cls:=.type "list",data:=.seq its'.toArray n' }) (r:zaM ys its') (hz:ys.length<=sizeLine) (t:Nat) :
  Inv X pins σ (upd H p (.lst ys)) { s with heap:=s.heap.update p f,toks:=t }:=by
 have e:(s.heap.update p f).get? p=some { cls:=.type "list",data:=.seq its'.toArray n' }:=by
  rw[Heap.get?_update_self f ho (by rw[hf] <;> rfl),hf]
 refine I.write (x:=p) (e:=p) (by rw[h];trivial) (.inl rfl) (fun b u hb q=>(Heap.get?_update_other _ _ (Ne.symm hb)).trans q) ⟨_,e⟩ ?_
 exact ⟨hz,its',n',r,e⟩
def ztz:V->V->V->Hp->(Hp->Prop)->Prop:=fun o i v H Q=>∃ p xs k j,o=.ref p/\i=.int k/\H p=some (.lst xs)/\ixN xs.length k=some j/\Q (upd H p (.lst (xs.set j v)))
theorem zo2:PSet X ztz:=by
 intro pins s σ H o i v ov iv u Q I ro ri rv h
 obtain ⟨p,xs,k,j,rfl,rfl,hp,hj,q⟩:=h
 cases ro
 obtain ⟨t,rfl⟩:=ri
 obtain ⟨its,n,r,ho,hz⟩:=I.lst hp
 obtain ⟨h1,h2,h3,h4⟩:=zkl hj
 have hl:=r.length
 have hn:=ziR
 have I':Inv X pins σ (upd H p (.lst (xs.set j v))) { s with heap:=s.heap.update p (Obj.mapSeq (·.setIfInBounds j u)) } :=
  I.lstUpd hp ho (zli its n j u) (r.set rv j) (by rw[List.length_set];exact hz) s.toks
 by_cases h0:0<=k
 ·have hk:k.toNat=j:=by
   rw[seqIndex_of h0 h4] at h1
   exact Option.some.inj h1
  exact W.ki_setAt ho h0 (by omega) (by rw[List.size_toArray,<- hl];exact h4) (by rw[hk];exact ⟨_,I',q⟩)
 ·have hk:(k+(its.toArray.size:Int)).toNat=j:=by
   rw[seqIndex_neg (by omega) h3] at h1
   rw[List.size_toArray,<- hl]
   exact Option.some.inj h1
  exact W.ki_setBack ho (by omega) (by rw[List.size_toArray,<- hl];exact h3) (by omega) (by rw[hk];exact ⟨_,I',q⟩)
theorem ziO(lo hi:Option Int)(n:Nat):(sliceBounds lo hi none n).1=((HT.sIx n 0 lo:Nat):Int)/\(sliceBounds lo hi none n).2.1=((HT.sIx n n hi:Nat):Int)/\(sliceBounds lo hi none n).2.2=1:=by
 refine ⟨?_,?_,rfl⟩
 ·cases lo with
  |none=>simp[sliceBounds,HT.sIx]
  |some i =>
   simp only[sliceBounds,HT.sIx,Option.getD_none,show (1:Int) > 0 by decide,if_true]
   by_cases h:i<0
   ·simp only[h,if_true] <;> omega
   ·simp only[h,if_false] <;> omega
 ·cases hi with
  |none=>simp[sliceBounds,HT.sIx]
  |some i =>
   simp only[sliceBounds,HT.sIx,Option.getD_none,show (1:Int) > 0 by decide,if_true]
   by_cases h:i<0
   ·simp only[h,if_true] <;> omega
   ·simp only[h,if_false] <;> omega
theorem zhx(its:List Value)(lo hi:Option Int):slicePick its.toArray lo hi none=((its.drop (HT.sIx its.length 0 lo)).take (HT.sIx its.length its.length hi-HT.sIx its.length 0 lo)).toArray:=by
 obtain ⟨h1,h2,h3⟩:=ziO lo hi its.toArray.size
 unfold slicePick
 rw[h1,h2,h3]
 simp only[sliceRange_one,pick_run,List.size_toArray] <;> rfl
def rSlL(K:W.Frag):V->Option Int->Option Int->Hp->VK->Prop:=fun x lo hi H Q=>∃ a xs,x=.ref a/\SqL K H a xs/\∀ p,H p=none->Q (.ref p) (upd H p (.lst (zlM xs lo hi)))
theorem zri:SlR X (rSlL X.K):=by
 intro pins s σ H x v vl vu lo hi sl Q I rx hs pl pu h
 obtain ⟨a,xs,rfl,hx,q⟩:=h
 cases rx
 obtain ⟨its,r,ht,hz⟩:=I.list hx
 have hlen:=r.length
 refine ⟨"list",_,slot_list_getitem.lookup,ht.isList.typeIs,?_⟩
 refine wpAny_getItem_list_slice ht.isList hs pl pu .none (by simp) ?_ (by rw[List.size_toArray] <;> omega)
 rw[zhx,<- hlen]
 refine ⟨.ref s.heap.objs.size,_,I.laid (t':=s.toks) (o:=.lst (zlM xs lo hi)) (fun b ob q=>Heap.get?_push_of_some _ q) (Nat.le_refl _) ?_,rfl,q _ (I.hok.fresh (Nat.le_refl _))⟩
 exact ⟨Nat.le_trans (zfH xs lo hi) hz,_,0,(r.drop (HT.sIx xs.length 0 lo)).take (HT.sIx xs.length xs.length hi-HT.sIx xs.length 0 lo),Heap.get?_push_size _ rfl⟩
theorem zfo:zcg X (.builtin "len") (fun xs H Q=>∃ p ys,xs=[.ref p]/\(SqL X.K H p ys\/SqT X.K H p ys)/\Q (.int ys.length) H):=by
 intro pins s σ H xs us Q I r h
 obtain ⟨p,ys,rfl,hq,q⟩:=h
 obtain ⟨u,rfl,rx⟩:=zeX r
 cases rx
 have hn:=ziR
 rcases hq with hq|hq
 ·obtain ⟨its,r',pl,hz⟩:=I.list hq
  have hlen:=r'.length
  exact Calls.call_len_list pl.isList (by simp only[List.size_toArray] <;> omega) ⟨.int ys.length,H,I.tok _,⟨s.toks+1,by rw[List.size_toArray,hlen]⟩,q⟩
 ·obtain ⟨its,r',pl,hz⟩:=I.tuple hq
  have hlen:=r'.length
  exact len_tuple pl (by simp only[List.size_toArray] <;> omega) ⟨.int ys.length,H,I.tok _,⟨s.toks+1,by rw[List.size_toArray,hlen]⟩,q⟩
theorem zio:zcg X (.builtin "len") (fun xs H Q=>∃ z,xs=[.str z]/\z.length<=sizeLine/\Q (.int z.length) H):=by
 intro pins s σ H xs us Q I r h
 obtain ⟨z,rfl,hz,q⟩:=h
 obtain ⟨u,rfl,t,rfl⟩:=zeX r
 have hn:=ziR
 exact len_str (by omega) ⟨.int z.length,H,I.tok _,⟨_,rfl⟩,q⟩
theorem zcg.or{f:Value}{r r':List V->Hp->VK->Prop}(h:zcg X f r)(h':zcg X f r'):zcg X f (fun xs H Q=>r xs H Q\/r' xs H Q):=by
 intro pins s σ H xs us Q I rs q
 rcases q with q|q
 ·exact h pins s σ H xs us Q I rs q
 ·exact h' pins s σ H xs us Q I rs q
theorem zid:zcg X (.type "list") (fun xs H Q=>∃ p ys,xs=[.ref p]/\(SqL X.K H p ys\/SqT X.K H p ys)/\∀ l,H l=none->Q (.ref l) (upd H l (.lst ys))):=by
 intro pins s σ H xs us Q I r h
 obtain ⟨p,ys,rfl,hq,q⟩:=h
 obtain ⟨u,rfl,rx⟩:=zeX r
 cases rx
 have fin:∀(its:List Value),zaM ys its->ys.length<=sizeLine->∀(h':Heap)(c':Nat),(∀ b o',s.heap.get? b=some o'->h'.get? b=some o') ->
   h'.get? s.heap.objs.size=some { cls:=.type "list",dict:=none,data:=.seq its.toArray c',slots:=#[] }->EP X pins σ Q (.ref s.heap.objs.size) { s with heap:=h' }:=fun its r' hz h' c' kp e =>
  ⟨.ref s.heap.objs.size,_,I.laid (t':=s.toks) kp (Nat.le_refl _) (show zcd X.prog X.w _ h' _ (.lst ys) from ⟨hz,its,c',r',e⟩),rfl,q _ (I.hok.fresh (Nat.le_refl _))⟩
 rcases hq with hq|hq
 ·obtain ⟨its,r',pl,hz⟩:=I.list hq
  have hlen:=r'.length
  obtain ⟨o,ho,hc,n,hd⟩:=pl.isList
  exact call_list_seq p (.inl rfl) ho hc hd (fun h' c' kp e=>fin its r' hz h' c' kp e) (by simp only[List.size_toArray] <;> omega)
 ·obtain ⟨its,r',pl,hz⟩:=I.tuple hq
  have hlen:=r'.length
  obtain ⟨o,ho,hc,n,hd⟩:=pl
  exact call_list_seq p (.inr rfl) ho hc hd (fun h' c' kp e=>fin its r' hz h' c' kp e) (by simp only[List.size_toArray] <;> omega)
theorem zhk:zcg X (.type "tuple") (fun xs H Q=>∃ p ys,xs=[.ref p]/\((SqL X.K H p ys/\∀ l,H l=none->Q (.ref l) (upd H l (.tup ys)))\/(SqT X.K H p ys/\Q (.ref p) H))):=by
 intro pins s σ H xs us Q I r h
 obtain ⟨p,ys,rfl,h⟩:=h
 obtain ⟨u,rfl,rx⟩:=zeX r
 cases rx
 rcases h with ⟨hq,q⟩|⟨hq,q⟩
 ·obtain ⟨its,r',pl,hz⟩:=I.list hq
  have hlen:=r'.length
  refine call_tuple_list pl.isList (fun h' kp=>?_) (by simp only[List.size_toArray] <;> omega)
  have I1:Inv X pins σ H { s with heap:=h' }:=I.kept (t':=s.toks) kp
  have I2:Inv X pins σ (upd H h'.objs.size (.tup ys)) { s with heap:=h'.push { cls:=.type "tuple",data:=.seq its.toArray } } :=
   I1.laid (t':=s.toks) (fun b o e=>Heap.get?_push_of_some _ e) (Nat.le_refl _) (show zcd X.prog X.w _ _ _ (.tup ys) from ⟨hz,its,r',_,Heap.get?_push_size _ rfl⟩)
  exact ⟨.ref h'.objs.size,_,I2,rfl,q _ (I1.hok.fresh (Nat.le_refl _))⟩
 ·obtain ⟨its,r',pl,hz⟩:=I.tuple hq
  exact call_tuple_same pl ⟨.ref p,H,I,rfl,q⟩
def tyV(K:W.Frag)(T:String)(x:V)(H:Hp):Prop:=match x with
 |.str _=>T="str"
 |.int _=>T="int"
 |.ref p=>(T="list"/\∃ xs,SqL K H p xs)\/(T="tuple"/\∃ o,K.lookup p=some o/\o.cls=.type "tuple"/\o.dict=none) \/
   (T="dict"/\((∃ kvs,H p=some (.dK kvs))\/∃ kvs,H p=some (.dT kvs)))\/(T="set"/\∃ S n,H p=some (.set S n))
 |_=>False
theorem zs4{pins:List (Addr×Obj)}{σ:St}{H:Hp}{s:Shared}{T:String}{x:V}{v:Value}(I:Inv X pins σ H s)(r:zbD x v)(ty:tyV X.K T x H) :
  s.TypeIs v T/\∀ a,v=.ref a->∃ ob,s.heap.get? a=some ob/\ob.dict=none:=by
 cases x with
 |str z =>
  obtain ⟨t,rfl⟩:=r
  cases (show T="str" from ty)
  exact ⟨typeIs_str s z t,fun _ e=>nomatch e⟩
 |int i =>
  obtain ⟨t,rfl⟩:=r
  cases (show T="int" from ty)
  exact ⟨typeIs_int s i t,fun _ e=>nomatch e⟩
 |ref p =>
  cases r
  rcases ty with ⟨rfl,xs,hq⟩|⟨rfl,o,hk,hc,hd⟩|⟨rfl,hk⟩|⟨rfl,S,n,hk⟩
  ·obtain ⟨its,_,pl,_⟩:=I.list hq
   refine ⟨pl.isList.typeIs,fun a e=>?_⟩
   cases e
   obtain ⟨o,n,e,c,hd,_⟩:=pl
   exact ⟨o,e,hd⟩
  ·refine ⟨⟨o,I.kIn p o hk,hc⟩,fun a e=>?_⟩
   cases e
   exact ⟨o,I.kIn _ o hk,hd⟩
  ·have z:∃ o,s.heap.get? p=some o/\o.ExactDict:=by
    rcases hk with ⟨kvs,hk⟩|⟨kvs,hk⟩
    ·obtain ⟨_,_,_,_,o,_,_,e,ex,_⟩:=I.hok p _ hk
     exact ⟨o,e,ex⟩
    ·obtain ⟨_,_,_,_,o,_,_,e,ex,_⟩:=I.hok p _ hk
     exact ⟨o,e,ex⟩
   obtain ⟨o,e,ex⟩:=z
   refine ⟨⟨o,e,ex.1⟩,fun a e2=>?_⟩
   cases e2
   exact ⟨o,e,ex.2.1⟩
  ·obtain ⟨o,_,_,_,e,ex,_⟩:=I.hok p _ hk
   refine ⟨⟨o,e,ex.1⟩,fun a e2=>?_⟩
   cases e2
   exact ⟨o,e,ex.2.1⟩
 |_=>exact False.elim ty
def tBM(K:W.Frag)(T:String)(r:V->List V->Hp->VK->Prop)(to:TE)(t:TA):TE:=fun σ H Q=>to σ H fun x H1=>tyV K T x H1/\t σ H1 fun xs H2=>r x xs H2 Q
variable{o e:Expr}{es:List Expr}{to:TE}{t:TA}{name:Str}{apos cpos:Pos}{T id:String}{r:V->List V->Hp->VK->Prop}
theorem zoK(pa:PlainAttrs T)(slot:Slot T name id)(hty:typeOf (.builtin id)=pure (.type "method_descriptor"))(hm:MtR X id r)(ho:PE X o to)(ha:PA X (e::es) t)
  (hbase:attributeBase o name X.env (eval o X.env)=eval o X.env:=by rfl)
  (hfew:((backTo cpos (starEach (e::es) X.env)).all (fun x=>!x.1) && (backToKw cpos (keywordEach [] X.env)).all (fun x=>x.1.isSome)
   && decide ((e::es).length+([]:List Keyword).length+(if ([]:List Keyword).isEmpty then 0 else 1)<30))=true:=by rfl)
  (hline:(apos.endLine == cpos.line)=true:=by rfl) (hs:starEach (e::es) X.env=(false,eval e X.env)::starEach es X.env:=by rfl) (hplain:(backTo cpos (starEach es X.env)).any (·.1)=false:=by rfl) :
  PE X (.Call (.Attribute o name apos) (e::es) [] cpos) (tBM X.K T r to t):=by
 intro pins s σ H Q I h
 refine wpAny_Call_method_late hbase hfew hline rfl (thn (ho pins s σ H _ I h) fun v s1 ⟨x,H1,I1,r1,ty,q1⟩=>?_)
 obtain ⟨h1,h2⟩:=zs4 I1 r1 ty
 refine ⟨T,id,pa,slot,hty,h1,h2,?_⟩
 have hA:=ha cpos pins s1 σ H1 _ I1 q1
 rw[hs] at hA ⊢
 refine Calls.callWith_builtin (by show (false || (backTo cpos (starEach es X.env)).any (·.1))=false;rw[hplain] <;> rfl) (Calls.evalArgs_plain ?_)
 exact thn hA fun us s2 ⟨vs,H2,I2,r2,q2⟩=>hm pins s2 σ H2 x vs v us Q I2 r1 r2 q2
end
end L2
namespace L2
open PySem PySem.Spec PyProof.Rows
def MtM(X:Cx)(id:String)(r:V->List V->Hp->VK->Prop):Prop :=
 ∀(pins:List (Addr×Obj))(s:Shared)(σ:St)(H:Hp)(x:V)(xs:List V)(v:Value)(us:List Value)(Q:VK),Inv X pins σ H s->zbD x v->zaM xs us->r x xs H Q ->
  wpAny (model X.prog X.w) X.A (call (.builtin id) (v::us)) (EP X pins σ Q) X.xe s
theorem zaM.one:∀{x:V}{us:List Value},zaM [x] us->∃ u,us=[u]/\zbD x u
 |_,_,.cons r .nil=>⟨_,rfl,r⟩
theorem zaM.dropLast{xs:List V}{us:List Value}(h:zaM xs us):zaM xs.dropLast us.dropLast:=by
 induction h with
 |nil=>exact .nil
 |cons r t ih =>
  cases t with
  |nil=>exact .nil
  |cons q t'=>exact .cons r ih
theorem zaM.eraseIdx:∀{xs:List V}{us:List Value}(i:Nat),zaM xs us->zaM (xs.eraseIdx i) (us.eraseIdx i)
 |_,_,_,.nil=>.nil
 |_,_,0,.cons _ t=>t
 |_,_,i+1,.cons r t=>.cons r (zaM.eraseIdx i t)
theorem zaM.reverse{xs:List V}{us:List Value}(h:zaM xs us):zaM xs.reverse us.reverse:=by
 induction h with
 |nil=>exact .nil
 |cons r t ih=>rw[List.reverse_cons,List.reverse_cons];exact zaM.append ih (.cons r .nil)
theorem zit{α:Type}:∀(l:List α)(i:Nat),(l.eraseIdx i).length<=l.length
 |[],_=>Nat.le_refl _
 |_::_,0=>Nat.le_succ _
 |_::r,i+1=>Nat.succ_le_succ (zit r i)
section
variable{X:Cx}{pins:List (Addr×Obj)}{σ:St}{H:Hp}{s:Shared}{l b:Addr}{xs ys zs:List V}
theorem Inv.lset{its its':List Value}{n:Nat}{f:Array Value->Array Value}{t':Nat}(I:Inv X pins σ H s)(hH:H l=some (.lst xs))
  (e:s.heap.get? l=some { cls:=.type "list",data:=.seq its.toArray n }) (hf:f its.toArray=its'.toArray) (hv:zaM ys its') (hz:ys.length<=sizeLine) :
  Inv X pins σ (upd H l (.lst ys)) { s with heap:=s.heap.update l (Obj.mapSeq f),toks:=t' }:=by
 have q:=PySem.IsL.update e f
 rw[hf] at q
 refine I.write (x:=l) (e:=l) (by rw[hH];exact trivial) (.inl rfl) (fun b' u hb hu=>(Heap.get?_update_other s.heap (Obj.mapSeq f) (Ne.symm hb)).trans hu) ⟨_,q⟩ ?_
 exact ⟨hz,its',_,hv,q⟩
theorem Inv.lnew{its:List Value}{t':Nat}(I:Inv X pins σ H s)(hv:zaM ys its)(hz:ys.length<=sizeLine) :
  Inv X pins σ (upd H s.heap.objs.size (.lst ys)) { s with heap:=s.heap.push { cls:=.type "list",data:=.seq its.toArray },toks:=t' } :=
 I.laid (fun _ _ q=>Heap.get?_push_of_some _ q) (Nat.le_refl _) ⟨hz,its,0,hv,Heap.get?_push_size _ rfl⟩
theorem Inv.fresh(I:Inv X pins σ H s):H s.heap.objs.size=none:=I.hok.fresh (Nat.le_refl _)
theorem Inv.lstM(I:Inv X pins σ H s)(hH:H l=some (.lst xs)):xs.length<=sizeLine/\∃(its:List Value)(n:Nat),zaM xs its/\xs.length=its.length/\s.heap.get? l=some { cls:=.type "list",data:=.seq its.toArray n }:=by
 obtain ⟨z,its,n,r,e⟩:=I.hok l _ hH
 exact ⟨z,its,n,r,r.length,e⟩
theorem zkQ{n:Nat}(h:n<=sizeLine):Builtin.List.listTooLong n=false:=by
 unfold Builtin.List.listTooLong
 exact decide_eq_false (by omega)
end
section
variable{X:Cx}
def zqU:V->List V->Hp->VK->Prop:=fun x vs H Q=>∃ l xs y,x=.ref l/\vs=[y]/\H l=some (.lst xs)/\xs.length<sizeLine/\Q .non (upd H l (.lst (xs++[y])))
theorem zeD:MtM X "list.append" zqU:=by
 intro pins s σ H x vs v us Q I rx rv h
 obtain ⟨l,xs,y,rfl,rfl,hH,hz,q⟩:=h
 cases rx
 obtain ⟨u,rfl,ru⟩:=rv.one
 obtain ⟨z,its,n,r,hl,e⟩:=I.lstM hH
 refine call_meets F.slot_list_append ⟨_,e,rfl⟩ F.entry_list_append (F.args_list_append_2 _ _) (PySem.list_append l its.toArray n u (by rw[List.size_toArray];omega)) ⟨e,?_⟩
 refine ⟨.non,_,I.lset (its':=its++[u]) hH e (by simp) (r.append (.cons ru .nil)) ?_,rfl,q⟩
 rw[List.length_append,List.length_singleton]
 omega
def zqz:V->List V->Hp->VK->Prop:=fun x vs H Q=>∃ l b xs zs,x=.ref l/\vs=[.ref b]/\H l=some (.lst xs)/\H b=some (.lst zs)/\xs.length+zs.length<=sizeLine/\Q .non (upd H l (.lst (xs++zs)))
theorem zmy:MtM X "list.extend" zqz:=by
 intro pins s σ H x vs v us Q I rx rv h
 obtain ⟨l,b,xs,zs,rfl,rfl,hH,hB,hz,q⟩:=h
 cases rx
 obtain ⟨u,rfl,ru⟩:=rv.one
 cases ru
 obtain ⟨z,its,n,r,hl,e⟩:=I.lstM hH
 obtain ⟨z2,its2,n2,r2,hl2,e2⟩:=I.lstM hB
 have hsz:its.toArray.size+its2.toArray.size<=sizeLine:=by rw[List.size_toArray,List.size_toArray];omega
 have hlong:¬ (!its.toArray.isEmpty && Builtin.List.listTooLong (its.toArray.size+its2.toArray.size))=true:=by
  rw[zkQ hsz,Bool.and_false]
  exact Bool.false_ne_true
 refine call_meets F.slot_list_extend ⟨_,e,rfl⟩ F.entry_list_extend (F.args_list_extend_2 _ _)
  (AutoSeq1.list_extend_list_list_0 l its.toArray n b its2.toArray n2 hlong (by rw[List.size_toArray];omega) (by omega)) ⟨e,e2,?_⟩
 refine ⟨.non,_,I.lset (its':=its++its2) hH e (by simp) (r.append r2) ?_,rfl,q⟩
 rw[List.length_append]
 omega
def zs3:V->List V->Hp->VK->Prop:=fun x vs H Q=>∃ l xs i k y,x=.ref l/\vs=[.int i]/\H l=some (.lst xs)/\-(2 ^ 63)<=i/\i<2 ^ 63/\seqIndex? i xs.length=some k/\xs[k]? = some y/\Q y (upd H l (.lst (xs.eraseIdx k)))
theorem zpu:MtM X "list.pop" zs3:=by
 intro pins s σ H x vs v us Q I rx rv h
 obtain ⟨l,xs,i,k,y,rfl,rfl,hH,h1,h2,hk,hy,q⟩:=h
 cases rx
 obtain ⟨u,rfl,ru⟩:=rv.one
 obtain ⟨t,rfl⟩:=ru
 obtain ⟨z,its,n,r,hl,e⟩:=I.lstM hH
 obtain ⟨w,hw,rw'⟩:=r.get hy
 refine call_meets F.slot_list_pop ⟨_,e,rfl⟩ F.entry_list_pop (F.args_list_pop_2 _ _)
  (MeetsSeq.list_pop_at l its.toArray n i t k w (fitsIndex_both h1 h2) (by rw[List.size_toArray,<- hl];exact hk) (by rw[<- Array.getElem?_toList];exact hw) (by rw[List.size_toArray];omega)) ⟨e,?_⟩
 refine ⟨y,_,I.lset (its':=its.eraseIdx k) hH e ?_ (r.eraseIdx k) ?_,rw',q⟩
 ·show its.toArray.eraseIdxIfInBounds k=(its.eraseIdx k).toArray
  rw[List.eraseIdxIfInBounds_toArray]
 ·have:=zit xs k
  omega
def rCat:R2:=fun x y H Q=>∃ l b xs zs,x=.ref l/\y=.ref b/\H l=some (.lst xs)/\H b=some (.lst zs)/\xs.length+zs.length<=sizeLine/\∀ p,H p=none->Q (.ref p) (upd H p (.lst (xs++zs)))
theorem zsJ:OpR X (binaryOp .Add) rCat:=by
 intro pins s σ H x y v u Q I rx ry h
 obtain ⟨l,b,xs,zs,rfl,rfl,hH,hB,hz,q⟩:=h
 cases rx
 cases ry
 obtain ⟨z,its,n,r,hl,e⟩:=I.lstM hH
 obtain ⟨z2,its2,n2,r2,hl2,e2⟩:=I.lstM hB
 refine PySem.P.add_list e e2 ?_ (by rw[List.size_toArray,List.size_toArray];omega)
 have ea:its.toArray++its2.toArray=(its++its2).toArray:=by simp
 rw[ea]
 exact ⟨.ref _,_,I.lnew (t':=s.toks) (r.append r2) (by rw[List.length_append];omega),rfl,q _ I.fresh⟩
end
section
variable{prog:Program}{w:World}{A:Around}{E:Value->Shared->Prop}{s:Shared}
set_option maxRecDepth 100000 in
end
section
variable{X:Cx}
end
end L2
namespace Att
open PySem PySem.W PySem.Calls PyProof.Rows
theorem zgh{P:Params}{h:Heap}:∀(ns:List Int)(vs:List Value),WellAll P h vs (ns.map WData.int)->IntsAre vs ns:=by
 intro ns
 induction ns with
 |nil =>
  intro vs w
  rw[List.map_nil] at w
  cases w
  exact .nil
 |cons n ns ih =>
  intro vs w
  rw[List.map_cons] at w
  cases w with
  |cons a b =>
   cases a
   exact .cons _ _ (ih _ b)
theorem zn6{l:OpenLaw}{n:Nat}(hn:l.most=some n){P:Params}{h:Heap}{args:List WData}{vals:List Value}
  (hpre:l.row.toRowW.claim.pre args=true) (hwl:WellAll P h vals args) :
  ∃ a vs ns,vals=[Value.ref a]/\args=[WData.list (ns.map WData.int)]/\h.get? a=some { cls:=.type "list",data:=.seq vs.toArray }/\IntsAre vs ns/\ns.length<=n:=by
 have hsh:WShape.hasAll [] args [.list .int]=true:=(pre_splitW hpre).1
 have hc:l.pre.holds [] { args:=args }=true:=(pre_splitW hpre).2
 obtain ⟨d,r,rfl,h1,h2⟩:=hasAllW_cons hsh
 obtain rfl:=hasAllW_nil h2
 obtain ⟨xs,rfl,h3⟩:=hasW_list h1
 obtain ⟨ns,rfl⟩:=items_int h3
 have hlen:ns.length<=n:=by
  unfold OpenLaw.pre at hc
  have h4:(WTm.not (.lt (.lit (.int (n:Int))) (.len (.arg 0)))).holds [] { args:=[.list (ns.map .int)] }=true:=by
   have h4:=(holds_andW hc).1
   rw[hn] at h4
   exact h4
  have h5:=condW_of h4 (w_not (w_lt w_lit (w_len_list (w_arg rfl))))
  rw[List.length_map] at h5
  refine Nat.le_of_not_lt fun q=>?_
  have q':(n:Int)<((ns.length:Nat):Int):=by omega
  first
   | (rw[decide_eq_true q'] at h5;exact absurd h5 (by decide))
   | (simp at h5;omega)
 cases hwl with
 |cons w1 w2 =>
  cases w2
  cases w1 with
  |list ho hall=>exact ⟨_,_,ns,rfl,rfl,ho,zgh ns _ hall,hlen⟩
theorem zm9(l:OpenLaw)(args:List WData):l.row.toRowW.claim.post args (.bool true) args=true :=
 postW_of (r:=l.row.toRowW) (X:=(true == true))
  (show WShape.has [] (.bool true) .bool=true by first|rfl|decide|simp[WShape.has,WShape.arms,WShape.armsAll])
  (show (WTm.eq .res (.lit (.bool true))).value [] { args:=args,res:=some (.bool true),after:=args }=some (.bool (true == true)) from w_eq_bool (w_res rfl) w_lit) rfl
theorem attach_call{l:OpenLaw}{n:Nat}{q:Program}{loose:List Str}{XP:(Str->Option Value)->Heap->Prop}{YP:World->Heap->Prop}{d:DefRec}
  (hn:l.most=some n) (hdf:d.params.defaults=[])
  (call:∀(w:World)(s₀ s₁:Shared)(mg mb:Str->Option Value)(fa:Addr)(o:Obj)(pm cd doc:Value)(a:Addr)(vs:List Value)(ns:List Int),
   Ground q loose [] XP w s₀ mg mb s₁.heap->YP w s₁.heap ->
   s₁.heap.get? fa=some o->o.data=.func (docDef d.name d.params d.body d.scope pm cd doc)->s₁.heap.CodeRec cd d.name->mg d.name=some (.ref fa) ->
   s₁.heap.get? a=some { cls:=.type "list",data:=.seq vs.toArray }->IntsAre vs ns->ns.length<=n->s₁.gens=#[] ->
   codeAny (model l.prog w) callerA (.call (.ref fa) ⟨[.ref a],[]⟩) (fun r s'=>r=.ok (.ret (.bool true))/\OldK s₁.heap s'.heap/\s'.os=s₁.os/\AllBare s'.gens) s₁) :
  WalkO q loose XP YP l.row.toRowW d [] (fun f vs=>PySem.call f vs):=by
 intro w s₀ s₁ mg mb G Y fa o pm cd doc dV kV ho hd hcd hD hmg hg args vals as hpre hlay hrd hwl hlo
 obtain rfl:dV=.none:=Dflts.none hD hdf
 obtain rfl:kV=.none:=Dflts.noKw hD
 obtain ⟨a,vs,ns,rfl,rfl,hobj,hints,hlen⟩:=zn6 hn hpre hwl
 refine enter_call (codeAny_mono (call w s₀ s₁ mg mb fa o pm cd doc a vs ns G Y ho (fd_plain hd) hcd hmg hobj hints hlen hg) fun r s' hq=>?_)
 obtain ⟨rfl,h2,h3,h4⟩:=hq
 exact ⟨.inl ⟨.bool true,.bool true,[],rfl,fun _=>rfl,.bool true,zm9 l _,fun _=>⟨List.Pairwise.nil,fun _ hm=>(nomatch hm)⟩⟩,h2,h3,h4⟩
section
variable{prog:Program}{w:World}{A:Around}{E:Value->Shared->Prop}{s:Shared}{K:Frag}
end
end Att
namespace L2
open PySem PySem.Spec PyProof.Rows
theorem vals_ints:∀{vs:List Value}{ns:List Int},IntsAre vs ns->zaM (ns.map V.int) vs
 |_,_,.nil=>.nil
 |_,_,.cons n t h=>.cons ⟨t,rfl⟩ (vals_ints h)
end L2
namespace L2
open PySem PySem.Spec PyProof.Rows
end L2
namespace L2
open PySem PySem.Spec PyProof.Rows
def zef(s:Stmt):Arguments:=match s with
 |.FunctionDef _ a _ _ _ _ _ _ _ _=>a
 |_=>{ posonlyargs:=[],args:=[],vararg:=none,kwonlyargs:=[],kw_defaults:=[],kwarg:=none,defaults:=[] }
def zbZ(s:Stmt):List Stmt:=match s with
 |.FunctionDef _ _ b _ _ _ _ _ _ _=>b
 |_=>[]
def zak(s:Stmt):Scope:=match s with
 |.FunctionDef _ _ _ _ _ _ sc _ _ _=>sc
 |_=>{ kind:=.function,names:=[],isGenerator:=false,isCoroutine:=false }
abbrev CX0:CXT:=fun _ _ _ _ _ _=>False
structure Fun(K:W.Frag)(x qual:Str)(st:Stmt)(f:Addr)(fd:FuncData):Prop where
 ex:∃(oc:Value)(od:Option Addr)(kV doc pm:Value)(an:Option Addr)(cdv ct:Value)(osl:Array (Option Value)),
  fd=W.fnOf x qual (zef st) (zbZ st) (zak st) .none kV doc pm an cdv ct/\K.lookup f=some ⟨oc,od,.func fd,osl⟩/\W.codeIn K cdv qual=true
 kp:W.keepIn K (.ref f)=true
section
variable{P:Program}{w:World}{K:W.Frag}{mg:Str->Option Value}{base:Heap}
theorem Fun.ok{x qual:Str}{st:Stmt}{f:Addr}{fd:FuncData}{N ps:List Str}{k:Nat}{sp:Sp}(F:Fun K x qual st f fd)(S:za6 N ps (zak st))(len:∀ vs H Q E,sp vs H Q E->vs.length=ps.length)
  (hbody:∀(cdv:Value)(A:Around)(outer:List Env)(s:Shared)(H:Hp)(vs:List V)(Q:VK)(E:XK),zds k (A.deeper (envOfC qual (zak st) s.heap.objs.size f cdv))->sp vs H Q E ->
   ∃ t,PSs (zjK CX0 P w K mg base N qual (zak st) f cdv A outer s H E).nox (zbZ st) t/\t { nx:=fun _ H'=>Q .non H',rt:=Q } (start N vs) H):zeJ P w K mg base CX0 (k+1) f fd ps sp:=by
 obtain ⟨oc,od,kV,doc,pm,an,cdv,ct,osl,rfl,lk,hcd⟩:=F.ex
 refine zrl lk hcd S len fun A outer s H vs Q E hr hsp=>?_
 obtain ⟨t,h,q⟩:=hbody cdv A outer s H vs Q E hr hsp
 exact ⟨t,h.nox,q⟩
theorem Fun.binds{x qual:Str}{st:Stmt}{f:Addr}{fd:FuncData}{ps:List Str}(F:Fun K x qual st f fd)
  (h:∀(kV doc pm:Value)(an:Option Addr)(cdv ct:Value)(us:List Value),us.length=ps.length->bindArgs (W.fnOf x qual (zef st) (zbZ st) (zak st) .none kV doc pm an cdv ct) ⟨us,[]⟩=pure (ps.zip us)):zeO K fd ps []:=by
 obtain ⟨oc,od,kV,doc,pm,an,cdv,ct,osl,rfl,lk,hcd⟩:=F.ex
 exact .all (h kV doc pm an cdv ct)
theorem zp5{x qual:Str}{st:Stmt}{f:Addr}{oc:Value}{od an:Option Addr}{osl:Array (Option Value)}{kV doc pm cdv ct:Value}(l:K.lookup f=some ⟨oc,od,.func (W.fnOf x qual (zef st) (zbZ st) (zak st) .none kV doc pm an cdv ct),osl⟩)
  (c:W.codeIn K cdv qual=true) (k:W.keepIn K (.ref f)=true):Fun K x qual st f (W.fnOf x qual (zef st) (zbZ st) (zak st) .none kV doc pm an cdv ct):=⟨⟨oc,od,kV,doc,pm,an,cdv,ct,osl,rfl,l,c⟩,k⟩
end
section
variable{X:Cx}
end
def zb7(H H':Hp):Prop:=∀ b o,H b=some o->H' b=some o
theorem zb7.refl(H:Hp):zb7 H H:=fun _ _ h=>h
theorem zb7.trans{H H1 H2:Hp}(a:zb7 H H1)(b:zb7 H1 H2):zb7 H H2:=fun c o h=>b c o (a c o h)
theorem zb7.free{H H':Hp}(e:zb7 H H'){l:Addr}(h:H' l=Option.none):H l=Option.none:=by
 cases q:H l with
 |none=>rfl
 |some o =>
  rw[e l o q] at h
  cases h
theorem zb7.seq{K:W.Frag}{H H':Hp}{a:Addr}{xs:List V}(e:zb7 H H')(h:SqL K H a xs):SqL K H' a xs:=by
 rcases h with (h|⟨o,h⟩)|h
 ·exact .inl (.inl (e _ _ h))
 ·exact .inl (.inr ⟨o,e _ _ h⟩)
 ·exact .inr h
section
variable{κ:Type} [DecidableEq κ]
def znB(kvs:List (κ×V))(k:κ):Option V:=(kvs.find? fun kv=>decide (kv.1=k)).map (·.2)
def zub(kvs:List (κ×V))(k:κ)(v:V):List (κ×V) :=
 if (kvs.any fun kv=>decide (kv.1=k))=true then kvs.map (fun kv=>if kv.1=k then (kv.1,v) else kv) else kvs++[(k,v)]
def zsY(kvs:List (κ×V))(k:κ):List (κ×V):=kvs.filter fun kv=>decide (kv.1≠k)
theorem zkT{p:κ×V}{r:List (κ×V)}{k:κ}(e:p.1=k):znB (p::r) k=some p.2:=by simp[znB,List.find?_cons,e]
theorem zk6{p:κ×V}{r:List (κ×V)}{k:κ}(e:¬ p.1=k):znB (p::r) k=znB r k:=by simp[znB,List.find?_cons,e]
theorem zrC.getD{o:Option V}{u:Option Value}{d:V}{d':Value}(r:zrC o u)(rd:zbD d d'):zbD (o.getD d) (u.getD d'):=by
 cases o with
 |none=>cases u with
  |none=>exact rd
  |some _=>exact (show False from r).elim
 |some _=>cases u with
  |none=>exact (show False from r).elim
  |some _=>exact r
theorem KV.val{kvs:List (κ×V)}{vs:List (κ×Value)}(r:KV kvs vs)(k:κ):zrC (znB kvs k) (valueAt vs k):=by
 unfold KV at r
 induction r with
 |nil=>exact True.intro
 |@cons p q ps qs h t ih =>
  obtain ⟨h1,h2⟩:=h
  by_cases e:p.1=k
  ·have e':q.1=k:=h1.symm.trans e
   have b:valueAt (q::qs) k=some q.2:=by simp[valueAt,List.find?_cons,e']
   rw[zkT e,b];exact h2
  ·have e':¬ q.1=k:=fun z=>e (h1.trans z)
   have b:valueAt (q::qs) k=valueAt qs k:=by simp[valueAt,List.find?_cons,e']
   rw[zk6 e,b];exact ih
theorem KV.any{kvs:List (κ×V)}{vs:List (κ×Value)}(r:KV kvs vs)(k:κ):(kvs.any fun kv=>decide (kv.1=k))=vs.any fun kv=>decide (kv.1=k):=by
 unfold KV at r
 induction r with
 |nil=>rfl
 |cons h t ih=>rw[List.any_cons,List.any_cons,ih,h.1]
theorem KV.drop{kvs:List (κ×V)}{vs:List (κ×Value)}(r:KV kvs vs)(k:κ):KV (zsY kvs k) (without vs k):=by
 unfold KV at r ⊢
 unfold zsY without
 induction r with
 |nil=>exact .nil
 |@cons p q ps qs h t ih =>
  obtain ⟨h1,h2⟩:=h
  rw[List.filter_cons,List.filter_cons]
  by_cases e:p.1=k
  ·have a:¬ decide (p.1≠k)=true:=by simp[e]
   have b:¬ decide (q.1≠k)=true:=by simp[h1.symm.trans e]
   rw[if_neg a,if_neg b];exact ih
  ·have e':¬ q.1=k:=fun z=>e (h1.trans z)
   have a:decide (p.1≠k)=true:=by simp[e]
   have b:decide (q.1≠k)=true:=by simp[e']
   rw[if_pos a,if_pos b];exact .cons ⟨h1,h2⟩ ih
theorem KV.length{kvs:List (κ×V)}{vs:List (κ×Value)}(r:KV kvs vs):kvs.length=vs.length:=Paired.length r
end
abbrev KT(H:Hp):List (List Key×V)->List (List Key×Addr×Value)->Prop:=Paired fun p q=>p.1=q.1/\H q.2.1=some (.tup (p.1.map kV))/\zbD p.2 q.2.2
theorem KT.val{H:Hp}{kvs:List (List Key×V)}{xs:List (List Key×Addr×Value)}(r:KT H kvs xs)(k:List Key):zrC (znB kvs k) ((atKey xs k).map (·.2)):=by
 induction r with
 |nil=>exact True.intro
 |@cons p q ps qs h t ih =>
  obtain ⟨h1,_,h2⟩:=h
  by_cases e:p.1=k
  ·have e':q.1=k:=h1.symm.trans e
   have b:atKey (q::qs) k=some q.2:=by simp[atKey,List.find?_cons,e']
   rw[zkT e,b];exact h2
  ·have e':¬ q.1=k:=fun z=>e (h1.trans z)
   have b:atKey (q::qs) k=atKey qs k:=by simp[atKey,List.find?_cons,e']
   rw[zk6 e,b];exact ih
theorem KT.keeps{H H':Hp}{kvs:List (List Key×V)}{xs:List (List Key×Addr×Value)}(r:KT H kvs xs)(ht:∀ b ys,H b=some (.tup ys)->H' b=some (.tup ys)):KT H' kvs xs :=
 Paired.mapP r fun _ _ z=>⟨z.1,ht _ _ z.2.1,z.2.2⟩
section
variable{P:Program}{w:World}{H:Hp}{h:Heap}{a:Addr}
end
def DGet(H:Hp)(a:Addr)(y:V)(r:Option V):Prop :=
 (∃ kvs k,Rd H a (.dK kvs)/\y=kV k/\r=znB kvs k)\/∃ kvs k b,Rd H a (.dT kvs)/\y=.ref b/\H b=some (.tup (k.map kV))/\r=znB kvs k
def DPut(H:Hp)(a:Addr)(y v:V)(H':Hp):Prop :=
 (∃ kvs k,H a=some (.dK kvs)/\y=kV k/\kvs.length<sizeLine/\H'=upd H a (.dK (zub kvs k v))) \/
 ∃ kvs k b,H a=some (.dT kvs)/\y=.ref b/\H b=some (.tup (k.map kV))/\kvs.length<sizeLine/\H'=upd H a (.dT (zub kvs k v))
theorem DGet.k{H:Hp}{a:Addr}{kvs:List (Key×V)}{k:Key}(e:H a=some (.dK kvs)):DGet H a (kV k) (znB kvs k):=.inl ⟨kvs,k,.inl e,rfl,rfl⟩
theorem DPut.k{H:Hp}{a:Addr}{kvs:List (Key×V)}{k:Key}{v:V}(e:H a=some (.dK kvs))(hl:kvs.length<sizeLine):DPut H a (kV k) v (upd H a (.dK (zub kvs k v))):=.inl ⟨kvs,k,e,rfl,hl,rfl⟩
section
variable{X:Cx}{pins:List (Addr×Obj)}{σ:St}{H:Hp}{s:Shared}{a:Addr}{y v:V}{u r:Value}{o:Option V}{A:Around}{E:Value->Shared->Prop}
end
section
variable{X:Cx}{pins:List (Addr×Obj)}{σ:St}{H:Hp}{s:Shared}{a:Addr}{kvs:List (Key×V)}{k:Key}{u:Value}{A:Around}{E:Value->Shared->Prop}
end
section
variable{X:Cx}{o i e value:Expr}{pos pos' tpos:Pos}{td ty tv:TE}
end
section
variable{X:Cx}{pos:Pos}
end
structure M1(X:Cx)(o:Expr)(m:Str)(apos:Pos)(e:Expr)(cpos:Pos):Prop where
 base:attributeBase o m X.env (eval o X.env)=eval o X.env
 few:((backTo cpos (starEach [e] X.env)).all (fun x=>!x.1) && (backToKw cpos (keywordEach [] X.env)).all (fun x=>x.1.isSome)
  && decide (([e]:List Expr).length+([]:List Keyword).length+(if ([]:List Keyword).isEmpty then 0 else 1)<30))=true
 line:(apos.endLine == cpos.line)=true
 trees:backTo cpos (starEach [e] X.env)=[(false,eval e X.env)]
structure M2(X:Cx)(o:Expr)(m:Str)(apos:Pos)(e f:Expr)(cpos:Pos):Prop where
 base:attributeBase o m X.env (eval o X.env)=eval o X.env
 few:((backTo cpos (starEach [e,f] X.env)).all (fun x=>!x.1) && (backToKw cpos (keywordEach [] X.env)).all (fun x=>x.1.isSome)
  && decide (([e,f]:List Expr).length+([]:List Keyword).length+(if ([]:List Keyword).isEmpty then 0 else 1)<30))=true
 line:(apos.endLine == cpos.line)=true
 trees:backTo cpos (starEach [e,f] X.env)=[(false,eval e X.env),(false,eval f X.env)]
section
variable{X:Cx}{pins:List (Addr×Obj)}{σ:St}{H:Hp}{s:Shared}{a:Addr}{y d:V}{u r:Value}{o:Option V}{A:Around}{E:Value->Shared->Prop}
end
section
variable{X:Cx}{o e f:Expr}{apos cpos:Pos}{td ty tx:TE}
end
end L2
end
section
namespace PV
open PySem PySem.Spec L2
inductive Dt where
 |non|bl (b:Bool)|int (i:Int)|str (x:Str)|tup (l:List Dt)|lst (l:List Dt)|dct (ks:List (Int×Int))|scr (ns:List Int)
inductive B where
 |val (d:Dt)|own (l:List Dt)|own2 (l:List (List Dt))|dic (l:List (Int×Dt))|tab (q:Str)|opq|exc (C:Addr)
abbrev Ev:=List (Option B)
inductive R(α:Type) where
 |ok (a:α)|er (n:Nat)|no
def R.bind{α β:Type}(r:R α)(f:α->R β):R β:=match r with
 |.ok a=>f a
 |.er n=>.er n
 |.no=>.no
@[simp] theorem R.bind_ok {α β:Type} (a:α) (f:α->R β):(R.ok a).bind f=f a:=rfl
@[simp] theorem R.bind_er {α β:Type} (n:Nat) (f:α->R β):(R.er n).bind f=.er n:=rfl
@[simp] theorem R.bind_no {α β:Type} (f:α->R β):(R.no).bind f=.no:=rfl
theorem R.bind_assoc{α β γ:Type}(r:R α)(f:α->R β)(g:β->R γ):(r.bind f).bind g=r.bind fun a=>(f a).bind g:=by
 cases r <;> rfl
def zgO(K:W.Frag)(H:Hp)(a:Addr)(xs:List V):Prop :=
 H a=some (.tup xs)\/∃(its:Array Value)(n:Nat),K.lookup a=some { cls:=.type "tuple",data:=.seq its n }/\its.size<=sizeLine/\zaM xs its.toList
theorem zgO.of{K:W.Frag}{H:Hp}{a:Addr}{xs:List V}(h:H a=some (.tup xs)):zgO K H a xs:=.inl h
theorem zgO.sq{K:W.Frag}{H:Hp}{a:Addr}{xs:List V}(h:zgO K H a xs):SqT K H a xs:=by
 rcases h with h|⟨its,n,h1,h2,h3⟩
 ·exact .inl (.inl h)
 ·exact .inr ⟨_,its,n,h1,rfl,rfl,h2,h3⟩
theorem zgO.same{K:W.Frag}{H H':Hp}{a:Addr}{xs:List V}(e:zb7 H H')(h:zgO K H a xs):zgO K H' a xs:=h.elim (fun z=>.inl (e _ _ z)) .inr
mutual
def Rep(K:W.Frag)(G:Hp):Dt->V->Prop
 |.non,v=>v=.non
 |.bl b,v=>v=.bl b
 |.int i,v=>v=.int i
 |.str x,v=>v=.str x
 |.tup l,v=>∃ a vs,v=.ref a/\zgO K G a vs/\zay K G l vs
 |.lst l,v=>∃ a vs,v=.ref a/\G a=some (.lst vs)/\zay K G l vs
 |.dct ks,v=>∃ a,v=.ref a/\G a=some (.dK (ks.map fun p=>(.inl p.1,.int p.2)))
 |.scr ns,v=>∃ a,v=.ref a/\SqL K G a (ns.map V.int)
def zay(K:W.Frag)(G:Hp):List Dt->List V->Prop
 |[],vs=>vs=[]
 |d::ds,vs=>∃ v r,vs=v::r/\Rep K G d v/\zay K G ds r
end
theorem za1{K:W.Frag}{H H':Hp}{a:Addr}{xs:List V}(e:zb7 H H')(h:SqT K H a xs):SqT K H' a xs:=by
 rcases h with (h|⟨o,h⟩)|h
 ·exact .inl (.inl (e _ _ h))
 ·exact .inl (.inr ⟨o,e _ _ h⟩)
 ·exact .inr h
mutual
theorem Rep.same{K:W.Frag}{G G':Hp}(e:zb7 G G'):∀{d:Dt}{v:V},Rep K G d v->Rep K G' d v
 |.non,_,h=>by unfold Rep at h ⊢;exact h
 |.bl _,_,h=>by unfold Rep at h ⊢;exact h
 |.int _,_,h=>by unfold Rep at h ⊢;exact h
 |.str _,_,h=>by unfold Rep at h ⊢;exact h
 |.tup l,_,h=>by
  unfold Rep at h ⊢
  obtain ⟨a,vs,h1,h2,h3⟩:=h
  exact ⟨a,vs,h1,h2.same e,zay.same e h3⟩
 |.lst l,_,h=>by
  unfold Rep at h ⊢
  obtain ⟨a,vs,h1,h2,h3⟩:=h
  exact ⟨a,vs,h1,e _ _ h2,zay.same e h3⟩
 |.dct _,_,h=>by
  unfold Rep at h ⊢
  obtain ⟨a,h1,h2⟩:=h
  exact ⟨a,h1,e _ _ h2⟩
 |.scr ns,_,h=>by
  unfold Rep at h ⊢
  obtain ⟨a,h1,h2⟩:=h
  exact ⟨a,h1,e.seq h2⟩
theorem zay.same{K:W.Frag}{G G':Hp}(e:zb7 G G'):∀{ds:List Dt}{vs:List V},zay K G ds vs->zay K G' ds vs
 |[],_,h=>by unfold zay at h ⊢;exact h
 |d::ds,_,h=>by
  unfold zay at h ⊢
  obtain ⟨v,r,h1,h2,h3⟩:=h
  exact ⟨v,r,h1,Rep.same e h2,zay.same e h3⟩
end
theorem zay.nil{K:W.Frag}{G:Hp}:zay K G [] []:=by unfold zay;rfl
theorem zay.cons{K:W.Frag}{G:Hp}{d:Dt}{ds:List Dt}{v:V}{vs:List V}(h:Rep K G d v)(t:zay K G ds vs):zay K G (d::ds) (v::vs):=by
 unfold zay;exact ⟨v,vs,rfl,h,t⟩
theorem zay.nil_inv{K:W.Frag}{G:Hp}{vs:List V}(h:zay K G [] vs):vs=[]:=by unfold zay at h;exact h
theorem zay.cons_inv{K:W.Frag}{G:Hp}{d:Dt}{ds:List Dt}{vs:List V}(h:zay K G (d::ds) vs):∃ v r,vs=v::r/\Rep K G d v/\zay K G ds r:=by unfold zay at h;exact h
theorem zay.length{K:W.Frag}{G:Hp}:∀{ds:List Dt}{vs:List V},zay K G ds vs->ds.length=vs.length
 |[],_,h=>by rw[h.nil_inv];rfl
 |d::ds,_,h=>by
  obtain ⟨v,r,rfl,_,h3⟩:=h.cons_inv
  simp[zay.length h3]
theorem zay.get{K:W.Frag}{G:Hp}:∀{ds:List Dt}{vs:List V}{i:Nat}{d:Dt},zay K G ds vs->ds[i]? = some d->∃ v,vs[i]? = some v/\Rep K G d v
 |[],_,_,_,_,e=>by simp at e
 |d::ds,_,0,_,h,e=>by
  obtain ⟨v,r,rfl,h2,h3⟩:=h.cons_inv
  simp at e;subst e
  exact ⟨v,rfl,h2⟩
 |d::ds,_,i+1,_,h,e=>by
  obtain ⟨v,r,rfl,h2,h3⟩:=h.cons_inv
  obtain ⟨u,e1,e2⟩:=zay.get (i:=i) h3 (by simpa using e)
  exact ⟨u,by simpa using e1,e2⟩
theorem zay.append{K:W.Frag}{G:Hp}:∀{ds es:List Dt}{vs us:List V},zay K G ds vs->zay K G es us->zay K G (ds++es) (vs++us)
 |[],_,_,_,h,t=>by rw[h.nil_inv];exact t
 |d::ds,_,_,_,h,t=>by
  obtain ⟨v,r,rfl,h2,h3⟩:=h.cons_inv
  exact zay.cons h2 (zay.append h3 t)
theorem zay.take{K:W.Frag}{G:Hp}:∀(n:Nat){ds:List Dt}{vs:List V},zay K G ds vs->zay K G (ds.take n) (vs.take n)
 |0,_,_,_=>by simpa using zay.nil
 |n+1,[],_,h=>by rw[h.nil_inv];simpa using zay.nil
 |n+1,d::ds,_,h=>by
  obtain ⟨v,r,rfl,h2,h3⟩:=h.cons_inv
  exact zay.cons h2 (zay.take n h3)
theorem zay.drop{K:W.Frag}{G:Hp}:∀(n:Nat){ds:List Dt}{vs:List V},zay K G ds vs->zay K G (ds.drop n) (vs.drop n)
 |0,_,_,h=>h
 |n+1,[],_,h=>by rw[h.nil_inv];simpa using zay.nil
 |n+1,d::ds,_,h=>by
  obtain ⟨v,r,rfl,h2,h3⟩:=h.cons_inv
  exact zay.drop n h3
theorem zay.reverse{K:W.Frag}{G:Hp}:∀{ds:List Dt}{vs:List V},zay K G ds vs->zay K G ds.reverse vs.reverse
 |[],_,h=>by rw[h.nil_inv];exact zay.nil
 |d::ds,_,h=>by
  obtain ⟨v,r,rfl,h2,h3⟩:=h.cons_inv
  rw[List.reverse_cons,List.reverse_cons]
  exact (zay.reverse h3).append (zay.cons h2 zay.nil)
theorem zay.set{K:W.Frag}{G:Hp}{d:Dt}{v:V}(hv:Rep K G d v):∀(i:Nat){ds:List Dt}{vs:List V},zay K G ds vs->zay K G (ds.set i d) (vs.set i v)
 |_,[],_,h=>by rw[h.nil_inv];exact zay.nil
 |0,d'::ds,_,h=>by
  obtain ⟨v,r,rfl,h2,h3⟩:=h.cons_inv
  exact zay.cons hv h3
 |i+1,d'::ds,_,h=>by
  obtain ⟨v,r,rfl,h2,h3⟩:=h.cons_inv
  exact zay.cons h2 (zay.set hv i h3)
theorem zay.eraseIdx{K:W.Frag}{G:Hp}:∀(i:Nat){ds:List Dt}{vs:List V},zay K G ds vs->zay K G (ds.eraseIdx i) (vs.eraseIdx i)
 |_,[],_,h=>by rw[h.nil_inv];exact zay.nil
 |0,d'::ds,_,h=>by
  obtain ⟨v,r,rfl,h2,h3⟩:=h.cons_inv
  exact h3
 |i+1,d'::ds,_,h=>by
  obtain ⟨v,r,rfl,h2,h3⟩:=h.cons_inv
  exact zay.cons h2 (zay.eraseIdx i h3)
theorem zay.dropLast{K:W.Frag}{G:Hp}{ds:List Dt}{vs:List V}(h:zay K G ds vs):zay K G ds.dropLast vs.dropLast:=by
 rw[List.dropLast_eq_take,List.dropLast_eq_take,h.length];exact h.take _
abbrev Wn:=Addr->Option Nat
structure zbe(G H:Hp)(w:Wn)(G' H':Hp)(w':Wn):Prop where
 g:zb7 G G'
 fr:∀ b o,G' b=some o->G b≠none\/H b=none\/w b≠none
 h:∀ b o,H b=some o->w b=none->H' b=some o
 w:∀ b,w' b≠none->w b≠none\/H b=none
 k:∀ b,H' b=none->H b=none
theorem zbe.refl(G H:Hp)(w:Wn):zbe G H w G H w :=
 ⟨zb7.refl G,fun b o e=>.inl (by rw[e];simp),fun _ _ e _=>e,fun _ e=>.inl e,fun _ e=>e⟩
theorem zbe.trans{G H G1 H1 G2 H2:Hp}{w w1 w2:Wn}(a:zbe G H w G1 H1 w1)(b:zbe G1 H1 w1 G2 H2 w2):zbe G H w G2 H2 w2:=by
 have hn:=a.k
 refine ⟨a.g.trans b.g,fun c o e=>?_,fun c o e z=>?_,fun c e=>?_,fun c e=>a.k c (b.k c e)⟩
 ·rcases b.fr c o e with q|q|q
  ·cases q':G1 c with
   |none=>exact absurd q' q
   |some u=>exact a.fr c u q'
  ·exact .inr (.inl (hn c q))
  ·rcases a.w c q with z|z
   ·exact .inr (.inr z)
   ·exact .inr (.inl z)
 ·have e1:=a.h c o e z
  refine b.h c o e1 ?_
  cases q:w1 c with
  |none=>rfl
  |some k =>
   rcases a.w c (by rw[q];simp) with r|r
   ·exact absurd z r
   ·rw[e] at r;cases r
 ·rcases b.w c e with q|q
  ·exact a.w c q
  ·exact .inr (hn c q)
structure Cn where
 G₀:Hp
 H₀:Hp
 w₀:Wn
 pp:List Nat
 σ₀:St
 ex:Nat->Prop
 xv:Nat->Value
 nw:Bool
def RtG(nw:Bool)(K:W.Frag)(H0 G H:Hp)(w:Wn)(d:Dt)(v:V):Prop:=match nw with
 |false=>Rep K G d v
 |true=>∃ l p vs,d=.lst l/\v=.ref p/\H0 p=none/\H p=some (.lst vs)/\G p=none/\w p=none/\zay K G l vs
def cHO(c:Addr)(q:Str):HO:=.ext fun h=>h.CodeRec (.ref c) q
def xHO(l C:Addr):HO:=.ext fun h=>∃ o vs,h.get? l=some o/\o.cls=.ref C/\o.data=.fields vs
def RB(K:W.Frag)(G H:Hp)(w:Wn)(i:Nat)(v:V):B->Prop
 |.val d=>Rep K G d v
 |.own ds=>∃ a vs,v=.ref a/\w a=some i/\H a=some (.lst vs)/\zay K G ds vs
 |.own2 dss=>∃ a as,v=.ref a/\w a=some i/\H a=some (.lst (as.map V.ref))/\(a::as).Nodup/\Paired (fun b ds=>w b=some i/\∃ vs,H b=some (.lst vs)/\zay K G ds vs) as dss
 |.tab q=>∃ P ps,v=.ref P/\w P=some i/\H P=some (.tbl ps)/\TriplesOk ps.toList/\∀ pos cv,codeAmong pos ps.toList=some cv->∃ c,cv=.ref c/\G c=some (cHO c q)
 |.dic ds=>∃ a us,v=.ref a/\w a=some i/\H a=some (.dK us)/\Paired (fun (p:Int×Dt) (q:Key×V)=>q.1=.inl p.1/\Rep K G p.2 q.2) ds us
 |.opq=>True
 |.exc C=>∃ l,v=.ref l/\G l=some (xHO l C)
structure Rel(K:W.Frag)(C:Cn)(G:Hp)(w:Wn)(ρ:Ev)(σ:St)(H:Hp):Prop where
 gh:zb7 G H
 wg:∀ b,w b≠none->G b=none
 wh:∀ b,w b≠none->H b≠none
 len:ρ.length = σ.length
 sl:∀ i b,ρ[i]? = some (some b)->∃ v,σ[i]? = some (some v)/\RB K G H w i v b
 en:zbe C.G₀ C.H₀ C.w₀ G H w
 pin:∀ i∈C.pp,σ[i]? = C.σ₀[i]?
structure zdz(G H G' H':Hp):Prop where
 g:zb7 G G'
 h:zb7 H H'
 gh:zb7 G' H'
 fr:∀ b o,G' b=some o->G b≠none\/H b=none
theorem zdz.refl{G H:Hp}(e:zb7 G H):zdz G H G H:=⟨.refl _,.refl _,e,fun b o q=>.inl (by rw[q];simp)⟩
theorem zdz.trans{G H G1 H1 G2 H2:Hp}(a:zdz G H G1 H1)(b:zdz G1 H1 G2 H2):zdz G H G2 H2 :=
 ⟨a.g.trans b.g,a.h.trans b.h,b.gh,fun c o e=>by
  rcases b.fr c o e with q|q
  ·cases q':G1 c with
   |none=>exact absurd q' q
   |some u=>exact a.fr c u q'
  ·exact .inr (a.h.free q)⟩
theorem zdz.step{G H G' H':Hp}{w:Wn}(a:zdz G H G' H'):zbe G H w G' H' w :=
 ⟨a.g,fun b o e=>(a.fr b o e).elim .inl fun z=>.inr (.inl z),fun b o e _=>a.h b o e,fun _ e=>.inl e,fun _ e=>a.h.free e⟩
theorem zdK{α β:Type}{F F':α->β->Prop}(f:∀ a b,F a b->F' a b):∀{l₁:List α}{l₂:List β},Paired F l₁ l₂->Paired F' l₁ l₂
 |_,_,.nil=>.nil
 |_,_,.cons r t=>.cons (f _ _ r) (zdK f t)
theorem RB.grow{K:W.Frag}{G H G' H':Hp}{w w':Wn}{i j:Nat}{v:V}{b:B}(g:zb7 G G')(h:∀ a o,w a=some i->H a=some o->H' a=some o/\w' a=some j)(r:RB K G H w i v b):RB K G' H' w' j v b:=by
 cases b with
 |val d=>exact Rep.same g r
 |own ds =>
  obtain ⟨a,vs,h1,h2,h3,h4⟩:=r
  obtain ⟨e1,e2⟩:=h a _ h2 h3
  exact ⟨a,vs,h1,e2,e1,zay.same g h4⟩
 |own2 dss =>
  obtain ⟨a,as,h1,h2,h3,h4,h5⟩:=r
  obtain ⟨e1,e2⟩:=h a _ h2 h3
  refine ⟨a,as,h1,e2,e1,h4,zdK (fun b ds ⟨q1,vs,q2,q3⟩=>?_) h5⟩
  obtain ⟨e1,e2⟩:=h b _ q1 q2
  exact ⟨e2,vs,e1,zay.same g q3⟩
 |tab q =>
  obtain ⟨P,ps,h1,h2,h3,h4,h5⟩:=r
  obtain ⟨e1,e2⟩:=h P _ h2 h3
  exact ⟨P,ps,h1,e2,e1,h4,fun pos cv e=>let ⟨c,q1,q2⟩:=h5 pos cv e;⟨c,q1,g _ _ q2⟩⟩
 |dic ds =>
  obtain ⟨a,us,h1,h2,h3,h4⟩:=r
  obtain ⟨e1,e2⟩:=h a _ h2 h3
  exact ⟨a,us,h1,e2,e1,zdK (fun p q z=>⟨z.1,Rep.same g z.2⟩) h4⟩
 |opq=>exact trivial
 |exc C =>
  obtain ⟨l,h1,h2⟩:=r
  exact ⟨l,h1,g _ _ h2⟩
theorem Rel.grow{K:W.Frag}{C:Cn}{G H G' H':Hp}{w:Wn}{ρ:Ev}{σ:St}(r:Rel K C G w ρ σ H)(a:zdz G H G' H'):Rel K C G' w ρ σ H':=by
 refine ⟨a.gh,fun b e=>?_,fun b e z=>r.wh b e (a.h.free z),r.len,fun i b e=>?_,r.en.trans a.step,r.pin⟩
 ·cases q:G' b with
  |none=>rfl
  |some o =>
   rcases a.fr b o q with z|z
   ·exact absurd (r.wg b e) z
   ·exact absurd z (r.wh b e)
 ·obtain ⟨v,h1,h2⟩:=r.sl i b e
  exact ⟨v,h1,h2.grow a.g fun a' o e1 e2=>⟨a.h _ _ e2,e1⟩⟩
theorem zdz.new{G H:Hp}{p:Addr}{o:HO}(gh:zb7 G H)(hp:H p=none):zdz G H (upd G p o) (upd H p o):=by
 refine ⟨fun b u e=>?_,fun b u e=>?_,fun b u e=>?_,fun b u e=>?_⟩
 ·rw[zae (zaf (gh b u e) hp)];exact e
 ·rw[zae (zaf e hp)];exact e
 ·by_cases hb:b=p
  ·subst hb;rw[zah] at e ⊢;exact e
  ·rw[zae hb] at e ⊢;exact gh b u e
 ·by_cases hb:b=p
  ·subst hb;exact .inr hp
  ·rw[zae hb] at e;exact .inl (by rw[e];simp)
theorem zdz.newH{G H:Hp}{p:Addr}{o:HO}(gh:zb7 G H)(hp:H p=none):zdz G H G (upd H p o):=by
 refine ⟨.refl _,fun b u e=>?_,fun b u e=>?_,fun b u e=>.inl (by rw[e];simp)⟩
 ·rw[zae (zaf e hp)];exact e
 ·rw[zae (zaf (gh b u e) hp)];exact gh b u e
def zbX{α:Type}(ex:Nat->Prop)(κ:α->Prop):R α->Prop
 |.ok a=>κ a
 |.er n=>ex n
 |.no=>False
def kE(K:W.Frag)(C:Cn)(σ:St)(Q:VK)(G H:Hp)(w:Wn)(a:Dt×Ev):Prop :=
 ∀ v G' H' w',zbe G H w G' H' w'->Rel K C G' w' a.2 σ H'->Rep K G' a.1 v->Q v H'
def kT(K:W.Frag)(C:Cn)(σ:St)(Q:Bool->Hp->Prop)(G H:Hp)(w:Wn)(a:Bool×Ev):Prop :=
 ∀ G' H' w',zbe G H w G' H' w'->Rel K C G' w' a.2 σ H'->Q a.1 H'
def kN(K:W.Frag)(C:Cn)(σ:St)(Q:VK)(G H:Hp)(w:Wn)(a:List Dt×Ev):Prop :=
 ∀ p vs G' H' w',zbe G H w G' H' w'->Rel K C G' w' a.2 σ H'->H p=none->H' p=some (.lst vs)->G' p=none->w' p=none->zay K G' a.1 vs->Q (.ref p) H'
inductive Fl where
 |nx|bk|ct|rt (d:Dt)
def kS(K:W.Frag)(C:Cn)(D:zp2)(G H:Hp)(w:Wn)(a:Fl×Ev):Prop :=
 match a.1 with
 |.nx=>∀ σ' G' H' w',zbe G H w G' H' w'->Rel K C G' w' a.2 σ' H'->D.nx σ' H'
 |.bk=>∀ σ' G' H' w',zbe G H w G' H' w'->Rel K C G' w' a.2 σ' H'->D.bk σ' H'
 |.ct=>∀ σ' G' H' w',zbe G H w G' H' w'->Rel K C G' w' a.2 σ' H'->D.ct σ' H'
 |.rt d=>∀ v σ' G' H' w',zbe G H w G' H' w'->Rel K C G' w' a.2 σ' H'->RtG C.nw K C.H₀ G' H' w' d v->D.rt v H'
abbrev De:=Ev->R (Dt×Ev)
abbrev DT:=Ev->R (Bool×Ev)
abbrev DN:=Ev->R (List Dt×Ev)
abbrev DS:=Ev->R (Fl×Ev)
def tE(K:W.Frag)(C:Cn)(f:De):TE:=fun σ H Q=>∃ G w ρ,Rel K C G w ρ σ H/\zbX C.ex (kE K C σ Q G H w) (f ρ)
def tT(K:W.Frag)(C:Cn)(f:DT):TT:=fun σ H Q=>∃ G w ρ,Rel K C G w ρ σ H/\zbX C.ex (kT K C σ Q G H w) (f ρ)
def tN(K:W.Frag)(C:Cn)(f:DN):TE:=fun σ H Q=>∃ G w ρ,Rel K C G w ρ σ H/\zbX C.ex (kN K C σ Q G H w) (f ρ)
def tS(K:W.Frag)(C:Cn)(f:DS):TS:=fun D σ H=>∃ G w ρ,Rel K C G w ρ σ H/\zbX C.ex (kS K C D G H w) (f ρ)
abbrev JE(X:Cx)(C:Cn)(e:Expr)(f:De):Prop:=PE X e (tE X.K C f)
abbrev JT(X:Cx)(C:Cn)(e:Expr)(f:DT):Prop:=PT X e (tT X.K C f)
abbrev JW(X:Cx)(C:Cn)(e:Expr)(f:DT):Prop:=PW X e (tT X.K C f)
abbrev JN(X:Cx)(C:Cn)(e:Expr)(f:DN):Prop:=PE X e (tN X.K C f)
abbrev JS(X:Cx)(C:Cn)(st:Stmt)(f:DS):Prop:=PS X st (tS X.K C f)
abbrev JSs(X:Cx)(C:Cn)(st:List Stmt)(f:DS):Prop:=PSs X st (tS X.K C f)
abbrev zoP(α:Type):=Hp->Hp->Wn->α->Prop
def Stp{α:Type}(κ:zoP α):Prop:=∀ G H w G1 H1 w1 a,zbe G H w G1 H1 w1->κ G H w a->κ G1 H1 w1 a
section
variable{K:W.Frag}{C:Cn}{σ:St}
theorem zcz{Q:VK}:Stp (fun G H w=>kE K C σ Q G H w):=fun _ _ _ _ _ _ _ s k v G' H' w' s'=>k v G' H' w' (s.trans s')
theorem zoo{Q:Bool->Hp->Prop}:Stp (fun G H w=>kT K C σ Q G H w):=fun _ _ _ _ _ _ _ s k G' H' w' s'=>k G' H' w' (s.trans s')
theorem zeU{Q:VK}:Stp (fun G H w=>kN K C σ Q G H w):=fun G H w G1 H1 w1 _ s k p vs G' H' w' s' r q1 q2 q3 q4 q5 =>
 k p vs G' H' w' (s.trans s') r (s.k p q1) q2 q3 q4 q5
theorem zdy{D:zp2}:Stp (fun G H w=>kS K C D G H w):=fun G H w G1 H1 w1 a s k=>by
 obtain ⟨f,ρ⟩:=a
 cases f with
 |nx=>exact fun σ' G' H' w' s'=>k σ' G' H' w' (s.trans s')
 |bk=>exact fun σ' G' H' w' s'=>k σ' G' H' w' (s.trans s')
 |ct=>exact fun σ' G' H' w' s'=>k σ' G' H' w' (s.trans s')
 |rt d=>exact fun v σ' G' H' w' s'=>k v σ' G' H' w' (s.trans s')
theorem zbX.step{α:Type}{ex:Nat->Prop}{κ:zoP α}(st:Stp κ){G H G1 H1:Hp}{w w1:Wn}(s:zbe G H w G1 H1 w1):∀{r:R α},zbX ex (κ G H w) r->zbX ex (κ G1 H1 w1) r
 |.ok _,p=>st _ _ _ _ _ _ _ s p
 |.er _,p=>p
 |.no,p=>p
theorem zeA{α:Type}{κ:zoP α}(st:Stp κ){G H:Hp}{w:Wn}{ρ:Ev}{fa:De}{g:Dt×Ev->R α}{Q:VK}(r:Rel K C G w ρ σ H)(p:zbX C.ex (κ G H w) ((fa ρ).bind g))
  (k:∀ d ρ1 v G1 H1 w1,Rel K C G1 w1 ρ1 σ H1->zbe G H w G1 H1 w1->Rep K G1 d v->zbX C.ex (κ G1 H1 w1) (g (d,ρ1))->Q v H1):tE K C fa σ H Q:=by
 refine ⟨G,w,ρ,r,?_⟩
 cases e:fa ρ with
 |ok a =>
  rw[e] at p
  intro v G' H' w' s' r' q
  exact k a.1 a.2 v G' H' w' r' s' q (zbX.step st s' p)
 |er n=>rw[e] at p;exact p
 |no=>rw[e] at p;exact p
theorem zrD{α:Type}{κ:zoP α}(st:Stp κ){G H:Hp}{w:Wn}{ρ:Ev}{fa:DT}{g:Bool×Ev->R α}{Q:Bool->Hp->Prop}(r:Rel K C G w ρ σ H)(p:zbX C.ex (κ G H w) ((fa ρ).bind g))
  (k:∀ b ρ1 G1 H1 w1,Rel K C G1 w1 ρ1 σ H1->zbe G H w G1 H1 w1->zbX C.ex (κ G1 H1 w1) (g (b,ρ1))->Q b H1):tT K C fa σ H Q:=by
 refine ⟨G,w,ρ,r,?_⟩
 cases e:fa ρ with
 |ok a =>
  rw[e] at p
  intro G' H' w' s' r'
  exact k a.1 a.2 G' H' w' r' s' (zbX.step st s' p)
 |er n=>rw[e] at p;exact p
 |no=>rw[e] at p;exact p
theorem zt0{α:Type}{κ:zoP α}{G H:Hp}{w:Wn}{ρ:Ev}{fa:DN}{g:List Dt×Ev->R α}{Q:VK}(r:Rel K C G w ρ σ H)(p:zbX C.ex (κ G H w) ((fa ρ).bind g))
  (k:∀ ds ρ1 a vs G1 H1 w1,Rel K C G1 w1 ρ1 σ H1->zbe G H w G1 H1 w1->H a=none->H1 a=some (.lst vs)->G1 a=none->w1 a=none->zay K G1 ds vs->zbX C.ex (κ G H w) (g (ds,ρ1))->Q (.ref a) H1):tN K C fa σ H Q:=by
 refine ⟨G,w,ρ,r,?_⟩
 cases e:fa ρ with
 |ok a =>
  rw[e] at p
  intro v vs G' H' w' s' r' q1 q2 q3 q4 q5
  exact k a.1 a.2 v vs G' H' w' r' s' q1 q2 q3 q4 q5 p
 |er n=>rw[e] at p;exact p
 |no=>rw[e] at p;exact p
end
section
variable{X:Cx}
theorem _root_.L2.PE.weak{e:Expr}{t t':TE}(h:PE X e t)(k:∀ σ H Q,t' σ H Q->t σ H Q):PE X e t':=fun pins s σ H Q I q=>h pins s σ H Q I (k σ H Q q)
theorem _root_.L2.PT.weak{e:Expr}{t t':TT}(h:PT X e t)(k:∀ σ H Q,t' σ H Q->t σ H Q):PT X e t':=fun pins s σ H Q I q=>h pins s σ H Q I (k σ H Q q)
theorem _root_.L2.PW.weak{e:Expr}{t t':TT}(h:PW X e t)(k:∀ σ H Q,t' σ H Q->t σ H Q):PW X e t':=fun wh pins s σ H Q I q=>h wh pins s σ H Q I (k σ H Q q)
theorem _root_.L2.PA.weak{e:List Expr}{t t':TA}(h:PA X e t)(k:∀ σ H Q,t' σ H Q->t σ H Q):PA X e t':=fun pos pins s σ H Q I q=>h pos pins s σ H Q I (k σ H Q q)
theorem _root_.L2.PS.weak{e:Stmt}{t t':TS}(h:PS X e t)(k:∀ D σ H,t' D σ H->t D σ H):PS X e t':=fun pins s σ H D I q=>h pins s σ H D I (k D σ H q)
theorem _root_.L2.PSs.weak{e:List Stmt}{t t':TS}(h:PSs X e t)(k:∀ D σ H,t' D σ H->t D σ H):PSs X e t':=fun pins s σ H D I q=>h pins s σ H D I (k D σ H q)
end
section
variable{K:W.Frag}{C:Cn}{σ:L2.St}{G H:Hp}{w:Wn}{ρ:Ev}{i:Nat}{v:V}
theorem Rel.freeze{d:Dt}{b0:B}(r:Rel K C G w ρ σ H)(S:List Addr)(hS:∀ b∈S,w b=some i)(hi:ρ[i]? = some (some b0))(hv:σ[i]? = some (some v))
  (hr:Rep K (fun b=>if b∈S then H b else G b) d v) :
  Rel K C (fun b=>if b∈S then H b else G b) (fun b=>if b∈S then none else w b) (ρ.set i (some (.val d))) σ H /\
   zbe G H w (fun b=>if b∈S then H b else G b) H (fun b=>if b∈S then none else w b):=by
 have gS:∀ b∈S,G b=none:=fun b hb=>r.wg b (by rw[hS b hb];simp)
 have st:zbe G H w (fun b=>if b∈S then H b else G b) H (fun b=>if b∈S then none else w b):=by
  refine ⟨fun b o e=>?_,fun b o e=>?_,fun b o e _=>e,fun b e=>?_,fun _ e=>e⟩
  ·have:b∉S:=fun z=>by rw[gS b z] at e;cases e
   simp[this,e]
  ·by_cases hb:b∈S
   ·exact .inr (.inr (by rw[hS b hb];simp))
   ·simp[hb] at e;exact .inl (by rw[e];simp)
  ·by_cases hb:b∈S
   ·simp[hb] at e
   ·simp[hb] at e;exact .inl e
 refine ⟨⟨fun b o e=>?_,fun b e=>?_,fun b e=>?_,by simpa using r.len,fun j b e=>?_,r.en.trans st,r.pin⟩,st⟩
 ·by_cases hb:b∈S
  ·simp[hb] at e;exact e
  ·simp[hb] at e;exact r.gh b o e
 ·by_cases hb:b∈S
  ·simp[hb] at e
  ·simp[hb] at e ⊢;exact r.wg b e
 ·by_cases hb:b∈S
  ·simp[hb] at e
  ·simp[hb] at e;exact r.wh b e
 ·by_cases hj:j=i
  ·subst hj
   rw[List.getElem?_set_self (List.getElem?_eq_some_iff.mp hi).1] at e
   cases e
   exact ⟨v,hv,hr⟩
  ·rw[List.getElem?_set_ne (Ne.symm hj)] at e
   obtain ⟨v',h1,h2⟩:=r.sl j b e
   refine ⟨v',h1,h2.grow st.g fun a o e1 e2=>⟨e2,?_⟩⟩
   have:a∉S:=fun z=>by rw[hS a z] at e1;exact hj (Option.some.inj e1).symm
   simp[this,e1]
end
def zaa(i:Nat):De:=fun ρ=>match ρ[i]? with
 |some (some (.val d))=>.ok (d,ρ)
 |_=>.no
def zdt(i:Nat):De:=fun ρ=>match ρ[i]? with
 |some (some (.val d))=>.ok (d,ρ)
 |some (some (.own ds))=>.ok (.lst ds,ρ.set i (some (.val (.lst ds))))
 |some (some (.own2 dss))=>.ok (.lst (dss.map .lst),ρ.set i (some (.val (.lst (dss.map .lst)))))
 |_=>.no
theorem zfY{K:W.Frag}{G:Hp}:∀{as:List Addr}{dss:List (List Dt)},Paired (fun b ds=>∃ vs,G b=some (.lst vs)/\zay K G ds vs) as dss->zay K G (dss.map .lst) (as.map V.ref)
 |_,_,.nil=>zay.nil
 |a::as,ds::dss,.cons ⟨vs,h1,h2⟩ t=>zay.cons (by unfold Rep;exact ⟨a,vs,rfl,h1,h2⟩) (zfY t)
theorem zcM{α β:Type}{F:α->β->Prop}:∀{l₁:List α}{l₂:List β},Paired F l₁ l₂->∀ a∈l₁,∃ b,F a b
 |_,_,.cons r t,a,h=>by
  rcases List.mem_cons.mp h with rfl|h
  ·exact ⟨_,r⟩
  ·exact zcM t a h
theorem zbx{α β:Type}{F F':α->β->Prop}:∀{l₁:List α}{l₂:List β},Paired F l₁ l₂->(∀ a b,a∈l₁->F a b->F' a b)->Paired F' l₁ l₂
 |_,_,.nil,_=>.nil
 |_,_,.cons r t,f=>.cons (f _ _ List.mem_cons_self r) (zbx t fun a b h=>f a b (List.mem_cons_of_mem _ h))
section
variable{X:Cx}{C:Cn}
theorem zab(i:Nat){x:Str}{pos:Pos}(hN:X.N[i]? = some x:=by rfl)(hv:Vis X.env.scope x:=by first|exact Or.inl rfl|exact Or.inr (Or.inl rfl)|exact Or.inr (Or.inr rfl))(hd:(x == ("__debug__" : Str))=false:=by decide)
  (hcd:(x == ("__classdict__" : Str))=false:=by decide):JE X C (.Name x pos) (zaa i):=(zbB hN hv hd hcd).weak fun σ H Q ⟨G,w,ρ,r,p⟩=>by
 unfold zaa at p
 split at p
 ·rename_i d e
  obtain ⟨v,h1,h2⟩:=r.sl i _ e
  exact ⟨v,h1,p v G H w (.refl _ _ _) r h2⟩
 ·exact p.elim
theorem ze5(i:Nat){x:Str}{pos:Pos}(hN:X.N[i]? = some x:=by rfl)(hv:Vis X.env.scope x:=by first|exact Or.inl rfl|exact Or.inr (Or.inl rfl)|exact Or.inr (Or.inr rfl))(hd:(x == ("__debug__" : Str))=false:=by decide)
  (hcd:(x == ("__classdict__" : Str))=false:=by decide):JE X C (.Name x pos) (zdt i):=(zbB hN hv hd hcd).weak fun σ H Q ⟨G,w,ρ,r,p⟩=>by
 unfold zdt at p
 split at p
 ·rename_i d e
  obtain ⟨v,h1,h2⟩:=r.sl i _ e
  exact ⟨v,h1,p v G H w (.refl _ _ _) r h2⟩
 ·rename_i ds e
  obtain ⟨v,h1,a,vs,rfl,h2,h3,h4⟩:=r.sl i _ e
  have hr:Rep X.K (fun b=>if b∈[a] then H b else G b) (.lst ds) (.ref a):=by
   unfold Rep
   refine ⟨a,vs,rfl,(by simp[h3]),zay.same (fun b o e=>?_) h4⟩
   have:b≠a:=fun z=>by subst z;rw[r.wg b (by rw[h2];simp)] at e;cases e
   simp[this,e]
  obtain ⟨r',s'⟩:=r.freeze [a] (fun b hb=>by simp at hb;subst hb;exact h2) e h1 hr
  exact ⟨_,h1,p _ _ _ _ s' r' hr⟩
 ·rename_i dss e
  obtain ⟨v,h1,a,as,rfl,h2,h3,h4,h5⟩:=r.sl i _ e
  have hS:∀ b∈a::as,w b=some i:=fun b hb=>by
   rcases List.mem_cons.mp hb with rfl|hb
   ·exact h2
   ·obtain ⟨_,z,_⟩:=zcM h5 b hb
    exact z
  have sg:zb7 G (fun b=>if b∈a::as then H b else G b):=fun b o e=>by
   have:b∉a::as:=fun z=>by rw[r.wg b (by rw[hS b z];simp)] at e;cases e
   simp only[this,if_false];exact e
  have hr:Rep X.K (fun b=>if b∈a::as then H b else G b) (.lst (dss.map .lst)) (.ref a):=by
   unfold Rep
   refine ⟨a,as.map V.ref,rfl,(by simp[h3]),zfY (zbx h5 fun b ds hb ⟨q1,vs,q2,q3⟩=>⟨vs,?_,zay.same sg q3⟩)⟩
   simp[hb,q2]
  obtain ⟨r',s'⟩:=r.freeze (a::as) hS e h1 hr
  exact ⟨_,h1,p _ _ _ _ s' r' hr⟩
 ·exact p.elim
def dC(d:Dt):De:=fun ρ=>.ok (d,ρ)
theorem zaq{i j pos}:JE X C (.Constant (.int i) j pos) (dC (.int i)):=PE.weak znh fun σ H Q ⟨G,w,ρ,r,p⟩=>p _ G H w (.refl _ _ _) r (by unfold Rep;rfl)
theorem zfs{b j pos}:JE X C (.Constant (.bool b) j pos) (dC (.bl b)):=PE.weak ztO fun σ H Q ⟨G,w,ρ,r,p⟩=>p _ G H w (.refl _ _ _) r (by unfold Rep;rfl)
theorem zp1{j pos}:JE X C (.Constant .none j pos) (dC .non):=PE.weak zrL fun σ H Q ⟨G,w,ρ,r,p⟩=>p _ G H w (.refl _ _ _) r (by unfold Rep;rfl)
theorem zfj{x j pos}:JE X C (.Constant (.str x) j pos) (dC (.str x)):=PE.weak zsn fun σ H Q ⟨G,w,ρ,r,p⟩=>p _ G H w (.refl _ _ _) r (by unfold Rep;rfl)
theorem zqN{x:Str}{i:Int}{t:Tok}{pos:Pos}(hg:Gl X x)(hm:X.mg x=some (.int i t))(hd:(x == ("__debug__" : Str))=false:=by decide):JE X C (.Name x pos) (dC (.int i)) :=
 (zmf (v:=.int i) hg hm ⟨t,rfl⟩ hd).weak fun σ H Q ⟨G,w,ρ,r,p⟩=>p _ G H w (.refl _ _ _) r (by unfold Rep;rfl)
def dOp(g:Dt->Dt->R Dt)(fa fb:De):De:=fun ρ=>(fa ρ).bind fun a=>(fb a.2).bind fun b=>(g a.1 b.1).bind fun z=>.ok (z,b.2)
def Op2(K:W.Frag)(r:R2)(g:Dt->Dt->R Dt):Prop:=∀(G H:Hp)(x y:V)(dx dy z:Dt)(Q:VK),zb7 G H->Rep K G dx x->Rep K G dy y->g dx dy=.ok z ->
 (∀ v G' H',zdz G H G' H'->Rep K G' z v->Q v H')->r x y H Q
def zjF(g:Dt->Dt->R Dt):Prop:=∀ x y n,g x y≠.er n
variable{a b:Expr}{fa fb:De}{pos:Pos}
theorem zhl{r:R2}{g:Dt->Dt->R Dt}{σ:L2.St}{H:Hp}{Q:VK}(h2:Op2 X.K r g)(he:zjF g)(h:tE X.K C (dOp g fa fb) σ H Q):tOp r (tE X.K C fa) (tE X.K C fb) σ H Q:=by
 obtain ⟨G,w,ρ,rr,p⟩:=h
 refine zeA (κ:=fun G H w=>kE X.K C σ Q G H w) zcz rr p fun d ρ1 v G1 H1 w1 r1 s1 q1 p1=>?_
 refine zeA (κ:=fun G H w=>kE X.K C σ Q G H w) zcz r1 p1 fun d2 ρ2 v2 G2 H2 w2 r2 s2 q2 p2=>?_
 cases e:g d d2 with
 |ok z =>
  simp only[e,R.bind_ok] at p2
  refine h2 G2 H2 v v2 d d2 z Q r2.gh (q1.same s2.g) q2 e fun v3 G3 H3 gr q3=>?_
  exact p2 v3 G3 H3 w2 gr.step (r2.grow gr) q3
 |er n=>exact absurd e (he _ _ _)
 |no=>simp only[e,R.bind_no] at p2;exact p2.elim
theorem zjQ{op:Operator}{r:R2}{g:Dt->Dt->R Dt}(ho:OpR X (binaryOp op) r)(h2:Op2 X.K r g)(he:zjF g)(ha:JE X C a fa)(hb:JE X C b fb):JE X C (.BinOp a op b pos) (dOp g fa fb) :=
 (zs6 ho ha hb).weak fun σ H Q h=>zhl h2 he h
theorem zpI{op:CmpOp}{r:R2}{g:Dt->Dt->R Dt}(ho:OpR X (compareOp op) r)(h2:Op2 X.K r g)(he:zjF g)(ha:JE X C a fa)(hb:JE X C b fb)(hm:behindInMarks op b=false):JE X C (.Compare a [op] [b] pos) (dOp g fa fb) :=
 (zqB ho ha hb hm).weak fun σ H Q h=>zhl h2 he h
def dTB(f:De):DT:=fun ρ=>(f ρ).bind fun a=>match a.1 with
 |.bl b=>.ok (b,a.2)
 |_=>.no
theorem zdp{K:W.Frag}{G:Hp}{b:Bool}{v:V}(h:Rep K G (.bl b) v):v=.bl b:=by unfold Rep at h;exact h
theorem zaz{K:W.Frag}{G:Hp}{b:Int}{v:V}(h:Rep K G (.int b) v):v=.int b:=by unfold Rep at h;exact h
theorem zeT{K:W.Frag}{G:Hp}{b:Str}{v:V}(h:Rep K G (.str b) v):v=.str b:=by unfold Rep at h;exact h
theorem zgo{K:W.Frag}{G:Hp}{v:V}(h:Rep K G .non v):v=.non:=by unfold Rep at h;exact h
theorem zdJ{K:W.Frag}{G:Hp}{l:List Dt}{v:V}(h:Rep K G (.tup l) v):∃ a vs,v=.ref a/\zgO K G a vs/\zay K G l vs:=by unfold Rep at h;exact h
theorem zbi{K:W.Frag}{G:Hp}{l:List Dt}{v:V}(h:Rep K G (.tup l) v):∃ a vs,v=.ref a/\SqT K G a vs/\zay K G l vs:=by
 obtain ⟨a,vs,h1,h2,h3⟩:=zdJ h
 exact ⟨a,vs,h1,h2.sq,h3⟩
theorem zaG{K:W.Frag}{G:Hp}{l:List Dt}{v:V}(h:Rep K G (.lst l) v):∃ a vs,v=.ref a/\G a=some (.lst vs)/\zay K G l vs:=by unfold Rep at h;exact h
theorem zhL{f:De}{σ:L2.St}{H:Hp}{Q:Bool->Hp->Prop}(h:tT X.K C (dTB f) σ H Q):tE X.K C f σ H fun x H'=>∃ k,x=.bl k/\Q k H':=by
 obtain ⟨G,w,ρ,r,p⟩:=h
 refine zeA (κ:=fun G H w=>kT X.K C σ Q G H w) zoo r p fun d ρ1 v G1 H1 w1 r1 s1 q1 p1=>?_
 cases d with
 |bl b=>exact ⟨b,zdp q1,p1 G1 H1 w1 (.refl _ _ _) r1⟩
 |_=>exact p1.elim
theorem zf6{op:CmpOp}{r:R2}{g:Dt->Dt->R Dt}(ho:OpR X (compareOp op) r)(h2:Op2 X.K r g)(he:zjF g)(ha:JE X C a fa)(hb:JE X C b fb)(hm:behindInMarks op b=false):JT X C (.Compare a [op] [b] pos) (dTB (dOp g fa fb)) :=
 (zke ho ha hb hm).weak fun σ H Q h=>by
  have h':=zhL h
  exact zhl h2 he h'
theorem zcR{e:Expr}{f:De}(h:JE X C e f)(he:∀ whole,isTrue e X.env whole=(do let v <- whole;standAt e.pos;holding [v] (truthy v)):=by intro _;rfl):JT X C e (dTB f) :=
 (zsA h he).weak fun σ H Q h=>zhL h
def zca(f:DT):DT:=fun ρ=>(f ρ).bind fun a=>.ok (!a.1,a.2)
def zj4(f g:DT):DT:=fun ρ=>(f ρ).bind fun a=>if a.1=true then g a.2 else .ok (false,a.2)
def zjj(f g:DT):DT:=fun ρ=>(f ρ).bind fun a=>if a.1=true then .ok (true,a.2) else g a.2
variable{tA tB':DT}{zbm:List Expr}
theorem ziP(ha:JT X C a tA):JT X C (.UnaryOp .Not a pos) (zca tA):=(zsw ha).weak fun σ H Q ⟨G,w,ρ,r,p⟩ =>
 zrD (κ:=fun G H w=>kT X.K C σ Q G H w) zoo r p fun b ρ1 G1 H1 w1 r1 s1 p1=>p1 G1 H1 w1 (.refl _ _ _) r1
theorem zq5(ha:JT X C a tA):JW X C (.BoolOp .And [a] pos) tA:=zpZ ha
theorem znt(ha:JT X C a tA):JW X C (.BoolOp .Or [a] pos) tA:=zsa ha
theorem zsf(ha:JT X C a tA)(hb:JW X C (.BoolOp .And (b::zbm) pos) tB'):JW X C (.BoolOp .And (a::b::zbm) pos) (zj4 tA tB'):=(ztk ha hb).weak fun σ H Q ⟨G,w,ρ,r,p⟩=>by
 refine zrD (κ:=fun G H w=>kT X.K C σ Q G H w) zoo r p fun b ρ1 G1 H1 w1 r1 s1 p1=>?_
 cases b with
 |true=>exact ⟨G1,w1,ρ1,r1,p1⟩
 |false=>exact p1 G1 H1 w1 (.refl _ _ _) r1
theorem zoA(ha:JT X C a tA)(hb:JW X C (.BoolOp .Or (b::zbm) pos) tB'):JW X C (.BoolOp .Or (a::b::zbm) pos) (zjj tA tB'):=(zt7 ha hb).weak fun σ H Q ⟨G,w,ρ,r,p⟩=>by
 refine zrD (κ:=fun G H w=>kT X.K C σ Q G H w) zoo r p fun b ρ1 G1 H1 w1 r1 s1 p1=>?_
 cases b with
 |true=>exact p1 G1 H1 w1 (.refl _ _ _) r1
 |false=>exact ⟨G1,w1,ρ1,r1,p1⟩
theorem JW.jt{e:Expr}{f:DT}(h:JW X C e f):JT X C e f:=PW.pt h
def zsl(fa fb:De):De:=fun ρ=>(fa ρ).bind fun a=>match a.1 with
 |.bl true=>fb a.2
 |.bl false=>.ok (.bl false,a.2)
 |_=>.no
def dOr(fa fb:De):De:=fun ρ=>(fa ρ).bind fun a=>match a.1 with
 |.bl true=>.ok (.bl true,a.2)
 |.bl false=>fb a.2
 |_=>.no
def ztu(fa:De):De:=fun ρ=>(fa ρ).bind fun a=>match a.1 with
 |.bl b=>.ok (.bl (!b),a.2)
 |_=>.no
theorem zmh{op}{f:De}(h:JE X C a f):JE X C (.BoolOp op [a] pos) f:=zsh h
theorem zpF(ha:JE X C a fa)(hb:JE X C (.BoolOp .And (b::zbm) pos) fb):JE X C (.BoolOp .And (a::b::zbm) pos) (zsl fa fb):=(zsQ ha hb).weak fun σ H Q ⟨G,w,ρ,r,p⟩=>by
 refine zeA (κ:=fun G H w=>kE X.K C σ Q G H w) zcz r p fun d ρ1 v G1 H1 w1 r1 s1 q1 p1=>?_
 cases d with
 |bl b =>
  refine ⟨b,zdp q1,?_⟩
  cases b with
  |true=>exact ⟨G1,w1,ρ1,r1,p1⟩
  |false=>exact p1 _ G1 H1 w1 (.refl _ _ _) r1 (by unfold Rep;rfl)
 |_=>exact p1.elim
theorem ztU(ha:JE X C a fa)(hb:JE X C (.BoolOp .Or (b::zbm) pos) fb):JE X C (.BoolOp .Or (a::b::zbm) pos) (dOr fa fb):=(ztL ha hb).weak fun σ H Q ⟨G,w,ρ,r,p⟩=>by
 refine zeA (κ:=fun G H w=>kE X.K C σ Q G H w) zcz r p fun d ρ1 v G1 H1 w1 r1 s1 q1 p1=>?_
 cases d with
 |bl b =>
  refine ⟨b,zdp q1,?_⟩
  cases b with
  |true=>exact p1 _ G1 H1 w1 (.refl _ _ _) r1 (by unfold Rep;rfl)
  |false=>exact ⟨G1,w1,ρ1,r1,p1⟩
 |_=>exact p1.elim
theorem zpA(ha:JE X C a fa):JE X C (.UnaryOp .Not a pos) (ztu fa):=(zsV ha).weak fun σ H Q ⟨G,w,ρ,r,p⟩=>by
 refine zeA (κ:=fun G H w=>kE X.K C σ Q G H w) zcz r p fun d ρ1 v G1 H1 w1 r1 s1 q1 p1=>?_
 cases d with
 |bl b=>exact ⟨b,zdp q1,p1 _ G1 H1 w1 (.refl _ _ _) r1 (by unfold Rep;rfl)⟩
 |_=>exact p1.elim
def zrE(t:DT)(fa fb:De):De:=fun ρ=>(t ρ).bind fun c=>if c.1=true then fa c.2 else fb c.2
theorem zsu{c:Expr}(hc:JT X C c tA)(ha:JE X C a fa)(hb:JE X C b fb):JE X C (.IfExp c a b pos) (zrE tA fa fb):=(zpo hc ha hb).weak fun σ H Q ⟨G,w,ρ,r,p⟩=>by
 refine zrD (κ:=fun G H w=>kE X.K C σ Q G H w) zcz r p fun b ρ1 G1 H1 w1 r1 s1 p1=>?_
 cases b with
 |true=>exact ⟨G1,w1,ρ1,r1,p1⟩
 |false=>exact ⟨G1,w1,ρ1,r1,p1⟩
abbrev DA:=Ev->R (List Dt×Ev)
def kA(K:W.Frag)(C:Cn)(σ:L2.St)(Q:List V->Hp->Prop)(G H:Hp)(w:Wn)(a:List Dt×Ev):Prop :=
 ∀ vs G' H' w',zbe G H w G' H' w'->Rel K C G' w' a.2 σ H'->zay K G' a.1 vs->Q vs H'
theorem zth{K:W.Frag}{σ:L2.St}{Q:List V->Hp->Prop}:Stp (fun G H w=>kA K C σ Q G H w):=fun _ _ _ _ _ _ _ s k v G' H' w' s'=>k v G' H' w' (s.trans s')
def tAd(K:W.Frag)(C:Cn)(f:DA):TA:=fun σ H Q=>∃ G w ρ,Rel K C G w ρ σ H/\zbX C.ex (kA K C σ Q G H w) (f ρ)
abbrev JA(X:Cx)(C:Cn)(es:List Expr)(f:DA):Prop:=PA X es (tAd X.K C f)
def dA0:DA:=fun ρ=>.ok ([],ρ)
def dA(fa:De)(fr:DA):DA:=fun ρ=>(fa ρ).bind fun a=>(fr a.2).bind fun b=>.ok (a.1::b.1,b.2)
theorem zrQ{K:W.Frag}{σ:L2.St}{α:Type}{κ:zoP α}(st:Stp κ){G H:Hp}{w:Wn}{ρ:Ev}{fa:DA}{g:List Dt×Ev->R α}{Q:List V->Hp->Prop}(r:Rel K C G w ρ σ H)(p:zbX C.ex (κ G H w) ((fa ρ).bind g))
  (k:∀ ds ρ1 vs G1 H1 w1,Rel K C G1 w1 ρ1 σ H1->zbe G H w G1 H1 w1->zay K G1 ds vs->zbX C.ex (κ G1 H1 w1) (g (ds,ρ1))->Q vs H1):tAd K C fa σ H Q:=by
 refine ⟨G,w,ρ,r,?_⟩
 cases e:fa ρ with
 |ok a =>
  rw[e] at p
  intro v G' H' w' s' r' q
  exact k a.1 a.2 v G' H' w' r' s' q (zbX.step st s' p)
 |er n=>rw[e] at p;exact p
 |no=>rw[e] at p;exact p
theorem za5:JA X C [] dA0:=PA.weak zc8 fun σ H Q ⟨G,w,ρ,r,p⟩=>p _ G H w (.refl _ _ _) r zay.nil
theorem zap{e:Expr}{es:List Expr}{fr:DA}(ha:JE X C e fa)(hr:JA X C es fr)(hs:starEach (e::es) X.env=(false,eval e X.env)::starEach es X.env:=by rfl):JA X C (e::es) (dA fa fr) :=
 (zaP ha hr hs).weak fun σ H Q ⟨G,w,ρ,r,p⟩=>by
  refine zeA (κ:=fun G H w=>kA X.K C σ Q G H w) zth r p fun d ρ1 v G1 H1 w1 r1 s1 q1 p1=>?_
  refine zrQ (κ:=fun G H w=>kA X.K C σ Q G H w) zth r1 p1 fun ds ρ2 vs G2 H2 w2 r2 s2 q2 p2=>?_
  exact p2 _ G2 H2 w2 (.refl _ _ _) r2 (zay.cons (q1.same s2.g) q2)
def zcK{α:Type}(l:List α):Bool:=decide (l.length<=16777216)
def zeS(f:DA):De:=fun ρ=>(f ρ).bind fun a=>if zcK a.1=true then .ok (.tup a.1,a.2) else .no
def zch(f:DA):DN:=fun ρ=>(f ρ).bind fun a=>if zcK a.1=true then .ok (a.1,a.2) else .no
theorem zfX{α:Type}{l:List α}(h:zcK l=true):l.length<=sizeLine:=by
 have:=of_decide_eq_true h
 rw[show sizeLine=16777216 from by decide];exact this
theorem zet{x1}{es:List Expr}{f:DA}(h:JA X C es f):JE X C (.Tuple es x1 pos) (zeS f):=(zpQ h).weak fun σ H Q ⟨G,w,ρ,r,p⟩=>by
 refine zrQ (κ:=fun G H w=>kE X.K C σ Q G H w) zcz r p fun ds ρ1 vs G1 H1 w1 r1 s1 q1 p1=>?_
 by_cases hf:zcK ds=true
 ·simp only[hf,if_true] at p1
  refine ⟨by rw[<- q1.length];exact zfX hf,fun a ha=>?_⟩
  have gr:zdz G1 H1 (upd G1 a (.tup vs)) (upd H1 a (.tup vs)):=.new r1.gh ha
  exact p1 _ _ _ w1 gr.step (r1.grow gr) (by unfold Rep;exact ⟨a,vs,rfl,zgO.of zah,q1.same gr.g⟩)
 ·simp only[hf] at p1;exact p1.elim
theorem zb8{es:List Expr}{f:DA}(h:JA X C es f):JN X C (.List es pos) (zch f):=(ztl h).weak fun σ H Q ⟨G,w,ρ,r,p⟩=>by
 refine zrQ (κ:=fun G H w=>kN X.K C σ Q G H w) zeU r p fun ds ρ1 vs G1 H1 w1 r1 s1 q1 p1=>?_
 by_cases hf:zcK ds=true
 ·simp only[hf,if_true] at p1
  refine ⟨by rw[<- q1.length];exact zfX hf,fun a ha=>?_⟩
  have gr:zdz G1 H1 G1 (upd H1 a (.lst vs)):=.newH r1.gh ha
  exact p1 a vs _ _ w1 gr.step (r1.grow gr) ha zah (r1.gh.free ha) (by
   cases z:w1 a with
   |none=>rfl
   |some k=>exact absurd ha (r1.wh a (by rw[z];simp))) q1
 ·simp only[hf] at p1;exact p1.elim
def dFz(f:DN):De:=fun ρ=>(f ρ).bind fun a=>.ok (.lst a.1,a.2)
theorem Rel.know{K:W.Frag}{σ:L2.St}{G H:Hp}{w:Wn}{ρ:Ev}{p:Addr}{o:HO}(r:Rel K C G w ρ σ H)(hp:H p=some o)(hg:G p=none)(hw:w p=none)(H0:Hp)(G0:Hp)(w0:Wn)(s:zbe G0 H0 w0 G H w)(h0:H0 p=none)
  (e0:C.H₀ p=none\/C.w₀ p≠none\/C.G₀ p≠none):Rel K C (upd G p o) w ρ σ H/\zbe G0 H0 w0 (upd G p o) H w:=by
 have sg:zb7 G (upd G p o):=fun b u e=>by rw[zae (zaf e hg)];exact e
 have s1:∀{G1 H1:Hp}{w1:Wn},zbe G1 H1 w1 G H w->(H1 p=none\/w1 p≠none\/G1 p≠none)->zbe G1 H1 w1 (upd G p o) H w:=fun s z=>by
  refine ⟨s.g.trans sg,fun b u e=>?_,s.h,s.w,s.k⟩
  by_cases hb:b=p
  ·subst hb
   rcases z with z|z|z
   ·exact .inr (.inl z)
   ·exact .inr (.inr z)
   ·exact .inl z
  ·rw[zae hb] at e;exact s.fr b u e
 refine ⟨⟨fun b u e=>?_,fun b e=>?_,r.wh,r.len,fun i b e=>?_,s1 r.en e0,r.pin⟩,s1 s (.inl h0)⟩
 ·by_cases hb:b=p
  ·subst hb;rw[zah] at e;cases e;exact hp
  ·rw[zae hb] at e;exact r.gh b u e
 ·by_cases hb:b=p
  ·subst hb;rw[hw] at e;exact absurd rfl e
  ·rw[zae hb];exact r.wg b e
 ·obtain ⟨v,h1,h2⟩:=r.sl i b e
  exact ⟨v,h1,h2.grow sg fun _ _ e1 e2=>⟨e2,e1⟩⟩
end
section
variable{X:Cx}{C:Cn}{a b e:Expr}{fa fb:De}{pos:Pos}
theorem zaA{f:DN}(h:JN X C e f):JE X C e (dFz f):=PE.weak h fun σ H Q ⟨G,w,ρ,r,p⟩=>by
 refine zt0 (κ:=fun G H w=>kE X.K C σ Q G H w) r p fun ds ρ1 a vs G1 H1 w1 r1 s1 h0 h1 h2 h3 q1 p1=>?_
 obtain ⟨r',s'⟩:=r1.know h1 h2 h3 H G w s1 h0 (.inl (r.en.k a h0))
 have sg:zb7 G1 (upd G1 a (.lst vs)):=fun b u e=>by rw[zae (zaf e h2)];exact e
 exact p1 _ _ _ _ s' r' (by unfold Rep;exact ⟨a,vs,rfl,zah,q1.same sg⟩)
def zaw(f g:DS):DS:=fun ρ=>(f ρ).bind fun a=>match a.1 with
 |.nx=>g a.2
 |fl=>.ok (fl,a.2)
def dNx:DS:=fun ρ=>.ok (.nx,ρ)
variable{st:Stmt}{zbm:List Stmt}{fs gs:DS}
theorem zaL:JSs X C [] dNx:=PSs.weak zqm fun D σ H ⟨G,w,ρ,r,p⟩=>p σ G H w (.refl _ _ _) r
theorem zac(h1:JS X C st fs)(h2:JSs X C zbm gs):JSs X C (st::zbm) (zaw fs gs):=PSs.weak (zoM h1 h2) fun D σ H ⟨G,w,ρ,r,p⟩=>by
 refine ⟨G,w,ρ,r,?_⟩
 unfold zaw at p
 cases e:fs ρ with
 |ok x =>
  rw[e] at p
  obtain ⟨fl,ρ1⟩:=x
  cases fl with
  |nx=>exact fun σ' G' H' w' s' r'=>⟨G',w',ρ1,r',zbX.step zdy s' p⟩
  |bk=>exact p
  |ct=>exact p
  |rt d=>exact p
 |er n=>rw[e] at p;exact p
 |no=>rw[e] at p;exact p
theorem zaj(h1:JS X C st fs):JSs X C [st] fs:=znq h1
def dEx(f:De):DS:=fun ρ=>(f ρ).bind fun a=>.ok (.nx,a.2)
theorem zcH(he:JE X C e fa)(hs:swapsWith e none pos.line X.env=pure false:=by rfl):JS X C (.Expr e pos) (dEx fa):=PS.weak (zqX he hs) fun D σ H ⟨G,w,ρ,r,p⟩ =>
 zeA (κ:=fun G H w=>kS X.K C D G H w) zdy r p fun d ρ1 v G1 H1 w1 r1 s1 q1 p1=>p1 σ G1 H1 w1 (.refl _ _ _) r1
def zbo(f:De):DS:=fun ρ=>(f ρ).bind fun a=>.ok (.rt a.1,a.2)
theorem zaB(hn:C.nw=false)(he:JE X C e fa):JS X C (.Return (some e) pos) (zbo fa):=PS.weak (zpJ he) fun D σ H ⟨G,w,ρ,r,p⟩ =>
 zeA (κ:=fun G H w=>kS X.K C D G H w) zdy r p fun d ρ1 v G1 H1 w1 r1 s1 q1 p1=>p1 v σ G1 H1 w1 (.refl _ _ _) r1 (by rw[hn];exact q1)
def zd9(f:DN):DS:=fun ρ=>(f ρ).bind fun a=>.ok (.rt (.lst a.1),a.2)
theorem zhj{f:DN}(hn:C.nw=true)(he:JN X C e f):JS X C (.Return (some e) pos) (zd9 f):=PS.weak (zpJ he) fun D σ H ⟨G,w,ρ,r,p⟩ =>
 zt0 (κ:=fun G H w=>kS X.K C D G H w) r p fun ds ρ1 a vs G1 H1 w1 r1 s1 h0 h1 h2 h3 q1 p1=>p1 _ σ G1 H1 w1 s1 r1 (by rw[hn];exact ⟨ds,a,vs,rfl,rfl,r.en.k a h0,h1,h2,h3,q1⟩)
def dIf(c:DT)(f g:DS):DS:=fun ρ=>(c ρ).bind fun b=>if b.1=true then f b.2 else g b.2
theorem zct{c:Expr}{A B:List Stmt}{tc:DT}(hc:JT X C c tc)(ha:JSs X C A fs)(hb:JSs X C B gs):JS X C (.If c A B pos) (dIf tc fs gs):=PS.weak (ztZ hc ha hb) fun D σ H ⟨G,w,ρ,r,p⟩=>by
 refine zrD (κ:=fun G H w=>kS X.K C D G H w) zdy r p fun b ρ1 G1 H1 w1 r1 s1 p1=>?_
 cases b with
 |true=>exact ⟨G1,w1,ρ1,r1,p1⟩
 |false=>exact ⟨G1,w1,ρ1,r1,p1⟩
theorem Rel.setVal{K:W.Frag}{σ:L2.St}{G H:Hp}{w:Wn}{ρ:Ev}{i:Nat}{d:Dt}{v:V}(r:Rel K C G w ρ σ H)(hi:i < ρ.length)(hp:i∉C.pp)(h:Rep K G d v):Rel K C G w (ρ.set i (some (.val d))) (σ.set i (some v)) H:=by
 refine ⟨r.gh,r.wg,r.wh,by simpa using r.len,fun j b e=>?_,r.en,fun j hj=>?_⟩
 ·by_cases hj:j=i
  ·subst hj
   rw[List.getElem?_set_self hi] at e
   cases e
   exact ⟨v,List.getElem?_set_self (by rw[<- r.len];exact hi),h⟩
  ·rw[List.getElem?_set_ne (Ne.symm hj)] at e
   obtain ⟨v',h1,h2⟩:=r.sl j b e
   exact ⟨v',by rw[List.getElem?_set_ne (Ne.symm hj)];exact h1,h2⟩
 ·have:i≠j:=fun z=>hp (z ▸ hj)
  rw[List.getElem?_set_ne this];exact r.pin j hj
theorem Rel.setOwn{K:W.Frag}{σ:L2.St}{G0 H0:Hp}{w0:Wn}{G H:Hp}{w:Wn}{ρ:Ev}{i:Nat}{ds:List Dt}{p:Addr}{vs:List V}(r:Rel K C G w ρ σ H)(hi:i < ρ.length)(hpp:i∉C.pp)(hp:H p=some (.lst vs))(hg:G p=none)(hw:w p=none)
  (q:zay K G ds vs) (s:zbe G0 H0 w0 G H w) (h0:H0 p=none) (en0:C.H₀ p=none) :
  Rel K C G (fun b=>if b=p then some i else w b) (ρ.set i (some (.own ds))) (σ.set i (some (.ref p))) H/\zbe G0 H0 w0 G H (fun b=>if b=p then some i else w b):=by
 have s1:∀{G1 H1:Hp}{w1:Wn},zbe G1 H1 w1 G H w->H1 p=none->zbe G1 H1 w1 G H (fun b=>if b=p then some i else w b):=fun s z=>by
  refine ⟨s.g,s.fr,s.h,fun b e=>?_,s.k⟩
  by_cases hb:b=p
  ·subst hb;exact .inr z
  ·simp[hb] at e;exact s.w b e
 refine ⟨⟨r.gh,fun b e=>?_,fun b e=>?_,by simpa using r.len,fun j b e=>?_,s1 r.en en0,fun j hj=>?_⟩,s1 s h0⟩
 ·by_cases hb:b=p
  ·subst hb;exact hg
  ·simp[hb] at e;exact r.wg b e
 ·by_cases hb:b=p
  ·subst hb;rw[hp];simp
  ·simp[hb] at e;exact r.wh b e
 ·by_cases hj:j=i
  ·subst hj
   rw[List.getElem?_set_self hi] at e
   cases e
   exact ⟨_,List.getElem?_set_self (by rw[<- r.len];exact hi),p,vs,rfl,by simp,hp,q⟩
  ·rw[List.getElem?_set_ne (Ne.symm hj)] at e
   obtain ⟨v',h1,h2⟩:=r.sl j b e
   refine ⟨v',by rw[List.getElem?_set_ne (Ne.symm hj)];exact h1,h2.grow (.refl _) fun a o e1 e2=>⟨e2,?_⟩⟩
   have:a≠p:=fun z=>by subst z;rw[hw] at e1;cases e1
   simp[this,e1]
 ·have:i≠j:=fun z=>hpp (z ▸ hj)
  rw[List.getElem?_set_ne this];exact r.pin j hj
def zaU(i:Nat)(f:De):DS:=fun ρ=>(f ρ).bind fun a=>if i<a.2.length then .ok (.nx,a.2.set i (some (.val a.1))) else .no
theorem zaK{i:Nat}{x:Str}{pos':Pos}(hN:X.N.Nodup)(hi:X.N[i]? = some x)(hx:Loc X.env.scope x)(hp:i∉C.pp)(he:JE X C e fa)(hs:swapsWith e (some (.Name x pos')) pos.line X.env=pure false:=by rfl)
  (hf:X.fn x=true\/X.env.scope.names.lookup x=some .local:=by first|exact .inl rfl|exact .inr rfl|assumption):JS X C (.Assign [.Name x pos'] e pos) (zaU i fa) :=
 PS.weak (zm6 hN hi hx he hs) fun D σ H ⟨G,w,ρ,r,p⟩=>by
  refine zeA (κ:=fun G H w=>kS X.K C D G H w) zdy r p fun d ρ1 v G1 H1 w1 r1 s1 q1 p1=>?_
  by_cases hl:i < ρ1.length
  ·simp only[hl,if_true] at p1
   exact p1 _ G1 H1 w1 (.refl _ _ _) (r1.setVal hl hp q1)
  ·simp only[hl,if_false] at p1
   exact p1.elim
def zbp(i:Nat)(f:DN):DS:=fun ρ=>(f ρ).bind fun a=>if i<a.2.length then .ok (.nx,a.2.set i (some (.own a.1))) else .no
theorem zcV{i:Nat}{x:Str}{pos':Pos}{f:DN}(hN:X.N.Nodup)(hi:X.N[i]? = some x)(hx:Loc X.env.scope x)(hp:i∉C.pp)(he:JN X C e f)(hs:swapsWith e (some (.Name x pos')) pos.line X.env=pure false:=by rfl)
  (hf:X.fn x=true\/X.env.scope.names.lookup x=some .local:=by first|exact .inl rfl|exact .inr rfl|assumption):JS X C (.Assign [.Name x pos'] e pos) (zbp i f) :=
 PS.weak (zm6 hN hi hx he hs) fun D σ H ⟨G,w,ρ,r,p⟩=>by
  refine zt0 (κ:=fun G H w=>kS X.K C D G H w) r p fun ds ρ1 a vs G1 H1 w1 r1 s1 h0 h1 h2 h3 q1 p1=>?_
  by_cases hl:i < ρ1.length
  ·simp only[hl,if_true] at p1
   obtain ⟨r',s'⟩:=r1.setOwn hl hp h1 h2 h3 q1 s1 h0 (r.en.k a h0)
   exact p1 _ _ _ _ s' r'
  ·simp only[hl,if_false] at p1
   exact p1.elim
def zmx(i:Nat)(fb:De):De:=fun ρ=>match ρ[i]? with
 |some (some _)=>(fb ρ).bind fun b=>match b.2[i]?,b.1 with
  |some (some (.own ds)),.int k=>match atI ds k with
   |some d=>.ok (d,b.2)
   |none=>.no
  |_,_=>.no
 |_=>.no
theorem zhf{K:W.Frag}{G:Hp}{ds:List Dt}{vs:List V}{k:Int}{d:Dt}(h:zay K G ds vs)(e:atI ds k=some d):∃ v,atI vs k=some v/\Rep K G d v:=by
 unfold atI at e ⊢
 rw[<- h.length]
 cases q:ixN ds.length k with
 |none=>rw[q] at e;cases e
 |some j =>
  rw[q] at e
  exact h.get e
theorem zfB(i:Nat){x:Str}{ps:Pos}(hN:X.N[i]? = some x:=by rfl)(hb:JE X C b fb)(hv:Vis X.env.scope x:=by first|exact Or.inl rfl|exact Or.inr (Or.inl rfl)|exact Or.inr (Or.inr rfl))(hd:(x == ("__debug__" : Str))=false:=by decide)
  (hcd:(x == ("__classdict__" : Str))=false:=by decide) (hs:zhC b:=by exact fun _ _=>rfl):JE X C (.Subscript (.Name x ps) b pos) (zmx i fb) :=
 PE.weak (zq1 zkk (zbB hN hv hd hcd) hb hs) fun σ H Q ⟨G,w,ρ,r,p⟩=>by
  unfold zmx at p
  split at p
  ·rename_i b0 e0
   obtain ⟨v0,h0,_⟩:=r.sl i b0 e0
   refine ⟨v0,h0,?_⟩
   refine zeA (κ:=fun G H w=>kE X.K C σ Q G H w) zcz r p fun d ρ1 v G1 H1 w1 r1 s1 q1 p1=>?_
   dsimp only at p1
   split at p1
   ·rename_i ds k e1
    obtain ⟨v1,h1,a,vs,rfl,h2,h3,h4⟩:=r1.sl i _ e1
    rw[h0] at h1;cases h1
    split at p1
    ·rename_i d' e2
     obtain ⟨v2,h5,h6⟩:=zhf h4 e2
     exact ⟨a,vs,k,v2,rfl,zaz q1,SqL.of h3,h5,p1 v2 G1 H1 w1 (.refl _ _ _) r1 h6⟩
    ·exact p1.elim
   ·exact p1.elim
  ·exact p.elim
end
def zlw(K:W.Frag)(J:It)(G:Hp)(ds:List Dt):Prop:=∀(i:Nat)(G1 H:Hp),zb7 G G1->zb7 G1 H ->
 (∀ d,ds[i]? = some d->J.go i H/\∀ x H',J.yld i H x H'->∃ G2,zdz G1 H G2 H'/\Rep K G2 d x)/\(ds.length<=i->J.stop i H)
def kI(K:W.Frag)(C:Cn)(σ:L2.St)(Q:It->Hp->Prop)(G H:Hp)(w:Wn)(a:List Dt×Ev):Prop :=
 ∀ J G' H' w',zbe G H w G' H' w'->Rel K C G' w' a.2 σ H'->zlw K J G' a.1->Q J H'
def tI(K:W.Frag)(C:Cn)(f:DA):TI:=fun σ H Q=>∃ G w ρ,Rel K C G w ρ σ H/\zbX C.ex (kI K C σ Q G H w) (f ρ)
abbrev JI(X:Cx)(C:Cn)(tg iter:Expr)(f:DA):Prop:=PI X tg iter (tI X.K C f)
section
variable{X:Cx}{C:Cn}{tg iter:Expr}{fa:De}{pos:Pos}
theorem zts{K:W.Frag}{σ:L2.St}{α:Type}{κ:zoP α}(st:Stp κ){G H:Hp}{w:Wn}{ρ:Ev}{fa:DA}{g:List Dt×Ev->R α}{Q:It->Hp->Prop}(r:Rel K C G w ρ σ H)(p:zbX C.ex (κ G H w) ((fa ρ).bind g))
  (k:∀ ds ρ1 J G1 H1 w1,Rel K C G1 w1 ρ1 σ H1->zbe G H w G1 H1 w1->zlw K J G1 ds->zbX C.ex (κ G1 H1 w1) (g (ds,ρ1))->Q J H1):tI K C fa σ H Q:=by
 refine ⟨G,w,ρ,r,?_⟩
 cases e:fa ρ with
 |ok a =>
  rw[e] at p
  intro v G' H' w' s' r' q
  exact k a.1 a.2 v G' H' w' r' s' q (zbX.step st s' p)
 |er n=>rw[e] at p;exact p
 |no=>rw[e] at p;exact p
theorem PI.or{t t':TI}(h:PI X tg iter t)(h':PI X tg iter t'):PI X tg iter (fun σ H Q=>t σ H Q\/t' σ H Q):=fun pins s σ H Q I q=>q.elim (h pins s σ H Q I) (h' pins s σ H Q I)
theorem PI.weak{t t':TI}(h:PI X tg iter t)(k:∀ σ H Q,t' σ H Q->t σ H Q):PI X tg iter t':=fun pins s σ H Q I q=>h pins s σ H Q I (k σ H Q q)
def dIt(f:De):DA:=fun ρ=>(f ρ).bind fun a=>match a.1 with
 |.lst l=>.ok (l,a.2)
 |.tup l=>.ok (l,a.2)
 |_=>.no
theorem zrK{K:W.Frag}{G:Hp}{a:Addr}{vs:List V}{ds:List Dt}(hs:SqT K G a vs)(q:zay K G ds vs):zlw K (Itt K a) G ds:=fun i G1 H s1 s2=>by
 refine ⟨fun d e=>?_,fun h=>⟨vs,za1 s2 (za1 s1 hs),by rw[<- q.length];exact h⟩⟩
 obtain ⟨v,e1,e2⟩:=q.get e
 refine ⟨⟨vs,v,za1 s2 (za1 s1 hs),e1⟩,fun x H' y=>?_⟩
 obtain ⟨rfl,y⟩:=y
 have:=y vs (za1 s2 (za1 s1 hs))
 rw[e1] at this;cases this
 exact ⟨G1,.refl s2,e2.same s1⟩
theorem zqk{K:W.Frag}{G:Hp}{a:Addr}{vs:List V}{ds:List Dt}(hs:SqL K G a vs)(q:zay K G ds vs):zlw K (Itl K a) G ds:=fun i G1 H s1 s2=>by
 refine ⟨fun d e=>?_,fun h=>⟨vs,s2.seq (s1.seq hs),by rw[<- q.length];exact h⟩⟩
 obtain ⟨v,e1,e2⟩:=q.get e
 refine ⟨⟨vs,v,s2.seq (s1.seq hs),e1⟩,fun x H' y=>?_⟩
 obtain ⟨rfl,y⟩:=y
 have:=y vs (s2.seq (s1.seq hs))
 rw[e1] at this;cases this
 exact ⟨G1,.refl s2,e2.same s1⟩
theorem zdn(h:JE X C iter fa):JI X C tg iter (dIt fa):=PI.weak (PI.or (zqv h) (zsI h)) fun σ H Q ⟨G,w,ρ,r,p⟩=>by
 unfold dIt at p
 cases e:fa ρ with
 |ok x =>
  obtain ⟨d,ρ1⟩:=x
  cases d with
  |lst l =>
   rw[e] at p
   refine .inl ⟨G,w,ρ,r,?_⟩
   rw[e]
   intro v G' H' w' s' r' q
   obtain ⟨a,vs,rfl,h1,h2⟩:=zaG q
   exact ⟨a,rfl,⟨vs,SqL.of (r'.gh _ _ h1)⟩,p _ G' H' w' s' r' (zqk (SqL.of h1) h2)⟩
  |tup l =>
   rw[e] at p
   refine .inr ⟨G,w,ρ,r,?_⟩
   rw[e]
   intro v G' H' w' s' r' q
   obtain ⟨a,vs,rfl,h1,h2⟩:=zbi q
   exact ⟨a,rfl,⟨vs,za1 r'.gh h1⟩,p _ G' H' w' s' r' (zrK h1 h2)⟩
  |_=>rw[e] at p;exact p.elim
 |er n=>rw[e] at p;exact .inl ⟨G,w,ρ,r,by rw[e];exact p⟩
 |no=>rw[e] at p;exact p.elim
def zb4(lo:Int)(n:Nat):List Dt:=(List.range n).map fun k=>.int (lo+(k:Nat))
theorem zrG{K:W.Frag}{G:Hp}{lo:Int}{n:Nat}:zlw K (Itr lo n) G (zb4 lo n):=fun i G1 H s1 s2=>by
 refine ⟨fun d e=>?_,fun h=>show n<=i by simpa [zb4] using h⟩
 unfold zb4 at e
 rw[List.getElem?_map] at e
 by_cases hi:i<n
 ·rw[List.getElem?_range hi] at e
  cases e
  refine ⟨hi,fun x H' y=>?_⟩
  obtain ⟨rfl,rfl⟩:=y
  exact ⟨G1,.refl s2,by unfold Rep;rfl⟩
 ·rw[List.getElem?_eq_none (by simpa using hi)] at e
  cases e
def zgf(j:Int):Bool:=decide (-4611686018427387904<=j) && decide (j<4611686018427387904)
theorem zhD{j:Int}(h:zgf j=true):-(2 ^ 62)<=j/\j<2 ^ 62:=by
 unfold zgf at h
 rw[Bool.and_eq_true] at h
 have h1:=of_decide_eq_true h.1
 have h2:=of_decide_eq_true h.2
 omega
def zb6(fa:De):DA:=fun ρ=>(fa ρ).bind fun a=>match a.1 with
 |.int j=>if zgf j=true then .ok (zb4 0 j.toNat,a.2) else .no
 |_=>.no
theorem zcw{e:Expr}{p ps:Pos}(hg:Gl X "range")(hm:X.mg "range"=none)(he:JE X C e fa)(hs:starEach [e] X.env=[(false,eval e X.env)]:=by rfl):JI X C tg (.Call (.Name "range" p) [e] [] ps) (zb6 fa) :=
 PI.weak (zml hg hm (zap he za5 (by rw[hs];rfl)) hs) fun σ H Q ⟨G,w,ρ,r,p⟩=>by
  unfold zb6 at p
  refine ⟨G,w,ρ,r,?_⟩
  unfold dA dA0
  cases e:fa ρ with
  |ok x =>
   obtain ⟨d,ρ1⟩:=x
   rw[e] at p
   intro vs G' H' w' s' r' q
   obtain ⟨v,t,rfl,q1,q2⟩:=q.cons_inv
   rw[q2.nil_inv]
   cases d with
   |int j =>
    simp only[R.bind_ok] at p
    by_cases hj:zgf j=true
    ·simp only[hj,if_true] at p
     exact ⟨j,by rw[zaz q1],(zhD hj).1,(zhD hj).2,p _ G' H' w' s' r' zrG⟩
    ·simp only[hj] at p;exact p.elim
   |_=>exact p.elim
  |er n=>rw[e] at p;exact p
  |no=>rw[e] at p;exact p
abbrev DG:=Dt->Ev->R Ev
def kG(K:W.Frag)(C:Cn)(Q:L2.St->Hp->Prop)(G H:Hp)(w:Wn)(ρ:Ev):Prop :=
 ∀ σ' G' H' w',zbe G H w G' H' w'->Rel K C G' w' ρ σ' H'->Q σ' H'
def tG(K:W.Frag)(C:Cn)(g:DG):TG:=fun v σ H Q=>∃ G w ρ d,Rel K C G w ρ σ H/\Rep K G d v/\zbX C.ex (kG K C Q G H w) (g d ρ)
abbrev JG(X:Cx)(C:Cn)(tg:Expr)(g:DG):Prop:=PG X tg (tG X.K C g)
theorem PG.weak{t t':TG}(h:PG X tg t)(k:∀ v σ H Q,t' v σ H Q->t v σ H Q):PG X tg t':=fun pins s σ H v u Q I r q=>h pins s σ H v u Q I r (k v σ H Q q)
def zba(i:Nat):DG:=fun d ρ=>if i < ρ.length then .ok (ρ.set i (some (.val d))) else .no
theorem zaY{i:Nat}{x:Str}(hN:X.N.Nodup)(hi:X.N[i]? = some x)(hx:Loc X.env.scope x)(hp:i∉C.pp)(hf:X.fn x=true\/X.env.scope.names.lookup x=some .local:=by first|exact .inl rfl|exact .inr rfl|assumption):JG X C (.Name x pos) (zba i) :=
 PG.weak (zjq hN hi hx hf) fun v σ H Q ⟨G,w,ρ,d,r,q,p⟩=>by
  unfold zba at p
  by_cases hl:i < ρ.length
  ·simp only[hl,if_true] at p
   exact p _ G H w (.refl _ _ _) (r.setVal hl hp q)
  ·simp only[hl,if_false] at p;exact p.elim
def zfq(i j:Nat):DG:=fun d ρ=>match d with
 |.tup [a,b]=>if i < ρ.length/\j < ρ.length then .ok ((ρ.set i (some (.val a))).set j (some (.val b))) else .no
 |_=>.no
theorem znj{i j k:Nat}{x y:Str}{p1 p2:Pos}(hc:X.calm=true)(hN:X.N.Nodup)(hi:X.N[i]? = some x)(hj:X.N[j]? = some y)(hx:Loc X.env.scope x)(hy:Loc X.env.scope y)(hp:i∉C.pp)(hq:j∉C.pp)
  (hf:X.fn x=true\/X.env.scope.names.lookup x=some .local:=by first|exact .inl rfl|exact .inr rfl|assumption) (hf2:X.fn y=true\/X.env.scope.names.lookup y=some .local:=by first|exact .inl rfl|exact .inr rfl|assumption)
  (hs1:(assignEach [.Name x p1,.Name y p2] X.env).map (·.2)=assign (.Name x p1) X.env::(assignEach [.Name y p2] X.env).map (·.2):=by rfl) (hs2:(assignEach [.Name y p2] X.env).map (·.2)=assign (.Name y p2) X.env::(assignEach [] X.env).map (·.2):=by rfl)
  (hn:(assignEach [.Name x p1,.Name y p2] X.env).length=2:=by rfl) (hst:(assignEach [.Name x p1,.Name y p2] X.env).findIdx? (·.1)=none:=by rfl):JG X C (.Tuple [.Name x p1,.Name y p2] k pos) (zfq i j) :=
 PG.weak (zsb hc (zkp (zjq hN hi hx hf) (zkp (zjq hN hj hy hf2) zr4 hs2) hs1) hn hst) fun v σ H Q ⟨G,w,ρ,d,r,q,p⟩=>by
  unfold zfq at p
  split at p
  ·rename_i a b
   obtain ⟨ad,vs,rfl,h1,h2⟩:=zbi q
   obtain ⟨v1,t,rfl,q1,q2⟩:=h2.cons_inv
   obtain ⟨v2,t2,rfl,q3,q4⟩:=q2.cons_inv
   rw[q4.nil_inv] at h1
   by_cases hl:i < ρ.length/\j < ρ.length
   ·simp only[hl,and_self,if_true] at p
    have r1:=r.setVal hl.1 hp q1
    have r2:=r1.setVal (i:=j) (by simpa using hl.2) hq q3
    exact ⟨ad,_,rfl,za1 r.gh h1,rfl,v1,_,rfl,v2,_,rfl,rfl,p _ G H w (.refl _ _ _) r2⟩
   ·simp only[hl,if_false] at p;exact p.elim
  ·exact p.elim
def zlk(g:DG)(body:DS):List Dt->DS
 |[],ρ=>.ok (.nx,ρ)
 |d::r,ρ=>(g d ρ).bind fun ρ1=>(body ρ1).bind fun a=>match a.1 with
  |.nx=>zlk g body r a.2
  |.ct=>zlk g body r a.2
  |.bk=>.ok (.nx,a.2)
  |.rt v=>.ok (.rt v,a.2)
def zeI(fi:DA)(g:DG)(body:DS):DS:=fun ρ=>(fi ρ).bind fun a=>zlk g body a.1 a.2
theorem zdr{body:List Stmt}{fi:DA}{g:DG}{fb:DS}(hp:PassesOwn (model X.prog X.w) X.A X.env X.xe)(hc:X.calm=true)(hi:JI X C tg iter fi)(hg:JG X C tg g)(hb:JSs X C body fb)
  (hs:∀ x,foldedSetIterable iter X.env x=pure x:=by intro _;rfl):JS X C (.For tg iter body [] pos) (zeI fi g fb) :=
 PS.weak (zrT hp hc hi hg hb hs) fun D σ H ⟨G,w,ρ,r,p⟩=>by
  refine zts (κ:=fun G H w=>kS X.K C D G H w) zdy r p fun ds ρ1 J G1 H1 w1 r1 s1 it p1=>?_
  refine ⟨fun i m σ' H'=>m=ds.length-i/\i<=ds.length/\∃ G' w' ρ',zb7 G1 G'/\Rel X.K C G' w' ρ' σ' H'/\zbX C.ex (kS X.K C D G' H' w') (zlk g fb (ds.drop i) ρ'),
   ⟨ds.length,by simp,Nat.zero_le _,G1,w1,ρ1,.refl _,r1,by simpa using p1⟩,?_⟩
  rintro i m σ2 H2 ⟨rfl,hi,G2,w2,ρ2,s2,r2,p2⟩
  obtain ⟨it1,it2⟩:=it i G2 H2 s2 r2.gh
  by_cases hlt:i<ds.length
  ·have ed:ds.drop i=ds[i]::ds.drop (i+1):=List.drop_eq_getElem_cons hlt
   obtain ⟨go,yl⟩:=it1 ds[i] (by simp[hlt])
   rw[ed] at p2
   refine .inr ⟨go,fun σ' H'=>(ds.length-(i+1))=ds.length-(i+1)/\i+1<=ds.length/\∃ G' w' ρ',zb7 G1 G'/\Rel X.K C G' w' ρ' σ' H'/\zbX C.ex (kS X.K C D G' H' w') (zlk g fb (ds.drop (i+1)) ρ'),
    fun σ' H' h=>⟨ds.length-(i+1),by omega,h⟩,fun x H' y=>?_⟩
   obtain ⟨G3,gr,q3⟩:=yl x H' y
   have r3:=r2.grow gr
   have p3:=zbX.step (κ:=fun G H w=>kS X.K C D G H w) zdy gr.step (w1:=w2) p2
   refine ⟨G3,w2,ρ2,ds[i],r3,q3,?_⟩
   unfold zlk at p3
   cases eg:g ds[i] ρ2 with
   |ok ρ3 =>
    rw[eg] at p3
    intro σ4 G4 H4 w4 s4 r4
    have p4:=zbX.step (κ:=fun G H w=>kS X.K C D G H w) zdy s4 p3
    refine ⟨G4,w4,ρ3,r4,?_⟩
    cases eb:fb ρ3 with
    |ok z =>
     obtain ⟨fl,ρ5⟩:=z
     rw[R.bind_ok,eb] at p4
     have sG:zb7 G1 G4:=(s2.trans gr.g).trans s4.g
     cases fl with
     |nx=>exact fun σ6 G6 H6 w6 s6 r6=>⟨rfl,hlt,G6,w6,ρ5,sG.trans s6.g,r6,zbX.step (κ:=fun G H w=>kS X.K C D G H w) zdy s6 p4⟩
     |ct=>exact fun σ6 G6 H6 w6 s6 r6=>⟨rfl,hlt,G6,w6,ρ5,sG.trans s6.g,r6,zbX.step (κ:=fun G H w=>kS X.K C D G H w) zdy s6 p4⟩
     |bk=>exact p4
     |rt v=>exact p4
    |er n=>rw[R.bind_ok,eb] at p4;exact p4
    |no=>rw[R.bind_ok,eb] at p4;exact p4
   |er n=>rw[eg] at p3;exact p3
   |no=>rw[eg] at p3;exact p3
  ·have e:i=ds.length:=by omega
   subst e
   simp only[List.drop_length] at p2
   exact .inl ⟨it2 (Nat.le_refl _),p2 σ2 G2 H2 w2 (.refl _ _ _) r2⟩
def zbg(c:DT)(body:DS):Nat->DS
 |0,_=>.no
 |n+1,ρ=>(c ρ).bind fun t=>if t.1=true then (body t.2).bind fun a=>match a.1 with
   |.nx=>zbg c body n a.2
   |.ct=>zbg c body n a.2
   |.bk=>.ok (.nx,a.2)
   |.rt v=>.ok (.rt v,a.2)
  else .ok (.nx,t.2)
theorem zk8(n:Nat){c:Expr}{body:List Stmt}{tc:DT}{fb:DS}(hp:PassesOwn (model X.prog X.w) X.A X.env X.xe)(hc:JT X C c tc)(hb:JSs X C body fb):JS X C (.While c body [] pos) (zbg tc fb n) :=
 PS.weak (zps hp hc hb) fun D σ H ⟨G,w,ρ,r,p⟩=>by
  refine ⟨fun m σ' H'=>∃ G' w' ρ',Rel X.K C G' w' ρ' σ' H'/\zbX C.ex (kS X.K C D G' H' w') (zbg tc fb m ρ'),⟨n,G,w,ρ,r,p⟩,?_⟩
  rintro m σ1 H1 ⟨G1,w1,ρ1,r1,p1⟩
  cases m with
  |zero=>exact p1.elim
  |succ m =>
   unfold zbg at p1
   refine zrD (κ:=fun G H w=>kS X.K C D G H w) zdy r1 p1 fun b ρ2 G2 H2 w2 r2 s2 p2=>?_
   cases b with
   |false=>exact p2 σ1 G2 H2 w2 (.refl _ _ _) r2
   |true =>
    refine ⟨fun σ' H'=>∃ G' w' ρ',Rel X.K C G' w' ρ' σ' H'/\zbX C.ex (kS X.K C D G' H' w') (zbg tc fb m ρ'),fun σ' H' h=>⟨m,Nat.lt_succ_self _,h⟩,G2,w2,ρ2,r2,?_⟩
    have p2:zbX C.ex (kS X.K C D G2 H2 w2) ((fb ρ2).bind fun a=>match a.1 with
     |.nx=>zbg tc fb m a.2
     |.ct=>zbg tc fb m a.2
     |.bk=>.ok (.nx,a.2)
     |.rt v=>.ok (.rt v,a.2)):=p2
    cases eb:fb ρ2 with
    |ok z =>
     obtain ⟨fl,ρ5⟩:=z
     rw[eb] at p2
     cases fl with
     |nx=>exact fun σ6 G6 H6 w6 s6 r6=>⟨G6,w6,ρ5,r6,zbX.step (κ:=fun G H w=>kS X.K C D G H w) zdy s6 p2⟩
     |ct=>exact fun σ6 G6 H6 w6 s6 r6=>⟨G6,w6,ρ5,r6,zbX.step (κ:=fun G H w=>kS X.K C D G H w) zdy s6 p2⟩
     |bk=>exact p2
     |rt v=>exact p2
    |er n=>rw[eb] at p2;exact p2
    |no=>rw[eb] at p2;exact p2
end
abbrev FD:=List B->R (Dt×List B)
def zmt:B->Bool
 |.val _=>false
 |_=>true
def zbE(bs:List B):List Bool:=bs.map zmt
structure PRel(K:W.Frag)(G H:Hp)(w:Wn)(bs:List B)(vs:List V):Prop where
 gh:zb7 G H
 wg:∀ b,w b≠none->G b=none
 wh:∀ b,w b≠none->H b≠none
 len:bs.length=vs.length
 sl:∀(j:Nat)(b:B)(v:V),bs[j]? = some b->vs[j]? = some v->RB K G H w j v b
structure zpf(K:W.Frag)(G H:Hp)(w:Wn)(ks:List Bool)(bs:List B)(vs:List V):Prop where
 gh:zb7 G H
 wg:∀ b,w b≠none->G b=none
 wh:∀ b,w b≠none->H b≠none
 sl:∀(j:Nat)(v:V),ks[j]? = some true->vs[j]? = some v->∃ b,bs[j]? = some b/\RB K G H w j v b
def zqy(nw:Bool)(K:W.Frag)(xv:Nat->Value)(ks:List Bool)(F:FD):Sp:=fun vs H Q E=>∃ G w bs,vs.length=ks.length/\zbE bs=ks/\PRel K G H w bs vs /\
 match F bs with
 |.ok a=>∀ v G' H' w',zbe G H w G' H' w'->zpf K G' H' w' ks a.2 vs->RtG nw K H G' H' w' a.1 v->Q v H'
 |.er n=>∀ G' H' w',zbe G H w G' H' w'->E (xv n) none H'
 |.no=>False
def EXc(C:Cn):XK:=fun u a H'=>a=none/\∃ n,u=C.xv n/\C.ex n/\∃ G' w',zbe C.G₀ C.H₀ C.w₀ G' H' w'
inductive Arg where
 |d (x:Dt)|s (i:Nat)
def zcP(K:W.Frag)(G:Hp)(σ:L2.St):List Arg->List V->Prop
 |[],vs=>vs=[]
 |.d x::r,vs=>∃ v t,vs=v::t/\Rep K G x v/\zcP K G σ r t
 |.s i::r,vs=>∃ v t,vs=v::t/\σ[i]? = some (some v)/\zcP K G σ r t
theorem zcP.same{K:W.Frag}{G G':Hp}{σ:L2.St}(e:zb7 G G'):∀{as:List Arg}{vs:List V},zcP K G σ as vs->zcP K G' σ as vs
 |[],_,h=>h
 |.d _::_,_,⟨v,t,h1,h2,h3⟩=>⟨v,t,h1,h2.same e,zcP.same e h3⟩
 |.s _::_,_,⟨v,t,h1,h2,h3⟩=>⟨v,t,h1,h2,zcP.same e h3⟩
abbrev DAr:=Ev->R (List Arg×Ev)
def kAr(K:W.Frag)(C:Cn)(σ:L2.St)(Q:List V->Hp->Prop)(G H:Hp)(w:Wn)(a:List Arg×Ev):Prop :=
 ∀ vs G' H' w',zbe G H w G' H' w'->Rel K C G' w' a.2 σ H'->zcP K G' σ a.1 vs->Q vs H'
def tAr(K:W.Frag)(C:Cn)(f:DAr):TA:=fun σ H Q=>∃ G w ρ,Rel K C G w ρ σ H/\zbX C.ex (kAr K C σ Q G H w) (f ρ)
abbrev JAr(X:Cx)(C:Cn)(es:List Expr)(f:DAr):Prop:=PA X es (tAr X.K C f)
theorem zn0{K:W.Frag}{C:Cn}{σ:L2.St}{Q:List V->Hp->Prop}:Stp (fun G H w=>kAr K C σ Q G H w):=fun _ _ _ _ _ _ _ s k v G' H' w' s'=>k v G' H' w' (s.trans s')
theorem zo6{K:W.Frag}{C:Cn}{σ:L2.St}{α:Type}{κ:zoP α}(st:Stp κ){G H:Hp}{w:Wn}{ρ:Ev}{fa:DAr}{g:List Arg×Ev->R α}{Q:List V->Hp->Prop}(r:Rel K C G w ρ σ H)(p:zbX C.ex (κ G H w) ((fa ρ).bind g))
  (k:∀ as ρ1 vs G1 H1 w1,Rel K C G1 w1 ρ1 σ H1->zbe G H w G1 H1 w1->zcP K G1 σ as vs->zbX C.ex (κ G1 H1 w1) (g (as,ρ1))->Q vs H1):tAr K C fa σ H Q:=by
 refine ⟨G,w,ρ,r,?_⟩
 cases e:fa ρ with
 |ok a =>
  rw[e] at p
  intro v G' H' w' s' r' q
  exact k a.1 a.2 v G' H' w' r' s' q (zbX.step st s' p)
 |er n=>rw[e] at p;exact p
 |no=>rw[e] at p;exact p
def dR0:DAr:=fun ρ=>.ok ([],ρ)
def dR(fa:De)(fr:DAr):DAr:=fun ρ=>(fa ρ).bind fun a=>(fr a.2).bind fun b=>.ok (.d a.1::b.1,b.2)
def dRO(i:Nat)(fr:DAr):DAr:=fun ρ=>match ρ[i]? with
 |some (some _)=>(fr ρ).bind fun b=>.ok (.s i::b.1,b.2)
 |_=>.no
section
variable{X:Cx}{C:Cn}{fa:De}{fr:DAr}{pos:Pos}
theorem za9:JAr X C [] dR0:=PA.weak zc8 fun σ H Q ⟨G,w,ρ,r,p⟩=>p _ G H w (.refl _ _ _) r rfl
theorem zao{e:Expr}{es:List Expr}(ha:JE X C e fa)(hr:JAr X C es fr)(hs:starEach (e::es) X.env=(false,eval e X.env)::starEach es X.env:=by rfl):JAr X C (e::es) (dR fa fr) :=
 PA.weak (zaP ha hr hs) fun σ H Q ⟨G,w,ρ,r,p⟩=>by
  refine zeA (κ:=fun G H w=>kAr X.K C σ Q G H w) zn0 r p fun d ρ1 v G1 H1 w1 r1 s1 q1 p1=>?_
  refine zo6 (κ:=fun G H w=>kAr X.K C σ Q G H w) zn0 r1 p1 fun as ρ2 vs G2 H2 w2 r2 s2 q2 p2=>?_
  exact p2 _ G2 H2 w2 (.refl _ _ _) r2 ⟨v,vs,rfl,q1.same s2.g,q2⟩
theorem zeG(i:Nat){x:Str}{ps:Pos}{es:List Expr}(hr:JAr X C es fr)(hN:X.N[i]? = some x:=by rfl)(hv:Vis X.env.scope x:=by first|exact Or.inl rfl|exact Or.inr (Or.inl rfl)|exact Or.inr (Or.inr rfl))(hd:(x == ("__debug__" : Str))=false:=by decide)
  (hcd:(x == ("__classdict__" : Str))=false:=by decide) (hs:starEach (.Name x ps::es) X.env=(false,eval (.Name x ps) X.env)::starEach es X.env:=by rfl):JAr X C (.Name x ps::es) (dRO i fr) :=
 PA.weak (zaP (zbB hN hv hd hcd) hr hs) fun σ H Q ⟨G,w,ρ,r,p⟩=>by
  unfold dRO at p
  split at p
  ·rename_i b e
   obtain ⟨v,h1,_⟩:=r.sl i b e
   refine ⟨v,h1,?_⟩
   refine zo6 (κ:=fun G H w=>kAr X.K C σ Q G H w) zn0 r p fun as ρ2 vs G2 H2 w2 r2 s2 q2 p2=>?_
   exact p2 _ G2 H2 w2 (.refl _ _ _) r2 ⟨v,vs,rfl,h1,q2⟩
  ·exact p.elim
end
def zpC(as:List Arg)(j:Nat):Option Nat:=match as[j]? with
 |some (.s i)=>some i
 |_=>none
def zd7(i:Nat):Nat->List Arg->Option Nat
 |_,[]=>none
 |j,.s i'::r=>if i'=i then some j else zd7 i (j+1) r
 |j,.d _::r=>zd7 i (j+1) r
def zdR(as:List Arg)(i:Nat):Option Nat:=zd7 i 0 as
def zaQ(as:List Arg):Nat->List Arg->Bool
 |_,[]=>true
 |j,.s i::r=>(zdR as i == some j) && zaQ as (j+1) r
 |j,.d _::r=>zaQ as (j+1) r
def zjy(as:List Arg):Bool:=zaQ as 0 as
theorem zeg{as:List Arg}:∀{l:List Arg}{j k:Nat}{i:Nat},zaQ as j l=true->l[k]? = some (.s i)->zdR as i=some (j+k)
 |[],_,_,_,_,e=>by simp at e
 |.s i'::r,j,0,i,h,e=>by
  simp at e;subst e
  unfold zaQ at h
  rw[Bool.and_eq_true] at h
  simpa using h.1
 |.s i'::r,j,k+1,i,h,e=>by
  unfold zaQ at h
  rw[Bool.and_eq_true] at h
  have:=zeg (k:=k) h.2 (by simpa using e)
  rw[this];congr 1;omega
 |.d x::r,j,0,i,h,e=>by simp at e
 |.d x::r,j,k+1,i,h,e=>by
  unfold zaQ at h
  have:=zeg (k:=k) h (by simpa using e)
  rw[this];congr 1;omega
theorem zfc{i:Nat}:∀{l:List Arg}{j m:Nat},zd7 i j l=some m->∃ k,m=j+k/\l[k]? = some (.s i)
 |[],_,_,h=>by simp[zd7] at h
 |.s i'::r,j,m,h=>by
  unfold zd7 at h
  split at h
  ·rename_i e;subst e;cases h;exact ⟨0,rfl,rfl⟩
  ·obtain ⟨k,h1,h2⟩:=zfc h
   exact ⟨k+1,by omega,by simpa using h2⟩
 |.d x::r,j,m,h=>by
  unfold zd7 at h
  obtain ⟨k,h1,h2⟩:=zfc h
  exact ⟨k+1,by omega,by simpa using h2⟩
theorem zoO{as:List Arg}{i j:Nat}(h:zdR as i=some j):as[j]? = some (.s i):=by
 obtain ⟨k,h1,h2⟩:=zfc h
 have:j=k:=by omega
 subst this;exact h2
theorem zkZ{as:List Arg}{i j:Nat}(u:zjy as=true)(h:as[j]? = some (.s i)):zdR as i=some j:=by
 have:=zeg (j:=0) u h
 simpa using this
def zax(ρ:Ev):List Arg->R (List B)
 |[]=>.ok []
 |.d x::r=>(zax ρ r).bind fun bs=>.ok (.val x::bs)
 |.s i::r=>match ρ[i]? with
  |some (some b)=>if zmt b=true then (zax ρ r).bind fun bs=>.ok (b::bs) else .no
  |_=>.no
def zg1(as:List Arg)(bs:List B):Nat->Ev->Ev
 |_,[]=>[]
 |i,o::r=>(match zdR as i with|some j=>bs[j]?|none=>o)::zg1 as bs (i+1) r
theorem zk9{as:List Arg}{bs:List B}:∀{ρ:Ev}{k i:Nat},(zg1 as bs k ρ)[i]? = ρ[i]?.map fun o=>match zdR as (k+i) with|some j=>bs[j]?|none=>o
 |[],_,_=>by simp[zg1]
 |o::r,k,0=>by simp[zg1]
 |o::r,k,i+1=>by
  have:=zk9 (as:=as) (bs:=bs) (ρ:=r) (k:=k+1) (i:=i)
  simp only[zg1,List.getElem?_cons_succ]
  rw[this]
  have e:k+1+i=k+(i+1):=by omega
  rw[e]
theorem zkY{as:List Arg}{bs:List B}:∀{ρ:Ev}{k:Nat},(zg1 as bs k ρ).length = ρ.length
 |[],_=>rfl
 |o::r,k=>by simp[zg1,zkY (ρ:=r)]
def zal(F:FD)(fa:DAr):De:=fun ρ=>(fa ρ).bind fun a=>if zjy a.1=true then (zax a.2 a.1).bind fun bs=>(F bs).bind fun z=>.ok (z.1,zg1 a.1 z.2 0 a.2) else .no
theorem zdx{ρ:Ev}:∀{as:List Arg}{bs:List B}{j i:Nat},zax ρ as=.ok bs->as[j]? = some (.s i)->∃ b,ρ[i]? = some (some b)/\bs[j]? = some b/\zmt b=true
 |[],bs,j,i,h,e=>by simp at e
 |.d x::r,bs,j,i,h,e=>by
  unfold zax at h
  cases q:zax ρ r with
  |ok l =>
   rw[q] at h;simp only[R.bind_ok,R.ok.injEq] at h;subst h
   cases j with
   |zero=>simp at e
   |succ j =>
    obtain ⟨b,h1,h2,h3⟩:=zdx (j:=j) q (by simpa using e)
    exact ⟨b,h1,by simpa using h2,h3⟩
  |er n=>rw[q] at h;simp at h
  |no=>rw[q] at h;simp at h
 |.s i'::r,bs,j,i,h,e=>by
  unfold zax at h
  split at h
  ·rename_i b eb
   split at h
   ·rename_i ob
    cases q:zax ρ r with
    |ok l =>
     rw[q] at h;simp only[R.bind_ok,R.ok.injEq] at h;subst h
     cases j with
     |zero=>simp at e;subst e;exact ⟨b,eb,rfl,ob⟩
     |succ j =>
      obtain ⟨b,h1,h2,h3⟩:=zdx (j:=j) q (by simpa using e)
      exact ⟨b,h1,by simpa using h2,h3⟩
    |er n=>rw[q] at h;simp at h
    |no=>rw[q] at h;simp at h
   ·cases h
  ·cases h
theorem zdL{ρ:Ev}:∀{as:List Arg}{n:Nat},zax ρ as≠.er n
 |[],n,h=>by simp[zax] at h
 |.d x::r,n,h=>by
  unfold zax at h
  cases q:zax ρ r with
  |ok l=>rw[q] at h;simp at h
  |er m=>exact zdL q
  |no=>rw[q] at h;simp at h
 |.s i::r,n,h=>by
  unfold zax at h
  split at h
  ·split at h
   ·cases q:zax ρ r with
    |ok l=>rw[q] at h;simp at h
    |er m=>exact zdL q
    |no=>rw[q] at h;simp at h
   ·cases h
  ·cases h
def wIn(w:Wn)(as:List Arg):Wn:=fun b=>(w b).bind (zdR as)
def zn9(w w':Wn)(as:List Arg):Wn:=fun b=>match w' b with
 |some j=>zpC as j
 |none=>if (w b).bind (zdR as)=none then w b else none
section
variable{K:W.Frag}{C:Cn}{σ:L2.St}{G H:Hp}{w:Wn}{ρ:Ev}
theorem zh7(r:Rel K C G w ρ σ H):∀{as l:List Arg}{vs:List V}{bs:List B}{k j:Nat}{b:B}{v:V},(∀ m i,l[m]? = some (.s i)->zdR as i=some (k+m))->zcP K G σ l vs->zax ρ l=.ok bs->bs[j]? = some b->vs[j]? = some v->RB K G H (wIn w as) (k+j) v b
 |as,[],vs,bs,k,j,b,v,hu,ha,hr,hb,hv=>by simp[zax] at hr;subst hr;simp at hb
 |as,.d x::l,vs,bs,k,j,b,v,hu,ha,hr,hb,hv=>by
  obtain ⟨v0,t,rfl,h2,h3⟩:=ha
  unfold zax at hr
  cases q:zax ρ l with
  |ok l' =>
   rw[q] at hr;simp only[R.bind_ok,R.ok.injEq] at hr;subst hr
   cases j with
   |zero=>simp at hb hv;subst hb;subst hv;exact h2
   |succ j =>
    have:=zh7 r (as:=as) (k:=k+1) (j:=j) (fun m i e=>by rw[hu (m+1) i (by simpa using e)];congr 1;omega) h3 q (by simpa using hb) (by simpa using hv)
    have e:k+1+j=k+(j+1):=by omega
    rw[e] at this;exact this
  |er n=>rw[q] at hr;simp at hr
  |no=>rw[q] at hr;simp at hr
 |as,.s i::l,vs,bs,k,j,b,v,hu,ha,hr,hb,hv=>by
  obtain ⟨v0,t,rfl,h2,h3⟩:=ha
  unfold zax at hr
  split at hr
  ·rename_i b0 eb
   split at hr
   ·rename_i ob
    cases q:zax ρ l with
    |ok l' =>
     rw[q] at hr;simp only[R.bind_ok,R.ok.injEq] at hr;subst hr
     cases j with
     |zero =>
      simp at hb hv;subst hb;subst hv
      obtain ⟨v1,h4,h5⟩:=r.sl i _ eb
      rw[h2] at h4;cases h4
      exact h5.grow (.refl _) fun a o e1 e2=>⟨e2,by unfold wIn;rw[e1];exact hu 0 i rfl⟩
     |succ j =>
      have:=zh7 r (as:=as) (k:=k+1) (j:=j) (fun m i e=>by rw[hu (m+1) i (by simpa using e)];congr 1;omega) h3 q (by simpa using hb) (by simpa using hv)
      have e:k+1+j=k+(j+1):=by omega
      rw[e] at this;exact this
    |er n=>rw[q] at hr;simp at hr
    |no=>rw[q] at hr;simp at hr
   ·cases hr
  ·cases hr
theorem zf1:∀{as:List Arg}{vs:List V}{bs:List B},zcP K G σ as vs->zax ρ as=.ok bs->bs.length=vs.length
 |[],vs,bs,ha,hr=>by simp[zax] at hr;subst hr;cases ha;rfl
 |.d x::l,vs,bs,ha,hr=>by
  obtain ⟨v0,t,rfl,h2,h3⟩:=ha
  unfold zax at hr
  cases q:zax ρ l with
  |ok l'=>rw[q] at hr;simp only[R.bind_ok,R.ok.injEq] at hr;subst hr;simp[zf1 h3 q]
  |er n=>rw[q] at hr;simp at hr
  |no=>rw[q] at hr;simp at hr
 |.s i::l,vs,bs,ha,hr=>by
  obtain ⟨v0,t,rfl,h2,h3⟩:=ha
  unfold zax at hr
  split at hr
  ·split at hr
   ·cases q:zax ρ l with
    |ok l'=>rw[q] at hr;simp only[R.bind_ok,R.ok.injEq] at hr;subst hr;simp[zf1 h3 q]
    |er n=>rw[q] at hr;simp at hr
    |no=>rw[q] at hr;simp at hr
   ·cases hr
  ·cases hr
theorem zfQ:∀{as:List Arg}{vs:List V}{j i:Nat},zcP K G σ as vs->as[j]? = some (.s i)->∃ v,vs[j]? = some v/\σ[i]? = some (some v)
 |[],_,_,_,_,e=>by simp at e
 |.d x::l,vs,j,i,ha,e=>by
  obtain ⟨v0,t,rfl,h2,h3⟩:=ha
  cases j with
  |zero=>simp at e
  |succ j=>obtain ⟨v,e1,e2⟩:=zfQ (j:=j) h3 (by simpa using e);exact ⟨v,by simpa using e1,e2⟩
 |.s i'::l,vs,j,i,ha,e=>by
  obtain ⟨v0,t,rfl,h2,h3⟩:=ha
  cases j with
  |zero=>simp at e;subst e;exact ⟨v0,rfl,h2⟩
  |succ j=>obtain ⟨v,e1,e2⟩:=zfQ (j:=j) h3 (by simpa using e);exact ⟨v,by simpa using e1,e2⟩
theorem Rel.back{as:List Arg}{vs:List V}{bs bs':List B}{ks:List Bool}{G' H':Hp}{w':Wn}(r:Rel K C G w ρ σ H)(u:zjy as=true)(ha:zcP K G σ as vs)(hr:zax ρ as=.ok bs)(hk:zbE bs=ks)
  (s:zbe G H (wIn w as) G' H' w') (pb:zpf K G' H' w' ks bs' vs):Rel K C G' (zn9 w w' as) (zg1 as bs' 0 ρ) σ H'/\zbe G H w G' H' (zn9 w w' as):=by
 have wi:∀ b,wIn w as b≠none->w b≠none:=fun b e z=>e (by unfold wIn;rw[z];rfl)
 have wi2:∀ b,w b=none->wIn w as b=none:=fun b z=>by unfold wIn;rw[z];rfl
 have st:zbe G H w G' H' (zn9 w w' as):=by
  refine ⟨s.g,fun b o e=>?_,fun b o e z=>s.h b o e (wi2 b z),fun b e=>?_,s.k⟩
  ·rcases s.fr b o e with q|q|q
   ·exact .inl q
   ·exact .inr (.inl q)
   ·exact .inr (.inr (wi b q))
  ·unfold zn9 at e
   split at e
   ·rename_i j ej
    rcases s.w b (by rw[ej];simp) with q|q
    ·exact .inl (wi b q)
    ·exact .inr q
   ·split at e
    ·exact .inl e
    ·exact absurd rfl e
 have keep:∀ a o,w a≠none->(w a).bind (zdR as)=none->H a=some o->H' a=some o/\w' a=none/\G' a=none:=fun a o e1 e2 e3=>by
  have e4:wIn w as a=none:=e2
  have e5:=s.h a o e3 e4
  have e6:w' a=none:=by
   cases q:w' a with
   |none=>rfl
   |some j =>
    rcases s.w a (by rw[q];simp) with z|z
    ·exact absurd e4 z
    ·rw[e3] at z;cases z
  refine ⟨e5,e6,?_⟩
  cases q:G' a with
  |none=>rfl
  |some o' =>
   rcases s.fr a o' q with z|z|z
   ·exact absurd (r.wg a e1) z
   ·rw[e3] at z;cases z
   ·exact absurd e4 z
 refine ⟨⟨pb.gh,fun b e=>?_,fun b e=>?_,by rw[zkY];exact r.len,fun i b e=>?_,r.en.trans st,r.pin⟩,st⟩
 ·unfold zn9 at e
  split at e
  ·rename_i j ej
   exact pb.wg b (by rw[ej];simp)
  ·split at e
   ·rename_i e2
    cases q:H b with
    |none=>exact absurd q (r.wh b e)
    |some o=>exact (keep b o e e2 q).2.2
   ·exact absurd rfl e
 ·unfold zn9 at e
  split at e
  ·rename_i j ej
   exact pb.wh b (by rw[ej];simp)
  ·split at e
   ·rename_i e2
    cases q:H b with
    |none=>exact absurd q (r.wh b e)
    |some o=>rw[(keep b o e e2 q).1];simp
   ·exact absurd rfl e
 ·rw[zk9,Nat.zero_add] at e
  cases q:zdR as i with
  |some j =>
   have ej:=zoO q
   obtain ⟨v,e1,e2⟩:=zfQ ha ej
   obtain ⟨b0,h1,h2,h3⟩:=zdx hr ej
   have hkj:ks[j]? = some true:=by rw[<- hk];unfold zbE;rw[List.getElem?_map,h2];simp[h3]
   obtain ⟨b',h4,h5⟩:=pb.sl j v hkj e1
   rw[h1] at e
   simp only[q,Option.map_some] at e
   rw[h4] at e
   have e':b'=b:=by simpa using e
   subst e'
   refine ⟨v,e2,h5.grow (.refl _) fun a o q1 q2=>⟨q2,?_⟩⟩
   unfold zn9 zpC
   rw[q1];simp only;rw[ej]
  |none =>
   cases e1:ρ[i]? with
   |none=>rw[e1] at e;simp at e
   |some o0 =>
    rw[e1] at e
    simp only[q,Option.map_some,Option.some.injEq] at e
    subst e
    obtain ⟨v,h1,h2⟩:=r.sl i b e1
    refine ⟨v,h1,h2.grow s.g fun a o q1 q2=>?_⟩
    have z:(w a).bind (zdR as)=none:=by rw[q1];exact q
    obtain ⟨k1,k2,_⟩:=keep a o (by rw[q1];simp) z q2
    refine ⟨k1,?_⟩
    unfold zn9
    rw[k2];simp only;rw[if_pos z];exact q1
end
section
variable{X:Cx}{C:Cn}{CX:CXT}{k:Nat}{f:Addr}{fd:FuncData}{ps:List Str}{ks:List Bool}{Fd:FD}{x:Str}{p pos:Pos}{e:Expr}{es:List Expr}{far:DAr}
theorem zmK{σ:L2.St}{H:Hp}{Q:VK}(h:tE X.K C (zal Fd far) σ H Q)(hks:∀ bs,Fd bs≠.no->zbE bs=ks):zq2 (zqy false X.K C.xv ks Fd) [] (EXc C) (tAr X.K C far) σ H Q:=by
 obtain ⟨G,w,ρ,r,p⟩:=h
 refine zo6 (κ:=fun G H w=>kE X.K C σ Q G H w) zcz r p fun as ρ1 vs G1 H1 w1 r1 s1 q1 p1=>?_
 rw[List.append_nil]
 by_cases hu:zjy as=true
 ·simp only[hu,if_true] at p1
  cases er:zax ρ1 as with
  |ok bs =>
   rw[er,R.bind_ok] at p1
   have hk:zbE bs=ks:=by
    refine hks bs fun z=>?_
    rw[z] at p1;exact p1
   have hl:bs.length=vs.length:=zf1 q1 er
   refine ⟨G1,wIn w1 as,bs,by rw[<- hk,<- hl];simp[zbE],hk,⟨r1.gh,fun b e=>r1.wg b fun z=>e (by unfold wIn;rw[z];rfl),fun b e=>r1.wh b fun z=>e (by unfold wIn;rw[z];rfl),hl,fun j b v e1 e2=>?_⟩,?_⟩
   ·have:=zh7 r1 (as:=as) (k:=0) (j:=j) (fun m i e=>by rw[Nat.zero_add];exact zkZ hu e) q1 er e1 e2
    rw[Nat.zero_add] at this;exact this
   ·cases ef:Fd bs with
    |ok z =>
     rw[ef,R.bind_ok] at p1
     intro v G' H' w' s' pb q
     obtain ⟨r',st⟩:=r1.back hu q1 er hk s' pb
     exact p1 v G' H' _ st r' q
    |er n =>
     rw[ef] at p1
     intro G' H' w' s'
     refine ⟨rfl,n,rfl,p1,G',fun _=>none,r1.en.trans ⟨s'.g,fun b o e=>?_,fun b o e z=>s'.h b o e (by unfold wIn;rw[z];rfl),fun b e=>absurd rfl e,s'.k⟩⟩
     rcases s'.fr b o e with q|q|q
     ·exact .inl q
     ·exact .inr (.inl q)
     ·exact .inr (.inr fun z=>q (by unfold wIn;rw[z];rfl))
    |no=>rw[ef] at p1;exact p1.elim
  |er n=>exact absurd er zdL
  |no=>rw[er] at p1;exact p1.elim
 ·simp only[hu] at p1;exact p1.elim
theorem zrv(F:zeJ X.prog X.w X.K X.mg X.base CX k f fd ps (zqy false X.K C.xv ks Fd))(hr:zds k X.A)(hg:Gl X x)(hm:X.mg x=some (.ref f))(hk:W.keepIn X.K (.ref f)=true)(hb:zeO X.K fd ps [])(hx:zc9 CX X (EXc C))(hks:∀ bs,Fd bs≠.no->zbE bs=ks)
  (ha:JAr X C (e::es) far) (hdb:(x == ("__debug__" : Str))=false:=by decide) (he:starEach (e::es) X.env=(false,eval e X.env)::starEach es X.env:=by rfl) (hpl:(backTo pos (starEach es X.env)).any (·.1)=false:=by rfl) :
  JE X C (.Call (.Name x p) (e::es) [] pos) (zal Fd far) :=
 PE.weak (zjH F hr hg hm hk hb .nil hx ha hdb he hpl) fun σ H Q h=>zmK h hks
def zcc(F:FD)(fa:DAr):DN:=fun ρ=>(fa ρ).bind fun a=>if zjy a.1=true then (zax a.2 a.1).bind fun bs=>(F bs).bind fun z=>match z.1 with
  |.lst l=>.ok (l,zg1 a.1 z.2 0 a.2)
  |_=>.no
 else .no
theorem zlr{σ:L2.St}{H:Hp}{Q:VK}(h:tN X.K C (zcc Fd far) σ H Q)(hks:∀ bs,Fd bs≠.no->zbE bs=ks):zq2 (zqy true X.K C.xv ks Fd) [] (EXc C) (tAr X.K C far) σ H Q:=by
 obtain ⟨G,w,ρ,r,p⟩:=h
 refine zo6 (κ:=fun G H w=>kN X.K C σ Q G H w) zeU r p fun as ρ1 vs G1 H1 w1 r1 s1 q1 p1=>?_
 rw[List.append_nil]
 by_cases hu:zjy as=true
 ·simp only[hu,if_true] at p1
  cases er:zax ρ1 as with
  |ok bs =>
   rw[er,R.bind_ok] at p1
   have hk:zbE bs=ks:=by
    refine hks bs fun z=>?_
    rw[z] at p1;exact p1
   have hl:bs.length=vs.length:=zf1 q1 er
   refine ⟨G1,wIn w1 as,bs,by rw[<- hk,<- hl];simp[zbE],hk,⟨r1.gh,fun b e=>r1.wg b fun z=>e (by unfold wIn;rw[z];rfl),fun b e=>r1.wh b fun z=>e (by unfold wIn;rw[z];rfl),hl,fun j b v e1 e2=>?_⟩,?_⟩
   ·have:=zh7 r1 (as:=as) (k:=0) (j:=j) (fun m i e=>by rw[Nat.zero_add];exact zkZ hu e) q1 er e1 e2
    rw[Nat.zero_add] at this;exact this
   ·cases ef:Fd bs with
    |ok z =>
     rw[ef,R.bind_ok] at p1
     intro v G' H' w' s' pb q
     obtain ⟨r',st⟩:=r1.back hu q1 er hk s' pb
     obtain ⟨l,pp,us,e1,e2,e3,e4,e5,e6,e7⟩:=q
     subst e2
     rw[e1] at p1
     refine p1 pp us G' H' _ st r' e3 e4 e5 ?_ e7
     have w1p:w1 pp=none:=by
      cases zz:w1 pp with
      |none=>rfl
      |some k=>exact absurd e3 (r1.wh pp (by rw[zz];simp))
     unfold zn9
     rw[e6,w1p];rfl
    |er n =>
     rw[ef] at p1
     intro G' H' w' s'
     refine ⟨rfl,n,rfl,p1,G',fun _=>none,r1.en.trans ⟨s'.g,fun b o e=>?_,fun b o e z=>s'.h b o e (by unfold wIn;rw[z];rfl),fun b e=>absurd rfl e,s'.k⟩⟩
     rcases s'.fr b o e with q|q|q
     ·exact .inl q
     ·exact .inr (.inl q)
     ·exact .inr (.inr fun z=>q (by unfold wIn;rw[z];rfl))
    |no=>rw[ef] at p1;exact p1.elim
  |er n=>exact absurd er zdL
  |no=>rw[er] at p1;exact p1.elim
 ·simp only[hu] at p1;exact p1.elim
theorem zqj(F:zeJ X.prog X.w X.K X.mg X.base CX k f fd ps (zqy true X.K C.xv ks Fd))(hr:zds k X.A)(hg:Gl X x)(hm:X.mg x=some (.ref f))(hk:W.keepIn X.K (.ref f)=true)(hb:zeO X.K fd ps [])(hx:zc9 CX X (EXc C))(hks:∀ bs,Fd bs≠.no->zbE bs=ks)
  (ha:JAr X C (e::es) far) (hdb:(x == ("__debug__" : Str))=false:=by decide) (he:starEach (e::es) X.env=(false,eval e X.env)::starEach es X.env:=by rfl) (hpl:(backTo pos (starEach es X.env)).any (·.1)=false:=by rfl) :
  JN X C (.Call (.Name x p) (e::es) [] pos) (zcc Fd far) :=
 PE.weak (zjH F hr hg hm hk hb .nil hx ha hdb he hpl) fun σ H Q h=>zlr h hks
def za4:List Bool->Ev->R (List B)
 |[],_=>.ok []
 |false::ks,_::ρ=>(za4 ks ρ).bind fun l=>.ok (.val .non::l)
 |true::ks,some b::ρ=>(za4 ks ρ).bind fun l=>.ok (b::l)
 |_,_=>.no
def za2(nw:Bool)(ks:List Bool)(m:Nat)(body:DS):FD:=fun bs=>if zbE bs=ks then (body (bs.map some++List.replicate m none)).bind fun a=>match a.1 with
  |.nx=>if nw=true then .no else (za4 ks a.2).bind fun l=>.ok (.non,l)
  |.rt d=>(za4 ks a.2).bind fun l=>.ok (d,l)
  |_=>.no
 else .no
theorem za8{nw:Bool}{ks:List Bool}{m:Nat}{body:DS}:∀ bs,za2 nw ks m body bs≠.no->zbE bs=ks:=fun bs h=>by
 unfold za2 at h
 by_cases e:zbE bs=ks
 ·exact e
 ·rw[if_neg e] at h;exact absurd rfl h
theorem zec:∀{ks:List Bool}{ρ:Ev}{l:List B}{j:Nat},za4 ks ρ=.ok l->ks[j]? = some true->∃ b,l[j]? = some b/\ρ[j]? = some (some b)
 |[],_,_,_,_,e=>by simp at e
 |false::ks,[],l,j,h,e=>by simp[za4] at h
 |true::ks,[],l,j,h,e=>by simp[za4] at h
 |false::ks,o::ρ,l,j,h,e=>by
  unfold za4 at h
  cases q:za4 ks ρ with
  |ok l' =>
   rw[q] at h;simp only[R.bind_ok,R.ok.injEq] at h;subst h
   cases j with
   |zero=>simp at e
   |succ j=>obtain ⟨b,h1,h2⟩:=zec (j:=j) q (by simpa using e);exact ⟨b,by simpa using h1,by simpa using h2⟩
  |er n=>rw[q] at h;simp at h
  |no=>rw[q] at h;simp at h
 |true::ks,none::ρ,l,j,h,e=>by simp[za4] at h
 |true::ks,some b::ρ,l,j,h,e=>by
  unfold za4 at h
  cases q:za4 ks ρ with
  |ok l' =>
   rw[q] at h;simp only[R.bind_ok,R.ok.injEq] at h;subst h
   cases j with
   |zero=>exact ⟨b,rfl,rfl⟩
   |succ j=>obtain ⟨b,h1,h2⟩:=zec (j:=j) q (by simpa using e);exact ⟨b,by simpa using h1,by simpa using h2⟩
  |er n=>rw[q] at h;simp at h
  |no=>rw[q] at h;simp at h
theorem zdI:∀{ks:List Bool}{ρ:Ev}{n:Nat},za4 ks ρ≠.er n
 |[],_,_,h=>by simp[za4] at h
 |false::ks,[],n,h=>by simp[za4] at h
 |true::ks,[],n,h=>by simp[za4] at h
 |false::ks,o::ρ,n,h=>by
  unfold za4 at h
  cases q:za4 ks ρ with
  |ok l'=>rw[q] at h;simp at h
  |er m=>exact zdI q
  |no=>rw[q] at h;simp at h
 |true::ks,none::ρ,n,h=>by simp[za4] at h
 |true::ks,some b::ρ,n,h=>by
  unfold za4 at h
  cases q:za4 ks ρ with
  |ok l'=>rw[q] at h;simp at h
  |er m=>exact zdI q
  |no=>rw[q] at h;simp at h
def zaJ(ks:List Bool):List Nat:=(List.range ks.length).filter fun j=>ks[j]? == some true
def zpT(CX:CXT)(P:Program)(w:World)(K:W.Frag)(mg:Str->Option Value)(base:Heap):Prop :=
 ∀(N:List Str)(qual:Str)(scope:Scope)(f:Addr)(cdv:Value)(A:Around)(outer:List Env)(s:Shared)(H:Hp)(E E':XK),scope.kind=.function->(∀ u a H',E' u a H'->E u a H') ->
  zc9 CX (zjK CX P w K mg base N qual scope f cdv A outer s H E) E'
theorem zaZ{P:Program}{w:World}{K:W.Frag}{mg:Str->Option Value}{base:Heap}{xq qual:Str}{st:Stmt}{N:List Str}{xv:Nat->Value}{m:Nat}{fb:DS}(nw:Bool)(lv:zpT CX P w K mg base)(F:Fun K xq qual st f fd)(S:za6 N ps (zak st))(hl:ps.length=ks.length)(hm:N.length=ks.length+m)
  (hbody:∀(X:Cx)(C:Cn),(∃ cdv A outer s H E,X=zjK CX P w K mg base N qual (zak st) f cdv A outer s H E)->C.pp=zaJ ks->C.xv=xv->C.nw=nw->zds k X.A->zc9 CX X (EXc C)->PassesOwn (model X.prog X.w) X.A X.env X.xe->JSs X C (zbZ st) fb) :
  zeJ P w K mg base CX (k+1) f fd ps (zqy nw K xv ks (za2 nw ks m fb)):=by
 obtain ⟨oc,od,kV,doc,pm,an,cdv,ct,osl,rfl,lk,hcd⟩:=F.ex
 refine zrl lk hcd S (fun vs H Q E ⟨_,_,_,h,_⟩=>h.trans hl.symm) fun A outer s H vs Q E hr hsp=>?_
 obtain ⟨G,w0,bs,hv,hk,pr,hF⟩:=hsp
 let X:=zjK CX P w K mg base N qual (zak st) f cdv A outer s H E
 let C:Cn:=⟨G,H,w0,zaJ ks,L2.start N vs,fun n=>za2 nw ks m fb bs=.er n,xv,nw⟩
 have hE:∀ u a H',EXc C u a H'->E u a H':=fun u a H' ⟨ea,n,eu,en,G',w',s'⟩=>by
  subst ea;subst eu
  have en':za2 nw ks m fb bs=.er n:=en
  rw[en'] at hF
  exact hF G' H' w' s'
 have hb:=hbody X C ⟨cdv,A,outer,s,H,E,rfl⟩ rfl rfl rfl hr (lv N qual (zak st) f cdv A outer s H E (EXc C) S.kind hE) PassesOwn.leaving
 refine ⟨_,hb,G,w0,bs.map some++List.replicate m none,?_,?_⟩
 ·refine ⟨pr.gh,pr.wg,pr.wh,?_,fun i b e=>?_,.refl _ _ _,fun i _=>rfl⟩
  ·unfold L2.start
   simp only[List.length_append,List.length_map,List.length_replicate]
   have:=pr.len
   omega
  ·have hi:i<bs.length:=by
    by_cases hi:i<bs.length
    ·exact hi
    ·rw[List.getElem?_append_right (by simpa using hi),List.getElem?_replicate] at e
     split at e <;> cases e
   rw[List.getElem?_append_left (by simpa using hi),List.getElem?_map] at e
   have eb:bs[i]? = some b:=by
    cases q:bs[i]? with
    |none=>rw[q] at e;cases e
    |some z=>rw[q] at e;cases e;rfl
   have hiv:i<vs.length:=by rw[<- pr.len];exact hi
   refine ⟨vs[i],?_,pr.sl i b vs[i] eb (by simp[hiv])⟩
   unfold L2.start
   rw[List.getElem?_append_left (by simpa using hiv),List.getElem?_map]
   simp[hiv]
 ·have hF':match za2 nw ks m fb bs with
   |.ok a=>∀ v G' H' w',zbe G H w0 G' H' w'->zpf K G' H' w' ks a.2 vs->RtG nw K H G' H' w' a.1 v->Q v H'
   |.er n=>∀ G' H' w',zbe G H w0 G' H' w'->E (xv n) none H'
   |.no=>False:=hF
  have er:za2 nw ks m fb bs=(fb (bs.map some++List.replicate m none)).bind fun a=>match a.1 with
   |.nx=>if nw=true then .no else (za4 ks a.2).bind fun l=>.ok (.non,l)
   |.rt d=>(za4 ks a.2).bind fun l=>.ok (d,l)
   |_=>.no:=by unfold za2;rw[if_pos hk]
  have back:∀{ρ':Ev}{l:List B}{σ':L2.St}{G' H':Hp}{w':Wn},za4 ks ρ'=.ok l->Rel K C G' w' ρ' σ' H'->zpf K G' H' w' ks l vs:=fun {ρ' l σ' G' H' w'} eb r'=>by
   refine ⟨r'.gh,r'.wg,r'.wh,fun j v e1 e2=>?_⟩
   obtain ⟨b,h1,h2⟩:=zec eb e1
   obtain ⟨v',h3,h4⟩:=r'.sl j b h2
   have hj:j<ks.length:=(List.getElem?_eq_some_iff.mp e1).1
   have hp:σ'[j]? = (L2.start N vs)[j]? := r'.pin j (by
    show j∈zaJ ks
    unfold zaJ
    rw[List.mem_filter]
    exact ⟨List.mem_range.mpr hj,by simp[e1]⟩)
   have hs:(L2.start N vs)[j]? = some (some v):=by
    unfold L2.start
    rw[List.getElem?_append_left (by simpa using (List.getElem?_eq_some_iff.mp e2).1),List.getElem?_map,e2];rfl
   rw[hp,hs] at h3;cases h3
   exact ⟨b,h1,h4⟩
  cases ef:fb (bs.map some++List.replicate m none) with
  |ok z =>
   obtain ⟨fl,ρ'⟩:=z
   rw[ef,R.bind_ok] at er
   cases fl with
   |nx =>
    cases nw with
    |true=>rw[er] at hF';exact hF'.elim
    |false =>
     intro σ' G' H' w' s' r'
     have er:za2 false ks m fb bs=(za4 ks ρ').bind fun l=>.ok (.non,l):=er
     cases eb:za4 ks ρ' with
     |ok l =>
      rw[er] at hF';simp only[eb,R.bind_ok] at hF'
      exact hF' _ G' H' w' s' (back eb r') (by unfold RtG Rep;rfl)
     |er n=>exact absurd eb zdI
     |no=>rw[er] at hF';simp only[eb,R.bind_no] at hF'
   |rt d =>
    intro v σ' G' H' w' s' r' q
    cases eb:za4 ks ρ' with
    |ok l =>
     rw[er] at hF';simp only[eb,R.bind_ok] at hF'
     exact hF' _ G' H' w' s' (back eb r') q
    |er n=>exact absurd eb zdI
    |no=>rw[er] at hF';simp only[eb,R.bind_no] at hF'
   |bk=>rw[er] at hF';exact hF'.elim
   |ct=>rw[er] at hF';exact hF'.elim
  |er n =>
   show za2 nw ks m fb bs=.er n
   rw[er,ef];rfl
  |no=>rw[er,ef] at hF';exact hF'.elim
end
mutual
def zeb:Dt->PyData
 |.non=>.none
 |.bl b=>.bool b
 |.int i=>.int i
 |.str x=>.str x
 |.tup l=>.tuple (zdQ l)
 |.lst l=>.list (zdQ l)
 |.dct _=>.dict []
 |.scr ns=>.list (ns.map .int)
def zdQ:List Dt->List PyData
 |[]=>[]
 |d::ds=>zeb d::zdQ ds
end
def okN:Nat->Dt->Bool
 |_,.non=>true
 |_,.bl _=>true
 |_,.int _=>true
 |_,.str x=>PySem.PyData.strOk x
 |0,.tup _=>false
 |0,.lst _=>false
 |n+1,.tup l=>l.all (okN n)
 |n+1,.lst l=>l.all (okN n)
 |_,.dct _=>false
 |_,.scr _=>false
mutual
def eqD:Dt->Dt->Bool
 |.non,.non=>true
 |.bl a,.bl b=>a == b
 |.bl a,.int j=>(if a then 1 else 0) == j
 |.int i,.bl b=>i == (if b then 1 else 0)
 |.int i,.int j=>i == j
 |.str x,.str y=>x == y
 |.lst xs,.lst ys=>zi3 xs ys
 |.tup xs,.tup ys=>zi3 xs ys
 |_,_=>false
def zi3:List Dt->List Dt->Bool
 |[],[]=>true
 |x::xs,y::ys=>eqD x y && zi3 xs ys
 |_,_=>false
end
theorem zhh{n:Nat}(ih:∀ d,okN n d=true->(zeb d).canLay0=true/\(zeb d).depth<=n):∀ l:List Dt,l.all (okN n)=true->PyData.canLayAll0 (zdQ l)=true/\PyData.depthAll (zdQ l)<=n
 |[],_=>by simp[zdQ,PyData.canLayAll0,PyData.depthAll]
 |d::ds,h=>by
  simp only[List.all_cons,Bool.and_eq_true] at h
  obtain ⟨h1,h2⟩:=ih d h.1
  obtain ⟨h3,h4⟩:=zhh ih ds h.2
  simp only[zdQ,PyData.canLayAll0,PyData.depthAll,h1,h3,Bool.and_self,true_and]
  omega
theorem ziN:∀(n:Nat)(d:Dt),okN n d=true->(zeb d).canLay0=true/\(zeb d).depth<=n
 |n,.non,_=>by simp[zeb,PyData.canLay0,PyData.depth]
 |n,.bl _,_=>by simp[zeb,PyData.canLay0,PyData.depth]
 |n,.int _,_=>by simp[zeb,PyData.canLay0,PyData.depth]
 |n,.str x,h=>by
  have h:PySem.PyData.strOk x=true:=by cases n <;> simpa [okN] using h
  simp[zeb,PyData.canLay0,PyData.depth,h]
 |0,.tup _,h=>by simp[okN] at h
 |0,.lst _,h=>by simp[okN] at h
 |n+1,.tup l,h=>by
  obtain ⟨h1,h2⟩:=zhh (ziN n) l (by simpa [okN] using h)
  simp only[zeb,PyData.canLay0,PyData.depth,h1,true_and];omega
 |n+1,.lst l,h=>by
  obtain ⟨h1,h2⟩:=zhh (ziN n) l (by simpa [okN] using h)
  simp only[zeb,PyData.canLay0,PyData.depth,h1,true_and];omega
 |n,.dct _,h=>by cases n <;> simp[okN] at h
 |n,.scr _,h=>by cases n <;> simp[okN] at h
mutual
theorem zla:∀(n:Nat)(x y:Dt),okN n x=true->okN n y=true->PyData.eqv (zeb x) (zeb y)=eqD x y
 |n,.non,y,h,h'=>by cases y <;> first|(cases n <;> simp[okN] at h';done)|simp[zeb,PyData.eqv,eqD]
 |n,.bl _,y,h,h'=>by cases y <;> first|(cases n <;> simp[okN] at h';done)|simp[zeb,PyData.eqv,eqD]
 |n,.int _,y,h,h'=>by cases y <;> first|(cases n <;> simp[okN] at h';done)|simp[zeb,PyData.eqv,eqD]
 |n,.str _,y,h,h'=>by cases y <;> first|(cases n <;> simp[okN] at h';done)|simp[zeb,PyData.eqv,eqD]
 |0,.tup _,y,h,h'=>by simp[okN] at h
 |0,.lst _,y,h,h'=>by simp[okN] at h
 |n+1,.tup l,y,h,h'=>by
  cases y with
  |tup l'=>simp only[zeb,PyData.eqv,eqD];exact zjB n l l' (by simpa [okN] using h) (by simpa [okN] using h')
  |dct _=>simp[okN] at h'
  |scr _=>simp[okN] at h'
  |_=>simp[zeb,PyData.eqv,eqD]
 |n+1,.lst l,y,h,h'=>by
  cases y with
  |lst l'=>simp only[zeb,PyData.eqv,eqD];exact zjB n l l' (by simpa [okN] using h) (by simpa [okN] using h')
  |dct _=>simp[okN] at h'
  |scr _=>simp[okN] at h'
  |_=>simp[zeb,PyData.eqv,eqD]
 |n,.dct _,y,h,h'=>by cases n <;> simp[okN] at h
 |n,.scr _,y,h,h'=>by cases n <;> simp[okN] at h
theorem zjB:∀(n:Nat)(x y:List Dt),x.all (okN n)=true->y.all (okN n)=true->PyData.eqvAll (zdQ x) (zdQ y)=zi3 x y
 |n,[],[],_,_=>by simp[zdQ,PyData.eqvAll,zi3]
 |n,[],_::_,_,_=>by simp[zdQ,PyData.eqvAll,zi3]
 |n,_::_,[],_,_=>by simp[zdQ,PyData.eqvAll,zi3]
 |n,a::as,b::bs,h,h'=>by
  simp only[List.all_cons,Bool.and_eq_true] at h h'
  simp only[zdQ,PyData.eqvAll,zi3]
  rw[zla n a b h.1 h'.1,zjB n as bs h.2 h'.2]
end
section
variable{X:Cx}{pins:List (Addr×Obj)}{σ:L2.St}{H:Hp}{s:Shared}
mutual
theorem zdh(I:L2.Inv X pins σ H s):∀(n:Nat)(d:Dt)(v:V)(u:Value),okN n d=true->Rep X.K H d v->zbD v u->∃ as,Reads s.heap u (zeb d) as
 |n,.non,v,u,_,h,r=>by rw[zgo h] at r;cases r;exact ⟨[],by simp only[zeb];exact .none⟩
 |n,.bl b,v,u,_,h,r=>by rw[zdp h] at r;cases r;exact ⟨[],by simp only[zeb];exact .bool _⟩
 |n,.int b,v,u,_,h,r=>by rw[zaz h] at r;obtain ⟨t,rfl⟩:=r;exact ⟨[],by simp only[zeb];exact .int _ _⟩
 |n,.str b,v,u,_,h,r=>by rw[zeT h] at r;obtain ⟨t,rfl⟩:=r;exact ⟨[],by simp only[zeb];exact .str _ _⟩
 |0,.tup l,v,u,hk,h,r=>by simp[okN] at hk
 |0,.lst l,v,u,hk,h,r=>by simp[okN] at hk
 |n+1,.tup l,v,u,hk,h,r=>by
  obtain ⟨a,vs,rfl,h1,h2⟩:=zbi h
  cases r
  obtain ⟨its,rv,⟨o,e,c,k,dd⟩,_⟩:=I.tuple h1
  obtain ⟨as,q⟩:=zea I n l vs its (by simpa [okN] using hk) h2 rv
  exact ⟨as,by simp only[zeb];exact .tuple e c dd (by simpa using q)⟩
 |n+1,.lst l,v,u,hk,h,r=>by
  obtain ⟨a,vs,rfl,h1,h2⟩:=zaG h
  cases r
  obtain ⟨its,rv,⟨o,k,e,c,_,dd⟩,_⟩:=I.list (SqL.of h1)
  obtain ⟨as,q⟩:=zea I n l vs its (by simpa [okN] using hk) h2 rv
  exact ⟨a::as,by simp only[zeb];exact .list e c dd (by simpa using q)⟩
 |n,.dct _,v,u,hk,h,r=>by cases n <;> simp[okN] at hk
 |n,.scr _,v,u,hk,h,r=>by cases n <;> simp[okN] at hk
theorem zea(I:L2.Inv X pins σ H s):∀(n:Nat)(ds:List Dt)(vs:List V)(us:List Value),ds.all (okN n)=true->zay X.K H ds vs->zaM vs us->∃ as,ReadsAll s.heap us (zdQ ds) as
 |n,[],vs,us,_,h,r=>by
  rw[h.nil_inv] at r
  cases r
  exact ⟨[],by simp only[zdQ];exact .nil⟩
 |n,d::ds,vs,us,hk,h,r=>by
  obtain ⟨v,t,rfl,h1,h2⟩:=h.cons_inv
  cases r with
  |cons r1 r2 =>
   simp only[List.all_cons,Bool.and_eq_true] at hk
   obtain ⟨as,q1⟩:=zdh I n d v _ hk.1 h1 r1
   obtain ⟨bs,q2⟩:=zea I n ds t _ hk.2 h2 r2
   exact ⟨as++bs,by simp only[zdQ];exact .cons q1 q2⟩
end
mutual
theorem zmN(I:L2.Inv X pins σ H s):∀(n:Nat)(d d':Dt)(v:V),okN n d=true->okN n d'=true->Rep X.K H d v->Rep X.K H d' v->d=d'
 |n,.non,d',v,hk,hk',h,h'=>by
  rw[zgo h] at h'
  cases d' <;> unfold Rep at h' <;> first|(obtain ⟨a,vs,z,_⟩:=h';cases z;done)|(obtain ⟨a,z,_⟩:=h';cases z;done)|(cases h';rfl)|(cases h';done)|rfl
 |n,.bl b,d',v,hk,hk',h,h'=>by
  rw[zdp h] at h'
  cases d' <;> unfold Rep at h' <;> first|(obtain ⟨a,vs,z,_⟩:=h';cases z;done)|(obtain ⟨a,z,_⟩:=h';cases z;done)|(cases h';rfl)|(cases h';done)|rfl
 |n,.int b,d',v,hk,hk',h,h'=>by
  rw[zaz h] at h'
  cases d' <;> unfold Rep at h' <;> first|(obtain ⟨a,vs,z,_⟩:=h';cases z;done)|(obtain ⟨a,z,_⟩:=h';cases z;done)|(cases h';rfl)|(cases h';done)|rfl
 |n,.str b,d',v,hk,hk',h,h'=>by
  rw[zeT h] at h'
  cases d' <;> unfold Rep at h' <;> first|(obtain ⟨a,vs,z,_⟩:=h';cases z;done)|(obtain ⟨a,z,_⟩:=h';cases z;done)|(cases h';rfl)|(cases h';done)|rfl
 |0,.tup l,d',v,hk,_,h,h'=>by simp[okN] at hk
 |0,.lst l,d',v,hk,_,h,h'=>by simp[okN] at hk
 |n+1,.tup l,d',v,hk,hk',h,h'=>by
  obtain ⟨a,vs,rfl,h1,h2⟩:=zbi h
  cases d' with
  |tup l' =>
   obtain ⟨a',vs',e,h3,h4⟩:=zbi h'
   cases e
   rw[I.tuple_inj h3 h1] at h4
   rw[zht I n l l' vs (by simpa [okN] using hk) (by simpa [okN] using hk') h2 h4]
  |lst l' =>
   obtain ⟨a',vs',e,h3,h4⟩:=zaG h'
   cases e
   obtain ⟨its,rv,⟨o,e,c,k,dd⟩,_⟩:=I.tuple h1
   obtain ⟨its',rv',⟨o',k',e',c',_,dd'⟩,_⟩:=I.list (SqL.of h3)
   rw[e] at e';cases e'
   rw[c] at c';exact absurd c' (by decide)
  |dct _=>simp[okN] at hk'
  |scr _=>simp[okN] at hk'
  |non=>cases zgo h'
  |bl _=>cases zdp h'
  |int _=>cases zaz h'
  |str _=>cases zeT h'
 |n+1,.lst l,d',v,hk,hk',h,h'=>by
  obtain ⟨a,vs,rfl,h1,h2⟩:=zaG h
  cases d' with
  |lst l' =>
   obtain ⟨a',vs',e,h3,h4⟩:=zaG h'
   cases e
   rw[h1] at h3;cases h3
   rw[zht I n l l' vs (by simpa [okN] using hk) (by simpa [okN] using hk') h2 h4]
  |tup l' =>
   obtain ⟨a',vs',e,h3,h4⟩:=zbi h'
   cases e
   obtain ⟨its,rv,⟨o,e,c,k,dd⟩,_⟩:=I.tuple h3
   obtain ⟨its',rv',⟨o',k',e',c',_,dd'⟩,_⟩:=I.list (SqL.of h1)
   rw[e] at e';cases e'
   rw[c] at c';exact absurd c' (by decide)
  |dct _=>simp[okN] at hk'
  |scr _=>simp[okN] at hk'
  |non=>cases zgo h'
  |bl _=>cases zdp h'
  |int _=>cases zaz h'
  |str _=>cases zeT h'
 |n,.dct _,d',v,hk,_,h,h'=>by cases n <;> simp[okN] at hk
 |n,.scr _,d',v,hk,_,h,h'=>by cases n <;> simp[okN] at hk
theorem zht(I:L2.Inv X pins σ H s):∀(n:Nat)(ds ds':List Dt)(vs:List V),ds.all (okN n)=true->ds'.all (okN n)=true->zay X.K H ds vs->zay X.K H ds' vs->ds=ds'
 |n,[],ds',vs,_,_,h,h'=>by
  rw[h.nil_inv] at h'
  cases ds' with
  |nil=>rfl
  |cons d t=>obtain ⟨v,r,z,_⟩:=h'.cons_inv;cases z
 |n,d::ds,ds',vs,hk,hk',h,h'=>by
  obtain ⟨v,t,rfl,h1,h2⟩:=h.cons_inv
  cases ds' with
  |nil=>cases h'.nil_inv
  |cons d' t' =>
   obtain ⟨v',r',z,h3,h4⟩:=h'.cons_inv
   cases z
   simp only[List.all_cons,Bool.and_eq_true] at hk hk'
   rw[zmN I n d d' v hk.1 hk'.1 h1 h3,zht I n ds t' t hk.2 hk'.2 h2 h4]
end
end
def ztn(K:W.Frag)(neg:Bool):R2:=fun x y H Q=>∃ dx dy,Rep K H dx x/\Rep K H dy y/\okN 60 dx=true/\okN 60 dy=true/\Q (.bl (if neg then !eqD dx dy else eqD dx dy)) H
theorem ze1{d:Dt}(h:okN 60 d=true):SeqAt.shaped (zeb d)=true:=by
 obtain ⟨h1,h2⟩:=ziN 60 d h
 unfold SeqAt.shaped
 rw[h1,Bool.true_and]
 exact decide_eq_true (by omega)
section
variable{X:Cx}
theorem zp7(hu:X.A.units+64<cLine):OpR X (compareOp .Eq) (ztn X.K false):=by
 intro pins s σ H x y v u Q I rx ry h
 obtain ⟨dx,dy,h1,h2,h3,h4,q⟩:=h
 obtain ⟨as,ra⟩:=zdh I 60 dx x v h3 h1 rx
 obtain ⟨bs,rb⟩:=zdh I 60 dy y u h4 h2 ry
 exact PyProof.Rows.eq_dataH ra rb (ze1 h3) (ze1 h4) hu ⟨.bl (eqD dx dy),H,I,(by rw[zla 60 dx dy h3 h4];rfl),q⟩
theorem zp6(hu:X.A.units+64<cLine):OpR X (compareOp .NotEq) (ztn X.K true):=by
 intro pins s σ H x y v u Q I rx ry h
 obtain ⟨dx,dy,h1,h2,h3,h4,q⟩:=h
 obtain ⟨as,ra⟩:=zdh I 60 dx x v h3 h1 rx
 obtain ⟨bs,rb⟩:=zdh I 60 dy y u h4 h2 ry
 exact PyProof.Rows.ne_dataH ra rb (ze1 h3) (ze1 h4) hu ⟨.bl (!eqD dx dy),H,I,(by rw[zla 60 dx dy h3 h4];rfl),q⟩
def gEq(neg:Bool):Dt->Dt->R Dt:=fun x y=>if (okN 60 x && okN 60 y)=true then .ok (.bl (if neg then !eqD x y else eqD x y)) else .no
theorem zkb(neg:Bool):zjF (gEq neg):=fun x y n h=>by unfold gEq at h;split at h <;> cases h
theorem znr{K:W.Frag}(neg:Bool):Op2 K (ztn K neg) (gEq neg):=fun G H x y dx dy z Q gh hx hy e k=>by
 unfold gEq at e
 split at e
 ·rename_i h
  rw[Bool.and_eq_true] at h
  cases e
  exact ⟨dx,dy,hx.same gh,hy.same gh,h.1,h.2,k _ G H (.refl gh) (by unfold Rep;rfl)⟩
 ·cases e
theorem zqI{pins:List (Addr×Obj)}{σ:L2.St}{H:Hp}{s:Shared}(I:L2.Inv X pins σ H s){A:Around}(hu:A.units+64<cLine){dx dy:Dt}{x y:V}{v u:Value}(h3:okN 60 dx=true)(h4:okN 60 dy=true)(h1:Rep X.K H dx x)(h2:Rep X.K H dy y)(rx:zbD x v)(ry:zbD y u) :
  SeqAt.EqAt A s v u (eqD dx dy):=by
 obtain ⟨as,ra⟩:=zdh I 60 dx x v h3 h1 rx
 obtain ⟨bs,rb⟩:=zdh I 60 dy y u h4 h2 ry
 obtain ⟨k1,k2⟩:=ziN 60 dx h3
 obtain ⟨k3,k4⟩:=ziN 60 dy h4
 have:=SeqAt.eqAt_reads (zeb dx) (zeb dy) A s v u as bs ra rb k1 k3 (by omega)
 rw[zla 60 dx dy h3 h4] at this
 exact this
open Classical in
noncomputable def zji(K:W.Frag)(H:Hp)(dx:Dt)(u:Value):Bool:=if ∃ d v,okN 60 d=true/\Rep K H d v/\zbD v u/\eqD d dx=true then true else false
theorem zlX{pins:List (Addr×Obj)}{σ:L2.St}{H:Hp}{s:Shared}(I:L2.Inv X pins σ H s){d dx:Dt}{v:V}{u:Value}(hk:okN 60 d=true)(h:Rep X.K H d v)(r:zbD v u):zji X.K H dx u=eqD d dx:=by
 unfold zji
 split
 ·rename_i q
  obtain ⟨d',v',k',h',r',e'⟩:=q
  have ev:v'=v:=r'.inj r
  subst ev
  rw[zmN I 60 d d' v' hk k' h h'];exact e'.symm
 ·rename_i q
  cases e:eqD d dx with
  |false=>rfl
  |true=>exact absurd ⟨d,v,hk,h,r,e⟩ q
theorem ze9{pins:List (Addr×Obj)}{σ:L2.St}{H:Hp}{s:Shared}(I:L2.Inv X pins σ H s){dx:Dt}:∀{ds:List Dt}{vs:List V}{us:List Value},ds.all (okN 60)=true->zay X.K H ds vs->zaM vs us->us.any (zji X.K H dx)=ds.any fun d=>eqD d dx
 |[],vs,us,_,h,r=>by rw[h.nil_inv] at r;cases r;rfl
 |d::ds,vs,us,hk,h,r=>by
  obtain ⟨v,t,rfl,h1,h2⟩:=h.cons_inv
  cases r with
  |cons r1 r2 =>
   simp only[List.all_cons,Bool.and_eq_true] at hk
   simp only[List.any_cons]
   rw[zlX I hk.1 h1 r1,ze9 I hk.2 h2 r2]
theorem zdu{pins:List (Addr×Obj)}{σ:L2.St}{H:Hp}{s:Shared}(I:L2.Inv X pins σ H s){A:Around}(hu:A.units+64<cLine){dx:Dt}{x:V}{v:Value}(hk:okN 60 dx=true)(hx:Rep X.K H dx x)(rx:zbD x v):∀{ds:List Dt}{vs:List V}{us:List Value},ds.all (okN 60)=true->zay X.K H ds vs->zaM vs us->∀ u∈us,SeqAt.EqAt A s u v (zji X.K H dx u)
 |[],vs,us,_,h,r,u,hu=>by rw[h.nil_inv] at r;cases r;cases hu
 |d::ds,vs,us,hks,h,r,u,hm=>by
  obtain ⟨v,t,rfl,h1,h2⟩:=h.cons_inv
  cases r with
  |cons r1 r2 =>
   simp only[List.all_cons,Bool.and_eq_true] at hks
   rcases List.mem_cons.mp hm with rfl|hm
   ·rw[zlX I hks.1 h1 r1]
    exact zqI I hu hks.1 hk h1 hx r1 rx
   ·exact zdu I hu hk hx rx hks.2 h2 r2 u hm
def inD(x:Dt)(l:List Dt):Bool:=l.any fun d=>eqD d x
def ztq(K:W.Frag)(neg:Bool):R2:=fun x y H Q=>∃ dx ds,Rep K H dx x/\(Rep K H (.lst ds) y\/Rep K H (.tup ds) y)/\okN 60 dx=true/\ds.all (okN 60)=true/\Q (.bl (if neg then !inD dx ds else inD dx ds)) H
theorem ziY(A:Around):A.in1.units=A.units+1:=rfl
theorem zmZ(hu:X.A.units+65<cLine):OpR X (compareOp .In) (ztq X.K false):=by
 intro pins s σ H x y v u Q I rx ry h
 obtain ⟨dx,ds,h1,h2,h3,h4,q⟩:=h
 have hu1:X.A.in1.units+64<cLine:=by rw[ziY];omega
 rcases h2 with h2|h2
 ·obtain ⟨a,vs,rfl,k1,k2⟩:=zaG h2
  cases ry
  obtain ⟨its,r,pl,hz⟩:=I.list (SqL.of k1)
  refine SeqAt.in_listAt (zji X.K H dx) pl.isList (fun w hw=>zdu I hu1 h3 h1 rx h4 k2 r w (by simpa using hw)) ⟨.bl _,H,I,rfl,?_⟩
  rw[show its.toArray.any (zji X.K H dx)=its.any (zji X.K H dx) by simp,ze9 I h4 k2 r]
  exact q
 ·obtain ⟨a,vs,rfl,k1,k2⟩:=zbi h2
  cases ry
  obtain ⟨its,r,pl,hz⟩:=I.tuple k1
  refine SeqAt.in_tupleAt (zji X.K H dx) pl (fun w hw=>zdu I hu1 h3 h1 rx h4 k2 r w (by simpa using hw)) ⟨.bl _,H,I,rfl,?_⟩
  rw[show its.toArray.any (zji X.K H dx)=its.any (zji X.K H dx) by simp,ze9 I h4 k2 r]
  exact q
theorem zlO(hu:X.A.units+65<cLine):OpR X (compareOp .NotIn) (ztq X.K true):=by
 intro pins s σ H x y v u Q I rx ry h
 obtain ⟨dx,ds,h1,h2,h3,h4,q⟩:=h
 have hu1:X.A.in1.units+64<cLine:=by rw[ziY];omega
 rcases h2 with h2|h2
 ·obtain ⟨a,vs,rfl,k1,k2⟩:=zaG h2
  cases ry
  obtain ⟨its,r,pl,hz⟩:=I.list (SqL.of k1)
  refine SeqAt.notIn_listAt (zji X.K H dx) pl.isList (fun w hw=>zdu I hu1 h3 h1 rx h4 k2 r w (by simpa using hw)) ⟨.bl _,H,I,rfl,?_⟩
  rw[show its.toArray.any (zji X.K H dx)=its.any (zji X.K H dx) by simp,ze9 I h4 k2 r]
  exact q
 ·obtain ⟨a,vs,rfl,k1,k2⟩:=zbi h2
  cases ry
  obtain ⟨its,r,pl,hz⟩:=I.tuple k1
  refine SeqAt.notIn_tupleAt (zji X.K H dx) pl (fun w hw=>zdu I hu1 h3 h1 rx h4 k2 r w (by simpa using hw)) ⟨.bl _,H,I,rfl,?_⟩
  rw[show its.toArray.any (zji X.K H dx)=its.any (zji X.K H dx) by simp,ze9 I h4 k2 r]
  exact q
def gIn(neg:Bool):Dt->Dt->R Dt:=fun x y=>match y with
 |.lst ds=>if (okN 60 x && ds.all (okN 60))=true then .ok (.bl (if neg then !inD x ds else inD x ds)) else .no
 |.tup ds=>if (okN 60 x && ds.all (okN 60))=true then .ok (.bl (if neg then !inD x ds else inD x ds)) else .no
 |_=>.no
theorem zjG(neg:Bool):zjF (gIn neg):=fun x y n h=>by
 unfold gIn at h
 split at h
 ·split at h <;> cases h
 ·split at h <;> cases h
 ·cases h
theorem zny{K:W.Frag}(neg:Bool):Op2 K (ztq K neg) (gIn neg):=fun G H x y dx dy z Q gh hx hy e k=>by
 unfold gIn at e
 split at e
 ·split at e
  ·rename_i h
   rw[Bool.and_eq_true] at h
   cases e
   exact ⟨dx,_,hx.same gh,.inl (hy.same gh),h.1,h.2,k _ G H (.refl gh) (by unfold Rep;rfl)⟩
  ·cases e
 ·split at e
  ·rename_i h
   rw[Bool.and_eq_true] at h
   cases e
   exact ⟨dx,_,hx.same gh,.inr (hy.same gh),h.1,h.2,k _ G H (.refl gh) (by unfold Rep;rfl)⟩
  ·cases e
 ·cases e
end
def zbs(i:Int):Bool:=decide (-18446744073709551616<i) && decide (i<18446744073709551616)
theorem zgU{i:Int}(h:zbs i=true):-(2 ^ 64)<i/\i<2 ^ 64:=by
 unfold zbs at h
 rw[Bool.and_eq_true] at h
 have h1:=of_decide_eq_true h.1
 have h2:=of_decide_eq_true h.2
 omega
def zdv:Dt->Dt->R Dt
 |.int i,.int j=>.ok (.int (i+j))
 |_,_=>.no
def zmJ:Dt->Dt->R Dt
 |.int i,.int j=>.ok (.int (i-j))
 |_,_=>.no
def zhc:Dt->Dt->R Dt
 |.int i,.int j=>if (zbs i || zbs j)=true then .ok (.int (i * j)) else .no
 |_,_=>.no
def zoV:Dt->Dt->R Dt
 |.int i,.int j=>if 0<j/\j<1073741824 then .ok (.int (i / j)) else .no
 |_,_=>.no
def zlK:Dt->Dt->R Dt
 |.int i,.int j=>if 0<j then .ok (.int (i % j)) else .no
 |_,_=>.no
def zo9:Dt->Dt->R Dt
 |.int i,.int j=>if 0<=j/\j<=1000/\i.natAbs<18446744073709551616 then .ok (.int (i ^ j.toNat)) else .no
 |_,_=>.no
def zlL(f:Int->Int->Bool):Dt->Dt->R Dt
 |.int i,.int j=>.ok (.bl (f i j))
 |_,_=>.no
section
variable{K:W.Frag}
theorem za3{G:Hp}(i:Int):Rep K G (.int i) (.int i):=by unfold Rep;rfl
theorem zcx{G:Hp}(b:Bool):Rep K G (.bl b) (.bl b):=by unfold Rep;rfl
theorem zoR:Op2 K (rI0 fun i j=>.int (i+j)) zdv:=fun G H x y dx dy z Q gh hx hy e k=>by
 unfold zdv at e
 split at e
 ·cases e;exact ⟨_,_,zaz hx,zaz hy,k _ G H (.refl gh) (za3 _)⟩
 ·cases e
theorem zrj:Op2 K (rI0 fun i j=>.int (i-j)) zmJ:=fun G H x y dx dy z Q gh hx hy e k=>by
 unfold zmJ at e
 split at e
 ·cases e;exact ⟨_,_,zaz hx,zaz hy,k _ G H (.refl gh) (za3 _)⟩
 ·cases e
theorem zrt:Op2 K (rI zto fun i j=>.int (i * j)) zhc:=fun G H x y dx dy z Q gh hx hy e k=>by
 unfold zhc at e
 split at e
 ·split at e
  ·rename_i h
   cases e
   rw[Bool.or_eq_true] at h
   exact ⟨_,_,zaz hx,zaz hy,h.elim (fun z=>.inl (zgU z)) (fun z=>.inr (zgU z)),k _ G H (.refl gh) (za3 _)⟩
  ·cases e
 ·cases e
theorem zqY:Op2 K (rI CDiv fun i j=>.int (i / j)) zoV:=fun G H x y dx dy z Q gh hx hy e k=>by
 unfold zoV at e
 split at e
 ·split at e
  ·rename_i h
   cases e
   exact ⟨_,_,zaz hx,zaz hy,h,k _ G H (.refl gh) (za3 _)⟩
  ·cases e
 ·cases e
theorem zrr:Op2 K (rI (fun _ j=>0<j) fun i j=>.int (i % j)) zlK:=fun G H x y dx dy z Q gh hx hy e k=>by
 unfold zlK at e
 split at e
 ·split at e
  ·rename_i h
   cases e
   exact ⟨_,_,zaz hx,zaz hy,h,k _ G H (.refl gh) (za3 _)⟩
  ·cases e
 ·cases e
theorem zr1:Op2 K (rI CPow fun i j=>.int (i ^ j.toNat)) zo9:=fun G H x y dx dy z Q gh hx hy e k=>by
 unfold zo9 at e
 split at e
 ·split at e
  ·rename_i h
   cases e
   exact ⟨_,_,zaz hx,zaz hy,⟨h.1,by omega,by have:=h.2.2;omega⟩,k _ G H (.refl gh) (za3 _)⟩
  ·cases e
 ·cases e
theorem zjM{f:Int->Int->Bool}:Op2 K (rI0 fun i j=>.bl (f i j)) (zlL f):=fun G H x y dx dy z Q gh hx hy e k=>by
 unfold zlL at e
 split at e
 ·cases e;exact ⟨_,_,zaz hx,zaz hy,k _ G H (.refl gh) (zcx _)⟩
 ·cases e
theorem zlU:zjF zdv:=fun x y n h=>by unfold zdv at h;split at h <;> cases h
theorem zoz:zjF zmJ:=fun x y n h=>by unfold zmJ at h;split at h <;> cases h
theorem zpk:zjF zhc:=fun x y n h=>by unfold zhc at h;split at h <;> first|cases h|(split at h <;> cases h)
theorem zpd:zjF zoV:=fun x y n h=>by unfold zoV at h;split at h <;> first|cases h|(split at h <;> cases h)
theorem znQ:zjF zlK:=fun x y n h=>by unfold zlK at h;split at h <;> first|cases h|(split at h <;> cases h)
theorem znY:zjF zo9:=fun x y n h=>by unfold zo9 at h;split at h <;> first|cases h|(split at h <;> cases h)
theorem zh2{f:Int->Int->Bool}:zjF (zlL f):=fun x y n h=>by unfold zlL at h;split at h <;> cases h
end
section
variable{X:Cx}{C:Cn}{a b:Expr}{fa fb:De}{pos:Pos}
theorem zed(ha:JE X C a fa)(hb:JE X C b fb):JE X C (.BinOp a .Add b pos) (dOp zdv fa fb):=zjQ zsN zoR zlU ha hb
theorem zpM(ha:JE X C a fa)(hb:JE X C b fb):JE X C (.BinOp a .Sub b pos) (dOp zmJ fa fb):=zjQ zsU zrj zoz ha hb
theorem zfS(ha:JE X C a fa)(hb:JE X C b fb):JE X C (.BinOp a .Mult b pos) (dOp zhc fa fb):=zjQ zsc zrt zpk ha hb
theorem zp4(ha:JE X C a fa)(hb:JE X C b fb):JE X C (.BinOp a .FloorDiv b pos) (dOp zoV fa fb):=zjQ zqG zqY zpd ha hb
theorem zgE(ha:JE X C a fa)(hb:JE X C b fb):JE X C (.BinOp a .Mod b pos) (dOp zlK fa fb):=zjQ zsi zrr znQ ha hb
theorem zp8(ha:JE X C a fa)(hb:JE X C b fb):JE X C (.BinOp a .Pow b pos) (dOp zo9 fa fb):=zjQ zss zr1 znY ha hb
abbrev gLt:=zlL fun i j=>decide (i<j)
abbrev gGt:=zlL fun i j=>decide (j<i)
abbrev gGe:=zlL fun i j=>decide (j<=i)
theorem zoS(hu:X.A.units+64<cLine)(ha:JE X C a fa)(hb:JE X C b fb):JE X C (.Compare a [.Eq] [b] pos) (dOp (gEq false) fa fb):=zpI (zp7 hu) (znr false) (zkb false) ha hb (zgj _)
theorem zt8(hu:X.A.units+65<cLine)(ha:JE X C a fa)(hb:JE X C b fb)(hm:behindInMarks .In b=false:=by rfl):JE X C (.Compare a [.In] [b] pos) (dOp (gIn false) fa fb):=zpI (zmZ hu) (zny false) (zjG false) ha hb hm
theorem zs5(ha:JE X C a fa)(hb:JE X C b fb):JT X C (.Compare a [.Lt] [b] pos) (dTB (dOp gLt fa fb)):=zf6 zud zjM zh2 ha hb (zgj _)
theorem zta(ha:JE X C a fa)(hb:JE X C b fb):JT X C (.Compare a [.Gt] [b] pos) (dTB (dOp gGt fa fb)):=zf6 ztA zjM zh2 ha hb (zgj _)
theorem zt6(ha:JE X C a fa)(hb:JE X C b fb):JT X C (.Compare a [.GtE] [b] pos) (dTB (dOp gGe fa fb)):=zf6 ztW zjM zh2 ha hb (zgj _)
theorem zl6(hu:X.A.units+64<cLine)(ha:JE X C a fa)(hb:JE X C b fb):JT X C (.Compare a [.Eq] [b] pos) (dTB (dOp (gEq false) fa fb)):=zf6 (zp7 hu) (znr false) (zkb false) ha hb (zgj _)
theorem zko(hu:X.A.units+64<cLine)(ha:JE X C a fa)(hb:JE X C b fb):JT X C (.Compare a [.NotEq] [b] pos) (dTB (dOp (gEq true) fa fb)):=zf6 (zp6 hu) (znr true) (zkb true) ha hb (zgj _)
theorem ztD(hu:X.A.units+65<cLine)(ha:JE X C a fa)(hb:JE X C b fb)(hm:behindInMarks .In b=false:=by rfl):JT X C (.Compare a [.In] [b] pos) (dTB (dOp (gIn false) fa fb)):=zf6 (zmZ hu) (zny false) (zjG false) ha hb hm
theorem zoY(hu:X.A.units+65<cLine)(ha:JE X C a fa)(hb:JE X C b fb)(hm:behindInMarks .NotIn b=false:=by rfl):JT X C (.Compare a [.NotIn] [b] pos) (dTB (dOp (gIn true) fa fb)):=zf6 (zlO hu) (zny true) (zjG true) ha hb hm
def dNeg(fa:De):De:=fun ρ=>(fa ρ).bind fun a=>match a.1 with
 |.int i=>.ok (.int (-i),a.2)
 |_=>.no
theorem ztm(ha:JE X C a fa):JE X C (.UnaryOp .USub a pos) (dNeg fa):=PE.weak (zrJ zpR ha) fun σ H Q ⟨G,w,ρ,r,p⟩=>by
 refine zeA (κ:=fun G H w=>kE X.K C σ Q G H w) zcz r p fun d ρ1 v G1 H1 w1 r1 s1 q1 p1=>?_
 cases d with
 |int i=>exact ⟨i,zaz q1,p1 _ G1 H1 w1 (.refl _ _ _) r1 (za3 _)⟩
 |_=>exact p1.elim
end
def FnR(K:W.Frag)(r:List V->Hp->VK->Prop)(g:List Dt->R Dt):Prop:=∀(G H:Hp)(vs:List V)(ds:List Dt)(z:Dt)(Q:VK),zb7 G H->zay K G ds vs->g ds=.ok z ->
 (∀ v G' H',zdz G H G' H'->Rep K G' z v->Q v H')->r vs H Q
def FnN(K:W.Frag)(r:List V->Hp->VK->Prop)(g:List Dt->R (List Dt)):Prop:=∀(G H:Hp)(vs:List V)(ds:List Dt)(z:List Dt)(Q:VK),zb7 G H->zay K G ds vs->g ds=.ok z ->
 (∀ p zs,H p=none->zay K G z zs->Q (.ref p) (upd H p (.lst zs)))->r vs H Q
def zj2{α:Type}(g:List Dt->R α):Prop:=∀ x n,g x≠.er n
def dFn(g:List Dt->R Dt)(fa:DA):De:=fun ρ=>(fa ρ).bind fun a=>(g a.1).bind fun z=>.ok (z,a.2)
def zdD(g:List Dt->R (List Dt))(fa:DA):DN:=fun ρ=>(fa ρ).bind fun a=>(g a.1).bind fun z=>.ok (z,a.2)
section
variable{X:Cx}{C:Cn}{e:Expr}{es:List Expr}{fa:DA}{p pos:Pos}{x:Str}{id T:String}{r:List V->Hp->VK->Prop}
theorem znx{g:List Dt->R Dt}{σ:L2.St}{H:Hp}{Q:VK}(h:FnR X.K r g)(he:zj2 g)(t:tE X.K C (dFn g fa) σ H Q):tCB r (tAd X.K C fa) σ H Q:=by
 obtain ⟨G,w,ρ,rr,p⟩:=t
 refine zrQ (κ:=fun G H w=>kE X.K C σ Q G H w) zcz rr p fun ds ρ1 vs G1 H1 w1 r1 s1 q1 p1=>?_
 cases e:g ds with
 |ok z =>
  simp only[e,R.bind_ok] at p1
  exact h G1 H1 vs ds z Q r1.gh q1 e fun v G' H' gr q=>p1 v G' H' w1 gr.step (r1.grow gr) q
 |er n=>exact absurd e (he _ _)
 |no=>simp only[e,R.bind_no] at p1;exact p1.elim
theorem zk2{g:List Dt->R (List Dt)}{σ:L2.St}{H:Hp}{Q:VK}(h:FnN X.K r g)(he:zj2 g)(t:tN X.K C (zdD g fa) σ H Q):tCB r (tAd X.K C fa) σ H Q:=by
 obtain ⟨G,w,ρ,rr,p⟩:=t
 refine zrQ (κ:=fun G H w=>kN X.K C σ Q G H w) zeU rr p fun ds ρ1 vs G1 H1 w1 r1 s1 q1 p1=>?_
 cases e:g ds with
 |ok z =>
  simp only[e,R.bind_ok] at p1
  refine h G1 H1 vs ds z Q r1.gh q1 e fun a zs ha q=>?_
  have gr:zdz G1 H1 G1 (upd H1 a (.lst zs)):=.newH r1.gh ha
  exact p1 a zs G1 _ w1 gr.step (r1.grow gr) ha zah (r1.gh.free ha) (by
   cases z:w1 a with
   |none=>rfl
   |some k=>exact absurd ha (r1.wh a (by rw[z];simp))) q
 |er n=>exact absurd e (he _ _)
 |no=>simp only[e,R.bind_no] at p1;exact p1.elim
theorem zf2{g:List Dt->R Dt}(h:FnR X.K r g)(he:zj2 g)(hc:zcg X (.builtin id) r)(hg:Gl X x)(hm:X.mg x=none)(hv:bootBuiltins x=some (.builtin id))(ha:JA X C (e::es) fa)(hn:x≠"__name__":=by decide)(hdb:(x == ("__debug__" : Str))=false:=by decide)
  (hs:starEach (e::es) X.env=(false,eval e X.env)::starEach es X.env:=by rfl) (hpl:(backTo pos (starEach es X.env)).any (·.1)=false:=by rfl):JE X C (.Call (.Name x p) (e::es) [] pos) (dFn g fa) :=
 PE.weak (zdf hc hg hm hv ha hn hdb hs hpl) fun σ H Q t=>znx h he t
theorem zm4{g:List Dt->R Dt}(h:FnR X.K r g)(he:zj2 g)(hc:zcg X (.type T) r)(hg:Gl X x)(hm:X.mg x=none)(hv:bootBuiltins x=some (.type T))(ha:JA X C (e::es) fa)(hn:x≠"__name__":=by decide)(hdb:(x == ("__debug__" : Str))=false:=by decide)
  (hs:starEach (e::es) X.env=(false,eval e X.env)::starEach es X.env:=by rfl) (hpl:(backTo pos (starEach es X.env)).any (·.1)=false:=by rfl):JE X C (.Call (.Name x p) (e::es) [] pos) (dFn g fa) :=
 PE.weak (zfA hc hg hm hv ha hn hdb hs hpl) fun σ H Q t=>znx h he t
theorem zhn{g:List Dt->R (List Dt)}(h:FnN X.K r g)(he:zj2 g)(hc:zcg X (.builtin id) r)(hg:Gl X x)(hm:X.mg x=none)(hv:bootBuiltins x=some (.builtin id))(ha:JA X C (e::es) fa)(hn:x≠"__name__":=by decide)(hdb:(x == ("__debug__" : Str))=false:=by decide)
  (hs:starEach (e::es) X.env=(false,eval e X.env)::starEach es X.env:=by rfl) (hpl:(backTo pos (starEach es X.env)).any (·.1)=false:=by rfl):JN X C (.Call (.Name x p) (e::es) [] pos) (zdD g fa) :=
 PE.weak (zdf hc hg hm hv ha hn hdb hs hpl) fun σ H Q t=>zk2 h he t
theorem zmg{g:List Dt->R (List Dt)}(h:FnN X.K r g)(he:zj2 g)(hc:zcg X (.type T) r)(hg:Gl X x)(hm:X.mg x=none)(hv:bootBuiltins x=some (.type T))(ha:JA X C (e::es) fa)(hn:x≠"__name__":=by decide)(hdb:(x == ("__debug__" : Str))=false:=by decide)
  (hs:starEach (e::es) X.env=(false,eval e X.env)::starEach es X.env:=by rfl) (hpl:(backTo pos (starEach es X.env)).any (·.1)=false:=by rfl):JN X C (.Call (.Name x p) (e::es) [] pos) (zdD g fa) :=
 PE.weak (zfA hc hg hm hv ha hn hdb hs hpl) fun σ H Q t=>zk2 h he t
end
def zcU:List Dt->R Dt
 |[.lst l]=>.ok (.int l.length)
 |[.tup l]=>.ok (.int l.length)
 |[.scr l]=>.ok (.int l.length)
 |[.str x]=>if x.length<=16777216 then .ok (.int x.length) else .no
 |_=>.no
def rLen(K:W.Frag):List V->Hp->VK->Prop:=fun xs H Q=>(∃ p ys,xs=[.ref p]/\(SqL K H p ys\/SqT K H p ys)/\Q (.int ys.length) H)\/∃ z,xs=[.str z]/\z.length<=sizeLine/\Q (.int z.length) H
theorem zex{K:W.Frag}{G:Hp}{d:Dt}{vs:List V}(h:zay K G [d] vs):∃ v,vs=[v]/\Rep K G d v:=by
 obtain ⟨v,r,rfl,h1,h2⟩:=h.cons_inv
 rw[h2.nil_inv];exact ⟨v,rfl,h1⟩
theorem zqD{K:W.Frag}{G:Hp}{d e:Dt}{vs:List V}(h:zay K G [d,e] vs):∃ v u,vs=[v,u]/\Rep K G d v/\Rep K G e u:=by
 obtain ⟨v,r,rfl,h1,h2⟩:=h.cons_inv
 obtain ⟨u,rfl,h3⟩:=zex h2
 exact ⟨v,u,rfl,h1,h3⟩
theorem zj0{K:W.Frag}{G:Hp}{l:List Int}{v:V}(h:Rep K G (.scr l) v):∃ a,v=.ref a/\SqL K G a (l.map V.int):=by unfold Rep at h;exact h
section
variable{K:W.Frag}
theorem zrR:FnR K (rLen K) zcU:=fun G H vs ds z Q gh hr e k=>by
 unfold zcU at e
 split at e
 ·obtain ⟨v,rfl,h1⟩:=zex hr
  obtain ⟨a,us,rfl,h2,h3⟩:=zaG h1
  cases e
  exact .inl ⟨a,us,rfl,.inl (SqL.of (gh _ _ h2)),by rw[<- h3.length];exact k _ G H (.refl gh) (za3 _)⟩
 ·obtain ⟨v,rfl,h1⟩:=zex hr
  obtain ⟨a,us,rfl,h2,h3⟩:=zbi h1
  cases e
  exact .inl ⟨a,us,rfl,.inr (za1 gh h2),by rw[<- h3.length];exact k _ G H (.refl gh) (za3 _)⟩
 ·obtain ⟨v,rfl,h1⟩:=zex hr
  obtain ⟨a,rfl,h2⟩:=zj0 h1
  cases e
  exact .inl ⟨a,_,rfl,.inl (gh.seq h2),by rw[List.length_map];exact k _ G H (.refl gh) (za3 _)⟩
 ·split at e
  ·rename_i hx
   obtain ⟨v,rfl,h1⟩:=zex hr
   cases e
   exact .inr ⟨_,by rw[zeT h1],by rw[show sizeLine=16777216 from by decide];exact hx,k _ G H (.refl gh) (za3 _)⟩
  ·cases e
 ·cases e
theorem zrZ:zj2 zcU:=fun x n h=>by unfold zcU at h;split at h <;> first|cases h|(split at h <;> cases h)
def zjS:List Dt->R (List Dt)
 |[.lst l]=>.ok l
 |[.tup l]=>.ok l
 |_=>.no
theorem zrg:FnN K (fun xs H Q=>∃ p ys,xs=[.ref p]/\(SqL K H p ys\/SqT K H p ys)/\∀ l,H l=none->Q (.ref l) (upd H l (.lst ys))) zjS:=fun G H vs ds z Q gh hr e k=>by
 unfold zjS at e
 split at e
 ·obtain ⟨v,rfl,h1⟩:=zex hr
  obtain ⟨a,us,rfl,h2,h3⟩:=zaG h1
  cases e
  exact ⟨a,us,rfl,.inl (SqL.of (gh _ _ h2)),fun l hl=>k l us hl h3⟩
 ·obtain ⟨v,rfl,h1⟩:=zex hr
  obtain ⟨a,us,rfl,h2,h3⟩:=zbi h1
  cases e
  exact ⟨a,us,rfl,.inr (za1 gh h2),fun l hl=>k l us hl h3⟩
 ·cases e
theorem zqE:zj2 zjS:=fun x n h=>by unfold zjS at h;split at h <;> cases h
def zfE:List Dt->R Dt
 |[.lst l]=>.ok (.tup l)
 |[.tup l]=>.ok (.tup l)
 |_=>.no
theorem zo7:FnR K (fun xs H Q=>∃ p ys,xs=[.ref p]/\((SqL K H p ys/\∀ l,H l=none->Q (.ref l) (upd H l (.tup ys)))\/(SqT K H p ys/\Q (.ref p) H))) zfE:=fun G H vs ds z Q gh hr e k=>by
 unfold zfE at e
 split at e
 ·obtain ⟨v,rfl,h1⟩:=zex hr
  obtain ⟨a,us,rfl,h2,h3⟩:=zaG h1
  cases e
  refine ⟨a,us,rfl,.inl ⟨SqL.of (gh _ _ h2),fun l hl=>?_⟩⟩
  have gr:zdz G H (upd G l (.tup us)) (upd H l (.tup us)):=.new gh hl
  exact k _ _ _ gr (by unfold Rep;exact ⟨l,us,rfl,zgO.of zah,h3.same gr.g⟩)
 ·obtain ⟨v,rfl,h1⟩:=zex hr
  obtain ⟨a,us,rfl,h2,h3⟩:=zdJ h1
  cases e
  exact ⟨a,us,rfl,.inr ⟨za1 gh h2.sq,k _ G H (.refl gh) (by unfold Rep;exact ⟨a,us,rfl,h2,h3⟩)⟩⟩
 ·cases e
theorem znM:zj2 zfE:=fun x n h=>by unfold zfE at h;split at h <;> cases h
def zhd:List Dt->R Dt
 |[.int i,.int j]=>.ok (.int (if j > i then j else i))
 |_=>.no
def zhT:List Dt->R Dt
 |[.int i,.int j]=>.ok (.int (if j<i then j else i))
 |_=>.no
theorem zqW:FnR K (fun xs H Q=>∃ i j,xs=[.int i,.int j]/\Q (.int (if j > i then j else i)) H) zhd:=fun G H vs ds z Q gh hr e k=>by
 unfold zhd at e
 split at e
 ·obtain ⟨v,u,rfl,h1,h2⟩:=zqD hr
  cases e
  exact ⟨_,_,by rw[zaz h1,zaz h2],k _ G H (.refl gh) (za3 _)⟩
 ·cases e
theorem zqT:FnR K (fun xs H Q=>∃ i j,xs=[.int i,.int j]/\Q (.int (if j<i then j else i)) H) zhT:=fun G H vs ds z Q gh hr e k=>by
 unfold zhT at e
 split at e
 ·obtain ⟨v,u,rfl,h1,h2⟩:=zqD hr
  cases e
  exact ⟨_,_,by rw[zaz h1,zaz h2],k _ G H (.refl gh) (za3 _)⟩
 ·cases e
theorem zq4:zj2 zhd:=fun x n h=>by unfold zhd at h;split at h <;> cases h
theorem zqq:zj2 zhT:=fun x n h=>by unfold zhT at h;split at h <;> cases h
end
section
variable{X:Cx}
theorem zkC{α:Type}{f:α->V}{g:α->Value->Prop}(h:∀ a u,zbD (f a) u->g a u):∀{as:List α}{us:List Value}{i:Nat}{u:Value},zaM (as.map f) us->us[i]? = some u->∃ a,as[i]? = some a/\g a u
 |[],_,_,_,r,e=>by cases r;simp at e
 |a::as,_,0,u,.cons r t,e=>by simp at e;subst e;exact ⟨a,rfl,h a _ r⟩
 |a::as,_,i+1,u,.cons r t,e=>by
  obtain ⟨b,h1,h2⟩:=zkC h (i:=i) t (by simpa using e)
  exact ⟨b,by simpa using h1,h2⟩
theorem zhG:∀(bs:List Bool),((List.range bs.length).all fun i=>(bs[i]?).getD true)=bs.all id:=fun bs=>by
 rw[Bool.eq_iff_iff,List.all_eq_true,List.all_eq_true]
 constructor
 ·intro h b hb
  obtain ⟨i,hi,rfl⟩:=List.mem_iff_getElem.mp hb
  have:=h i (List.mem_range.mpr hi)
  simpa [hi] using this
 ·intro h i hi
  have hi':=List.mem_range.mp hi
  simpa [hi'] using h bs[i] (List.getElem_mem hi')
theorem zlT(hc:X.calm=true):zcg X (.builtin "all") (fun xs H Q=>∃(p:Addr)(bs:List Bool),xs=[.ref p]/\SqL X.K H p (bs.map V.bl)/\Q (.bl (bs.all id)) H):=by
 intro pins s σ H xs us Q I r h
 obtain ⟨p,bs,rfl,hq,q⟩:=h
 obtain ⟨u,rfl,ru⟩:=zeX r
 cases ru
 obtain ⟨its,rv,pl,hz⟩:=I.list hq
 have hlt:p≠s.heap.objs.size:=by
  obtain ⟨o,n,e,_⟩:=id pl
  exact Nat.ne_of_lt (Heap.lt_size e)
 have hlen:its.length=bs.length:=by rw[<- rv.length];simp
 refine call_all_walk (wpAny_pyIter_list pl.isList ?_)
 refine ⟨s.heap.objs.size,_,_,_,_,_,fun i=>(bs[i]?).getD true,rfl,Walks.list (A:=X.A.in1) (I.ok.hd hc) s.heap.objs.size p hlt its.toArray,⟨⟨_,Heap.get?_push_size _ rfl,rfl,rfl⟩,?_⟩,?_,fun h' tk hk=>?_⟩
 ·obtain ⟨o,ho,hc',n,hd⟩:=pl.isList
  exact ⟨o,Heap.get?_push_of_some _ ho,hc',n,hd⟩
 ·intro i v s' Q' E' hP hQ
  obtain ⟨b,h1,h2⟩:=zkC (f:=V.bl) (g:=fun b u=>u=Value.bool b) (fun a u z=>z) rv (i:=i) (u:=v) (by simpa using hP)
  subst h2
  simp only[h1,Option.getD_some] at hQ
  exact wpAny_truthy_bool hQ
 ·refine ⟨.bl (bs.all id),H,I.kept (t':=tk) fun b o e=>hk b o (fun z=>?_) (Heap.get?_push_of_some _ e),?_,q⟩
  ·simp at z;exact absurd (z ▸ Heap.lt_size e) (Nat.lt_irrefl _)
  ·show Value.bool _=_
   rw[List.size_toArray,hlen,zhG]
def ze7:List Dt->Option (List Bool)
 |[]=>some []
 |.bl b::r=>(ze7 r).map (b::·)
 |_=>none
theorem zgH{K:W.Frag}{G:Hp}:∀{ds:List Dt}{vs:List V}{bs:List Bool},zay K G ds vs->ze7 ds=some bs->vs=bs.map V.bl
 |[],_,_,h,e=>by rw[h.nil_inv];simp[ze7] at e;subst e;rfl
 |.bl b::r,_,bs,h,e=>by
  obtain ⟨v,t,rfl,h1,h2⟩:=h.cons_inv
  simp only[ze7,Option.map_eq_some_iff] at e
  obtain ⟨bs',e1,rfl⟩:=e
  rw[zdp h1,zgH h2 e1];rfl
 |.non::_,_,_,_,e=>by simp[ze7] at e
 |.int _::_,_,_,_,e=>by simp[ze7] at e
 |.str _::_,_,_,_,e=>by simp[ze7] at e
 |.tup _::_,_,_,_,e=>by simp[ze7] at e
 |.lst _::_,_,_,_,e=>by simp[ze7] at e
 |.dct _::_,_,_,_,e=>by simp[ze7] at e
 |.scr _::_,_,_,_,e=>by simp[ze7] at e
def zpN:List Dt->R Dt
 |[.lst l]=>match ze7 l with
  |some bs=>.ok (.bl (bs.all id))
  |none=>.no
 |_=>.no
theorem zsS{K:W.Frag}:FnR K (fun xs H Q=>∃(p:Addr)(bs:List Bool),xs=[.ref p]/\SqL K H p (bs.map V.bl)/\Q (.bl (bs.all id)) H) zpN:=fun G H vs ds z Q gh hr e k=>by
 unfold zpN at e
 split at e
 ·split at e
  ·rename_i bs eb
   obtain ⟨v,rfl,h1⟩:=zex hr
   obtain ⟨a,us,rfl,h2,h3⟩:=zaG h1
   cases e
   rw[zgH h3 eb] at h2
   exact ⟨a,bs,rfl,SqL.of (gh _ _ h2),k _ G H (.refl gh) (zcx _)⟩
  ·cases e
 ·cases e
theorem zsP:zj2 zpN:=fun x n h=>by unfold zpN at h;split at h <;> first|cases h|(split at h <;> cases h)
def ziK:List Dt->Option (List Int)
 |[]=>some []
 |.int b::r=>(ziK r).map (b::·)
 |_=>none
theorem zhI{K:W.Frag}{G:Hp}:∀{ds:List Dt}{vs:List V}{bs:List Int},zay K G ds vs->ziK ds=some bs->vs=bs.map V.int
 |[],_,_,h,e=>by rw[h.nil_inv];simp[ziK] at e;subst e;rfl
 |.int b::r,_,bs,h,e=>by
  obtain ⟨v,t,rfl,h1,h2⟩:=h.cons_inv
  simp only[ziK,Option.map_eq_some_iff] at e
  obtain ⟨bs',e1,rfl⟩:=e
  rw[zaz h1,zhI h2 e1];rfl
 |.non::_,_,_,_,e=>by simp[ziK] at e
 |.bl _::_,_,_,_,e=>by simp[ziK] at e
 |.str _::_,_,_,_,e=>by simp[ziK] at e
 |.tup _::_,_,_,_,e=>by simp[ziK] at e
 |.lst _::_,_,_,_,e=>by simp[ziK] at e
 |.dct _::_,_,_,_,e=>by simp[ziK] at e
 |.scr _::_,_,_,_,e=>by simp[ziK] at e
theorem zsm(ns:List Int):ziK (ns.map .int)=some ns:=by
 induction ns with
 |nil=>rfl
 |cons n r ih=>simp[ziK,ih]
end
section
variable{X:Cx}
end
def tyD:Dt->String
 |.non=>"NoneType"
 |.bl _=>"bool"
 |.int _=>"int"
 |.str _=>"str"
 |.tup _=>"tuple"
 |.lst _=>"list"
 |.dct _=>"dict"
 |.scr _=>"list"
def zjk(t T:String):Bool:=(t == T) || (t == "bool" && T == "int")
section
variable{X:Cx}{pins:List (Addr×Obj)}{σ:L2.St}{H:Hp}{s:Shared}
theorem zpx(I:L2.Inv X pins σ H s):∀{d:Dt}{v:V}{u:Value},Rep X.K H d v->zbD v u->∃ P:Heap->Prop,W.KitX X.K u (.type (tyD d)) P/\P s.heap/\u≠.builtin "__main__.__loader__#opaque"
 |.non,v,u,h,r=>by rw[zgo h] at r;cases r;exact ⟨_,W.kitx_none,True.intro,by simp⟩
 |.bl b,v,u,h,r=>by rw[zdp h] at r;cases r;exact ⟨_,W.kitx_bool,True.intro,by simp⟩
 |.int b,v,u,h,r=>by rw[zaz h] at r;obtain ⟨t,rfl⟩:=r;exact ⟨_,W.kitx_int,True.intro,by simp⟩
 |.str b,v,u,h,r=>by rw[zeT h] at r;obtain ⟨t,rfl⟩:=r;exact ⟨_,W.kitx_str,True.intro,by simp⟩
 |.tup l,v,u,h,r=>by
  obtain ⟨a,vs,rfl,h1,h2⟩:=zbi h
  cases r
  obtain ⟨its,rv,⟨o,e,c,k,dd⟩,_⟩:=I.tuple h1
  exact ⟨_,W.kitx_tuple,⟨o,e,c⟩,by simp⟩
 |.lst l,v,u,h,r=>by
  obtain ⟨a,vs,rfl,h1,h2⟩:=zaG h
  cases r
  obtain ⟨its,rv,⟨o,k,e,c,_,dd⟩,_⟩:=I.list (SqL.of h1)
  exact ⟨_,W.kitx_list,⟨o,e,c⟩,by simp⟩
 |.dct _,v,u,h,r=>by
  unfold Rep at h
  obtain ⟨a,rfl,h1⟩:=h
  cases r
  obtain ⟨_,_,vs,_,o,es,ep,e1,e2,_⟩:=(show zcd X.prog X.w H s.heap a (.dK _) from I.hok a _ h1)
  exact ⟨_,W.kitx_dict,⟨o,e1,e2.1⟩,by simp⟩
 |.scr l,v,u,h,r=>by
  obtain ⟨a,rfl,h1⟩:=zj0 h
  cases r
  obtain ⟨its,rv,⟨o,k,e,c,_,dd⟩,_⟩:=I.list h1
  exact ⟨_,W.kitx_list,⟨o,e,c⟩,by simp⟩
end
def zg6(T:String):Prop:=∀(K:W.Frag)(t:String),t∈["NoneType","bool","int","str","tuple","list","dict"]->W.kitOne K (.type t) (.type T)=some (zjk t T)
theorem zjC(d:Dt):tyD d∈["NoneType","bool","int","str","tuple","list","dict"]:=by cases d <;> simp[tyD]
theorem zjl:zg6 "int":=fun K t h=>by
 simp only[List.mem_cons,List.not_mem_nil,or_false] at h
 rcases h with rfl|rfl|rfl|rfl|rfl|rfl|rfl <;> rfl
theorem zhg:zg6 "bool":=fun K t h=>by
 simp only[List.mem_cons,List.not_mem_nil,or_false] at h
 rcases h with rfl|rfl|rfl|rfl|rfl|rfl|rfl <;> rfl
theorem ze0:zg6 "tuple":=fun K t h=>by
 simp only[List.mem_cons,List.not_mem_nil,or_false] at h
 rcases h with rfl|rfl|rfl|rfl|rfl|rfl|rfl <;> rfl
theorem zhs:zg6 "list":=fun K t h=>by
 simp only[List.mem_cons,List.not_mem_nil,or_false] at h
 rcases h with rfl|rfl|rfl|rfl|rfl|rfl|rfl <;> rfl
def zeQ(T:String)(fa:De):De:=fun ρ=>(fa ρ).bind fun a=>.ok (.bl (zjk (tyD a.1) T),a.2)
def zqh(T U:String)(fa:De):De:=fun ρ=>(fa ρ).bind fun a=>.ok (.bl (zjk (tyD a.1) T || zjk (tyD a.1) U),a.2)
section
variable{X:Cx}{C:Cn}{e:Expr}{fa:De}{p p2 pos:Pos}
theorem znU{T:String}(ok:zg6 T):zcg X (.builtin "isinstance") (fun xs H Q=>∃ d v,xs=[v,.ty T]/\Rep X.K H d v/\Q (.bl (zjk (tyD d) T)) H):=by
 intro pins s σ H xs us Q I r h
 obtain ⟨d,v,rfl,h1,q⟩:=h
 obtain ⟨u,w',rfl,r1,r2⟩:=zjA r
 cases r2
 obtain ⟨P,Z,hp,hx⟩:=zpx I h1 r1
 exact W.kia_one Z I.kIn hp (ok X.K (tyD d) (zjC d)) hx fun tk=>⟨.bl _,H,I.tok tk,rfl,q⟩
theorem zmu{T U:String}(ok:zg6 T)(ok2:zg6 U):zcg X (.builtin "isinstance") (fun xs H Q=>∃ d v a,xs=[v,.ref a]/\Rep X.K H d v/\SqT X.K H a [.ty T,.ty U]/\Q (.bl (zjk (tyD d) T || zjk (tyD d) U)) H):=by
 intro pins s σ H xs us Q I r h
 obtain ⟨d,v,a,rfl,h1,ha,q⟩:=h
 obtain ⟨u,w',rfl,r1,r2⟩:=zjA r
 cases r2
 obtain ⟨P,Z,hp,hx⟩:=zpx I h1 r1
 obtain ⟨its,rv,⟨o,e,c,k,dd⟩,_⟩:=I.tuple ha
 obtain ⟨x1,x2,rfl,q1,q2⟩:=zjA rv
 cases q1
 cases q2
 obtain ⟨oc,od,odt,osl⟩:=o
 simp only at c dd
 subst c dd
 refine W.kia_tup (its:=[Value.type T,Value.type U]) (b:=zjk (tyD d) T || zjk (tyD d) U) Z I.kIn hp e ?_ hx fun tk=>⟨.bl _,H,I.tok tk,rfl,q⟩
 unfold W.kitAny
 rw[ok X.K (tyD d) (zjC d)]
 cases zjk (tyD d) T with
 |true=>rfl
 |false =>
  simp only[W.kitAny,ok2 X.K (tyD d) (zjC d)]
  cases zjk (tyD d) U <;> rfl
theorem zd8{T:String}{x2:Str}(ok:zg6 T)(hg:Gl X "isinstance")(hm:X.mg "isinstance"=none)(hv:bootBuiltins "isinstance"=some (.builtin "isinstance"))(hg2:Gl X x2)(hm2:X.mg x2=none)(hv2:bootBuiltins x2=some (.type T))(ha:JE X C e fa)
  (hn:("isinstance" : Str)≠"__name__":=by decide) (hdb:(("isinstance" : Str) == ("__debug__" : Str))=false:=by decide) (hn2:x2≠"__name__":=by decide) (hdb2:(x2 == ("__debug__" : Str))=false:=by decide)
  (hs:starEach [e,.Name x2 p2] X.env=(false,eval e X.env)::starEach [.Name x2 p2] X.env:=by rfl) (hs2:starEach [.Name x2 p2] X.env=(false,eval (.Name x2 p2) X.env)::starEach [] X.env:=by rfl) (hpl:(backTo pos (starEach [.Name x2 p2] X.env)).any (·.1)=false:=by rfl) :
  JE X C (.Call (.Name "isinstance" p) [e,.Name x2 p2] [] pos) (zeQ T fa) :=
 PE.weak (zdf (znU ok) hg hm hv (zaP ha (zaP (zhQ (v:=.ty T) hg2 hm2 hv2 rfl hn2 hdb2) zc8 hs2) hs) hn hdb hs hpl) fun σ H Q ⟨G,w,ρ,r,p⟩=>by
  refine zeA (κ:=fun G H w=>kE X.K C σ Q G H w) zcz r p fun d ρ1 v G1 H1 w1 r1 s1 q1 p1=>?_
  exact ⟨d,v,rfl,q1.same r1.gh,p1 _ G1 H1 w1 (.refl _ _ _) r1 (zcx _)⟩
theorem zrz{T U:String}{x2 x3:Str}{p3 pt:Pos}{kt}(ok:zg6 T)(ok2:zg6 U)(hg:Gl X "isinstance")(hm:X.mg "isinstance"=none)(hv:bootBuiltins "isinstance"=some (.builtin "isinstance"))(hg2:Gl X x2)(hm2:X.mg x2=none)(hv2:bootBuiltins x2=some (.type T))(hg3:Gl X x3)(hm3:X.mg x3=none)(hv3:bootBuiltins x3=some (.type U))(ha:JE X C e fa)
  (hn:("isinstance" : Str)≠"__name__":=by decide) (hdb:(("isinstance" : Str) == ("__debug__" : Str))=false:=by decide) (hn2:x2≠"__name__":=by decide) (hdb2:(x2 == ("__debug__" : Str))=false:=by decide) (hn3:x3≠"__name__":=by decide) (hdb3:(x3 == ("__debug__" : Str))=false:=by decide)
  (hs:starEach [e,.Tuple [.Name x2 p2,.Name x3 p3] kt pt] X.env=(false,eval e X.env)::starEach [.Tuple [.Name x2 p2,.Name x3 p3] kt pt] X.env:=by rfl) (hs2:starEach [.Tuple [.Name x2 p2,.Name x3 p3] kt pt] X.env=(false,eval (.Tuple [.Name x2 p2,.Name x3 p3] kt pt) X.env)::starEach [] X.env:=by rfl) (hpl:(backTo pos (starEach [.Tuple [.Name x2 p2,.Name x3 p3] kt pt] X.env)).any (·.1)=false:=by rfl)
  (hs3:starEach [.Name x2 p2,.Name x3 p3] X.env=(false,eval (.Name x2 p2) X.env)::starEach [.Name x3 p3] X.env:=by rfl) (hs4:starEach [.Name x3 p3] X.env=(false,eval (.Name x3 p3) X.env)::starEach [] X.env:=by rfl) :
  JE X C (.Call (.Name "isinstance" p) [e,.Tuple [.Name x2 p2,.Name x3 p3] kt pt] [] pos) (zqh T U fa) :=
 PE.weak (zdf (zmu ok ok2) hg hm hv (zaP ha (zaP (zpQ (zaP (zhQ (v:=.ty T) hg2 hm2 hv2 rfl hn2 hdb2) (zaP (zhQ (v:=.ty U) hg3 hm3 hv3 rfl hn3 hdb3) zc8 hs4) hs3)) zc8 hs2) hs) hn hdb hs hpl) fun σ H Q ⟨G,w,ρ,r,p⟩=>by
  refine zeA (κ:=fun G H w=>kE X.K C σ Q G H w) zcz r p fun d ρ1 v G1 H1 w1 r1 s1 q1 p1=>?_
  refine ⟨by show 2<=sizeLine;decide,fun a ha=>?_⟩
  have gr:zdz G1 H1 G1 (upd H1 a (.tup [.ty T,.ty U])):=.newH r1.gh ha
  exact ⟨d,v,a,rfl,(q1.same r1.gh).same gr.h,SqT.of zah,p1 _ G1 _ w1 gr.step (r1.grow gr) (zcx _)⟩
def gIx:Dt->Dt->R Dt
 |.lst l,.int i=>match atI l i with
  |some d=>.ok d
  |none=>.no
 |.tup l,.int i=>match atI l i with
  |some d=>.ok d
  |none=>.no
 |.scr l,.int i=>match atI l i with
  |some d=>.ok (.int d)
  |none=>.no
 |_,_=>.no
theorem zq0{α β:Type}{f:α->β}{l:List α}{i:Int}{d:α}(ed:atI l i=some d):atI (l.map f) i=some (f d):=by
 unfold atI at ed ⊢
 rw[List.length_map]
 cases q:ixN l.length i with
 |none=>rw[q] at ed;cases ed
 |some j =>
  rw[q] at ed
  simp only[Option.bind_some] at ed ⊢
  rw[List.getElem?_map,ed];rfl
theorem zst{K:W.Frag}:Op2 K (fun x y H Q=>rIxL K x y H Q\/rIxT K x y H Q) gIx:=fun G H x y dx dy z Q gh hx hy e k=>by
 unfold gIx at e
 split at e
 ·split at e
  ·rename_i d ed
   cases e
   obtain ⟨a,vs,rfl,h1,h2⟩:=zaG hx
   obtain ⟨v,e1,e2⟩:=zhf h2 ed
   exact .inl ⟨a,vs,_,v,rfl,zaz hy,SqL.of (gh _ _ h1),e1,k v G H (.refl gh) e2⟩
  ·cases e
 ·split at e
  ·rename_i d ed
   cases e
   obtain ⟨a,vs,rfl,h1,h2⟩:=zbi hx
   obtain ⟨v,e1,e2⟩:=zhf h2 ed
   exact .inr ⟨a,vs,_,v,rfl,zaz hy,za1 gh h1,e1,k v G H (.refl gh) e2⟩
  ·cases e
 ·split at e
  ·rename_i d ed
   cases e
   obtain ⟨a,rfl,h1⟩:=zj0 hx
   exact .inl ⟨a,_,_,.int d,rfl,zaz hy,gh.seq h1,zq0 ed,k _ G H (.refl gh) (za3 _)⟩
  ·cases e
 ·cases e
theorem zpX:zjF gIx:=fun x y n h=>by unfold gIx at h;split at h <;> first|cases h|(split at h <;> cases h)
theorem zcq{a b:Expr}{fa fb:De}(ha:JE X C a fa)(hb:JE X C b fb)(hs:zhC b:=by exact fun _ _=>rfl):JE X C (.Subscript a b pos) (dOp gIx fa fb) :=
 PE.weak (zq1 (zkk.or ztc) ha hb hs) fun σ H Q h=>zhl zst zpX h
end
theorem Rel.mutate{K:W.Frag}{C:Cn}{σ:L2.St}{G H:Hp}{w:Wn}{ρ:Ev}{i:Nat}{ds ds':List Dt}{a:Addr}{vs':List V}(r:Rel K C G w ρ σ H)(hi:ρ[i]? = some (some (.own ds)))(hv:σ[i]? = some (some (.ref a)))(hw:w a=some i)(h':zay K G ds' vs') :
  Rel K C G w (ρ.set i (some (.own ds'))) σ (upd H a (.lst vs'))/\zbe G H w G (upd H a (.lst vs')) w:=by
 have ga:G a=none:=r.wg a (by rw[hw];simp)
 have st:zbe G H w G (upd H a (.lst vs')) w:=by
  refine ⟨.refl _,fun b o e=>.inl (by rw[e];simp),fun b o e z=>?_,fun _ e=>.inl e,fun b e=>?_⟩
  ·have:b≠a:=fun q=>by subst q;rw[hw] at z;cases z
   rw[zae this];exact e
  ·by_cases hb:b=a
   ·subst hb;rw[zah] at e;cases e
   ·rw[zae hb] at e;exact e
 refine ⟨⟨fun b o e=>?_,r.wg,fun b e=>?_,by simpa using r.len,fun j b e=>?_,r.en.trans st,r.pin⟩,st⟩
 ·rw[zae (zaf e ga)];exact r.gh b o e
 ·by_cases hb:b=a
  ·subst hb;rw[zah];simp
  ·rw[zae hb];exact r.wh b e
 ·by_cases hj:j=i
  ·subst hj
   rw[List.getElem?_set_self (List.getElem?_eq_some_iff.mp hi).1] at e
   cases e
   exact ⟨_,hv,a,vs',rfl,hw,zah,h'⟩
  ·rw[List.getElem?_set_ne (Ne.symm hj)] at e
   obtain ⟨v',h1,h2⟩:=r.sl j b e
   refine ⟨v',h1,h2.grow (.refl _) fun b' o e1 e2=>⟨?_,e1⟩⟩
   have:b'≠a:=fun z=>by subst z;rw[hw] at e1;exact hj (Option.some.inj e1).symm
   rw[zae this];exact e2
section
variable{X:Cx}{C:Cn}{e:Expr}{fa:De}{pos ps apos:Pos}{x:Str}
theorem zcN{K:W.Frag}{σ:L2.St}{G H:Hp}{w:Wn}{ρ:Ev}{i:Nat}{ds:List Dt}(r:Rel K C G w ρ σ H)(e:ρ[i]? = some (some (.own ds))):∃ a vs,σ[i]? = some (some (.ref a))/\w a=some i/\H a=some (.lst vs)/\zay K G ds vs:=by
 obtain ⟨v,h1,a,vs,rfl,h2,h3,h4⟩:=r.sl i _ e
 exact ⟨a,vs,h1,h2,h3,h4⟩
def zda(i:Nat)(fa:De):De:=fun ρ=>match ρ[i]? with
 |some (some (.own _))=>(fa ρ).bind fun a=>match a.2[i]? with
  |some (some (.own ds))=>if ds.length<16777216 then .ok (.non,a.2.set i (some (.own (ds++[a.1])))) else .no
  |_=>.no
 |_=>.no
theorem zdS:sizeLine=16777216:=by decide
theorem zho(i:Nat)(ha:JE X C e fa)(hN:X.N[i]? = some x:=by rfl)(hv:Vis X.env.scope x:=by first|exact Or.inl rfl|exact Or.inr (Or.inl rfl)|exact Or.inr (Or.inr rfl))(hd:(x == ("__debug__" : Str))=false:=by decide)(hcd:(x == ("__classdict__" : Str))=false:=by decide)
  (hbase:attributeBase (.Name x ps) "append" X.env (eval (.Name x ps) X.env)=eval (.Name x ps) X.env:=by rfl)
  (hfew:((backTo pos (starEach [e] X.env)).all (fun x=>!x.1) && (backToKw pos (keywordEach [] X.env)).all (fun x=>x.1.isSome) && decide ([e].length+([]:List Keyword).length+(if ([]:List Keyword).isEmpty then 0 else 1)<30))=true:=by rfl)
  (hline:(apos.endLine == pos.line)=true:=by rfl) (hs:starEach [e] X.env=(false,eval e X.env)::starEach [] X.env:=by rfl) (hplain:(backTo pos (starEach [] X.env)).any (·.1)=false:=by rfl) :
  JE X C (.Call (.Attribute (.Name x ps) "append" apos) [e] [] pos) (zda i fa) :=
 PE.weak (zoK PySem.F.plainAttrs_list PySem.F.slot_list_append PySem.F.type_list_append zeD (zbB hN hv hd hcd) (zaP ha zc8 hs) hbase hfew hline hs hplain) fun σ H Q ⟨G,w,ρ,r,p⟩=>by
  unfold zda at p
  split at p
  ·rename_i ds0 e0
   obtain ⟨a,vs,h1,h2,h3,h4⟩:=zcN r e0
   refine ⟨.ref a,h1,.inl ⟨rfl,vs,SqL.of h3⟩,?_⟩
   refine zeA (κ:=fun G H w=>kE X.K C σ Q G H w) zcz r p fun d ρ1 v G1 H1 w1 r1 s1 q1 p1=>?_
   dsimp only at p1
   split at p1
   ·rename_i ds e1
    obtain ⟨a',vs',k1,k2,k3,k4⟩:=zcN r1 e1
    rw[h1] at k1;cases k1
    split at p1
    ·rename_i hl
     obtain ⟨r',s'⟩:=r1.mutate e1 h1 k2 (k4.append (zay.cons q1 zay.nil))
     exact ⟨a,vs',v,rfl,rfl,k3,by rw[<- k4.length,zdS];exact hl,p1 _ _ _ _ s' r' (by unfold Rep;rfl)⟩
    ·exact p1.elim
   ·exact p1.elim
  ·exact p.elim
def zo4(ds:List Dt)(k:Int):Option (Dt×List Dt):=if zgf k=true then match ixN ds.length k with
  |some j=>match ds[j]? with
   |some d=>some (d,ds.eraseIdx j)
   |none=>none
  |none=>none
 else none
def zgV(i:Nat)(fa:De):De:=fun ρ=>match ρ[i]? with
 |some (some (.own _))=>(fa ρ).bind fun a=>match a.2[i]?,a.1 with
  |some (some (.own ds)),.int k=>match zo4 ds k with
   |some z=>.ok (z.1,a.2.set i (some (.own z.2)))
   |none=>.no
  |_,_=>.no
 |_=>.no
theorem zoB(i:Nat)(ha:JE X C e fa)(hN:X.N[i]? = some x:=by rfl)(hv:Vis X.env.scope x:=by first|exact Or.inl rfl|exact Or.inr (Or.inl rfl)|exact Or.inr (Or.inr rfl))(hd:(x == ("__debug__" : Str))=false:=by decide)(hcd:(x == ("__classdict__" : Str))=false:=by decide)
  (hbase:attributeBase (.Name x ps) "pop" X.env (eval (.Name x ps) X.env)=eval (.Name x ps) X.env:=by rfl)
  (hfew:((backTo pos (starEach [e] X.env)).all (fun x=>!x.1) && (backToKw pos (keywordEach [] X.env)).all (fun x=>x.1.isSome) && decide ([e].length+([]:List Keyword).length+(if ([]:List Keyword).isEmpty then 0 else 1)<30))=true:=by rfl)
  (hline:(apos.endLine == pos.line)=true:=by rfl) (hs:starEach [e] X.env=(false,eval e X.env)::starEach [] X.env:=by rfl) (hplain:(backTo pos (starEach [] X.env)).any (·.1)=false:=by rfl) :
  JE X C (.Call (.Attribute (.Name x ps) "pop" apos) [e] [] pos) (zgV i fa) :=
 PE.weak (zoK PySem.F.plainAttrs_list PySem.F.slot_list_pop PySem.F.type_list_pop zpu (zbB hN hv hd hcd) (zaP ha zc8 hs) hbase hfew hline hs hplain) fun σ H Q ⟨G,w,ρ,r,p⟩=>by
  unfold zgV at p
  split at p
  ·rename_i ds0 e0
   obtain ⟨a,vs,h1,h2,h3,h4⟩:=zcN r e0
   refine ⟨.ref a,h1,.inl ⟨rfl,vs,SqL.of h3⟩,?_⟩
   refine zeA (κ:=fun G H w=>kE X.K C σ Q G H w) zcz r p fun d ρ1 v G1 H1 w1 r1 s1 q1 p1=>?_
   dsimp only at p1
   split at p1
   ·rename_i ds k e1
    obtain ⟨a',vs',k1,k2,k3,k4⟩:=zcN r1 e1
    rw[h1] at k1;cases k1
    split at p1
    ·rename_i z ez
     unfold zo4 at ez
     split at ez
     ·rename_i hb
      split at ez
      ·rename_i j ej
       split at ez
       ·rename_i d ed
        cases ez
        obtain ⟨j1,j2,j3,j4⟩:=zkl ej
        obtain ⟨y,y1,y2⟩:=k4.get ed
        obtain ⟨r',s'⟩:=r1.mutate e1 h1 k2 (k4.eraseIdx j)
        have hl:=k4.length
        obtain ⟨b1,b2⟩:=zhD hb
        exact ⟨a,vs',k,j,y,rfl,by rw[zaz q1],k3,by omega,by omega,by rw[<- hl];exact j1,y1,p1 _ _ _ _ s' r' y2⟩
       ·cases ez
      ·cases ez
     ·cases ez
    ·exact p1.elim
   ·exact p1.elim
  ·exact p.elim
end
theorem zqM{X:Cx}{pins:List (Addr×Obj)}{σ:L2.St}{H:Hp}{s:Shared}{a:Addr}{xs:List V}(I:L2.Inv X pins σ H s)(h:zgO X.K H a xs):∃(its:List Value)(n:Nat),zaM xs its/\s.heap.get? a=some { cls:=.type "tuple",data:=.seq its.toArray n }/\xs.length<=sizeLine:=by
 rcases h with h|⟨its,n,h1,h2,h3⟩
 ·obtain ⟨z,its,r,n,e⟩:=(show zcd X.prog X.w H s.heap a (.tup xs) from I.hok a _ h)
  exact ⟨its,n,r,e,z⟩
 ·refine ⟨its.toList,n,h3,by simpa using I.kIn a _ h1,?_⟩
  have:=h3.length
  simp only[Array.length_toList] at this
  omega
def zs0(K:W.Frag):V->List V->Hp->VK->Prop:=fun x vs H Q=>∃ l b xs zs,x=.ref l/\vs=[.ref b]/\H l=some (.lst xs)/\zgO K H b zs/\xs.length+zs.length<=sizeLine/\Q .non (upd H l (.lst (xs++zs)))
section
variable{X:Cx}
theorem zl7:MtM X "list.extend" (zs0 X.K):=by
 intro pins s σ H x vs v us Q I rx rv h
 obtain ⟨l,b,xs,zs,rfl,rfl,hH,hB,hz,q⟩:=h
 cases rx
 obtain ⟨u,rfl,ru⟩:=zaM.one rv
 cases ru
 obtain ⟨z,its,n,r,hl,e⟩:=I.lstM hH
 obtain ⟨its2,n2,r2,e2,z2⟩:=zqM I hB
 have hl2:=r2.length
 have hsz:its.toArray.size+its2.toArray.size<=sizeLine:=by rw[List.size_toArray,List.size_toArray];omega
 have hlong:¬ (!its.toArray.isEmpty && Builtin.List.listTooLong (its.toArray.size+its2.toArray.size))=true:=by
  rw[zkQ hsz,Bool.and_false]
  exact Bool.false_ne_true
 refine PySem.call_meets F.slot_list_extend ⟨_,e,rfl⟩ F.entry_list_extend (F.args_list_extend_2 _ _)
  (AutoSeq1.list_extend_list_tuple_0 l its.toArray n b its2.toArray n2 hlong (by rw[List.size_toArray];omega) (by omega)) ⟨e,e2,?_⟩
 refine ⟨.non,_,I.lset (its':=its++its2) hH e (by simp) (r.append r2) ?_,rfl,q⟩
 rw[List.length_append]
 omega
theorem MtM.or{id:String}{r r':V->List V->Hp->VK->Prop}(h:MtM X id r)(h':MtM X id r'):MtM X id (fun x xs H Q=>r x xs H Q\/r' x xs H Q):=by
 intro pins s σ H x xs v us Q I rx rs q
 rcases q with q|q
 ·exact h pins s σ H x xs v us Q I rx rs q
 ·exact h' pins s σ H x xs v us Q I rx rs q
variable{C:Cn}{e:Expr}{fa fb:De}{pos ps apos:Pos}{x:Str}
def zpE:Dt->Option (List Dt)
 |.lst l=>some l
 |.tup l=>some l
 |_=>none
def zft(i:Nat)(fa:De):De:=fun ρ=>match ρ[i]? with
 |some (some (.own _))=>(fa ρ).bind fun a=>match a.2[i]?,zpE a.1 with
  |some (some (.own ds)),some l=>if ds.length+l.length<=16777216 then .ok (.non,a.2.set i (some (.own (ds++l)))) else .no
  |_,_=>.no
 |_=>.no
theorem zj8(i:Nat)(ha:JE X C e fa)(hN:X.N[i]? = some x:=by rfl)(hv:Vis X.env.scope x:=by first|exact Or.inl rfl|exact Or.inr (Or.inl rfl)|exact Or.inr (Or.inr rfl))(hd:(x == ("__debug__" : Str))=false:=by decide)(hcd:(x == ("__classdict__" : Str))=false:=by decide)
  (hbase:attributeBase (.Name x ps) "extend" X.env (eval (.Name x ps) X.env)=eval (.Name x ps) X.env:=by rfl)
  (hfew:((backTo pos (starEach [e] X.env)).all (fun x=>!x.1) && (backToKw pos (keywordEach [] X.env)).all (fun x=>x.1.isSome) && decide ([e].length+([]:List Keyword).length+(if ([]:List Keyword).isEmpty then 0 else 1)<30))=true:=by rfl)
  (hline:(apos.endLine == pos.line)=true:=by rfl) (hs:starEach [e] X.env=(false,eval e X.env)::starEach [] X.env:=by rfl) (hplain:(backTo pos (starEach [] X.env)).any (·.1)=false:=by rfl) :
  JE X C (.Call (.Attribute (.Name x ps) "extend" apos) [e] [] pos) (zft i fa) :=
 PE.weak (zoK PySem.F.plainAttrs_list PySem.F.slot_list_extend PySem.F.type_list_extend (MtM.or zmy zl7) (zbB hN hv hd hcd) (zaP ha zc8 hs) hbase hfew hline hs hplain) fun σ H Q ⟨G,w,ρ,r,p⟩=>by
  unfold zft at p
  split at p
  ·rename_i ds0 e0
   obtain ⟨a,vs,h1,h2,h3,h4⟩:=zcN r e0
   refine ⟨.ref a,h1,.inl ⟨rfl,vs,SqL.of h3⟩,?_⟩
   refine zeA (κ:=fun G H w=>kE X.K C σ Q G H w) zcz r p fun d ρ1 v G1 H1 w1 r1 s1 q1 p1=>?_
   dsimp only at p1
   split at p1
   ·rename_i ds l e1 el
    obtain ⟨a',vs',k1,k2,k3,k4⟩:=zcN r1 e1
    rw[h1] at k1;cases k1
    split at p1
    ·rename_i hl
     cases d with
     |lst l' =>
      cases el
      obtain ⟨b,us,rfl,b1,b2⟩:=zaG q1
      obtain ⟨r',s'⟩:=r1.mutate e1 h1 k2 (k4.append b2)
      exact .inl ⟨a,b,vs',us,rfl,rfl,k3,r1.gh _ _ b1,by rw[<- k4.length,<- b2.length,zdS];exact hl,p1 _ _ _ _ s' r' (by unfold Rep;rfl)⟩
     |tup l' =>
      cases el
      obtain ⟨b,us,rfl,b1,b2⟩:=zdJ q1
      obtain ⟨r',s'⟩:=r1.mutate e1 h1 k2 (k4.append b2)
      exact .inr ⟨a,b,vs',us,rfl,rfl,k3,b1.same r1.gh,by rw[<- k4.length,<- b2.length,zdS];exact hl,p1 _ _ _ _ s' r' (by unfold Rep;rfl)⟩
     |_=>cases el
    ·exact p1.elim
   ·exact p1.elim
  ·exact p.elim
def zl2(i:Nat):De:=fun ρ=>match ρ[i]? with
 |some (some (.own ds))=>.ok (.int ds.length,ρ)
 |_=>.no
theorem zq8(i:Nat){p:Pos}(hg:Gl X "len")(hm:X.mg "len"=none)(hN:X.N[i]? = some x:=by rfl)(hv:Vis X.env.scope x:=by first|exact Or.inl rfl|exact Or.inr (Or.inl rfl)|exact Or.inr (Or.inr rfl))(hd:(x == ("__debug__" : Str))=false:=by decide)(hcd:(x == ("__classdict__" : Str))=false:=by decide)
  (hs:starEach [.Name x ps] X.env=(false,eval (.Name x ps) X.env)::starEach [] X.env:=by rfl) (hpl:(backTo pos (starEach [] X.env)).any (·.1)=false:=by rfl):JE X C (.Call (.Name "len" p) [.Name x ps] [] pos) (zl2 i) :=
 PE.weak (zdf zfo hg hm PySem.boot_len (zaP (zbB hN hv hd hcd) zc8 hs) (by decide) (by decide) hs hpl) fun σ H Q ⟨G,w,ρ,r,p⟩=>by
  unfold zl2 at p
  split at p
  ·rename_i ds e0
   obtain ⟨a,vs,h1,h2,h3,h4⟩:=zcN r e0
   exact ⟨.ref a,h1,a,vs,rfl,.inl (SqL.of h3),by rw[<- h4.length];exact p _ G H w (.refl _ _ _) r (za3 _)⟩
  ·exact p.elim
def zrA(neg:Bool)(i:Nat)(fb:De):De:=fun ρ=>match ρ[i]? with
 |some (some (.own _))=>(fb ρ).bind fun b=>match b.2[i]? with
  |some (some (.own ds))=>(gEq neg (.lst ds) b.1).bind fun z=>.ok (z,b.2)
  |_=>.no
 |_=>.no
theorem znS{neg:Bool}{i:Nat}{σ:L2.St}{H:Hp}{Q:VK}(h:tE X.K C (zrA neg i fb) σ H Q):tOp (ztn X.K neg) (ztT i) (tE X.K C fb) σ H Q:=by
 obtain ⟨G,w,ρ,r,p⟩:=h
 unfold zrA at p
 split at p
 ·rename_i ds0 e0
  obtain ⟨a,vs,h1,h2,h3,h4⟩:=zcN r e0
  refine ⟨.ref a,h1,?_⟩
  refine zeA (κ:=fun G H w=>kE X.K C σ Q G H w) zcz r p fun d ρ1 v G1 H1 w1 r1 s1 q1 p1=>?_
  dsimp only at p1
  split at p1
  ·rename_i ds e1
   obtain ⟨a',vs',k1,k2,k3,k4⟩:=zcN r1 e1
   rw[h1] at k1;cases k1
   unfold gEq at p1
   split at p1
   ·rename_i hk
    rw[Bool.and_eq_true] at hk
    exact ⟨.lst ds,d,by unfold Rep;exact ⟨a,vs',rfl,k3,k4.same r1.gh⟩,q1.same r1.gh,hk.1,hk.2,p1 _ G1 H1 w1 (.refl _ _ _) r1 (zcx _)⟩
   ·exact p1.elim
  ·exact p1.elim
 ·exact p.elim
variable{b:Expr}
theorem zsT(i:Nat)(hu:X.A.units+64<cLine)(hb:JE X C b fb)(hN:X.N[i]? = some x:=by rfl)(hv:Vis X.env.scope x:=by first|exact Or.inl rfl|exact Or.inr (Or.inl rfl)|exact Or.inr (Or.inr rfl))(hd:(x == ("__debug__" : Str))=false:=by decide)(hcd:(x == ("__classdict__" : Str))=false:=by decide) :
  JT X C (.Compare (.Name x ps) [.NotEq] [b] pos) (dTB (zrA true i fb)):=PT.weak (zke (zp6 hu) (zbB hN hv hd hcd) hb (zgj _)) fun σ H Q h=>znS (zhL h)
def zoZ(neg:Bool)(i:Nat)(fa:De):De:=fun ρ=>(fa ρ).bind fun a=>match a.2[i]? with
 |some (some (.own ds))=>(gIn neg a.1 (.lst ds)).bind fun z=>.ok (z,a.2)
 |_=>.no
theorem zoa{neg:Bool}{i:Nat}{σ:L2.St}{H:Hp}{Q:VK}(h:tE X.K C (zoZ neg i fa) σ H Q):tOp (ztq X.K neg) (tE X.K C fa) (ztT i) σ H Q:=by
 obtain ⟨G,w,ρ,r,p⟩:=h
 refine zeA (κ:=fun G H w=>kE X.K C σ Q G H w) zcz r p fun d ρ1 v G1 H1 w1 r1 s1 q1 p1=>?_
 dsimp only at p1
 split at p1
 ·rename_i ds e1
  obtain ⟨a,vs,k1,k2,k3,k4⟩:=zcN r1 e1
  refine ⟨.ref a,k1,?_⟩
  unfold gIn at p1
  dsimp only at p1
  by_cases hk:(okN 60 d && ds.all (okN 60))=true
  ·rw[if_pos hk] at p1
   rw[Bool.and_eq_true] at hk
   exact ⟨d,ds,q1.same r1.gh,.inl (by unfold Rep;exact ⟨a,vs,rfl,k3,k4.same r1.gh⟩),hk.1,hk.2,p1 _ G1 H1 w1 (.refl _ _ _) r1 (zcx _)⟩
  ·rw[if_neg hk] at p1
   exact False.elim p1
 ·exact False.elim p1
theorem ztf(i:Nat)(hu:X.A.units+65<cLine)(ha:JE X C e fa)(hN:X.N[i]? = some x:=by rfl)(hv:Vis X.env.scope x:=by first|exact Or.inl rfl|exact Or.inr (Or.inl rfl)|exact Or.inr (Or.inr rfl))(hd:(x == ("__debug__" : Str))=false:=by decide)(hcd:(x == ("__classdict__" : Str))=false:=by decide)(hm:behindInMarks .In (.Name x ps)=false:=by rfl) :
  JT X C (.Compare e [.In] [.Name x ps] pos) (dTB (zoZ false i fa)):=PT.weak (zke (zmZ hu) ha (zbB hN hv hd hcd) hm) fun σ H Q h=>zoa (zhL h)
def znv(i:Nat)(fv fk:De):DS:=fun ρ=>(fv ρ).bind fun v=>match v.2[i]? with
 |some (some (.own _))=>(fk v.2).bind fun k=>match k.2[i]?,k.1 with
  |some (some (.own ds)),.int n=>match ixN ds.length n with
   |some j=>.ok (.nx,k.2.set i (some (.own (ds.set j v.1))))
   |none=>.no
  |_,_=>.no
 |_=>.no
theorem zmT(i:Nat){k:Expr}{fk:De}{tp:Pos}(hv:JE X C e fa)(hk:JE X C k fk)(hN:X.N[i]? = some x:=by rfl)(hvi:Vis X.env.scope x:=by first|exact Or.inl rfl|exact Or.inr (Or.inl rfl)|exact Or.inr (Or.inr rfl))(hd:(x == ("__debug__" : Str))=false:=by decide)(hcd:(x == ("__classdict__" : Str))=false:=by decide)
  (ha:∀ v,assign (.Subscript (.Name x ps) k tp) X.env v=(do
   let ov <- holding [v] (eval (.Name x ps) X.env)
   let iv <- holding [v,ov] (eval k X.env)
   standAt tp
   holding [v,ov,iv] (setItem ov iv v)
   release [v,ov,iv] []):=by intro _;rfl)
  (hs:swapsWithSole [.Subscript (.Name x ps) k tp] e pos.line X.env=pure false:=by rfl) (hw:swappedStores [.Subscript (.Name x ps) k tp] e X.env=pure none:=by rfl)
  (h1:(assignEach [.Subscript (.Name x ps) k tp] X.env).map (·.2)=[assign (.Subscript (.Name x ps) k tp) X.env]:=by rfl):JS X C (.Assign [.Subscript (.Name x ps) k tp] e pos) (znv i fa fk) :=
 PS.weak (ztg hv (zsH (zbB hN hvi hd hcd) hk zo2 ha) hs hw h1) fun D σ H ⟨G,w,ρ,r,p⟩=>by
  refine zeA (κ:=fun G H w=>kS X.K C D G H w) zdy r p fun d ρ1 v G1 H1 w1 r1 s1 q1 p1=>?_
  dsimp only at p1
  split at p1
  ·rename_i ds0 e0
   obtain ⟨a,vs,k1,k2,k3,k4⟩:=zcN r1 e0
   refine ⟨.ref a,k1,?_⟩
   refine zeA (κ:=fun G H w=>kS X.K C D G H w) zdy r1 p1 fun d2 ρ2 v2 G2 H2 w2 r2 s2 q2 p2=>?_
   dsimp only at p2
   split at p2
   ·rename_i ds n e2
    obtain ⟨a',vs',m1,m2,m3,m4⟩:=zcN r2 e2
    rw[k1] at m1;cases m1
    split at p2
    ·rename_i j ej
     obtain ⟨r',s'⟩:=r2.mutate e2 k1 m2 (zay.set (q1.same s2.g) j m4)
     exact ⟨a,vs',n,j,rfl,zaz q2,m3,by rw[<- m4.length];exact ej,p2 _ _ _ _ s' r'⟩
    ·exact False.elim p2
   ·exact False.elim p2
  ·exact False.elim p1
end
theorem zd6{env:Env}:∀(names:List (Str×NameKind))(cs:List (Str×Addr)),(∀ y∈names,y.2=.free->∃ c,env.cells.lookup y.1=some c)->(∀ x c,cs.lookup x=some c->env.cells.lookup x=some c) ->
  ∃ cl,(forIn names cs fun (y:Str×NameKind) (r:List (Str×Addr))=>(if (y.2 == NameKind.free)=true then do let a <- cellOf env y.1;pure (ForInStep.yield ((y.1,a)::r)) else pure (ForInStep.yield r):Sem (ForInStep (List (Str×Addr)))))=pure cl /\
   (∀ x c,cl.lookup x=some c->env.cells.lookup x=some c)/\(∀ x c,cs.lookup x=some c->∃ c',cl.lookup x=some c')/\∀ y∈names,y.2=.free->∃ c,cl.lookup y.1=some c
 |[],cs,_,h2=>⟨cs,rfl,h2,fun x c e=>⟨c,e⟩,fun y hy=>by cases hy⟩
 | (n,k)::r,cs,h1,h2=>by
  rw[List.forIn_cons]
  by_cases hk:k=.free
  ·subst hk
   obtain ⟨c,hc⟩:=h1 (n,.free) List.mem_cons_self rfl
   obtain ⟨cl,e1,e2,e3,e4⟩:=zd6 r ((n,c)::cs) (fun y hy=>h1 y (List.mem_cons_of_mem _ hy)) (fun x c' e=>by
    rw[List.lookup_cons] at e
    cases hx:x == n with
    |true=>rw[hx] at e;simp only[Option.some.injEq] at e;subst e;rw[beq_iff_eq.mp hx];exact hc
    |false=>rw[hx] at e;exact h2 x c' e)
   refine ⟨cl,?_,e2,fun x c' e=>?_,fun y hy hf=>?_⟩
   ·simp only[beq_self_eq_true,if_true]
    have:cellOf env n=pure c:=by unfold cellOf;rw[hc]
    rw[this]
    exact e1
   ·refine (e3 x (if x == n then c else c') ?_)
    rw[List.lookup_cons]
    cases hx:x == n with
    |true=>rfl
    |false=>exact e
   ·rcases List.mem_cons.mp hy with rfl|hy
    ·exact e3 n c (by simp[List.lookup_cons])
    ·exact e4 y hy hf
  ·obtain ⟨cl,e1,e2,e3,e4⟩:=zd6 r cs (fun y hy=>h1 y (List.mem_cons_of_mem _ hy)) h2
   refine ⟨cl,?_,e2,e3,fun y hy hf=>?_⟩
   ·have:(k == NameKind.free)=false:=by simpa using hk
    simp only[this,Bool.false_eq_true,if_false]
    exact e1
   ·rcases List.mem_cons.mp hy with rfl|hy
    ·exact absurd hf hk
    ·exact e4 y hy hf
theorem zdC{scope:Scope}{env:Env}(h:∀ y∈scope.names,y.2=.free->∃ c,env.cells.lookup y.1=some c):∃ cl,closureFor scope env=pure cl/\(∀ x c,cl.lookup x=some c->env.cells.lookup x=some c)/\∀ y∈scope.names,y.2=.free->∃ c,cl.lookup y.1=some c:=by
 obtain ⟨cl,e1,e2,_,e4⟩:=zd6 (env:=env) scope.names [] h (fun x c e=>by simp at e)
 refine ⟨cl,?_,e2,e4⟩
 unfold closureFor
 exact (congrArg (fun z:Sem (List (Str×Addr))=>z >>= fun cs=>pure cs) e1).trans rfl
section
variable{prog:Program}{w:World}{A:Around}{R:Result->Shared->Prop}{s:Shared}
theorem zfi{elt target iter:Expr}{ifs:List Expr}{scope:Scope}{pos:Pos}{it acc:Value}{env:Env}(I:Nat->Shared->Prop)
  (turn:∀ n s,I n s->wpAny (model prog w) A (pyNext it) (fun r s₁=>match r with
   |none=>R (.ok .next) s₁
   |some v=>wpAny (model prog w) A (letOwnedTupleGo target it v) (fun _ s₁'=>wpAny (model prog w) A (assign target env v) (fun _ s₂ =>
     wpAny (model prog w) A (forIn ifs true fun c r=>if r=true then do let ok <- isTrue c env (eval c env);pure (ForInStep.yield ok) else pure (ForInStep.yield r)) (fun ok s₃ =>
      if ok=true then wpAny (model prog w) A (eval elt env) (fun x s₄ =>
       wpAny (model prog w) A (call (.builtin "list.append") [acc,x]) (fun _ s₅=>∃ m,m<n/\I m s₅) (fun _ _=>False) s₄) (fun _ _=>False) s₃
      else ∃ m,m<n/\I m s₃) (fun _ _=>False) s₂) (fun _ _=>False) s₁') (fun _ _=>False) s₁) (fun _ _=>False) s)
  (n:Nat) (h:I n s) :
  codeAny (model prog w) A (.compLoop (.ListComp elt [⟨target,iter,ifs,0⟩] scope pos) 0 it acc env) R s:=by
 refine codeAny_loop rfl I (fun n s hI=>?_) n h
 show wpAny _ A ((compTurn (.ListComp elt [⟨target,iter,ifs,0⟩] scope pos) 0 it acc env).onRaise (fun x=>do noteFrame x env;theTreesLotGoes x)) _ _ s
 refine wpAny_noted ?_
 rw[compTurn_list]
 refine wpAny_bind (wpAny_standAt (wpAny_bind (wpAny_mono (turn n s hI) (fun r s₁ h₁=>?_) fun _ _ h'=>h'.elim)))
 cases r with
 |none=>exact wpAny_pure h₁
 |some v =>
  refine wpAny_bind (wpAny_mono h₁ (fun _ s₁' h₁'=>?_) fun _ _ h'=>h'.elim)
  refine wpAny_bind (wpAny_mono h₁' (fun _ s₂ h₂=>wpAny_bind (wpAny_mono h₂ (fun ok s₃ h₃=>?_) fun _ _ h'=>h'.elim)) fun _ _ h'=>h'.elim)
  cases ok with
  |false=>exact wpAny_pure ⟨rfl,h₃⟩
  |true =>
   exact wpAny_bind (wpAny_bind (wpAny_mono h₃ (fun x s₄ h₄=>wpAny_bind (wpAny_mono h₄ (fun _ s₅ h₅=>wpAny_pure (wpAny_pure ⟨rfl,h₅⟩)) fun _ _ h'=>h'.elim)) fun _ _ h'=>h'.elim))
end
def zbS(X:Cx)(N':List Str)(scope:Scope)(cl:List (Str×Addr))(L:Addr)(s:Shared)(H:Hp)(fp:List Addr):Cx where
 prog:=X.prog
 w:=X.w
 K:=X.K
 mg:=X.mg
 base:=X.base
 A:=X.A
 N:=N'
 s₀:=s
 H₀:=H
 env:=compEnvC scope cl L X.env
 outer:=X.stack
 stack:=X.stack
 ex:=fp
 fn:=fun _=>false
 calm:=X.calm
 pn:=[]
 xe:=fun _ _=>False
def zfp(C:Cn)(n:Nat)(G H:Hp)(w:Wn)(σ:L2.St):Cn:=⟨G,H,w,List.range n,σ,fun _=>False,C.xv,false⟩
def zeE(N N':List Str)(names:List (Str×NameKind))(m:Nat):Bool:=decide (N'.length=N.length+m) && (List.range N.length).all fun i=>match N'[i]? with
 |some x=>match names.lookup x with
  |some .free=>N[i]? == some x
  |some .local=>false
  |some .cell=>false
  |_=>true
 |none=>false
theorem zbM{env:Env}{x:Str}:∀{names:List (Str×NameKind)},(names.map fun (n,k)=>if (k == NameKind.free && env.scope.kind == .function && env.kindOf n == some .cell) then (n,NameKind.cell) else (n,k)).lookup x=(names.lookup x).map fun k=>if (k == NameKind.free && env.scope.kind == .function && env.kindOf x == some .cell)=true then .cell else k
 |[]=>rfl
 | (n,k)::r=>by
  have ih:=zbM (env:=env) (x:=x) (names:=r)
  show List.lookup x ((if (k == NameKind.free && env.scope.kind == .function && env.kindOf n == some .cell)=true then (n,NameKind.cell) else (n,k))::_)=_
  cases hx:x == n with
  |true =>
   have e:=beq_iff_eq.mp hx
   subst e
   simp only[List.lookup_cons,beq_self_eq_true,Option.map_some]
   split <;> simp[List.lookup_cons]
  |false =>
   simp only[List.lookup_cons,hx]
   split
   ·simp only[List.lookup_cons,hx];exact ih
   ·simp only[List.lookup_cons,hx];exact ih
theorem zaO{α β:Type} [BEq α] [LawfulBEq α] {x:α} {b:β}:∀{l:List (α×β)},l.lookup x=some b->(x,b)∈l
 |[],h=>by simp at h
 | (n,k)::r,h=>by
  rw[List.lookup_cons] at h
  cases hx:x == n with
  |true=>rw[hx] at h;simp at h;subst h;rw[beq_iff_eq.mp hx];exact List.mem_cons_self
  |false=>rw[hx] at h;exact List.mem_cons_of_mem _ (zaO h)
theorem zfT{scope:Scope}{env:Env}{x:Str}(h:Vis (relabel scope env) x):scope.names.lookup x=some .local\/scope.names.lookup x=some .cell\/scope.names.lookup x=some .free:=by
 have e:(relabel scope env).names.lookup x=_:=zbM (env:=env) (x:=x) (names:=scope.names)
 unfold Vis at h
 rw[e] at h
 cases q:scope.names.lookup x with
 |none=>rw[q] at h;simp at h
 |some k =>
  rw[q] at h
  cases k <;> simp_all
section
variable{X:Cx}{C:Cn}
theorem zja{pins:List (Addr×Obj)}{σ:L2.St}{H:Hp}{s:Shared}{N':List Str}{scope:Scope}{cl:List (Str×Addr)}{m:Nat}{fp:List Addr}{h₁:Heap}{tk:Nat}{mm:Str->Option Value}(I:L2.Inv X pins σ H s)(hf:∀ b∈fp,zgx X pins H b)(ho:∀ b∈fp,∃ o,s.heap.get? b=some o)
  (hb:zeE X.N N' scope.names m=true) (hkind:scope.kind=.function) (hcell:∀ y∈scope.names,y.2≠.cell) (hfr:∀ y∈scope.names,y.2=.free->X.env.kindOf y.1=some .cell\/X.env.kindOf y.1=some .free)
  (hcl:∀ x c,cl.lookup x=some c->X.env.cells.lookup x=some c) (hcf:∀ y∈scope.names,y.2=.free->∃ c,cl.lookup y.1=some c)
  (hns:h₁.Ns s.heap.objs.size mm) (hk:∀ b o,s.heap.get? b=some o->h₁.get? b=some o) :
  L2.Inv (zbS X N' scope cl s.heap.objs.size s H fp) [] (σ++List.replicate m none) H { s with heap:=h₁,toks:=tk }:=by
 have hb1:N'.length=X.N.length+m:=by
  unfold zeE at hb;rw[Bool.and_eq_true] at hb;exact of_decide_eq_true hb.1
 have hb2:∀ i x,i<X.N.length->N'[i]? = some x->Vis (relabel scope X.env) x->X.N[i]? = some x/\scope.names.lookup x=some .free:=fun i x hi e v=>by
  unfold zeE at hb;rw[Bool.and_eq_true,List.all_eq_true] at hb
  have q:=hb.2 i (List.mem_range.mpr hi)
  simp only[e] at q
  rcases zfT v with z|z|z
  ·simp[z] at q
  ·simp[z] at q
  ·simp[z] at q;exact ⟨q,z⟩
 have cellK:∀ c v,s.heap.IsCell c v->h₁.IsCell c v:=fun c v ⟨o,e1,e2⟩=>⟨o,hk c o e1,e2⟩
 refine ⟨⟨I.ok.mod,hkind,I.ok.glob,I.ok.blt,Nat.le_refl _,fun x y c h1 h2=>I.ok.inj x y c (hcl x c h1) (hcl y c h2),fun x hx=>?_,fun x c h _=>absurd h (by simp[zbS]),I.ok.hd,I.ok.frames,.inl rfl,fun b hb=>⟨?_,fun x c e=>(hf b hb).2.2.2.2.1 x c (hcl x c e)⟩,I.bs,Nat.le_trans I.ok.bsz I.sz,fun b o e hb=>?_,fun b hb z=>?_,I.stack,I.stkFree⟩,
  rfl,I.bare,Un.kept hk,⟨mm,hns,fun i x v e1 e2 e3=>?_⟩,fun x c e=>?_,I.hok.fresh (Nat.le_refl _),fun x c e=>I.freeC x c (hcl x c e),fun p hp=>absurd hp (by simp[zbS]),I.hok.kept hk,?_⟩
 ·
  have e:(relabel scope X.env).names.lookup x=_:=zbM (env:=X.env) (x:=x) (names:=scope.names)
  have hx':Vis (relabel scope X.env) x:=hx.elim (fun z=>.inr (.inl z)) fun z=>.inr (.inr z)
  rcases zfT hx' with z|z|z
  ·rw[z] at e
   have hx2:(relabel scope X.env).names.lookup x=some .cell\/(relabel scope X.env).names.lookup x=some .free:=hx
   rw[e] at hx2;simp at hx2
  ·exact absurd rfl (hcell _ (zaO z))
  ·exact hcf _ (zaO z) rfl
 ·intro z
  obtain ⟨o,e⟩:=ho b hb
  exact absurd (Heap.lt_size e) (by rw[z];exact Nat.lt_irrefl _)
 ·rcases (hf b hb).2.2.2.1 with z|z
  ·exact I.ok.noex b o e z
  ·exact absurd (Nat.lt_of_lt_of_le (Heap.lt_size e) (Nat.le_trans I.ok.bsz z)) (Nat.lt_irrefl _)
 ·rcases List.mem_cons.mp (I.stkSub b z) with z|z
  ·exact (hf b hb).2.1 z
  ·exact (hf b hb).2.2.1 z
 ·have hi:i<X.N.length:=by
   by_cases hi:i<X.N.length
   ·exact hi
   ·rw[List.getElem?_append_right (by rw[I.len];omega),List.getElem?_replicate] at e2
    split at e2 <;> cases e2
  rw[List.getElem?_append_left (by rw[I.len];exact hi)] at e2
  obtain ⟨q1,q2⟩:=hb2 i x hi e1 e3
  have hm:=zaO q2
  obtain ⟨m0,hn0,hl0⟩:=I.loc
  have kc:=hfr _ hm rfl
  obtain ⟨u,ru,lk⟩:=hl0 i x v q1 e2 (kc.elim (fun z=>.inr (.inl z)) fun z=>.inr (.inr z))
  refine ⟨u,ru,.inr ⟨?_,?_⟩⟩
  ·have e:(relabel scope X.env).names.lookup x=_:=zbM (env:=X.env) (x:=x) (names:=scope.names)
   show (relabel scope X.env).names.lookup x=some .cell\/(relabel scope X.env).names.lookup x=some .free
   rw[e,q2]
   simp only[Option.map_some]
   split
   ·exact .inl rfl
   ·exact .inr rfl
  ·obtain ⟨c,hc⟩:=hcf _ hm rfl
   refine ⟨c,hc,?_⟩
   rcases lk with ⟨z,_⟩|⟨_,c',e',ic⟩
   ·rcases kc with y|y <;> (rw[y] at z;cases z)
   ·rw[hcl _ _ hc] at e';cases e'
    exact cellK _ _ ic
 ·obtain ⟨v,ic⟩:=I.cell x c (hcl x c e)
  exact ⟨v,cellK _ _ ic⟩
 ·show _=N'.length
  rw[List.length_append,List.length_replicate,I.len,hb1]
theorem zmm{pins:List (Addr×Obj)}{σ σ':L2.St}{H H':Hp}{s s':Shared}{N':List Str}{scope:Scope}{cl:List (Str×Addr)}{fp:List Addr}{L:Addr}{h':Heap}{ps:List (Addr×Obj)}(I:L2.Inv X pins σ H s)(hf:∀ b∈fp,zgx X pins H b)(hL:s.heap.objs.size<=L)
  (J:L2.Inv (zbS X N' scope cl L s H fp) ps σ' H' s') (hs:Heap.SameBut L s'.heap h'):L2.Inv X pins σ H' { s' with heap:=h' }:=by
 have hne:∀ b o,s.heap.get? b=some o->b≠L:=fun b o e z=>by subst z;exact absurd (Nat.lt_of_lt_of_le (Heap.lt_size e) hL) (Nat.lt_irrefl _)
 have hfree:H' L=none:=J.free
 have un:Un (frs X.stack) fp H H' s.heap s'.heap:=J.base
 refine I.call' (s':={ s' with heap:=h' }) (ch:=fp) J.os ⟨fun b o e n h1 h2=>?_,fun b o e n h1 h2=>?_,un.free,fun b o e h2=>?_,un.tups,un.frzs,un.tbls⟩ (fun b o e=>?_) J.bare fun b hb=>⟨(hf b hb).2.2.2.1,(hf b hb).2.1,(hf b hb).2.2.2.2.1,(hf b hb).2.2.2.2.2⟩
 ·exact (hs.2 b (hne b o e)).trans (un.keep b o e n h1 h2)
 ·obtain ⟨sl,q⟩:=un.slot b o e n h1 h2
  exact ⟨sl,(hs.2 b (hne b o e)).trans q⟩
 ·obtain ⟨o',q⟩:=un.there b o e h2
  exact ⟨o',(hs.2 b (hne b o e)).trans q⟩
 ·refine (J.hok b o e).stay (fun c v hc q=>(hs.2 c ?_).trans q) (fun _ q=>q) fun _ _ q=>q
  intro z
  subst z
  rcases hc with z|z
  ·subst z;rw[hfree] at e;cases e
  ·rw[hfree] at z;cases z
end
def zbr(g:DG)(ft:DT)(fe:De):List Dt->Ev->R (List Dt×Ev)
 |[],ρ=>.ok ([],ρ)
 |d::r,ρ=>(g d ρ).bind fun ρ1=>(ft ρ1).bind fun t=>if t.1=true then (fe t.2).bind fun y=>(zbr g ft fe r y.2).bind fun z=>.ok (y.1::z.1,z.2) else zbr g ft fe r t.2
def zbh(fi:DA)(g:DG)(ft:DT)(fe:De)(m:Nat):DN:=fun ρ=>(fi ρ).bind fun a=>if zcK a.1=true then match zbr g ft fe a.1 (a.2++List.replicate m none) with
  |.ok z=>.ok (z.1,z.2.take a.2.length)
  |_=>.no
 else .no
theorem zcC{α β:Type}{r:R α}{f:α->R β}{b:β}(h:r.bind f=.ok b):∃ a,r=.ok a/\f a=.ok b:=by
 cases r with
 |ok a=>exact ⟨a,rfl,h⟩
 |er n=>cases h
 |no=>cases h
def JTs(X:Cx)(C:Cn)(ifs:List Expr)(ft:DT):Prop :=
 ∀(pins:List (Addr×Obj))(s:Shared)(σ:L2.St)(H:Hp)(Q:Bool->Hp->Prop),L2.Inv X pins σ H s->tT X.K C ft σ H Q ->
  wpAny (model X.prog X.w) X.A (forIn ifs true fun c r=>if r=true then do let ok <- isTrue c X.env (eval c X.env);pure (ForInStep.yield ok) else pure (ForInStep.yield r)) (TP X pins σ Q) X.xe s
def dTT:DT:=fun ρ=>.ok (true,ρ)
abbrev Hce(scope:Scope):Prop:=∀ y∈scope.names,y.2≠.cell
abbrev Hfr(X:Cx)(scope:Scope):Prop:=∀ y∈scope.names,y.2=.free->X.env.kindOf y.1=some .cell\/X.env.kindOf y.1=some .free
abbrev Hnm(scope:Scope):Prop:=∀ y∈scope.names,y.2=.local->scope.names.lookup y.1=some .local
abbrev Hbk(X:Cx)(C:Cn)(N':List Str)(scope:Scope)(tg:Expr)(ifs:List Expr)(elt:Expr)(g:DG)(ft:DT)(fe:De):Prop:=∀ cl L s H fp G H' w σ,JG (zbS X N' scope cl L s H fp) (zfp C X.N.length G H' w σ) tg g/\JTs (zbS X N' scope cl L s H fp) (zfp C X.N.length G H' w σ) ifs ft/\JE (zbS X N' scope cl L s H fp) (zfp C X.N.length G H' w σ) elt fe
abbrev nL(s2:Shared):Heap:=s2.heap.push { cls:=.type "list",dict:=none,data:=.seq ([]:List Value).toArray }
def PTs(X:Cx)(ifs:List Expr)(t:TT):Prop :=
 ∀(pins:List (Addr×Obj))(s:Shared)(σ:L2.St)(H:Hp)(Q:Bool->Hp->Prop),L2.Inv X pins σ H s->t σ H Q ->
  wpAny (model X.prog X.w) X.A (forIn ifs true fun c r=>if r=true then do let ok <- isTrue c X.env (eval c X.env);pure (ForInStep.yield ok) else pure (ForInStep.yield r)) (TP X pins σ Q) X.xe s
section
variable{X:Cx}{C:Cn}
theorem zfI:JTs X C [] dTT:=fun pins s σ H Q I ⟨G,w,ρ,r,p⟩=>wpAny_tests_nil ⟨H,I,p G H w (.refl _ _ _) r⟩
theorem zhe{c:Expr}{ft:DT}(h:JT X C c ft):JTs X C [c] ft:=fun pins s σ H Q I t=>wpAny_tests_one (h pins s σ H Q I t)
theorem Rel.upd_new{K:W.Frag}{σ:L2.St}{G H:Hp}{w:Wn}{ρ:Ev}{p:Addr}{o:HO}(r:Rel K C G w ρ σ H)(hg:G p=none)(hw:w p=none)(h0:C.H₀ p=none):Rel K C G w ρ σ (upd H p o):=by
 refine ⟨fun b u e=>?_,r.wg,fun b e=>?_,r.len,fun i b e=>?_,⟨r.en.g,r.en.fr,fun b u e z=>?_,r.en.w,fun b e=>?_⟩,r.pin⟩
 ·rw[zae (zaf e hg)];exact r.gh b u e
 ·by_cases hb:b=p
  ·subst hb;rw[zah];simp
  ·rw[zae hb];exact r.wh b e
 ·obtain ⟨v,h1,h2⟩:=r.sl i b e
  refine ⟨v,h1,h2.grow (.refl _) fun a u e1 e2=>⟨?_,e1⟩⟩
  have:a≠p:=fun z=>by subst z;rw[hw] at e1;cases e1
  rw[zae this];exact e2
 ·rw[zae (zaf e h0)];exact r.en.h b u e z
 ·by_cases hb:b=p
  ·subst hb;exact h0
  ·rw[zae hb] at e;exact r.en.k b e
theorem zbe.keep{G H G' H':Hp}{w w':Wn}{p:Addr}{o:HO}(s:zbe G H w G' H' w')(hg:G p=none)(hw:w p=none)(hp:H p=some o):G' p=none/\w' p=none/\H' p=some o:=by
 refine ⟨?_,?_,s.h p o hp hw⟩
 ·cases q:G' p with
  |none=>rfl
  |some u =>
   rcases s.fr p u q with z|z|z
   ·exact absurd hg z
   ·rw[hp] at z;cases z
   ·exact absurd hw z
 ·cases q:w' p with
  |none=>rfl
  |some k =>
   rcases s.w p (by rw[q];simp) with z|z
   ·exact absurd hw z
   ·rw[hp] at z;cases z
structure zlh(X:Cx)(pins:List (Addr×Obj))(H:Hp)(L:Addr)(s:Shared):Prop where
 fr:H L=none
 nl:L≠X.env.locals
 nw:L∈X.ex\/X.s₀.heap.objs.size<=L
 nc:∀ x c,X.env.cells.lookup x=some c->c≠L
 np:∀ p∈X.pn++pins,p.1≠L
 ns:∃ m,s.heap.Ns L m
theorem znD{tg iter elt:Expr}{ifs:List Expr}{scope:Scope}{pos:Pos}{N':List Str}{m n:Nat}{tgt:TG}{tts:TT}{te:TE}(hc:X.calm=true)(hb:zeE X.N N' scope.names m=true)
  (hkind:scope.kind=.function) (hcell:Hce scope) (hfr:Hfr X scope)
  {pins:List (Addr×Obj)} {σ:L2.St} {s2:Shared} {cl:List (Str×Addr)} {RR:Value->Addr->Result->Shared->Prop} {E:Value->Shared->Prop}
  (hblk:∀ L s H fp,L2.Inv X pins σ H s->(∀ b∈fp,zgx X pins H b)->s.heap.objs.size<=L->PG (zbS X N' scope cl L s H fp) tg tgt/\PTs (zbS X N' scope cl L s H fp) ifs tts/\PE (zbS X N' scope cl L s H fp) elt te)
  (hcl:∀ x c,cl.lookup x=some c->X.env.cells.lookup x=some c) (hcf:∀ y∈scope.names,y.2=.free->∃ c,cl.lookup y.1=some c)
  {it:Addr} {fp:List Addr} {tn:Nat->Heap->Prop} {J:It} {H2:Hp} (I2:L2.Inv X pins σ H2 s2) (T:zlV X.prog X.w X.K tg J fp it tn) (st2:tn 0 s2.heap) (f2:∀ b∈fp,zgx X pins H2 b)
  (W:Addr->Nat->L2.St->Hp->List V->Prop) (w0:∀ D,H2 D=none->W D 0 (σ++List.replicate m none) (upd H2 D (.lst [])) [])
  (hstep:∀ D i σ' H' vs,H2 D=none->W D i σ' H' vs->H' D=some (.lst vs)->i<n->J.go i H'/\∀ x H7,J.yld i H' x H7->tgt x σ' H7 fun σ8 H8=>tts σ8 H8 fun b H9=>if b=true then te σ8 H9 fun v H10=>H10 D=some (.lst vs)/\vs.length<sizeLine/\W D (i+1) σ8 (upd H10 D (.lst (vs++[v]))) (vs++[v]) else H9 D=some (.lst vs)/\W D (i+1) σ8 H9 vs)
  (hstop:∀ D σ' H' vs,W D n σ' H' vs->J.stop n H')
  (fin:∀(D L:Addr)(s':Shared)(vs:List V)(σ':L2.St)(H':Hp),L2.Inv X pins σ H' s'->zlh X pins H' L s'->H2 D=none->H' D=some (.lst vs)->σ'.length=X.N.length+m->W D n σ' H' vs->RR (.ref D) L (.ok .next) s') :
  wpAny (model X.prog X.w) X.A (newList []) (fun acc s₃=>wpAny (model X.prog X.w) X.A (newFunctionEnv scope X.env.globals cl [] X.env.qual none .none (some X.env)) (fun cenv s₄ =>
   codeAny (model X.prog X.w) X.A (.compStart (.ListComp elt [⟨tg,iter,ifs,0⟩] scope pos) 0 (.ref it) acc { cenv with scope:=relabel scope X.env }) (RR acc cenv.locals) s₄) E s₃) E s2:=by
 have hD:H2 s2.heap.objs.size=none:=I2.hok.fresh (Nat.le_refl _)
 refine wpAny_newObj_type (wpAny_newFunctionEnv hcell (by intro y hy;simp at hy) (fun h₁ hns₁ hsb₁=>?_) hkind)
 dsimp only at hns₁ hsb₁ ⊢
 have I3:L2.Inv X pins σ (upd H2 s2.heap.objs.size (.lst [])) { s2 with heap:=nL s2 } :=
  I2.laid (t':=s2.toks) (fun b u e=>Heap.get?_push_of_some _ e) (Nat.le_refl _) ⟨Nat.zero_le _,[],0,.nil,Heap.get?_push_size _ rfl⟩
 have hob:∀ b∈fp,∃ o,s2.heap.get? b=some o:=fun b hb=>let ⟨o,e,_⟩:=T.obj 0 _ st2 b hb;⟨o,e⟩
 have hbD:∀ b∈fp,b≠s2.heap.objs.size:=fun b hb z=>by obtain ⟨o,e⟩:=hob b hb;exact absurd (Heap.lt_size e) (by rw[z];exact Nat.lt_irrefl _)
 have f3:∀ b∈fp,zgx X pins (upd H2 s2.heap.objs.size (.lst [])) b:=fun b hb=>⟨by rw[zae (hbD b hb)];exact (f2 b hb).1,(f2 b hb).2⟩
 have hk3:∀ b o,(nL s2).get? b=some o->h₁.get? b=some o:=fun b o e =>
  (hsb₁.2 b (Nat.ne_of_lt (Heap.lt_size e))).trans (Heap.get?_push_of_some _ e)
 have J4:=zja (N':=N') (scope:=scope) (cl:=cl) (m:=m) (fp:=fp) (tk:=s2.toks+([]:List (Str×Value)).length) I3 f3 (fun b hb=>by obtain ⟨o,e⟩:=hob b hb;exact ⟨o,Heap.get?_push_of_some _ e⟩) hb hkind hcell hfr hcl hcf hns₁ hk3
 have st4:tn 0 h₁:=T.keep _ _ _ st2 fun b hb o e=>hk3 b o (Heap.get?_push_of_some _ e)
 generalize hX':zbS X N' scope cl (nL s2).objs.size { s2 with heap:=nL s2 } (upd H2 s2.heap.objs.size (.lst [])) fp=X' at J4
 have eP:X'.prog=X.prog:=by rw[<- hX'];rfl
 have eW:X'.w=X.w:=by rw[<- hX'];rfl
 have eK:X'.K=X.K:=by rw[<- hX'];rfl
 have eA:X'.A=X.A:=by rw[<- hX'];rfl
 have eC:X'.calm=true:=by rw[<- hX'];exact hc
 have eE:X'.xe=fun _ _=>False:=by rw[<- hX'];rfl
 have ePn:X'.pn=[]:=by rw[<- hX'];rfl
 have eN:X'.N.length=X.N.length+m:=by
  rw[<- hX'];show N'.length=_
  unfold zeE at hb;rw[Bool.and_eq_true] at hb;exact of_decide_eq_true hb.1
 have eEx:X'.ex=fp:=by rw[<- hX'];rfl
 have hlenσ:σ.length=X.N.length:=I2.len
 obtain ⟨hg,hts,he⟩:=hblk (nL s2).objs.size { s2 with heap:=nL s2 } (upd H2 s2.heap.objs.size (.lst [])) fp I3 f3 (Nat.le_refl _)
 rw[hX'] at hg hts he
 have stat:∀{H':Hp},(∀ b∈fp,H' b=none)->∀ b∈fp,zgx X' [] H' b:=fun hn b hb=>by
  have q:=J4.ok.exf b (by rw[eEx];exact hb)
  exact ⟨hn b hb,q.1,J4.ok.exfs b (by rw[eEx];exact hb),.inl (by rw[eEx];exact hb),q.2,fun p hp=>by rw[ePn] at hp;simp at hp⟩
 have loop:∀ s₃:Shared,s₃={ s2 with heap:=h₁,toks:=s2.toks+([]:List (Str×Value)).length } ->
   codeAny (model X.prog X.w) X.A (.compLoop (.ListComp elt [⟨tg,iter,ifs,0⟩] scope pos) 0 (.ref it) (.ref s2.heap.objs.size) X'.env) (RR (.ref s2.heap.objs.size) (nL s2).objs.size) s₃:=by
  rintro s₃ rfl
  refine zfi (fun k s'=>∃ i σ' H' vs,L2.Inv X' [] σ' H' s'/\tn i s'.heap/\(∀ b∈fp,H' b=none)/\k=n-i/\i<=n/\H' s2.heap.objs.size=some (.lst vs)/\W s2.heap.objs.size i σ' H' vs) ?_ n
   ⟨0,σ++List.replicate m none,_,[],J4,st4,fun b hb=>(f3 b hb).1,by simp,Nat.zero_le _,zah,w0 _ hD⟩
  rintro k s' ⟨i,σ',H',vs,J5,st5,fr5,rfl,hil,hd5,q5⟩
  by_cases hlt:i<n
  ·obtain ⟨go,yl⟩:=hstep _ i σ' H' vs hD q5 hd5 hlt
   have hIt:=T.item X' eP eW eK eC i [] s' σ' H' (fun _ _=>False) J5 (stat fr5) st5 go
   rw[eA] at hIt
   refine thn hIt fun rr s6 ⟨u,hr,h6⟩=>?_
   subst hr
   refine thn h6 fun _ s7 ⟨x,H7,J7,rx7,y7,st7,fr7⟩=>?_
   have q7:=yl x H7 y7
   have J7':=J7.pinned (stat fr7) (T.obj _ _ st7)
   have hG:=hg ([]++zcA fp s7.heap) s7 σ' H7 x u _ J7' rx7 q7
   rw[eP,eW,eA,eE] at hG
   refine thn hG fun _ s8 ⟨σ8,H8,J8,q8⟩=>?_
   have hT:=hts ([]++zcA fp s7.heap) s8 σ8 H8 _ J8 q8
   rw[eP,eW,eA,eE] at hT
   refine thn hT fun ok s9 ⟨H9,J9,q9⟩=>?_
   have after:∀{σa:L2.St}{Ha:Hp}{sa:Shared},L2.Inv X' ([]++zcA fp s7.heap) σa Ha sa->tn (i+1) sa.heap/\∀ b∈fp,Ha b=none:=fun {σa Ha sa} Ja =>
    ⟨T.keep _ _ _ st7 fun b hb o e=>(Ja.pin (b,o) (List.mem_append_right _ (List.mem_append_right _ (zck hb e)))).1,fun b hb=>by
     obtain ⟨o,e,_⟩:=T.obj _ _ st7 b hb
     exact (Ja.pin (b,o) (List.mem_append_right _ (List.mem_append_right _ (zck hb e)))).2.1⟩
   cases ok with
   |false =>
    rw[if_neg Bool.false_ne_true]
    rw[if_neg Bool.false_ne_true] at q9
    obtain ⟨k1,k2⟩:=after J9
    exact ⟨n-(i+1),by omega,i+1,σ8,H9,vs,J9.unpinned,k1,k2,rfl,hlt,q9.1,q9.2⟩
   |true =>
    rw[if_pos rfl]
    rw[if_pos rfl] at q9
    have hEl:=he ([]++zcA fp s7.heap) s9 σ8 H9 _ J9 q9
    rw[eP,eW,eA,eE] at hEl
    refine thn hEl fun xv s10 ⟨vy,H10,J10,ry,q10⟩=>?_
    have hAp:=zeD (X:=X') ([]++zcA fp s7.heap) s10 σ8 H10 (.ref s2.heap.objs.size) [vy] (.ref s2.heap.objs.size) [xv] (fun v H11=>H11=upd H10 s2.heap.objs.size (.lst (vs++[vy]))) J10 rfl (.cons ry .nil)
     ⟨s2.heap.objs.size,vs,vy,rfl,rfl,q10.1,q10.2.1,rfl⟩
    rw[eP,eW,eA,eE] at hAp
    refine thn hAp fun _ s11 ⟨v11,H11,J11,_,e11⟩=>?_
    subst e11
    obtain ⟨k1,k2⟩:=after J11
    exact ⟨n-(i+1),by omega,i+1,σ8,_,vs++[vy],J11.unpinned,k1,k2,rfl,hlt,zah,q10.2.2⟩
  ·have e:i=n:=by omega
   subst e
   have hDn:=T.done X' eP eW eK eC i [] s' σ' H' (fun _ _=>False) J5 (stat fr5) st5 (hstop _ _ _ _ q5)
   rw[eA] at hDn
   refine thn hDn fun rr s6 ⟨hr,J6⟩=>?_
   subst hr
   have hl6:σ'.length=X.N.length+m:=by rw[J6.len,eN]
   obtain ⟨m6,hn6,_⟩:=id J6.loc
   have eL:X'.env.locals=(nL s2).objs.size:=by rw[<- hX'];rfl
   rw[eL] at hn6
   have frL:H' (nL s2).objs.size=none:=by rw[<- eL];exact J6.free
   rw[<- hX'] at J6
   have IX:L2.Inv X pins σ H' s6:=zmm (h':=s6.heap) I3 f3 (Nat.le_refl _) J6 ⟨rfl,fun _ _=>rfl⟩
   have hLs:∀ b o,(nL s2).get? b=some o->(nL s2).objs.size≠b:=fun b o e z=>absurd (Heap.lt_size e) (by rw[z];exact Nat.lt_irrefl _)
   have lo:zlh X pins H' (nL s2).objs.size s6:=by
    refine ⟨frL,fun z=>?_,.inr I3.sz,fun x c e z=>?_,fun p hp z=>?_,m6,hn6⟩
    ·exact absurd I3.lt (by rw[<- z];exact Nat.lt_irrefl _)
    ·obtain ⟨v,q⟩:=I3.cell x c e
     exact absurd q.lt (by rw[z];exact Nat.lt_irrefl _)
    ·exact hLs p.1 p.2 (I3.pin p hp).1 z.symm
   exact fin _ _ s6 vs σ' H' IX lo hD hd5 hl6 q5
 have envEq:X'.env=compEnvC scope cl (nL s2).objs.size X.env:=by rw[<- hX'];rfl
 rw[envEq] at loop
 exact codeAny_compStart_list (loop _ rfl) (T.self X.A 0 _ _ _ st4 (loop _ rfl))
theorem zpj{tg iter elt:Expr}{ifs:List Expr}{scope:Scope}{pos:Pos}{N':List Str}{m:Nat}{g:DG}{ft:DT}{fe:De}(hc:X.calm=true)(hb:zeE X.N N' scope.names m=true)
  (hkind:scope.kind=.function) (hcell:Hce scope) (hfr:Hfr X scope)
  (hblk:Hbk X C N' scope tg ifs elt g ft fe)
  {pins:List (Addr×Obj)} {σ:L2.St} {s2:Shared} {cl:List (Str×Addr)} {RR:Value->Addr->Result->Shared->Prop} {E:Value->Shared->Prop}
  (hcl:∀ x c,cl.lookup x=some c->X.env.cells.lookup x=some c) (hcf:∀ y∈scope.names,y.2=.free->∃ c,cl.lookup y.1=some c)
  {it:Addr} {fp:List Addr} {tn:Nat->Heap->Prop} {J:It} {H2:Hp} (I2:L2.Inv X pins σ H2 s2) (T:zlV X.prog X.w X.K tg J fp it tn) (st2:tn 0 s2.heap) (f2:∀ b∈fp,zgx X pins H2 b)
  {ds zs:List Dt} {ρ1 ρf:Ev} {G1:Hp} {w1:Wn} (r1:Rel X.K C G1 w1 ρ1 σ H2) (Ko:Ev->Prop) (k0:Ko (ρ1++List.replicate m none)) (hko:∀ d ρ ρ3 b ρ4,Ko ρ->g d ρ=.ok ρ3->ft ρ3=.ok (b,ρ4)->Ko ρ4/\∀ y ρ5,fe ρ4=.ok (y,ρ5)->Ko ρ5)
  (it1:∀ i ρ' G' w' σ' H',Rel X.K (zfp C X.N.length G1 H2 w1 (σ++List.replicate m none)) G' w' ρ' σ' H'->Ko ρ'->(∀ d,ds[i]? = some d->J.go i H'/\∀ x H7,J.yld i H' x H7->∃ G7,zdz G' H' G7 H7/\Rep X.K G7 d x)/\(ds.length<=i->J.stop i H')) (hfi:zcK ds=true) (ec:zbr g ft fe ds (ρ1++List.replicate m none)=.ok (zs,ρf))
  (fin:∀(D L:Addr)(s':Shared)(vs:List V)(G' H':Hp)(w':Wn),L2.Inv X pins σ H' s'->zlh X pins H' L s'->zbe G1 H2 w1 G' H' w'->Rel X.K C G' w' (ρf.take ρ1.length) σ H'->H2 D=none->H' D=some (.lst vs)->G' D=none->w' D=none->zay X.K G' zs vs->RR (.ref D) L (.ok .next) s') :
  wpAny (model X.prog X.w) X.A (newList []) (fun acc s₃=>wpAny (model X.prog X.w) X.A (newFunctionEnv scope X.env.globals cl [] X.env.qual none .none (some X.env)) (fun cenv s₄ =>
   codeAny (model X.prog X.w) X.A (.compStart (.ListComp elt [⟨tg,iter,ifs,0⟩] scope pos) 0 (.ref it) acc { cenv with scope:=relabel scope X.env }) (RR acc cenv.locals) s₄) E s₃) E s2:=by
 generalize hC':zfp C X.N.length G1 H2 w1 (σ++List.replicate m none)=C' at it1
 have c0:C'.H₀=H2:=by rw[<- hC'];rfl
 have hlenσ:σ.length=X.N.length:=I2.len
 refine znD (iter:=iter) (pos:=pos) (n:=ds.length) (tgt:=tG X.K C' g) (tts:=tT X.K C' ft) (te:=tE X.K C' fe) hc hb hkind hcell hfr (fun L s H fp _ _ _=>by
  obtain ⟨a1,a2,a3⟩:=hblk cl L s H fp G1 H2 w1 (σ++List.replicate m none)
  rw[hC'] at a1 a2 a3
  exact ⟨a1,a2,a3⟩) hcl hcf I2 T st2 f2
  (fun D i σ' H' vs=>∃ ρ' G' w' ac,Rel X.K C' G' w' ρ' σ' H'/\G' D=none/\w' D=none/\zay X.K G' ac vs/\ac.length<=i/\Ko ρ'/\∃ z,zbr g ft fe (ds.drop i) ρ'=.ok z/\ac++z.1=zs/\z.2 = ρf) (fun D hD=>?_) (fun D i σ' H' vs hD ⟨ρ',G',w',ac,r5,gd5,wd5,q5,hac,ko,z,ez,ez1,ez2⟩ hd5 hlt=>?_) (fun D σ' H' vs ⟨ρ',G',w',ac,r5,_,_,_,_,ko,_⟩=>(it1 _ _ _ _ _ _ r5 ko).2 (Nat.le_refl _)) fun D L s' vs σ' H' IX lo hD hd5 hl6 ⟨ρ',G',w',ac,r5,gd5,wd5,q5,hac,_,z,ez,ez1,ez2⟩=>?_
 ·have w0:w1 D=none:=by
   cases q:w1 D with
   |none=>rfl
   |some k=>exact absurd hD (r1.wh _ (by rw[q];simp))
  have base:Rel X.K C' G1 w1 (ρ1++List.replicate m none) (σ++List.replicate m none) H2:=by
   refine ⟨r1.gh,r1.wg,r1.wh,by simp[r1.len],fun i b e=>?_,by rw[<- hC'];exact .refl _ _ _,fun i _=>by rw[<- hC'];rfl⟩
   have hi':i < ρ1.length:=by
    by_cases hi':i < ρ1.length
    ·exact hi'
    ·rw[List.getElem?_append_right (by omega),List.getElem?_replicate] at e
     split at e <;> cases e
   rw[List.getElem?_append_left hi'] at e
   obtain ⟨v,h1,h2⟩:=r1.sl i b e
   exact ⟨v,by rw[List.getElem?_append_left (by rw[<- r1.len];exact hi')];exact h1,h2⟩
  exact ⟨ρ1++List.replicate m none,G1,w1,[],base.upd_new (r1.gh.free hD) w0 (by rw[c0];exact hD),r1.gh.free hD,w0,zay.nil,Nat.zero_le _,k0,(zs,ρf),by simpa using ec,by simp,rfl⟩
 ·have ed:ds.drop i=ds[i]::ds.drop (i+1):=List.drop_eq_getElem_cons hlt
  obtain ⟨go,yl⟩:=(it1 i _ _ _ _ _ r5 ko).1 ds[i] (by simp[hlt])
  refine ⟨go,fun x H7 y7=>?_⟩
  obtain ⟨G7,gr,rep7⟩:=yl x H7 y7
  have keep7:=(gr.step (w:=w')).keep gd5 wd5 hd5
  rw[ed] at ez
  unfold zbr at ez
  obtain ⟨ρ3,e3,ez⟩:=zcC ez
  obtain ⟨t4,e4,ez⟩:=zcC ez
  obtain ⟨b4,ρ4⟩:=t4
  obtain ⟨ko4,ko5⟩:=hko _ _ _ _ _ ko e3 e4
  refine ⟨G7,w',ρ',ds[i],r5.grow gr,rep7,?_⟩
  rw[e3]
  intro σ8 G8 H8 w8 s8s r8
  have keep8:=s8s.keep keep7.1 keep7.2.1 keep7.2.2
  refine ⟨G8,w8,ρ3,r8,?_⟩
  rw[e4]
  intro G9 H9 w9 s9s r9
  have keep9:=s9s.keep keep8.1 keep8.2.1 keep8.2.2
  have sg9:=(gr.g.trans s8s.g).trans s9s.g
  cases b4 with
  |false =>
   show (if false=true then _ else _)
   rw[if_neg Bool.false_ne_true]
   simp only[Bool.false_eq_true,if_false] at ez
   exact ⟨keep9.2.2,ρ4,G9,w9,ac,r9,keep9.1,keep9.2.1,q5.same sg9,by omega,ko4,z,ez,ez1,ez2⟩
  |true =>
   show (if true=true then _ else _)
   rw[if_pos rfl]
   simp only[if_true] at ez
   obtain ⟨⟨yd,ρ10⟩,e10,ez⟩:=zcC ez
   obtain ⟨z',ez',ez3⟩:=zcC ez
   refine ⟨G9,w9,ρ4,r9,?_⟩
   rw[e10]
   intro v G10 H10 w10 s10s r10 q10
   have keep10:=s10s.keep keep9.1 keep9.2.1 keep9.2.2
   cases ez3
   refine ⟨keep10.2.2,?_,ρ10,G10,w10,ac++[yd],r10.upd_new keep10.1 keep10.2.1 (by rw[c0];exact hD),keep10.1,keep10.2.1,(q5.same (sg9.trans s10s.g)).append (zay.cons q10 zay.nil),by simp;omega,ko5 _ _ e10,z',ez',by rw[<- ez1];simp,ez2⟩
   have:=q5.length
   have:=zfX hfi
   omega
 ·simp only[List.drop_length] at ez
  unfold zbr at ez
  cases ez
  simp only[List.append_nil] at ez1
  subst ez1
  subst ez2
  have cG:C'.G₀=G1:=by rw[<- hC'];rfl
  have cw:C'.w₀=w1:=by rw[<- hC'];rfl
  have en':zbe G1 H2 w1 G' H' w':=by have:=r5.en;rw[cG,c0,cw] at this;exact this
  have hρlen:ρ'.length=X.N.length+m:=by rw[r5.len,hl6]
  refine fin _ _ s' vs G' H' w' IX lo en' ⟨r5.gh,r5.wg,r5.wh,?_,fun i b e=>?_,r1.en.trans en',r1.pin⟩ hD hd5 gd5 wd5 q5
  ·rw[List.length_take,hρlen,r1.len,hlenσ];omega
  ·have hi':i < ρ1.length:=by
    by_cases hi':i < ρ1.length
    ·exact hi'
    ·rw[List.getElem?_eq_none (by rw[List.length_take];omega)] at e;cases e
   rw[List.getElem?_take_of_lt hi'] at e
   obtain ⟨v,h1,h2⟩:=r5.sl i b e
   refine ⟨v,?_,h2⟩
   have hpi:=r5.pin i (by rw[<- hC'];exact List.mem_range.mpr (by rw[<- hlenσ,<- r1.len];exact hi'))
   rw[h1] at hpi
   rw[<- hC'] at hpi
   have hpi':some (some v)=(σ++List.replicate m none)[i]? := hpi
   rw[List.getElem?_append_left (by rw[<- r1.len];exact hi')] at hpi'
   exact hpi'.symm
theorem zjf{tg iter elt:Expr}{ifs:List Expr}{scope:Scope}{pos:Pos}{N':List Str}{m:Nat}{g:DG}{ft:DT}{fe:De}(hc:X.calm=true)(hb:zeE X.N N' scope.names m=true)
  (hkind:scope.kind=.function) (hcell:Hce scope) (hfr:Hfr X scope)
  (hblk:Hbk X C N' scope tg ifs elt g ft fe)
  {pins:List (Addr×Obj)} {σ:L2.St} {s2:Shared} {cl:List (Str×Addr)} {RR:Value->Addr->Result->Shared->Prop} {E:Value->Shared->Prop}
  (hcl:∀ x c,cl.lookup x=some c->X.env.cells.lookup x=some c) (hcf:∀ y∈scope.names,y.2=.free->∃ c,cl.lookup y.1=some c)
  {it:Addr} {fp:List Addr} {tn:Nat->Heap->Prop} {J:It} {H2:Hp} (I2:L2.Inv X pins σ H2 s2) (T:zlV X.prog X.w X.K tg J fp it tn) (st2:tn 0 s2.heap) (f2:∀ b∈fp,zgx X pins H2 b)
  {ds zs:List Dt} {ρ1 ρf:Ev} {G1:Hp} {w1:Wn} (r1:Rel X.K C G1 w1 ρ1 σ H2) (it1:zlw X.K J G1 ds) (hfi:zcK ds=true) (ec:zbr g ft fe ds (ρ1++List.replicate m none)=.ok (zs,ρf))
  (fin:∀(D L:Addr)(s':Shared)(vs:List V)(G' H':Hp)(w':Wn),L2.Inv X pins σ H' s'->zlh X pins H' L s'->zbe G1 H2 w1 G' H' w'->Rel X.K C G' w' (ρf.take ρ1.length) σ H'->H2 D=none->H' D=some (.lst vs)->G' D=none->w' D=none->zay X.K G' zs vs->RR (.ref D) L (.ok .next) s') :
  wpAny (model X.prog X.w) X.A (newList []) (fun acc s₃=>wpAny (model X.prog X.w) X.A (newFunctionEnv scope X.env.globals cl [] X.env.qual none .none (some X.env)) (fun cenv s₄ =>
   codeAny (model X.prog X.w) X.A (.compStart (.ListComp elt [⟨tg,iter,ifs,0⟩] scope pos) 0 (.ref it) acc { cenv with scope:=relabel scope X.env }) (RR acc cenv.locals) s₄) E s₃) E s2 :=
 zpj hc hb hkind hcell hfr hblk hcl hcf I2 T st2 f2 r1 (fun _=>True) trivial (fun _ _ _ _ _ _ _ _=>⟨trivial,fun _ _ _=>trivial⟩) (fun i ρ' G' w' σ' H' r _=>it1 i G' H' r.en.g r.gh) hfi ec fin
theorem zdW{tg iter elt:Expr}{ifs:List Expr}{scope:Scope}{pos:Pos}{N':List Str}{m:Nat}{fi:DA}{g:DG}{ft:DT}{fe:De}(hi:JI X C tg iter fi)(hc:X.calm=true)(hb:zeE X.N N' scope.names m=true)
  (hkind:scope.kind=.function) (hcell:Hce scope) (hfr:Hfr X scope) (hnames:Hnm scope)
  (hblk:Hbk X C N' scope tg ifs elt g ft fe)
  (hs:∀ x,foldedSetIterable iter X.env x=pure x:=by intro _;rfl):JN X C (.ListComp elt [⟨tg,iter,ifs,0⟩] scope pos) (zbh fi g ft fe m):=by
 intro pins s σ H Q I ⟨G,w,ρ,r,p⟩
 rw[eval_ListComp]
 obtain ⟨cl,hclos,hcl,hcf⟩:=zdC (scope:=scope) (env:=X.env) fun y hy hf=>I.ok.has y.1 (hfr y hy hf)
 refine wpAny_comprehension_free (use:=none) rfl hs hclos hkind hnames ?_
 refine thn (hi pins s σ H (fun J H2=>∃ ds ρ1 G1 w1 zs ρf,Rel X.K C G1 w1 ρ1 σ H2/\zlw X.K J G1 ds/\zcK ds=true/\zbr g ft fe ds (ρ1++List.replicate m none)=.ok (zs,ρf)/\kN X.K C σ Q G1 H2 w1 (zs,ρf.take ρ1.length)) I ?_) fun v s1 h1=>thn h1 fun itv s2 h2=>?_
 ·refine zts (κ:=fun G H w=>kN X.K C σ Q G H w) zeU r p fun ds ρ1 J G1 H1 w1 r1 st1 it1 p1=>?_
  dsimp only at p1
  split at p1
  ·rename_i hfi
   split at p1
   ·rename_i z ez
    exact ⟨ds,ρ1,G1,w1,z.1,z.2,r1,it1,hfi,ez,p1⟩
   ·exact p1.elim
  ·exact p1.elim
 obtain ⟨it,fp,tn,J,H2,rfl,I2,T,st2,f2,ds,ρ1,G1,w1,zs,ρf,r1,it1,hfi,ec,kk⟩:=h2
 refine zjf (RR:=fun acc C=>compPost (model X.prog X.w) X.A X.xe none (EP X pins σ Q) acc C) hc hb hkind hcell hfr hblk hcl hcf I2 T st2 f2 r1 it1 hfi ec fun D L s' vs G' H' w' I' lo st rel h0 h1 h2 h3 q=>?_
 obtain ⟨mm,hn⟩:=lo.ns
 refine ⟨mm,hn,fun h' hsb=>⟨.ref D,H',?_,rfl,kk D vs G' H' w' st rel h0 h1 h2 h3 q⟩⟩
 exact I'.turned (t':=s'.toks) (fun b o hb e=>(hsb.2 b hb).trans e) lo.fr lo.nl lo.nw lo.nc lo.np
theorem znI{tg iter elt:Expr}{ifs:List Expr}{scope:Scope}{pos spos:Pos}{N':List Str}{m i:Nat}{x:Str}{px:Pos}{fi:DA}{g:DG}{ft:DT}{fe:De}{fs:List Dt×Ev->R (Fl×Ev)}(hi:JI X C tg iter fi)(hc:X.calm=true)(hb:zeE X.N N' scope.names m=true)
  (hkind:scope.kind=.function) (hcell:Hce scope) (hfr:Hfr X scope) (hnames:Hnm scope)
  (hblk:Hbk X C N' scope tg ifs elt g ft fe)
  (hN:X.N.Nodup) (hix:X.N[i]? = some x) (hx:Loc X.env.scope x) (hsw:swapsWith (.ListComp elt [⟨tg,iter,ifs,0⟩] scope pos) (some (.Name x px)) spos.line X.env=pure true) (hf:X.fn x=true\/X.env.scope.names.lookup x=some .local)
  (hfs:∀(D:zp2)(G1 H2 G' H':Hp)(w1 w':Wn)(σ:L2.St)(p:Addr)(zs:List Dt)(vs:List V)(ρf:Ev),zbX C.ex (kS X.K C D G1 H2 w1) (fs (zs,ρf))->zbe G1 H2 w1 G' H' w'->Rel X.K C G' w' ρf σ H'->H2 p=none->H' p=some (.lst vs)->G' p=none->w' p=none->zay X.K G' zs vs->C.H₀ p=none->D.nx (σ.set i (some (.ref p))) H')
  (hs:∀ x,foldedSetIterable iter X.env x=pure x:=by intro _;rfl):JS X C (.Assign [.Name x px] (.ListComp elt [⟨tg,iter,ifs,0⟩] scope pos) spos) (fun ρ=>(zbh fi g ft fe m ρ).bind fs):=by
 intro pins s σ H D I ⟨G,w,ρ,r,p⟩
 obtain ⟨cl,hclos,hcl,hcf⟩:=zdC (scope:=scope) (env:=X.env) fun y hy hf=>I.ok.has y.1 (hfr y hy hf)
 rw[exec_Assign_Name_used _ _ _ _ hsw]
 refine wpAny_bind (wpAny_standAt (wpAny_bind ?_))
 show wpAny _ X.A (do let _ <- comprehension (.ListComp elt [⟨tg,iter,ifs,0⟩] scope pos) scope X.env _ (newList []) false (eval iter X.env) (some (assign (.Name x px) X.env))) _ _ s
 refine wpAny_bind (wpAny_mono (wpAny_comprehension_free (use:=some (assign (.Name x px) X.env)) (Q:=fun _ s'=>SP X pins D .next s') rfl hs hclos hkind hnames ?_) (fun _ s' hq=>wpAny_pure (wpAny_pure hq)) fun _ _ e=>e)
 refine thn (hi pins s σ H (fun J H2=>∃ ds ρ1 G1 w1 zs ρf,Rel X.K C G1 w1 ρ1 σ H2/\zlw X.K J G1 ds/\zcK ds=true/\zbr g ft fe ds (ρ1++List.replicate m none)=.ok (zs,ρf)/\zbX C.ex (kS X.K C D G1 H2 w1) (fs (zs,ρf.take ρ1.length))) I ?_) fun v s1 h1=>thn h1 fun itv s2 h2=>?_
 ·have p':zbX C.ex (kS X.K C D G H w) ((fi ρ).bind fun a=>((if zcK a.1=true then match zbr g ft fe a.1 (a.2++List.replicate m none) with
   |.ok z=>.ok (z.1,z.2.take a.2.length)
   |_=>.no
   else .no:R (List Dt×Ev))).bind fs):=by
   rw[<- R.bind_assoc]
   exact p
  refine zts (κ:=fun G H w=>kS X.K C D G H w) zdy r p' fun ds ρ1 J G1 H1 w1 r1 st1 it1 p1=>?_
  dsimp only at p1
  split at p1
  ·rename_i hfi
   split at p1
   ·rename_i z ez
    exact ⟨ds,ρ1,G1,w1,z.1,z.2,r1,it1,hfi,ez,p1⟩
   ·exact False.elim p1
  ·exact False.elim p1
 obtain ⟨it,fp,tn,J,H2,rfl,I2,T,st2,f2,ds,ρ1,G1,w1,zs,ρf,r1,it1,hfi,ec,kk⟩:=h2
 refine zjf (RR:=fun acc C=>compPost (model X.prog X.w) X.A X.xe (some (assign (.Name x px) X.env)) (fun _ s'=>SP X pins D .next s') acc C) hc hb hkind hcell hfr hblk hcl hcf I2 T st2 f2 r1 it1 hfi ec fun Da L s' vs G' H' w' I' lo st rel h0 h1 h2 h3 q=>?_
 show wpAny _ X.A (assign (.Name x px) X.env (.ref Da)) _ _ _
 refine wpAny_assign_Name (zfC I' hN hix hx (v:=.ref Da) rfl (fun s'' I'' hch=>?_) hf)
 obtain ⟨mm,hn⟩:=lo.ns
 obtain ⟨a,sb,ha⟩:=hch
 have hLa:L≠a:=by
  rcases ha with z|z
  ·rw[z];exact lo.nl
  ·exact fun y=>lo.nc x a z y.symm
 refine ⟨mm,hn.sameBut sb hLa,fun h' hsb=>⟨σ.set i (some (.ref Da)),H',?_,hfs D G1 H2 G' H' w1 w' σ Da zs vs _ kk st rel h0 h1 h2 h3 q (r1.en.k Da h0)⟩⟩
 exact I''.turned (t':=s''.toks) (fun b o hb e=>(hsb.2 b hb).trans e) lo.fr lo.nl lo.nw lo.nc lo.np
theorem zlJ{tg iter elt:Expr}{ifs:List Expr}{scope:Scope}{pos spos:Pos}{N':List Str}{m i:Nat}{x:Str}{px:Pos}{fi:DA}{g:DG}{ft:DT}{fe:De}(hN:X.N.Nodup)(hix:X.N[i]? = some x)(hx:Loc X.env.scope x)(hp:i∉C.pp)(hi:JI X C tg iter fi)(hc:X.calm=true)(hb:zeE X.N N' scope.names m=true)
  (hkind:scope.kind=.function) (hcell:Hce scope) (hfr:Hfr X scope) (hnames:Hnm scope)
  (hblk:Hbk X C N' scope tg ifs elt g ft fe)
  (hsw:swapsWith (.ListComp elt [⟨tg,iter,ifs,0⟩] scope pos) (some (.Name x px)) spos.line X.env=pure true:=by rfl) (hf:X.fn x=true\/X.env.scope.names.lookup x=some .local:=by first|exact .inl rfl|exact .inr rfl|assumption)
  (hs:∀ x,foldedSetIterable iter X.env x=pure x:=by intro _;rfl):JS X C (.Assign [.Name x px] (.ListComp elt [⟨tg,iter,ifs,0⟩] scope pos) spos) (zaU i (dFz (zbh fi g ft fe m))):=by
 have h:=znI (fs:=fun a=>if i<a.2.length then .ok (.nx,a.2.set i (some (.val (.lst a.1)))) else .no) hi hc hb hkind hcell hfr hnames hblk hN hix hx hsw hf (fun D G1 H2 G' H' w1 w' σ p zs vs ρf po st rel h0 h1 h2 h3 q h4=>?_) hs
 ·refine PS.weak h fun D σ H t=>?_
  obtain ⟨G,w,ρ,r,p⟩:=t
  refine ⟨G,w,ρ,r,?_⟩
  unfold zaU dFz at p
  rw[R.bind_assoc] at p
  exact p
 ·by_cases hl:i < ρf.length
  ·simp only[hl,if_true] at po
   obtain ⟨r',s'⟩:=rel.know h1 h2 h3 H2 G1 w1 st h0 (.inl h4)
   have sg:zb7 G' (upd G' p (.lst vs)):=fun b u e=>by rw[zae (zaf e h2)];exact e
   exact po _ _ _ _ s' (r'.setVal hl hp (by unfold Rep;exact ⟨p,vs,rfl,zah,q.same sg⟩))
  ·simp only[hl,if_false] at po;exact False.elim po
end
section
variable{X:Cx}{C:Cn}{a b c e:Expr}{fa fb fc:De}{pos:Pos}
def kO(K:W.Frag)(C:Cn)(σ:L2.St)(Q:Option Int->Hp->Prop)(G H:Hp)(w:Wn)(a:Option Int×Ev):Prop :=
 ∀ G' H' w',zbe G H w G' H' w'->Rel K C G' w' a.2 σ H'->Q a.1 H'
abbrev DO:=Ev->R (Option Int×Ev)
def tOd(K:W.Frag)(C:Cn)(f:DO):TO:=fun σ H Q=>∃ G w ρ,Rel K C G w ρ σ H/\zbX C.ex (kO K C σ Q G H w) (f ρ)
abbrev JO(X:Cx)(C:Cn)(e:Option Expr)(f:DO):Prop:=PO X e (tOd X.K C f)
theorem PO.weak{e:Option Expr}{t t':TO}(h:PO X e t)(k:∀ σ H Q,t' σ H Q->t σ H Q):PO X e t':=fun pins s σ H Q I q=>h pins s σ H Q I (k σ H Q q)
def dO0:DO:=fun ρ=>.ok (none,ρ)
def dO1(fa:De):DO:=fun ρ=>(fa ρ).bind fun a=>match a.1 with
 |.int i=>.ok (some i,a.2)
 |_=>.no
theorem ztG{K:W.Frag}{σ:L2.St}{Q:Option Int->Hp->Prop}:Stp (fun G H w=>kO K C σ Q G H w):=fun _ _ _ _ _ _ _ s k G' H' w' s'=>k G' H' w' (s.trans s')
theorem zek:JO X C none dO0:=PO.weak zqp fun σ H Q ⟨G,w,ρ,r,p⟩=>p G H w (.refl _ _ _) r
theorem zdX(h:JE X C a fa):JO X C (some a) (dO1 fa):=PO.weak (zrc h) fun σ H Q ⟨G,w,ρ,r,p⟩=>by
 refine zeA (κ:=fun G H w=>kO X.K C σ Q G H w) ztG r p fun d ρ1 v G1 H1 w1 r1 s1 q1 p1=>?_
 cases d with
 |int i=>exact ⟨i,zaz q1,p1 G1 H1 w1 (.refl _ _ _) r1⟩
 |_=>exact p1.elim
theorem ztt{K:W.Frag}{σ:L2.St}{α:Type}{κ:zoP α}(st:Stp κ){G H:Hp}{w:Wn}{ρ:Ev}{fa:DO}{g:Option Int×Ev->R α}{Q:Option Int->Hp->Prop}(r:Rel K C G w ρ σ H)(p:zbX C.ex (κ G H w) ((fa ρ).bind g))
  (k:∀ o ρ1 G1 H1 w1,Rel K C G1 w1 ρ1 σ H1->zbe G H w G1 H1 w1->zbX C.ex (κ G1 H1 w1) (g (o,ρ1))->Q o H1):tOd K C fa σ H Q:=by
 refine ⟨G,w,ρ,r,?_⟩
 cases e:fa ρ with
 |ok a =>
  rw[e] at p
  intro G' H' w' s' r'
  exact k a.1 a.2 G' H' w' r' s' (zbX.step st s' p)
 |er n=>rw[e] at p;exact p
 |no=>rw[e] at p;exact p
def zgw{α:Type}(xs:List α)(lo hi:Option Int):List α:=(xs.drop (HT.sIx xs.length 0 lo)).take (HT.sIx xs.length xs.length hi-HT.sIx xs.length 0 lo)
theorem zkq{K:W.Frag}{G:Hp}{ds:List Dt}{vs:List V}(h:zay K G ds vs)(lo hi:Option Int):zay K G (zgw ds lo hi) (zlM vs lo hi):=by
 unfold zgw zlM
 rw[<- h.length]
 exact (h.drop _).take _
def zlH(fa:De)(fl fh:DO):DN:=fun ρ=>(fa ρ).bind fun a=>(fl a.2).bind fun l=>(fh l.2).bind fun h=>match a.1 with
 |.lst ds=>.ok (zgw ds l.1 h.1,h.2)
 |_=>.no
theorem zgr{K:W.Frag}{σ:L2.St}{G H:Hp}{w:Wn}{ρ:Ev}{p:Addr}(r:Rel K C G w ρ σ H)(hp:H p=none):w p=none:=by
 cases z:w p with
 |none=>rfl
 |some k=>exact absurd hp (r.wh p (by rw[z];simp))
theorem zkH{lo hi:Option Expr}{fl fh:DO}{p2:Pos}(ha:JE X C a fa)(hl:JO X C lo fl)(hh:JO X C hi fh):JN X C (.Subscript a (.Slice lo hi none p2) pos) (zlH fa fl fh) :=
 PE.weak (zkI zri ha hl hh) fun σ H Q ⟨G,w,ρ,r,p⟩=>by
  refine zeA (κ:=fun G H w=>kN X.K C σ Q G H w) zeU r p fun d ρ1 v G1 H1 w1 r1 s1 q1 p1=>?_
  refine ztt (κ:=fun G H w=>kN X.K C σ Q G H w) zeU r1 p1 fun l ρ2 G2 H2 w2 r2 s2 p2=>?_
  refine ztt (κ:=fun G H w=>kN X.K C σ Q G H w) zeU r2 p2 fun h ρ3 G3 H3 w3 r3 s3 p3=>?_
  cases d with
  |lst ds =>
   obtain ⟨ad,vs,rfl,h1,h2⟩:=zaG (q1.same (s2.g.trans s3.g))
   refine ⟨ad,vs,rfl,SqL.of (r3.gh _ _ h1),fun p hp=>?_⟩
   have gr:zdz G3 H3 G3 (upd H3 p (.lst (zlM vs l h))):=.newH r3.gh hp
   exact p3 p _ G3 _ w3 gr.step (r3.grow gr) hp zah (r3.gh.free hp) (zgr r3 hp) (zkq h2 l h)
  |_=>exact p3.elim
def zgy(fa:De):DN:=fun ρ=>(fa ρ).bind fun a=>match a.1 with
 |.lst ds=>.ok (ds.reverse,a.2)
 |_=>.no
theorem zs2{k1:Nat}{p1 p2 p3:Pos}(ha:JE X C a fa):JN X C (.Subscript a (.Slice none none (some (.UnaryOp .USub (.Constant (.int 1) k1 p1) p2)) p3) pos) (zgy fa):=by
 intro pins s σ H Q I ⟨G,w,ρ,r,p⟩
 refine PyProof.Rows.Subscript_ (thn (ha pins s σ H (fun x H1=>∃ ad vs,x=.ref ad/\SqL X.K H1 ad vs/\∀ p,H1 p=none->Q (.ref p) (upd H1 p (.lst vs.reverse))) I ?_) fun v s1 ⟨x,H1,I1,r1,ad,vs,ex,hx,q1⟩=>?_)
 ·refine zeA (κ:=fun G H w=>kN X.K C σ Q G H w) zeU r p fun d ρ1 v G1 H1 w1 r1 s1 q1 p1=>?_
  cases d with
  |lst ds =>
   obtain ⟨ad,vs,rfl,h1,h2⟩:=zaG q1
   refine ⟨ad,vs,rfl,SqL.of (r1.gh _ _ h1),fun p hp=>?_⟩
   have gr:zdz G1 H1 G1 (upd H1 p (.lst vs.reverse)):=.newH r1.gh hp
   exact p1 p _ G1 _ w1 gr.step (r1.grow gr) hp zah (r1.gh.free hp) (zgr r1 hp) h2.reverse
  |_=>exact p1.elim
 subst ex
 cases r1
 obtain ⟨its,rv,ht,hz⟩:=I1.list hx
 have hlen:=rv.length
 refine wpAny_Slice (evalPart_none_step (evalPart_none_step (evalPart_some_step (thn (zrJ (a:=.Constant (.int 1) k1 p1) (pos:=p2) zpR znh pins s1 σ H1 (fun x H2=>x=.int (-1)/\H2=H1) I1 ⟨1,rfl,rfl,rfl⟩) fun vk s2 ⟨y,H2,I2,r2,ey,eH⟩=>?_))))
 subst ey
 subst eH
 obtain ⟨t,rfl⟩:=r2
 have I4:L2.Inv X pins σ H2 { s2 with heap:=s2.heap.push { cls:=.type "slice",data:=.fields #[.none,.none,.int (-1) t] } }:=I2.kept (t':=s2.toks) fun b ob q=>Heap.get?_push_of_some _ q
 obtain ⟨its4,rv4,ht4,_⟩:=I4.list hx
 have hlen4:=rv4.length
 show wpAny (model X.prog X.w) X.A (PyProof.Rows.subscriptTail a (.Slice none none (some (.UnaryOp .USub (.Constant (.int 1) k1 p1) p2)) p3) (.ref ad) (.ref s2.heap.objs.size)) (EP X pins σ Q) X.xe { s2 with heap:=s2.heap.push { cls:=.type "slice",data:=.fields #[.none,.none,.int (-1) t] } }
 refine PyProof.Rows.tail_any (ops:=[.ref ad,.ref s2.heap.objs.size]) ht4.isList.typeIs slot_list_getitem.lookup ?_ (by with_unfolding_all rfl)
 refine wpAny_getItem_list_slice ht4.isList (Heap.IsSliceOf.new ..) .none .none (.int _ _) (by decide) ?_ (by rw[List.size_toArray] <;> omega)
 rw[W.krv_pick]
 refine ⟨.ref _,_,I4.laid (t':=s2.toks) (o:=.lst vs.reverse) (fun b ob q=>Heap.get?_push_of_some _ q) (Nat.le_refl _) ?_,rfl,q1 _ (I4.hok.fresh (Nat.le_refl _))⟩
 exact ⟨by rw[List.length_reverse];exact hz,its4.reverse,0,rv4.reverse,Heap.get?_push_size (o:={ cls:=.type "list",data:=.seq its4.toArray.toList.reverse.toArray }) _ rfl⟩
end
structure Dfn(nw:Bool)(P:Program)(w:World)(K:W.Frag)(mg:Str->Option Value)(base:Heap)(CX:CXT)(xv:Nat->Value)(k:Nat)(x:Str)(ks:List Bool)(F:FD):Prop where
 ex:∃(f:Addr)(fd:FuncData)(ps:List Str),zeJ P w K mg base CX k f fd ps (zqy nw K xv ks F)/\mg x=some (.ref f)/\W.keepIn K (.ref f)=true/\zeO K fd ps []/\∀ bs,F bs≠.no->zbE bs=ks
theorem Dfn.mono{nw:Bool}{P:Program}{w:World}{K:W.Frag}{mg:Str->Option Value}{base:Heap}{CX:CXT}{xv:Nat->Value}{k k':Nat}{x:Str}{ks:List Bool}{F:FD}(D:Dfn nw P w K mg base CX xv k x ks F)(h:k<=k'):Dfn nw P w K mg base CX xv k' x ks F:=by
 obtain ⟨f,fd,ps,h1,h2⟩:=D.ex
 exact ⟨f,fd,ps,h1.mono h,h2⟩
section
variable{X:Cx}{C:Cn}{CX:CXT}{k k':Nat}{ks:List Bool}{Fd:FD}{x:Str}{p pos:Pos}{e:Expr}{es:List Expr}{far:DAr}
theorem zbl(D:Dfn false X.prog X.w X.K X.mg X.base CX C.xv k x ks Fd)(hr:zds k' X.A)(hk:k<=k')(hx:zc9 CX X (EXc C))(ha:JAr X C (e::es) far)(hg:Gl X x:=by rfl)(hdb:(x == ("__debug__" : Str))=false:=by decide)(he:starEach (e::es) X.env=(false,eval e X.env)::starEach es X.env:=by rfl)
  (hpl:(backTo pos (starEach es X.env)).any (·.1)=false:=by rfl):JE X C (.Call (.Name x p) (e::es) [] pos) (zal Fd far):=by
 obtain ⟨f,fd,ps,h1,h2,h3,h4,h5⟩:=D.ex
 exact zrv h1 (hr.mono hk) hg h2 h3 h4 hx h5 ha hdb he hpl
end
section
variable{X:Cx}{C:Cn}{CX:CXT}{k k':Nat}{ks:List Bool}{Fd:FD}{x:Str}{p pos:Pos}{e:Expr}{es:List Expr}{far:DAr}
theorem zqd(D:Dfn true X.prog X.w X.K X.mg X.base CX C.xv k x ks Fd)(hr:zds k' X.A)(hk:k<=k')(hx:zc9 CX X (EXc C))(ha:JAr X C (e::es) far)(hg:Gl X x:=by rfl)(hdb:(x == ("__debug__" : Str))=false:=by decide)(he:starEach (e::es) X.env=(false,eval e X.env)::starEach es X.env:=by rfl)
  (hpl:(backTo pos (starEach es X.env)).any (·.1)=false:=by rfl):JN X C (.Call (.Name x p) (e::es) [] pos) (zcc Fd far):=by
 obtain ⟨f,fd,ps,h1,h2,h3,h4,h5⟩:=D.ex
 exact zqj h1 (hr.mono hk) hg h2 h3 h4 hx h5 ha hdb he hpl
end
def dNo:DS:=fun _=>.no
theorem zou{X:Cx}{C:Cn}{st:Stmt}:JS X C st dNo:=fun _ _ _ _ _ _ ⟨_,_,_,_,p⟩=>p.elim
section
variable{X:Cx}{C:Cn}{a b c e:Expr}{fa fb fc:De}{pos:Pos}
def zfO(fa fb:De):DN:=fun ρ=>(fa ρ).bind fun a=>(fb a.2).bind fun b=>match a.1,b.1 with
 |.lst x,.lst y=>if x.length+y.length<=16777216 then .ok (x++y,b.2) else .no
 |_,_=>.no
theorem ziV(ha:JE X C a fa)(hb:JE X C b fb):JN X C (.BinOp a .Add b pos) (zfO fa fb):=PE.weak (zs6 zsJ ha hb) fun σ H Q ⟨G,w,ρ,r,p⟩=>by
 refine zeA (κ:=fun G H w=>kN X.K C σ Q G H w) zeU r p fun d ρ1 v G1 H1 w1 r1 s1 q1 p1=>?_
 refine zeA (κ:=fun G H w=>kN X.K C σ Q G H w) zeU r1 p1 fun d2 ρ2 v2 G2 H2 w2 r2 s2 q2 p2=>?_
 dsimp only at p2
 split at p2
 ·rename_i x y
  split at p2
  ·rename_i hl
   obtain ⟨ad,vs,rfl,h1,h2⟩:=zaG (q1.same s2.g)
   obtain ⟨bd,us,rfl,h3,h4⟩:=zaG q2
   refine ⟨ad,bd,vs,us,rfl,rfl,r2.gh _ _ h1,r2.gh _ _ h3,by rw[<- h2.length,<- h4.length,zdS];exact hl,fun p hp=>?_⟩
   have gr:zdz G2 H2 G2 (upd H2 p (.lst (vs++us))):=.newH r2.gh hp
   exact p2 p _ G2 _ w2 gr.step (r2.grow gr) hp zah (r2.gh.free hp) (zgr r2 hp) (h2.append h4)
  ·exact p2.elim
 ·exact p2.elim
def ztP(ta:TA):TE:=fun σ H Q=>ta σ H fun vs H1=>∃ j:Int,vs=[.int j]/\∀ p,H1 p=none->Q (.ref p) (upd H1 p (.rng 0 j))
theorem zsO{p:Pos}{ta:TA}(hg:Gl X "range")(hm:X.mg "range"=none)(ha:PA X [e] ta)(hs:starEach [e] X.env=[(false,eval e X.env)]:=by rfl):PE X (.Call (.Name "range" p) [e] [] pos) (ztP ta):=by
 intro pins s σ H Q I h
 refine PyProof.Rows.Call_ (zeC I hg hm PyProof.Rows.boot_range (PyProof.Rows.callWith_type1 (thn (ha pos pins s σ H _ I h) fun us s1 ⟨vs,H1,I1,r1,q1⟩=>?_) hs rfl))
 obtain ⟨j,e1,q⟩:=q1
 subst e1
 obtain ⟨u,rfl,t,rfl⟩:=zeX r1
 exact call_range_1 ⟨.ref s1.heap.objs.size,_,I1.laid (o:=.rng 0 j) (fun b u e=>Heap.get?_push_of_some _ e) (Nat.le_refl _) ⟨_,_,_,Heap.get?_push_size _ rfl⟩,rfl,q _ (I1.hok.fresh (Nat.le_refl _))⟩
theorem zgS{lo:Int}:∀(n:Nat)(acc:List Value),acc.length=n->(∀(j:Nat) v,acc[j]? = some v->∃ t,v=Value.int (lo+j) t)->zaM ((List.range n).map fun k=>V.int (lo+(k:Nat))) acc
 |0,[],_,_=>.nil
 |0,_::_,h,_=>by simp at h
 |n+1,[],h,_=>by simp at h
 |n+1,v::r,h,hv=>by
  rw[List.range_succ_eq_map,List.map_cons,List.map_map]
  obtain ⟨t,ht⟩:=hv 0 v rfl
  refine .cons ⟨t,by simpa using ht⟩ ?_
  have:=zgS (lo:=lo+1) n r (by simpa using h) fun j v' e=>by
   obtain ⟨t',ht'⟩:=hv (j+1) v' (by simpa using e)
   refine ⟨t',ht'.trans ?_⟩
   congr 1
   omega
  have e:(fun k=>V.int (lo+1+(k:Nat)))=((fun k:Nat=>V.int (lo+(k:Nat))) ∘ Nat.succ):=by
   funext k
   show V.int _=V.int _
   congr 1
   simp only[Nat.succ_eq_add_one]
   omega
  rw[e] at this
  exact this
theorem zhP(hc:X.calm=true):zcg X (.type "list") (fun xs H Q=>∃(p:Addr)(j:Int),xs=[.ref p]/\H p=some (.rng 0 j)/\0<=j/\j<=16777216/\∀ l,H l=none->Q (.ref l) (upd H l (.lst ((List.range j.toNat).map fun k=>V.int (0+(k:Nat)))))):=by
 intro pins s σ H xs us Q I r h
 obtain ⟨p,j,rfl,hp,j0,j1,q⟩:=h
 obtain ⟨u,rfl,ru⟩:=zeX r
 cases ru
 obtain ⟨t,u,v,e⟩:=(show zcd X.prog X.w H s.heap p (.rng 0 j) from I.hok p _ hp)
 refine call_list_range (n:=j.toNat) (I.ok.hd hc) e (small_one (by omega) (by omega) (by omega) (by omega)) (by rw[rangeSize_one];split <;> omega) (by omega) fun h' tk acc' c' hk hS hacc=>?_
 refine ⟨.ref s.heap.objs.size,_,I.laid (t':=tk) hk (Nat.le_refl _) (o:=.lst ((List.range j.toNat).map fun k=>V.int (0+(k:Nat)))) ⟨?_,acc'.toList,c',?_,by simpa using hS⟩,rfl,q _ (I.hok.fresh (Nat.le_refl _))⟩
 ·rw[List.length_map,List.length_range,zdS];omega
 ·refine zgS j.toNat acc'.toList (by rw[Array.length_toList];exact hacc.1) fun i v' ev=>?_
  obtain ⟨t',ht'⟩:=hacc.2 i v' (by simpa using ev)
  exact ⟨t',by rw[ht',Int.mul_one]⟩
def zjV(fa:De):DN:=fun ρ=>(fa ρ).bind fun a=>match a.1 with
 |.int j=>if 0<=j/\j<=16777216 then .ok (zb4 0 j.toNat,a.2) else .no
 |_=>.no
theorem zgL{K:W.Frag}{G:Hp}{lo:Int}:∀(l:List Nat),zay K G (l.map fun k=>.int (lo+(k:Nat))) (l.map fun k=>V.int (lo+(k:Nat)))
 |[]=>zay.nil
 |k::r=>zay.cons (za3 _) (zgL r)
theorem zrb{p1 p2 pos2:Pos}(hc:X.calm=true)(hg:Gl X "list")(hm:X.mg "list"=none)(hg2:Gl X "range")(hm2:X.mg "range"=none)(ha:JE X C e fa)(hs:starEach [e] X.env=[(false,eval e X.env)]:=by rfl)
  (hs2:starEach [.Call (.Name "range" p2) [e] [] pos2] X.env=(false,eval (.Call (.Name "range" p2) [e] [] pos2) X.env)::starEach [] X.env:=by rfl) (hpl:(backTo pos (starEach [] X.env)).any (·.1)=false:=by rfl) :
  JN X C (.Call (.Name "list" p1) [.Call (.Name "range" p2) [e] [] pos2] [] pos) (zjV fa) :=
 PE.weak (zfA (zhP hc) hg hm PyProof.Rows.boot_list (zaP (zsO hg2 hm2 (zap ha za5 (by rw[hs];rfl)) hs) zc8 hs2) (by decide) (by decide) hs2 hpl) fun σ H Q ⟨G,w,ρ,r,p⟩=>by
  unfold zjV at p
  refine ⟨G,w,ρ,r,?_⟩
  unfold dA dA0
  cases e:fa ρ with
  |ok x =>
   obtain ⟨d,ρ1⟩:=x
   rw[e] at p
   intro vs G1 H1 w1 s1 r1 q
   obtain ⟨v,t,rfl,q1,q2⟩:=q.cons_inv
   rw[q2.nil_inv]
   have p1:=zbX.step (κ:=fun G H w=>kN X.K C σ Q G H w) zeU s1 p
   cases d with
   |int j =>
    refine ⟨j,by rw[zaz q1],fun p hp=>?_⟩
    have p1:zbX C.ex (kN X.K C σ Q G1 H1 w1) (if 0<=j/\j<=16777216 then .ok (zb4 0 j.toNat,ρ1) else .no):=p1
    by_cases hj:0<=j/\j<=16777216
    ·rw[if_pos hj] at p1
     refine ⟨p,j,rfl,zah,hj.1,hj.2,fun l hl=>?_⟩
     have gr:zdz G1 H1 G1 (upd H1 p (.rng 0 j)):=.newH r1.gh hp
     have r2:=r1.grow gr
     have gr2:zdz G1 (upd H1 p (.rng 0 j)) G1 (upd (upd H1 p (.rng 0 j)) l (.lst ((List.range j.toNat).map fun k=>V.int (0+(k:Nat))))):=.newH r2.gh hl
     have hl1:H1 l=none:=gr.h.free hl
     exact p1 l _ G1 _ w1 (gr.step.trans gr2.step) (r2.grow gr2) hl1 zah (r1.gh.free hl1) (zgr r1 hl1) (zgL _)
    ·rw[if_neg hj] at p1;exact p1.elim
   |_=>exact False.elim p1
  |er n=>rw[e] at p;exact p
  |no=>rw[e] at p;exact p
end
section
variable{X:Cx}{C:Cn}{a b c e:Expr}{fa fb fc:De}{pos:Pos}
def zro(a:Int):List Int->List Int
 |[]=>[a]
 |b::r=>if a<=b then a::b::r else b::zro a r
def zaW:List Int->List Int
 |[]=>[]
 |a::r=>zro a (zaW r)
theorem zgc(a:Int):∀ l:List Int,(zro a l).Perm (a::l)
 |[]=>.refl _
 |b::r=>by
  unfold zro
  split
  ·exact .refl _
  ·exact ((zgc a r).cons b).trans (.swap a b r)
theorem zaV:∀ l:List Int,(zaW l).Perm l
 |[]=>.refl _
 |a::r=>(zgc a _).trans ((zaV r).cons a)
theorem zkM(a:Int):∀ l:List Int,l.Pairwise (· <= ·)->(zro a l).Pairwise (· <= ·)
 |[],_=>by simp[zro]
 |b::r,h=>by
  unfold zro
  rw[List.pairwise_cons] at h
  split
  ·rename_i z
   refine List.pairwise_cons.mpr ⟨fun x hx=>?_,List.pairwise_cons.mpr h⟩
   rcases List.mem_cons.mp hx with rfl|hx
   ·exact z
   ·exact Int.le_trans z (h.1 x hx)
  ·rename_i z
   refine List.pairwise_cons.mpr ⟨fun x hx=>?_,zkM a r h.2⟩
   rcases List.mem_cons.mp ((zgc a r).mem_iff.mp hx) with rfl|hx
   ·omega
   ·exact h.1 x hx
theorem zcJ:∀ l:List Int,(zaW l).Pairwise (· <= ·)
 |[]=>.nil
 |a::r=>zkM a _ (zcJ r)
theorem intsAre_of:∀{ns:List Int}{us:List Value},zaM (ns.map V.int) us->PyProof.Rows.IntsAre us ns
 |[],_,.nil=>.nil
 |n::ns,_,.cons ⟨t,h⟩ r=>by subst h;exact .cons n t (intsAre_of r)
theorem vals_ints:∀{ns:List Int}{us:List Value},PyProof.Rows.IntsAre us ns->zaM (ns.map V.int) us
 |_,_,.nil=>.nil
 |_,_,.cons n t h=>.cons ⟨t,rfl⟩ (vals_ints h)
theorem zln:zcg X (.builtin "sorted") (fun xs H Q=>∃(p:Addr)(ns:List Int),xs=[.ref p]/\SqL X.K H p (ns.map V.int)/\ns.length<64/\∀ l,H l=none->Q (.ref l) (upd H l (.lst ((zaW ns).map V.int)))):=by
 intro pins s σ H xs us Q I r h
 obtain ⟨p,ns,rfl,hq,hl,q⟩:=h
 obtain ⟨u,rfl,ru⟩:=zeX r
 cases ru
 obtain ⟨its,rv,pl,hz⟩:=I.list hq
 have hlen:its.length=ns.length:=by rw[<- rv.length];simp
 refine PyProof.Rows.sorted_ints pl.isList (intsAre_of rv) (by omega) fun out ns' a1 a2 a3=>?_
 have e:ns'=zaW ns:=W.lks_uniq (a2.trans (zaV ns).symm) a3 (zcJ ns)
 subst e
 obtain ⟨c,hc⟩:=PyProof.Rows.sortedAll_at s.heap its out
 refine ⟨.ref (s.heap.objs.size+1),_,I.laid (t':=s.toks) (fun b o=>PyProof.Rows.sortedAll_old) (Nat.le_succ _) (o:=.lst ((zaW ns).map V.int)) ⟨?_,out.toList,c,vals_ints a1,?_⟩,rfl,q _ (I.hok.fresh (Nat.le_succ _))⟩
 ·rw[List.length_map,(zaV ns).length_eq,zdS];omega
 ·simpa using hc
def zbv:List Dt->R (List Dt)
 |[.lst l]=>match ziK l with
  |some ns=>if ns.length<64 then .ok ((zaW ns).map .int) else .no
  |none=>.no
 |_=>.no
theorem ze2{K:W.Frag}{G:Hp}:∀(ns:List Int),zay K G (ns.map .int) (ns.map V.int)
 |[]=>zay.nil
 |n::r=>zay.cons (za3 n) (ze2 r)
theorem zof{K:W.Frag}:FnN K (fun xs H Q=>∃(p:Addr)(ns:List Int),xs=[.ref p]/\SqL K H p (ns.map V.int)/\ns.length<64/\∀ l,H l=none->Q (.ref l) (upd H l (.lst ((zaW ns).map V.int)))) zbv:=fun G H vs ds z Q gh hr e k=>by
 unfold zbv at e
 split at e
 ·split at e
  ·rename_i ns en
   split at e
   ·rename_i hl
    obtain ⟨v,rfl,h1⟩:=zex hr
    obtain ⟨a,us,rfl,h2,h3⟩:=zaG h1
    cases e
    rw[zhI h3 en] at h2
    exact ⟨a,ns,rfl,SqL.of (gh _ _ h2),hl,fun l hl=>k l _ hl (ze2 _)⟩
   ·cases e
  ·cases e
 ·cases e
theorem zos:zj2 zbv:=fun x n h=>by
 unfold zbv at h
 split at h
 ·split at h
  ·split at h <;> cases h
  ·cases h
 ·cases h
theorem zhA{x:Expr}{p:Pos}(hg:Gl X "sorted")(hm:X.mg "sorted"=none)(ha:JE X C x fa)(hs:starEach [x] X.env=(false,eval x X.env)::starEach [] X.env:=by rfl)(hpl:(backTo pos (starEach [] X.env)).any (·.1)=false:=by rfl) :
  JN X C (.Call (.Name "sorted" p) [x] [] pos) (zdD zbv (dA fa dA0)) :=
 zhn zof zos zln hg hm PyProof.Rows.boot_sorted (zap ha za5 hs) (by decide) (by decide) hs hpl
end
theorem zle:typeLookup (.type "list_reverseiterator") "__len__"=pure none:=by rw[typeLookup_type,builtinLookup_eq_fast];kernel_rfl
theorem zoW:typeLookup (.type "list_reverseiterator") "__length_hint__"=pure (some (.builtin "list_reverseiterator.__length_hint__")):=by rw[typeLookup_type,builtinLookup_eq_fast];kernel_rfl
section
variable{prog:Program}{w:World}{A:Around}{E:Value->Shared->Prop}{s:Shared}
theorem zgb{R:Result->Shared->Prop}{it l:Addr}{items:Array Value}(hh:A.handled=none)(hit:s.heap.IsRevIter it l ((items.size:Int)-1))(hl:s.heap.IsList l items)(hne:l≠it)(S:Addr)(res:Value)(c₀:Nat)(hS:s.heap.get? S=some { cls:=.type "list",data:=.seq #[] c₀ })(hSl:S≠l)
  (hn:items.size<=sizeLine)
  (hR:∀ h' tk acc' c',(∀ b o,b≠S->b≠it->s.heap.get? b=some o->h'.get? b=some o)->h'.get? S=some { cls:=.type "list",dict:=none,data:=.seq acc' c',slots:=#[] } ->
   ItemsOf (fun i v=>items[items.size-1-i]? = some v) acc' items.size->R (.ok (.ret res)) { s with heap:=h',toks:=tk }) :
  wpAny (model prog w) A.in1 (Builtin.List.listExtendWith (.ref S) (.ref it) res)
   (fun fin s'=>match fin with|.done f=>R (.ok f) s'|.again c'=>c'.quiet=true/\codeAny (model prog w) A c' R s') (fun e s'=>R (.error e) s') s:=by
 have hSI:S≠it:=fun e=>by
  obtain ⟨o,ho,hc,_⟩:=hit
  rw[e,ho] at hS;cases hS;simp at hc
 have hSf:S∉[it,l]:=fun hm=>by
  rcases List.mem_cons.mp hm with z|z
  ·exact hSI z
  ·exact hSl (List.mem_singleton.mp z)
 unfold Builtin.List.listExtendWith
 refine wpAny_bind (wpAny_typeOf (T:="list_reverseiterator") hit.typeIs ?_)
 have h1:Builtin.List.listSameRef (.ref S) (.ref it)=false:=by simp[Builtin.List.listSameRef,hSI]
 have h2:(Value.type "list_reverseiterator" == Value.type "list")=false:=by decide +kernel
 have h3:(Value.type "list_reverseiterator" == Value.type "tuple")=false:=by decide +kernel
 simp only[h1,h2,h3,Bool.or_false,Bool.false_eq_true,if_false]
 refine wpAny_bind (wpAny_pyIter_revIter hit ?_)
 refine wpAny_bind (wpAny_holding ?_)
 unfold Builtin.List.listLengthHint
 refine wpAny_bind (wpAny_specialOf hit.typeIs zle ?_)
 show wpAny _ A.in1 (specialOf (Value.ref it) (Str.ofString "__length_hint__") >>= _) _ _ _
 refine wpAny_bind (wpAny_specialOf hit.typeIs zoW ?_)
 wp_delta
 refine wpAny_bind (wpAny_isInstance (T:="list_reverseiterator") (b:=true) hit.typeIs (by rw[isSubtype_type];kernel_rfl) ?_)
 refine wpAny_ite_split (fun h=>absurd h (by decide)) (fun _=>?_)
 refine wpAny_ite_split (fun _=>?_) (fun h=>absurd (by decide +kernel) h)
 refine wpAny_ite_split (fun h=>absurd h (by decide +kernel)) (fun _=>wpAny_pure ?_)
 rw[if_neg (by decide +kernel)]
 have W:=(Walks.listRev (prog:=prog) (w:=w) (A:=A.in1) hh it l hne items).toS
 have hst:0<=items.size/\s.heap.IsRevIter it l ((items.size:Int)-1-((0:Nat):Int))/\s.heap.IsList l items:=⟨Nat.zero_le _,by simpa using hit,hl⟩
 refine wpAny_pure ⟨plainId_quiet F.plain_extend_loop _,codeAny_extend_loopS W hn _ hSf _ items.size 0 _ _ _ rfl (Nat.zero_le _) hst hS (ItemsOf.nil _) fun s' acc' c' hm hS' hacc=>?_⟩
 rw[Moved.eq_with hm]
 refine hR s'.heap s'.toks acc' c' (fun b ob hb hb2 e=>hm.heap b ob (fun hmem=>?_) e) hS' hacc
 rcases List.mem_cons.mp hmem with e'|hmem
 ·exact hb e'
 ·exact hb2 (List.mem_singleton.mp hmem)
theorem znE{R:Result->Shared->Prop}{it l:Addr}{items:Array Value}(hh:A.handled=none)(hit:s.heap.IsRevIter it l ((items.size:Int)-1))(hl:s.heap.IsList l items)(hne:l≠it)(S:Addr)(hS:s.heap.get? S=some { cls:=.type "list",data:=.seq #[] })(hSl:S≠l)(hSI:S≠it)
  (hn:items.size<=sizeLine)
  (hR:∀ h' tk acc' c',(∀ b o,b≠S->b≠it->s.heap.get? b=some o->h'.get? b=some o)->h'.get? S=some { cls:=.type "list",dict:=none,data:=.seq acc' c',slots:=#[] } ->
   ItemsOf (fun i v=>items[items.size-1-i]? = some v) acc' items.size->R (.ok (.ret .none)) { s with heap:=h',toks:=tk }) :
  wpAny (model prog w) A.in1 (Builtin.«list.__init__» ⟨[.ref S,.ref it],[]⟩)
   (fun fin s'=>match fin with|.done f=>R (.ok f) s'|.again c'=>c'.quiet=true/\codeAny (model prog w) A c' R s') (fun e s'=>R (.error e) s') s:=by
 show wpAny _ _ (do let old <- Builtin.List.listItems (.ref S);Builtin.List.listUpdate (.ref S) (fun _=>#[]);letGo old.toList.reverse;Builtin.List.listExtendWith (.ref S) (.ref it) .none) _ _ s
 refine wpAny_bind ?_
 unfold Builtin.List.listItems
 refine wpAny_bind (wpAny_seqItems hS rfl (wpAny_pure ?_))
 show wpAny _ _ (updateSeq S (fun _=>#[]) >>= fun _=>letGo (#[]:Array Value).toList.reverse >>= fun _=>Builtin.List.listExtendWith (.ref S) (.ref it) .none) _ _ s
 refine wpAny_bind (wpAny_updateSeq hS rfl ?_)
 have k2:=Heap.get?_update_self (Obj.mapSeq (fun _=>(#[]:Array Value))) hS rfl
 have oth:∀ b o,b≠S->s.heap.get? b=some o->(s.heap.update S (Obj.mapSeq (fun _=>(#[]:Array Value)))).get? b=some o :=
  fun b o hb e=>(Heap.get?_update_other _ _ (Ne.symm hb)).trans e
 refine wpAny_bind (wpAny_letGo ?_)
 exact zgb hh (hit.at fun o e=>oth it o (Ne.symm hSI) e) (hl.at fun o e=>oth l o (Ne.symm hSl) e) hne S .none _ k2 hSl hn fun h' tk acc' c' hk hS' hacc=>hR h' tk acc' c' (fun b o hb hb2 e=>hk b o hb hb2 (oth b o hb e)) hS' hacc
theorem zoc{Q:Value->Shared->Prop}{it l:Addr}{items:Array Value}(hh:A.handled=none)(hit:s.heap.IsRevIter it l ((items.size:Int)-1))(hl:s.heap.IsList l items)(hne:l≠it)(hn:items.size<=sizeLine)
  (hQ:∀ h' tk acc' c',(∀ b o,b≠it->s.heap.get? b=some o->h'.get? b=some o) ->
   h'.get? s.heap.objs.size=some { cls:=.type "list",dict:=none,data:=.seq acc' c',slots:=#[] }->ItemsOf (fun i v=>items[items.size-1-i]? = some v) acc' items.size->Q (.ref s.heap.objs.size) { s with heap:=h',toks:=tk }) :
  wpAny (model prog w) A (call (.type "list") [.ref it]) Q E s:=by
 refine callType_codes (Q₁:=fun obj s₁=>obj=.ref s.heap.objs.size/\s₁={ s with heap:=s.heap.push { cls:=.type "list",data:=.seq #[] } }) F.called_list (F.typeCall_list_1 _) F.entry_list_init
  (code_list_new _ ⟨rfl,rfl⟩) fun obj s₁ h₁=>?_
 obtain ⟨rfl,rfl⟩:=h₁
 have kS:(s.heap.push { cls:=.type "list",data:=.seq #[] }).get? s.heap.objs.size=some { cls:=.type "list",data:=.seq #[] }:=Heap.get?_push_size _ rfl
 have lt1:l≠s.heap.objs.size:=by obtain ⟨o,e,_⟩:=hl;exact Nat.ne_of_lt (Heap.lt_size e)
 have lt2:it≠s.heap.objs.size:=by obtain ⟨o,e,_⟩:=hit;exact Nat.ne_of_lt (Heap.lt_size e)
 refine ⟨⟨_,kS,rfl⟩,F.args_list_init_2 _ _,znE (A:=A.in1) hh (hit.at fun o e=>Heap.get?_push_of_some _ e) (hl.at fun o e=>Heap.get?_push_of_some _ e) hne _ kS (Ne.symm lt1) (Ne.symm lt2) hn fun h' tk acc' c' hk hS' hacc=>?_⟩
 exact ⟨rfl,hQ h' tk acc' c' (fun b o hb e=>hk b o (Nat.ne_of_lt (Heap.lt_size e)) hb (Heap.get?_push_of_some _ e)) hS' hacc⟩
end
section
variable{X:Cx}{C:Cn}{a:Expr}{fa:De}{pos:Pos}
theorem zon:bootBuiltins "reversed"=some (.type "reversed"):=by decide +kernel
theorem zpa{vs:List V}{its:List Value}{acc:Array Value}(r:zaM vs its)(h:ItemsOf (fun i v=>its.toArray[its.toArray.size-1-i]? = some v) acc its.toArray.size):zaM vs.reverse acc.toList:=by
 have e:acc.toList=its.reverse:=by
  apply List.ext_getElem?
  intro i
  have hs:acc.size=its.length:=by simpa using h.1
  by_cases hi:i<its.length
  ·have:=h.2 i acc[i] (by simp[hs,hi])
   rw[List.getElem?_reverse hi]
   have e2:acc.toList[i]? = some acc[i]:=by simp[hs,hi]
   rw[e2]
   simpa using this.symm
  ·rw[List.getElem?_eq_none (by simpa [hs] using hi),List.getElem?_eq_none (by simpa using hi)]
 rw[e]
 exact r.reverse
theorem zqu{p1 p2 pos2:Pos}(hc:X.calm=true)(hg:Gl X "list")(hm:X.mg "list"=none)(hg2:Gl X "reversed")(hm2:X.mg "reversed"=none)(ha:JE X C a fa)(hs:starEach [a] X.env=[(false,eval a X.env)]:=by rfl)
  (hs2:starEach [.Call (.Name "reversed" p2) [a] [] pos2] X.env=[(false,eval (.Call (.Name "reversed" p2) [a] [] pos2) X.env)]:=by rfl) :
  JN X C (.Call (.Name "list" p1) [.Call (.Name "reversed" p2) [a] [] pos2] [] pos) (zgy fa):=by
 intro pins s σ H Q I ⟨G,w,ρ,r,p⟩
 refine PyProof.Rows.Call_ (zeC I hg hm PyProof.Rows.boot_list (PyProof.Rows.callWith_type1 ?_ hs2 rfl))
 rw[hs2]
 show wpAny _ _ (spliced ((false,eval (.Call (.Name "reversed" p2) [a] [] pos2) X.env)::backTo pos (starEach [] X.env))) _ _ s
 refine Calls.spliced_cons (PyProof.Rows.Call_ (zeC I hg2 hm2 zon (PyProof.Rows.callWith_type1 (thn (zap ha za5 hs pos2 pins s σ H (fun vs H1=>∃(ad:Addr)(zs:List V),vs=[.ref ad]/\SqL X.K H1 ad zs/\∀ p,H1 p=none->Q (.ref p) (upd H1 p (.lst zs.reverse))) I ?_) fun us s1 ⟨vs,H1,I1,r1,q1⟩=>?_) hs rfl)))
 ·refine ⟨G,w,ρ,r,?_⟩
  unfold zgy at p
  unfold dA dA0
  cases e:fa ρ with
  |ok x =>
   obtain ⟨d,ρ1⟩:=x
   rw[e] at p
   intro vs G1 H1 w1 s1 r1 q
   obtain ⟨v,t,rfl,q1,q2⟩:=q.cons_inv
   rw[q2.nil_inv]
   have p1:=zbX.step (κ:=fun G H w=>kN X.K C σ Q G H w) zeU s1 p
   cases d with
   |lst ds =>
    obtain ⟨ad,zs,rfl,h1,h2⟩:=zaG q1
    refine ⟨ad,zs,rfl,SqL.of (r1.gh _ _ h1),fun p hp=>?_⟩
    have gr:zdz G1 H1 G1 (upd H1 p (.lst zs.reverse)):=.newH r1.gh hp
    exact p1 p _ G1 _ w1 gr.step (r1.grow gr) hp zah (r1.gh.free hp) (zgr r1 hp) h2.reverse
   |_=>exact False.elim p1
  |er n=>rw[e] at p;exact p
  |no=>rw[e] at p;exact p
 ·obtain ⟨ad,zs,rfl,hq,q⟩:=q1
  obtain ⟨u,rfl,ru⟩:=zeX r1
  cases ru
  obtain ⟨its,rv,pl,hz⟩:=I1.list hq
  have hlen:=rv.length
  refine call_reversed_list pl.isList ?_
  refine Calls.spliced_nil ?_
  have ne:ad≠s1.heap.objs.size:=by
   obtain ⟨o,n,e,_⟩:=id pl
   exact Nat.ne_of_lt (Heap.lt_size e)
  have I2:L2.Inv X pins σ H1 { s1 with heap:=s1.heap.push (revObj ad ((its.toArray.size:Int)-1)) }:=I1.kept (t':=s1.toks) fun b ob q=>Heap.get?_push_of_some _ q
  have hit:Heap.IsRevIter (s1.heap.push (revObj ad ((its.toArray.size:Int)-1))) s1.heap.objs.size ad ((its.toArray.size:Int)-1):=⟨_,Heap.get?_push_size _ rfl,rfl,rfl⟩
  have hl2:Heap.IsList (s1.heap.push (revObj ad ((its.toArray.size:Int)-1))) ad its.toArray:=pl.isList.at fun o e=>Heap.get?_push_of_some _ e
  refine zoc (s:={ s1 with heap:=s1.heap.push (revObj ad ((its.toArray.size:Int)-1)) }) (I.ok.hd hc) hit hl2 ne (by rw[List.size_toArray];omega) fun h' tk acc c' hk hS hacc=>?_
  have hsz:(s1.heap.push (revObj ad ((its.toArray.size:Int)-1))).objs.size=s1.heap.objs.size+1:=Heap.size_push ..
  have hS':h'.get? (s1.heap.objs.size+1)=some { cls:=.type "list",dict:=none,data:=.seq acc c',slots:=#[] }:=by rw[<- hsz];exact hS
  show EP X pins σ Q (.ref (s1.heap.push (revObj ad ((its.toArray.size:Int)-1))).objs.size) _
  rw[hsz]
  refine ⟨.ref (s1.heap.objs.size+1),_,I1.laid (h':=h') (t':=tk) (o:=.lst zs.reverse) (fun b o e=>hk b o (Nat.ne_of_lt (Heap.lt_size e)) (Heap.get?_push_of_some _ e)) (Nat.le_succ _) ⟨?_,acc.toList,c',zpa rv hacc,by simpa using hS'⟩,rfl,q _ (I1.hok.fresh (Nat.le_succ _))⟩
  rw[List.length_reverse];exact hz
end
section
variable{prog:Program}{w:World}{A:Around}{E:Value->Shared->Prop}{s:Shared}
theorem bnd:type_of% @wpAny_bind:=@wpAny_bind
theorem zhJ{it t:Addr}{i:Nat}{its:Array Value}{x:Value}{Q:Value->Shared->Prop}(k1:s.heap.IsTupleIter it t i)(k2:s.heap.IsTuple t its)(kx:its[i]? = some x)
  (kQ:∀ h',h'.IsTupleIter it t (i+1)->Heap.SameBut it s.heap h'->Q x { s with heap:=h' }):wpAny (model prog w) A (Builtin.SmallTypes.nextOf (.ref it)) Q E s:=by
 obtain ⟨o,e1,e2,e3⟩:=id k1
 obtain ⟨o',e4,_,n',e5⟩:=k2
 unfold Builtin.SmallTypes.nextOf
 refine bnd (wpAny_callSpecial?_slot (name:=Str.ofString "__next__") k1.typeIs F.slot_tuple_iterator_next (wpAny_call_entry F.slot_tuple_iterator_next k1.typeIs F.entry_tuple_iterator_next ?_ (F.args_tuple_iterator_next_1 _)))
 show wpAny _ _ (field (.ref it) 0 >>= _) _ _ _
 refine bnd (wpAny_field e1 e3 (x:=.ref t) rfl ?_)
 show wpAny _ _ (if (Value.ref t == Value.none)=true then _ else _) _ _ _
 have nn:¬ ((Value.ref t == Value.none)=true):=Bool.false_ne_true
 rw[if_neg nn]
 show wpAny _ _ (field (.ref it) 1 >>= _) _ _ _
 refine bnd (wpAny_field e1 e3 (x:=.int i 0) rfl ?_)
 show wpAny _ _ (seqItems? (.ref t) >>= _) _ _ _
 refine bnd (wpAny_seqItems e4 e5 ?_)
 simp only[Int.toNat_natCast,kx]
 refine bnd (wpAny_setField e1 e3 (by simp) (wpAny_pure ⟨x,rfl,wpAny_pure (kQ _ ⟨_,Heap.get?_update_self _ e1 (Obj.isFreed_of_fields (Obj.data_mapFields e3 _)),(Obj.cls_mapFields ..).trans e2,?_⟩ (Heap.SameBut.update ..))⟩))
 rw[Obj.data_mapFields e3];simp[rawInt]
theorem zjv{it t:Addr}{i:Nat}{its:Array Value}{Q:Value->Shared->Prop}(hh:A.handled=none)(k1:s.heap.IsTupleIter it t i)(k2:s.heap.IsTuple t its)(kx:its[i]? = none)
  (kE:∀ h' e,Heap.ExtBut it s.heap h'->(∃ o,h'.get? e=some o/\o.cls=.type "StopIteration")->E (.ref e) { s with heap:=h' }):wpAny (model prog w) A (Builtin.SmallTypes.nextOf (.ref it)) Q E s:=by
 obtain ⟨o,e1,e2,e3⟩:=id k1
 obtain ⟨o',e4,_,n',e5⟩:=k2
 unfold Builtin.SmallTypes.nextOf
 refine bnd (wpAny_callSpecial?_slot (name:=Str.ofString "__next__") k1.typeIs F.slot_tuple_iterator_next (wpAny_call_entry F.slot_tuple_iterator_next k1.typeIs F.entry_tuple_iterator_next ?_ (F.args_tuple_iterator_next_1 _)))
 show wpAny _ _ (field (.ref it) 0 >>= _) _ _ _
 refine bnd (wpAny_field e1 e3 (x:=.ref t) rfl ?_)
 show wpAny _ _ (if (Value.ref t == Value.none)=true then _ else _) _ _ _
 have nn:¬ ((Value.ref t == Value.none)=true):=Bool.false_ne_true
 rw[if_neg nn]
 show wpAny _ _ (field (.ref it) 1 >>= _) _ _ _
 refine bnd (wpAny_field e1 e3 (x:=.int i 0) rfl ?_)
 show wpAny _ _ (seqItems? (.ref t) >>= _) _ _ _
 refine bnd (wpAny_seqItems e4 e5 ?_)
 simp only[Int.toNat_natCast,kx]
 refine bnd (wpAny_rule (wpAny_bind (wpAny_setField e1 e3 (by simp) ?_)))
 show wpAny _ _ (newExc (.type "StopIteration") [] >>= _) _ _ _
 refine bnd ?_
 simp only[newExc,newTuple]
 refine bnd (wpAny_newObj_type ?_ (by size_fits))
 refine (wpAny_bind (m:=firstArgMember _ _)) (wpAny_of_eq (a:=Value.none) (by first|rfl|(simp only[firstArgMember];rfl)) ?_)
 refine wpAny_newObj_type ?_ (by size_fits);simp only[raiseNew]
 refine bnd (wpAny_handled ?_)
 first|rw[show A.in1.handled=none from hh]|rw[hh]
 refine bnd (wpAny_pure (wpAny_throw ?_))
 exact kE _ _ (((Heap.SameBut.update ..).extBut.push _).push _) ⟨_,Heap.get?_push_size _ rfl,rfl⟩
structure Zp(h:Heap)(z TI TO i1 i2 l1 l2:Addr)(f0:Value)(k:Nat):Prop where
 z:IsZip h z TI TO f0
 ti:IsPair h TI (.ref i1) (.ref i2)
 to:∃ a b,IsPair h TO a b
 a1:h.IsTupleIter i1 l1 k
 a2:h.IsTupleIter i2 l2 k
structure ZpD(z TI TO i1 i2:Addr):Prop where
 d1:TI≠z
 d2:TO≠z
 d3:i1≠z
 d4:i2≠z
 d5:TI≠TO
 d6:TI≠i1
 d7:TI≠i2
 d8:TO≠i1
 d9:TO≠i2
 d0:i1≠i2
theorem Zp.keep{h h':Heap}{z TI TO i1 i2 l1 l2:Addr}{f0:Value}{k:Nat}(p:Zp h z TI TO i1 i2 l1 l2 f0 k)(e:∀ b∈[z,TI,TO,i1,i2],∀ o,h.get? b=some o->h'.get? b=some o):Zp h' z TI TO i1 i2 l1 l2 f0 k :=
 ⟨e z (by simp) _ p.z,e TI (by simp) _ p.ti,let ⟨a,b,q⟩:=p.to;⟨a,b,e TO (by simp) _ q⟩,p.a1.at fun o q=>e i1 (by simp) o q,p.a2.at fun o q=>e i2 (by simp) o q⟩
variable{z TI TO i1 i2 l1 l2:Addr}{k:Nat}{xs ys:Array Value}
theorem zkh{x y:Value}{Q:Value->Shared->Prop}(D:ZpD z TI TO i1 i2)(p:Zp s.heap z TI TO i1 i2 l1 l2 .none k)(q1:s.heap.IsTuple l1 xs)(q2:s.heap.IsTuple l2 ys)(n1:∀ b∈[z,TI,TO,i1,i2],b≠l1)(n2:∀ b∈[z,TI,TO,i1,i2],b≠l2)
  (hx:xs[k]? = some x) (hy:ys[k]? = some y)
  (hQ:∀ h',Zp h' z TI TO i1 i2 l1 l2 (rawInt s.heap.objs.size) (k+1)->h'.get? s.heap.objs.size=some { cls:=.type "tuple",data:=.seq #[x,y] }->(∀ c o,c≠z->c≠TO->c≠i1->c≠i2->s.heap.get? c=some o->h'.get? c=some o)->Q (.ref s.heap.objs.size) { s with heap:=h' }) :
  wpAny (model prog w) A (Builtin.«zip.__next__» ⟨[.ref z],[]⟩) (fun fin s'=>∃ v,fin=.done (.ret v)/\Q v s') E s:=by
 obtain ⟨pz,pti,⟨oa,ob,pto⟩,pa1,pa2⟩:=p
 show wpAny _ _ (field (.ref z) 2 >>= _) _ _ _
 refine bnd (wpAny_field pz rfl (x:=.bool false) rfl ?_)
 show wpAny _ _ (field (.ref z) 3 >>= _) _ _ _
 refine bnd (wpAny_field pz rfl (x:=.ref TI) rfl ?_)
 refine bnd (wpAny_seqItems pti rfl ?_)
 show wpAny _ _ (Builtin.SmallTypes.ownedTupleIsFree (.ref z) >>= _) _ _ _
 refine bnd ?_
 unfold Builtin.SmallTypes.ownedTupleIsFree
 refine bnd (wpAny_field pz rfl (x:=.none) rfl (wpAny_pure ?_))
 simp only[if_true]
 refine bnd (wpAny_rule ?_)
 refine bnd (wpAny_field pz rfl (x:=.ref TO) rfl ?_)
 refine bnd (wpAny_setField_rec pz (by simp) fun g1 pz1 sb1=>?_)
 have pz1:IsZip g1 z TI TO .ellipsis:=pz1
 refine bnd ?_
 simp only[List.zipIdx_cons,List.zipIdx_nil,List.forIn_cons,List.forIn_nil]
 refine bnd (wpAny_bind (wpAny_onRaise ?_))
 show wpAny _ _ (Builtin.SmallTypes.nextOf (.ref i1) >>= _) _ _ _
 refine bnd (zhJ (pa1.extBut sb1.extBut D.d3) (q1.extBut sb1.extBut (Ne.symm (n1 z (by simp)))) hx fun g2 pa1' sb2=>wpAny_pure ?_)
 have t2:IsPair g2 TO oa ob:=sb2.extBut _ _ D.d8 (sb1.extBut _ _ D.d2 pto)
 refine bnd (wpAny_seqItems t2 rfl ?_)
 refine bnd (wpAny_updateSeq_pair t2 fun g3 t3 sb3=>?_)
 have t3:IsPair g3 TO x ob:=t3
 refine bnd (wpAny_letGo (wpAny_pure ?_))
 refine bnd (wpAny_bind (wpAny_onRaise ?_))
 show wpAny _ _ (Builtin.SmallTypes.nextOf (.ref i2) >>= _) _ _ _
 refine bnd (zhJ (((pa2.extBut sb1.extBut D.d4).extBut sb2.extBut D.d0.symm).extBut sb3.extBut D.d9.symm)
  (((q2.extBut sb1.extBut (Ne.symm (n2 z (by simp)))).extBut sb2.extBut (Ne.symm (n2 i1 (by simp)))).extBut sb3.extBut (Ne.symm (n2 TO (by simp)))) hy fun g4 pa2' sb4=>wpAny_pure ?_)
 have t4:IsPair g4 TO x ob:=sb4.extBut _ _ D.d9 t3
 refine bnd (wpAny_seqItems t4 rfl ?_)
 refine bnd (wpAny_updateSeq_pair t4 fun g5 t5 sb5=>?_)
 have t5:IsPair g5 TO x y:=t5
 refine bnd (wpAny_letGo (wpAny_pure (wpAny_pure ?_)))
 refine bnd (wpAny_seqItems t5 rfl ?_)
 refine bnd (wpAny_newTuple ?_)
 have sz:g5.objs.size=s.heap.objs.size:=by rw[sb5.1,sb4.1,sb3.1,sb2.1,sb1.1]
 have z5:IsZip g5 z TI TO .ellipsis:=sb5.extBut _ _ D.d2.symm (sb4.extBut _ _ D.d4.symm (sb3.extBut _ _ D.d2.symm (sb2.extBut _ _ D.d3.symm pz1)))
 have k5:∀ c o,c≠z->c≠TO->c≠i1->c≠i2->s.heap.get? c=some o->g5.get? c=some o:=fun c o c1 c2 c3 c4 e =>
  sb5.extBut _ _ c2 (sb4.extBut _ _ c4 (sb3.extBut _ _ c2 (sb2.extBut _ _ c3 (sb1.extBut _ _ c1 e))))
 have p1:g5.IsTupleIter i1 l1 (k+1):=((pa1'.extBut sb3.extBut D.d8.symm).extBut sb4.extBut D.d0).extBut sb5.extBut D.d8.symm
 have p2:g5.IsTupleIter i2 l2 (k+1):=pa2'.extBut sb5.extBut D.d9.symm
 have ltz:z<g5.objs.size:=Heap.lt_size z5
 show wpAny _ _ (Builtin.SmallTypes.ownedTupleHandOut (.ref z) (.ref g5.objs.size) >>= _) _ _ _
 refine bnd ?_
 unfold Builtin.SmallTypes.ownedTupleHandOut
 have z6:IsZip (g5.push { cls:=.type "tuple",data:=.seq #[x,y] }) z TI TO .ellipsis:=Heap.get?_push_of_some _ z5
 refine bnd (wpAny_setField_rec z6 (by simp) fun g7 z7 sb7=>?_)
 have z7:IsZip g7 z TI TO (rawInt g5.objs.size):=z7
 refine wpAny_setField_rec z7 (by simp) fun g8 z8 sb8=>?_
 have z8:IsZip g8 z TI TO (rawInt g5.objs.size):=z8
 have up:∀ c o,c≠z->g5.get? c=some o->g8.get? c=some o:=fun c o c1 e=>sb8.extBut _ _ c1 (sb7.extBut _ _ c1 (Heap.get?_push_of_some _ e))
 have t8:g8.get? g5.objs.size=some { cls:=.type "tuple",data:=.seq #[x,y] }:=sb8.extBut _ _ (Nat.ne_of_gt ltz) (sb7.extBut _ _ (Nat.ne_of_gt ltz) (Heap.get?_push_size _ rfl))
 rw[sz] at z8 t8
 refine wpAny_pure ⟨_,rfl,?_⟩
 show Q (.ref g5.objs.size) _
 rw[sz]
 exact hQ g8 ⟨z8,up _ _ D.d1 (k5 _ _ D.d1 D.d5 D.d6 D.d7 pti),⟨x,y,up _ _ D.d2 t5⟩,p1.at fun o e=>up _ o D.d3 e,p2.at fun o e=>up _ o D.d4 e⟩ t8 fun c o c1 c2 c3 c4 e=>up c o c1 (k5 c o c1 c2 c3 c4 e)
theorem zlg{Q:PySem.Fin->Shared->Prop}(hh:A.handled=none)(D:ZpD z TI TO i1 i2)(p:Zp s.heap z TI TO i1 i2 l1 l2 .none k)(q1:s.heap.IsTuple l1 xs)(n1:∀ b∈[z,TI,TO,i1,i2],b≠l1)
  (hx:xs[k]? = none)
  (hE:∀ h' e,(∀ c o,c≠z->c≠TO->c≠i1->c≠i2->s.heap.get? c=some o->h'.get? c=some o)->(∃ o,h'.get? e=some o/\o.cls=.type "StopIteration")->E (.ref e) { s with heap:=h' }) :
  wpAny (model prog w) A (Builtin.«zip.__next__» ⟨[.ref z],[]⟩) Q E s:=by
 obtain ⟨pz,pti,⟨oa,ob,pto⟩,pa1,pa2⟩:=p
 show wpAny _ _ (field (.ref z) 2 >>= _) _ _ _
 refine bnd (wpAny_field pz rfl (x:=.bool false) rfl ?_)
 show wpAny _ _ (field (.ref z) 3 >>= _) _ _ _
 refine bnd (wpAny_field pz rfl (x:=.ref TI) rfl ?_)
 refine bnd (wpAny_seqItems pti rfl ?_)
 show wpAny _ _ (Builtin.SmallTypes.ownedTupleIsFree (.ref z) >>= _) _ _ _
 refine bnd ?_
 unfold Builtin.SmallTypes.ownedTupleIsFree
 refine bnd (wpAny_field pz rfl (x:=.none) rfl (wpAny_pure ?_))
 simp only[if_true]
 refine bnd (wpAny_rule ?_)
 refine bnd (wpAny_field pz rfl (x:=.ref TO) rfl ?_)
 refine bnd (wpAny_setField_rec pz (by simp) fun g1 pz1 sb1=>?_)
 have pz1:IsZip g1 z TI TO .ellipsis:=pz1
 refine bnd ?_
 simp only[List.zipIdx_cons,List.zipIdx_nil,List.forIn_cons,List.forIn_nil]
 refine bnd (wpAny_bind (wpAny_onRaise ?_))
 show wpAny _ _ (Builtin.SmallTypes.nextOf (.ref i1) >>= _) _ _ _
 refine bnd (zjv hh (pa1.extBut sb1.extBut D.d3) (q1.extBut sb1.extBut (Ne.symm (n1 z (by simp)))) hx fun g2 e sb2 he=>?_)
 obtain ⟨oe,e1,e2⟩:=he
 have z2:IsZip g2 z TI TO .ellipsis:=sb2 _ _ D.d3.symm pz1
 have ez:e≠z:=fun q=>by subst q;rw[z2] at e1;cases e1;simp at e2
 exact wpAny_setField_rec z2 (by simp) fun g3 _ sb3=>hE g3 e (fun c o c1 _ c3 _ q=>sb3.extBut _ _ c1 (sb2 _ _ c3 (sb1.extBut _ _ c1 q))) ⟨oe,sb3.extBut _ _ ez e1,e2⟩
end
section
variable{X:Cx}{pins:List (Addr×Obj)}{σ:L2.St}{H:Hp}{s:Shared}
theorem zmj{a b:Addr}{xs:List V}(I:L2.Inv X pins σ H s)(hf:zgx X pins H b)(hs:SqT X.K H a xs):b≠a:=by
 rintro rfl
 rcases hs with (h|⟨o,h⟩)|⟨o,its,n,h,_⟩
 ·rw[hf.1] at h;cases h
 ·rw[hf.1] at h;cases h
 ·have hb:=I.mod.kin b o h
  rcases hf.2.2.2.1 with z|z
  ·exact I.ok.noex b o hb z
  ·exact absurd (Nat.lt_of_lt_of_le (Heap.lt_size hb) (Nat.le_trans I.ok.bsz z)) (Nat.lt_irrefl _)
theorem zen{fp:List Addr}{h':Heap}{o:HO}{a:Addr}{t':Nat}(I:L2.Inv X pins σ H s)(hf:∀ b∈fp,zgx X pins H b)(k:∀ b ob,b∉fp->s.heap.get? b=some ob->h'.get? b=some ob)(hp:s.heap.objs.size<=a)(ht:∀ b ob,s.heap.get? b=some ob->∃ ob',h'.get? b=some ob')
  (new:zcd X.prog X.w (upd H a o) h' a o):L2.Inv X pins σ (upd H a o) { s with heap:=h',toks:=t' }:=by
 have hn:=I.hok.fresh hp
 have nf:∀ b u,H b=some u->b∉fp:=fun b u e z=>by rw[(hf b z).1] at e;cases e
 refine I.call (g':=s.gens) (d':=s.drawn) (ch:=fp) ⟨fun b u q _ _ hx=>k b u hx q,fun b u q _ _ hx=>⟨u.slots,k b u hx q⟩,fun b u q n _=>?_,fun b u q hx=>⟨u,k b u hx q⟩,fun b xs q=>?_,fun b u xs q=>?_,fun b ps q=>⟨#[],?_⟩⟩ (fun b u e=>?_) I.bare
  fun b hb=>⟨(hf b hb).2.2.2.1,(hf b hb).2.1,(hf b hb).2.2.2.2.1,(hf b hb).2.2.2.2.2⟩
 ·rw[zae (Nat.ne_of_lt (Nat.lt_of_lt_of_le (Heap.lt_size q) hp))];exact n
 ·rw[zae (zaf q hn)];exact q
 ·rw[zae (zaf q hn)];exact q
 ·rw[zae (zaf q hn),q];simp
 ·by_cases hb:b=a
  ·subst hb;rw[zah] at e;cases e;exact new
  ·rw[zae hb] at e
   refine (I.hok b u e).stay (fun c v hc q=>k c v ?_ q) (fun c q=>by rw[zae (zaf q hn)];exact q) fun c xs q=>by rw[zae (zaf q hn)];exact q
   rcases hc with z|z
   ·rw[z];exact nf b u e
   ·exact nf c _ z
theorem zeh{fp:List Addr}{h':Heap}{t':Nat}(I:L2.Inv X pins σ H s)(hf:∀ b∈fp,zgx X pins H b)(k:∀ b ob,b∉fp->s.heap.get? b=some ob->h'.get? b=some ob):L2.Inv X pins σ H { s with heap:=h',toks:=t' }:=by
 have nf:∀ b u,H b=some u->b∉fp:=fun b u e z=>by rw[(hf b z).1] at e;cases e
 refine I.call (g':=s.gens) (d':=s.drawn) (ch:=fp) ⟨fun b u q _ _ hx=>k b u hx q,fun b u q _ _ hx=>⟨u.slots,k b u hx q⟩,fun b u q n _=>n,fun b u q hx=>⟨u,k b u hx q⟩,fun b xs q=>q,fun b u xs q=>q,fun b ps q=>⟨#[],by rw[q];simp⟩⟩ (fun b u e=>?_) I.bare
  fun b hb=>⟨(hf b hb).2.2.2.1,(hf b hb).2.1,(hf b hb).2.2.2.2.1,(hf b hb).2.2.2.2.2⟩
 refine (I.hok b u e).stay (fun c v hc q=>k c v ?_ q) (fun _ q=>q) fun _ _ q=>q
 rcases hc with z|z
 ·rw[z];exact nf b u e
 ·exact nf c _ z
end
def Itz(K:W.Frag)(a b:Addr):It :=
 ⟨fun i H=>∃ xs ys x y,SqT K H a xs/\SqT K H b ys/\xs[i]? = some x/\ys[i]? = some y,
   fun i H v H'=>∃ p x y,v=.ref p/\H p=none/\H'=upd H p (.tup [x,y])/\(∀ xs,SqT K H a xs->xs[i]? = some x)/\∀ ys,SqT K H b ys->ys[i]? = some y,
   fun i H=>∃ xs,SqT K H a xs/\xs.length<=i⟩
theorem zpr{P:Program}{w:World}{K:W.Frag}{elts:List Expr}{x1}{ps:Pos}{a b z TI TO i1 i2:Addr}(D:ZpD z TI TO i1 i2):zlV P w K (.Tuple elts x1 ps) (Itz K a b) [z,TI,TO,i1,i2] z (fun i h=>Zp h z TI TO i1 i2 a b .none i) where
 mem:=by simp
 obj:=fun i h st c hc=>by
  obtain ⟨s1,s2,⟨oa,ob,s3⟩,⟨o4,s4,_,d4⟩,⟨o5,s5,_,d5⟩⟩:=st
  simp only[List.mem_cons,List.not_mem_nil,or_false] at hc
  rcases hc with rfl|rfl|rfl|rfl|rfl
  ·exact ⟨_,s1,fun v q=>by cases q⟩
  ·exact ⟨_,s2,fun v q=>by cases q⟩
  ·exact ⟨_,s3,fun v q=>by cases q⟩
  ·exact ⟨_,s4,fun v q=>by rw[d4] at q;cases q⟩
  ·exact ⟨_,s5,fun v q=>by rw[d5] at q;cases q⟩
 keep:=fun i h h' st k=>st.keep k
 item:=by
  intro X hP hw hK hc i pins s σ H E I hf st hg
  subst hP hw hK
  obtain ⟨xs,ys,x,y,q1,q2,hx,hy⟩:=hg
  obtain ⟨its,rv,p,hz⟩:=I.tuple q1
  obtain ⟨jts,rw',p',hz'⟩:=I.tuple q2
  obtain ⟨u,hu,ru⟩:=rv.get hx
  obtain ⟨v,hv,rv'⟩:=rw'.get hy
  have hT:s.TypeIs (.ref z) "zip":=⟨_,st.z,rfl⟩
  unfold pyNext
  refine wpAny_bind (wpAny_attempt (wpAny_callSpecial?_slot (name:=Str.ofString "__next__") hT F.slot_zip_next (wpAny_call_entry F.slot_zip_next hT F.entry_zip_next
   (zkh (l1:=a) (l2:=b) (k:=i) (x:=u) (y:=v) D st (show s.heap.IsTuple a its.toArray from p) (show s.heap.IsTuple b jts.toArray from p') (fun c hc=>zmj I (hf c hc) q1) (fun c hc=>zmj I (hf c hc) q2) (by simpa using hu) (by simpa using hv) fun h' st' ht hk=>wpAny_pure ?_) (F.args_zip_next_1 _))))
  refine ⟨_,rfl,wpAny_letOwnedTupleGo_zip st'.z fun h2 hz2 sb=>?_⟩
  have hzp:∀ c∈[z,TI,TO,i1,i2],c≠s.heap.objs.size:=fun c hc q=>by
   obtain ⟨s1,s2,⟨oa,ob,s3⟩,⟨o4,s4,_⟩,⟨o5,s5,_⟩⟩:=st
   simp only[List.mem_cons,List.not_mem_nil,or_false] at hc
   subst q
   rcases hc with rfl|rfl|rfl|rfl|rfl
   ·exact absurd (Heap.lt_size s1) (Nat.lt_irrefl _)
   ·exact absurd (Heap.lt_size s2) (Nat.lt_irrefl _)
   ·exact absurd (Heap.lt_size s3) (Nat.lt_irrefl _)
   ·exact absurd (Heap.lt_size s4) (Nat.lt_irrefl _)
   ·exact absurd (Heap.lt_size s5) (Nat.lt_irrefl _)
  have st2:Zp h2 z TI TO i1 i2 a b .none (i+1):=by
   refine ⟨hz2,sb.extBut _ _ D.d1 st'.ti,?_,st'.a1.extBut sb.extBut D.d3,st'.a2.extBut sb.extBut D.d4⟩
   obtain ⟨oa,ob,q⟩:=st'.to
   exact ⟨oa,ob,sb.extBut _ _ D.d2 q⟩
  have hk2:∀ c ob,c∉[z,TI,TO,i1,i2]->s.heap.get? c=some ob->h2.get? c=some ob:=fun c ob nc e=>by
   simp only[List.mem_cons,List.not_mem_nil,or_false,not_or] at nc
   exact sb.extBut _ _ nc.1 (hk c ob nc.1 nc.2.2.1 nc.2.2.2.1 nc.2.2.2.2 e)
  have hth:∀ c ob,s.heap.get? c=some ob->∃ ob',h2.get? c=some ob':=fun c ob e=>by
   by_cases nc:c∈[z,TI,TO,i1,i2]
   ·obtain ⟨s1,s2,⟨oa,ob,s3⟩,⟨o4,s4,_⟩,⟨o5,s5,_⟩⟩:=st2
    simp only[List.mem_cons,List.not_mem_nil,or_false] at nc
    rcases nc with rfl|rfl|rfl|rfl|rfl
    ·exact ⟨_,s1⟩
    ·exact ⟨_,s2⟩
    ·exact ⟨_,s3⟩
    ·exact ⟨_,s4⟩
    ·exact ⟨_,s5⟩
   ·exact ⟨ob,hk2 c ob nc e⟩
  have hnew:h2.get? s.heap.objs.size=some { cls:=.type "tuple",data:=.seq #[u,v] }:=sb.extBut _ _ (Ne.symm (hzp z (by simp))) ht
  have IN:L2.Inv X pins σ (upd H s.heap.objs.size (.tup [x,y])) { s with heap:=h2 }:=zen (s:=s) (t':=s.toks) (o:=.tup [x,y]) I hf hk2 (Nat.le_refl _) hth ⟨by show 2<=sizeLine;decide,[u,v],.cons ru (.cons rv' .nil),0,hnew⟩
  exact ⟨.ref s.heap.objs.size,_,IN,rfl,
   ⟨_,x,y,rfl,I.hok.fresh (Nat.le_refl _),rfl,fun zs q=>by rw[I.tuple_inj q q1];exact hx,fun zs q=>by rw[I.tuple_inj q q2];exact hy⟩,st2,fun c hc=>by rw[zae (hzp c hc)];exact (hf c hc).1⟩
 done:=by
  intro X hP hw hK hc i pins s σ H E I hf st hg
  subst hP hw hK
  obtain ⟨xs,q1,hx⟩:=hg
  obtain ⟨its,rv,p,hz⟩:=I.tuple q1
  have hl:=rv.length
  have hT:s.TypeIs (.ref z) "zip":=⟨_,st.z,rfl⟩
  unfold pyNext
  refine wpAny_bind (wpAny_attempt (wpAny_callSpecial?_slot (name:=Str.ofString "__next__") hT F.slot_zip_next (wpAny_call_entry F.slot_zip_next hT F.entry_zip_next
   (zlg (l1:=a) (l2:=b) (k:=i) (xs:=its.toArray) (I.ok.hd hc) D st (show s.heap.IsTuple a its.toArray from p) (fun c hc=>zmj I (hf c hc) q1) (by simp;omega) fun h' e hk he=>?_) (F.args_zip_next_1 _))))
  obtain ⟨o,ho,hcl⟩:=he
  refine wpAny_bind (wpAny_isInstance (T:="StopIteration") (b:=true) ⟨o,ho,hcl⟩ isSubtype_stop (wpAny_pure ⟨rfl,?_⟩))
  refine zeh (t':=s.toks) I hf fun c ob nc e=>?_
  simp only[List.mem_cons,List.not_mem_nil,or_false,not_or] at nc
  exact hk c ob nc.1 nc.2.2.1 nc.2.2.2.1 nc.2.2.2.2 e
 self:=fun _ _ _ _ _ st h=>wpAny_pyIter_zip st.z h
section
variable{prog:Program}{w:World}{A:Around}{E:Value->Shared->Prop}{s:Shared}
abbrev zt1(h:Heap)(a:Addr):Heap:=h.push { cls:=.type "tuple_iterator",data:=.fields #[.ref a,.int 0 0] }
abbrev zt2(h:Heap)(a b:Addr):Heap:=(zt1 h a).push { cls:=.type "tuple_iterator",data:=.fields #[.ref b,.int 0 0] }
abbrev zt3(h:Heap)(a b:Addr):Heap:=(zt2 h a b).push { cls:=.type "tuple",data:=.seq #[.ref h.objs.size,.ref (zt1 h a).objs.size] }
abbrev zt4(h:Heap)(a b:Addr):Heap:=(zt3 h a b).push { cls:=.type "tuple",data:=.seq #[.none,.none] }
abbrev zt5(h:Heap)(a b:Addr):Heap:=(zt4 h a b).push { cls:=.type "zip",data:=.fields #[.none,.bool false,.bool false,.ref (zt2 h a b).objs.size,.ref (zt3 h a b).objs.size] }
theorem zrV(a b:Addr)(xs ys:Array Value):Meets (Builtin.«zip.__new__» ⟨[.type "zip",.ref a,.ref b],[]⟩) (fun _ R s=>s.heap.IsTuple a xs/\s.heap.IsTuple b ys/\R (.ok (.ret (.ref (zt4 s.heap a b).objs.size))) { s with heap:=zt5 s.heap a b }) :=
 .of_wp fun prog w A R s h=>by
  obtain ⟨hp,g,d,tk,os⟩:=s
  obtain ⟨k1,k2,h⟩:=h
  have hsub:=sub_zip
  have t1:Heap.IsTuple (Shared.heap ⟨hp,g,d,tk,os⟩) a xs:=k1
  have t2:Heap.IsTuple (Shared.heap ⟨hp.push { cls:=.type "tuple_iterator",data:=.fields #[.ref a,.int 0 0] },g,d,tk,os⟩) b ys:=Heap.IsTuple.push k2 _
  wp_walk using wpAny_pyIter_tuple t1,wpAny_pyIter_tuple t2
  exact ⟨_,rfl,h⟩
theorem zrp{a b:Addr}{xs ys:Array Value}{Q:Value->Shared->Prop}(k1:s.heap.IsTuple a xs)(k2:s.heap.IsTuple b ys)
  (h:∀ h',Zp h' (s.heap.objs.size+4) (s.heap.objs.size+2) (s.heap.objs.size+3) s.heap.objs.size (s.heap.objs.size+1) a b .none 0->(∀ c o,s.heap.get? c=some o->h'.get? c=some o)->Q (.ref (s.heap.objs.size+4)) { s with heap:=h' }) :
  wpAny (model prog w) A (call (.type "zip") [.ref a,.ref b]) Q E s:=by
 refine callType_new F.called_zip (by decide) (F.typeCall_zip_2 _ _) (F.newCall_zip_2 _ _) (fun obj=>F.args_object_init_3 obj _ _) F.entry_zip_new (zrV a b xs ys) ⟨k1,k2,?_⟩
 have e1:(zt1 s.heap a).objs.size=s.heap.objs.size+1:=Heap.size_push ..
 have e2:(zt2 s.heap a b).objs.size=s.heap.objs.size+2:=by rw[Heap.size_push,e1]
 have e3:(zt3 s.heap a b).objs.size=s.heap.objs.size+3:=by rw[Heap.size_push,e2]
 have e4:(zt4 s.heap a b).objs.size=s.heap.objs.size+4:=by rw[Heap.size_push,e3]
 have g5:(zt5 s.heap a b).get? (zt4 s.heap a b).objs.size=some _:=Heap.get?_push_size _ rfl
 have g4:(zt5 s.heap a b).get? (zt3 s.heap a b).objs.size=some _:=Heap.get?_push_of_some _ (Heap.get?_push_size _ rfl)
 have g3:(zt5 s.heap a b).get? (zt2 s.heap a b).objs.size=some _:=Heap.get?_push_of_some _ (Heap.get?_push_of_some _ (Heap.get?_push_size _ rfl))
 have g2:(zt5 s.heap a b).get? (zt1 s.heap a).objs.size=some _:=Heap.get?_push_of_some _ (Heap.get?_push_of_some _ (Heap.get?_push_of_some _ (Heap.get?_push_size _ rfl)))
 have g1:(zt5 s.heap a b).get? s.heap.objs.size=some _:=Heap.get?_push_of_some _ (Heap.get?_push_of_some _ (Heap.get?_push_of_some _ (Heap.get?_push_of_some _ (Heap.get?_push_size _ rfl))))
 show _/\_
 rw[e2,e3,e4] at g5
 rw[e1,e2] at g3
 rw[e3] at g4
 rw[e1] at g2
 rw[e4]
 exact ⟨⟨_,g5,rfl⟩,h _ ⟨g5,g3,⟨_,_,g4⟩,⟨_,g1,rfl,rfl⟩,⟨_,g2,rfl,rfl⟩⟩ fun c o q=>Heap.get?_push_of_some _ (Heap.get?_push_of_some _ (Heap.get?_push_of_some _ (Heap.get?_push_of_some _ (Heap.get?_push_of_some _ q))))⟩
end
theorem zrW(n:Nat):ZpD (n+4) (n+2) (n+3) n (n+1):=by
 constructor <;> (intro h;have h:(_:Nat)=(_:Nat):=h;omega)
theorem ztb{K:W.Frag}{G:Hp}{a b:Addr}{vs us:List V}{ds es:List Dt}(hs:SqT K G a vs)(ht:SqT K G b us)(q:zay K G ds vs)(q':zay K G es us)(hl:ds.length=es.length):zlw K (Itz K a b) G ((ds.zip es).map fun z=>.tup [z.1,z.2]):=fun i G1 H s1 s2=>by
 have h1:=za1 s2 (za1 s1 hs)
 have h2:=za1 s2 (za1 s1 ht)
 refine ⟨fun d e=>?_,fun h=>⟨vs,h1,?_⟩⟩
 ·rw[List.getElem?_map] at e
  have hi:i<ds.length:=by
   by_cases hi:i<ds.length
   ·exact hi
   ·rw[List.getElem?_eq_none (by rw[List.length_zip];omega)] at e;cases e
  have z1:ds[i]? = some ds[i]:=by simp[hi]
  have z2:es[i]? = some (es[i]'(by omega)):=by simp[show i<es.length by omega]
  obtain ⟨v,e1,e2⟩:=q.get z1
  obtain ⟨u,e3,e4⟩:=q'.get z2
  have ed:d=.tup [ds[i],es[i]'(by omega)]:=by
   rw[(List.getElem?_zip_eq_some (z:=(ds[i],es[i]'(by omega)))).mpr ⟨z1,z2⟩] at e
   exact (Option.some.inj e).symm
  refine ⟨⟨vs,us,v,u,h1,h2,e1,e3⟩,fun x H' y=>?_⟩
  obtain ⟨p,x',y',rfl,hp,rfl,k1,k2⟩:=y
  have kx:=k1 vs h1
  have ky:=k2 us h2
  rw[e1] at kx;rw[e3] at ky
  cases kx;cases ky
  have gr:zdz G1 H (upd G1 p (.tup [v,u])) (upd H p (.tup [v,u])):=.new s2 hp
  refine ⟨_,gr,?_⟩
  rw[ed]
  unfold Rep
  exact ⟨p,[v,u],rfl,zgO.of zah,zay.cons ((e2.same s1).same gr.g) (zay.cons ((e4.same s1).same gr.g) zay.nil)⟩
 ·rw[<- q.length]
  simpa [hl] using h
section
variable{X:Cx}{C:Cn}{elts:List Expr}{x1:Nat}{pt:Pos}{a b:Expr}{fa fb:De}{p pos:Pos}
end
section
variable{X:Cx}{pins:List (Addr×Obj)}{σ:L2.St}{H:Hp}{s:Shared}
end
end PV
end
section
namespace PV
open PySem PySem.Spec L2 PyProof.Rows
section
variable{X:Cx}{pins:List (Addr×Obj)}{σ:L2.St}{H:Hp}{s:Shared}
variable{kS a:Addr}{kz:List Int}{vs:List Value}{xs:List V}{Θ : Hp->Prop}{e1:Nat}{A:Around}{E:Value->Shared->Prop}{P:PySem.Fin->Shared->Prop}
abbrev lo(ys:Array Value)(n:Nat):Obj:=seqObj "list" ys n
end
section
variable{X:Cx}{pins:List (Addr×Obj)}{σ:L2.St}{H:Hp}{s:Shared}
end
theorem zpz{d:Dt}{bs:List B}:∀{ρ:Ev}{k:Nat},zg1 [.d d] bs k ρ = ρ
 |[],_=>rfl
 |o::r,k=>by
  show (match zdR [.d d] k with|some j=>bs[j]?|none=>o)::zg1 [.d d] bs (k+1) r=_
  rw[zpz (ρ:=r)];rfl
section
variable{X:Cx}{C:Cn}{CX:CXT}{k k':Nat}{Fd:FD}{x:Str}{p pf kp pos:Pos}{a:Expr}{fa:De}
end
end PV
end
section
namespace PV
open PySem PySem.Spec L2
def zdq(g:DG)(ft:DT)(fe:DN):List Dt->Ev->R (List (List Dt)×Ev)
 |[],ρ=>.ok ([],ρ)
 |d::r,ρ=>(g d ρ).bind fun ρ1=>(ft ρ1).bind fun t=>if t.1=true then (fe t.2).bind fun y=>(zdq g ft fe r y.2).bind fun z=>.ok (y.1::z.1,z.2) else zdq g ft fe r t.2
def zjh(K:W.Frag)(H0:Hp)(D:Addr)(G H:Hp)(w:Wn)(dss:List (List Dt))(as:List Addr):Prop :=
 (D::as).Nodup/\Paired (fun b ds=>H0 b=none/\G b=none/\w b=none/\∃ us,H b=some (.lst us)/\zay K G ds us) as dss
theorem zjh.step{K:W.Frag}{H0 G H G' H':Hp}{w w':Wn}{D:Addr}{dss:List (List Dt)}{as:List Addr}(q:zjh K H0 D G H w dss as)(s:zbe G H w G' H' w'):zjh K H0 D G' H' w' dss as :=
 ⟨q.1,zdK (fun b ds ⟨h1,h2,h3,us,h4,h5⟩=>by
  obtain ⟨k1,k2,k3⟩:=s.keep h2 h3 h4
  exact ⟨h1,k1,k2,us,k3,h5.same s.g⟩) q.2⟩
theorem zeZ{α β:Type}{F:α->β->Prop}:∀{l:List α}{r:List β},Paired F l r->l.length=r.length
 |_,_,.nil=>rfl
 |_,_,.cons _ t=>by simp[zeZ t]
theorem zfP{α β:Type}{F:α->β->Prop}{a:α}{b:β}(h:F a b):∀{l:List α}{r:List β},Paired F l r->Paired F (l++[a]) (r++[b])
 |_,_,.nil=>.cons h .nil
 |_,_,.cons x t=>.cons x (zfP h t)
theorem zjh.len{K:W.Frag}{H0 G H:Hp}{w:Wn}{D:Addr}{dss:List (List Dt)}{as:List Addr}(q:zjh K H0 D G H w dss as):as.length=dss.length:=zeZ q.2
theorem zjh.snoc{K:W.Frag}{H0 G H:Hp}{w:Wn}{D p:Addr}{dss:List (List Dt)}{ds:List Dt}{us:List V}{as:List Addr}(q:zjh K H0 D G H w dss as)(nD:p≠D)(nA:p∉as)(h0:H0 p=none)(hg:G p=none)(hw:w p=none)(hp:H p=some (.lst us))(hr:zay K G ds us):zjh K H0 D G H w (dss++[ds]) (as++[p]):=by
 refine ⟨?_,zfP ⟨h0,hg,hw,us,hp,hr⟩ q.2⟩
 have h:=q.1
 rw[List.nodup_cons] at h ⊢
 refine ⟨fun z=>?_,?_⟩
 ·rcases List.mem_append.mp z with z|z
  ·exact h.1 z
  ·exact nD (List.mem_singleton.mp z).symm
 ·rw[List.nodup_append]
  exact ⟨h.2,by simp,fun x hx y hy=>by rw[List.mem_singleton.mp hy];exact fun z=>nA (z ▸ hx)⟩
theorem zjh.updD{K:W.Frag}{H0 G H:Hp}{w:Wn}{D:Addr}{o:HO}{dss:List (List Dt)}{as:List Addr}(q:zjh K H0 D G H w dss as):zjh K H0 D G (upd H D o) w dss as :=
 ⟨q.1,zbx q.2 fun b ds hb ⟨h1,h2,h3,us,h4,h5⟩=>⟨h1,h2,h3,us,by rw[zae (show b≠D from fun z=>(List.nodup_cons.mp q.1).1 (by rw[<- z];exact hb))];exact h4,h5⟩⟩
section
variable{X:Cx}{C:Cn}
theorem zld{tg iter elt:Expr}{ifs:List Expr}{scope:Scope}{pos:Pos}{N':List Str}{m:Nat}{g:DG}{ft:DT}{fe:DN}(hc:X.calm=true)(hb:zeE X.N N' scope.names m=true)
  (hkind:scope.kind=.function) (hcell:∀ y∈scope.names,y.2≠.cell) (hfr:∀ y∈scope.names,y.2=.free->X.env.kindOf y.1=some .cell\/X.env.kindOf y.1=some .free)
  (hblk:∀ cl L s H fp G H' w σ,JG (zbS X N' scope cl L s H fp) (zfp C X.N.length G H' w σ) tg g/\JTs (zbS X N' scope cl L s H fp) (zfp C X.N.length G H' w σ) ifs ft/\JN (zbS X N' scope cl L s H fp) (zfp C X.N.length G H' w σ) elt fe)
  {pins:List (Addr×Obj)} {σ:L2.St} {s2:Shared} {cl:List (Str×Addr)} {RR:Value->Addr->Result->Shared->Prop} {E:Value->Shared->Prop}
  (hcl:∀ x c,cl.lookup x=some c->X.env.cells.lookup x=some c) (hcf:∀ y∈scope.names,y.2=.free->∃ c,cl.lookup y.1=some c)
  {it:Addr} {fp:List Addr} {tn:Nat->Heap->Prop} {J:It} {H2:Hp} (I2:L2.Inv X pins σ H2 s2) (T:zlV X.prog X.w X.K tg J fp it tn) (st2:tn 0 s2.heap) (f2:∀ b∈fp,zgx X pins H2 b)
  {ds:List Dt} {zs:List (List Dt)} {ρ1 ρf:Ev} {G1:Hp} {w1:Wn} (r1:Rel X.K C G1 w1 ρ1 σ H2) (it1:zlw X.K J G1 ds) (hfi:zcK ds=true) (ec:zdq g ft fe ds (ρ1++List.replicate m none)=.ok (zs,ρf))
  (fin:∀(D L:Addr)(s':Shared)(as:List Addr)(G' H':Hp)(w':Wn),L2.Inv X pins σ H' s'->zlh X pins H' L s'->zbe G1 H2 w1 G' H' w'->Rel X.K C G' w' (ρf.take ρ1.length) σ H'->H2 D=none->H' D=some (.lst (as.map V.ref))->G' D=none->w' D=none->zjh X.K H2 D G' H' w' zs as->RR (.ref D) L (.ok .next) s') :
  wpAny (model X.prog X.w) X.A (newList []) (fun acc s₃=>wpAny (model X.prog X.w) X.A (newFunctionEnv scope X.env.globals cl [] X.env.qual none .none (some X.env)) (fun cenv s₄ =>
   codeAny (model X.prog X.w) X.A (.compStart (.ListComp elt [⟨tg,iter,ifs,0⟩] scope pos) 0 (.ref it) acc { cenv with scope:=relabel scope X.env }) (RR acc cenv.locals) s₄) E s₃) E s2:=by
 have hD:H2 s2.heap.objs.size=none:=I2.hok.fresh (Nat.le_refl _)
 refine wpAny_newObj_type (wpAny_newFunctionEnv hcell (by intro y hy;simp at hy) (fun h₁ hns₁ hsb₁=>?_) hkind)
 dsimp only at hns₁ hsb₁ ⊢
 have I3:L2.Inv X pins σ (upd H2 s2.heap.objs.size (.lst [])) { s2 with heap:=s2.heap.push { cls:=.type "list",dict:=none,data:=.seq ([]:List Value).toArray } } :=
  I2.laid (t':=s2.toks) (fun b u e=>Heap.get?_push_of_some _ e) (Nat.le_refl _) ⟨Nat.zero_le _,[],0,.nil,Heap.get?_push_size _ rfl⟩
 have hob:∀ b∈fp,∃ o,s2.heap.get? b=some o:=fun b hb=>let ⟨o,e,_⟩:=T.obj 0 _ st2 b hb;⟨o,e⟩
 have hbD:∀ b∈fp,b≠s2.heap.objs.size:=fun b hb z=>by obtain ⟨o,e⟩:=hob b hb;exact absurd (Heap.lt_size e) (by rw[z];exact Nat.lt_irrefl _)
 have f3:∀ b∈fp,zgx X pins (upd H2 s2.heap.objs.size (.lst [])) b:=fun b hb=>⟨by rw[zae (hbD b hb)];exact (f2 b hb).1,(f2 b hb).2⟩
 have hk3:∀ b o,(s2.heap.push { cls:=.type "list",dict:=none,data:=.seq ([]:List Value).toArray }).get? b=some o->h₁.get? b=some o:=fun b o e =>
  (hsb₁.2 b (Nat.ne_of_lt (Heap.lt_size e))).trans (Heap.get?_push_of_some _ e)
 have J4:=zja (N':=N') (scope:=scope) (cl:=cl) (m:=m) (fp:=fp) (tk:=s2.toks+([]:List (Str×Value)).length) I3 f3 (fun b hb=>by obtain ⟨o,e⟩:=hob b hb;exact ⟨o,Heap.get?_push_of_some _ e⟩) hb hkind hcell hfr hcl hcf hns₁ hk3
 have st4:tn 0 h₁:=T.keep _ _ _ st2 fun b hb o e=>hk3 b o (Heap.get?_push_of_some _ e)
 generalize hX':zbS X N' scope cl (s2.heap.push { cls:=.type "list",dict:=none,data:=.seq ([]:List Value).toArray }).objs.size { s2 with heap:=s2.heap.push { cls:=.type "list",dict:=none,data:=.seq ([]:List Value).toArray } } (upd H2 s2.heap.objs.size (.lst [])) fp=X' at J4
 have eP:X'.prog=X.prog:=by rw[<- hX'];rfl
 have eW:X'.w=X.w:=by rw[<- hX'];rfl
 have eK:X'.K=X.K:=by rw[<- hX'];rfl
 have eA:X'.A=X.A:=by rw[<- hX'];rfl
 have eC:X'.calm=true:=by rw[<- hX'];exact hc
 have eE:X'.xe=fun _ _=>False:=by rw[<- hX'];rfl
 have ePn:X'.pn=[]:=by rw[<- hX'];rfl
 have eN:X'.N.length=X.N.length+m:=by
  rw[<- hX'];show N'.length=_
  unfold zeE at hb;rw[Bool.and_eq_true] at hb;exact of_decide_eq_true hb.1
 have eEx:X'.ex=fp:=by rw[<- hX'];rfl
 have hlenσ:σ.length=X.N.length:=I2.len
 obtain ⟨hg,hts,he⟩:=hblk cl (s2.heap.push { cls:=.type "list",dict:=none,data:=.seq ([]:List Value).toArray }).objs.size { s2 with heap:=s2.heap.push { cls:=.type "list",dict:=none,data:=.seq ([]:List Value).toArray } } (upd H2 s2.heap.objs.size (.lst [])) fp G1 H2 w1 (σ++List.replicate m none)
 rw[hX'] at hg hts he
 generalize hC':zfp C X.N.length G1 H2 w1 (σ++List.replicate m none)=C' at hg hts he
 have c0:C'.H₀=H2:=by rw[<- hC'];rfl
 have rel0:Rel X.K C' G1 w1 (ρ1++List.replicate m none) (σ++List.replicate m none) (upd H2 s2.heap.objs.size (.lst [])):=by
  have w0:w1 s2.heap.objs.size=none:=by
   cases q:w1 s2.heap.objs.size with
   |none=>rfl
   |some k=>exact absurd hD (r1.wh _ (by rw[q];simp))
  have base:Rel X.K C' G1 w1 (ρ1++List.replicate m none) (σ++List.replicate m none) H2:=by
   refine ⟨r1.gh,r1.wg,r1.wh,by simp[r1.len],fun i b e=>?_,by rw[<- hC'];exact .refl _ _ _,fun i _=>by rw[<- hC'];rfl⟩
   have hi':i < ρ1.length:=by
    by_cases hi':i < ρ1.length
    ·exact hi'
    ·rw[List.getElem?_append_right (by omega),List.getElem?_replicate] at e
     split at e <;> cases e
   rw[List.getElem?_append_left hi'] at e
   obtain ⟨v,h1,h2⟩:=r1.sl i b e
   exact ⟨v,by rw[List.getElem?_append_left (by rw[<- r1.len];exact hi')];exact h1,h2⟩
  exact base.upd_new (r1.gh.free hD) w0 (by rw[c0];exact hD)
 have stat:∀{H':Hp},(∀ b∈fp,H' b=none)->∀ b∈fp,zgx X' [] H' b:=fun hn b hb=>by
  have q:=J4.ok.exf b (by rw[eEx];exact hb)
  exact ⟨hn b hb,q.1,J4.ok.exfs b (by rw[eEx];exact hb),.inl (by rw[eEx];exact hb),q.2,fun p hp=>by rw[ePn] at hp;simp at hp⟩
 have loop:∀ s₃:Shared,s₃={ s2 with heap:=h₁,toks:=s2.toks+([]:List (Str×Value)).length } ->
   codeAny (model X.prog X.w) X.A (.compLoop (.ListComp elt [⟨tg,iter,ifs,0⟩] scope pos) 0 (.ref it) (.ref s2.heap.objs.size) X'.env) (RR (.ref s2.heap.objs.size) (s2.heap.push { cls:=.type "list",dict:=none,data:=.seq ([]:List Value).toArray }).objs.size) s₃:=by
  rintro s₃ rfl
  refine zfi (fun n s'=>∃ i σ' H' ρ' G' w' ac as,L2.Inv X' [] σ' H' s'/\tn i s'.heap/\(∀ b∈fp,H' b=none)/\n=ds.length-i/\i<=ds.length/\Rel X.K C' G' w' ρ' σ' H'/\zb7 G1 G' /\
   H' s2.heap.objs.size=some (.lst (as.map V.ref))/\G' s2.heap.objs.size=none/\w' s2.heap.objs.size=none/\zjh X.K H2 s2.heap.objs.size G' H' w' ac as/\ac.length<=i/\∃ z,zdq g ft fe (ds.drop i) ρ'=.ok z/\ac++z.1=zs/\z.2 = ρf) ?_ ds.length
   ⟨0,σ++List.replicate m none,_,ρ1++List.replicate m none,G1,w1,[],[],J4,st4,fun b hb=>(f3 b hb).1,by simp,Nat.zero_le _,rel0,.refl _,zah,r1.gh.free hD,(by
    cases q:w1 s2.heap.objs.size with
    |none=>rfl
    |some k=>exact absurd hD (r1.wh _ (by rw[q];simp))),⟨by simp,.nil⟩,Nat.zero_le _,(zs,ρf),by simpa using ec,by simp,rfl⟩
  rintro n s' ⟨i,σ',H',ρ',G',w',ac,as,J5,st5,fr5,rfl,hil,r5,sg5,hd5,gd5,wd5,q5,hac,z,ez,ez1,ez2⟩
  obtain ⟨itgo,itstop⟩:=it1 i G' H' sg5 r5.gh
  by_cases hlt:i<ds.length
  ·have ed:ds.drop i=ds[i]::ds.drop (i+1):=List.drop_eq_getElem_cons hlt
   obtain ⟨go,yl⟩:=itgo ds[i] (by simp[hlt])
   have hIt:=T.item X' eP eW eK eC i [] s' σ' H' (fun _ _=>False) J5 (stat fr5) st5 go
   rw[eA] at hIt
   refine thn hIt fun rr s6 ⟨u,hr,h6⟩=>?_
   subst hr
   refine thn h6 fun _ s7 ⟨x,H7,J7,rx7,y7,st7,fr7⟩=>?_
   obtain ⟨G7,gr,rep7⟩:=yl x H7 y7
   have rel7:=r5.grow gr
   have keep7:G7 s2.heap.objs.size=none/\w' s2.heap.objs.size=none/\H7 s2.heap.objs.size=some (.lst (as.map V.ref)):=(gr.step (w:=w')).keep gd5 wd5 hd5
   have J7':=J7.pinned (stat fr7) (T.obj _ _ st7)
   rw[ed] at ez
   unfold zdq at ez
   obtain ⟨ρ3,e3,ez⟩:=zcC ez
   obtain ⟨t4,e4,ez⟩:=zcC ez
   obtain ⟨b4,ρ4⟩:=t4
   have hG:=hg ([]++zcA fp s7.heap) s7 σ' H7 x u (fun σ8 H8=>∃ G8 w8,zbe G7 H7 w' G8 H8 w8/\Rel X'.K C' G8 w8 ρ3 σ8 H8) J7' rx7 ⟨G7,w',ρ',ds[i],by rw[eK];exact rel7,by rw[eK];exact rep7,by rw[e3];exact fun σ8 G8 H8 w8 s8 r8=>⟨G8,w8,s8,r8⟩⟩
   rw[eP,eW,eA,eE] at hG
   refine thn hG fun _ s8 ⟨σ8,H8,J8,G8,w8,s8s,r8⟩=>?_
   have keep8:=s8s.keep keep7.1 keep7.2.1 keep7.2.2
   have hT:=hts ([]++zcA fp s7.heap) s8 σ8 H8 (fun b H9=>b=b4/\∃ G9 w9,zbe G8 H8 w8 G9 H9 w9/\Rel X'.K C' G9 w9 ρ4 σ8 H9) J8 ⟨G8,w8,ρ3,r8,by rw[e4];exact fun G9 H9 w9 s9 r9=>⟨rfl,G9,w9,s9,r9⟩⟩
   rw[eP,eW,eA,eE] at hT
   refine thn hT fun ok s9 ⟨H9,J9,eok,G9,w9,s9s,r9⟩=>?_
   subst eok
   have keep9:=s9s.keep keep8.1 keep8.2.1 keep8.2.2
   have sG9:zb7 G1 G9:=((sg5.trans gr.g).trans s8s.g).trans s9s.g
   have after:∀{σa:L2.St}{Ha:Hp}{sa:Shared},L2.Inv X' ([]++zcA fp s7.heap) σa Ha sa->tn (i+1) sa.heap/\∀ b∈fp,Ha b=none:=fun {σa Ha sa} Ja =>
    ⟨T.keep _ _ _ st7 fun b hb o e=>(Ja.pin (b,o) (List.mem_append_right _ (List.mem_append_right _ (zck hb e)))).1,fun b hb=>by
     obtain ⟨o,e,_⟩:=T.obj _ _ st7 b hb
     exact (Ja.pin (b,o) (List.mem_append_right _ (List.mem_append_right _ (zck hb e)))).2.1⟩
   have q9:zjh X.K H2 s2.heap.objs.size G9 H9 w9 ac as:=(q5.step (((gr.step (w:=w')).trans s8s).trans s9s))
   cases ok with
   |false =>
    rw[if_neg Bool.false_ne_true]
    simp only[Bool.false_eq_true,if_false] at ez
    obtain ⟨k1,k2⟩:=after J9
    exact ⟨ds.length-(i+1),by omega,i+1,σ8,H9,ρ4,G9,w9,ac,as,J9.unpinned,k1,k2,rfl,hlt,by rw[<- eK];exact r9,sG9,keep9.2.2,keep9.1,keep9.2.1,q9,by omega,z,ez,ez1,ez2⟩
   |true =>
    rw[if_pos rfl]
    simp only[if_true] at ez
    obtain ⟨y10,e10,ez⟩:=zcC ez
    obtain ⟨yd,ρ10⟩:=y10
    obtain ⟨z',ez',ez3⟩:=zcC ez
    have hEl:=he ([]++zcA fp s7.heap) s9 σ8 H9 (fun v H10=>∃ G10 w10 pn us,v=.ref pn/\zbe G9 H9 w9 G10 H10 w10/\Rel X'.K C' G10 w10 ρ10 σ8 H10/\H9 pn=none/\H10 pn=some (.lst us)/\G10 pn=none/\w10 pn=none/\zay X'.K G10 yd us) J9 ⟨G9,w9,ρ4,r9,by rw[e10];exact fun pn us G10 H10 w10 s10 r10 n0 n1 n2 n3 q10=>⟨G10,w10,pn,us,rfl,s10,r10,n0,n1,n2,n3,q10⟩⟩
    rw[eP,eW,eA,eE] at hEl
    refine thn hEl fun xv s10 ⟨vy,H10,J10,ry,G10,w10,pn,us,evy,s10s,r10,n0,n1,n2,n3,q10⟩=>?_
    subst evy
    have keep10:=s10s.keep keep9.1 keep9.2.1 keep9.2.2
    have q10a:=q9.step s10s
    have hlen:=q9.len
    have hAp:=zeD (X:=X') ([]++zcA fp s7.heap) s10 σ8 H10 (.ref s2.heap.objs.size) [.ref pn] (.ref s2.heap.objs.size) [xv] (fun v H11=>H11=upd H10 s2.heap.objs.size (.lst (as.map V.ref++[.ref pn]))) J10 rfl (.cons ry .nil)
     ⟨s2.heap.objs.size,as.map V.ref,.ref pn,rfl,rfl,keep10.2.2,by
      have:=zfX hfi
      rw[List.length_map]
      omega,rfl⟩
    rw[eP,eW,eA,eE] at hAp
    refine thn hAp fun _ s11 ⟨v11,H11,J11,_,e11⟩=>?_
    subst e11
    obtain ⟨k1,k2⟩:=after J11
    have rel11:Rel X.K C' G10 w10 ρ10 σ8 (upd H10 s2.heap.objs.size (.lst (as.map V.ref++[.ref pn]))):=by
     rw[<- eK]
     exact r10.upd_new keep10.1 keep10.2.1 (by rw[c0];exact hD)
    have nD:pn≠s2.heap.objs.size:=fun z=>by rw[z,keep9.2.2] at n0;cases n0
    have h20:H2 pn=none:=by
     have:=r9.en.k pn n0
     rw[c0] at this;exact this
    have nA:pn∉as:=fun z=>by
     obtain ⟨_,_,_,_,us',e,_⟩:=zcM q9.2 pn z
     rw[n0] at e;cases e
    have q11:zjh X.K H2 s2.heap.objs.size G10 (upd H10 s2.heap.objs.size (.lst (as.map V.ref++[.ref pn]))) w10 (ac++[yd]) (as++[pn]):=(q10a.snoc nD nA h20 n2 n3 n1 (by rw[<- eK];exact q10)).updD
    cases ez3
    refine ⟨ds.length-(i+1),by omega,i+1,σ8,_,ρ10,G10,w10,ac++[yd],as++[pn],J11.unpinned,k1,k2,rfl,hlt,rel11,sG9.trans s10s.g,by rw[zah];simp,keep10.1,keep10.2.1,q11,by simp;omega,z',ez',by rw[<- ez1];simp,ez2⟩
  ·have e:i=ds.length:=by omega
   subst e
   have hDn:=T.done X' eP eW eK eC ds.length [] s' σ' H' (fun _ _=>False) J5 (stat fr5) st5 (itstop (Nat.le_refl _))
   rw[eA] at hDn
   refine thn hDn fun rr s6 ⟨hr,J6⟩=>?_
   subst hr
   simp only[List.drop_length] at ez
   unfold zdq at ez
   cases ez
   obtain ⟨m6,hn6,_⟩:=id J6.loc
   have eL:X'.env.locals=(s2.heap.push { cls:=.type "list",dict:=none,data:=.seq ([]:List Value).toArray }).objs.size:=by rw[<- hX'];rfl
   rw[eL] at hn6
   have frL:H' (s2.heap.push { cls:=.type "list",dict:=none,data:=.seq ([]:List Value).toArray }).objs.size=none:=by rw[<- eL];exact J6.free
   rw[<- hX'] at J6
   have IX:L2.Inv X pins σ H' s6:=zmm (h':=s6.heap) I3 f3 (Nat.le_refl _) J6 ⟨rfl,fun _ _=>rfl⟩
   simp only[List.append_nil] at ez1
   subst ez1
   subst ez2
   have hLs:∀ b o,(s2.heap.push { cls:=.type "list",dict:=none,data:=.seq ([]:List Value).toArray }).get? b=some o->(s2.heap.push { cls:=.type "list",dict:=none,data:=.seq ([]:List Value).toArray }).objs.size≠b:=fun b o e z=>absurd (Heap.lt_size e) (by rw[z];exact Nat.lt_irrefl _)
   have lo:zlh X pins H' (s2.heap.push { cls:=.type "list",dict:=none,data:=.seq ([]:List Value).toArray }).objs.size s6:=by
    refine ⟨frL,fun z=>?_,.inr I3.sz,fun x c e z=>?_,fun p hp z=>?_,m6,hn6⟩
    ·exact absurd I3.lt (by rw[<- z];exact Nat.lt_irrefl _)
    ·obtain ⟨v,q⟩:=I3.cell x c e
     exact absurd q.lt (by rw[z];exact Nat.lt_irrefl _)
    ·exact hLs p.1 p.2 (I3.pin p hp).1 z.symm
   have cG:C'.G₀=G1:=by rw[<- hC'];rfl
   have cw:C'.w₀=w1:=by rw[<- hC'];rfl
   have en':zbe G1 H2 w1 G' H' w':=by have:=r5.en;rw[cG,c0,cw] at this;exact this
   have hρlen:ρ'.length=X.N.length+m:=by
    rw[r5.len,J5.len,eN]
   refine fin _ _ s6 as G' H' w' IX lo en' ⟨r5.gh,r5.wg,r5.wh,?_,fun i b e=>?_,r1.en.trans en',r1.pin⟩ hD hd5 gd5 wd5 q5
   ·rw[List.length_take,hρlen,r1.len,hlenσ];omega
   ·have hi':i < ρ1.length:=by
     by_cases hi':i < ρ1.length
     ·exact hi'
     ·rw[List.getElem?_eq_none (by rw[List.length_take];omega)] at e;cases e
    rw[List.getElem?_take_of_lt hi'] at e
    obtain ⟨v,h1,h2⟩:=r5.sl i b e
    refine ⟨v,?_,h2⟩
    have hpi:=r5.pin i (by rw[<- hC'];exact List.mem_range.mpr (by rw[<- hlenσ,<- r1.len];exact hi'))
    rw[h1] at hpi
    rw[<- hC'] at hpi
    have hpi':some (some v)=(σ++List.replicate m none)[i]? := hpi
    rw[List.getElem?_append_left (by rw[<- r1.len];exact hi')] at hpi'
    exact hpi'.symm
 have envEq:X'.env=compEnvC scope cl (s2.heap.push { cls:=.type "list",dict:=none,data:=.seq ([]:List Value).toArray }).objs.size X.env:=by rw[<- hX'];rfl
 rw[envEq] at loop
 exact codeAny_compStart_list (loop _ rfl) (T.self X.A 0 _ _ _ st4 (loop _ rfl))
def zkP(i:Nat)(fi:DA)(g:DG)(ft:DT)(fe:DN)(m:Nat):DS:=fun ρ=>(fi ρ).bind fun a=>if zcK a.1=true then match zdq g ft fe a.1 (a.2++List.replicate m none) with
  |.ok z=>if i<a.2.length then .ok (.nx,(z.2.take a.2.length).set i (some (.own2 z.1))) else .no
  |_=>.no
 else .no
theorem Rel.setOwn2{K:W.Frag}{σ:L2.St}{G0 H0:Hp}{w0:Wn}{G H:Hp}{w:Wn}{ρ:Ev}{i:Nat}{dss:List (List Dt)}{p:Addr}{as:List Addr}(r:Rel K C G w ρ σ H)(hi:i < ρ.length)(hpp:i∉C.pp)(hp:H p=some (.lst (as.map V.ref)))(hg:G p=none)(hw:w p=none)
  (q:zjh K H0 p G H w dss as) (s:zbe G0 H0 w0 G H w) (h0:H0 p=none) (en0:∀ b,H0 b=none->C.H₀ b=none) :
  Rel K C G (fun b=>if b∈p::as then some i else w b) (ρ.set i (some (.own2 dss))) (σ.set i (some (.ref p))) H/\zbe G0 H0 w0 G H (fun b=>if b∈p::as then some i else w b):=by
 have fr:∀ b∈p::as,H0 b=none/\G b=none/\w b=none/\H b≠none:=fun b hb=>by
  rcases List.mem_cons.mp hb with rfl|hb
  ·exact ⟨h0,hg,hw,by rw[hp];simp⟩
  ·obtain ⟨ds,k1,k2,k3,us,k4,_⟩:=zcM q.2 b hb
   exact ⟨k1,k2,k3,by rw[k4];simp⟩
 have s1:∀{G1 H1:Hp}{w1:Wn},zbe G1 H1 w1 G H w->(∀ b∈p::as,H1 b=none)->zbe G1 H1 w1 G H (fun b=>if b∈p::as then some i else w b):=fun s z=>by
  refine ⟨s.g,s.fr,s.h,fun b e=>?_,s.k⟩
  by_cases hb:b∈p::as
  ·exact .inr (z b hb)
  ·simp only[hb,if_false] at e;exact s.w b e
 refine ⟨⟨r.gh,fun b e=>?_,fun b e=>?_,by simpa using r.len,fun j b e=>?_,s1 r.en (fun b hb=>en0 b (fr b hb).1),fun j hj=>?_⟩,s1 s fun b hb=>(fr b hb).1⟩
 ·by_cases hb:b∈p::as
  ·exact (fr b hb).2.1
  ·simp only[hb,if_false] at e;exact r.wg b e
 ·by_cases hb:b∈p::as
  ·exact (fr b hb).2.2.2
  ·simp only[hb,if_false] at e;exact r.wh b e
 ·by_cases hj:j=i
  ·subst hj
   rw[List.getElem?_set_self hi] at e
   cases e
   refine ⟨_,List.getElem?_set_self (by rw[<- r.len];exact hi),p,as,rfl,by simp,hp,q.1,zbx q.2 fun b ds hb ⟨_,_,_,us,k4,k5⟩=>⟨?_,us,k4,k5⟩⟩
   simp[List.mem_cons_of_mem _ hb,hb]
  ·rw[List.getElem?_set_ne (Ne.symm hj)] at e
   obtain ⟨v',k1,k2⟩:=r.sl j b e
   refine ⟨v',by rw[List.getElem?_set_ne (Ne.symm hj)];exact k1,k2.grow (.refl _) fun a o e1 e2=>⟨e2,?_⟩⟩
   have:a∉p::as:=fun z=>by rw[(fr a z).2.2.1] at e1;cases e1
   simp only[this,if_false];exact e1
 ·have:i≠j:=fun z=>hpp (z ▸ hj)
  rw[List.getElem?_set_ne this];exact r.pin j hj
theorem zjt{tg iter elt:Expr}{ifs:List Expr}{scope:Scope}{pos spos:Pos}{N':List Str}{m i:Nat}{x:Str}{px:Pos}{fi:DA}{g:DG}{ft:DT}{fe:DN}(hN:X.N.Nodup)(hix:X.N[i]? = some x)(hx:Loc X.env.scope x)(hp:i∉C.pp)(hi:JI X C tg iter fi)(hc:X.calm=true)(hb:zeE X.N N' scope.names m=true)
  (hkind:scope.kind=.function) (hcell:∀ y∈scope.names,y.2≠.cell) (hfr:∀ y∈scope.names,y.2=.free->X.env.kindOf y.1=some .cell\/X.env.kindOf y.1=some .free) (hnames:∀ y∈scope.names,y.2=.local->scope.names.lookup y.1=some .local)
  (hblk:∀ cl L s H fp G H' w σ,JG (zbS X N' scope cl L s H fp) (zfp C X.N.length G H' w σ) tg g/\JTs (zbS X N' scope cl L s H fp) (zfp C X.N.length G H' w σ) ifs ft/\JN (zbS X N' scope cl L s H fp) (zfp C X.N.length G H' w σ) elt fe)
  (hsw:swapsWith (.ListComp elt [⟨tg,iter,ifs,0⟩] scope pos) (some (.Name x px)) spos.line X.env=pure true:=by rfl) (hf:X.fn x=true\/X.env.scope.names.lookup x=some .local:=by first|exact .inl rfl|exact .inr rfl|assumption)
  (hs:∀ x,foldedSetIterable iter X.env x=pure x:=by intro _;rfl):JS X C (.Assign [.Name x px] (.ListComp elt [⟨tg,iter,ifs,0⟩] scope pos) spos) (zkP i fi g ft fe m):=by
 intro pins s σ H D I ⟨G,w,ρ,r,p⟩
 obtain ⟨cl,hclos,hcl,hcf⟩:=zdC (scope:=scope) (env:=X.env) fun y hy hf=>I.ok.has y.1 (hfr y hy hf)
 rw[exec_Assign_Name_used _ _ _ _ hsw]
 refine wpAny_bind (wpAny_standAt (wpAny_bind ?_))
 show wpAny _ X.A (do let _ <- comprehension (.ListComp elt [⟨tg,iter,ifs,0⟩] scope pos) scope X.env _ (newList []) false (eval iter X.env) (some (assign (.Name x px) X.env))) _ _ s
 refine wpAny_bind (wpAny_mono (wpAny_comprehension_free (use:=some (assign (.Name x px) X.env)) (Q:=fun _ s'=>SP X pins D .next s') rfl hs hclos hkind hnames ?_) (fun _ s' hq=>wpAny_pure (wpAny_pure hq)) fun _ _ e=>e)
 refine thn (hi pins s σ H (fun J H2=>∃ ds ρ1 G1 w1 zs ρf,Rel X.K C G1 w1 ρ1 σ H2/\zlw X.K J G1 ds/\zcK ds=true/\zdq g ft fe ds (ρ1++List.replicate m none)=.ok (zs,ρf)/\i < ρ1.length/\zbX C.ex (kS X.K C D G1 H2 w1) (.ok (.nx,(ρf.take ρ1.length).set i (some (.own2 zs))))) I ?_) fun v s1 h1=>thn h1 fun itv s2 h2=>?_
 ·refine zts (κ:=fun G H w=>kS X.K C D G H w) zdy r p fun ds ρ1 J G1 H1 w1 r1 st1 it1 p1=>?_
  dsimp only at p1
  split at p1
  ·rename_i hfi
   split at p1
   ·rename_i z ez
    split at p1
    ·rename_i hl
     exact ⟨ds,ρ1,G1,w1,z.1,z.2,r1,it1,hfi,ez,hl,p1⟩
    ·exact False.elim p1
   ·exact False.elim p1
  ·exact False.elim p1
 obtain ⟨it,fp,tn,J,H2,rfl,I2,T,st2,f2,ds,ρ1,G1,w1,zs,ρf,r1,it1,hfi,ec,hil,kk⟩:=h2
 refine zld (RR:=fun acc C=>compPost (model X.prog X.w) X.A X.xe (some (assign (.Name x px) X.env)) (fun _ s'=>SP X pins D .next s') acc C) hc hb hkind hcell hfr hblk hcl hcf I2 T st2 f2 r1 it1 hfi ec fun Da L s' as G' H' w' I' lo st rel h0 h1 h2 h3 q=>?_
 show wpAny _ X.A (assign (.Name x px) X.env (.ref Da)) _ _ _
 refine wpAny_assign_Name (zfC I' hN hix hx (v:=.ref Da) rfl (fun s'' I'' hch=>?_) hf)
 obtain ⟨mm,hn⟩:=lo.ns
 obtain ⟨a,sb,ha⟩:=hch
 have hLa:L≠a:=by
  rcases ha with z|z
  ·rw[z];exact lo.nl
  ·exact fun y=>lo.nc x a z y.symm
 refine ⟨mm,hn.sameBut sb hLa,fun h' hsb=>⟨σ.set i (some (.ref Da)),H',?_,?_⟩⟩
 ·exact I''.turned (t':=s''.toks) (fun b o hb e=>(hsb.2 b hb).trans e) lo.fr lo.nl lo.nw lo.nc lo.np
 ·have hlr:i<(ρf.take ρ1.length).length:=by
   rw[rel.len,<- r1.len];exact hil
  obtain ⟨r',s'⟩:=rel.setOwn2 hlr hp h1 h2 h3 q st h0 r1.en.k
  exact kk _ _ _ _ s' r'
end
theorem zgN{α β:Type}{F F':α->β->Prop}{b:α}{d':β}:∀{l:List α}{r:List β}{j:Nat},Paired F l r->l.Nodup->l[j]? = some b->(∀ c d,c≠b->F c d->F' c d)->F' b d'->Paired F' l (r.set j d')
 |_,_,j,.nil,_,e,_,_=>by simp at e
 |x::l,y::r,0,.cons h t,nd,e,k,n=>by
  simp at e;subst e
  refine .cons n (zbx t fun c d hc q=>k c d (fun z=>?_) q)
  subst z
  exact (List.nodup_cons.mp nd).1 hc
 |x::l,y::r,j+1,.cons h t,nd,e,k,n=>by
  have e':l[j]? = some b:=by simpa using e
  refine .cons (k x y (fun z=>?_) h) (zgN t (List.nodup_cons.mp nd).2 e' k n)
  subst z
  exact (List.nodup_cons.mp nd).1 (List.mem_of_getElem? e')
theorem zha{α β:Type}{F:α->β->Prop}:∀{l:List α}{r:List β}{j:Nat}{d:β},Paired F l r->r[j]? = some d->∃ a,l[j]? = some a/\F a d
 |_,_,j,d,.nil,e=>by simp at e
 |x::l,y::r,0,d,.cons h t,e=>by simp at e;subst e;exact ⟨x,rfl,h⟩
 |x::l,y::r,j+1,d,.cons h t,e=>by
  obtain ⟨a,h1,h2⟩:=zha (j:=j) t (by simpa using e)
  exact ⟨a,by simpa using h1,h2⟩
theorem Rel.mutate2{K:W.Frag}{C:Cn}{σ:L2.St}{G H:Hp}{w:Wn}{ρ:Ev}{i j:Nat}{dss:List (List Dt)}{ds':List Dt}{a b:Addr}{as:List Addr}{us':List V}(r:Rel K C G w ρ σ H)(hi:ρ[i]? = some (some (.own2 dss)))(hv:σ[i]? = some (some (.ref a)))(hw:w a=some i)
  (ha:H a=some (.lst (as.map V.ref))) (nd:(a::as).Nodup) (hp:Paired (fun b ds=>w b=some i/\∃ vs,H b=some (.lst vs)/\zay K G ds vs) as dss) (hb:as[j]? = some b) (h':zay K G ds' us') :
  Rel K C G w (ρ.set i (some (.own2 (dss.set j ds')))) σ (upd H b (.lst us'))/\zbe G H w G (upd H b (.lst us')) w:=by
 have hbm:b∈as:=List.mem_of_getElem? hb
 obtain ⟨_,hwb,_⟩:=zcM hp b hbm
 have gb:G b=none:=r.wg b (by rw[hwb];simp)
 have nab:a≠b:=fun z=>(List.nodup_cons.mp nd).1 (z ▸ hbm)
 have st:zbe G H w G (upd H b (.lst us')) w:=by
  refine ⟨.refl _,fun c o e=>.inl (by rw[e];simp),fun c o e z=>?_,fun _ e=>.inl e,fun c e=>?_⟩
  ·have:c≠b:=fun q=>by subst q;rw[hwb] at z;cases z
   rw[zae this];exact e
  ·by_cases hc:c=b
   ·subst hc;rw[zah] at e;cases e
   ·rw[zae hc] at e;exact e
 refine ⟨⟨fun c o e=>?_,r.wg,fun c e=>?_,by simpa using r.len,fun k bb e=>?_,r.en.trans st,r.pin⟩,st⟩
 ·rw[zae (zaf e gb)];exact r.gh c o e
 ·by_cases hc:c=b
  ·subst hc;rw[zah];simp
  ·rw[zae hc];exact r.wh c e
 ·by_cases hk:k=i
  ·subst hk
   rw[List.getElem?_set_self (List.getElem?_eq_some_iff.mp hi).1] at e
   cases e
   refine ⟨_,hv,a,as,rfl,hw,by rw[zae nab];exact ha,nd,?_⟩
   refine zgN hp (List.nodup_cons.mp nd).2 hb (fun c ds nc ⟨q1,vs,q2,q3⟩=>⟨q1,vs,by rw[zae nc];exact q2,q3⟩) ⟨hwb,us',zah,h'⟩
  ·rw[List.getElem?_set_ne (Ne.symm hk)] at e
   obtain ⟨v',h1,h2⟩:=r.sl k bb e
   refine ⟨v',h1,h2.grow (.refl _) fun c o e1 e2=>⟨?_,e1⟩⟩
   have:c≠b:=fun z=>by subst z;rw[hwb] at e1;exact hk (Option.some.inj e1).symm
   rw[zae this];exact e2
def zia(i jx:Nat)(fk:De):De:=fun ρ=>match ρ[i]? with
 |some (some (.own2 _))=>(fk ρ).bind fun k=>match k.2[i]?,k.1,k.2[jx]? with
  |some (some (.own2 dss)),.int n,some (some (.val d))=>match ixN dss.length n with
   |some j=>match dss[j]? with
    |some ds=>if ds.length<16777216 then .ok (.non,k.2.set i (some (.own2 (dss.set j (ds++[d]))))) else .no
    |none=>.no
   |none=>.no
  |_,_,_=>.no
 |_=>.no
section
variable{X:Cx}{C:Cn}{k:Expr}{fk:De}{pos ps py sp apos:Pos}{x y:Str}
theorem zqx(i jx:Nat)(hk:JE X C k fk)(hN:X.N[i]? = some x:=by rfl)(hNy:X.N[jx]? = some y:=by rfl)(hv:Vis X.env.scope x:=by first|exact Or.inl rfl|exact Or.inr (Or.inl rfl)|exact Or.inr (Or.inr rfl))(hvy:Vis X.env.scope y:=by first|exact Or.inl rfl|exact Or.inr (Or.inl rfl)|exact Or.inr (Or.inr rfl))
  (hd:(x == ("__debug__" : Str))=false:=by decide) (hcd:(x == ("__classdict__" : Str))=false:=by decide) (hdy:(y == ("__debug__" : Str))=false:=by decide) (hcdy:(y == ("__classdict__" : Str))=false:=by decide)
  (hix:zhC k:=by exact fun _ _=>rfl)
  (hbase:attributeBase (.Subscript (.Name x ps) k sp) "append" X.env (eval (.Subscript (.Name x ps) k sp) X.env)=eval (.Subscript (.Name x ps) k sp) X.env:=by rfl)
  (hfew:((backTo pos (starEach [.Name y py] X.env)).all (fun x=>!x.1) && (backToKw pos (keywordEach [] X.env)).all (fun x=>x.1.isSome) && decide ([Expr.Name y py].length+([]:List Keyword).length+(if ([]:List Keyword).isEmpty then 0 else 1)<30))=true:=by rfl)
  (hline:(apos.endLine == pos.line)=true:=by rfl) (hs:starEach [.Name y py] X.env=(false,eval (.Name y py) X.env)::starEach [] X.env:=by rfl) (hplain:(backTo pos (starEach [] X.env)).any (·.1)=false:=by rfl) :
  JE X C (.Call (.Attribute (.Subscript (.Name x ps) k sp) "append" apos) [.Name y py] [] pos) (zia i jx fk) :=
 PE.weak (zoK PySem.F.plainAttrs_list PySem.F.slot_list_append PySem.F.type_list_append zeD (zq1 zkk (zbB hN hv hd hcd) hk hix) (zaP (zbB hNy hvy hdy hcdy) zc8 hs) hbase hfew hline hs hplain) fun σ H Q ⟨G,w,ρ,r,p⟩=>by
  unfold zia at p
  split at p
  ·rename_i dss0 e0
   obtain ⟨v0,h0,_⟩:=r.sl i _ e0
   refine ⟨v0,h0,?_⟩
   refine zeA (κ:=fun G H w=>kE X.K C σ Q G H w) zcz r p fun d ρ1 v G1 H1 w1 r1 s1 q1 p1=>?_
   dsimp only at p1
   split at p1
   ·rename_i dss n dy e1 ey
    split at p1
    ·rename_i j ej
     split at p1
     ·rename_i ds eds
      split at p1
      ·rename_i hl
       obtain ⟨v1,g1,a,as,rfl,g2,g3,g4,g5⟩:=r1.sl i _ e1
       rw[h0] at g1;cases g1
       obtain ⟨b,eb,hwb,us,hb,hrs⟩:=zha g5 eds
       obtain ⟨vy,gy,hy⟩:=r1.sl jx _ ey
       have hlen:=zeZ g5
       have hat:atI (as.map V.ref) n=some (.ref b):=by
        unfold atI
        rw[List.length_map,hlen,ej]
        simp only[Option.bind_some]
        rw[List.getElem?_map,eb];rfl
       have hy':Rep X.K G1 dy vy:=hy
       obtain ⟨r',s'⟩:=r1.mutate2 e1 h0 g2 g3 g4 g5 eb (hrs.append (zay.cons hy' zay.nil))
       exact ⟨a,as.map V.ref,n,.ref b,rfl,zaz q1,SqL.of g3,hat,.inl ⟨rfl,us,SqL.of hb⟩,vy,gy,b,us,vy,rfl,rfl,hb,by rw[<- hrs.length,zdS];exact hl,p1 _ _ _ _ s' r' (by unfold Rep;rfl)⟩
      ·exact False.elim p1
     ·exact False.elim p1
    ·exact False.elim p1
   ·exact False.elim p1
  ·exact p.elim
end
theorem zsg:bootBuiltins "len"=some (.builtin "len"):=PySem.boot_len
theorem zrU:bootBuiltins "max"=some (.builtin "max"):=PyProof.Rows.boot_max
theorem zsX:bootBuiltins "min"=some (.builtin "min"):=PyProof.Rows.boot_min
theorem zrH:bootBuiltins "all"=some (.builtin "all"):=PyProof.Rows.boot_all
theorem zdj:bootBuiltins "isinstance"=some (.builtin "isinstance"):=PyProof.Rows.boot_isinstance
theorem zeH:bootBuiltins "tuple"=some (.type "tuple"):=by decide +kernel
theorem zhF:bootBuiltins "list"=some (.type "list"):=by decide +kernel
theorem zms:bootBuiltins "int"=some (.type "int"):=by decide +kernel
theorem zkc:bootBuiltins "bool"=some (.type "bool"):=by decide +kernel
section
variable{X:Cx}{C:Cn}{a b e:Expr}{fa fb:De}{p pos:Pos}
theorem zfZ(hm:X.mg "len"=none)(ha:JE X C e fa)(hg:Gl X "len":=by rfl)(hs:starEach [e] X.env=(false,eval e X.env)::starEach [] X.env:=by rfl)(hpl:(backTo pos (starEach [] X.env)).any (·.1)=false:=by rfl):JE X C (.Call (.Name "len" p) [e] [] pos) (dFn zcU (dA fa dA0)) :=
 zf2 zrR zrZ (zfo.or zio) hg hm zsg (zap ha za5 hs) (by decide) (by decide) hs hpl
theorem zsd(hc:X.calm=true)(hm:X.mg "max"=none)(ha:JE X C a fa)(hb:JE X C b fb)(hg:Gl X "max":=by rfl)(hs:starEach [a,b] X.env=(false,eval a X.env)::starEach [b] X.env:=by rfl)(hs2:starEach [b] X.env=(false,eval b X.env)::starEach [] X.env:=by rfl)(hpl:(backTo pos (starEach [b] X.env)).any (·.1)=false:=by rfl):JE X C (.Call (.Name "max" p) [a,b] [] pos) (dFn zhd (dA fa (dA fb dA0))) :=
 zf2 zqW zq4 (zmW hc) hg hm zrU (zap ha (zap hb za5 hs2) hs) (by decide) (by decide) hs hpl
theorem zs7(hc:X.calm=true)(hm:X.mg "min"=none)(ha:JE X C a fa)(hb:JE X C b fb)(hg:Gl X "min":=by rfl)(hs:starEach [a,b] X.env=(false,eval a X.env)::starEach [b] X.env:=by rfl)(hs2:starEach [b] X.env=(false,eval b X.env)::starEach [] X.env:=by rfl)(hpl:(backTo pos (starEach [b] X.env)).any (·.1)=false:=by rfl):JE X C (.Call (.Name "min" p) [a,b] [] pos) (dFn zhT (dA fa (dA fb dA0))) :=
 zf2 zqT zqq (znd hc) hg hm zsX (zap ha (zap hb za5 hs2) hs) (by decide) (by decide) hs hpl
theorem zt9(hc:X.calm=true)(hm:X.mg "all"=none)(ha:JE X C e fa)(hg:Gl X "all":=by rfl)(hs:starEach [e] X.env=(false,eval e X.env)::starEach [] X.env:=by rfl)(hpl:(backTo pos (starEach [] X.env)).any (·.1)=false:=by rfl):JE X C (.Call (.Name "all" p) [e] [] pos) (dFn zpN (dA fa dA0)) :=
 zf2 zsS zsP (zlT hc) hg hm zrH (zap ha za5 hs) (by decide) (by decide) hs hpl
theorem zqn(hm:X.mg "tuple"=none)(ha:JE X C e fa)(hg:Gl X "tuple":=by rfl)(hs:starEach [e] X.env=(false,eval e X.env)::starEach [] X.env:=by rfl)(hpl:(backTo pos (starEach [] X.env)).any (·.1)=false:=by rfl):JE X C (.Call (.Name "tuple" p) [e] [] pos) (dFn zfE (dA fa dA0)) :=
 zm4 zo7 znM zhk hg hm zeH (zap ha za5 hs) (by decide) (by decide) hs hpl
theorem zsE(hm:X.mg "list"=none)(ha:JE X C e fa)(hg:Gl X "list":=by rfl)(hs:starEach [e] X.env=(false,eval e X.env)::starEach [] X.env:=by rfl)(hpl:(backTo pos (starEach [] X.env)).any (·.1)=false:=by rfl):JN X C (.Call (.Name "list" p) [e] [] pos) (zdD zjS (dA fa dA0)) :=
 zmg zrg zqE zid hg hm zhF (zap ha za5 hs) (by decide) (by decide) hs hpl
end
theorem zcZ{nw:Bool}{P:Program}{w:World}{K:W.Frag}{mg:Str->Option Value}{base:Heap}{CX:CXT}{xv:Nat->Value}{k:Nat}{x qual:Str}{st:Stmt}{f:Addr}{fd:FuncData}{ps:List Str}{ks:List Bool}(hl:ps.length=ks.length)(U:Fun K x qual st f fd)(hm:mg x=some (.ref f))(hb:zeO K fd ps []) :
  Dfn nw P w K mg base CX xv k x ks (fun _=>.no) :=
 ⟨f,fd,ps,⟨fun vs H Q E ⟨_,_,_,h,_⟩=>h.trans hl.symm,fun _ _ _ _ _ _ _ _ _ _ _ _ _ ⟨_,_,_,_,_,_,h⟩=>False.elim h⟩,hm,U.kp,hb,fun bs h=>absurd rfl h⟩
theorem zhV{k:Nat}{A:Around}(hr:zds k A):A.units+64<cLine:=by have:=hr.un;omega
theorem ztv{k:Nat}{A:Around}(hr:zds k A):A.units+65<cLine:=by have:=hr.un;omega
theorem zb9{names:List (Str×NameKind)}(h:(names.all fun y=>y.2 != .cell)=true):∀ y∈names,y.2≠.cell:=fun y hy z=>by
 rw[List.all_eq_true] at h
 have:=h y hy
 rw[z] at this;simp at this
theorem zdb{names:List (Str×NameKind)}(h:(names.all fun y=>y.2 != .local || (names.lookup y.1 == some .local))=true):∀ y∈names,y.2=.local->names.lookup y.1=some .local:=fun y hy z=>by
 rw[List.all_eq_true] at h
 have:=h y hy
 rw[z] at this;simpa using this
theorem zcs{names:List (Str×NameKind)}{env:Env}(h:(names.all fun y=>y.2 != .free || (env.kindOf y.1 == some .cell || env.kindOf y.1 == some .free))=true):∀ y∈names,y.2=.free->env.kindOf y.1=some .cell\/env.kindOf y.1=some .free:=fun y hy z=>by
 rw[List.all_eq_true] at h
 have:=h y hy
 rw[z] at this;simpa using this
end PV
end
section
namespace PV
open PySem PySem.Spec L2 PyProof.Rows
theorem zng{P:Program}{w:World}{H:Hp}{h h':Heap}(x:HOk P w H h)(k:∀ b u o,H b=some u->h.get? b=some o->h'.get? b=some o):HOk P w H h':=fun a o e =>
 (x a o e).stay (fun b u hb q=>by
  rcases hb with rfl|hb
  ·exact k _ _ _ e q
  ·exact k _ _ _ hb q) (fun _ z=>z) fun _ _ z=>z
theorem zsZ{P:Program}{w:World}{H:Hp}{h:Heap}{a:Addr}{o:HO}(x:zcd P w H h a o):∃ u,h.get? a=some u:=by
 induction o with
 |lst xs=>obtain ⟨_,_,_,_,e⟩:=x;exact ⟨_,e⟩
 |tup xs=>obtain ⟨_,_,_,_,e⟩:=x;exact ⟨_,e⟩
 |dK kvs=>obtain ⟨_,_,_,_,_,_,_,e,_⟩:=x;exact ⟨_,e⟩
 |dT kvs=>obtain ⟨_,_,_,_,_,_,_,e,_⟩:=x;exact ⟨_,e⟩
 |set S n=>obtain ⟨_,_,_,_,e,_⟩:=x;exact ⟨_,e⟩
 |ins C dx fs=>obtain ⟨_,_,_,e,_⟩:=x;exact ⟨_,e⟩
 |own y=>exact x
 |xd fs=>obtain ⟨_,⟨_,_,_,e,_⟩,_⟩:=x;exact ⟨_,e⟩
 |met f y=>exact ⟨_,x⟩
 |rng lo hi=>obtain ⟨_,_,_,e⟩:=x;exact ⟨_,e⟩
 |frz ob u ih=>exact ⟨_,x.1⟩
 |tbl ps=>exact ⟨_,x⟩
 |ext φ => exact x.2.1
def CXf(P:Program)(w:World):CXT:=fun outer H s E e s' =>
 ∃(l:Addr)(cls a0:Value)(B:Heap)(H':Hp),e=.ref l/\s'.os=s.os/\AllBare s'.gens/\Un (frs outer) [] H H' s.heap s'.heap/\HOk P w H' s'.heap/\Heap.FlyingW B outer l cls a0 s'.heap /\
  (∀ b o,s.heap.get? b=some o->b∉frs outer->∃ u,B.get? b=some u)/\(∀ b u,H' b=some u->∃ o,B.get? b=some o)/\s.heap.get? l=none/\E cls none H'
def CXm:CXT:=fun _ H s E e s'=>∃(l:Addr)(cls:Value)(args:List Value)(h':Heap),e=.ref l/\s'={ s with heap:=h' }/\Heap.MadeExcOf s.heap h' l cls args/\E cls none H
def CXe(P:Program)(w:World):CXT:=fun outer H s E e s'=>CXf P w outer H s E e s'\/CXm outer H s E e s'
theorem CXf.imp{P:Program}{w:World}{outer:List Env}{H:Hp}{s s':Shared}{E E':XK}{e:Value}(h:CXf P w outer H s E e s')(k:∀ u a H',E u a H'->E' u a H'):CXf P w outer H s E' e s':=by
 obtain ⟨l,cls,a0,B,H',h1,h2,h3,h4,h5,h6,h7,h8,h9,h10⟩:=h
 exact ⟨l,cls,a0,B,H',h1,h2,h3,h4,h5,h6,h7,h8,h9,k _ _ _ h10⟩
theorem CXe.none{P:Program}{w:World}{outer:List Env}{H:Hp}{s s':Shared}{e:Value}(h:CXe P w outer H s (fun _ _ _=>False) e s'):False:=by
 rcases h with ⟨_,_,_,_,_,_,_,_,_,_,_,_,_,_,z⟩|⟨_,_,_,_,_,_,_,z⟩ <;> exact z
theorem zkX{env:Env}{outer:List Env}{L:Addr}(h:env.frame=some L):frs (env::outer)=L::frs outer:=by
 unfold frs;rw[List.filterMap_cons,h]
theorem zij{P:Program}{w:World}{base:Heap}{A:Around}{env:Env}{outer:List Env}{s0 s1 s2:Shared}{H0 H1:Hp}{E E':XK}{e:Value}
  (hf:env.frame=some env.locals) (hfr:A.frames=some (env::outer)) (hL:s0.heap.objs.size<=env.locals) (os1:s1.os=s0.os) (bare1:AllBare s1.gens) (u01:Un (frs outer) [] H0 H1 s0.heap s1.heap) (frf:∀ b∈frs outer,H0 b=none)
  (fun1:s1.heap.FunFrames base (env::outer)) (hok1:HOk P w H1 s1.heap) (fr1:∀ b∈frs (env::outer),H1 b=none) (hx:CXe P w (env::outer) H1 s1 E' e s2) (hE:∀ u a H',E' u a H'->E u a H') {M:Model} {EE:Value->Shared->Prop} :
  wpAny M A (leaving env e) (fun _ s3=>CXf P w outer H0 s0 E e s3) EE s2:=by
 have inS:∀{b:Addr}{o:Obj},s0.heap.get? b=some o->b∉frs outer->b∉frs (env::outer):=fun {b o} e1 h1 h2=>by
  rw[zkX hf] at h2
  rcases List.mem_cons.mp h2 with z|z
  ·have:=Heap.lt_size e1
   rw[z] at this
   exact absurd (Nat.lt_of_lt_of_le this hL) (Nat.lt_irrefl _)
  ·exact h1 z
 have newS:∀{b:Addr},s1.heap.get? b=none->s0.heap.get? b=none:=fun {b} e1=>by
  cases q:s0.heap.get? b with
  |none=>rfl
  |some o=>obtain ⟨o',e2⟩:=u01.there b o q (by simp);rw[e1] at e2;cases e2
 have outS:∀{b:Addr},b∈frs outer->b∈frs (env::outer):=fun {b} h=>by rw[zkX hf];exact List.mem_cons_of_mem _ h
 rcases hx with ⟨l,cls,a0,B,H',rfl,os,bare,un,hok,fl,hb1,hb2,hnw,he⟩|⟨l,cls,args,h',rfl,rfl,hm,he⟩
 ·refine wpAny_leaves_onW (base:=B) hfr hf fl fun h3 fl3 up=>?_
  have at3:∀{b:Addr}{u:Obj},B.get? b=some u->s2.heap.get? b=some u/\h3.get? b=some u:=fun {b u} e=>⟨fl.1 b u e,fl3.1 b u e⟩
  have slot:∀ b o,s0.heap.get? b=some o->b∈frs outer->∃ sl,h3.get? b=some { o with slots:=sl }:=fun b o e1 hb=>by
   obtain ⟨sl1,e2⟩:=u01.slot b o e1 (frf b hb) hb (by simp)
   obtain ⟨sl2,e3⟩:=un.slot b _ e2 (u01.free b o e1 (frf b hb) (by simp)) (outS hb) (by simp)
   obtain ⟨_,o4,e4,d4⟩:=fl.2.2.1.mem (b:=b) (outS hb)
   rw[e3] at e4;cases e4
   obtain ⟨sl3,e5⟩:=up b _ e3 d4
   exact ⟨sl3,e5⟩
  have hb1':∀ b o,s0.heap.get? b=some o->b∉frs outer->∃ u,B.get? b=some u:=fun b o e1 hb=>by
   obtain ⟨o1,e2⟩:=u01.there b o e1 (by simp)
   exact hb1 b o1 e2 (inS e1 hb)
  refine ⟨l,cls,a0,B,H',rfl,os.trans os1,bare,⟨fun b o e1 n hb _=>?_,fun b o e1 n hb _=>slot b o e1 hb,fun b o e1 n _=>?_,fun b o e1 _=>?_,fun b xs q=>un.tups b xs (u01.tups b xs q),fun b o u q=>un.frzs b o u (u01.frzs b o u q),fun b ps q=>?_⟩,zng hok fun b u o q1 q2=>?_,fl3,hb1',hb2,newS hnw,hE _ _ _ he⟩
  ·have e2:=u01.keep b o e1 n hb (by simp)
   have n2:=u01.free b o e1 n (by simp)
   have e3:=un.keep b o e2 n2 (inS e1 hb) (by simp)
   obtain ⟨u,hu⟩:=hb1' b o e1 hb
   obtain ⟨q1,q2⟩:=at3 hu
   rw[e3] at q1;cases q1;exact q2
  ·obtain ⟨o1,e2⟩:=u01.there b o e1 (by simp)
   exact un.free b o1 e2 (u01.free b o e1 n (by simp)) (by simp)
  ·by_cases hb:b∈frs outer
   ·obtain ⟨sl,e2⟩:=slot b o e1 hb;exact ⟨_,e2⟩
   ·obtain ⟨u,hu⟩:=hb1' b o e1 hb;exact ⟨u,(at3 hu).2⟩
  ·obtain ⟨m1,e1⟩:=u01.tbls b ps q
   obtain ⟨m2,e2⟩:=un.tbls b _ e1
   exact ⟨m1++m2,by rw[e2,Array.append_assoc]⟩
  ·obtain ⟨o',ho'⟩:=hb2 b u q1
   obtain ⟨z1,z2⟩:=at3 ho'
   rw[q2] at z1;cases z1;exact z2
 ·
  let fs:=frs (env::outer)
  have hin:∀ x∈env::outer,∀ a,x.frame=some a->a∈fs:=fun x hx a ha=>List.mem_filterMap.mpr ⟨x,hx,ha⟩
  refine wpAny_leaves_madeW (base:=W.hideAll s1.heap fs) (h:=s1.heap) hfr hf (fun b o q=>W.of_hideAll _ q) (W.funFrames_hide fun1 hin) hm fun h3 t fl3 _ _ up=>?_
  have at3:∀{b:Addr}{u:Obj},s1.heap.get? b=some u->b∉fs->h3.get? b=some u:=fun {b u} e n=>fl3.1 b u (W.hideAll_get _ e n)
  have slot:∀ b o,s0.heap.get? b=some o->b∈frs outer->∃ sl,h3.get? b=some { o with slots:=sl }:=fun b o e1 hb=>by
   obtain ⟨sl1,e2⟩:=u01.slot b o e1 (frf b hb) hb (by simp)
   obtain ⟨_,o4,e4,d4⟩:=fun1.mem (b:=b) (outS hb)
   rw[e2] at e4;cases e4
   obtain ⟨sl3,e5⟩:=up b _ (hm.keeps _ _ e2) d4
   exact ⟨sl3,e5⟩
  have hb1':∀ b o,s0.heap.get? b=some o->b∉frs outer->∃ u,(W.hideAll s1.heap fs).get? b=some u:=fun b o e1 hb=>by
   obtain ⟨o1,e2⟩:=u01.there b o e1 (by simp)
   exact ⟨o1,W.hideAll_get _ e2 (inS e1 hb)⟩
  have tr:∀ b u,H1 b=some u->b∉fs:=fun b u e z=>by rw[fr1 b z] at e;cases e
  refine ⟨l,cls,.ref t,W.hideAll s1.heap fs,H1,rfl,os1,bare1,⟨fun b o e1 n hb _=>at3 (u01.keep b o e1 n hb (by simp)) (inS e1 hb),fun b o e1 n hb _=>slot b o e1 hb,fun b o e1 n _=>u01.free b o e1 n (by simp),fun b o e1 _=>?_,u01.tups,u01.frzs,u01.tbls⟩,zng hok1 fun b u o q1 q2=>at3 q2 (tr b u q1),fl3,hb1',fun b u q=>?_,newS hm.new,hE _ _ _ he⟩
  ·by_cases hb:b∈frs outer
   ·obtain ⟨sl,e2⟩:=slot b o e1 hb;exact ⟨_,e2⟩
   ·obtain ⟨u,hu⟩:=hb1' b o e1 hb;exact ⟨u,fl3.1 b u hu⟩
  ·obtain ⟨o,ho⟩:=zsZ (hok1 b u q)
   exact ⟨o,W.hideAll_get _ ho (tr b u q)⟩
theorem zaT{P:Program}{w:World}{K:W.Frag}{mg:Str->Option Value}{base:Heap}:zpT (CXe P w) P w K mg base:=fun N qual scope f cdv A outer s H E E' hk hE pins σ H1 s1 e s2 I hx=>by
 have I':=I
 refine wpAny_mono (zij (base:=base) (s0:=s) (H0:=H) (E:=E) rfl I.ok.frames (Nat.le_refl _) I.os I.bare I.base I.ok.frf I.stack I.hok I.stkFree hx hE) (fun _ s3 h=>.inl h) fun _ _ h=>h
def zik(n:Nat)(f:DA):DS:=fun ρ=>(f ρ).bind fun a=>if zcK a.1=true then .er n else .no
structure Xcls(K:W.Frag)(C:Addr):Prop where
 ex:∃ bm N nm q bs hdct sn sub ab col dd k0 k1 k2 k3 k5,K.lookup C=some (excClassObj nm q C N bs bm hdct sn sub ab col dd k0 k1 k2 k3 k5 "ValueError.__new__")/\(∀ h:Heap,K.In h->∃ mN,h.Ns N mN/\mN "__init__"=none)/\(∀ h:Heap,K.In h->OwnTail h [.type "ValueError",.type "Exception",.type "BaseException",.type "object"] bm)
section
variable{X:Cx}{C:Cn}{x:Str}{Cc:Addr}{np cpos pos:Pos}{e:Expr}{es:List Expr}{fa:DA}{n:Nat}{P:Program}{w:World}
theorem znC(hx:zc9 (CXe P w) X (EXc C))(hc:X.calm=true)(hcl:Xcls X.K Cc)(hm:X.mg x=some (.ref Cc))(hxv:C.xv n=.ref Cc)(ha:JA X C (e::es) fa)(hg:Gl X x:=by rfl)(hd:(x == ("__debug__" : Str))=false:=by decide)
  (he:starEach (e::es) X.env=(false,eval e X.env)::starEach es X.env:=by rfl) (hpl:(backTo cpos (starEach es X.env)).any (·.1)=false:=by rfl):JS X C (.Raise (some (.Call (.Name x np) (e::es) [] cpos)) none pos) (zik n fa):=by
 intro pins s σ H D I ⟨G,w1,ρ,r,p⟩
 obtain ⟨tl,N,nm,q,bs,hdct,sn,sub,ab,col,dd,k0,k1,k2,k3,k5,lk,hN,hT⟩:=hcl.ex
 obtain ⟨mN,hNs,hni⟩:=hN _ I.mod.kin
 refine wpAny_Raise_call_subT (C:=Cc) (nm:=nm) (q:=q) (N:=N) (bs:=bs) (bm:=tl) (hdct:=hdct) (sn:=sn) (sub:=sub) (ab:=ab) (col:=col) (dd:=dd) (k0:=k0) (k1:=k1) (k2:=k2) (k3:=k3) (k5:=k5)
  F.excBase_ValueError (mN:=mN) ((hT _ I.kIn).hasType F.excBase_ValueError.hasBase) (I.ok.hd hc) (by rw[he];show (false || (backTo cpos (starEach es X.env)).any (·.1))=false;rw[hpl];rfl) hni (zgq I hg hm ⟨rfl,?_⟩ hd)
 suffices hh:wpAny (model X.prog X.w) X.A (spliced (backTo cpos (starEach (e::es) X.env))) (fun vs s₂=>([]:List (Str×Value))=[]/\vs.length<=sizeLine/\s₂.heap.get? Cc=some (excClassObj nm q Cc N bs tl hdct sn sub ab col dd k0 k1 k2 k3 k5 "ValueError.__new__")/\s₂.heap.Ns N mN/\OwnTail s₂.heap [.type "ValueError",.type "Exception",.type "BaseException",.type "object"] tl /\
   ∀ h' a,Heap.MadeExcOf s₂.heap h' a (.ref Cc) vs->X.xe (.ref a) { s₂ with heap:=h' }) X.xe s by
  rw[he] at hh ⊢
  exact Calls.evalArgs_plain hh
 refine thn (ha cpos pins s σ H (fun vs H2=>vs.length<=sizeLine/\EXc C (.ref Cc) none H2) I ?_) fun us s2 ⟨vs,H2,I2,rv,hz,hE⟩=>⟨rfl,by rw[<- rv.length];exact hz,I2.kIn _ _ lk,hNs.keeps I2.bk,hT _ I2.kIn,fun h' a hm'=>?_⟩
 ·refine ⟨G,w1,ρ,r,?_⟩
  have p':zbX C.ex (kS X.K C D G H w1) ((fa ρ).bind fun a=>if zcK a.1=true then R.er n else .no):=p
  cases ef:fa ρ with
  |ok z =>
   rw[ef,R.bind_ok] at p'
   intro vs G' H' w' st rel q1
   by_cases hf:zcK z.1=true
   ·rw[if_pos hf] at p'
    exact ⟨by rw[<- q1.length];exact zfX hf,rfl,n,hxv.symm,p',G',w',r.en.trans st⟩
   ·rw[if_neg hf] at p';exact p'.elim
  |er m=>rw[ef] at p';exact p'
  |no=>rw[ef] at p';exact p'.elim
 ·exact hx pins σ H2 s2 (.ref a) _ I2 (.inr ⟨a,.ref Cc,us,h',rfl,rfl,hm',hE⟩)
end
abbrev bmV:List Value:=[.type "ValueError",.type "Exception",.type "BaseException",.type "object"]
structure Xin(K:W.Frag)(D:Addr):Prop where
 exc:W.excIn K D bmV "ValueError.__new__"=true
 ga:W.findIn K (.ref D) "__getattribute__"=some (some (.builtin "BaseException.__getattribute__"))
 gh:W.findIn K (.ref D) "__getattr__"=some none
 gc:W.findIn K (.ref D) "__class__"=some (some (.builtin "object.__class__"))
 mb:W.subIn K (.ref D) (.type "BaseException")=some true
theorem zdw{K:W.Frag}{C:Addr}(q:W.excIn K C bmV "ValueError.__new__"=true):∃ bm N nm qn bs hd sn sub ab col dd k0 k1 k2 k3 k5,
  K.lookup C=some (excClassObj nm qn C N bs bm hd sn sub ab col dd k0 k1 k2 k3 k5 "ValueError.__new__")/\W.tailIn K bmV bm=true/\W.nsOkIn K N=true/\W.nsIn K N "__init__"=some none:=by
 unfold W.excIn at q
 split at q
 ·rename_i dd cd sl lk
  split at q
  ·rename_i C2 bm k0 k1 k2 k3 mk k5 em es
   simp only[Bool.and_eq_true,beq_iff_eq,Bool.not_eq_true'] at q
   obtain ⟨⟨⟨⟨⟨e1,e2⟩,e3⟩,e4⟩,e5⟩,e6⟩:=q
   subst e1 e2
   obtain ⟨nm,bs,mro,ns,qn,hd,sn,sub,ab,col,del⟩:=cd
   obtain ⟨sll⟩:=sl
   dsimp only at em es e3 e5 e6
   subst em e3 es
   exact ⟨bm,ns,nm,qn,bs,hd,sn,sub,ab,col,dd,k0,k1,k2,k3,k5,lk,e4,e5,e6⟩
  ·cases q
 ·cases q
theorem Xin.cls{K:W.Frag}{C:Addr}(x:Xin K C):Xcls K C:=by
 obtain ⟨bm,N,nm,qn,bs,hd,sn,sub,ab,col,dd,k0,k1,k2,k3,k5,lk,e4,e5,e6⟩:=zdw x.exc
 exact ⟨bm,N,nm,qn,bs,hd,sn,sub,ab,col,dd,k0,k1,k2,k3,k5,lk,fun h X=>⟨_,.of_isNs (W.isNs_of_in X e5),W.nsMap_none_of_in X e5 e6⟩,fun h X=>W.tail_of_in X e4⟩
section
variable{prog:Program}{w:World}{A:Around}{E:Value->Shared->Prop}{hh:Heap}{gg:Array GenState}{dr:Drawn}{tt:Nat}{os:OsState}{l C:Addr}{ob:Obj}{K:W.Frag}
theorem zsq{R:Result->Shared->Prop}(x:Xin K C)(X:K.In hh)(hl:hh.get? l=some ob)(hcl:ob.cls=.ref C)(hR:R (.ok (.ret (.ref C))) ⟨hh,gg,dr,tt,os⟩) :
  codeAny (model prog w) A (.call (.builtin "getset_descriptor.__get__") ⟨[.builtin "object.__class__",.ref l,.ref C],[]⟩) R ⟨hh,gg,dr,tt,os⟩:=by
 obtain ⟨bm,N,nm,qn,bs,hd,sn,sub,ab,col,dd,k0,k1,k2,k3,k5,lk,e4,e5,e6⟩:=zdw x.exc
 have hCl:=X _ _ lk
 have TL:=W.tail_of_in X e4
 have ty5:(⟨hh,gg,dr,tt,os⟩ : Shared).TypeIs (.builtin "object.__class__") "getset_descriptor":=F.typeOf_object_class
 have inO:(Value.ref C::bm).contains (.type (".".intercalate ("object.__class__".cutAt '.').dropLast))=true:=by
  rw[F.owner_object_class,List.contains_cons,TL.hasType (b:=true) (by decide)];rfl
 refine codeAny_call_builtin F.slot_gs_get.plain F.entry_gs_get (F.slot_gs_get.check _ _ _ _ _ _ _ _ ty5 (F.args_gs_get _ _ _) ?_)
 repeat (any_goals (first|(with_reducible refine wpAny_loadPart_at hl ?_;rw[hcl])|(with_reducible refine wpAny_isSubtype_exc hCl ?_;rw[inO])|assumption|wp_step))
 refine ⟨Code.quiet_builtin _ (by decide +kernel),codeAny_builtin F.entry_object_class ?_⟩
 repeat (any_goals (first|(with_reducible refine wpAny_loadPart_at hl ?_;rw[hcl])|assumption|wp_step))
theorem zox{tk:Tok}{Q:Fin->Shared->Prop}(x:Xin K C)(X:K.In hh)(hl:hh.get? l=some ob)(hcl:ob.cls=.ref C)(hQ:Q (.done (.ret (.ref C))) ⟨hh,gg,dr,tt,os⟩) :
  wpAny (model prog w) A (Builtin.«object.__getattribute__» ⟨[.ref l,.str "__class__" tk],[]⟩) Q E ⟨hh,gg,dr,tt,os⟩:=by
 have ty5:(⟨hh,gg,dr,tt,os⟩ : Shared).TypeIs (.builtin "object.__class__") "getset_descriptor":=F.typeOf_object_class
 have to5:=F.typeOf_object_class
 have lk6:=F.slot_gs_get.lookup
 have lk7:=F.slot_gs_set.lookup
 have L1:=W.looks_findIn (M:=model prog w) X x.gc
 repeat (any_goals (first|(with_reducible refine wpAny_loadPart_at hl ?_;rw[hcl])|(with_reducible refine L1.at ?_)|assumption|wp_step))
 refine zsq x X hl hcl ?_
 repeat (any_goals (first|assumption|wp_step))
theorem zmw{M:Model}(hl:hh.get? l=some ob)(hcl:ob.cls=.ref C):W.Looks M hh (typeOf (.ref l)) (.ref C):=hcl ▸ (W.Looks.ld hl).andThen .now
theorem zoX{M:Model}{nameV:Value}{Q:Unit->Shared->Prop}(x:Xin K C)(X:K.In hh)(hl:hh.get? l=some ob)(hcl:ob.cls=.ref C)(hQ:Q () ⟨hh,gg,dr,tt,os⟩) :
  wpAny M A (checkBuiltinCall "BaseException.__getattribute__" ⟨[.ref l,nameV],[]⟩) Q E ⟨hh,gg,dr,tt,os⟩:=by
 have e1:builtinKind "BaseException.__getattribute__"=some .slot:=by decide +kernel
 have e2:splitId "BaseException.__getattribute__"=some ("BaseException","__getattribute__"):=by decide +kernel
 have e3:=F.args_bexc_ga (.ref l) nameV
 have e4:W.Looks M hh (isInstance (.ref l) (.type "BaseException")) true:=by
  unfold isInstance
  exact (zmw hl hcl).andThen (W.looks_subIn X x.mb)
 simp only[checkBuiltinCall,e1,e2]
 refine wpAny_bind (W.Looks.at e4 ?_)
 repeat (first|exact hQ|wp_step)
theorem ztX{tk:Tok}{Q:Value->Shared->Prop}(x:Xin K C)(X:K.In hh)(hl:hh.get? l=some ob)(hcl:ob.cls=.ref C)(hQ:Q (.ref C) ⟨hh,gg,dr,tt,os⟩) :
  wpAny (model prog w) A (getAttrBy (.ref l) (.str "__class__" tk) false false) Q E ⟨hh,gg,dr,tt,os⟩:=by
 have fb:=F.attrBase_ValueError.ga.bind (.ref l)
 have n0:(false && onTheHeap (Value.builtin "BaseException.__getattribute__"))=false:=rfl
 have n2:(Value.builtin "BaseException.__getattribute__" == Value.builtin "object.__getattribute__")=false:=by decide +kernel
 have n1:(onTheHeap (Value.ref C) && Value.builtin "BaseException.__getattribute__" == Value.builtin "object.__getattribute__")=false:=by rw[n2];rfl
 have L1:=W.looks_findIn (M:=model prog w) X x.ga
 have L2:=W.looks_findIn (M:=model prog w) X x.gh
 repeat (any_goals (first|(with_reducible refine wpAny_loadPart_at hl ?_;rw[hcl])|(with_reducible refine W.Looks.at L1 ?_)|(with_reducible refine W.Looks.at L2 ?_)|assumption|wp_step))
 refine codeAny_call_builtin F.attrBase_ValueError.ga.plain F.entry_bexc_ga (zoX x X hl hcl (zox x X hl hcl ?_))
 repeat (any_goals (first|assumption|wp_step))
theorem zqR{Q:Option Value->Shared->Prop}(x:Xin K C)(X:K.In hh)(hl:hh.get? l=some ob)(hcl:ob.cls=.ref C)(hQ:Q (some (.ref C)) ⟨hh,gg,dr,tt+1,os⟩) :
  wpAny (model prog w) A (getAttr? (.ref l) "__class__") Q E ⟨hh,gg,dr,tt,os⟩:=by
 unfold getAttr? getAttrBy?
 repeat (any_goals (first|(with_reducible apply ztX x X hl hcl)|assumption|wp_step))
end
def XAt(l C:Addr)(h:Heap):Prop:=∃ o vs,h.get? l=some o/\o.cls=.ref C/\o.data=.fields vs
theorem zor{K:W.Frag}{l C:Addr}(x:Xin K C):W.KitX K (.ref l) (.ref C) (XAt l C) where
 ty:=fun M h X ⟨o,vs,h1,h2,h3⟩=>zmw h1 h2
 it:=fun M h X _=>by
  obtain ⟨bm,N,nm,qn,bs,hd,sn,sub,ab,col,dd,k0,k1,k2,k3,k5,lk,e4,e5,e6⟩:=zdw x.exc
  intro A' Q' E' s' k q
  unfold isType loadHead
  exact wpAny_bind (wpAny_loadPart (k _ _ (X _ _ lk)) (wpAny_pure q))
 ne:=fun h tp dd its n sl X htp=>by
  obtain ⟨bm,N,nm,qn,bs,hd,sn,sub,ab,col,dd',k0,k1,k2,k3,k5,lk,e4,e5,e6⟩:=zdw x.exc
  refine Bool.eq_false_iff.mpr fun q=>?_
  obtain rfl:C=tp:=Value.ref.inj (beq_iff_eq.mp q)
  have z:=congrArg Obj.cls (Option.some.inj ((X _ _ lk).symm.trans htp))
  simp[excClassObj] at z
 ca:=fun {prog w A E Q s} X ⟨o,vs,h1,h2,h3⟩ k=>by
  obtain ⟨hh,gg,dr,tt,os⟩:=s
  exact zqR x X h1 h2 k
def zgB(i:Nat)(C:Addr)(b:Bool):De:=fun ρ=>match ρ[i]? with
 |some (some (.exc C'))=>if C'=C then .ok (.bl b,ρ) else .no
 |_=>.no
section
variable{X:Cx}{C:Cn}{i:Nat}{Cc C2:Addr}{b:Bool}{x x2:Str}{p px p2 pos:Pos}
theorem zlc{v2:V}{u2:Value}(hxi:Xin X.K Cc)(hu:∀ u,zbD v2 u->u=u2)(hq:W.kitOne X.K (.ref Cc) u2=some b):zcg X (.builtin "isinstance") (fun xs H Q=>∃ l,xs=[.ref l,v2]/\H l=some (xHO l Cc)/\Q (.bl b) H):=by
 intro pins s σ H xs us Q I r h
 obtain ⟨l,rfl,hl,q⟩:=h
 obtain ⟨u,u',rfl,r1,r2⟩:=zjA r
 cases r1
 obtain rfl:=hu u' r2
 have ok:zcd X.prog X.w H s.heap l (xHO l Cc):=I.hok l _ hl
 exact W.kia_one (zor hxi) I.kIn ok.1 hq (by simp) fun tk=>⟨.bl b,H,I.tok tk,rfl,q⟩
theorem zkr{σ:L2.St}{H:Hp}{Q:VK}{v2:V}(h:tE X.K C (zgB i Cc b) σ H Q):∃ v,σ[i]? = some (some v)/\∃ l,v=.ref l/\H l=some (xHO l Cc)/\Q (.bl b) H:=by
 obtain ⟨G,w,ρ,r,p⟩:=h
 unfold zgB at p
 split at p
 ·rename_i C' e
  split at p
  ·rename_i hC
   subst hC
   obtain ⟨v,h1,l,h2,h3⟩:=r.sl i _ e
   exact ⟨v,h1,l,h2,r.gh _ _ h3,p _ G H w (.refl _ _ _) r (zcx _)⟩
  ·exact p.elim
 ·exact p.elim
theorem zfn(i:Nat)(hxi:Xin X.K Cc)(hq:W.kitOne X.K (.ref Cc) (.ref C2)=some b)(hg:Gl X "isinstance")(hm:X.mg "isinstance"=none)(hg2:Gl X x2)(hm2:X.mg x2=some (.ref C2))(hN:X.N[i]? = some x:=by rfl)(hvs:Vis X.env.scope x:=by first|exact Or.inl rfl|exact Or.inr (Or.inl rfl)|exact Or.inr (Or.inr rfl))
  (hd:(x == ("__debug__" : Str))=false:=by decide) (hcd:(x == ("__classdict__" : Str))=false:=by decide) (hv:bootBuiltins "isinstance"=some (.builtin "isinstance"):=by rfl) (hn:("isinstance" : Str)≠"__name__":=by decide) (hdb:(("isinstance" : Str) == ("__debug__" : Str))=false:=by decide) (hdb2:(x2 == ("__debug__" : Str))=false:=by decide)
  (hs:starEach [.Name x px,.Name x2 p2] X.env=(false,eval (.Name x px) X.env)::starEach [.Name x2 p2] X.env:=by rfl) (hs2:starEach [.Name x2 p2] X.env=(false,eval (.Name x2 p2) X.env)::starEach [] X.env:=by rfl) (hpl:(backTo pos (starEach [.Name x2 p2] X.env)).any (·.1)=false:=by rfl) :
  JE X C (.Call (.Name "isinstance" p) [.Name x px,.Name x2 p2] [] pos) (zgB i Cc b) :=
 PE.weak (zdf (zlc (v2:=.ref C2) hxi (fun u h=>h) hq) hg hm hv (zaP (zbB hN hvs hd hcd) (zaP (zmf (v:=.ref C2) hg2 hm2 rfl hdb2) zc8 hs2) hs) hn hdb hs hpl) fun σ H Q h=>by
  obtain ⟨v,h1,l,rfl,h2,h3⟩:=zkr (v2:=.ref C2) h
  exact ⟨_,h1,l,rfl,h2,h3⟩
theorem zrk{T:String}(i:Nat)(hxi:Xin X.K Cc)(hq:W.kitOne X.K (.ref Cc) (.type T)=some b)(hg:Gl X "isinstance")(hm:X.mg "isinstance"=none)(hg2:Gl X x2)(hm2:X.mg x2=none)(hv2:bootBuiltins x2=some (.type T))(hN:X.N[i]? = some x:=by rfl)(hvs:Vis X.env.scope x:=by first|exact Or.inl rfl|exact Or.inr (Or.inl rfl)|exact Or.inr (Or.inr rfl))
  (hd:(x == ("__debug__" : Str))=false:=by decide) (hcd:(x == ("__classdict__" : Str))=false:=by decide) (hv:bootBuiltins "isinstance"=some (.builtin "isinstance"):=by rfl) (hn:("isinstance" : Str)≠"__name__":=by decide) (hdb:(("isinstance" : Str) == ("__debug__" : Str))=false:=by decide) (hn2:x2≠"__name__":=by decide) (hdb2:(x2 == ("__debug__" : Str))=false:=by decide)
  (hs:starEach [.Name x px,.Name x2 p2] X.env=(false,eval (.Name x px) X.env)::starEach [.Name x2 p2] X.env:=by rfl) (hs2:starEach [.Name x2 p2] X.env=(false,eval (.Name x2 p2) X.env)::starEach [] X.env:=by rfl) (hpl:(backTo pos (starEach [.Name x2 p2] X.env)).any (·.1)=false:=by rfl) :
  JE X C (.Call (.Name "isinstance" p) [.Name x px,.Name x2 p2] [] pos) (zgB i Cc b) :=
 PE.weak (zdf (zlc (v2:=.ty T) hxi (fun u h=>h) hq) hg hm hv (zaP (zbB hN hvs hd hcd) (zaP (zhQ (v:=.ty T) hg2 hm2 hv2 rfl hn2 hdb2) zc8 hs2) hs) hn hdb hs hpl) fun σ H Q h=>by
  obtain ⟨v,h1,l,rfl,h2,h3⟩:=zkr (v2:=.ty T) h
  exact ⟨_,h1,l,rfl,h2,h3⟩
end
def zhy(XR:Cx)(N:List Str)(scope:Scope)(cl:List (Str×Addr))(qual:Str)(Fa:Addr)(cdv:Value)(s:Shared)(H:Hp)(E:XK):Cx where
 prog:=XR.prog
 w:=XR.w
 K:=XR.K
 mg:=XR.mg
 base:=XR.base
 A:=XR.A.deeper (W.envX qual scope s.heap.objs.size Fa cdv cl)
 N:=N
 s₀:=s
 H₀:=H
 env:=W.envX qual scope s.heap.objs.size Fa cdv cl
 outer:=XR.stack
 stack:=W.envX qual scope s.heap.objs.size Fa cdv cl::XR.stack
 ex:=[]
 fn:=fun _=>false
 calm:=true
 pn:=[]
 xe:=fun e s'=>wpAny (model XR.prog XR.w) (XR.A.deeper (W.envX qual scope s.heap.objs.size Fa cdv cl)) (leaving (W.envX qual scope s.heap.objs.size Fa cdv cl) e) (fun _ s''=>CXf XR.prog XR.w XR.stack H s E e s'') (fun _ _=>False) s'
def zmz(names:List (Str×NameKind)):Bool:=names.all fun y=>match y.2 with
 |.free=>true
 |.globalImplicit=>true
 |_=>false
theorem zeN{names:List (Str×NameKind)}(h:zmz names=true){x:Str}{k:NameKind}(e:names.lookup x=some k):k=.free\/k=.globalImplicit:=by
 have q:=List.all_eq_true.mp h (x,k) (zaO e)
 cases k <;> simp at q <;> simp
structure zh9(N:List Str)(names:List (Str×NameKind))(cl:List (Str×Addr))(σ:L2.St)(H:Hp)(h:Heap):Prop where
 inj:∀ x y c,cl.lookup x=some c->cl.lookup y=some c->x=y
 has:∀ x,names.lookup x=some .free->∃ c,cl.lookup x=some c
 is:∀ x c,cl.lookup x=some c->(∃ v,h.IsCell c v)/\H c=none
 val:∀(i:Nat)(x:Str)(v:V),N[i]? = some x->σ[i]? = some (some v)->names.lookup x=some .free->∃ u c,zbD v u/\cl.lookup x=some c/\h.IsCell c (some u)
section
variable{XR:Cx}{pins:List (Addr×Obj)}{σR σ:L2.St}{H:Hp}{s:Shared}{N:List Str}{scope:Scope}{cl:List (Str×Addr)}{qual name:Str}{Fa c':Addr}{params:Arguments}{body:Expr}{pm ctv:Value}{E:XK}
theorem zn4{cdv:Value}{h₁:Heap}{tk:Nat}{mm:Str->Option Value}(J:L2.Inv XR pins σR H s)(hc:XR.calm=true)(hk:scope.kind=.function)(ho:zmz scope.names=true)(L:zh9 N scope.names cl σ H s.heap)(hl:σ.length=N.length)
  (hns:h₁.Ns s.heap.objs.size mm) (hkp:∀ b o,s.heap.get? b=some o->h₁.get? b=some o):L2.Inv (zhy XR N scope cl qual Fa cdv s H E) [] σ H { s with heap:=h₁,toks:=tk }:=by
 have cellK:∀ c v,s.heap.IsCell c v->h₁.IsCell c v:=fun c v ⟨o,e1,e2⟩=>⟨o,hkp c o e1,e2⟩
 refine ⟨⟨J.ok.mod,hk,rfl,rfl,Nat.le_refl _,L.inj,fun x hx=>?_,fun x c h _=>absurd h (by simp[zhy]),fun _=>J.ok.hd hc,Around.frames_deeper J.ok.frames,.inr ⟨rfl,rfl⟩,fun b hb=>absurd hb (by simp[zhy]),J.bs,Nat.le_trans J.ok.bsz J.sz,fun b o e z=>absurd z (by simp[zhy]),fun b z=>absurd z (by simp[zhy]),J.stack,J.stkFree⟩,
  rfl,J.bare,Un.kept hkp,⟨mm,hns,fun i x v e1 e2 e3=>?_⟩,fun x c e=>?_,J.hok.fresh (Nat.le_refl _),fun x c e=>(L.is x c e).2,fun p hp=>absurd hp (by simp[zhy]),J.hok.kept hkp,hl⟩
 ·have hx':scope.names.lookup x=some .cell\/scope.names.lookup x=some .free:=hx
  rcases hx' with z|z
  ·rcases zeN ho z with q|q <;> cases q
  ·exact L.has x z
 ·have e3':scope.names.lookup x=some .local\/scope.names.lookup x=some .cell\/scope.names.lookup x=some .free:=e3
  rcases e3' with z|z|z
  ·rcases zeN ho z with q|q <;> cases q
  ·rcases zeN ho z with q|q <;> cases q
  ·obtain ⟨u,c,r,hcl,ic⟩:=L.val i x v e1 e2 z
   exact ⟨u,r,.inr ⟨.inr z,c,hcl,cellK _ _ ic⟩⟩
 ·obtain ⟨⟨v,ic⟩,_⟩:=L.is x c e
  exact ⟨v,cellK _ _ ic⟩
theorem zpm{t:TE}(J:L2.Inv XR pins σR H s)(hc:XR.calm=true)(hroom:XR.A.depth<recursionLimit)(hk:scope.kind=.function)(ho:zmz scope.names=true)(L:zh9 N scope.names cl σ H s.heap)(hl:σ.length=N.length)
  (hF:s.heap.get? Fa=some (W.kla_obj name qual params body scope cl pm c' ctv)) (hcd:s.heap.CodeRec (.ref c') qual) (hbind:bindArgs (W.kla_fn name qual params body scope cl pm (.ref c') ctv) ⟨[],[]⟩=pure [])
  (hco:scope.isCoroutine=false) (hgen:scope.isGenerator=false) (hE:PE (zhy XR N scope cl qual Fa (.ref c') s H E) body t) (ht:t σ H fun _ _=>False) :
  codeAny (model XR.prog XR.w) XR.A (.call (.ref Fa) ⟨[],[]⟩) (fun r s'=>∃ e,r=.error e/\CXf XR.prog XR.w XR.stack H s E e s') s:=by
 have hcell:∀ y∈scope.names,y.2≠.cell:=fun y hy z=>by
  have q:=List.all_eq_true.mp ho y hy
  rw[z] at q;simp at q
 refine W.kla_callFunE hroom hF rfl hco hgen rfl hcd ?_
 rw[hbind]
 refine wpAny_pure (wpAny_newFunctionEnv hcell (by intro y hy;simp at hy) (fun h₁ hns hsb=>?_) hk)
 have hkp:∀ b o,s.heap.get? b=some o->h₁.get? b=some o:=fun b o e=>(hsb.2 b (Nat.ne_of_lt (Heap.lt_size e))).trans (Heap.get?_push_of_some _ e)
 refine ⟨J.nolimit.keeps hkp,?_⟩
 show codeAny _ _ (.expr body (W.envX qual scope s.heap.objs.size Fa (.ref c') cl)) _ _
 refine W.kla_codeExpr (wpAny_mono (hE [] _ σ H (fun _ _=>False) (zn4 (tk:=s.toks+([]:List (Str×Value)).length) J hc hk ho L hl hns hkp) ht) (fun v s' ⟨_,_,_,_,z⟩=>z.elim) fun e s' h=>?_)
 exact wpAny_mono h (fun _ s'' q=>⟨e,rfl,q⟩) fun _ _ z=>z.elim
theorem zl0{cdv:Value}{C:Cn}(hE:∀ u a H',EXc C u a H'->E u a H'):zc9 (CXe XR.prog XR.w) (zhy XR N scope cl qual Fa cdv s H E) (EXc C):=fun pins σ H1 s1 e s2 I hx =>
 zij (base:=XR.base) (s0:=s) (H0:=H) rfl I.ok.frames (Nat.le_refl _) I.os I.bare I.base I.ok.frf I.stack I.hok I.stkFree hx hE
end
def zcE(ρ:Ev):Ev:=ρ.map fun o=>match o with
 |some (.val d)=>some (.val d)
 |_=>none
theorem znH{prog:Program}{w:World}{A:Around}{E:Value->Shared->Prop}{s:Shared}{K:W.Frag}{l C Cs:Addr}{Q:Bool->Shared->Prop}(X:K.In s.heap)(hx:XAt l C s.heap)(xs:Xin K Cs)(hsub:W.subIn K (.ref C) (.ref Cs)=some true)(hQ:Q true s) :
  wpAny (model prog w) A (excMatches (.ref l) (.ref Cs)) Q E s:=by
 obtain ⟨hh,gg,dr,tt,os⟩:=s
 obtain ⟨ob,vs,h1,h2,h3⟩:=hx
 obtain ⟨bm,N,nm,qn,bs,hd,sn,sub,ab,col,dd,k0,k1,k2,k3,k5,lk,e4,e5,e6⟩:=zdw xs.exc
 have hCs:=X _ _ lk
 have inB:(Value.ref Cs::bm).contains (.type "BaseException")=true:=by
  rw[List.contains_cons,(W.tail_of_in X e4).hasType (b:=true) (by decide)];rfl
 have nt:=tc_notTuple
 have L1:=W.looks_subIn (M:=model prog w) X hsub
 unfold excMatches
 repeat (first|(with_reducible refine wpAny_loadPart_at h1 ?_;rw[h2])|(with_reducible refine W.Looks.at L1 ?_)|with_reducible refine wpAny_loadPart_at hCs ?_|(with_reducible refine wpAny_isSubtype_exc hCs ?_;rw[inB])|wp_step)
 exact hQ
section
variable{X:Cx}{pins:List (Addr×Obj)}{σ:L2.St}{H:Hp}{s:Shared}
theorem zlo{x:Str}{i:Nat}{h':Heap}{tk:Nat}{v:Option Value}(I:L2.Inv X pins σ H s)(hN:X.N.Nodup)(hi:X.N[i]? = some x)
  (hn:∀ m,s.heap.Ns X.env.locals m->h'.Ns X.env.locals (fun y=>if y=x then v else m y)) (hs:Heap.SameBut X.env.locals s.heap h'):L2.Inv X pins (σ.set i none) H { s with heap:=h',toks:=tk }:=by
 obtain ⟨m,hm,hl⟩:=id I.loc
 have cne:=I.cne
 have tr:HOk X.prog X.w H h':=zng I.hok fun b u o e q=>(hs.2 b fun z=>by subst z;rw[I.free] at e;cases e).trans q
 refine ⟨I.ok,I.os,I.bare,⟨fun b o e n hb hx=>?_,fun b o e n hb hx=>?_,I.base.free,fun b o e hx=>?_,I.base.tups,I.base.frzs,I.base.tbls⟩,⟨_,hn m hm,fun j y v' e1 e2 e3=>?_⟩,fun y c e=>?_,I.free,I.freeC,fun p hp=>?_,tr,by simpa using I.len⟩
 ·exact (hs.2 b (Nat.ne_of_lt (Nat.lt_of_lt_of_le (Heap.lt_size e) I.ok.above))).trans (I.base.keep b o e n hb hx)
 ·obtain ⟨sl,e1⟩:=I.base.slot b o e n hb hx
  exact ⟨sl,(hs.2 b (Nat.ne_of_lt (Nat.lt_of_lt_of_le (Heap.lt_size e) I.ok.above))).trans e1⟩
 ·obtain ⟨o',e1⟩:=I.base.there b o e hx
  exact ⟨o',(hs.2 b (Nat.ne_of_lt (Nat.lt_of_lt_of_le (Heap.lt_size e) I.ok.above))).trans e1⟩
 ·by_cases hj:j=i
  ·subst hj
   have hlt:j < σ.length:=by rw[I.len];exact (List.getElem?_eq_some_iff.mp hi).1
   rw[List.getElem?_set_self hlt] at e2
   cases e2
  ·rw[List.getElem?_set_ne (Ne.symm hj)] at e2
   obtain ⟨u',r',q⟩:=hl j y v' e1 e2 e3
   refine ⟨u',r',?_⟩
   rcases q with ⟨k,e⟩|⟨k,c,e,z⟩
   ·refine .inl ⟨k,?_⟩
    have:y≠x:=fun e=>hj (zhR hN e1 (e ▸ hi))
    simp[this,e]
   ·exact .inr ⟨k,c,e,z.sameBut hs (cne y c e)⟩
 ·obtain ⟨w',z⟩:=I.cell y c e
  exact ⟨w',z.sameBut hs (cne y c e)⟩
 ·obtain ⟨e,n,ne,nf,d⟩:=I.pin p hp
  exact ⟨(hs.2 p.1 ne).trans e,n,ne,nf,d⟩
theorem zgX{s1:Shared}{h:Heap}{l C:Addr}{a0:Value}{B:Heap}{H':Hp}(I:L2.Inv X pins σ H s)(os:s1.os=s.os)(bare:AllBare s1.gens)(un:Un (frs X.stack) [] H H' s.heap s1.heap)(hok:HOk X.prog X.w H' s1.heap)
  (fl:Heap.FlyingW B X.stack l (.ref C) a0 s1.heap) (hb1:∀ b o,s.heap.get? b=some o->b∉frs X.stack->∃ u,B.get? b=some u) (hb2:∀ b u,H' b=some u->∃ o,B.get? b=some o) (hnw:s.heap.get? l=none)
  (fl3:Heap.FlyingW B X.stack l (.ref C) a0 h) (up:s1.heap.UpToSlots h):H' l=none/\L2.Inv X pins σ (upd H' l (xHO l C)) { s1 with heap:=h }:=by
 have hl:H' l=none:=by
  cases q:H' l with
  |none=>rfl
  |some u=>obtain ⟨o,e⟩:=hb2 l u q;rw[fl.2.1] at e;cases e
 have at3:∀{b:Addr}{u:Obj},B.get? b=some u->s1.heap.get? b=some u/\h.get? b=some u:=fun {b u} e=>⟨fl.1 b u e,fl3.1 b u e⟩
 have slot:∀ b o,s.heap.get? b=some o->b∈frs X.stack->∃ sl,h.get? b=some { o with slots:=sl }:=fun b o e1 hb=>by
  obtain ⟨sl2,e3⟩:=un.slot b o e1 (I.stkFree b hb) hb (by simp)
  obtain ⟨_,o4,e4,d4⟩:=fl.2.2.1.mem (b:=b) hb
  rw[e3] at e4;cases e4
  obtain ⟨sl3,e5⟩:=up b _ e3 d4
  exact ⟨sl3,e5⟩
 refine ⟨hl,I.call' (s':={ s1 with heap:=h }) (ch:=[]) os ⟨fun b o e1 n hb _=>?_,fun b o e1 n hb _=>slot b o e1 hb,fun b o e1 n _=>?_,fun b o e1 _=>?_,fun b xs q=>?_,fun b o u q=>?_,fun b ps q=>?_⟩ (fun b u e=>?_) bare fun b hb=>absurd hb (by simp)⟩
 ·have e3:=un.keep b o e1 n hb (by simp)
  obtain ⟨u,hu⟩:=hb1 b o e1 hb
  obtain ⟨q1,q2⟩:=at3 hu
  rw[e3] at q1;cases q1;exact q2
 ·rw[zae (fun z=>by subst z;rw[hnw] at e1;cases e1)];exact un.free b o e1 n (by simp)
 ·by_cases hb:b∈frs X.stack
  ·obtain ⟨sl,e2⟩:=slot b o e1 hb;exact ⟨_,e2⟩
  ·obtain ⟨u,hu⟩:=hb1 b o e1 hb;exact ⟨u,(at3 hu).2⟩
 ·have:=un.tups b xs q
  rw[zae (zaf this hl)];exact this
 ·have:=un.frzs b o u q
  rw[zae (zaf this hl)];exact this
 ·obtain ⟨m,e⟩:=un.tbls b ps q
  exact ⟨m,by rw[zae (zaf e hl)];exact e⟩
 ·by_cases hb:b=l
  ·subst hb
   rw[zah] at e;cases e
   obtain ⟨oe,vs,e1,e2,e3,_⟩:=fl3.first
   exact ⟨⟨oe,vs,e1,e2,e3⟩,⟨oe,e1⟩,fun h1 h2 ⟨o,ws,q1,q2,q3⟩ k=>⟨o,ws,k o q1,q2,q3⟩⟩
  ·rw[zae hb] at e
   refine (hok b u e).stay (fun c o hc q=>?_) (fun c z=>?_) fun c xs z=>?_
   ·have hcu:∃ u',H' c=some u':=by
     rcases hc with rfl|hc
     ·exact ⟨_,e⟩
     ·exact ⟨_,hc⟩
    obtain ⟨u',hu'⟩:=hcu
    obtain ⟨o',ho'⟩:=hb2 c u' hu'
    obtain ⟨q1,q2⟩:=at3 ho'
    rw[q] at q1;cases q1;exact q2
   ·rw[zae (zaf z hl)];exact z
   ·rw[zae (zaf z hl)];exact z
end
def zno(X:Cx)(e:Value)(E:Value->Shared->Prop):Cx:={ X with A:=X.A.mark (some e),calm:=false,xe:=E }
theorem zmV{X:Cx}{pins:List (Addr×Obj)}{σ:L2.St}{H:Hp}{s:Shared}{e:Value}{E:Value->Shared->Prop}(I:L2.Inv X pins σ H s):L2.Inv (zno X e E) pins σ H s:=by
 have ok:=I.ok
 exact ⟨⟨ok.mod,ok.kind,ok.glob,ok.blt,ok.above,ok.inj,ok.has,ok.cab,fun h=>absurd h (by simp[zno]),ok.frames,ok.stk,ok.exf,ok.bs,ok.bsz,ok.noex,ok.exfs,ok.funs,ok.frf⟩,I.os,I.bare,I.base,I.loc,I.cell,I.free,I.freeC,I.pin,I.hok,I.len⟩
theorem zmI{X:Cx}{pins:List (Addr×Obj)}{σ:L2.St}{H:Hp}{s:Shared}{e:Value}{E:Value->Shared->Prop}(hok:X.Ok)(I:L2.Inv (zno X e E) pins σ H s):L2.Inv X pins σ H s :=
 ⟨hok,I.os,I.bare,I.base,I.loc,I.cell,I.free,I.freeC,I.pin,I.hok,I.len⟩
def EL(Cc:Addr)(H:Hp):XK:=fun u _ H'=>u=.ref Cc/\zb7 H H'
section
variable{X:Cx}{p1 p2 p3 p4 p5 p6 p7 p8 p9:Pos}{Cc Cs Fa:Addr}{H0:Hp}{iF ierr ie:Nat}{xF xerr xe xS:Str}
theorem znn(hc:X.calm=true)(hN:X.N.Nodup)(hst:X.stack=X.env::X.outer)(hfrm:X.env.frame=some X.env.locals)
  (hF:∀ pins σ H s,L2.Inv X pins σ H s->zb7 H0 H->codeAny (model X.prog X.w) X.A (.call (.ref Fa) ⟨[],[]⟩) (fun r s'=>∃ e,r=.error e/\CXf X.prog X.w X.stack H s (EL Cc H) e s') s)
  (hFn:∀ pins σ H s,L2.Inv X pins σ H s->zb7 H0 H->W.FnAt Fa s.heap)
  (xs:Xin X.K Cs) (hsub:W.subIn X.K (.ref Cc) (.ref Cs)=some true) (hmS:X.mg xS=some (.ref Cs)) (hgS:Gl X xS)
  (hNF:X.N[iF]? = some xF) (hNerr:X.N[ierr]? = some xerr) (hNe:X.N[ie]? = some xe) (hie:ie≠ierr) (kF:X.env.scope.names.lookup xF=some .local) (kerr:X.env.scope.names.lookup xerr=some .local) (ke:X.env.scope.names.lookup xe=some .local)
  (hd1:(xF == ("__debug__" : Str))=false:=by decide) (hd2:(xF == ("__classdict__" : Str))=false:=by decide) (hd3:(xS == ("__debug__" : Str))=false:=by decide) (hd4:(xe == ("__debug__" : Str))=false:=by decide) (hd5:(xe == ("__classdict__" : Str))=false:=by decide)
  (hsw:swapsWith (.Call (.Name xF p1) [] [] p2) none p3.line X.env=pure false:=by rfl) (hsw2:swapsWith (.Name xe p6) (some (.Name xerr p5)) p7.line X.env=pure false:=by rfl) :
  PS X (.Try [.Expr (.Call (.Name xF p1) [] [] p2) p3] [.ExceptHandler (some (.Name xS p4)) (some xe) [.Assign [.Name xerr p5] (.Name xe p6) p7] p8] [] [] p9)
   (fun D σ H=>σ[iF]? = some (some (.ref Fa))/\zb7 H0 H/\∀ l H',zb7 H H'->H' l=none->D.nx (((σ.set ie (some (.ref l))).set ierr (some (.ref l))).set ie none) (upd H' l (xHO l Cc))):=by
 intro pins s σ H D I ⟨h0,eH,hD⟩
 refine wpAny_Try_except ?_
 refine wpAny_execs_cons ?_
 have hv:∀ EE:Value->Shared->Prop,wpAny (model X.prog X.w) X.A (eval (.Name xF p1) X.env) (EP (X.wish EE) pins σ fun v H'=>v=.ref Fa/\H'=H) EE s:=fun EE =>
  zbB (X:=X.wish EE) (pos:=p1) hNF (.inl kF) hd1 hd2 pins s σ H (fun v H'=>v=.ref Fa/\H'=H) (I.wish EE) ⟨_,h0,rfl,rfl⟩
 refine wpAny_Expr_any (wpAny_Call_Name_kw (wpAny_mono (hv _) (fun u s1 ⟨v,H1,I1,r,e1,e2⟩=>?_) fun _ _ z=>z)) I.quiet hsw
 subst e1 e2
 cases r
 have I1:=I1.unwish
 refine W.callWith_F0 (hFn _ _ _ _ I1 eH) (wpAny_call (codeAny_mono (hF _ _ _ _ I1 eH) fun r s2 ⟨e,er,hx⟩=>?_))
 subst er
 obtain ⟨l,cls,a0,B,H',rfl,os,bare,un,hok,fl,hb1,hb2,hnw,ecls,same⟩:=hx
 subst ecls
 show wpAny _ _ (noteFrame (.ref l) X.env) _ _ s2
 rw[hst] at fl
 refine wpAny_looks_onW (by rw[I1.ok.frames,hst]) hfrm fl fun h3 held3 up3=>?_
 refine wpAny_landsW held3 fun h4 fl4 up4=>?_
 rw[<- hst] at fl fl4
 obtain ⟨hl,I4⟩:=zgX I1 os bare un hok fl hb1 hb2 hnw fl4 (up3.trans up4)
 refine wpAny_handleBy_cons (codeAny_handlers_test ?_) (by intro q;cases q)
 refine zgq (X:=zno X (.ref l) fun _ _=>True) (zmV I4) hgS hmS ?_ hd3
 have xat:XAt l Cc h4:=by obtain ⟨oe,vs,q1,q2,q3,_⟩:=fl4.first;exact ⟨oe,vs,q1,q2,q3⟩
 refine znH (K:=X.K) I4.kIn xat xs hsub ?_
 refine codeAny_handlers_suite_as ?_
 refine lands_againW fl4 fun h5 fl5 up5=>?_
 obtain ⟨_,I5⟩:=zgX I1 os bare un hok fl hb1 hb2 hnw fl5 ((up3.trans up4).trans up5)
 refine zhv I5 hN hNe (.inl ke) (v:=.ref l) rfl (fun s6 I6=>?_) (.inr ke)
 have hsuite:=fun EE:Value->Shared->Prop=>znq (X:=zno X (.ref l) EE) (zm6 (pos:=p7) (pos':=p5) hN hNerr (.inl kerr) (zbB (pos:=p6) hNe (.inl ke) hd4 hd5) hsw2 (.inr kerr)) pins s6 (σ.set ie (some (.ref l))) (upd H' l (xHO l Cc)) { nx:=fun σ' H''=>σ'=(σ.set ie (some (.ref l))).set ierr (some (.ref l))/\H''=upd H' l (xHO l Cc),rt:=fun _ _=>False } (zmV I6) ⟨.ref l,by
  rw[List.getElem?_set_self (by rw[I5.len];exact (List.getElem?_eq_some_iff.mp hNe).1)],rfl,rfl⟩
 refine wpAny_mono (hsuite _) (fun f s7 h7=>?_) fun _ _ z=>z
 cases f with
 |next =>
  obtain ⟨σ',H'',I7,e1,e2⟩:=h7
  subst e1 e2
  have I7:=zmI I4.ok I7
  obtain ⟨m7,hm7,_⟩:=I7.loc
  refine wpAny_nameGoes_keeps (env:=X.env) ke hm7 (by rw[I7.ok.kind];rfl) fun h8 v hn8 hs8=>?_
  refine ⟨_,_,zlo (x:=xe) (i:=ie) (v:=v) I7 hN hNe (fun m hm=>?_) hs8,hD l H' same hl⟩
  obtain ⟨o,es,ep,ho,hd,hk,hmm⟩:=hn8
  obtain ⟨o',es',ep',ho',hd',hk',hm'⟩:=hm
  obtain ⟨o7,es7,ep7,ho7,hd7,hk7,hm7'⟩:=hm7
  rw[ho'] at ho7;cases ho7
  rw[hd'] at hd7;cases hd7
  exact ⟨o,es,ep,ho,hd,hk,fun x=>by rw[hmm x];show (if x=xe then v else m7 x)=if x=xe then v else m x;rw[<- hm7' x,hm' x]⟩
 |brk=>obtain ⟨_,_,_,z⟩:=h7;exact z.elim
 |cont=>obtain ⟨_,_,_,z⟩:=h7;exact z.elim
 |ret u=>obtain ⟨_,_,_,_,_,z⟩:=h7;exact z.elim
end
def fHO(a:Addr)(ob:Obj):HO:=.ext fun h=>h.get? a=some ob
structure zfD(X:Cx)(P:Addr):Prop where
 code:∃ c,X.env.code=.ref c/\W.CodeHd X.base c P
 blt:X.base.BuiltinsAt X.mg P
theorem zgu{P:Program}{w:World}{H:Hp}{h:Heap}{a:Addr}{φ : Heap->Prop}{o:Obj}(h1:φ h)(h2:h.get? a=some o)(h3:∀ x y:Heap,φ x->(∀ o,x.get? a=some o->y.get? a=some o)->φ y):zcd P w H h a (.ext φ):=⟨h1,⟨o,h2⟩,h3⟩
theorem zju{c:Addr}{q:Str}(x y:Heap)(h:x.CodeRec (.ref c) q)(k:∀ o,x.get? c=some o->y.get? c=some o):y.CodeRec (.ref c) q:=by
 obtain ⟨c',o,vs,t,e,h1,h2,h3⟩:=h
 cases e
 exact ⟨c,o,vs,t,rfl,k o h1,h2,h3⟩
structure zmo(P:Addr)(q:Str)(G H:Hp)(ps:Array Value):Prop where
 at_:H P=some (.tbl ps)
 tri:TriplesOk ps.toList
 cod:∀ pos cv,codeAmong pos ps.toList=some cv->∃ c,cv=.ref c/\G c=some (cHO c q)
section
variable{X:Cx}{pins:List (Addr×Obj)}{σ:L2.St}{H:Hp}{s:Shared}{P:Addr}{q:Str}{params:Arguments}{body:Expr}{scope:Scope}{pos:Pos}{cl:List (Str×Addr)}{ps:Array Value}{Q:VK}
theorem zte(LB:zfD X P)(I:L2.Inv X pins σ H s)(hdef:defaultsOf params X.env=([],[]))(hcl:closureFor scope X.env=pure cl)(T:zmo P (X.env.qual++"<lambda>") H H ps)
  (hA:∀ c Fa ctv,codeAmong pos ps.toList=none->H c=none->H Fa=none->c≠Fa->Q (.ref Fa) (upd (upd (upd H P (.tbl (ps++#[rawInt pos.line,rawInt pos.col,.ref c]))) c (cHO c (X.env.qual++"<lambda>"))) Fa (fHO Fa (W.kla_obj "<lambda>" (X.env.qual++"<lambda>") params body scope cl ((X.mg "__name__").getD .none) c ctv))))
  (hB:∀ c Fa ctv,codeAmong pos ps.toList=some (.ref c)->H Fa=none->Q (.ref Fa) (upd H Fa (fHO Fa (W.kla_obj "<lambda>" (X.env.qual++"<lambda>") params body scope cl ((X.mg "__name__").getD .none) c ctv)))) :
  wpAny (model X.prog X.w) X.A (eval (.Lambda params body scope pos) X.env) (EP X pins σ Q) X.xe s:=by
 obtain ⟨c0,hc0,C0⟩:=LB.code
 have C0':=C0.keeps I.bk
 have hg:=I.mod.glob.keeps I.bk
 have oP:s.heap.get? P=some (W.tabObj ps):=I.hok P _ T.at_
 have nP:∀ b o,X.base.get? b=some o->b≠P:=fun b o e z=>by
  have:=(I.bs b o e).2
  rw[z,T.at_] at this;cases this
 have hgP:mainGlobals≠P:=by
  obtain ⟨o,es,ep,e,_⟩:=I.mod.glob
  exact nP _ _ e
 have hbl:s.heap.BuiltinsAt X.mg P:=by
  obtain ⟨bm,o,b1,b2,b3,b4,b5,b6⟩:=LB.blt
  exact ⟨bm,o,b1,b2,b3,b4,I.bk _ _ b5,b6⟩
 refine W.kla_eval hdef ?_
 cases hk:codeAmong pos ps.toList with
 |none =>
  refine W.kla_makeFunction (mg:=X.mg) hcl I.ok.glob hg hc0 C0' oP T.tri hk hgP hbl fun c' ctv h' tk hx hge hlt hrec htb=>?_
  have hcn:H c'=none:=I.hok.fresh hge
  have hFn:H h'.objs.size=none:=I.hok.fresh (Nat.le_trans hge (Nat.le_of_lt hlt))
  have hne:c'≠h'.objs.size:=Nat.ne_of_lt hlt
  have cP:c'≠P:=fun z=>by rw[z,T.at_] at hcn;cases hcn
  have fP:h'.objs.size≠P:=fun z=>by rw[z,T.at_] at hFn;cases hFn
  have kp:∀ b o,b≠P->s.heap.get? b=some o->(h'.push (W.kla_obj "<lambda>" (X.env.qual++"<lambda>") params body scope cl ((X.mg "__name__").getD .none) c' ctv)).get? b=some o:=fun b o hb e=>Heap.get?_push_of_some _ (hx b o hb e)
  have hq:=hA c' h'.objs.size ctv hk hcn hFn hne
  refine ⟨.ref h'.objs.size,_,I.call' (s':={ s with heap:=h'.push (W.kla_obj "<lambda>" (X.env.qual++"<lambda>") params body scope cl ((X.mg "__name__").getD .none) c' ctv),toks:=tk }) (ch:=[]) rfl ⟨fun b o e n _ _=>?_,fun b o e n _ _=>?_,fun b o e n _=>?_,fun b o e _=>?_,fun b xs z=>?_,fun b o u z=>?_,fun b pz z=>?_⟩ (fun b u e=>?_) I.bare fun b hb=>absurd hb (by simp),rfl,hq⟩
  ·exact kp b o (fun z=>by rw[z,T.at_] at n;cases n) e
  ·exact ⟨o.slots,kp b o (fun z=>by rw[z,T.at_] at n;cases n) e⟩
  ·have l1:=Heap.lt_size e
   rw[zae (Nat.ne_of_lt (Nat.lt_trans (Nat.lt_of_lt_of_le l1 hge) hlt)),zae (Nat.ne_of_lt (Nat.lt_of_lt_of_le l1 hge)),zae (fun z=>by rw[z,T.at_] at n;cases n)]
   exact n
  ·by_cases hb:b=P
   ·subst hb;exact ⟨_,Heap.get?_push_of_some _ htb⟩
   ·exact ⟨o,kp b o hb e⟩
  ·rw[zae (zaf z hFn),zae (zaf z hcn),zae (fun y=>by rw[y,T.at_] at z;cases z)];exact z
  ·rw[zae (zaf z hFn),zae (zaf z hcn),zae (fun y=>by rw[y,T.at_] at z;cases z)];exact z
  ·by_cases hb:b=P
   ·subst hb
    rw[T.at_] at z;cases z
    exact ⟨_,by rw[zae (Ne.symm fP),zae (Ne.symm cP),zah]⟩
   ·exact ⟨#[],by rw[zae (zaf z hFn),zae (zaf z hcn),zae hb,z];simp⟩
  ·by_cases hbF:b=h'.objs.size
   ·rw[hbF,zah] at e;cases e
    rw[hbF]
    exact zgu (Heap.get?_push_size _ rfl) (Heap.get?_push_size _ rfl) fun x y h k=>k _ h
   ·rw[zae hbF] at e
    by_cases hbc:b=c'
    ·rw[hbc,zah] at e;cases e
     rw[hbc]
     have hr:=hrec.push (W.kla_obj "<lambda>" (X.env.qual++"<lambda>") params body scope cl ((X.mg "__name__").getD .none) c' ctv)
     obtain ⟨c2,o2,_,_,e2,h2,_⟩:=id hr
     cases e2
     exact zgu hr h2 zju
    ·rw[zae hbc] at e
     by_cases hbP:b=P
     ·rw[hbP,zah] at e;cases e
      rw[hbP]
      exact Heap.get?_push_of_some _ htb
     ·rw[zae hbP] at e
      refine (I.hok b u e).stay (fun d o hd z=>?_) (fun d z=>?_) fun d xs z=>?_
      ·refine kp d o (fun y=>?_) z
       rcases hd with hd|hd
       ·exact hbP (hd.symm.trans y)
       ·rw[y,T.at_] at hd;cases hd
      ·rw[zae (zaf z hFn),zae (zaf z hcn),zae (fun y=>by rw[y,T.at_] at z;cases z)];exact z
      ·rw[zae (zaf z hFn),zae (zaf z hcn),zae (fun y=>by rw[y,T.at_] at z;cases z)];exact z
 |some cv =>
  obtain ⟨c,rfl,hcG⟩:=T.cod pos cv hk
  refine W.kla_makeFunctionHit (mg:=X.mg) hcl I.ok.glob hg hc0 C0' oP T.tri hk hbl fun ctv h' tk hkp hsz=>?_
  have hFn:H h'.objs.size=none:=I.hok.fresh hsz
  exact ⟨.ref h'.objs.size,_,I.laid (t':=tk) (fun b u e=>Heap.get?_push_of_some _ (hkp b u e)) hsz (zgu (Heap.get?_push_size _ rfl) (Heap.get?_push_size _ rfl) fun x y h k=>k _ h),rfl,hB c h'.objs.size ctv hk hFn⟩
end
def znl(iF ierr ie:Nat)(Cc:Addr):DS:=fun ρ=>match ρ[iF]? with
 |some (some .opq)=>if ierr < ρ.length/\ie < ρ.length then .ok (.nx,(ρ.set ierr (some (.exc Cc))).set ie none) else .no
 |_=>.no
section
variable{X:Cx}{C:Cn}{p1 p2 p3 p4 p5 p6 p7 p8 p9:Pos}{Cc Cs Fa:Addr}{iF ierr ie:Nat}{xF xerr xe xS:Str}
theorem zmp(hc:X.calm=true)(hN:X.N.Nodup)(hst:X.stack=X.env::X.outer)(hfrm:X.env.frame=some X.env.locals)(hw0:C.w₀=fun _=>none)(hpp:C.pp=[iF])(hσ0:C.σ₀[iF]? = some (some (.ref Fa)))
  (hF:∀ pins σ H s,L2.Inv X pins σ H s->zb7 C.H₀ H->codeAny (model X.prog X.w) X.A (.call (.ref Fa) ⟨[],[]⟩) (fun r s'=>∃ e,r=.error e/\CXf X.prog X.w X.stack H s (EL Cc H) e s') s)
  (hFn:∀ pins σ H s,L2.Inv X pins σ H s->zb7 C.H₀ H->W.FnAt Fa s.heap)
  (xs:Xin X.K Cs) (hsub:W.subIn X.K (.ref Cc) (.ref Cs)=some true) (hmS:X.mg xS=some (.ref Cs)) (hgS:Gl X xS)
  (hNF:X.N[iF]? = some xF) (hNerr:X.N[ierr]? = some xerr) (hNe:X.N[ie]? = some xe) (hie:ie≠ierr) (hF1:ierr≠iF) (hF2:ie≠iF) (kF:X.env.scope.names.lookup xF=some .local) (kerr:X.env.scope.names.lookup xerr=some .local) (ke:X.env.scope.names.lookup xe=some .local)
  (hd1:(xF == ("__debug__" : Str))=false:=by decide) (hd2:(xF == ("__classdict__" : Str))=false:=by decide) (hd3:(xS == ("__debug__" : Str))=false:=by decide) (hd4:(xe == ("__debug__" : Str))=false:=by decide) (hd5:(xe == ("__classdict__" : Str))=false:=by decide)
  (hsw:swapsWith (.Call (.Name xF p1) [] [] p2) none p3.line X.env=pure false:=by rfl) (hsw2:swapsWith (.Name xe p6) (some (.Name xerr p5)) p7.line X.env=pure false:=by rfl) :
  JS X C (.Try [.Expr (.Call (.Name xF p1) [] [] p2) p3] [.ExceptHandler (some (.Name xS p4)) (some xe) [.Assign [.Name xerr p5] (.Name xe p6) p7] p8] [] [] p9) (znl iF ierr ie Cc) :=
 PS.weak (znn hc hN hst hfrm hF hFn xs hsub hmS hgS hNF hNerr hNe hie kF kerr ke hd1 hd2 hd3 hd4 hd5 hsw hsw2) fun D σ H ⟨G,w,ρ,r,p⟩=>by
  unfold znl at p
  split at p
  ·split at p
   ·rename_i hlen
    have sm:zb7 C.H₀ H:=fun b o e=>r.en.h b o e (by rw[hw0])
    refine ⟨by rw[r.pin iF (by rw[hpp];simp)];exact hσ0,sm,fun l H' same hl=>?_⟩
    have hHl:H l=none:=by
     cases q:H l with
     |none=>rfl
     |some u=>rw[same l u q] at hl;cases hl
    have hGl:G l=none:=by
     cases q:G l with
     |none=>rfl
     |some u=>rw[r.gh l u q] at hHl;cases hHl
    have wl:∀ b,w b≠none->b≠l:=fun b e z=>by subst z;exact r.wh b e hHl
    have sG:zb7 G (upd G l (xHO l Cc)):=fun b u e=>by rw[zae (zaf e hGl)];exact e
    have sH:zb7 H (upd H' l (xHO l Cc)):=fun b u e=>by rw[zae (zaf e hHl)];exact same b u e
    have st:zbe G H w (upd G l (xHO l Cc)) (upd H' l (xHO l Cc)) w:=by
     refine ⟨sG,fun b o e=>?_,fun b o e _=>sH b o e,fun b e=>.inl e,fun b e=>?_⟩
     ·by_cases hb:b=l
      ·subst hb;exact .inr (.inl hHl)
      ·rw[zae hb] at e;exact .inl (by rw[e];simp)
     ·cases q:H b with
      |none=>rfl
      |some u=>rw[sH b u q] at e;cases e
    refine p _ _ _ _ st ⟨fun b u e=>?_,fun b e=>?_,fun b e z=>?_,by simpa using r.len,fun i b e=>?_,r.en.trans st,fun i hi=>?_⟩
    ·by_cases hb:b=l
     ·subst hb;rw[zah] at e ⊢;exact e
     ·rw[zae hb] at e ⊢;exact same b u (r.gh b u e)
    ·rw[zae (wl b e)];exact r.wg b e
    ·cases q:H b with
     |none=>exact r.wh b e q
     |some u=>rw[sH b u q] at z;cases z
    ·by_cases h2:i=ie
     ·subst h2;rw[List.getElem?_set_self (by simpa using hlen.2)] at e;cases e
     ·rw[List.getElem?_set_ne (Ne.symm h2)] at e ⊢
      by_cases h1:i=ierr
      ·subst h1
       rw[List.getElem?_set_self hlen.1] at e;cases e
       refine ⟨.ref l,?_,l,rfl,zah⟩
       rw[List.getElem?_set_self (by rw[List.length_set,<- r.len];exact hlen.1)]
      ·rw[List.getElem?_set_ne (Ne.symm h1)] at e ⊢
       rw[List.getElem?_set_ne (Ne.symm h2)]
       obtain ⟨v,q1,q2⟩:=r.sl i b e
       exact ⟨v,q1,q2.grow sG fun a o e1 e2=>⟨sH a o e2,e1⟩⟩
    ·rw[hpp] at hi
     have:i=iF:=by simpa using hi
     subst this
     rw[List.getElem?_set_ne hF2,List.getElem?_set_ne hF1,List.getElem?_set_ne hF2]
     exact r.pin i (by rw[hpp];simp)
   ·exact p.elim
  ·exact p.elim
end
theorem ztH{CX:CXT}{P:Program}{w:World}{K:W.Frag}{mg:Str->Option Value}{base:Heap}{k:Nat}{f:Addr}{name qual:Str}{params:Arguments}{body:List Stmt}{scope:Scope}{dV kV doc pm cdv ct oc:Value}{an od:Option Addr}
  {osl:Array (Option Value)} {N ps:List Str} {A:Around} {outer:List Env} {s:Shared} {H:Hp} {args:Args} {us:List Value} {vs:List V} {Q:VK} {E:XK} (lk:K.lookup f=some ⟨oc,od,.func (W.fnOf name qual params body scope dV kV doc pm an cdv ct),osl⟩) (hcd:W.codeIn K cdv qual=true) (S:za6 N ps scope)
  (hr:zds (k+1) A) (e0:zop P w K mg base A outer s H) (hb:BindsTo s (W.fnOf name qual params body scope dV kV doc pm an cdv ct) args (ps.zip us)) (r:zaM vs us) (hl:vs.length=ps.length)
  (hbody:∃ t,PSs (zjK CX P w K mg base N qual scope f cdv A outer s H E) body t/\t { nx:=fun _ H'=>Q .non H',rt:=Q } (start N vs) H) :
  codeAny (model P w) A (.call (.ref f) args) (CR CX outer P w H s Q E) s:=by
 have hin:K.In s.heap:=e0.mod.kin.keeps fun b o e=>(e0.bs b o e).1
 have nolim:s.heap.NoLimit:=e0.mod.nolimit.keeps fun b o e=>(e0.bs b o e).1
 have zbE:∀ y∈ps.zip us,scope.names.lookup y.1=some .local\/(scope.names.lookup y.1=some .cell/\((cellsFrom (s.heap.objs.size+1) scope.names []).lookup y.1).isSome=true):=fun ⟨n,v⟩ hy=>by
  rcases S.par n (List.of_mem_zip hy).1 with q|q
  ·exact .inl q
  ·exact .inr ⟨q,W.cellsFrom_some _ _ _ (.inl q)⟩
 have dp:A.depth<recursionLimit:=by have:=hr.dp;omega
 refine codeAny_call_function dp (hin _ _ lk) rfl S.co S.gen rfl (W.codeRec_of hin hcd) (hb _ _ _ _ ?_)
 refine wpAny_newFunctionEnv_cells S.kind zbE fun env he s1 x=>?_
 subst he
 refine ⟨nolim.keeps x.toInCall.keep,codeAny_func ?_⟩
 obtain ⟨t,ht,hq⟩:=hbody
 have I:=zhX (CX:=CX) (K:=K) (mg:=mg) (base:=base) (E:=E) (qual:=qual) (f:=f) (cd:=cdv) S hr.hd e0 hl r x
 refine wpAny_mono (ht [] s1 (start N vs) H _ I hq) (fun fl s' hs=>?_) fun e s' hs=>hs
 cases fl with
 |ret u=>obtain ⟨v,σ',H',J,rv,q⟩:=hs;exact ⟨v,H',J.os,J.bare,J.base,J.hok,rv,q⟩
 |next=>obtain ⟨σ',H',J,q⟩:=hs;exact ⟨V.non,H',J.os,J.bare,J.base,J.hok,rfl,q⟩
 |brk=>obtain ⟨_,_,_,q⟩:=hs;exact q.elim
 |cont=>obtain ⟨_,_,_,q⟩:=hs;exact q.elim
theorem ziC{a b:Int}{t u:Tok}{c:Value}:∀{l:List Value},TriplesOk l->TriplesOk (l++[.int a t,.int b u,c]):=by
 intro l h
 fun_induction TriplesOk l with
 |case1=>simp[TriplesOk]
 |case2 x1 x2 x3 x4 x5 zbm ih=>simpa [TriplesOk] using ih h
 |case3=>exact h.elim
theorem zlF{p:Pos}{a b:Int}{t u:Tok}{c cv:Value}:∀{l:List Value},TriplesOk l->codeAmong p (l++[.int a t,.int b u,c])=some cv->codeAmong p l=some cv\/cv=c:=by
 intro l h e
 fun_induction TriplesOk l with
 |case1 =>
  simp only[List.nil_append,codeAmong] at e
  split at e
  ·exact .inr (Option.some.inj e).symm
  ·cases e
 |case2 x1 x2 x3 x4 x5 zbm ih =>
  simp only[List.cons_append,codeAmong] at e ⊢
  split at e
  ·rename_i hh;rw[if_pos hh];exact .inl e
  ·rename_i hh;rw[if_neg hh];exact ih h e
 |case3=>exact h.elim
section
variable{K:W.Frag}{C:Cn}{G H:Hp}{w:Wn}{ρ:Ev}{σ:L2.St}{j:Nat}{q:Str}{P c Fa:Addr}{ps:Array Value}{a b:Int}{t u:Tok}{ob:Obj}
theorem Rel.lamA(r:Rel K C G w ρ σ H)(hj:ρ[j]? = some (some (.tab q)))(hσ:σ[j]? = some (some (.ref P)))(hw:w P=some j)(T:zmo P q G H ps)(hc:H c=none)(hF:H Fa=none)(hne:c≠Fa) :
  Rel K C (upd (upd G c (cHO c q)) Fa (fHO Fa ob)) w ρ σ (upd (upd (upd H P (.tbl (ps++#[.int a t,.int b u,.ref c]))) c (cHO c q)) Fa (fHO Fa ob)) /\
   zbe G H w (upd (upd G c (cHO c q)) Fa (fHO Fa ob)) (upd (upd (upd H P (.tbl (ps++#[.int a t,.int b u,.ref c]))) c (cHO c q)) Fa (fHO Fa ob)) w:=by
 have gf:∀{x:Addr},H x=none->G x=none:=fun {x} e=>r.gh.free e
 have cP:c≠P:=fun z=>by rw[z,T.at_] at hc;cases hc
 have fP:Fa≠P:=fun z=>by rw[z,T.at_] at hF;cases hF
 have gP:G P=none:=r.wg P (by rw[hw];simp)
 have sG:zb7 G (upd (upd G c (cHO c q)) Fa (fHO Fa ob)):=fun x o e=>by rw[zae (zaf e (gf hF)),zae (zaf e (gf hc))];exact e
 have oth:∀{x:Addr}{o:HO},x≠P->H x=some o->upd (upd (upd H P (.tbl (ps++#[.int a t,.int b u,.ref c]))) c (cHO c q)) Fa (fHO Fa ob) x=some o:=fun {x o} hx e=>by
  rw[zae (zaf e hF),zae (zaf e hc),zae hx];exact e
 have dom:∀ x,upd (upd (upd H P (.tbl (ps++#[.int a t,.int b u,.ref c]))) c (cHO c q)) Fa (fHO Fa ob) x=none->H x=none:=fun x e=>by
  by_cases h1:x=Fa
  ·rw[h1,zah] at e;cases e
  ·rw[zae h1] at e
   by_cases h2:x=c
   ·rw[h2,zah] at e;cases e
   ·rw[zae h2] at e
    by_cases h3:x=P
    ·rw[h3,zah] at e;cases e
    ·rw[zae h3] at e;exact e
 have st:zbe G H w (upd (upd G c (cHO c q)) Fa (fHO Fa ob)) (upd (upd (upd H P (.tbl (ps++#[.int a t,.int b u,.ref c]))) c (cHO c q)) Fa (fHO Fa ob)) w:=by
  refine ⟨sG,fun x o e=>?_,fun x o e z=>oth (fun y=>by rw[y,hw] at z;cases z) e,fun x e=>.inl e,dom⟩
  by_cases h1:x=Fa
  ·rw[h1];exact .inr (.inl hF)
  ·rw[zae h1] at e
   by_cases h2:x=c
   ·rw[h2];exact .inr (.inl hc)
   ·rw[zae h2] at e;exact .inl (by rw[e];simp)
 refine ⟨⟨fun x o e=>?_,fun x e=>?_,fun x e z=>r.wh x e (dom x z),r.len,fun i bb e=>?_,r.en.trans st,r.pin⟩,st⟩
 ·by_cases h1:x=Fa
  ·rw[h1,zah] at e ⊢;exact e
  ·rw[zae h1] at e ⊢
   by_cases h2:x=c
   ·rw[h2,zah] at e ⊢;exact e
   ·rw[zae h2] at e ⊢
    rw[zae (fun y=>by rw[y,gP] at e;cases e)]
    exact r.gh x o e
 ·have:=r.wh x e
  rw[zae (fun y=>this (by rw[y];exact hF)),zae (fun y=>this (by rw[y];exact hc))]
  exact r.wg x e
 ·obtain ⟨v,e1,e2⟩:=r.sl i bb e
  by_cases hi:i=j
  ·subst hi
   rw[hj] at e;cases e
   rw[hσ] at e1;cases e1
   refine ⟨_,hσ,P,ps++#[.int a t,.int b u,.ref c],rfl,hw,?_,?_,fun p cv hcv=>?_⟩
   ·rw[zae (Ne.symm fP),zae (Ne.symm cP),zah]
   ·rw[Array.toList_append];exact ziC T.tri
   ·rw[Array.toList_append] at hcv
    rcases zlF T.tri hcv with z|z
    ·obtain ⟨c2,q1,q2⟩:=T.cod p cv z
     exact ⟨c2,q1,sG _ _ q2⟩
    ·exact ⟨c,z,by rw[zae hne,zah]⟩
  ·refine ⟨v,e1,e2.grow sG fun x o z1 z2=>⟨oth (fun y=>?_) z2,z1⟩⟩
   rw[y,hw] at z1
   exact hi (Option.some.inj z1).symm
theorem Rel.lamB(r:Rel K C G w ρ σ H)(hF:H Fa=none):Rel K C (upd G Fa (fHO Fa ob)) w ρ σ (upd H Fa (fHO Fa ob))/\zbe G H w (upd G Fa (fHO Fa ob)) (upd H Fa (fHO Fa ob)) w :=
 let gr:zdz G H (upd G Fa (fHO Fa ob)) (upd H Fa (fHO Fa ob)):=.new r.gh hF
 ⟨r.grow gr,gr.step⟩
theorem zk4{bs:List B}:∀{ρ:Ev}{k:Nat},zg1 [] bs k ρ = ρ
 |[],_=>rfl
 |o::r,k=>by unfold zg1;rw[zk4 (ρ:=r)];rfl
end
def znA(j:Nat)(q:Str)(fE:De):DN:=fun ρ=>match ρ[j]? with
 |some (some (.tab q'))=>if q'=q then match fE (zcE ρ) with
   |.er n=>if n<8 then .ok ([.int n],ρ) else .no
   |_=>.no
  else .no
 |_=>.no
def zoU(C:Cn)(G H:Hp)(σ:L2.St):Cn:=⟨G,H,fun _=>none,[0],σ,fun _=>False,C.xv,true⟩
def zre(C:Cn)(G H:Hp)(σ:L2.St)(n:Nat):Cn:=⟨G,H,fun _=>none,[],σ,fun m=>m=n,C.xv,false⟩
abbrev HB(X:Cx)(C:Cn)(xr:Str)(st:Stmt)(f:Addr)(NR:List Str)(k:Nat)(cls:Nat->Addr)(dB:Nat->Addr->DS):Prop:=∀(XR:Cx)(CR:Cn)(n:Nat)(Fa:Addr),n<8->(∃ cdv A outer s H E,XR=zjK (CXe X.prog X.w) X.prog X.w X.K X.mg X.base NR xr (zak st) f cdv A outer s H E)->(∃ G H,CR=zoU C G H (start NR [.ref Fa]))->zds (k+1) XR.A ->
   (∀ pins σ H s,L2.Inv XR pins σ H s->zb7 CR.H₀ H->codeAny (model XR.prog XR.w) XR.A (.call (.ref Fa) ⟨[],[]⟩) (fun r s'=>∃ e,r=.error e/\CXf XR.prog XR.w XR.stack H s (EL (cls n) H) e s') s) ->
   (∀ pins σ H s,L2.Inv XR pins σ H s->zb7 CR.H₀ H->W.FnAt Fa s.heap)->JSs XR CR (zbZ st) (dB n (cls n))
abbrev HD(m:Nat)(dB:Nat->Addr->DS):Prop:=∀ n C',n<8->∃ ρ',dB n C' (some .opq::List.replicate m none)=.ok (.rt (.lst [.int n]),ρ')
abbrev HL(X:Cx)(xv:Nat->Value)(k:Nat)(body:Expr)(scope:Scope)(fE:De):Prop:=∀(XL:Cx)(CL:Cn),(∃ XR cl Fa cdv s H E,XR.prog=X.prog/\XR.w=X.w/\XR.K=X.K/\XR.mg=X.mg/\XR.base=X.base/\XL=zhy XR X.N scope cl (X.env.qual++"<lambda>") Fa cdv s H E)->CL.xv=xv->zds k XL.A->zc9 (CXe X.prog X.w) XL (EXc CL)->JE XL CL body fE
abbrev HA(X:Cx)(params:Arguments)(body:Expr)(scope:Scope):Prop:=∀ cl pm cdv ctv,bindArgs (W.kla_fn "<lambda>" (X.env.qual++"<lambda>") params body scope cl pm cdv ctv) ⟨[],[]⟩=pure []
abbrev kLo(X:Cx)(params:Arguments)(body:Expr)(scope:Scope)(cl:List (Str×Addr))(c:Addr)(ctv:Value):Obj:=W.kla_obj "<lambda>" (X.env.qual++"<lambda>") params body scope cl ((X.mg "__name__").getD .none) c ctv
structure zrM(X:Cx)(xv:Nat->Value)(k:Nat)(params:Arguments)(body:Expr)(scope:Scope)(fE:De):Prop where
 hE:HL X xv k body scope fE
 hfr:Hfr X scope
 hbind:HA X params body scope
 hdef:defaultsOf params X.env=([],[]):=by rfl
 hk:scope.kind=.function:=by rfl
 ho:zmz scope.names=true:=by rfl
 hco:scope.isCoroutine=false:=by rfl
 hgen:scope.isGenerator=false:=by rfl
structure zlZ(X:Cx)(xv:Nat->Value)(k n:Nat)(ρ:Ev)(G:Hp)(Fa:Addr):Prop where
 ex:∃ params body scope cl c ctv fE,zrM X xv k params body scope fE/\(∀ x cc,cl.lookup x=some cc->X.env.cells.lookup x=some cc)/\(∀ y∈scope.names,y.2=.free->∃ c,cl.lookup y.1=some c) /\
  G Fa=some (fHO Fa (kLo X params body scope cl c ctv))/\G c=some (cHO c (X.env.qual++"<lambda>"))/\fE (zcE ρ)=.er n
theorem zlZ.same{X:Cx}{xv:Nat->Value}{k n:Nat}{ρ:Ev}{G G':Hp}{Fa:Addr}(L:zlZ X xv k n ρ G Fa)(e:zb7 G G'):zlZ X xv k n ρ G' Fa:=by
 obtain ⟨params,body,scope,cl,c,ctv,fE,h1,h2,h3,h4,h5,h6⟩:=L.ex
 exact ⟨params,body,scope,cl,c,ctv,fE,h1,h2,h3,e _ _ h4,e _ _ h5,h6⟩
def tLam(X:Cx)(P:Addr)(params:Arguments)(body:Expr)(scope:Scope)(lpos:Pos)(cl:List (Str×Addr)):TE:=fun σ H Q=>∃ ps:Array Value,zmo P (X.env.qual++"<lambda>") H H ps /\
 (∀ c Fa ctv,codeAmong lpos ps.toList=none->H c=none->H Fa=none->c≠Fa->Q (.ref Fa) (upd (upd (upd H P (.tbl (ps++#[rawInt lpos.line,rawInt lpos.col,.ref c]))) c (cHO c (X.env.qual++"<lambda>"))) Fa (fHO Fa (kLo X params body scope cl c ctv)))) /\
 ∀ c Fa ctv,codeAmong lpos ps.toList=some (.ref c)->H Fa=none->Q (.ref Fa) (upd H Fa (fHO Fa (kLo X params body scope cl c ctv)))
section
variable{X:Cx}{C:Cn}{P:Addr}{params:Arguments}{body:Expr}{scope:Scope}{lpos:Pos}{cl:List (Str×Addr)}
theorem zsz(LB:zfD X P)(hdef:defaultsOf params X.env=([],[]))(hcl:closureFor scope X.env=pure cl):PE X (.Lambda params body scope lpos) (tLam X P params body scope lpos cl):=fun pins s σ H Q I ⟨ps,T,hA,hB⟩=>zte LB I hdef hcl T hA hB
theorem zoD{G H:Hp}{w:Wn}{ρ:Ev}{σ:L2.St}{j:Nat}{Q:VK}(r:Rel X.K C G w ρ σ H)(hj:ρ[j]? = some (some (.tab (X.env.qual++"<lambda>"))))(hσj:σ[j]? = some (some (.ref P)))
  (k:∀ Fa c ctv G1 H1,Rel X.K C G1 w ρ σ H1->zbe G H w G1 H1 w->G1 Fa=some (fHO Fa (kLo X params body scope cl c ctv))->G1 c=some (cHO c (X.env.qual++"<lambda>"))->Q (.ref Fa) H1):tLam X P params body scope lpos cl σ H Q:=by
 obtain ⟨vP,eP1,P',ps,rfl,hwP,hHP,htri,hcod⟩:=r.sl j _ hj
 rw[hσj] at eP1
 obtain rfl:P=P':=by injection eP1 with e1;injection e1 with e2;injection e2
 have T:zmo P (X.env.qual++"<lambda>") G H ps:=⟨hHP,htri,hcod⟩
 have TH:zmo P (X.env.qual++"<lambda>") H H ps:=⟨hHP,htri,fun q cv z=>let ⟨c,z1,z2⟩:=hcod q cv z;⟨c,z1,r.gh _ _ z2⟩⟩
 refine ⟨ps,TH,fun c Fa ctv _ hc hF hne=>?_,fun c Fa ctv hk' hF=>?_⟩
 ·obtain ⟨rel1,st1⟩:=r.lamA (ob:=W.kla_obj "<lambda>" (X.env.qual++"<lambda>") params body scope cl ((X.mg "__name__").getD .none) c ctv) (a:=lpos.line) (b:=lpos.col) (t:=_) (u:=_) hj hσj hwP T hc hF hne
  exact k Fa c ctv _ _ rel1 st1 zah (by rw[zae hne,zah])
 ·obtain ⟨rel1,st1⟩:=r.lamB (ob:=W.kla_obj "<lambda>" (X.env.qual++"<lambda>") params body scope cl ((X.mg "__name__").getD .none) c ctv) hF
  obtain ⟨c2,e1,e2⟩:=hcod _ _ hk'
  cases e1
  have hcH:=r.gh _ _ e2
  exact k Fa c ctv _ _ rel1 st1 zah (by rw[zae (zaf hcH hF)];exact e2)
end
section
variable{X:Cx}{C CY:Cn}{f:Addr}{fd:FuncData}{st:Stmt}{xq xr:Str}{NR:List Str}{m k n:Nat}{dB:Nat->Addr->DS}
theorem zob(cls:Nat->Addr)(hxv:∀ n,n<8->C.xv n=.ref (cls n))(hfn:X.fn=fun _=>true)
  (Fu:Fun X.K xq xr st f fd) (S:za6 NR ["call"] (zak st)) (hNR:NR.length=m+1) (hb:zeO X.K fd ["call"] []) (hr:zds (k+2) X.A)
  (hB:HB X C xr st f NR k cls dB)
  (hden:HD m dB) (hn8:n<8)
  {pins:List (Addr×Obj)} {σ σY:L2.St} {H1:Hp} {s1:Shared} (I1:L2.Inv X pins σ H1 s1) (e0:zop X.prog X.w X.K X.mg X.base X.A X.stack s1 H1)
  {G1:Hp} {w:Wn} {ρY ρ:Ev} {Fa:Addr} (rel1:Rel X.K CY G1 w ρY σY H1) (hval:∀(i:Nat)(d:Dt),ρ[i]? = some (some (.val d))->∃ v,σ[i]? = some (some v)/\Rep X.K G1 d v) (hlen:ρ.length = σ.length) (L:zlZ X C.xv k n ρ G1 Fa) {Q:VK} (kn:kN X.K CY σY Q G1 H1 w ([.int n],ρY)) :
  codeAny (model X.prog X.w) X.A (.call (.ref f) ⟨[.ref Fa],[]⟩) (L2.CR (CXe X.prog X.w) X.stack X.prog X.w H1 s1 Q (fun _ _ _=>False)) s1:=by
 obtain ⟨params,body,scope,cl,c,ctv,fE,A,hcl,hcf,gF,gc,hfE⟩:=L.ex
 have hHF:=rel1.gh _ _ gF
 have hHc:=rel1.gh _ _ gc
 obtain ⟨oc,od,kV,doc,pm,an,cdv,ct,osl,rfl,lk,hcd⟩:=Fu.ex
 refine ztH (CX:=CXe X.prog X.w) (k:=k+1) (E:=fun _ _ _=>False) (us:=[.ref Fa]) (vs:=[.ref Fa]) (N:=NR) (Q:=Q) lk hcd S hr e0 (by simpa using hb s1 [.ref Fa] I1.kIn rfl) (.cons rfl .nil) rfl ?_
 let XR:=zjK (CXe X.prog X.w) X.prog X.w X.K X.mg X.base NR xr (zak st) f cdv X.A X.stack s1 H1 (fun _ _ _=>False)
 let CRR:=zoU C G1 H1 (start NR [.ref Fa])
 have frs0:∀ x cc,cl.lookup x=some cc->cc∉frs X.stack:=fun x cc e hmem=>by
  rcases List.mem_cons.mp (I1.stkSub cc hmem) with z|z
  ·exact I1.cne x cc (hcl x cc e) z
  ·obtain ⟨_,o,ho',_⟩:=I1.ok.funs.mem z
   exact absurd (Heap.lt_size ho') (Nat.not_lt.mpr (I1.ok.cab x cc (by rw[hfn]) (hcl x cc e)))
 have cells:∀ pinsR σR H2 s2,L2.Inv XR pinsR σR H2 s2->zh9 X.N scope.names cl σ H2 s2.heap:=fun pinsR σR H2 s2 J=>by
  have mv:∀ x cc v,cl.lookup x=some cc->s1.heap.IsCell cc v->s2.heap.IsCell cc v:=fun x cc v e ⟨o,e1,e2⟩ =>
   ⟨o,J.base.keep cc o e1 (I1.freeC x cc (hcl x cc e)) (frs0 x cc e) (by show cc∉([]:List Addr);simp),e2⟩
  refine ⟨fun x y cc h1 h2=>I1.ok.inj x y cc (hcl x cc h1) (hcl y cc h2),fun x e=>hcf _ (zaO e) rfl,fun x cc e=>?_,fun i x v e1 e2 e3=>?_⟩
  ·obtain ⟨v,ic⟩:=I1.cell x cc (hcl x cc e)
   obtain ⟨o,e1,_⟩:=id ic
   exact ⟨⟨v,mv x cc v e ic⟩,J.base.free cc o e1 (I1.freeC x cc (hcl x cc e)) (by show cc∉([]:List Addr);simp)⟩
  ·have hmem:=zaO e3
   have kc:=A.hfr _ hmem rfl
   obtain ⟨m0,hn0,hl0⟩:=I1.loc
   obtain ⟨u,ru,lk'⟩:=hl0 i x v e1 e2 (kc.elim (fun z=>.inr (.inl z)) fun z=>.inr (.inr z))
   obtain ⟨cc,hcc⟩:=hcf _ hmem rfl
   refine ⟨u,cc,ru,hcc,?_⟩
   rcases lk' with ⟨z,_⟩|⟨_,c',e',ic⟩
   ·rcases kc with y|y <;> (rw[y] at z;cases z)
   ·rw[hcl _ _ hcc] at e';cases e'
    exact mv x cc _ hcc ic
 have objs:∀ pinsR σR H2 s2,L2.Inv XR pinsR σR H2 s2->zb7 H1 H2->s2.heap.get? Fa=some (kLo X params body scope cl c ctv)/\s2.heap.CodeRec (.ref c) (X.env.qual++"<lambda>"):=fun pinsR σR H2 s2 J sm=>by
  have o1:zcd XR.prog XR.w H2 s2.heap Fa (fHO Fa _):=J.hok Fa _ (sm _ _ hHF)
  have o2:zcd XR.prog XR.w H2 s2.heap c (cHO c _):=J.hok c _ (sm _ _ hHc)
  exact ⟨o1.1,o2.1⟩
 have hrR:zds (k+1) XR.A:=hr.deeper _
 have hjs:=hB XR CRR n Fa hn8 ⟨cdv,X.A,X.stack,s1,H1,fun _ _ _=>False,rfl⟩ ⟨G1,H1,rfl⟩ hrR (fun pinsR σR H2 s2 J sm=>?_) fun pinsR σR H2 s2 J sm=>?_
 ·refine ⟨_,hjs,G1,fun _=>none,some .opq::List.replicate m none,?_,?_⟩
  ·refine ⟨rel1.gh,fun b e=>absurd rfl e,fun b e=>absurd rfl e,?_,fun i b e=>?_,.refl _ _ _,fun i _=>rfl⟩
   ·unfold L2.start;simp[hNR]
   ·cases i with
    |zero =>
     simp at e;subst e
     exact ⟨.ref Fa,rfl,trivial⟩
    |succ i =>
     rw[List.getElem?_cons_succ,List.getElem?_replicate] at e
     split at e <;> cases e
  ·obtain ⟨ρ',e⟩:=hden n (cls n) hn8
   rw[e]
   intro v σ' G' H' w' st' rel' rt
   obtain ⟨l,pp,us,e1,rfl,e3,e4,e5,e6,e7⟩:=rt
   injection e1 with e1
   subst e1
   have win:wIn w []=fun _=>none:=by
    funext b;unfold wIn;cases w b <;> rfl
   obtain ⟨r2,st2⟩:=rel1.back (as:=[]) (vs:=[]) (bs:=[]) (bs':=[]) (ks:=[]) rfl rfl rfl rfl (by rw[win];exact st') ⟨rel'.gh,rel'.wg,rel'.wh,fun j' v' z=>by simp at z⟩
   rw[zk4] at r2
   have w1p:w pp=none:=by
    cases zz:w pp with
    |none=>rfl
    |some kk=>exact absurd e3 (rel1.wh pp (by rw[zz];simp))
   exact kn pp us G' H' _ st2 r2 e3 e4 e5 (by unfold zn9;rw[e6,w1p];rfl) e7
 ·
  obtain ⟨o1,o2⟩:=objs _ _ _ _ J sm
  refine zpm (σ:=σ) (N:=X.N) (t:=tE X.K (zre C G1 H2 σ n) fE) J rfl (by have:=hrR.dp;omega) A.hk A.ho (cells _ _ _ _ J) I1.len o1 o2 (A.hbind _ _ _ _) A.hco A.hgen ?_ ?_
  ·refine A.hE _ (zre C G1 H2 σ n) ⟨XR,cl,Fa,.ref c,s2,H2,EL (cls n) H2,rfl,rfl,rfl,rfl,rfl,rfl⟩ rfl (hrR.deeper _) (zl0 fun u a H' ⟨ea,n',eu,en,G',w',s'⟩=>?_)
   have en':n'=n:=en
   subst en'
   exact ⟨eu.trans (hxv n' hn8),fun b o e=>s'.h b o e rfl⟩
  ·refine ⟨G1,fun _=>none,zcE ρ,⟨rel1.gh.trans sm,fun b e=>absurd rfl e,fun b e=>absurd rfl e,by unfold zcE;rw[List.length_map];exact hlen,fun i b e=>?_,.refl _ _ _,fun i hi=>by simp[zre] at hi⟩,?_⟩
   ·unfold zcE at e
    rw[List.getElem?_map] at e
    cases q:ρ[i]? with
    |none=>rw[q] at e;cases e
    |some o =>
     rw[q] at e
     simp only[Option.map_some,Option.some.injEq] at e
     split at e
     ·cases e
      obtain ⟨v,e1,e2⟩:=hval i _ q
      exact ⟨v,e1,e2⟩
     ·cases e
   ·rw[hfE]
    rfl
 ·obtain ⟨o1,_⟩:=objs _ _ _ _ J sm
  exact ⟨_,_,_,_,o1⟩
end
theorem zpY{Y:Cx}{pins:List (Addr×Obj)}{σ:L2.St}{H:Hp}{s s2:Shared}{Q:VK}{rr:Result}(I:L2.Inv Y pins σ H s)(hq:L2.CR (CXe Y.prog Y.w) Y.stack Y.prog Y.w H s Q (fun _ _ _=>False) rr s2){E:Value->Shared->Prop}:(match (generalizing:=false) rr with|.ok (.ret v)=>EP Y pins σ Q v s2|.ok _=>False|.error e=>E e s2):=by
 cases rr with
 |error e=>exact (CXe.none hq).elim
 |ok fl =>
  cases fl with
  |ret u=>exact I.after hq
  |next=>exact False.elim hq
  |brk=>exact False.elim hq
  |cont=>exact False.elim hq
section
variable{X:Cx}{C:Cn}{P f:Addr}{fd:FuncData}{st:Stmt}{xq xr:Str}{NR:List Str}{m k j:Nat}{p pos lpos:Pos}{params:Arguments}{body:Expr}{scope:Scope}{fE:De}{dB:Nat->Addr->DS}
theorem zpK(LB:zfD X P)(hfn:X.fn=fun _=>true)(hpp:j∈C.pp)(hσ0:C.σ₀[j]? = some (some (.ref P)))(cls:Nat->Addr)(hxv:∀ n,n<8->C.xv n=.ref (cls n))
  (Fu:Fun X.K xq xr st f fd) (S:za6 NR ["call"] (zak st)) (hNR:NR.length=m+1) (hb:zeO X.K fd ["call"] []) (hm:X.mg xr=some (.ref f)) (hr:zds (k+2) X.A)
  (hB:HB X C xr st f NR k cls dB)
  (hden:HD m dB)
  (hE:HL X C.xv k body scope fE)
  (hdef:defaultsOf params X.env=([],[]):=by rfl) (hk:scope.kind=.function:=by rfl) (ho:zmz scope.names=true:=by rfl) (hfr:Hfr X scope)
  (hbind:HA X params body scope) (hco:scope.isCoroutine=false:=by rfl) (hgen:scope.isGenerator=false:=by rfl)
  (hg:Gl X xr:=by rfl) (hdb:(xr == ("__debug__" : Str))=false:=by decide) (he:starEach [.Lambda params body scope lpos] X.env=(false,eval (.Lambda params body scope lpos) X.env)::starEach [] X.env:=by rfl) (hpl:(backTo pos (starEach [] X.env)).any (·.1)=false:=by rfl) :
  JN X C (.Call (.Name xr p) [.Lambda params body scope lpos] [] pos) (znA j (X.env.qual++"<lambda>") fE):=by
 intro pins s σ H Q I ⟨G,w,ρ,r,pst⟩
 unfold znA at pst
 split at pst
 case h_2=>exact pst.elim
 rename_i q' hj
 split at pst
 case isFalse=>exact pst.elim
 rename_i hq'
 subst hq'
 split at pst
 case h_2=>exact pst.elim
 rename_i n hfE
 split at pst
 case isFalse=>exact pst.elim
 rename_i hn8
 have kn:kN X.K C σ Q G H w ([.int n],ρ):=pst
 obtain ⟨cl,hclos,hcl,hcf⟩:=zdC (scope:=scope) (env:=X.env) fun y hy hf=>I.ok.has y.1 (hfr y hy hf)
 have hσj:σ[j]? = some (some (.ref P)):=by rw[r.pin j hpp];exact hσ0
 refine wpAny_Call_Name_kw (zgq I hg hm ?_ hdb)
 refine W.callWith_K (h₀:=X.base) I.ok.mod.kin Fu.kp ?_ he hpl
 rw[he]
 refine Calls.spliced_cons (thn (zsz LB hdef hclos pins s σ H (fun v H1=>∃ Fa c ctv G1,v=.ref Fa/\Rel X.K C G1 w ρ σ H1/\zbe G H w G1 H1 w/\G1 Fa=some (fHO Fa (kLo X params body scope cl c ctv))/\G1 c=some (cHO c (X.env.qual++"<lambda>"))) I (zoD r hj hσj fun Fa c ctv G1 H1 a1 a2 a3 a4=>⟨Fa,c,ctv,G1,rfl,a1,a2,a3,a4⟩)) fun u s1 hEP=>?_)
 obtain ⟨v,H1,I1,rv,Fa,c,ctv,G1,rfl,rel1,st1,gF,gc⟩:=hEP
 cases rv
 show wpAny _ _ (spliced []) _ _ s1
 refine Calls.spliced_nil ⟨I1.kIn,wpAny_call (codeAny_mono (zob cls hxv hfn Fu S hNR hb hr hB hden hn8 I1 I1.env0 rel1 (fun i d e=>rel1.sl i _ e) rel1.len ⟨_,_,_,cl,c,ctv,fE,⟨hE,hfr,hbind,hdef,hk,ho,hco,hgen⟩,hcl,hcf,gF,gc,hfE⟩ (zeU _ _ _ _ _ _ _ st1 kn)) fun rr s2 hq=>zpY I1 hq)⟩
end
theorem zmc{P:Program}{w:World}{K:W.Frag}{mg mb:Str->Option Value}{CX:CXT}{k:Nat}{fa a PT cL:Addr}{fd:FuncData}{x:Str}{sp:Sp}{s₁:Shared}{vs:List Value}{ns:List Int}
  (KX:K.In s₁.heap) (hns:s₁.heap.Ns mainGlobals mg) (hb:s₁.heap.Ns builtinsNs mb) (hbb:∀ x:Str,x≠"__name__"->mb x=bootBuiltins x) (hlim:s₁.heap.NoLimit) (hg:s₁.gens=#[])
  (ha:s₁.heap.get? a=some { cls:=.type "list",data:=.seq vs.toArray }) (hi:IntsAre vs ns) (hl:ns.length<=sizeLine) (hr:zds k callerA)
  (hPT:s₁.heap.get? PT=some (W.tabObj #[])) (hnt:W.noTabs K=true) (hcode:W.codeHdIn K cL PT=true) (hbm:s₁.heap.BuiltinsAt mg PT)
  (F:∀ base:Heap,K.In base->base.Ns mainGlobals mg->base.BuiltinsAt mg PT->zeJ P w K mg base CX k fa fd [x] sp) (hbind:∀(s:Shared)(u:Value),BindsTo s fd ⟨[u],[]⟩ [(x,u)])
  (hsp:∀ H:Hp,H PT=some (.tbl #[])->SqL K H a (ns.map V.int)->sp [.ref a] H (fun v _=>v=.bl true) fun _ _ _=>False)
  (hCX:∀ H e s',CX [] H s₁ (fun _ _ _=>False) e s'->False) :
  codeAny (model P w) callerA (.call (.ref fa) ⟨[.ref a],[]⟩) (fun r s'=>r=.ok (.ret (.bool true))/\OldK s₁.heap s'.heap/\s'.os=s₁.os/\AllBare s'.gens) s₁:=by
 have rv:=vals_ints hi
 have lenV:=hi.length
 have aP:a≠PT:=fun z=>by
  rw[z,hPT] at ha
  have:=congrArg Obj.cls (Option.some.inj ha)
  cases this
 have kP:K.lookup PT=none:=by
  cases q:K.lookup PT with
  |none=>rfl
  |some o =>
   have e:=KX _ _ q
   rw[hPT] at e
   have h2:=List.all_eq_true.mp hnt (PT,o) (W.mem_of_lookupK q)
   cases e
   exact absurd (show false=true from h2) Bool.false_ne_true
 have core:∀ H:Hp,(∀ b,b≠PT->H b=none\/∃ o xs,H b=some (.frz o (.lst xs)))->H PT=some (.tbl #[])->SqL K H a (ns.map V.int)->HOk P w H s₁.heap->(∀ b,H b≠none->b=a\/b=PT)->(H a≠none->K.lookup a=none) ->
   codeAny (model P w) callerA (.call (.ref fa) ⟨[.ref a],[]⟩) (fun r s'=>r=.ok (.ret (.bool true))/\OldK s₁.heap s'.heap/\s'.os=s₁.os/\AllBare s'.gens) s₁:=by
  intro H hO hP hS hok hA hK
  have base_of:∀{b:Addr}{o:Obj},s₁.heap.get? b=some o->H b=none->(zn8 s₁.heap H).get? b=some o:=fun e n=>zo0 e n
  have other:∀{b:Addr}{o:Obj},s₁.heap.get? b=some o->o.cls≠.type "list"->o.cls≠.none->H b=none:=fun {b o} e d1 d2=>by
   cases q:H b with
   |none=>rfl
   |some u =>
    rcases hA b (by rw[q];simp) with z|z
    ·rw[z,ha] at e;cases e;exact absurd rfl d1
    ·rw[z,hPT] at e;cases e;exact absurd rfl d2
  have noA:∀{b:Addr}{o:Obj}{es:Array DictEntry}{ep:Nat},s₁.heap.get? b=some o->o.data=.dict es ep->H b=none:=fun {b o es ep} e d=>by
   cases q:H b with
   |none=>rfl
   |some u =>
    rcases hA b (by rw[q];simp) with z|z
    ·rw[z,ha] at e;cases e;cases d
    ·rw[z,hPT] at e;cases e;cases d
  have nsK:∀{b:Addr}{m:Str->Option Value},s₁.heap.Ns b m->(zn8 s₁.heap H).Ns b m:=fun {b m} ⟨o,es,ep,e,d,r⟩=>⟨o,es,ep,base_of e (noA e d),d,r⟩
  have hKb:K.In (zn8 s₁.heap H):=fun b o e=>base_of (KX b o e) (by
   cases q:H b with
   |none=>rfl
   |some u =>
    rcases hA b (by rw[q];simp) with z|z
    ·subst z
     rw[hK (by rw[q];simp)] at e;cases e
    ·rw[z,kP] at e;cases e)
  have hM:Mod K mg (zn8 s₁.heap H):=⟨hKb,nsK hns,⟨mb,nsK hb,hbb⟩,let ⟨mc,h1,h2⟩:=hlim;⟨mc,nsK h1,h2⟩⟩
  have hbm':(zn8 s₁.heap H).BuiltinsAt mg PT:=by
   obtain ⟨bm,o,b1,b2,b3,b4,b5,b6,b7⟩:=hbm
   exact ⟨bm,o,b1,b2,b3,b4,base_of b5 (other b5 (by rw[b6];decide) (by rw[b6];intro z;cases z)),b6,b7⟩
  have e0:zop P w K mg (zn8 s₁.heap H) callerA [] s₁ H:=⟨rfl,hM,fun b o e=>zqw e,Nat.le_of_eq (zmA _ _),trivial,fun b hb=>absurd (show b∈([]:List Addr) from hb) (by simp),hok,.of_eq hg⟩
  refine codeAny_mono ((F _ hKb (nsK hns) hbm').run callerA [] s₁ H ⟨[.ref a],[]⟩ [.ref a] [.ref a] _ _ hr e0 (hbind s₁ (.ref a)) (.cons rfl .nil) (hsp H hP hS)) fun r s' h=>?_
  cases r with
  |error e=>exact (hCX H e s' h).elim
  |ok fl =>
   cases fl with
   |next=>exact False.elim h
   |brk=>exact False.elim h
   |cont=>exact False.elim h
   |ret u =>
    obtain ⟨v,H',os,bare,un,hok',r',q⟩:=h
    have q':v=.bl true:=q
    subst q'
    obtain rfl:u=Value.bool true:=r'
    have kept:∀ b o,b≠PT->s₁.heap.get? b=some o->s'.heap.get? b=some o:=fun b o hb e=>by
     cases q:H b with
     |none=>exact un.keep b o e q (by intro z;exact absurd (show b∈([]:List Addr) from z) (by simp)) (by simp)
     |some u =>
      rcases hO b hb with z|⟨ob,xs,z⟩
      ·rw[q] at z;cases z
      ·have z2:=un.frzs b ob _ z
       obtain ⟨e1,_⟩:=hok b _ z
       obtain ⟨e2,_⟩:=hok' b _ z2
       rw[e] at e1;cases e1
       exact e2
    obtain ⟨more,hm⟩:=un.tbls PT #[] hP
    have hPT':s'.heap.get? PT=some (W.tabObj (#[]++more)):=hok' PT _ hm
    have tab:=(W.codeHd_of_K KX hcode).tab hPT
    refine ⟨rfl,⟨fun b o e=>?_,fun b o e=>?_⟩,os,bare⟩
    ·by_cases hb:b=PT
     ·subst hb
      rw[hPT] at e;cases e
      exact .inr (.inl ⟨tab.isCodeTable,rfl,#[],more,rfl,hPT'⟩)
     ·exact .inl (kept b o hb e)
    ·by_cases hb:b=PT
     ·subst hb;exact ⟨_,hPT'⟩
     ·exact ⟨o,kept b o hb e⟩
 cases hk:K.lookup a with
 |some o =>
  have e:=KX a o hk
  rw[ha] at e
  cases e
  refine core (fun b=>if b=PT then some (.tbl #[]) else none) (fun b hb=>.inl (if_neg hb)) (if_pos rfl) (.inr ⟨_,vs.toArray,_,hk,rfl,rfl,rfl,by rw[List.size_toArray,lenV];exact hl,by simpa using rv⟩) (fun b u z=>?_) (fun b z=>?_) fun z=>absurd (if_neg aP) z
  ·by_cases hb:b=PT
   ·have z':=(if_pos hb).symm.trans z
    cases z'
    subst hb
    exact hPT
   ·have z':=(if_neg hb).symm.trans z
    cases z'
  ·by_cases hb:b=PT
   ·exact .inr hb
   ·exact absurd (if_neg hb) z
 |none =>
  refine core (fun b=>if b=PT then some (.tbl #[]) else if b=a then some (.frz { cls:=.type "list",data:=.seq vs.toArray } (.lst (ns.map V.int))) else none) (fun b hb=>?_) (if_pos rfl) (.inl (.inr ⟨{ cls:=.type "list",data:=.seq vs.toArray },(if_neg aP).trans (if_pos rfl)⟩)) (fun b u z=>?_) (fun b z=>?_) fun _=>hk
  ·by_cases hba:b=a
   ·exact .inr ⟨_,_,(if_neg hb).trans (if_pos hba)⟩
   ·exact .inl ((if_neg hb).trans (if_neg hba))
  ·by_cases hb:b=PT
   ·have z':=(if_pos hb).symm.trans z
    cases z'
    subst hb
    exact hPT
   ·have z:=(if_neg hb).symm.trans z
    by_cases hba:b=a
    ·have z':=(if_pos hba).symm.trans z
     cases z'
     subst hba
     exact ⟨ha,by rw[List.length_map];exact hl,vs,_,rv,ha⟩
    ·have z':=(if_neg hba).symm.trans z
     cases z'
  ·by_cases hb:b=PT
   ·exact .inr hb
   ·by_cases hba:b=a
    ·exact .inl hba
    ·exact absurd ((if_neg hb).trans (if_neg hba)) z
theorem znK{l:W.OpenLaw}{n k:Nat}{q:Program}{loose:List Str}{XP:(Str->Option Value)->Heap->Prop}{YP:World->Heap->Prop}{d:DefRec}{K:Params->W.Frag}{CX:World->CXT}{sp:World->Sp}{x:Str}{PT:Addr}
  (hn:l.most=some n) (hn2:n<=sizeLine) (hdf:d.params.defaults=[]) (hr:zds k callerA)
  (hY:∀(w:World)(h:Heap),YP w h->(K w.params).In h) (hYT:∀(w:World)(h:Heap),YP w h->h.get? PT=some (W.tabObj #[])) (hnt:∀ w:World,W.noTabs (K w.params)=true)
  (F:∀(w:World)(mg:Str->Option Value)(fa:Addr)(h:Heap),(K w.params).In h->h.Ns mainGlobals mg->mg d.name=some (.ref fa) ->
   ∃(fd:FuncData)(cL:Addr),(∀(s:Shared)(u:Value),BindsTo s fd ⟨[u],[]⟩ [(x,u)])/\W.codeHdIn (K w.params) cL PT=true /\
    ∀ base:Heap,(K w.params).In base->base.Ns mainGlobals mg->base.BuiltinsAt mg PT->zeJ l.prog w (K w.params) mg base (CX w) k fa fd [x] (sp w))
  (hsp:∀(w:World)(H:Hp)(a:Addr)(ns:List Int),ns.length<=n->H PT=some (.tbl #[])->SqL (K w.params) H a (ns.map V.int)->sp w [.ref a] H (fun v _=>v=.bl true) fun _ _ _=>False)
  (hCX:∀(w:World)(H:Hp)(s:Shared)(e:Value)(s':Shared),CX w [] H s (fun _ _ _=>False) e s'->False) :
  W.WalkO q loose XP YP l.row.toRowW d [] (fun f vs=>PySem.call f vs):=by
 refine Att.attach_call hn hdf fun w s₀ s₁ mg mb fa o pm cd doc a vs ns G Y ho hd hcd hmg hobj hints hlen hg=>?_
 have KX:=hY w _ Y
 have hPT:=hYT w _ Y
 obtain ⟨fd,cL,hb,hcode,hF⟩:=F w mg fa _ KX G.T.g hmg
 have hbm:s₁.heap.BuiltinsAt mg PT:=by
  obtain ⟨bm,ob,b1,b2,b3,b4,b5,b6⟩:=G.T.bmain
  refine ⟨bm,ob,b1,b2,fun z=>?_,fun z=>?_,b3,b4,b5,b6⟩
  ·obtain ⟨o',es,ep,e,hd',_⟩:=G.T.g
   rw[z,e] at b3;cases b3;rw[hd'] at b6;cases b6
  ·rw[z,hPT] at b3;cases b3;cases b4
 exact zmc KX G.T.g G.T.b G.T.builtins G.T.nolimit hg hobj hints (Nat.le_trans hlen hn2) hr hPT (hnt w) hcode hbm hF hb (fun H hP hS=>hsp w H a ns hlen hP hS) fun H e s'=>hCX w H s₁ e s'
theorem znz{X:Cx}{pins:List (Addr×Obj)}{σ:L2.St}{H:Hp}{s:Shared}{j:Nat}{x:Str}{o:Option V}(I:L2.Inv X pins σ H s)(hj:X.N[j]? = some x)(hv:¬ Vis X.env.scope x):L2.Inv X pins (σ.set j o) H s:=by
 refine ⟨I.ok,I.os,I.bare,I.base,?_,I.cell,I.free,I.freeC,I.pin,I.hok,by simpa using I.len⟩
 obtain ⟨m,hn,hl⟩:=I.loc
 refine ⟨m,hn,fun i y v e1 e2 e3=>?_⟩
 by_cases hi:i=j
 ·subst hi
  rw[hj] at e1;cases e1
  exact absurd e3 hv
 ·rw[List.getElem?_set_ne (Ne.symm hi)] at e2
  exact hl i y v e1 e2 e3
def spT(K:W.Frag)(PT:Addr)(ok:List Int->Prop):Sp:=fun vs H Q _=>∃ a ns,vs=[.ref a]/\SqL K H a (ns.map V.int)/\H PT=some (.tbl #[])/\ok ns/\∀ H',Q (.bl true) H'
def zr7(m:Nat)(q:Str)(fb:DS)(ns:List Int):Prop:=∃ ρ',fb (some (.val (.scr ns))::(List.replicate m none++[some (.tab q)]))=.ok (.rt (.bl true),ρ')
theorem zrY{P:Program}{w:World}{K:W.Frag}{mg:Str->Option Value}{base:Heap}{xq qual xs xt q:Str}{st:Stmt}{N:List Str}{xv:Nat->Value}{m k:Nat}{fb:DS}{f PT cL:Addr}{fd:FuncData}
  (Fu:Fun K xq qual st f fd) (hcL:fd.code=.ref cL) (hch:W.codeHdIn K cL PT=true) (S:za6 N [xs] (zak st)) (hm:N.length=m+2) (hj:N[m+1]? = some xt) (hv:¬ Vis (zak st) xt) (hbm:base.BuiltinsAt mg PT) (hKb:K.In base)
  (hbody:∀(X:Cx)(C:Cn),(∃ cdv A outer s H E,X=zjK (CXe P w) P w K mg base N qual (zak st) f cdv A outer s H E)->C.pp=[m+1]->C.σ₀[m+1]? = some (some (.ref PT))->C.xv=xv->C.nw=false->zds k X.A->zc9 (CXe P w) X (EXc C)->PassesOwn (model X.prog X.w) X.A X.env X.xe->zfD X PT->JSs X C (zbZ st) fb) :
  zeJ P w K mg base (CXe P w) (k+1) f fd [xs] (spT K PT (zr7 m q fb)):=by
 obtain ⟨oc,od,kV,doc,pm,an,cdv,ct,osl,rfl,lk,hcd⟩:=Fu.ex
 obtain rfl:cdv=.ref cL:=hcL
 refine zrl lk hcd S (fun vs H Q E ⟨a,ns,h,_⟩=>by rw[h];rfl) fun A outer s H vs Q E hr hsp=>?_
 obtain ⟨a,ns,rfl,hS,hP,⟨ρ',hok⟩,hQ⟩:=hsp
 let X:=zjK (CXe P w) P w K mg base N qual (zak st) f (.ref cL) A outer s H E
 let G:Hp:=fun b=>if b=PT then none else H b
 let w0:Wn:=fun b=>if b=PT then some (m+1) else none
 let σ1:L2.St:=(L2.start N [.ref a]).set (m+1) (some (.ref PT))
 let C:Cn:=⟨G,H,w0,[m+1],σ1,fun _=>False,xv,false⟩
 have lS:(L2.start N [V.ref a]).length=m+2:=by unfold L2.start;simp[hm]
 have hb:=hbody X C ⟨.ref cL,A,outer,s,H,E,rfl⟩ rfl (by show σ1[m+1]? = _;rw[List.getElem?_set_self (by rw[lS];omega)]) rfl rfl hr
  (zaT N qual (zak st) f (.ref cL) A outer s H E (EXc C) S.kind fun u b H' ⟨_,n,_,z,_⟩=>z.elim) PassesOwn.leaving ⟨⟨cL,rfl,W.codeHd_of_K hKb hch⟩,hbm⟩
 refine ⟨fun D σ H=>tS K C fb D (σ.set (m+1) (some (.ref PT))) H,fun pins s' σ H' D I h=>hb pins s' _ H' D (znz I hj hv) h,G,w0,some (.val (.scr ns))::(List.replicate m none++[some (.tab q)]),?_,?_⟩
 ·have gP:G PT=none:=if_pos rfl
  have gO:∀{b:Addr},b≠PT->G b=H b:=fun h=>if_neg h
  have wP:w0 PT=some (m+1):=if_pos rfl
  have wO:∀ b,w0 b≠none->b=PT:=fun b e=>by
   by_cases hb:b=PT
   ·exact hb
   ·exact absurd (if_neg hb) e
  refine ⟨fun b o e=>?_,fun b e=>by rw[wO b e];exact gP,fun b e=>by rw[wO b e,hP];simp,by simp[lS],fun i b e=>?_,.refl _ _ _,fun i _=>rfl⟩
  ·by_cases hb:b=PT
   ·rw[hb,gP] at e;cases e
   ·rw[gO hb] at e;exact e
  ·cases i with
   |zero =>
    simp at e;subst e
    refine ⟨.ref a,?_,?_⟩
    ·rw[List.getElem?_set_ne (by omega)];unfold L2.start;simp
    ·show Rep K G (.scr ns) (.ref a)
     unfold Rep
     refine ⟨a,rfl,?_⟩
     rcases hS with (h|⟨o,h⟩)|h
     ·exact .inl (.inl ((gO fun z=>by rw[z,hP] at h;cases h).trans h))
     ·exact .inl (.inr ⟨o,(gO fun z=>by rw[z,hP] at h;cases h).trans h⟩)
     ·exact .inr h
   |succ i =>
    rw[List.getElem?_cons_succ] at e
    by_cases hi:i<m
    ·rw[List.getElem?_append_left (by simpa using hi),List.getElem?_replicate] at e
     split at e <;> cases e
    ·rw[List.getElem?_append_right (by simpa using hi)] at e
     simp only[List.length_replicate] at e
     have him:i=m:=by
      by_cases h:i-m=0
      ·omega
      ·obtain ⟨y,hy⟩:=Nat.exists_eq_succ_of_ne_zero h
       rw[hy] at e;simp at e
     subst him
     simp at e
     subst e
     refine ⟨.ref PT,by rw[List.getElem?_set_self (by rw[lS];omega)],PT,#[],rfl,wP,hP,trivial,fun pos cv z=>?_⟩
     simp[codeAmong] at z
 ·rw[hok]
  intro v σ' G' H' w' _ _ rt
  have:v=.bl true:=zdp (K:=K) (G:=G') rt
  subst this
  exact hQ H'
theorem zrN{P:Program}{w:World}{X:Cx}{C:Cn}(h:∀ n,¬ C.ex n):zc9 (CXe P w) X (EXc C):=fun _ _ _ _ _ _ _ hx=>by
 rcases hx with ⟨_,_,_,_,_,_,_,_,_,_,_,_,_,_,_,n,_,z,_⟩|⟨_,_,_,_,_,_,_,_,n,_,z,_⟩ <;> exact (h n z).elim
section
variable{X:Cx}{C:Cn}{a b:Expr}{fa fb:De}{pos:Pos}
def zeR:Dt->Dt->R Dt
 |.tup x,.tup y=>if x.length+y.length<=16777216 then .ok (.tup (x++y)) else .no
 |_,_=>.no
def zsC(K:W.Frag):R2:=fun x y H Q=>∃ a b xs ys,x=.ref a/\y=.ref b/\SqT K H a xs/\SqT K H b ys/\xs.length+ys.length<=sizeLine /\
 (xs=[]->Q (.ref b) H)/\(xs≠[]->ys=[]->Q (.ref a) H)/\(xs≠[]->ys≠[]->∀ p,H p=none->Q (.ref p) (upd H p (.tup (xs++ys))))
theorem zpg{prog:Program}{w:World}{A:Around}{E:Value->Shared->Prop}{s:Shared}{t b:Addr}{ws:List Value}{Q:Value->Shared->Prop}(ht:IsTup s.heap t ([]:List Value).toArray)(hb:IsTup s.heap b ws.toArray)(h:Q (.ref b) s) :
  wpAny (model prog w) A (binaryOp .Add (.ref t) (.ref b)) Q E s:=by
 obtain ⟨⟨c1,d1,dt1,sl1⟩,e1,q1,n1,r1⟩:=id ht
 obtain ⟨⟨c2,d2,dt2,sl2⟩,e2,q2,n2,r2⟩:=id hb
 simp only at q1 r1 q2 r2
 subst q1 r1 q2 r2
 exact concat_meets ⟨_,e1,rfl⟩ ⟨_,e2,rfl⟩ noFill_tuple_add seq_tuple_add F.slot_tuple_add F.entry_tuple_add (F.args_tuple_add_2 _ _) (tuple_addW0 t b ([]:List Value).toArray ws.toArray n1 n2 d1 d2 sl1 sl2 rfl) ⟨e1,e2,h⟩
theorem zr6:OpR X (binaryOp .Add) (zsC X.K):=by
 intro pins s σ H x y v u Q I rx ry h
 obtain ⟨a,b,xs,ys,rfl,rfl,ha,hb,hz,q0,q1,q2⟩:=h
 by_cases hx:xs=[]
 ·subst hx
  cases rx
  cases ry
  obtain ⟨its,r1,p1,_⟩:=I.tuple ha
  obtain ⟨its2,r2,p2,_⟩:=I.tuple hb
  obtain rfl:its=[]:=by cases r1;rfl
  exact zpg p1 p2 ⟨.ref b,H,I,rfl,q0 rfl⟩
 ·exact zru pins s σ H _ _ v u Q I rx ry ⟨a,b,xs,ys,rfl,rfl,ha,hb,hx,hz,q1 hx,q2 hx⟩
theorem zoq:Op2 X.K (zsC X.K) zeR:=fun G H x y dx dy z Q sm hx hy e k=>by
 unfold zeR at e
 split at e
 ·rename_i l l'
  split at e
  ·rename_i hl
   cases e
   obtain ⟨a,vs,rfl,h1,h2⟩:=zbi hx
   obtain ⟨b,us,rfl,h3,h4⟩:=zbi hy
   have nil_of:∀{m:List Dt}{ws:List V},zay X.K G m ws->ws=[]->m=[]:=fun {m ws} r z=>by
    have:=r.length;rw[z] at this;exact List.length_eq_zero_iff.mp this
   refine ⟨a,b,vs,us,rfl,rfl,za1 sm h1,za1 sm h3,by rw[<- h2.length,<- h4.length,zdS];exact hl,fun z=>?_,fun _ z=>?_,fun _ _ p hp=>?_⟩
   ·rw[nil_of h2 z] at k;exact k _ G H (.refl sm) hy
   ·rw[nil_of h4 z,List.append_nil] at k;exact k _ G H (.refl sm) hx
   ·have gr:zdz G H (upd G p (.tup (vs++us))) (upd H p (.tup (vs++us))):=.new sm hp
    exact k _ _ _ gr (by unfold Rep;exact ⟨p,_,rfl,zgO.of zah,(h2.same gr.g).append (h4.same gr.g)⟩)
  ·cases e
 ·cases e
theorem znf:zjF zeR:=fun x y n h=>by
 unfold zeR at h
 split at h
 ·split at h <;> cases h
 ·cases h
theorem znp(ha:JE X C a fa)(hb:JE X C b fb):JE X C (.BinOp a .Add b pos) (dOp zeR fa fb):=zjQ zr6 zoq znf ha hb
theorem zra{p:Pos}:JE X C (.Dict [] [] p) (dC (.dct [])):=fun pins s σ H Q I ⟨G,w,ρ,r,q⟩=>by
 have big:sysModules<s.heap.objs.size:=Nat.lt_trans (by decide) (I.mod.glob.keeps I.bk).lt
 have hf:H s.heap.objs.size=none:=I.hok.fresh (Nat.le_refl _)
 have ok:zcd X.prog X.w (upd H s.heap.objs.size (.dK [])) (s.heap.push { cls:=.type "dict",data:=.dict #[] }) s.heap.objs.size (.dK []):=⟨Nat.zero_le _,beq_eq_false_iff_ne.mpr (Ne.symm (Nat.ne_of_lt big)),[],.nil,Heap.DictOf.new s.heap⟩
 refine wpAny_Dict_empty ⟨.ref s.heap.objs.size,_,I.laid (t':=s.toks) (fun _ _ z=>Heap.get?_push_of_some _ z) (Nat.le_refl _) ok,rfl,?_⟩
 have gr:zdz G H (upd G s.heap.objs.size (.dK [])) (upd H s.heap.objs.size (.dK [])):=.new r.gh hf
 exact q _ _ _ w gr.step (r.grow gr) (by unfold Rep;exact ⟨_,rfl,zah⟩)
end
def dAC(ds:List Dt):DA:=fun ρ=>.ok (ds,ρ)
mutual
def ziA:Nat->Expr->Option Dt
 |0,_=>none
 |k+1,e=>match e with
  |.Constant (.int i) _ _=>some (.int i)
  |.Constant (.bool b) _ _=>some (.bl b)
  |.Constant .none _ _=>some .non
  |.Constant (.str x) _ _=>some (.str x)
  |.UnaryOp .USub (.Constant (.int i) _ _) _=>some (.int (-i))
  |.Tuple es _ _=>(zdY k es).bind fun ds=>if zcK ds=true then some (.tup ds) else none
  |.List es _=>(zdY k es).bind fun ds=>if zcK ds=true then some (.lst ds) else none
  |.Dict [] [] _=>some (.dct [])
  |_=>none
def zdY:Nat->List Expr->Option (List Dt)
 |_,[]=>some []
 |0,_::_=>none
 |k+1,e::es=>(ziA k e).bind fun d=>(zdY k es).bind fun ds=>some (d::ds)
end
section
variable{X:Cx}{C:Cn}
theorem JE.eq{e:Expr}{f g:De}(h:JE X C e f)(q:f=g):JE X C e g:=q ▸ h
theorem JA.eq{e:List Expr}{f g:DA}(h:JA X C e f)(q:f=g):JA X C e g:=q ▸ h
mutual
theorem zm2:∀(k:Nat){e:Expr}{d:Dt},ziA k e=some d->JE X C e (dC d)/\∀ es,starEach (e::es) X.env=(false,eval e X.env)::starEach es X.env
 |0,e,d,h=>by simp[ziA] at h
 |k+1,e,d,h=>by
  unfold ziA at h
  split at h
  ·cases h;exact ⟨zaq,fun _=>rfl⟩
  ·cases h;exact ⟨zfs,fun _=>rfl⟩
  ·cases h;exact ⟨zp1,fun _=>rfl⟩
  ·cases h;exact ⟨zfj,fun _=>rfl⟩
  ·cases h;exact ⟨(ztm zaq).eq rfl,fun _=>rfl⟩
  ·rename_i es x1 pos
   obtain ⟨ds,hds,h⟩:=Option.bind_eq_some_iff.mp h
   split at h
   ·rename_i hf
    cases h
    refine ⟨(zet (zjT k hds)).eq ?_,fun _=>rfl⟩
    funext ρ
    show (if zcK ds=true then _ else _)=_
    rw[if_pos hf];rfl
   ·cases h
  ·rename_i es pos
   obtain ⟨ds,hds,h⟩:=Option.bind_eq_some_iff.mp h
   split at h
   ·rename_i hf
    cases h
    refine ⟨(zaA (zb8 (zjT k hds))).eq ?_,fun _=>rfl⟩
    funext ρ
    show (R.bind (if zcK ds=true then _ else _) _)=_
    rw[if_pos hf];rfl
   ·cases h
  ·cases h;exact ⟨zra,fun _=>rfl⟩
  ·cases h
theorem zjT:∀(k:Nat){es:List Expr}{ds:List Dt},zdY k es=some ds->JA X C es (dAC ds)
 |k,[],ds,h=>by
  unfold zdY at h
  cases h
  exact za5
 |0,_::_,ds,h=>by simp[zdY] at h
 |k+1,e::es,ds,h=>by
  unfold zdY at h
  obtain ⟨d,h1,h⟩:=Option.bind_eq_some_iff.mp h
  obtain ⟨ds',h2,h⟩:=Option.bind_eq_some_iff.mp h
  cases h
  obtain ⟨j1,j2⟩:=zm2 k h1
  exact (zap j1 (zjT k h2) (j2 es)).eq rfl
end
theorem jd(k:Nat){e:Expr}{d:Dt}(h:ziA k e=some d):JE X C e (dC d):=(zm2 k h).1
end
section
variable{X:Cx}{C:Cn}{a b:Expr}{fa fb:De}{pos:Pos}
end
end PV
end
section
namespace PV
open PySem PySem.Spec L2
open AutoSeq1 (wpAny_loadPart')
section
variable{X:Cx}{C:Cn}{a b o e:Expr}{es:List Expr}{fa fb:De}{pos apos cpos:Pos}{name:Str}{id:String}{to:TE}{t:TA}{r:V->List V->Hp->VK->Prop}
end
section
variable{X:Cx}{C:Cn}{e1 e2:Expr}{fk fv:De}{pos ps apos:Pos}{x:Str}
theorem zjA{y1 y2:V}{us:List Value}(h:zaM [y1,y2] us):∃ u1 u2,us=[u1,u2]/\zbD y1 u1/\zbD y2 u2:=by
 cases h with
 |cons h1 t=>cases t with
  |cons h2 t2=>cases t2;exact ⟨_,_,rfl,h1,h2⟩
end
structure Ep(h:Heap)(e it l:Addr)(i:Nat):Prop where
 e:∃ old,IsEnum h e it i old
 a:h.IsListIter it l i
theorem Ep.keep{h h':Heap}{e it l:Addr}{i:Nat}(p:Ep h e it l i)(k:∀ b∈[e,it],∀ o,h.get? b=some o->h'.get? b=some o):Ep h' e it l i :=
 ⟨let ⟨old,q⟩:=p.e;⟨old,k e (by simp) _ q⟩,p.a.at fun o q=>k it (by simp) o q⟩
theorem zlb{X:Cx}{pins:List (Addr×Obj)}{σ:L2.St}{H:Hp}{s:Shared}{a b:Addr}{xs:List V}(I:L2.Inv X pins σ H s)(hf:zgx X pins H b)(hs:SqL X.K H a xs):b≠a:=by
 rintro rfl
 rcases hs with (h|⟨o,h⟩)|⟨o,its,n,h,_⟩
 ·rw[hf.1] at h;cases h
 ·rw[hf.1] at h;cases h
 ·have hb:=I.mod.kin b o h
  rcases hf.2.2.2.1 with z|z
  ·exact I.ok.noex b o hb z
  ·exact absurd (Nat.lt_of_lt_of_le (Heap.lt_size hb) (Nat.le_trans I.ok.bsz z)) (Nat.lt_irrefl _)
section
variable{X:Cx}{C:Cn}{elts:List Expr}{x1:Nat}{pt:Pos}{a:Expr}{fa:De}{p pos:Pos}
end
end PV
end
section
namespace PV
open PySem PySem.Spec L2 PyProof.Rows
section
variable{X:Cx}{C:Cn}{a b:Expr}{fa fb:De}{pos:Pos}
end
section
variable{prog:Program}{w:World}{A:Around}{E:Value->Shared->Prop}{s:Shared}
theorem zeq{t sl:Addr}{items:Array Value}{vl vu:Value}{lo hi:Option Int}{Q:Value->Shared->Prop}(ht:IsTup s.heap t items)(hs:s.heap.IsSliceOf sl vl vu .none)(pl:IsPart vl lo)(pu:IsPart vu hi)
  (hw:HT.sIx items.size 0 lo=0/\HT.sIx items.size items.size hi=items.size) (h:Q (.ref t) s):wpAny (model prog w) A (getItem (.ref t) (.ref sl)) Q E s:=by
 obtain ⟨os,hos,hcs,hds⟩:=id hs
 have hTs:s.TypeIs (.ref sl) "slice":=⟨os,hos,hcs⟩
 unfold getItem
 try with_reducible refine wpAny_holding ?_
 first|refine wpAny_bind (wpAny_pure ?_)|skip
 refine wpAny_bind (wpAny_sequenceKey ht.typeIs (by decide) ?_)
 refine wpAny_bind (wpAny_callSpecial?_slot (name:=Str.ofString "__getitem__") ht.typeIs PyProof.Rows.slot_tuple_getitem
  (wpAny_call_entry PyProof.Rows.slot_tuple_getitem ht.typeIs entry_tuple_getitem ?_ (args_tuple_getitem _ _)))
 show wpAny _ _ (Builtin.Tuple.tupleItemsOf (.ref t) >>= _) _ _ s
 refine wpAny_bind (tupleItemsOf_ ht ?_)
 refine wpAny_bind (wpAny_typeOf hTs ?_)
 rw[if_pos (by decide)]
 refine wpAny_bind (HT.sliceApplied_gen hs pl pu ?_)
 have hyes:(((HT.sIx items.size 0 lo:Nat):Int) == 0 && (1:Int) == 1 && (HT.sIx items.size items.size hi-HT.sIx items.size 0 lo) == items.size)=true:=by
  rw[hw.1,hw.2];simp
 show wpAny _ _ (if (((HT.sIx items.size 0 lo:Nat):Int) == 0 && (1:Int) == 1 && (HT.sIx items.size items.size hi-HT.sIx items.size 0 lo) == items.size)=true then _ else _) _ _ s
 rw[if_pos hyes]
 refine wpAny_bind ?_
 unfold Builtin.Tuple.tupleIsExact
 refine wpAny_bind (wpAny_typeOf ht.typeIs (wpAny_pure ?_))
 rw[if_pos (by decide)]
 refine wpAny_bind (wpAny_rule ?_)
 exact wpAny_pure ⟨_,rfl,wpAny_pure h⟩
end
section
variable{X:Cx}{C:Cn}{a b e:Expr}{fa fb:De}{pos:Pos}
def rSlW(K:W.Frag):V->Option Int->Option Int->Hp->VK->Prop:=fun x lo hi H Q=>∃ a xs,x=.ref a/\SqT K H a xs /\
 (HT.sIx xs.length 0 lo=0/\HT.sIx xs.length xs.length hi=xs.length)/\Q (.ref a) H
theorem zpt:SlR X (rSlW X.K):=by
 intro pins s σ H x v vl vu lo hi sl Q I rx hs pl pu h
 obtain ⟨a,xs,rfl,hx,hw,q⟩:=h
 cases rx
 obtain ⟨its,r,ht,hz⟩:=I.tuple hx
 have hlen:its.toArray.size=xs.length:=by rw[List.size_toArray];exact r.length.symm
 refine ⟨"tuple",_,PyProof.Rows.slot_tuple_getitem.lookup,ht.typeIs,?_⟩
 exact zeq ht hs pl pu (by rw[hlen];exact hw) ⟨.ref a,H,I,rfl,q⟩
def zfa(fa:De)(fl fh:DO):De:=fun ρ=>(fa ρ).bind fun a=>(fl a.2).bind fun l=>(fh l.2).bind fun h=>match a.1 with
 |.tup ds=>.ok (.tup (zgw ds l.1 h.1),h.2)
 |_=>.no
theorem zjL{lo hi:Option Expr}{fl fh:DO}{p2:Pos}(ha:JE X C a fa)(hl:JO X C lo fl)(hh:JO X C hi fh):JE X C (.Subscript a (.Slice lo hi none p2) pos) (zfa fa fl fh) :=
 PE.weak (zkI (ztj.or zpt) ha hl hh) fun σ H Q ⟨G,w,ρ,r,p⟩=>by
  refine zeA (κ:=fun G H w=>kE X.K C σ Q G H w) zcz r p fun d ρ1 v G1 H1 w1 r1 s1 q1 p1=>?_
  refine ztt (κ:=fun G H w=>kE X.K C σ Q G H w) zcz r1 p1 fun l ρ2 G2 H2 w2 r2 s2 p2=>?_
  refine ztt (κ:=fun G H w=>kE X.K C σ Q G H w) zcz r2 p2 fun h ρ3 G3 H3 w3 r3 s3 p3=>?_
  cases d with
  |tup ds =>
   have q3:=q1.same (s2.g.trans s3.g)
   obtain ⟨ad,vs,rfl,h1,h2⟩:=zdJ q3
   dsimp only at p3
   by_cases hw:HT.sIx ds.length 0 l=0/\HT.sIx ds.length ds.length h=ds.length
   ·refine .inr ⟨ad,vs,rfl,za1 r3.gh h1.sq,by rw[<- h2.length];exact hw,?_⟩
    have e:zgw ds l h=ds:=by
     unfold zgw
     rw[hw.1,hw.2,List.drop_zero,Nat.sub_zero,List.take_length]
    rw[e] at p3
    exact p3 _ G3 H3 w3 (.refl _ _ _) r3 q3
   ·have fin:∀ p,H3 p=none->Q (.ref p) (upd H3 p (.tup (zlM vs l h))):=fun p hp=>by
     have gr:zdz G3 H3 (upd G3 p (.tup (zlM vs l h))) (upd H3 p (.tup (zlM vs l h))):=.new r3.gh hp
     exact p3 _ _ _ w3 gr.step (r3.grow gr) (by unfold Rep;exact ⟨p,_,rfl,zgO.of zah,(zkq h2 l h).same gr.g⟩)
    exact .inl ⟨ad,vs,rfl,za1 r3.gh h1.sq,by rw[<- h2.length];exact hw,fin⟩
  |_=>exact p3.elim
end
section
variable{prog:Program}{w:World}{A:Around}{E:Value->Shared->Prop}{s:Shared}
theorem zjU{l:Addr}{vs:List Value}{Q:List Value->Shared->Prop}(hl:s.heap.IsTuple l vs.toArray)
  (h:Q vs { s with heap:=(s.heap.push (seqObj "list" #[] 0)).update s.heap.objs.size (Obj.mapSeq (·++vs.toArray)) }) (hsz:vs.length<=sizeLine) :
  wpAny (model prog w) A (collect (.ref l)) Q E s:=by
 obtain ⟨o,ho,hc,n,hd⟩:=id hl
 unfold collect
 refine wpAny_bind (wpAny_runValue (codeAny_builtin entry_proto_collect' ?_))
 show wpAny _ _ (do again (.builtin "list.__iadd__" ⟨[<- newList [],.ref l],[]⟩)) _ _ s
 refine wpAny_bind (wpAny_newList (wpAny_pure ⟨Code.quiet_builtin _ (by decide +kernel),codeAny_builtin entry_list_iadd' ?_⟩))
 show wpAny _ _ (Builtin.List.listExtendWith (.ref s.heap.objs.size) (.ref l) (.ref s.heap.objs.size)) _ _ { s with heap:=s.heap.push (seqObj "list" #[] 0) }
 unfold Builtin.List.listExtendWith
 have ho':(s.heap.push (seqObj "list" #[] 0)).get? l=some o:=Heap.get?_push_of_some _ ho
 refine wpAny_bind (wpAny_typeOf (T:="tuple") ⟨o,ho',hc⟩ ?_)
 have ht:(Value.type "tuple" == Value.type "tuple")=true:=by rfl
 rw[if_pos (by rw[ht];simp)]
 refine wpAny_bind (listItems_at ho' hd ?_)
 refine wpAny_bind (listItems_at (xs:=#[]) (n:=0) (Heap.get?_push_size _ rfl) rfl ?_)
 rw[if_neg (by simp)]
 refine wpAny_bind (listUpdate_at (xs:=#[]) (n:=0) (Heap.get?_push_size _ rfl) rfl ?_ (Nat.zero_le _) (by show (#[]++vs.toArray).size<=sizeLine+1;simp only[Array.size_append,List.size_toArray,List.length_nil];omega))
 refine wpAny_pure ?_
 show wpAny (model prog w) A (do
   let o <- load s.heap.objs.size
   match o.data with
   |.seq xs _=>pure xs.toList
   |_=>unsupported "internal:collect") Q E { s with heap:=(s.heap.push (seqObj "list" #[] 0)).update s.heap.objs.size (Obj.mapSeq (·++vs.toArray)) }
 refine wpAny_bind (wpAny_load (get?_update_seq (Heap.get?_push_size _ rfl) _) ?_)
 show wpAny _ _ (pure ((#[]:Array Value)++vs.toArray).toList) Q E _
 rw[show ((#[]:Array Value)++vs.toArray).toList=vs by simp]
 exact wpAny_pure h
theorem ziu{l:Addr}{vs:List Value}{ns:List Int}{Q:Value->Shared->Prop}(hl:s.heap.IsTuple l vs.toArray)(hI:IntsAre vs ns)(h64:vs.length<64)
  (h:∀(out:Array Value)(ns':List Int),IntsAre out.toList ns'->ns'.Perm ns->ns'.Pairwise (· <= ·)->Q (.ref (s.heap.objs.size+1)) { s with heap:=sortedAll s.heap vs out }) :
  wpAny (model prog w) A (call (.builtin "sorted") [.ref l]) Q E s:=by
 refine Calls.call_function_entry kind_sorted plain_sorted entry_sorted (args_sorted1 _) ?_
 unfold Builtin.«sorted»
 refine wpAny_bind (m:=checkCount "sorted" 1 1 _) (wpAny_pure ?_)
 refine wpAny_bind (zjU hl ?_ (by rw[zdS];omega))
 refine wpAny_bind (wpAny_newList ?_)
 have hsz:((s.heap.push (seqObj "list" #[] 0)).update s.heap.objs.size (Obj.mapSeq (·++vs.toArray))).objs.size=s.heap.objs.size+1:=by
  rw[Heap.size_update,size_push']
 have hoL:(((s.heap.push (seqObj "list" #[] 0)).update s.heap.objs.size (Obj.mapSeq (·++vs.toArray))).push (seqObj "list" vs.toArray 0)).get? (s.heap.objs.size+1)=some (seqObj "list" vs.toArray 0):=by
  rw[<- hsz];exact Heap.get?_push_size _ rfl
 show wpAny _ _ _ _ _ { s with heap:=((s.heap.push (seqObj "list" #[] 0)).update s.heap.objs.size (Obj.mapSeq (·++vs.toArray))).push (seqObj "list" vs.toArray 0) }
 rw[hsz]
 refine wpAny_bind (wpAny_holding (wpAny_call_entry slot_list_sort ⟨_,hoL,rfl⟩ entry_list_sort (list_sort_tree hoL hI h64 fun out ns' a1 a2 a3=>⟨_,rfl,?_⟩) (args_list_sort _)))
 exact wpAny_pure ⟨_,rfl,h out ns' a1 a2 a3⟩
end
section
variable{X:Cx}{C:Cn}{a b e:Expr}{fa fb:De}{pos:Pos}
theorem zlC:zcg X (.builtin "sorted") (fun xs H Q=>∃(p:Addr)(ns:List Int),xs=[.ref p]/\SqT X.K H p (ns.map V.int)/\ns.length<64/\∀ l,H l=none->Q (.ref l) (upd H l (.lst ((zaW ns).map V.int)))):=by
 intro pins s σ H xs us Q I r h
 obtain ⟨p,ns,rfl,hq,hl,q⟩:=h
 obtain ⟨u,rfl,ru⟩:=zeX r
 cases ru
 obtain ⟨its,rv,pl,hz⟩:=I.tuple hq
 have hlen:its.length=ns.length:=by rw[<- rv.length];simp
 refine ziu (show s.heap.IsTuple p its.toArray from pl) (PV.intsAre_of rv) (by omega) fun out ns' a1 a2 a3=>?_
 have e:ns'=zaW ns:=W.lks_uniq (a2.trans (zaV ns).symm) a3 (zcJ ns)
 subst e
 obtain ⟨c,hc⟩:=PyProof.Rows.sortedAll_at s.heap its out
 refine ⟨.ref (s.heap.objs.size+1),_,I.laid (t':=s.toks) (fun b o=>PyProof.Rows.sortedAll_old) (Nat.le_succ _) (o:=.lst ((zaW ns).map V.int)) ⟨?_,out.toList,c,PV.vals_ints a1,?_⟩,rfl,q _ (I.hok.fresh (Nat.le_succ _))⟩
 ·rw[List.length_map,(zaV ns).length_eq,zdS];omega
 ·simpa using hc
def zcI:List Dt->R (List Dt)
 |[.tup l]=>match ziK l with
  |some ns=>if ns.length<64 then .ok ((zaW ns).map .int) else .no
  |none=>.no
 |_=>.no
theorem zpn{K:W.Frag}:FnN K (fun xs H Q=>∃(p:Addr)(ns:List Int),xs=[.ref p]/\SqT K H p (ns.map V.int)/\ns.length<64/\∀ l,H l=none->Q (.ref l) (upd H l (.lst ((zaW ns).map V.int)))) zcI:=fun G H vs ds z Q gh hr e k=>by
 unfold zcI at e
 split at e
 ·split at e
  ·rename_i ns en
   split at e
   ·rename_i hl
    obtain ⟨v,rfl,h1⟩:=zex hr
    obtain ⟨a,us,rfl,h2,h3⟩:=zdJ h1
    cases e
    rw[zhI h3 en] at h2
    exact ⟨a,ns,rfl,za1 gh h2.sq,hl,fun l hl=>k l _ hl (ze2 _)⟩
   ·cases e
  ·cases e
 ·cases e
theorem zo1:zj2 zcI:=fun x n h=>by
 unfold zcI at h
 split at h
 ·split at h
  ·split at h <;> cases h
  ·cases h
 ·cases h
theorem zpp{x:Expr}{p:Pos}(hg:Gl X "sorted")(hm:X.mg "sorted"=none)(ha:JE X C x fa)(hs:starEach [x] X.env=(false,eval x X.env)::starEach [] X.env:=by rfl)(hpl:(backTo pos (starEach [] X.env)).any (·.1)=false:=by rfl) :
  JN X C (.Call (.Name "sorted" p) [x] [] pos) (zdD zcI (dA fa dA0)) :=
 zhn zpn zo1 zlC hg hm PyProof.Rows.boot_sorted (zap ha za5 hs) (by decide) (by decide) hs hpl
end
def spH(PT:Addr)(sp:Sp):Sp:=fun vs H Q E=>sp (vs++[.ref PT]) H Q E
section
variable{X:Cx}{C:Cn}{CX:CXT}{k k':Nat}{ks:List Bool}{Fd:FD}{x:Str}{p pos:Pos}{e:Expr}{es:List Expr}{far:DAr}{j:Nat}{PT:Addr}
structure DfnT(P:Program)(w:World)(K:W.Frag)(mg:Str->Option Value)(base:Heap)(CX:CXT)(xv:Nat->Value)(k:Nat)(x:Str)(ks:List Bool)(PT:Addr)(F:FD):Prop where
 ex:∃(f:Addr)(fd:FuncData)(ps:List Str),zeJ P w K mg base CX k f fd ps (spH PT (zqy false K xv ks F))/\mg x=some (.ref f)/\W.keepIn K (.ref f)=true/\zeO K fd ps []/\∀ bs,F bs≠.no->zbE bs=ks
end
section
variable{X:Cx}{C:Cn}{a b e:Expr}{fa fb:De}{pos apos:Pos}{zbm:List Expr}
end
end PV
end
section
namespace PV
open PySem PySem.Spec L2
structure ZpL(h:Heap)(z TI TO i1 i2 l1 l2:Addr)(f0:Value)(k:Nat):Prop where
 z:IsZip h z TI TO f0
 ti:IsPair h TI (.ref i1) (.ref i2)
 to:∃ a b,IsPair h TO a b
 a1:h.IsListIter i1 l1 k
 a2:h.IsListIter i2 l2 k
theorem ZpL.keep{h h':Heap}{z TI TO i1 i2 l1 l2:Addr}{f0:Value}{k:Nat}(p:ZpL h z TI TO i1 i2 l1 l2 f0 k)(e:∀ b∈[z,TI,TO,i1,i2],∀ o,h.get? b=some o->h'.get? b=some o):ZpL h' z TI TO i1 i2 l1 l2 f0 k :=
 ⟨e z (by simp) _ p.z,e TI (by simp) _ p.ti,let ⟨a,b,q⟩:=p.to;⟨a,b,e TO (by simp) _ q⟩,p.a1.at fun o q=>e i1 (by simp) o q,p.a2.at fun o q=>e i2 (by simp) o q⟩
theorem zc5{z TI TO i1 i2 l1 l2:Addr}(D:ZpD z TI TO i1 i2)(n1:∀ b∈[z,TI,TO,i1,i2],b≠l1)(n2:∀ b∈[z,TI,TO,i1,i2],b≠l2):ZipApart z TI TO i1 i2 l1 l2 :=
 ⟨D.d1,D.d2,D.d3,D.d4,D.d5,D.d6,D.d7,D.d8,D.d9,D.d0,(n1 z (by simp)).symm,(n1 TO (by simp)).symm,(n1 i1 (by simp)).symm,(n1 i2 (by simp)).symm,(n2 z (by simp)).symm,(n2 TO (by simp)).symm,(n2 i1 (by simp)).symm,(n2 i2 (by simp)).symm⟩
def Itl(K:W.Frag)(a b:Addr):It :=
 ⟨fun i H=>∃ xs ys x y,SqL K H a xs/\SqL K H b ys/\xs[i]? = some x/\ys[i]? = some y,
   fun i H v H'=>∃ p x y,v=.ref p/\H p=none/\H'=upd H p (.tup [x,y])/\(∀ xs,SqL K H a xs->xs[i]? = some x)/\∀ ys,SqL K H b ys->ys[i]? = some y,
   fun i H=>∃ xs ys,SqL K H a xs/\SqL K H b ys/\xs.length<=i⟩
theorem zm7{P:Program}{w:World}{K:W.Frag}{elts:List Expr}{x1}{ps:Pos}{a b z TI TO i1 i2:Addr}(D:ZpD z TI TO i1 i2):zlV P w K (.Tuple elts x1 ps) (Itl K a b) [z,TI,TO,i1,i2] z (fun i h=>ZpL h z TI TO i1 i2 a b .none i) where
 mem:=by simp
 obj:=fun i h st c hc=>by
  obtain ⟨s1,s2,⟨oa,ob,s3⟩,⟨o4,s4,_,d4⟩,⟨o5,s5,_,d5⟩⟩:=st
  simp only[List.mem_cons,List.not_mem_nil,or_false] at hc
  rcases hc with rfl|rfl|rfl|rfl|rfl
  ·exact ⟨_,s1,fun v q=>by cases q⟩
  ·exact ⟨_,s2,fun v q=>by cases q⟩
  ·exact ⟨_,s3,fun v q=>by cases q⟩
  ·exact ⟨_,s4,fun v q=>by rw[d4] at q;cases q⟩
  ·exact ⟨_,s5,fun v q=>by rw[d5] at q;cases q⟩
 keep:=fun i h h' st k=>st.keep k
 item:=by
  intro X hP hw hK hc i pins s σ H E I hf st hg
  subst hP hw hK
  obtain ⟨xs,ys,x,y,q1,q2,hx,hy⟩:=hg
  obtain ⟨its,rv,p,hz⟩:=I.list q1
  obtain ⟨jts,rw',p',hz'⟩:=I.list q2
  obtain ⟨u,hu,ru⟩:=rv.get hx
  obtain ⟨v,hv,rv'⟩:=rw'.get hy
  obtain ⟨oa0,ob0,hto⟩:=st.to
  have AP:=zc5 D (fun c hc=>zlb I (hf c hc) q1) (fun c hc=>zlb I (hf c hc) q2)
  refine wpAny_pyNext_zip_item (x:=u) (y:=v) AP st.z st.ti hto st.a1 st.a2 p.isList p'.isList (by simpa using hu) (by simpa using hv) fun h' b1 b2 b3 b4 ht b6 hk=>?_
  refine ⟨_,rfl,wpAny_letOwnedTupleGo_zip b1 fun h2 hz2 sb=>?_⟩
  have hzp:∀ c∈[z,TI,TO,i1,i2],c≠s.heap.objs.size:=fun c hc q=>by
   obtain ⟨s1,s2,⟨oa,ob,s3⟩,⟨o4,s4,_⟩,⟨o5,s5,_⟩⟩:=st
   simp only[List.mem_cons,List.not_mem_nil,or_false] at hc
   subst q
   rcases hc with rfl|rfl|rfl|rfl|rfl
   ·exact absurd (Heap.lt_size s1) (Nat.lt_irrefl _)
   ·exact absurd (Heap.lt_size s2) (Nat.lt_irrefl _)
   ·exact absurd (Heap.lt_size s3) (Nat.lt_irrefl _)
   ·exact absurd (Heap.lt_size s4) (Nat.lt_irrefl _)
   ·exact absurd (Heap.lt_size s5) (Nat.lt_irrefl _)
  have st2:ZpL h2 z TI TO i1 i2 a b .none (i+1) :=
   ⟨hz2,sb.extBut _ _ D.d1 (hk TI _ D.d1 D.d5 D.d6 D.d7 st.ti),⟨_,_,sb.extBut _ _ D.d2 b2⟩,b3.extBut sb.extBut D.d3,b4.extBut sb.extBut D.d4⟩
  have hk2:∀ c ob,c∉[z,TI,TO,i1,i2]->s.heap.get? c=some ob->h2.get? c=some ob:=fun c ob nc e=>by
   simp only[List.mem_cons,List.not_mem_nil,or_false,not_or] at nc
   exact sb.extBut _ _ nc.1 (hk c ob nc.1 nc.2.2.1 nc.2.2.2.1 nc.2.2.2.2 e)
  have hth:∀ c ob,s.heap.get? c=some ob->∃ ob',h2.get? c=some ob':=fun c ob e=>by
   by_cases nc:c∈[z,TI,TO,i1,i2]
   ·obtain ⟨s1,s2,⟨oa,ob,s3⟩,⟨o4,s4,_⟩,⟨o5,s5,_⟩⟩:=st2
    simp only[List.mem_cons,List.not_mem_nil,or_false] at nc
    rcases nc with rfl|rfl|rfl|rfl|rfl
    ·exact ⟨_,s1⟩
    ·exact ⟨_,s2⟩
    ·exact ⟨_,s3⟩
    ·exact ⟨_,s4⟩
    ·exact ⟨_,s5⟩
   ·exact ⟨ob,hk2 c ob nc e⟩
  have hnew:h2.get? s.heap.objs.size=some { cls:=.type "tuple",data:=.seq #[u,v] }:=sb.extBut _ _ (Ne.symm (hzp z (by simp))) ht
  have IN:L2.Inv X pins σ (upd H s.heap.objs.size (.tup [x,y])) { s with heap:=h2 }:=zen (s:=s) (t':=s.toks) (o:=.tup [x,y]) I hf hk2 (Nat.le_refl _) hth ⟨by show 2<=sizeLine;decide,[u,v],.cons ru (.cons rv' .nil),0,hnew⟩
  exact ⟨.ref s.heap.objs.size,_,IN,rfl,
   ⟨_,x,y,rfl,I.hok.fresh (Nat.le_refl _),rfl,fun zs q=>by rw[I.list_inj q q1];exact hx,fun zs q=>by rw[I.list_inj q q2];exact hy⟩,st2,fun c hc=>by rw[zae (hzp c hc)];exact (hf c hc).1⟩
 done:=by
  intro X hP hw hK hc i pins s σ H E I hf st hg
  subst hP hw hK
  obtain ⟨xs,ys,q1,q2,hx⟩:=hg
  obtain ⟨its,rv,p,hz⟩:=I.list q1
  obtain ⟨jts,rw',p',hz'⟩:=I.list q2
  have hl:=rv.length
  obtain ⟨oa0,ob0,hto⟩:=st.to
  have AP:=zc5 D (fun c hc=>zlb I (hf c hc) q1) (fun c hc=>zlb I (hf c hc) q2)
  refine wpAny_pyNext_zip_end (I.ok.hd hc) AP st.z st.ti hto st.a1 st.a2 p.isList p'.isList (.inl (by simp;omega)) fun h' hk=>⟨rfl,?_⟩
  refine zeh (t':=s.toks) I hf fun c ob nc e=>?_
  simp only[List.mem_cons,List.not_mem_nil,or_false,not_or] at nc
  exact hk c ob nc.1 nc.2.2.1 nc.2.2.2.1 nc.2.2.2.2 e
 self:=fun _ _ _ _ _ st h=>wpAny_pyIter_zip st.z h
theorem zsG{K:W.Frag}{G:Hp}{a b:Addr}{vs us:List V}{ds es:List Dt}(hs:G a=some (.lst vs))(ht:G b=some (.lst us))(q:zay K G ds vs)(q':zay K G es us)(hl:ds.length=es.length):zlw K (Itl K a b) G ((ds.zip es).map fun z=>.tup [z.1,z.2]):=fun i G1 H s1 s2=>by
 have h1:SqL K H a vs:=SqL.of (s2 _ _ (s1 _ _ hs))
 have h2:SqL K H b us:=SqL.of (s2 _ _ (s1 _ _ ht))
 refine ⟨fun d e=>?_,fun h=>⟨vs,us,h1,h2,?_⟩⟩
 ·rw[List.getElem?_map] at e
  have hi:i<ds.length:=by
   by_cases hi:i<ds.length
   ·exact hi
   ·rw[List.getElem?_eq_none (by rw[List.length_zip];omega)] at e;cases e
  have z1:ds[i]? = some ds[i]:=by simp[hi]
  have z2:es[i]? = some (es[i]'(by omega)):=by simp[show i<es.length by omega]
  obtain ⟨v,e1,e2⟩:=q.get z1
  obtain ⟨u,e3,e4⟩:=q'.get z2
  have ed:d=.tup [ds[i],es[i]'(by omega)]:=by
   rw[(List.getElem?_zip_eq_some (z:=(ds[i],es[i]'(by omega)))).mpr ⟨z1,z2⟩] at e
   exact (Option.some.inj e).symm
  refine ⟨⟨vs,us,v,u,h1,h2,e1,e3⟩,fun x H' y=>?_⟩
  obtain ⟨p,x',y',rfl,hp,rfl,k1,k2⟩:=y
  have kx:=k1 vs h1
  have ky:=k2 us h2
  rw[e1] at kx;rw[e3] at ky
  cases kx;cases ky
  have gr:zdz G1 H (upd G1 p (.tup [v,u])) (upd H p (.tup [v,u])):=.new s2 hp
  refine ⟨_,gr,?_⟩
  rw[ed]
  unfold Rep
  exact ⟨p,[v,u],rfl,zgO.of zah,zay.cons ((e2.same s1).same gr.g) (zay.cons ((e4.same s1).same gr.g) zay.nil)⟩
 ·rw[<- q.length]
  simpa [hl] using h
def zkf(fa fb:De):DA:=fun ρ=>(fa ρ).bind fun a=>(fb a.2).bind fun b=>match a.1,b.1 with
 |.tup l,.tup r=>if l.length=r.length then .ok ((l.zip r).map fun z=>.tup [z.1,z.2],b.2) else .no
 |.lst l,.lst r=>if l.length=r.length then .ok ((l.zip r).map fun z=>.tup [z.1,z.2],b.2) else .no
 |_,_=>.no
section
variable{X:Cx}{C:Cn}{elts:List Expr}{x1:Nat}{pt:Pos}{a b:Expr}{fa fb:De}{p pos:Pos}
theorem zqQ(hg:Gl X "zip")(hm:X.mg "zip"=none)(ha:JE X C a fa)(hb:JE X C b fb)(hs:starEach [a,b] X.env=(false,eval a X.env)::starEach [b] X.env:=by rfl)(hs2:starEach [b] X.env=(false,eval b X.env)::starEach [] X.env:=by rfl)(hpl:(backTo pos (starEach [b] X.env)).any (·.1)=false:=by rfl) :
  JI X C (.Tuple elts x1 pt) (.Call (.Name "zip" p) [a,b] [] pos) (zkf fa fb):=by
 intro pins s σ H R I ⟨G,w,ρ,r,pp⟩
 refine PyProof.Rows.Call_ (zeC I hg hm PyProof.Rows.boot_zip (PyProof.Rows.callWith_type1 (thn (zap ha (zap hb za5 hs2) hs pos pins s σ H (fun vs H1=>∃(l1 l2:Addr)(xs ys:List V),vs=[.ref l1,.ref l2]/\((SqT X.K H1 l1 xs/\SqT X.K H1 l2 ys/\R (Itz X.K l1 l2) H1)\/(SqL X.K H1 l1 xs/\SqL X.K H1 l2 ys/\R (Itl X.K l1 l2) H1))) I ?_) fun us s1 ⟨vs,H1,I1,r1,q1⟩=>?_) hs hpl))
 ·refine ⟨G,w,ρ,r,?_⟩
  unfold zkf at pp
  unfold dA dA0
  cases e:fa ρ with
  |ok x =>
   obtain ⟨d,ρ1⟩:=x
   rw[e] at pp
   simp only[PV.R.bind_ok] at pp ⊢
   cases e2:fb ρ1 with
   |ok y =>
    obtain ⟨d2,ρ2⟩:=y
    rw[e2] at pp
    simp only[PV.R.bind_ok] at pp ⊢
    intro vs G1 H1 w1 s1 r1 q
    obtain ⟨v,u,rfl,k1,k2⟩:=zqD q
    cases d with
    |tup l =>
     cases d2 with
     |tup l' =>
      dsimp only at pp
      by_cases hl:l.length=l'.length
      ·rw[if_pos hl] at pp
       obtain ⟨a1,xs,rfl,m1,m2⟩:=zbi k1
       obtain ⟨a2,ys,rfl,m3,m4⟩:=zbi k2
       exact ⟨a1,a2,xs,ys,rfl,.inl ⟨za1 r1.gh m1,za1 r1.gh m3,pp _ G1 H1 w1 s1 r1 (ztb m1 m3 m2 m4 hl)⟩⟩
      ·rw[if_neg hl] at pp;exact pp.elim
     |_=>exact False.elim pp
    |lst l =>
     cases d2 with
     |lst l' =>
      dsimp only at pp
      by_cases hl:l.length=l'.length
      ·rw[if_pos hl] at pp
       obtain ⟨a1,xs,rfl,m1,m2⟩:=zaG k1
       obtain ⟨a2,ys,rfl,m3,m4⟩:=zaG k2
       exact ⟨a1,a2,xs,ys,rfl,.inr ⟨SqL.of (r1.gh _ _ m1),SqL.of (r1.gh _ _ m3),pp _ G1 H1 w1 s1 r1 (zsG m1 m3 m2 m4 hl)⟩⟩
      ·rw[if_neg hl] at pp;exact pp.elim
     |_=>exact False.elim pp
    |_=>exact False.elim pp
   |er n=>rw[e2] at pp;exact pp
   |no=>rw[e2] at pp;exact pp
  |er n=>rw[e] at pp;exact pp
  |no=>rw[e] at pp;exact pp
 ·obtain ⟨l1,l2,xs,ys,rfl,q⟩:=q1
  obtain ⟨u1,u2,rfl,c1,c2⟩ : ∃ u1 u2,us=[u1,u2]/\zbD (.ref l1) u1/\zbD (.ref l2) u2:=by
   cases r1 with
   |cons h1 t=>cases t with
    |cons h2 t2=>cases t2;exact ⟨_,_,rfl,h1,h2⟩
  cases c1;cases c2
  have D:ZpD (s1.heap.objs.size+4) (s1.heap.objs.size+2) (s1.heap.objs.size+3) s1.heap.objs.size (s1.heap.objs.size+1):=zrW _
  have hfp:∀ c∈[s1.heap.objs.size+4,s1.heap.objs.size+2,s1.heap.objs.size+3,s1.heap.objs.size,s1.heap.objs.size+1],zgx X pins H1 c:=fun c hc=>by
   have hle:s1.heap.objs.size<=c:=by
    simp only[List.mem_cons,List.not_mem_nil,or_false] at hc
    rcases hc with rfl|rfl|rfl|rfl|rfl
    ·exact Nat.le_add_right ..
    ·exact Nat.le_add_right ..
    ·exact Nat.le_add_right ..
    ·exact Nat.le_refl _
    ·exact Nat.le_add_right ..
   exact I1.fpOk hle (I1.hok.fresh hle)
  rcases q with ⟨k1,k2,q⟩|⟨k1,k2,q⟩
  ·obtain ⟨its,rv,p1,_⟩:=I1.tuple k1
   obtain ⟨jts,rw',p2,_⟩:=I1.tuple k2
   refine zrp (show s1.heap.IsTuple l1 its.toArray from p1) (show s1.heap.IsTuple l2 jts.toArray from p2) fun h' zp hk=>?_
   refine wpAny_pyIter_zip zp.z ?_
   exact ⟨s1.heap.objs.size+4,[s1.heap.objs.size+4,s1.heap.objs.size+2,s1.heap.objs.size+3,s1.heap.objs.size,s1.heap.objs.size+1],_,_,H1,rfl,I1.kept (t':=s1.toks) hk,zpr D,zp,hfp,q⟩
  ·obtain ⟨its,rv,p1,_⟩:=I1.list k1
   obtain ⟨jts,rw',p2,_⟩:=I1.list k2
   refine call_zip_2 p1.isList p2.isList fun h' b1 b2 b3 b4 b5 b6 hk=>?_
   refine wpAny_pyIter_zip b1 ?_
   exact ⟨s1.heap.objs.size+4,[s1.heap.objs.size+4,s1.heap.objs.size+2,s1.heap.objs.size+3,s1.heap.objs.size,s1.heap.objs.size+1],_,_,H1,rfl,I1.kept (t':=s1.toks) hk,zm7 D,⟨b1,b2,⟨_,_,b3⟩,b4,b5⟩,hfp,q⟩
end
end PV
end
section
namespace PV
open PySem PySem.Spec L2 PyProof.Rows
section
variable{X:Cx}{C:Cn}{pos:Pos}
end
def zlE(i j:Nat)(F:FD):De:=fun ρ=>match ρ[i]?,ρ[j]? with
 |some (some (.own l)),some (some (.val d))=>match F [.val (.lst l),.val d] with
  |.ok (.bl b,_)=>.ok (.bl b,ρ)
  |_=>.no
 |_,_=>.no
section
variable{X:Cx}{C:Cn}{CX:CXT}{k k':Nat}{ks:List Bool}{Fd:FD}{x a b:Str}{p pos pa pb:Pos}
theorem zr5(i j:Nat)(D:Dfn false X.prog X.w X.K X.mg X.base CX C.xv k x ks Fd)(hr:zds k' X.A)(hk:k<=k')(hx:zc9 CX X (EXc C))(hN:X.N[i]? = some a:=by rfl)(hM:X.N[j]? = some b:=by rfl)
  (hv:Vis X.env.scope a:=by first|exact Or.inl rfl|exact Or.inr (Or.inl rfl)|exact Or.inr (Or.inr rfl)) (hu:Vis X.env.scope b:=by first|exact Or.inl rfl|exact Or.inr (Or.inl rfl)|exact Or.inr (Or.inr rfl))
  (d1:(a == ("__debug__" : Str))=false:=by decide) (d2:(a == ("__classdict__" : Str))=false:=by decide) (d3:(b == ("__debug__" : Str))=false:=by decide) (d4:(b == ("__classdict__" : Str))=false:=by decide)
  (hg:Gl X x:=by rfl) (hdb:(x == ("__debug__" : Str))=false:=by decide) (he:starEach [.Name a pa,.Name b pb] X.env=(false,eval (.Name a pa) X.env)::starEach [.Name b pb] X.env:=by rfl) (he2:starEach [.Name b pb] X.env=(false,eval (.Name b pb) X.env)::starEach [] X.env:=by rfl)
  (hpl:(backTo pos (starEach [.Name b pb] X.env)).any (·.1)=false:=by rfl):JE X C (.Call (.Name x p) [.Name a pa,.Name b pb] [] pos) (zlE i j Fd):=by
 obtain ⟨f,fd,ps,h1,h2,h3,h4,h5⟩:=D.ex
 refine PE.weak (zjH h1 (hr.mono hk) hg h2 h3 h4 .nil hx (zaP (zbB (i:=i) hN hv d1 d2) (zaP (zbB (i:=j) hM hu d3 d4) zc8 he2) he) hdb he hpl) fun σ H Q ⟨G,w,ρ,r,q⟩=>?_
 unfold zlE at q
 split at q
 case h_2=>exact q.elim
 rename_i l d ei ej
 obtain ⟨al,vs,e1,e2,e3,e4⟩:=zcN r ei
 obtain ⟨v,f1,f2⟩:=r.sl j _ ej
 have hgl:G al=none:=r.wg al (by rw[e2];simp)
 have sg:zb7 G (upd G al (.lst vs)):=fun b u e=>by rw[zae (zaf e hgl)];exact e
 refine ⟨.ref al,e1,v,f1,?_⟩
 split at q
 case h_2=>exact q.elim
 rename_i bb bs' eF
 have hks:zbE [.val (.lst l),.val d]=ks:=h5 _ (by rw[eF];exact fun z=>by cases z)
 refine ⟨upd G al (.lst vs),fun _=>none,[.val (.lst l),.val d],by rw[<- hks];rfl,hks,⟨fun b u e=>?_,fun b e=>absurd rfl e,fun b e=>absurd rfl e,rfl,fun jj bz vz g1 g2=>?_⟩,?_⟩
 ·by_cases hb:b=al
  ·subst hb;rw[zah] at e;cases e;exact e3
  ·rw[zae hb] at e;exact r.gh b u e
 ·match jj with
  |0 =>
   cases g1;cases g2
   show Rep X.K _ (.lst l) (.ref al)
   unfold Rep
   exact ⟨al,vs,rfl,zah,e4.same sg⟩
  |1 =>
   cases g1;cases g2
   exact Rep.same sg f2
  |n+2=>simp at g1
 ·rw[eF]
  intro v' G' H' w' s' pb rt
  have ev:v'=.bl bb:=zdp (K:=X.K) (G:=G') rt
  subst ev
  have st:zbe G H w G H' w:=⟨.refl _,fun b u e=>.inl (by rw[e];simp),fun b u e _=>s'.h b u e rfl,fun _ e=>.inl e,s'.k⟩
  refine q _ G H' w st ⟨fun b u e=>s'.h b u (r.gh b u e) rfl,r.wg,fun b e z=>r.wh b e (s'.k b z),r.len,fun i' b' e=>?_,r.en.trans st,r.pin⟩ (by unfold Rep;rfl)
  obtain ⟨v2,g1,g2⟩:=r.sl i' b' e
  exact ⟨v2,g1,g2.grow (.refl _) fun a' o q1 q2=>⟨s'.h a' o q2 rfl,q1⟩⟩
end
section
variable{X:Cx}{C:Cn}{a b:Expr}{fa fb:De}{pos:Pos}
end
end PV
end
section
end
section
namespace PV
open PySem PySem.Spec L2 PyProof.Rows
structure KeepO(i:Nat)(g:DG)(ft:DT)(fe:De):Prop where
 t:∀ d ρ ρ1 b ρ2,g d ρ=.ok ρ1->ft ρ1=.ok (b,ρ2)->ρ2[i]? = ρ[i]?
 e:∀ ρ y ρ1,fe ρ=.ok (y,ρ1)->ρ1[i]? = ρ[i]?
section
variable{X:Cx}{C:Cn}
end
structure CBlk(X:Cx)(xr xc xl:Str)(ci:Nat)(scope:Scope)(N':List Str)(p2 p3 p5:Pos):Prop where
 hc:X.calm=true
 hci:X.N[ci]? = some xl
 hvl:Vis X.env.scope xl
 hb:zeE X.N N' scope.names 1=true
 hkind:scope.kind=.function
 hcell:Hce scope
 hfr:Hfr X scope
 hnames:Hnm scope
 hN':N'.Nodup
 hcs:N'[X.N.length]? = some xc
 hgl:∀ cl L s H fp,Gl (zbS X N' scope cl L s H fp) xr
 he:∀ cl L s H fp,starEach [.Name xc p2] (zbS X N' scope cl L s H fp).env=(false,eval (.Name xc p2) (zbS X N' scope cl L s H fp).env)::starEach [] (zbS X N' scope cl L s H fp).env
 hpl:∀ cl L s H fp,(backTo p3 (starEach [] (zbS X N' scope cl L s H fp).env)).any (·.1)=false
 hvx:∀ cl L s H fp,Vis (zbS X N' scope cl L s H fp).env.scope xc/\Loc (zbS X N' scope cl L s H fp).env.scope xc/\(zbS X N' scope cl L s H fp).env.scope.names.lookup xc=some .local
 hs:∀ x,foldedSetIterable (.Name xl p5) X.env x=pure x
 hdb:(xr == ("__debug__" : Str))=false:=by decide
 hdc:(xc == ("__debug__" : Str))=false:=by decide
 hdd:(xc == ("__classdict__" : Str))=false:=by decide
 hdl:(xl == ("__debug__" : Str))=false:=by decide
 hdm:(xl == ("__classdict__" : Str))=false:=by decide
section
variable{X:Cx}{C:Cn}{f:Addr}{fd:FuncData}{st:Stmt}{xq xr xc xl:Str}{NR:List Str}{m k n ci:Nat}{dB:Nat->Addr->DS}
end
structure CS(X:Cx)(C:Cn)(k n ci:Nat)(ρ:Ev)(G0 H0:Hp)(w:Wn)(l:Nat)(σ:L2.St)(H:Hp):Prop where
 ex:∃(p:Addr)(G1:Hp)(Fs:List Addr),Fs.length=l/\σ[ci]? = some (some (.ref p))/\Rel X.K C G1 w ρ σ H/\zbe G0 H0 w G1 H w/\H0 p=none/\C.H₀ p=none/\H p=some (.lst (Fs.map V.ref))/\G1 p=none/\w p=none/\∀ Fa∈Fs,zlZ X C.xv k n ρ G1 Fa
section
variable{X:Cx}{C:Cn}{P f:Addr}{fd:FuncData}{st:Stmt}{xq xr xc xl:Str}{NR N':List Str}{m k n ci j l:Nat}{dB:Nat->Addr->DS}{ρ:Ev}{G0 H0:Hp}{w:Wn}{scope:Scope}{p1 p2 p3 p4 p5 pos:Pos}
 (LB:zfD X P) (hjp:j∈C.pp) (hσ0:C.σ₀[j]? = some (some (.ref P))) (hip:ci∉C.pp)
include LB hjp hσ0 hip
variable(cls:Nat->Addr)(hxv:∀ n,n<8->C.xv n=.ref (cls n))(hfn:X.fn=fun _=>true)
 (Fu:Fun X.K xq xr st f fd) (S:za6 NR ["call"] (zak st)) (hNR:NR.length=m+1) (hbi:zeO X.K fd ["call"] []) (hm:X.mg xr=some (.ref f)) (hr:zds (k+2) X.A) (hu:X.A.units+64<cLine)
 (hB:∀(C:Cn),(∀ n,n<8->C.xv n=.ref (cls n))->HB X C xr st f NR k cls dB) (hden:HD m dB)
include hxv hfn Fu S hNR hbi hm hr hu hB hden
omit LB hjp hσ0 in
end
end PV
end
section
end
section
namespace PV
open PySem PySem.Spec L2 PyProof.Rows
section
variable{X:Cx}{C:Cn}{CX:CXT}{k k':Nat}{ks:List Bool}{Fd:FD}{x a:Str}{eb:Expr}{fb:De}{p pos pa:Pos}
end
section
variable{X:Cx}{C:Cn}{e e':Expr}{fa fb:De}{pos:Pos}
end
section
variable{X:Cx}{C:Cn}{a b e:Expr}{fa fb:De}{pos apos p2:Pos}{zbm:List Expr}
end
section
variable{X:Cx}{C:Cn}{tg a b:Expr}{fa fb:De}{pos:Pos}
end
section
variable{X:Cx}{C:Cn}{pos ps py sp apos p1 p2 spos:Pos}{x y:Str}
end
section
variable{X:Cx}{C:Cn}{a b e:Expr}{fa fb:De}{pos ps:Pos}{x:Str}{ad:Addr}{D:List (Str×Str)}
end
section
variable{X:Cx}{C:Cn}{pos ps sp apos spos pd:Pos}{x:Str}{k v:Expr}{fk fv:De}
end
def LtAt(A:Around)(s:Shared)(u v:Value)(b:Bool):Prop:=∀(prog:Program)(w:World)(E:Value->Shared->Prop)(Q:Value->Shared->Prop),Q (.bool b) s->wpAny (model prog w) A (richCompare .Lt u v) Q E s
inductive zr8(A:Around)(s:Shared):List Value->List Value->Bool->Prop where
 |nil:zr8 A s [] [] false
 |left {w:Value} {ws:List Value}:zr8 A s [] (w::ws) true
 |right {v:Value} {vs:List Value}:zr8 A s (v::vs) [] false
 |eq {v w:Value} {vs ws:List Value} {b:Bool} (h:SeqAt.EqAt A s v w true) (t:zr8 A s vs ws b):zr8 A s (v::vs) (w::ws) b
 |ne {v w:Value} {vs ws:List Value} {b:Bool} (h:SeqAt.EqAt A s v w false) (t:LtAt A s v w b):zr8 A s (v::vs) (w::ws) b
section
open PySem.SeqAt
open PySem.AutoSeq1 (wpAny_loadPart')
open PySem.MeetsSeq PySem.MeetsSeq2 PySem.MeetsSeq3
end
section
variable{X:Cx}{pins:List (Addr×Obj)}{σ:L2.St}{H:Hp}{s:Shared}
end
section
variable{X:Cx}{C:Cn}{pins:List (Addr×Obj)}{σ:L2.St}{G1 H1:Hp}{w1:Wn}{ρ1:Ev}{l q S I:Addr}{xs:List V}{kd:List (Dt×Dt)}{dv:Value}{R:Result->Shared->Prop}
end
section
variable{X:Cx}{C:Cn}{pins:List (Addr×Obj)}{σ:L2.St}{k:Nat}{x:Str}{params:Arguments}{body:Expr}{scope:Scope}{fE:De}
end
section
variable{X:Cx}{C:Cn}{pins:List (Addr×Obj)}{σ:L2.St}{G1 H1:Hp}{w1:Wn}{ρ1:Ev}{l q:Addr}{xs:List V}{kd:List (Dt×Dt)}{s:Shared}{Q:Value->Shared->Prop}{E:Value->Shared->Prop}
end
section
variable{X:Cx}{C:Cn}{P:Addr}{j k:Nat}{x:Str}{params:Arguments}{body:Expr}{scope:Scope}{fE fa:De}{a:Expr}{p pos lpos kp kp2 cp:Pos}{cj:Nat}
end
end PV
end
section
namespace PV
open PySem PySem.Spec L2
section
variable{prog:Program}{w:World}{A:Around}{E:Value->Shared->Prop}{s:Shared}
structure ZpM(h:Heap)(z TI TO i1 i2 l1 l2:Addr)(f0:Value)(k:Nat):Prop where
 z:IsZip h z TI TO f0
 ti:IsPair h TI (.ref i1) (.ref i2)
 to:∃ a b,IsPair h TO a b
 a1:h.IsTupleIter i1 l1 k
 a2:h.IsListIter i2 l2 k
theorem ZpM.keep{h h':Heap}{z TI TO i1 i2 l1 l2:Addr}{f0:Value}{k:Nat}(p:ZpM h z TI TO i1 i2 l1 l2 f0 k)(e:∀ b∈[z,TI,TO,i1,i2],∀ o,h.get? b=some o->h'.get? b=some o):ZpM h' z TI TO i1 i2 l1 l2 f0 k :=
 ⟨e z (by simp) _ p.z,e TI (by simp) _ p.ti,let ⟨a,b,q⟩:=p.to;⟨a,b,e TO (by simp) _ q⟩,p.a1.at fun o q=>e i1 (by simp) o q,p.a2.at fun o q=>e i2 (by simp) o q⟩
variable{z TI TO i1 i2 l1 l2:Addr}{k:Nat}{xs ys:Array Value}
end
section
variable{prog:Program}{w:World}{A:Around}{E:Value->Shared->Prop}{s:Shared}
end
section
variable{X:Cx}{C:Cn}{elts:List Expr}{x1:Nat}{pt:Pos}{a b:Expr}{fa fb:De}{p pos:Pos}
end
open AutoSeq1 (wpAny_loadPart')
theorem zep{prog:Program}{w:World}{A:Around}(hh:A.handled=none)(it l:Addr)(hne:l≠it)(items:Array Value) :
  Draws prog w A it [it,l] items.size (fun i v=>items[i]? = some v) (fun i h=>h.IsTupleIter it l i/\h.IsTuple l items) where
 live:=fun _ _ st=>let ⟨o,ho,_⟩:=st.1;⟨o,ho⟩
 frame:=fun _ _ _ st hk=>⟨st.1.at fun o e=>hk it (by simp) o e,let ⟨o,e,r⟩:=st.2;⟨o,hk l (by simp) o e,r⟩⟩
 item:=fun i s Q E hi st hQ=>by
  refine zhJ st.1 st.2 (x:=items[i]) (by simp[hi]) fun h' hit' hs'=>?_
  exact hQ _ h' s.toks (by simp[hi]) ⟨hit',st.2.extBut hs'.extBut hne⟩ hs'
 done:=fun s Q E st hE=>zjv hh st.1 st.2 (by simp) hE
section
variable{prog:Program}{w:World}{A:Around}{E:Value->Shared->Prop}{s:Shared}
end
structure EpT(h:Heap)(e it l:Addr)(i:Nat):Prop where
 e:∃ old,IsEnum h e it i old
 a:h.IsTupleIter it l i
theorem EpT.keep{h h':Heap}{e it l:Addr}{i:Nat}(p:EpT h e it l i)(k:∀ b∈[e,it],∀ o,h.get? b=some o->h'.get? b=some o):EpT h' e it l i :=
 ⟨let ⟨old,q⟩:=p.e;⟨old,k e (by simp) _ q⟩,p.a.at fun o q=>k it (by simp) o q⟩
section
variable{X:Cx}{C:Cn}{elts:List Expr}{x1:Nat}{pt:Pos}{a:Expr}{fa:De}{p pos:Pos}
end
end PV
end
section
namespace PV
open PySem PySem.Spec L2 PyProof.Rows
section
variable{prog:Program}{w:World}{A:Around}{E:Value->Shared->Prop}{s:Shared}
end
section
variable{X:Cx}{C:Cn}{pos:Pos}
end
section
variable{X:Cx}
end
section
variable{X:Cx}{C:Cn}{e:Expr}{fa:De}{p pos:Pos}
end
abbrev DC:=Dt->Ev->R (Bool×Ev)
section
variable{X:Cx}{C:Cn}{pos:Pos}{op op':CmpOp}{ops:List CmpOp}{e:Expr}{r':Sem Value}{rs:List (Sem Value)}{g:Dt->Dt->R Dt}{r:R2}{fe:De}{f:DC}
end
def n2(i j:Int):Nat:=if i<j then ((j-i-1) / 2+1).toNat else 0
section
variable{X:Cx}{C:Cn}{tg e e':Expr}{fa fb:De}{p ps p3:Pos}{k3:Nat}
end
section
variable{X:Cx}{C:Cn}{a e:Expr}{fa fb:De}{p ps pos:Pos}
end
section
variable{prog:Program}{w:World}{A:Around}{E:Value->Shared->Prop}{s:Shared}
end
section
variable{X:Cx}{C:Cn}{a:Expr}{fa:De}{pos:Pos}
end
section
variable{X:Cx}{C:Cn}{a:Expr}{fa:De}{pos pn:Pos}{j:Nat}
end
section
variable{X:Cx}{C:Cn}{pos ps sp apos spos pd:Pos}{x:Str}{k v a:Expr}{fk fv fa:De}
end
def dd(ds:List Dt):List (Dt×Dt):=ds.map fun d=>(d,d)
section
variable{X:Cx}{C:Cn}{pins:List (Addr×Obj)}{σ:L2.St}{G1 H1:Hp}{w1:Wn}{ρ1:Ev}{l S I:Addr}{xs:List V}{ds:List Dt}{R:Result->Shared->Prop}
end
section
variable{X:Cx}{C:Cn}{pins:List (Addr×Obj)}{σ:L2.St}{G1 H1:Hp}{w1:Wn}{ρ1:Ev}{l:Addr}{xs:List V}{ds:List Dt}{d0:Dt}{s:Shared}{Q:Value->Shared->Prop}{E:Value->Shared->Prop}
end
section
variable{X:Cx}{C:Cn}{e:Expr}{fa:De}{p pos:Pos}
end
end PV
end
section
namespace Ts
open PySem PyProof.Rows
def zh6:Bool->Keyed->Array Keyed->Nat->Nat->Nat->StateT SortSt Sem (Option Nat):=sortPriv% PySem.Builtin.gallop
section
variable{prog:Program}{w:World}{A:Around}{E:Value->Shared->Prop}{s:Shared}
def Cp(prog:Program)(w:World)(A:Around)(s:Shared)(kd:SortKind)(P:Keyed->Prop)(r:Keyed->Int):Prop :=
 ∀(E:Value->Shared->Prop)(x y:Keyed)(st:SortSt)(Q:Option Bool->SortSt->Prop),P x->P y->kindOf st=kd->Q (some (decide (r x<r y))) st->wpS (model prog w) A E s (lt' x y) Q st
def bey(r:Keyed->Int)(left:Bool)(key x:Keyed):Bool:=if left=true then decide (r x<r key) else !decide (r key<r x)
theorem zau{arr:Array Keyed}{i:Nat}{x:Keyed}{st:SortSt}{Q:Keyed->SortSt->Prop}(h:arr[i]? = some x)(q:Q x st):wpS (model prog w) A E s (elem' arr i) Q st:=by
 rw[elem'_eq,h];exact wpS_pure q
theorem zl9{kd:SortKind}{P:Keyed->Prop}{r:Keyed->Int}(C:Cp prog w A s kd P r){left:Bool}{key x:Keyed}{arr:Array Keyed}{i:Nat}{st:SortSt}{Q:Option Bool->SortSt->Prop}(hk:kindOf st=kd)(hP:P key)(hx:arr[i]? = some x)(hp:P x)(q:Q (some (bey r left key x)) st) :
  wpS (model prog w) A E s (elem' arr i >>= fun x=>if left=true then lt' x key else lt' key x >>= fun o=>pure (o.map (!·))) Q st:=by
 refine wpS_bind (zau hx ?_)
 unfold bey at q
 cases left with
 |true=>exact C E x key st Q hp hP hk q
 |false =>
  refine wpS_bind (C E key x st _ hP hp hk ?_)
  exact wpS_pure q
theorem zgC{kd:SortKind}{P:Keyed->Prop}{r:Keyed->Int}(C:Cp prog w A s kd P r){left:Bool}{key:Keyed}{arr:Array Keyed}{base n hint:Nat}{st:SortSt}{Q:Option Nat->SortSt->Prop}(hk:kindOf st=kd)(hP:P key){bb:Nat->Bool}
  (hv:∀ i,i<n->∃ x,arr[base+i]? = some x/\P x/\bb i=bey r left key x) (ha:∀ i j,i<=j->j<n->bb j=true->bb i=true) (hh:hint<n) (h:∀ k,k<=n->(∀ i,i<k->bb i=true)->(∀ i,k<=i->i<n->bb i=false)->Q (some k) st) :
  wpS (model prog w) A E s (zh6 left key arr base n hint) Q st:=by
 have hb:∀ i,i<n->∀{Q:Option Bool->SortSt->Prop},Q (some (bb i)) st->wpS (model prog w) A E s (elem' arr (base+i) >>= fun x=>if left=true then lt' x key else lt' key x >>= fun o=>pure (o.map (!·))) Q st:=fun i hi Q q=>by
  obtain ⟨x,h1,h2,h3⟩:=hv i hi
  exact zl9 C hk hP h1 h2 (by rw[<- h3];exact q)
 have srch:∀ lo hi,lo<=hi->hi<=n->(∀ i,i<lo->bb i=true)->(∀ i,hi<=i->i<n->bb i=false)->∀(f:Nat->Option (Option Nat)×Nat×Nat->StateT SortSt Sem (ForInStep (Option (Option Nat)×Nat×Nat))),
   (∀ x lo hi,hi<=lo->f x (none,lo,hi)=pure (.done (none,lo,hi)))->(∀ x lo hi,¬ hi<=lo->∀ Q:ForInStep (Option (Option Nat)×Nat×Nat)->SortSt->Prop,lo+(hi-lo) / 2<n->Q (.yield (none,if bb (lo+(hi-lo) / 2)=true then (lo+(hi-lo) / 2+1,hi) else (lo,lo+(hi-lo) / 2))) st->wpS (model prog w) A E s (f x (none,lo,hi)) Q st) ->
   ∀ Q:Option (Option Nat)×Nat×Nat->SortSt->Prop,(∀ k,k<=n->(∀ i,i<k->bb i=true)->(∀ i,k<=i->i<n->bb i=false)->∀ lo,Q (none,lo,k) st)->wpS (model prog w) A E s (forIn [:n] (none,lo,hi) f) Q st:=by
  intro lo hi h1 h2 h3 h4 f f1 f2 Q hQ
  refine wpS_forRange (I:=fun t c st'=>st'=st/\∃ lo hi,c=(none,lo,hi)/\lo<=hi/\hi<=n/\hi-lo+t<=n/\(∀ i,i<lo->bb i=true)/\∀ i,hi<=i->i<n->bb i=false) ?_ ?_ ⟨rfl,lo,hi,rfl,h1,h2,by omega,h3,h4⟩
  ·rintro t c st' _ ht ⟨rfl,lo,hi,rfl,g1,g2,g3,g4,g5⟩
   by_cases e:hi<=lo
   ·rw[f1 t lo hi e]
    refine wpS_pure (hQ hi g2 (fun i hi'=>g4 i (by omega)) g5 lo)
   ·refine f2 t lo hi e _ (by omega) ?_
    cases eb:bb (lo+(hi-lo) / 2) with
    |true =>
     refine ⟨rfl,lo+(hi-lo) / 2+1,hi,rfl,by omega,g2,by omega,fun i hi'=>?_,g5⟩
     exact ha i (lo+(hi-lo) / 2) (by omega) (by omega) eb
    |false =>
     refine ⟨rfl,lo,lo+(hi-lo) / 2,rfl,by omega,by omega,by omega,g4,fun i hi' hn=>?_⟩
     cases eq:bb i with
     |false=>rfl
     |true=>rw[ha (lo+(hi-lo) / 2) i hi' hn eq] at eb;cases eb
  ·rintro c st' ⟨rfl,lo,hi,rfl,g1,g2,g3,g4,g5⟩
   have:max 0 n=n:=by omega
   rw[this] at g3
   exact hQ hi g2 (fun i hi'=>g4 i (by omega)) g5 lo
 have two:∀{lo hi:Nat}(Q:ForInStep (Option (Option Nat)×Nat×Nat)->SortSt->Prop)(b:Bool),b=bb (lo+(hi-lo) / 2)->Q (.yield (none,if bb (lo+(hi-lo) / 2)=true then (lo+(hi-lo) / 2+1,hi) else (lo,lo+(hi-lo) / 2))) st ->
   wpS (model prog w) A E s (if b=true then pure (ForInStep.yield (none,lo+(hi-lo) / 2+1,hi)) else pure (ForInStep.yield (none,lo,lo+(hi-lo) / 2)):StateT SortSt Sem (ForInStep (Option (Option Nat)×Nat×Nat))) Q st:=fun {lo hi} Q b e q=>by
  rw[<- e] at q
  cases b with
  |true=>exact wpS_pure q
  |false=>exact wpS_pure q
 unfold zh6
 refine wpS_bind (hb hint hh ?_)
 cases eh:bb hint with
 |true =>
  dsimp only
  rw[if_pos rfl]
  refine wpS_bind (wpS_mono (Q:=fun c st'=>st'=st/\∃ lo ofs,c=(none,lo,ofs)/\lo<ofs/\hint+lo<n/\bb (hint+lo)=true/\(n-hint<=ofs\/bb (hint+ofs)=false)) (wpS_forRange (I:=fun t c st'=>st'=st/\∃ lo ofs,c=(none,lo,ofs)/\t+1<=ofs/\lo<ofs/\hint+lo<n/\bb (hint+lo)=true) ?_ ?_ ⟨rfl,0,1,rfl,by omega,by omega,by omega,eh⟩) ?_)
  ·rintro t c st' _ ht ⟨rfl,lo,ofs,rfl,g1,g2,g3,g4⟩
   dsimp only
   by_cases e:ofs ≥ n-hint
   ·rw[if_pos e]
    exact wpS_pure ⟨rfl,lo,ofs,rfl,g2,g3,g4,.inl e⟩
   ·rw[if_neg e]
    refine wpS_bind (hb (hint+ofs) (by omega) ?_)
    dsimp only
    cases eb:bb (hint+ofs) with
    |true=>exact wpS_pure ⟨rfl,ofs,2 * ofs+1,rfl,by omega,by omega,by omega,eb⟩
    |false=>exact wpS_pure ⟨rfl,lo,ofs,rfl,g2,g3,g4,.inr eb⟩
  ·rintro c st' ⟨rfl,lo,ofs,rfl,g1,g2,g3,g4⟩
   exact ⟨rfl,lo,ofs,rfl,g2,g3,g4,.inl (by omega)⟩
  ·rintro c st' ⟨rfl,lo,ofs,rfl,g2,g3,g4,g5⟩
   dsimp only
   refine wpS_bind (srch (hint+lo+1) (hint+min ofs (n-hint)) (by omega) (by omega) (fun i hi=>ha i (hint+lo) (by omega) g3 g4) (fun i hi hn=>?_) _ (fun x lo hi e=>if_pos e) (fun x lo hi e Q hn q=>?_) _ (fun k k1 k2 k3 lo=>?_))
   ·cases eq:bb i with
    |false=>rfl
    |true =>
     rcases g5 with g5|g5
     ·omega
     ·rw[ha (hint+ofs) i (by omega) hn eq] at g5;cases g5
   ·dsimp only
    rw[if_neg e]
    refine wpS_bind (hb _ hn ?_)
    exact two Q _ rfl q
   ·dsimp only
    exact wpS_pure (h k k1 k2 k3)
 |false =>
  dsimp only
  rw[if_neg (by simp)]
  refine wpS_bind (wpS_mono (Q:=fun c st'=>st'=st/\∃ lo ofs,c=(none,lo,ofs)/\lo<ofs/\lo<=hint/\bb (hint-lo)=false/\(hint+1<=ofs\/(ofs<=hint/\bb (hint-ofs)=true))) (wpS_forRange (I:=fun t c st'=>st'=st/\∃ lo ofs,c=(none,lo,ofs)/\t+1<=ofs/\lo<ofs/\lo<=hint/\bb (hint-lo)=false) ?_ ?_ ⟨rfl,0,1,rfl,by omega,by omega,by omega,eh⟩) ?_)
  ·rintro t c st' _ ht ⟨rfl,lo,ofs,rfl,g1,g2,g3,g4⟩
   dsimp only
   by_cases e:ofs ≥ hint+1
   ·rw[if_pos e]
    exact wpS_pure ⟨rfl,lo,ofs,rfl,g2,g3,g4,.inl e⟩
   ·rw[if_neg e]
    refine wpS_bind (hb (hint-ofs) (by omega) ?_)
    dsimp only
    cases eb:bb (hint-ofs) with
    |true=>exact wpS_pure ⟨rfl,lo,ofs,rfl,g2,g3,g4,.inr ⟨by omega,eb⟩⟩
    |false=>exact wpS_pure ⟨rfl,ofs,2 * ofs+1,rfl,by omega,by omega,by omega,eb⟩
  ·rintro c st' ⟨rfl,lo,ofs,rfl,g1,g2,g3,g4⟩
   exact ⟨rfl,lo,ofs,rfl,g2,g3,g4,.inl (by omega)⟩
  ·rintro c st' ⟨rfl,lo,ofs,rfl,g2,g3,g4,g5⟩
   dsimp only
   refine wpS_bind (srch (hint+1-min ofs (hint+1)) (hint-lo) (by omega) (by omega) (fun i hi=>?_) (fun i hi hn=>?_) _ (fun x lo hi e=>if_pos e) (fun x lo hi e Q hn q=>?_) _ (fun k k1 k2 k3 lo=>?_))
   ·rcases g5 with g5|⟨g5,g6⟩
    ·omega
    ·exact ha i (hint-ofs) (by omega) (by omega) g6
   ·cases eq:bb i with
    |false=>rfl
    |true=>rw[ha (hint-lo) i hi hn eq] at g4;cases g4
   ·dsimp only
    rw[if_neg e]
    refine wpS_bind (hb _ hn ?_)
    exact two Q _ rfl q
   ·dsimp only
    exact wpS_pure (h k k1 k2 k3)
end
def Srt(r:Keyed->Int)(l:List Keyed):Prop:=l.Pairwise fun x y=>r x<=r y
structure Mg(r:Keyed->Int)(a b out:List Keyed)(ia ib:Nat):Prop where
 pm:(out++(a.drop ia++b.drop ib)).Perm (a++b)
 so:Srt r out
 le:∀ x∈out,∀ y∈a.drop ia++b.drop ib,r x<=r y
variable{r:Keyed->Int}{a b out:List Keyed}{ia ib:Nat}
theorem Srt.drop{l:List Keyed}(h:Srt r l)(k:Nat):Srt r (l.drop k):=h.sublist (List.drop_sublist _ _)
theorem Srt.take{l:List Keyed}(h:Srt r l)(k:Nat):Srt r (l.take k):=h.sublist (List.take_sublist _ _)
theorem Srt.at{l:List Keyed}(h:Srt r l){i j:Nat}{x y:Keyed}(hij:i<=j)(hx:l[i]? = some x)(hy:l[j]? = some y):r x<=r y:=by
 rcases Nat.lt_or_eq_of_le hij with z|z
 ·obtain ⟨hi,rfl⟩:=List.getElem?_eq_some_iff.mp hx
  obtain ⟨hj,rfl⟩:=List.getElem?_eq_some_iff.mp hy
  exact List.pairwise_iff_getElem.mp h i j hi hj z
 ·subst z;rw[hx] at hy;cases hy;exact Int.le_refl _
theorem zcp{l:List Keyed}{k:Nat}{x:Keyed}(h:x∈l.drop k):∃ j,k<=j/\l[j]? = some x:=by
 obtain ⟨i,hi⟩:=List.getElem?_of_mem h
 rw[List.getElem?_drop] at hi
 exact ⟨k+i,by omega,hi⟩
theorem zee{l:List Keyed}{k:Nat}{x:Keyed}(h:x∈l.take k):∃ j,j<k/\l[j]? = some x:=by
 obtain ⟨i,hi⟩:=List.getElem?_of_mem h
 rw[List.getElem?_take] at hi
 split at hi
 ·exact ⟨i,by assumption,hi⟩
 ·cases hi
theorem Mg.as(h:Mg r a b out ia ib)(ha:Srt r a)(hb:Srt r b)(k:Nat)(hk:∀ i x,i<k->a[ia+i]? = some x->∀ y,b[ib]? = some y->r x<=r y):Mg r a b (out++(a.drop ia).take k) (ia+k) ib:=by
 have e:(a.drop ia).take k++a.drop (ia+k)=a.drop ia:=by rw[<- List.drop_drop];exact List.take_append_drop k _
 have hin:∀ x∈(a.drop ia).take k,x∈a.drop ia:=fun x hx=>List.mem_of_mem_take hx
 refine ⟨?_,?_,?_⟩
 ·have:=h.pm
  rw[<- e] at this
  simpa [List.append_assoc] using this
 ·refine List.pairwise_append.mpr ⟨h.so,(ha.drop ia).take k,fun x hx y hy=>h.le x hx y (List.mem_append_left _ (hin y hy))⟩
 ·intro x hx y hy
  rcases List.mem_append.mp hx with hx|hx
  ·refine h.le x hx y ?_
   rcases List.mem_append.mp hy with hy|hy
   ·exact List.mem_append_left _ (by rw[<- e];exact List.mem_append_right _ hy)
   ·exact List.mem_append_right _ hy
  ·obtain ⟨j,hj,ej⟩:=zee hx
   rw[List.getElem?_drop] at ej
   rcases List.mem_append.mp hy with hy|hy
   ·obtain ⟨i,hi,ei⟩:=zcp hy
    exact ha.at (by omega) ej ei
   ·obtain ⟨i,hi,ei⟩:=zcp hy
    have hl:ib<b.length:=by have:=(List.getElem?_eq_some_iff.mp ei).1;omega
    have:=hk j x hj ej _ (List.getElem?_eq_getElem hl)
    exact Int.le_trans this (hb.at hi (List.getElem?_eq_getElem hl) ei)
theorem Mg.swap(h:Mg r a b out ia ib):Mg r b a out ib ia :=
 ⟨(List.Perm.append_left out List.perm_append_comm).trans (h.pm.trans List.perm_append_comm),h.so,fun x hx y hy=>h.le x hx y (List.mem_append.mpr ((List.mem_append.mp hy).symm))⟩
theorem Mg.bs(h:Mg r a b out ia ib)(ha:Srt r a)(hb:Srt r b)(k:Nat)(hk:∀ i x,i<k->b[ib+i]? = some x->∀ y,a[ia]? = some y->r x<=r y):Mg r a b (out++(b.drop ib).take k) ia (ib+k):=(h.swap.as hb ha k hk).swap
theorem Mg.a1(h:Mg r a b out ia ib)(ha:Srt r a)(hb:Srt r b){x:Keyed}(hx:a[ia]? = some x)(hk:∀ y,b[ib]? = some y->r x<=r y):Mg r a b (out++[x]) (ia+1) ib:=by
 have:=h.as ha hb 1 (fun i z hi hz y hy=>by
  have:i=0:=by omega
  subst this
  rw[Nat.add_zero,hx] at hz
  cases hz
  exact hk y hy)
 rwa [show (a.drop ia).take 1=[x] by
  obtain ⟨hl,e⟩:=List.getElem?_eq_some_iff.mp hx
  rw[List.drop_eq_getElem_cons hl,e];rfl] at this
theorem Mg.b1(h:Mg r a b out ia ib)(ha:Srt r a)(hb:Srt r b){x:Keyed}(hx:b[ib]? = some x)(hk:∀ y,a[ia]? = some y->r x<=r y):Mg r a b (out++[x]) ia (ib+1):=(h.swap.a1 hb ha hx hk).swap
def Mgd(r:Keyed->Int)(a b out:List Keyed):Prop:=out.Perm (a++b)/\Srt r out
theorem Mg.fin(h:Mg r a b out ia ib)(ha:Srt r a)(hb:Srt r b)(e:a.length<=ia\/b.length<=ib):Mgd r a b (out++(a.drop ia++b.drop ib)):=by
 refine ⟨h.pm,List.pairwise_append.mpr ⟨h.so,?_,h.le⟩⟩
 rcases e with e|e
 ·rw[List.drop_eq_nil_iff.mpr e,List.nil_append];exact hb.drop ib
 ·rw[List.drop_eq_nil_iff.mpr e,List.append_nil];exact ha.drop ia
theorem Mg.finA(h:Mg r a b out ia ib)(ha:Srt r a)(hb:Srt r b)(e:ia+1=a.length)(hl:∀ x,a[ia]? = some x->∀ y∈b,r y<=r x):Mgd r a b (out++(b.drop ib++a.drop ia)):=by
 refine ⟨(List.Perm.append_left out List.perm_append_comm).trans h.pm,List.pairwise_append.mpr ⟨h.so,List.pairwise_append.mpr ⟨hb.drop ib,ha.drop ia,fun y hy x hx=>?_⟩,fun x hx y hy=>h.le x hx y (List.mem_append.mpr ((List.mem_append.mp hy).symm))⟩⟩
 obtain ⟨i,hi,ei⟩:=zcp hx
 have:i=ia:=by have:=(List.getElem?_eq_some_iff.mp ei).1;omega
 subst this
 exact hl x ei y (List.mem_of_mem_drop hy)
def zkJ:Array Keyed->Array Keyed->StateT SortSt Sem (Array Keyed):=sortPriv% PySem.Builtin.mergeLo
abbrev mkG(st:SortSt)(g:Nat):SortSt:=SortSt.mk' (kindOf st) (arrOf st) (pendingOf st) g (failedOf st)
theorem zhu(a:Array Keyed)(i:Nat):(a.extract i).toList=a.toList.drop i:=by
 rw[Array.toList_extract,List.extract_eq_take_drop]
 exact List.take_of_length_le (by simp)
theorem zfx(a:Array Keyed)(i k:Nat):(a.extract i (i+k)).toList=(a.toList.drop i).take k:=by
 rw[Array.toList_extract,List.extract_eq_take_drop,Nat.add_sub_cancel_left]
section
variable{prog:Program}{w:World}{A:Around}{E:Value->Shared->Prop}{s:Shared}
theorem zcW{x:String}{st:SortSt}{Q:Unit->SortSt->Prop}(h:Q () st):wpS (model prog w) A E s (liftM (rule x):StateT SortSt Sem Unit) Q st:=wpS_lift (wpAny_rule ⟨rfl,h⟩)
theorem zai{c:Prop} [Decidable c] {α:Type} {m n:StateT SortSt Sem α} {st:SortSt} {Q:α->SortSt->Prop} (h1:c->wpS (model prog w) A E s m Q st) (h2:¬ c->wpS (model prog w) A E s n Q st):wpS (model prog w) A E s (if c then m else n) Q st:=by
 by_cases h:c
 ·rw[if_pos h];exact h1 h
 ·rw[if_neg h];exact h2 h
theorem zcj{kd:SortKind}{P:Keyed->Prop}{r:Keyed->Int}(C:Cp prog w A s kd P r){left:Bool}{key:Keyed}{a:Array Keyed}{i n hint:Nat}{st:SortSt}{Q:Option Nat->SortSt->Prop}(hk:kindOf st=kd)(hP:P key)(hPa:∀ x∈a.toList,P x)(ha:Srt r a.toList)(hn:i+n<=a.size)(hh:hint<n)
  (h:∀ k,k<=n->(∀ j x,j<k->a.toList[i+j]? = some x->bey r left key x=true)->(∀ j x,k<=j->j<n->a.toList[i+j]? = some x->bey r left key x=false)->Q (some k) st) :
  wpS (model prog w) A E s (zh6 left key a i n hint) Q st:=by
 have at_:∀ j,j<n->∃ x,a.toList[i+j]? = some x/\a[i+j]? = some x:=fun j hj=>by
  have hl:i+j<a.size:=by omega
  exact ⟨a[i+j],by rw[Array.getElem?_toList];exact getElem?_pos a _ hl,getElem?_pos a _ hl⟩
 refine zgC C hk hP (bb:=fun j=>match a.toList[i+j]? with|some x=>bey r left key x|none=>false) (fun j hj=>?_) (fun j j' hjj hj' hb=>?_) hh (fun k hk h1 h2=>h k hk (fun j x hj hx=>?_) (fun j x hkj hj hx=>?_))
 ·obtain ⟨x,e1,e2⟩:=at_ j hj
  exact ⟨x,e2,hPa x (List.mem_of_getElem? e1),by rw[e1]⟩
 ·obtain ⟨x,e1,_⟩:=at_ j (by omega)
  obtain ⟨y,e2,_⟩:=at_ j' hj'
  try dsimp only at hb ⊢
  rw[e2] at hb
  rw[e1]
  have:=ha.at (show i+j<=i+j' by omega) e1 e2
  dsimp only at hb ⊢
  unfold bey at hb ⊢
  cases left with
  |true =>
   simp only[if_true,decide_eq_true_eq] at hb ⊢
   omega
  |false =>
   simp only[Bool.false_eq_true,if_false,Bool.not_eq_true',decide_eq_false_iff_not] at hb ⊢
   omega
 ·have:=h1 j hj
  try dsimp only at this
  rw[hx] at this
  exact this
 ·have:=h2 j hkj hj
  try dsimp only at this
  rw[hx] at this
  exact this
def JL(r:Keyed->Int)(a b out:Array Keyed)(ia ib:Nat):Prop:=Mg r a.toList b.toList out.toList ia ib/\ia+1<a.size/\ib<b.size
theorem zjJ{kd:SortKind}{P:Keyed->Prop}{r:Keyed->Int}(C:Cp prog w A s kd P r){a b:Array Keyed}{st:SortSt}{Q:Array Keyed->SortSt->Prop}(hk:kindOf st=kd)(hPa:∀ x∈a.toList,P x)(hPb:∀ x∈b.toList,P x)(ha:Srt r a.toList)(hb:Srt r b.toList)(ha0:0<a.size)(hb0:0<b.size)
  (h0:∀ x y,a.toList[0]? = some x->b.toList[0]? = some y->r y<=r x) (hl:∀ x,a.toList[a.size-1]? = some x->∀ y∈b.toList,r y<=r x) (h:∀ out g,Mgd r a.toList b.toList out.toList->Q out (mkG st g)):wpS (model prog w) A E s (zkJ a b) Q st:=by
 have aA:∀ i,i<a.size->∃ x,a.toList[i]? = some x/\a[i]? = some x/\P x:=fun i hi=>by
  have e:a.toList[i]? = some a[i]:=by rw[Array.getElem?_toList];exact getElem?_pos a _ hi
  exact ⟨a[i],e,getElem?_pos a _ hi,hPa _ (List.mem_of_getElem? e)⟩
 have bA:∀ i,i<b.size->∃ x,b.toList[i]? = some x/\b[i]? = some x/\P x:=fun i hi=>by
  have e:b.toList[i]? = some b[i]:=by rw[Array.getElem?_toList];exact getElem?_pos b _ hi
  exact ⟨b[i],e,getElem?_pos b _ hi,hPb _ (List.mem_of_getElem? e)⟩
 have fin:∀{out:Array Keyed}{ia ib:Nat},Mg r a.toList b.toList out.toList ia ib->(a.size<=ia\/b.size<=ib)->Mgd r a.toList b.toList (out++a.extract ia++b.extract ib).toList:=fun {out ia ib} m e=>by
  rw[Array.toList_append,Array.toList_append,zhu,zhu,List.append_assoc]
  exact m.fin ha hb (by simpa using e)
 have finA:∀{out:Array Keyed}{ia ib:Nat},Mg r a.toList b.toList out.toList ia ib->ia+1=a.size->Mgd r a.toList b.toList (out++b.extract ib++a.extract ia).toList:=fun {out ia ib} m e=>by
  rw[Array.toList_append,Array.toList_append,zhu,zhu,List.append_assoc]
  exact m.finA ha hb (by simpa using e) fun x hx=>hl x (by rw[show a.size-1=ia by omega];exact hx)
 unfold zkJ
 refine wpS_bind (zcW ?_)
 dsimp only
 obtain ⟨y0,e1,e2,p0⟩:=bA 0 hb0
 refine wpS_bind (zau e2 ?_)
 have m0:Mg r a.toList b.toList (#[y0]:Array Keyed).toList 0 1:=by
  have:Mg r a.toList b.toList [] 0 0:=⟨by simp,.nil,fun x hx=>by cases hx⟩
  exact this.b1 ha hb e1 fun x hx=>h0 x y0 hx e1
 by_cases c1:(1 == b.size)=true
 ·rw[if_pos c1]
  exact wpS_pure (h _ (gallopOf st) (fin m0 (.inr (by have:=beq_iff_eq.mp c1;omega))))
 rw[if_neg c1]
 have hb1:1<b.size:=by
  have:¬ 1=b.size:=fun z=>c1 (beq_iff_eq.mpr z)
  omega
 by_cases c2:(0+1 == a.size)=true
 ·rw[if_pos c2]
  exact wpS_pure (h _ (gallopOf st) (finA m0 (by have:=beq_iff_eq.mp c2;omega)))
 rw[if_neg c2]
 have ha1:1<a.size:=by
  have:¬ 0+1=a.size:=fun z=>c2 (beq_iff_eq.mpr z)
  omega
 refine wpS_bind (wpS_get ?_)
 try dsimp only
 refine wpS_bind (wpS_mono (Q:=fun c st'=>∃ g,st'=mkG st g/\∃ res,c.1=some res/\Mgd r a.toList b.toList res.toList) (wpS_forRange (I:=fun t c st'=>∃ g,st'=mkG st g/\∃ out ia ib mg,c=(none,out,ia,ib,mg)/\JL r a b out ia ib/\t<=ia+ib) ?_ ?_ ⟨gallopOf st,rfl,_,_,_,_,rfl,⟨m0,by omega,hb1⟩,by omega⟩) ?_)
 rotate_left
 ·rintro c st' ⟨g,rfl,out,ia,ib,mg,rfl,⟨_,j1,j2⟩,j3⟩
  omega
 ·rintro ⟨c1,c⟩ st' ⟨g,rfl,res,e,hm⟩
  dsimp only at e ⊢
  subst e
  exact wpS_pure (h res g hm)
 rintro t c st1 _ ht ⟨g,rfl,out,ia,ib,mg,rfl,hJ,hc⟩
 dsimp only
 refine wpS_bind (wpS_mono (Q:=fun c st'=>st'=mkG st g/\((∃ out ia2 ib2 ac bc,c=(none,out,ia2,ib2,ac,bc)/\JL r a b out ia2 ib2/\ia+ib+1<=ia2+ib2)\/∃ res,c.1=some res/\Mgd r a.toList b.toList res.toList)) (wpS_forRange (I:=fun t c st'=>st'=mkG st g/\∃ out ia2 ib2 ac bc,c=(none,out,ia2,ib2,ac,bc)/\JL r a b out ia2 ib2/\ia+ib+t<=ia2+ib2) ?_ ?_ ⟨rfl,_,_,_,_,_,rfl,hJ,by omega⟩) ?_)
 ·rintro t c st2 _ ht ⟨rfl,out,ia,ib,ac,bc,rfl,⟨m,j1,j2⟩,hc⟩
  dsimp only
  obtain ⟨y,y1,y2,yP⟩:=bA ib j2
  obtain ⟨x,x1,x2,xP⟩:=aA ia (by omega)
  refine wpS_bind (zau y2 (wpS_bind (zau x2 (wpS_bind (C E y x _ _ yP xP hk ?_)))))
  dsimp only
  by_cases hlt:r y<r x
  ·rw[if_pos (decide_eq_true hlt)]
   refine wpS_bind (zau y2 ?_)
   have m':Mg r a.toList b.toList (out.push y).toList ia (ib+1):=by
    rw[Array.toList_push]
    exact m.b1 ha hb y1 fun z hz=>by rw[x1] at hz;cases hz;omega
   by_cases c3:(ib+1 == b.size)=true
   ·rw[if_pos c3]
    exact wpS_pure ⟨rfl,.inr ⟨_,rfl,fin m' (.inr (by have:=beq_iff_eq.mp c3;omega))⟩⟩
   rw[if_neg c3]
   have j2':ib+1<b.size:=by
    have:¬ ib+1=b.size:=fun z=>c3 (beq_iff_eq.mpr z)
    omega
   by_cases c4:bc+1 ≥ mg
   ·rw[if_pos c4]
    exact wpS_pure ⟨rfl,.inl ⟨_,_,_,_,_,rfl,⟨m',j1,j2'⟩,by omega⟩⟩
   ·rw[if_neg c4]
    exact wpS_pure ⟨rfl,_,_,_,_,_,rfl,⟨m',j1,j2'⟩,by omega⟩
  ·rw[if_neg (by simpa using hlt)]
   refine wpS_bind (zau x2 ?_)
   have m':Mg r a.toList b.toList (out.push x).toList (ia+1) ib:=by
    rw[Array.toList_push]
    exact m.a1 ha hb x1 fun z hz=>by rw[y1] at hz;cases hz;omega
   by_cases c3:(ia+1+1 == a.size)=true
   ·rw[if_pos c3]
    exact wpS_pure ⟨rfl,.inr ⟨_,rfl,finA m' (by have:=beq_iff_eq.mp c3;omega)⟩⟩
   rw[if_neg c3]
   have j1':ia+1+1<a.size:=by
    have:¬ ia+1+1=a.size:=fun z=>c3 (beq_iff_eq.mpr z)
    omega
   by_cases c4:ac+1 ≥ mg
   ·rw[if_pos c4]
    exact wpS_pure ⟨rfl,.inl ⟨_,_,_,_,_,rfl,⟨m',j1',j2⟩,by omega⟩⟩
   ·rw[if_neg c4]
    exact wpS_pure ⟨rfl,_,_,_,_,_,rfl,⟨m',j1',j2⟩,by omega⟩
 ·rintro c st2 ⟨rfl,out,ia2,ib2,ac,bc,rfl,hJ2,hc2⟩
  exact ⟨rfl,.inl ⟨_,_,_,_,_,rfl,hJ2,by omega⟩⟩
 rintro ⟨c1,c⟩ st2 ⟨rfl,hc1⟩
 rcases hc1 with ⟨out,ia,ib,ac,bc,e,hJ,hc⟩|⟨res,e,hm⟩
 rotate_left
 ·dsimp only at e ⊢
  subst e
  exact wpS_pure ⟨g,rfl,res,rfl,hm⟩
 cases e
 dsimp only
 refine wpS_bind (zcW ?_)
 refine wpS_bind (wpS_mono (Q:=fun c st'=>∃ g,st'=mkG st g/\((∃ out ia2 ib2 mg ac bc,c=(none,out,ia2,ib2,mg,ac,bc)/\JL r a b out ia2 ib2/\ia+ib<=ia2+ib2)\/∃ res,c.1=some res/\Mgd r a.toList b.toList res.toList)) (wpS_forRange (I:=fun t c st'=>∃ g,st'=mkG st g/\∃ out ia2 ib2 mg ac bc,c=(none,out,ia2,ib2,mg,ac,bc)/\JL r a b out ia2 ib2/\ia+ib<=ia2+ib2) ?_ ?_ ⟨g,rfl,_,_,_,_,_,_,rfl,hJ,by omega⟩) ?_)
 rotate_left
 ·rintro c st2 ⟨g,rfl,out,ia2,ib2,mg,ac,bc,rfl,hJ2,hc2⟩
  exact ⟨g,rfl,.inl ⟨_,_,_,_,_,_,rfl,hJ2,hc2⟩⟩
 ·rintro ⟨c1,c⟩ st2 ⟨g,rfl,hc1⟩
  rcases hc1 with ⟨out,ia,ib,mg,ac,bc,e,hJ,hc⟩|⟨res,e,hm⟩
  ·cases e
   dsimp only
   refine wpS_bind (wpS_modify ?_)
   exact wpS_pure ⟨mg+1,rfl,_,_,_,_,rfl,hJ,by omega⟩
  ·dsimp only at e ⊢
   subst e
   exact wpS_pure ⟨g,rfl,res,rfl,hm⟩
 rintro t c st2 _ ht ⟨g,rfl,out,ia,ib,mg,ac,bc,rfl,⟨m,j1,j2⟩,hc2⟩
 dsimp only
 obtain ⟨y,y1,y2,yP⟩:=bA ib j2
 refine zai (fun hh=>?_) (fun hh=>?_)
 all_goals
  refine wpS_bind (wpS_modify (wpS_bind (zau y2 (wpS_bind (zcj C hk yP hPa ha (by omega) (by omega) fun k k1 k2 k3=>?_)))))
  dsimp only
  have mA:Mg r a.toList b.toList (out++a.extract ia (ia+k)).toList (ia+k) ib:=by
   rw[Array.toList_append,zfx]
   refine m.as ha hb k fun i x hi hx z hz=>?_
   rw[y1] at hz;cases hz
   have:=k2 i x hi hx
   unfold bey at this
   simp only[Bool.false_eq_true,if_false,Bool.not_eq_true',decide_eq_false_iff_not] at this
   omega
  have nA:∀ z,a.toList[ia+k]? = some z->r y<=r z:=fun z hz=>by
   have hl:=(List.getElem?_eq_some_iff.mp hz).1
   rw[Array.length_toList] at hl
   have:=k3 k z (Nat.le_refl _) (by omega) hz
   unfold bey at this
   simp only[Bool.false_eq_true,if_false,Bool.not_eq_false',decide_eq_true_eq] at this
   omega
  refine zai (fun hh=>?_) (fun hh=>?_)
  ·have ck:=hh
   refine zai (fun hh=>?_) (fun hh=>?_)
   ·have c3:=hh
    exact wpS_pure ⟨_,rfl,.inr ⟨_,rfl,finA mA (by have:=beq_iff_eq.mp c3;omega)⟩⟩
   have c3:=hh
   rw[beq_iff_eq] at c3
   refine zai (fun hh=>?_) (fun hh=>?_)
   ·have c4:=hh
    exact wpS_pure ⟨_,rfl,.inr ⟨_,rfl,fin mA (.inl (by have:=beq_iff_eq.mp c4;omega))⟩⟩
   have c4:=hh
   rw[beq_iff_eq] at c4
   refine wpS_bind (zau y2 ?_)
   have M2:=mA.b1 ha hb y1 nA
   rw[<- Array.toList_push] at M2
   refine zai (fun hh=>?_) (fun hh=>?_)
   ·have c5:=hh
    exact wpS_pure ⟨_,rfl,.inr ⟨_,rfl,fin M2 (.inr (by have:=beq_iff_eq.mp c5;omega))⟩⟩
   have c5:=hh
   rw[beq_iff_eq] at c5
   obtain ⟨x,x1,x2,xP⟩:=aA (ia+k) (by omega)
   refine wpS_bind (zau x2 (wpS_bind (zcj C hk xP hPb hb (by omega) (by omega) fun k' k1' k2' k3'=>?_)))
   dsimp only
   have mB:Mg r a.toList b.toList ((out++a.extract ia (ia+k)).push y++b.extract (ib+1) (ib+1+k')).toList (ia+k) (ib+1+k'):=by
    rw[Array.toList_append,zfx]
    refine M2.bs ha hb k' fun i z hi hz v hv=>?_
    rw[x1] at hv;cases hv
    have:=k2' i z hi hz
    unfold bey at this
    simp only[if_true,decide_eq_true_eq] at this
    omega
   have nB:∀ z,b.toList[ib+1+k']? = some z->r x<=r z:=fun z hz=>by
    have hl:=(List.getElem?_eq_some_iff.mp hz).1
    rw[Array.length_toList] at hl
    have:=k3' k' z (Nat.le_refl _) (by omega) hz
    unfold bey at this
    simp only[if_true,decide_eq_false_iff_not] at this
    omega
   refine zai (fun hh=>?_) (fun hh=>?_)
   ·refine zai (fun hh=>?_) (fun hh=>?_)
    ·have c6:=hh
     exact wpS_pure ⟨_,rfl,.inr ⟨_,rfl,fin mB (.inr (by have:=beq_iff_eq.mp c6;omega))⟩⟩
    have c6:=hh
    rw[beq_iff_eq] at c6
    refine wpS_bind (zau x2 ?_)
    have M4:=mB.a1 ha hb x1 nB
    rw[<- Array.toList_push] at M4
    refine zai (fun hh=>?_) (fun hh=>?_)
    ·have c7:=hh
     exact wpS_pure ⟨_,rfl,.inr ⟨_,rfl,finA M4 (by have:=beq_iff_eq.mp c7;omega)⟩⟩
    have c7:=hh
    rw[beq_iff_eq] at c7
    refine zai (fun hh=>?_) (fun hh=>?_)
    ·exact wpS_pure ⟨_,rfl,.inl ⟨_,_,_,_,_,_,rfl,⟨M4,by omega,by omega⟩,by omega⟩⟩
    ·exact wpS_pure ⟨_,rfl,_,_,_,_,_,_,rfl,⟨M4,by omega,by omega⟩,by omega⟩
   ·have ck':=hh
    have e0:k'=0:=by omega
    subst e0
    refine wpS_bind (zau x2 ?_)
    have M4:=M2.a1 ha hb x1 nB
    rw[<- Array.toList_push] at M4
    refine zai (fun hh=>?_) (fun hh=>?_)
    ·have c7:=hh
     exact wpS_pure ⟨_,rfl,.inr ⟨_,rfl,finA M4 (by have:=beq_iff_eq.mp c7;omega)⟩⟩
    have c7:=hh
    rw[beq_iff_eq] at c7
    refine zai (fun hh=>?_) (fun hh=>?_)
    ·exact wpS_pure ⟨_,rfl,.inl ⟨_,_,_,_,_,_,rfl,⟨M4,by omega,by omega⟩,by omega⟩⟩
    ·exact wpS_pure ⟨_,rfl,_,_,_,_,_,_,rfl,⟨M4,by omega,by omega⟩,by omega⟩
  ·have ck:=hh
   have e0:k=0:=by omega
   subst e0
   refine wpS_bind (zau y2 ?_)
   have M2:=m.b1 ha hb y1 nA
   rw[<- Array.toList_push] at M2
   refine zai (fun hh=>?_) (fun hh=>?_)
   ·have c5:=hh
    exact wpS_pure ⟨_,rfl,.inr ⟨_,rfl,fin M2 (.inr (by have:=beq_iff_eq.mp c5;omega))⟩⟩
   have c5:=hh
   rw[beq_iff_eq] at c5
   obtain ⟨x,x1,x2,xP⟩:=aA ia (by omega)
   refine wpS_bind (zau x2 (wpS_bind (zcj C hk xP hPb hb (by omega) (by omega) fun k' k1' k2' k3'=>?_)))
   dsimp only
   have mB:Mg r a.toList b.toList (out.push y++b.extract (ib+1) (ib+1+k')).toList ia (ib+1+k'):=by
    rw[Array.toList_append,zfx]
    refine M2.bs ha hb k' fun i z hi hz v hv=>?_
    rw[x1] at hv;cases hv
    have:=k2' i z hi hz
    unfold bey at this
    simp only[if_true,decide_eq_true_eq] at this
    omega
   have nB:∀ z,b.toList[ib+1+k']? = some z->r x<=r z:=fun z hz=>by
    have hl:=(List.getElem?_eq_some_iff.mp hz).1
    rw[Array.length_toList] at hl
    have:=k3' k' z (Nat.le_refl _) (by omega) hz
    unfold bey at this
    simp only[if_true,decide_eq_false_iff_not] at this
    omega
   refine zai (fun hh=>?_) (fun hh=>?_)
   ·refine zai (fun hh=>?_) (fun hh=>?_)
    ·have c6:=hh
     exact wpS_pure ⟨_,rfl,.inr ⟨_,rfl,fin mB (.inr (by have:=beq_iff_eq.mp c6;omega))⟩⟩
    have c6:=hh
    rw[beq_iff_eq] at c6
    refine wpS_bind (zau x2 ?_)
    have M4:=mB.a1 ha hb x1 nB
    rw[<- Array.toList_push] at M4
    refine zai (fun hh=>?_) (fun hh=>?_)
    ·have c7:=hh
     exact wpS_pure ⟨_,rfl,.inr ⟨_,rfl,finA M4 (by have:=beq_iff_eq.mp c7;omega)⟩⟩
    have c7:=hh
    rw[beq_iff_eq] at c7
    refine zai (fun hh=>?_) (fun hh=>?_)
    ·exact wpS_pure ⟨_,rfl,.inl ⟨_,_,_,_,_,_,rfl,⟨M4,by omega,by omega⟩,by omega⟩⟩
    ·exact wpS_pure ⟨_,rfl,_,_,_,_,_,_,rfl,⟨M4,by omega,by omega⟩,by omega⟩
   ·have ck':=hh
    have e0:k'=0:=by omega
    subst e0
    refine wpS_bind (zau x2 ?_)
    have M4:=M2.a1 ha hb x1 nB
    rw[<- Array.toList_push] at M4
    refine zai (fun hh=>?_) (fun hh=>?_)
    ·have c7:=hh
     exact wpS_pure ⟨_,rfl,.inr ⟨_,rfl,finA M4 (by have:=beq_iff_eq.mp c7;omega)⟩⟩
    have c7:=hh
    rw[beq_iff_eq] at c7
    refine zai (fun hh=>?_) (fun hh=>?_)
    ·exact wpS_pure ⟨_,rfl,.inl ⟨_,_,_,_,_,_,rfl,⟨M4,by omega,by omega⟩,by omega⟩⟩
    ·exact wpS_pure ⟨_,rfl,_,_,_,_,_,_,rfl,⟨M4,by omega,by omega⟩,by omega⟩
end
def zkK:Array Keyed->Array Keyed->StateT SortSt Sem (Array Keyed):=sortPriv% PySem.Builtin.mergeHi
abbrev ng(r:Keyed->Int):Keyed->Int:=fun x=>- r x
theorem Srt.rev{r:Keyed->Int}{l:List Keyed}(h:Srt r l):Srt (ng r) l.reverse:=by
 unfold Srt
 rw[List.pairwise_reverse]
 exact h.imp fun h=>by show-r _<=- r _;omega
theorem Srt.rev'{r:Keyed->Int}{l:List Keyed}(h:Srt (ng r) l):Srt r l.reverse:=by
 unfold Srt
 rw[List.pairwise_reverse]
 exact h.imp fun {x y} h=>by have h':- r x<=- r y:=h;show r y<=r x;omega
theorem ze3(l:List Keyed){n:Nat}(h:n<=l.length):l.reverse.drop (l.length-n)=(l.take n).reverse:=by
 rw[List.drop_reverse,show l.length-(l.length-n)=n by omega]
theorem zgb(a:Array Keyed){i n:Nat}(hi:i<=n)(hn:n<=a.size):(a.extract i n).reverse.toList=(a.toList.reverse.drop (a.size-n)).take (n-i):=by
 have hn':n<=a.toList.length:=by rw[Array.length_toList];exact hn
 rw[show a.size=a.toList.length from rfl,ze3 _ hn',Array.toList_reverse,Array.toList_extract,List.extract_eq_take_drop,List.take_reverse,List.length_take]
 congr 1
 rw[List.drop_take]
 rw[show min n a.toList.length-(n-i)=i by omega]
theorem zpq(a:Array Keyed)(n:Nat):(a.extract 0 n).toList=a.toList.take n:=by
 rw[Array.toList_extract,List.extract_eq_take_drop];simp
theorem Mgd.rev{r:Keyed->Int}{a b l:List Keyed}(h:Mgd (ng r) b.reverse a.reverse l):Mgd r a b l.reverse:=by
 refine ⟨?_,h.2.rev'⟩
 refine l.reverse_perm.trans (h.1.trans ?_)
 refine (List.perm_append_comm).trans ?_
 exact (a.reverse_perm).append b.reverse_perm
section
variable{prog:Program}{w:World}{A:Around}{E:Value->Shared->Prop}{s:Shared}
def JH(r:Keyed->Int)(a b out:Array Keyed)(na nb:Nat):Prop:=Mg (ng r) b.toList.reverse a.toList.reverse out.toList (b.size-nb) (a.size-na)/\2<=nb/\nb<=b.size/\1<=na/\na<=a.size
theorem zki{kd:SortKind}{P:Keyed->Prop}{r:Keyed->Int}(C:Cp prog w A s kd P r){a b:Array Keyed}{st:SortSt}{Q:Array Keyed->SortSt->Prop}(hk:kindOf st=kd)(hPa:∀ x∈a.toList,P x)(hPb:∀ x∈b.toList,P x)(ha:Srt r a.toList)(hb:Srt r b.toList)(ha0:0<a.size)(hb0:0<b.size)
  (h0:∀ y,b.toList[0]? = some y->∀ x∈a.toList,r y<=r x) (hl:∀ x y,a.toList[a.size-1]? = some x->b.toList[b.size-1]? = some y->r y<=r x) (h:∀ out g,Mgd r a.toList b.toList out.toList->Q out (mkG st g)):wpS (model prog w) A E s (zkK a b) Q st:=by
 have sA:=hb.rev
 have sB:=ha.rev
 have aA:∀ na,1<=na->na<=a.size->∃ x,a.toList.reverse[a.size-na]? = some x/\a.toList[na-1]? = some x/\a[na-1]? = some x/\P x:=fun na h1 h2=>by
  have hl:na-1<a.size:=by omega
  have e:a.toList[na-1]? = some a[na-1]:=by rw[Array.getElem?_toList];exact getElem?_pos a _ hl
  refine ⟨a[na-1],?_,e,getElem?_pos a _ hl,hPa _ (List.mem_of_getElem? e)⟩
  rw[List.getElem?_reverse (by rw[Array.length_toList];omega),Array.length_toList,show a.size-1-(a.size-na)=na-1 by omega]
  exact e
 have bA:∀ nb,1<=nb->nb<=b.size->∃ x,b.toList.reverse[b.size-nb]? = some x/\b.toList[nb-1]? = some x/\b[nb-1]? = some x/\P x:=fun nb h1 h2=>by
  have hl:nb-1<b.size:=by omega
  have e:b.toList[nb-1]? = some b[nb-1]:=by rw[Array.getElem?_toList];exact getElem?_pos b _ hl
  refine ⟨b[nb-1],?_,e,getElem?_pos b _ hl,hPb _ (List.mem_of_getElem? e)⟩
  rw[List.getElem?_reverse (by rw[Array.length_toList];omega),Array.length_toList,show b.size-1-(b.size-nb)=nb-1 by omega]
  exact e
 have fin:∀{out:Array Keyed}{na nb:Nat},Mg (ng r) b.toList.reverse a.toList.reverse out.toList (b.size-nb) (a.size-na)->na<=a.size->nb<=b.size->(na=0\/nb=0)->Mgd r a.toList b.toList (a.extract 0 na++b.extract 0 nb++out.reverse).toList:=fun {out na nb} m h1 h2 e=>by
  have:=(m.fin sA sB (by simp;omega)).rev
  rw[show b.size-nb=b.toList.length-nb from rfl,show a.size-na=a.toList.length-na from rfl,ze3 _ (show nb<=b.toList.length by rw[Array.length_toList];exact h2),ze3 _ (show na<=a.toList.length by rw[Array.length_toList];exact h1)] at this
  rw[Array.toList_append,Array.toList_append,zpq,zpq,Array.toList_reverse]
  simpa [List.reverse_append] using this
 have finB:∀{out:Array Keyed}{na nb:Nat},Mg (ng r) b.toList.reverse a.toList.reverse out.toList (b.size-nb) (a.size-na)->na<=a.size->nb=1->Mgd r a.toList b.toList (b.extract 0 nb++a.extract 0 na++out.reverse).toList:=fun {out na nb} m h1 e=>by
  have:=(m.finA sA sB (by simp;omega) (fun x hx y hy=>by
   rw[List.getElem?_reverse (by rw[Array.length_toList];omega),Array.length_toList,show b.size-1-(b.size-nb)=0 by omega] at hx
   have:=h0 x hx y (List.mem_reverse.mp hy)
   show-r y<=- r x
   omega)).rev
  rw[show b.size-nb=b.toList.length-nb from rfl,show a.size-na=a.toList.length-na from rfl,ze3 _ (show nb<=b.toList.length by rw[Array.length_toList];omega),ze3 _ (show na<=a.toList.length by rw[Array.length_toList];exact h1)] at this
  rw[Array.toList_append,Array.toList_append,zpq,zpq,Array.toList_reverse]
  simpa [List.reverse_append] using this
 unfold zkK
 refine wpS_bind (zcW ?_)
 dsimp only
 obtain ⟨x0,e0,e1,e2,p0⟩:=aA a.size (by omega) (Nat.le_refl _)
 refine wpS_bind (zau e2 ?_)
 have m0:Mg (ng r) b.toList.reverse a.toList.reverse (#[x0]:Array Keyed).toList (b.size-b.size) (a.size-(a.size-1)):=by
  have m:Mg (ng r) b.toList.reverse a.toList.reverse [] 0 0:=⟨by simp,.nil,fun x hx=>by cases hx⟩
  rw[Nat.sub_self] at e0
  have:=m.b1 sA sB e0 fun y hy=>by
   rw[List.getElem?_reverse (by rw[Array.length_toList];omega),Array.length_toList,Nat.sub_zero] at hy
   have:=hl x0 y e1 hy
   show-r x0<=- r y
   omega
  rw[Nat.sub_self,show a.size-(a.size-1)=0+1 by omega]
  exact this
 refine zai (fun c1=>?_) (fun c1=>?_)
 ·exact wpS_pure (h _ (gallopOf st) (fin m0 (by omega) (Nat.le_refl _) (.inl (beq_iff_eq.mp c1))))
 rw[beq_iff_eq] at c1
 refine zai (fun c2=>?_) (fun c2=>?_)
 ·exact wpS_pure (h _ (gallopOf st) (finB m0 (by omega) (beq_iff_eq.mp c2)))
 rw[beq_iff_eq] at c2
 refine wpS_bind (wpS_get ?_)
 try dsimp only
 refine wpS_bind (wpS_mono (Q:=fun c st'=>∃ g,st'=mkG st g/\∃ res,c.1=some res/\Mgd r a.toList b.toList res.toList) (wpS_forRange (I:=fun t c st'=>∃ g,st'=mkG st g/\∃ na nb out mg,c=(none,na,nb,out,mg)/\JH r a b out na nb/\t<=(a.size-na)+(b.size-nb)) ?_ ?_ ⟨gallopOf st,rfl,_,_,_,_,rfl,⟨m0,by omega,by omega,by omega,by omega⟩,by omega⟩) ?_)
 rotate_left
 ·rintro c st' ⟨g,rfl,na,nb,out,mg,rfl,⟨_,j1,j2,j3,j4⟩,j5⟩
  omega
 ·rintro ⟨c1,c⟩ st' ⟨g,rfl,res,e,hm⟩
  dsimp only at e ⊢
  subst e
  exact wpS_pure (h res g hm)
 rintro t c st1 _ ht ⟨g,rfl,na,nb,out,mg,rfl,hJ,hc⟩
 dsimp only
 refine wpS_bind (wpS_mono (Q:=fun c st'=>st'=mkG st g/\((∃ na2 nb2 out ac bc,c=(none,na2,nb2,out,ac,bc)/\JH r a b out na2 nb2/\(a.size-na)+(b.size-nb)+1<=(a.size-na2)+(b.size-nb2))\/∃ res,c.1=some res/\Mgd r a.toList b.toList res.toList)) (wpS_forRange (I:=fun t c st'=>st'=mkG st g/\∃ na2 nb2 out ac bc,c=(none,na2,nb2,out,ac,bc)/\JH r a b out na2 nb2/\(a.size-na)+(b.size-nb)+t<=(a.size-na2)+(b.size-nb2)) ?_ ?_ ⟨rfl,_,_,_,_,_,rfl,hJ,by omega⟩) ?_)
 ·rintro t c st2 _ ht ⟨rfl,na,nb,out,ac,bc,rfl,⟨m,j1,j2,j3,j4⟩,hc⟩
  dsimp only
  obtain ⟨y,y1,y2,y3,yP⟩:=bA nb (by omega) j2
  obtain ⟨x,x1,x2,x3,xP⟩:=aA na j3 j4
  refine wpS_bind (zau y3 (wpS_bind (zau x3 (wpS_bind (C E y x _ _ yP xP hk ?_)))))
  dsimp only
  by_cases hlt:r y<r x
  ·rw[if_pos (decide_eq_true hlt)]
   refine wpS_bind (zau x3 ?_)
   have m':Mg (ng r) b.toList.reverse a.toList.reverse (out.push x).toList (b.size-nb) (a.size-(na-1)):=by
    rw[Array.toList_push,show a.size-(na-1)=a.size-na+1 by omega]
    exact m.b1 sA sB x1 fun z hz=>by rw[y1] at hz;cases hz;show-r x<=- r y;omega
   refine zai (fun c3=>?_) (fun c3=>?_)
   ·exact wpS_pure ⟨rfl,.inr ⟨_,rfl,fin m' (by omega) j2 (.inl (beq_iff_eq.mp c3))⟩⟩
   rw[beq_iff_eq] at c3
   refine zai (fun c4=>?_) (fun c4=>?_)
   ·exact wpS_pure ⟨rfl,.inl ⟨_,_,_,_,_,rfl,⟨m',j1,j2,by omega,by omega⟩,by omega⟩⟩
   ·exact wpS_pure ⟨rfl,_,_,_,_,_,rfl,⟨m',j1,j2,by omega,by omega⟩,by omega⟩
  ·rw[if_neg (by simpa using hlt)]
   refine wpS_bind (zau y3 ?_)
   have m':Mg (ng r) b.toList.reverse a.toList.reverse (out.push y).toList (b.size-(nb-1)) (a.size-na):=by
    rw[Array.toList_push,show b.size-(nb-1)=b.size-nb+1 by omega]
    exact m.a1 sA sB y1 fun z hz=>by rw[x1] at hz;cases hz;show-r y<=- r x;omega
   refine zai (fun c3=>?_) (fun c3=>?_)
   ·exact wpS_pure ⟨rfl,.inr ⟨_,rfl,finB m' j4 (beq_iff_eq.mp c3)⟩⟩
   rw[beq_iff_eq] at c3
   refine zai (fun c4=>?_) (fun c4=>?_)
   ·exact wpS_pure ⟨rfl,.inl ⟨_,_,_,_,_,rfl,⟨m',by omega,by omega,j3,j4⟩,by omega⟩⟩
   ·exact wpS_pure ⟨rfl,_,_,_,_,_,rfl,⟨m',by omega,by omega,j3,j4⟩,by omega⟩
 ·rintro c st2 ⟨rfl,na2,nb2,out,ac,bc,rfl,hJ2,hc2⟩
  exact ⟨rfl,.inl ⟨_,_,_,_,_,rfl,hJ2,by omega⟩⟩
 rintro ⟨c1,c⟩ st2 ⟨rfl,hc1⟩
 rcases hc1 with ⟨na,nb,out,ac,bc,e,hJ,hc⟩|⟨res,e,hm⟩
 rotate_left
 ·dsimp only at e ⊢
  subst e
  exact wpS_pure ⟨g,rfl,res,rfl,hm⟩
 cases e
 dsimp only
 refine wpS_bind (zcW ?_)
 refine wpS_bind (wpS_mono (Q:=fun c st'=>∃ g,st'=mkG st g/\((∃ na2 nb2 out mg ac bc,c=(none,na2,nb2,out,mg,ac,bc)/\JH r a b out na2 nb2/\(a.size-na)+(b.size-nb)<=(a.size-na2)+(b.size-nb2))\/∃ res,c.1=some res/\Mgd r a.toList b.toList res.toList)) (wpS_forRange (I:=fun t c st'=>∃ g,st'=mkG st g/\∃ na2 nb2 out mg ac bc,c=(none,na2,nb2,out,mg,ac,bc)/\JH r a b out na2 nb2/\(a.size-na)+(b.size-nb)<=(a.size-na2)+(b.size-nb2)) ?_ ?_ ⟨g,rfl,_,_,_,_,_,_,rfl,hJ,by omega⟩) ?_)
 rotate_left
 ·rintro c st2 ⟨g,rfl,na2,nb2,out,mg,ac,bc,rfl,hJ2,hc2⟩
  exact ⟨g,rfl,.inl ⟨_,_,_,_,_,_,rfl,hJ2,hc2⟩⟩
 ·rintro ⟨c1,c⟩ st2 ⟨g,rfl,hc1⟩
  rcases hc1 with ⟨na,nb,out,mg,ac,bc,e,hJ,hc⟩|⟨res,e,hm⟩
  ·cases e
   dsimp only
   refine wpS_bind (wpS_modify ?_)
   exact wpS_pure ⟨mg+1,rfl,_,_,_,_,rfl,hJ,by omega⟩
  ·dsimp only at e ⊢
   subst e
   exact wpS_pure ⟨g,rfl,res,rfl,hm⟩
 rintro t c st2 _ ht ⟨g,rfl,na,nb,out,mg,ac,bc,rfl,⟨m,j1,j2,j3,j4⟩,hc2⟩
 dsimp only
 obtain ⟨y,y1,y2,y3,yP⟩:=bA nb (by omega) j2
 refine zai (fun _=>?_) (fun _=>?_)
 all_goals
  refine wpS_bind (wpS_modify (wpS_bind (zau y3 (wpS_bind (zcj C hk yP hPa ha (by omega) (by omega) fun p p1 p2 p3=>?_)))))
  dsimp only
  have p2':∀ j z,j<p->a.toList[j]? = some z->r z<=r y:=fun j z hj hz=>by
   have:=p2 j z hj (by rw[Nat.zero_add];exact hz)
   unfold bey at this
   simp only[Bool.false_eq_true,if_false,Bool.not_eq_true',decide_eq_false_iff_not] at this
   omega
  have p3':∀ j z,p<=j->j<na->a.toList[j]? = some z->r y<r z:=fun j z hj hj' hz=>by
   have:=p3 j z hj hj' (by rw[Nat.zero_add];exact hz)
   unfold bey at this
   simp only[Bool.false_eq_true,if_false,Bool.not_eq_false',decide_eq_true_eq] at this
   exact this
  have nA:∀ z,a.toList.reverse[a.size-p]? = some z->ng r y<=ng r z:=fun z hz=>by
   by_cases p0:p=0
   ·subst p0
    rw[Nat.sub_zero,List.getElem?_eq_none (by simp)] at hz
    cases hz
   rw[List.getElem?_reverse (by rw[Array.length_toList];omega),Array.length_toList,show a.size-1-(a.size-p)=p-1 by omega] at hz
   have:=p2' (p-1) z (by omega) hz
   show-r y<=- r z
   omega
  refine zai (fun ck=>?_) (fun ck=>?_)
  ·have mA:Mg (ng r) b.toList.reverse a.toList.reverse (out++(a.extract p na).reverse).toList (b.size-nb) (a.size-p):=by
    rw[Array.toList_append,zgb a (by omega) (by omega),show a.size-p=a.size-na+(na-p) by omega]
    refine m.bs sA sB (na-p) fun i z hi hz v hv=>?_
    rw[y1] at hv;cases hv
    rw[List.getElem?_reverse (by rw[Array.length_toList];omega),Array.length_toList] at hz
    have:=p3' _ z (by omega) (by omega) hz
    show-r z<=- r y
    omega
   refine zai (fun c3=>?_) (fun c3=>?_)
   ·exact wpS_pure ⟨_,rfl,.inr ⟨_,rfl,fin mA (by omega) (by omega) (.inl (beq_iff_eq.mp c3))⟩⟩
   rw[beq_iff_eq] at c3
   have M2:=mA.a1 sA sB y1 nA
   rw[<- Array.toList_push] at M2
   have M3:Mg (ng r) b.toList.reverse a.toList.reverse ((out++(a.extract p na).reverse).push y).toList (b.size-(nb-1)) (a.size-p):=by rw[show b.size-(nb-1)=b.size-nb+1 by omega];exact M2
   refine wpS_bind (zau y3 ?_)
   refine zai (fun c5=>?_) (fun c5=>?_)
   ·exact wpS_pure ⟨_,rfl,.inr ⟨_,rfl,finB M3 (by omega) (beq_iff_eq.mp c5)⟩⟩
   rw[beq_iff_eq] at c5
   obtain ⟨x,x1,x2,x3,xP⟩:=aA (p) (by omega) (by omega)
   refine wpS_bind (zau x3 (wpS_bind (zcj C hk xP hPb hb (by omega) (by omega) fun q q1 q2 q3=>?_)))
   dsimp only
   have q2':∀ j z,j<q->b.toList[j]? = some z->r z<r x:=fun j z hj hz=>by
    have:=q2 j z hj (by rw[Nat.zero_add];exact hz)
    unfold bey at this
    simp only[if_true,decide_eq_true_eq] at this
    exact this
   have q3':∀ j z,q<=j->j<nb-1->b.toList[j]? = some z->r x<=r z:=fun j z hj hj' hz=>by
    have:=q3 j z hj hj' (by rw[Nat.zero_add];exact hz)
    unfold bey at this
    simp only[if_true,decide_eq_false_iff_not] at this
    omega
   have nB:∀ z,b.toList.reverse[b.size-q]? = some z->ng r x<=ng r z:=fun z hz=>by
    by_cases q0:q=0
    ·subst q0
     rw[Nat.sub_zero,List.getElem?_eq_none (by simp)] at hz
     cases hz
    rw[List.getElem?_reverse (by rw[Array.length_toList];omega),Array.length_toList,show b.size-1-(b.size-q)=q-1 by omega] at hz
    have:=q2' (q-1) z (by omega) hz
    show-r x<=- r z
    omega
   refine zai (fun c9=>?_) (fun c9=>?_)
   ·have M6:Mg (ng r) b.toList.reverse a.toList.reverse (((out++(a.extract p na).reverse).push y)++(b.extract q (nb-1)).reverse).toList (b.size-q) (a.size-p):=by
     rw[Array.toList_append,zgb b (by omega) (by omega),show b.size-q=b.size-(nb-1)+(nb-1-q) by omega]
     refine M3.as sA sB (nb-1-q) fun i z hi hz v hv=>?_
     rw[x1] at hv;cases hv
     rw[List.getElem?_reverse (by rw[Array.length_toList];omega),Array.length_toList] at hz
     have:=q3' _ z (by omega) (by omega) hz
     show-r z<=- r x
     omega
    refine zai (fun c6=>?_) (fun c6=>?_)
    ·exact wpS_pure ⟨_,rfl,.inr ⟨_,rfl,finB M6 (by omega) (beq_iff_eq.mp c6)⟩⟩
    rw[beq_iff_eq] at c6
    refine zai (fun c6'=>?_) (fun c6'=>?_)
    ·exact wpS_pure ⟨_,rfl,.inr ⟨_,rfl,fin M6 (by omega) (by omega) (.inr (beq_iff_eq.mp c6'))⟩⟩
    rw[beq_iff_eq] at c6'
    have M4:=M6.b1 sA sB x1 nB
    rw[<- Array.toList_push] at M4
    refine wpS_bind (zau x3 ?_)
    refine zai (fun c7=>?_) (fun c7=>?_)
    ·exact wpS_pure ⟨_,rfl,.inr ⟨_,rfl,fin (na:=p-1) (nb:=q) (by rw[show a.size-(p-1)=a.size-p+1 by omega];exact M4) (by omega) (by omega) (.inl (beq_iff_eq.mp c7))⟩⟩
    rw[beq_iff_eq] at c7
    have M5:Mg (ng r) b.toList.reverse a.toList.reverse ((((out++(a.extract p na).reverse).push y)++(b.extract q (nb-1)).reverse).push x).toList (b.size-q) (a.size-(p-1)):=by rw[show a.size-(p-1)=a.size-p+1 by omega];exact M4
    refine zai (fun c8=>?_) (fun c8=>?_)
    ·exact wpS_pure ⟨_,rfl,.inl ⟨_,_,_,_,_,_,rfl,⟨M5,by omega,by omega,by omega,by omega⟩,by omega⟩⟩
    ·exact wpS_pure ⟨_,rfl,_,_,_,_,_,_,rfl,⟨M5,by omega,by omega,by omega,by omega⟩,by omega⟩
   ·have eq:q=nb-1:=by omega
    subst eq
    have M4:=M3.b1 sA sB x1 nB
    rw[<- Array.toList_push] at M4
    refine wpS_bind (zau x3 ?_)
    refine zai (fun c7=>?_) (fun c7=>?_)
    ·exact wpS_pure ⟨_,rfl,.inr ⟨_,rfl,fin (na:=p-1) (nb:=(nb-1)) (by rw[show a.size-(p-1)=a.size-p+1 by omega];exact M4) (by omega) (by omega) (.inl (beq_iff_eq.mp c7))⟩⟩
    rw[beq_iff_eq] at c7
    have M5:Mg (ng r) b.toList.reverse a.toList.reverse (((out++(a.extract p na).reverse).push y).push x).toList (b.size-(nb-1)) (a.size-(p-1)):=by rw[show a.size-(p-1)=a.size-p+1 by omega];exact M4
    refine zai (fun c8=>?_) (fun c8=>?_)
    ·exact wpS_pure ⟨_,rfl,.inl ⟨_,_,_,_,_,_,rfl,⟨M5,by omega,by omega,by omega,by omega⟩,by omega⟩⟩
    ·exact wpS_pure ⟨_,rfl,_,_,_,_,_,_,rfl,⟨M5,by omega,by omega,by omega,by omega⟩,by omega⟩
  ·have ep:p=na:=by omega
   subst ep
   have M2:=m.a1 sA sB y1 nA
   rw[<- Array.toList_push] at M2
   have M3:Mg (ng r) b.toList.reverse a.toList.reverse (out.push y).toList (b.size-(nb-1)) (a.size-p):=by rw[show b.size-(nb-1)=b.size-nb+1 by omega];exact M2
   refine wpS_bind (zau y3 ?_)
   refine zai (fun c5=>?_) (fun c5=>?_)
   ·exact wpS_pure ⟨_,rfl,.inr ⟨_,rfl,finB M3 (by omega) (beq_iff_eq.mp c5)⟩⟩
   rw[beq_iff_eq] at c5
   obtain ⟨x,x1,x2,x3,xP⟩:=aA (p) (by omega) (by omega)
   refine wpS_bind (zau x3 (wpS_bind (zcj C hk xP hPb hb (by omega) (by omega) fun q q1 q2 q3=>?_)))
   dsimp only
   have q2':∀ j z,j<q->b.toList[j]? = some z->r z<r x:=fun j z hj hz=>by
    have:=q2 j z hj (by rw[Nat.zero_add];exact hz)
    unfold bey at this
    simp only[if_true,decide_eq_true_eq] at this
    exact this
   have q3':∀ j z,q<=j->j<nb-1->b.toList[j]? = some z->r x<=r z:=fun j z hj hj' hz=>by
    have:=q3 j z hj hj' (by rw[Nat.zero_add];exact hz)
    unfold bey at this
    simp only[if_true,decide_eq_false_iff_not] at this
    omega
   have nB:∀ z,b.toList.reverse[b.size-q]? = some z->ng r x<=ng r z:=fun z hz=>by
    by_cases q0:q=0
    ·subst q0
     rw[Nat.sub_zero,List.getElem?_eq_none (by simp)] at hz
     cases hz
    rw[List.getElem?_reverse (by rw[Array.length_toList];omega),Array.length_toList,show b.size-1-(b.size-q)=q-1 by omega] at hz
    have:=q2' (q-1) z (by omega) hz
    show-r x<=- r z
    omega
   refine zai (fun c9=>?_) (fun c9=>?_)
   ·have M6:Mg (ng r) b.toList.reverse a.toList.reverse ((out.push y)++(b.extract q (nb-1)).reverse).toList (b.size-q) (a.size-p):=by
     rw[Array.toList_append,zgb b (by omega) (by omega),show b.size-q=b.size-(nb-1)+(nb-1-q) by omega]
     refine M3.as sA sB (nb-1-q) fun i z hi hz v hv=>?_
     rw[x1] at hv;cases hv
     rw[List.getElem?_reverse (by rw[Array.length_toList];omega),Array.length_toList] at hz
     have:=q3' _ z (by omega) (by omega) hz
     show-r z<=- r x
     omega
    refine zai (fun c6=>?_) (fun c6=>?_)
    ·exact wpS_pure ⟨_,rfl,.inr ⟨_,rfl,finB M6 (by omega) (beq_iff_eq.mp c6)⟩⟩
    rw[beq_iff_eq] at c6
    refine zai (fun c6'=>?_) (fun c6'=>?_)
    ·exact wpS_pure ⟨_,rfl,.inr ⟨_,rfl,fin M6 (by omega) (by omega) (.inr (beq_iff_eq.mp c6'))⟩⟩
    rw[beq_iff_eq] at c6'
    have M4:=M6.b1 sA sB x1 nB
    rw[<- Array.toList_push] at M4
    refine wpS_bind (zau x3 ?_)
    refine zai (fun c7=>?_) (fun c7=>?_)
    ·exact wpS_pure ⟨_,rfl,.inr ⟨_,rfl,fin (na:=p-1) (nb:=q) (by rw[show a.size-(p-1)=a.size-p+1 by omega];exact M4) (by omega) (by omega) (.inl (beq_iff_eq.mp c7))⟩⟩
    rw[beq_iff_eq] at c7
    have M5:Mg (ng r) b.toList.reverse a.toList.reverse (((out.push y)++(b.extract q (nb-1)).reverse).push x).toList (b.size-q) (a.size-(p-1)):=by rw[show a.size-(p-1)=a.size-p+1 by omega];exact M4
    refine zai (fun c8=>?_) (fun c8=>?_)
    ·exact wpS_pure ⟨_,rfl,.inl ⟨_,_,_,_,_,_,rfl,⟨M5,by omega,by omega,by omega,by omega⟩,by omega⟩⟩
    ·exact wpS_pure ⟨_,rfl,_,_,_,_,_,_,rfl,⟨M5,by omega,by omega,by omega,by omega⟩,by omega⟩
   ·have eq:q=nb-1:=by omega
    subst eq
    have M4:=M3.b1 sA sB x1 nB
    rw[<- Array.toList_push] at M4
    refine wpS_bind (zau x3 ?_)
    refine zai (fun c7=>?_) (fun c7=>?_)
    ·exact wpS_pure ⟨_,rfl,.inr ⟨_,rfl,fin (na:=p-1) (nb:=(nb-1)) (by rw[show a.size-(p-1)=a.size-p+1 by omega];exact M4) (by omega) (by omega) (.inl (beq_iff_eq.mp c7))⟩⟩
    rw[beq_iff_eq] at c7
    have M5:Mg (ng r) b.toList.reverse a.toList.reverse ((out.push y).push x).toList (b.size-(nb-1)) (a.size-(p-1)):=by rw[show a.size-(p-1)=a.size-p+1 by omega];exact M4
    refine zai (fun c8=>?_) (fun c8=>?_)
    ·exact wpS_pure ⟨_,rfl,.inl ⟨_,_,_,_,_,_,rfl,⟨M5,by omega,by omega,by omega,by omega⟩,by omega⟩⟩
    ·exact wpS_pure ⟨_,rfl,_,_,_,_,_,_,rfl,⟨M5,by omega,by omega,by omega,by omega⟩,by omega⟩
end
def zeF:Nat->StateT SortSt Sem Bool:=sortPriv% PySem.Builtin.mergeAt
theorem zbz{l:List Keyed}{i n j:Nat}(hj:j<n):((l.drop i).take n)[j]? = l[i+j]? := by
 rw[List.getElem?_take,if_pos hj,List.getElem?_drop]
theorem zn3(p0:Nat):∀(m:List Keyed)(k:Nat)(arr:Array Keyed),p0+k+m.length<=arr.size->((m.zipIdx k).foldl (fun a x=>a.setIfInBounds (p0+x.2) x.1) arr).toList=arr.toList.take (p0+k)++m++arr.toList.drop (p0+k+m.length)
 |[],k,arr,_=>by simp
 |x::m,k,arr,h=>by
  rw[List.zipIdx_cons,List.foldl_cons]
  rw[List.length_cons] at h
  have ih:=zn3 p0 m (k+1) (arr.setIfInBounds (p0+k) x) (by rw[Array.size_setIfInBounds];omega)
  dsimp only at ih ⊢
  rw[ih,Array.toList_setIfInBounds]
  have hl:p0+k<arr.toList.length:=by rw[Array.length_toList];omega
  rw[List.set_eq_take_append_cons_drop,if_pos hl,List.length_cons]
  have e1:(arr.toList.take (p0+k)++x::arr.toList.drop (p0+k+1)).take (p0+(k+1))=arr.toList.take (p0+k)++[x]:=by
   rw[List.take_append,List.length_take,show p0+(k+1)-min (p0+k) arr.toList.length=1 by omega]
   rw[List.take_of_length_le (by rw[List.length_take];omega)]
   rfl
  have e2:(arr.toList.take (p0+k)++x::arr.toList.drop (p0+k+1)).drop (p0+(k+1)+m.length)=arr.toList.drop (p0+k+(m.length+1)):=by
   rw[List.drop_append,List.length_take,List.drop_eq_nil_iff.mpr (by rw[List.length_take];omega),List.nil_append,show p0+(k+1)+m.length-min (p0+k) arr.toList.length=m.length+1 by omega,List.drop_succ_cons,List.drop_drop]
   congr 1
   omega
  rw[e1,e2]
  simp
section
variable{r:Keyed->Int}{RA RB:List Keyed}{k q:Nat}{y x:Keyed}
theorem glue(sA:Srt r RA)(sB:Srt r RB)(hy:RB[0]? = some y)(hx:RA[RA.length-1]? = some x)(h1:∀ j z,j<k->RA[j]? = some z->r z<=r y)(h3:∀ j z,q<=j->RB[j]? = some z->r x<=r z){m:List Keyed}(hm:Mgd r (RA.drop k) (RB.take q) m) :
  (RA.take k++(m++RB.drop q)).Perm (RA++RB)/\Srt r (RA.take k++(m++RB.drop q)):=by
 have inm:∀ z∈m,z∈RA.drop k\/z∈RB.take q:=fun z hz=>List.mem_append.mp (hm.1.mem_iff.mp hz)
 have ly:∀ z∈RB,r y<=r z:=fun z hz=>by
  obtain ⟨j,e⟩:=List.getElem?_of_mem hz
  exact sB.at (Nat.zero_le _) hy e
 have lx:∀ z∈RA,r z<=r x:=fun z hz=>by
  obtain ⟨j,e⟩:=List.getElem?_of_mem hz
  exact sA.at (by have:=(List.getElem?_eq_some_iff.mp e).1;omega) e hx
 constructor
 ·refine (List.Perm.append_left _ (hm.1.append_right _)).trans ?_
  rw[List.append_assoc,List.take_append_drop,<- List.append_assoc,List.take_append_drop]
 ·refine List.pairwise_append.mpr ⟨sA.take k,List.pairwise_append.mpr ⟨hm.2,sB.drop q,fun z hz v hv=>?_⟩,fun z hz v hv=>?_⟩
  ·obtain ⟨j',g1,g2⟩:=zcp hv
   rcases inm z hz with w|w
   ·exact Int.le_trans (lx z (List.mem_of_mem_drop w)) (h3 j' v g1 g2)
   ·obtain ⟨j,g3,g4⟩:=zee w
    exact sB.at (by omega) g4 g2
  ·obtain ⟨j,g1,g2⟩:=zee hz
   have zy:=h1 j z g1 g2
   have vb:v∈RB->r z<=r v:=fun w=>Int.le_trans zy (ly v w)
   rcases List.mem_append.mp hv with w|w
   ·rcases inm v w with w|w
    ·obtain ⟨j',g3,g4⟩:=zcp w
     exact sA.at (by omega) g2 g4
    ·exact vb (List.mem_of_mem_take w)
   ·exact vb (List.mem_of_mem_drop w)
end
section
variable{prog:Program}{w:World}{A:Around}{E:Value->Shared->Prop}{s:Shared}
theorem zqa{st st':SortSt}{Q:PUnit->SortSt->Prop}(h:Q ⟨⟩ st'):wpS (model prog w) A E s (set st':StateT SortSt Sem PUnit) Q st:=by
 unfold wpS;rw[StateT.run_set];exact wpAny_pure ⟨rfl,h⟩
theorem zfl{kd:SortKind}{P:Keyed->Prop}{r:Keyed->Int}(C:Cp prog w A s kd P r){left:Bool}{key:Keyed}{a:Array Keyed}{i n hint:Nat}{st:SortSt}{Q:Option Nat->SortSt->Prop}(hk:kindOf st=kd)(hP:P key)(hPa:∀ x∈a.toList,P x)(ha:Srt r ((a.toList.drop i).take n))(hn:i+n<=a.size)(hh:hint<n)
  (h:∀ k,k<=n->(∀ j x,j<k->a.toList[i+j]? = some x->bey r left key x=true)->(∀ j x,k<=j->j<n->a.toList[i+j]? = some x->bey r left key x=false)->Q (some k) st) :
  wpS (model prog w) A E s (zh6 left key a i n hint) Q st:=by
 have at_:∀ j,j<n->∃ x,a.toList[i+j]? = some x/\a[i+j]? = some x:=fun j hj=>by
  have hl:i+j<a.size:=by omega
  exact ⟨a[i+j],by rw[Array.getElem?_toList];exact getElem?_pos a _ hl,getElem?_pos a _ hl⟩
 refine zgC C hk hP (bb:=fun j=>match a.toList[i+j]? with|some x=>bey r left key x|none=>false) (fun j hj=>?_) (fun j j' hjj hj' hb=>?_) hh (fun k hk h1 h2=>h k hk (fun j x hj hx=>?_) (fun j x hkj hj hx=>?_))
 ·obtain ⟨x,e1,e2⟩:=at_ j hj
  exact ⟨x,e2,hPa x (List.mem_of_getElem? e1),by rw[e1]⟩
 ·obtain ⟨x,e1,_⟩:=at_ j (by omega)
  obtain ⟨y,e2,_⟩:=at_ j' hj'
  have:=ha.at hjj (by rw[zbz (by omega)];exact e1) (by rw[zbz hj'];exact e2)
  try dsimp only at hb ⊢
  rw[e2] at hb
  rw[e1]
  dsimp only at hb ⊢
  unfold bey at hb ⊢
  cases left with
  |true =>
   simp only[if_true,decide_eq_true_eq] at hb ⊢
   omega
  |false =>
   simp only[Bool.false_eq_true,if_false,Bool.not_eq_true',decide_eq_false_iff_not] at hb ⊢
   omega
 ·have:=h1 j hj
  try dsimp only at this
  rw[hx] at this
  exact this
 ·have:=h2 j hkj hj
  try dsimp only at this
  rw[hx] at this
  exact this
theorem zj5{kd:SortKind}{P:Keyed->Prop}{r:Keyed->Int}(C:Cp prog w A s kd P r){i sa na sb nb pw p2:Nat}{st:SortSt}{Q:Bool->SortSt->Prop}(hk:kindOf st=kd)(hf:failedOf st=none)(hP:∀ x∈(arrOf st).toList,P x)(e1:(pendingOf st)[i]? = some (sa,na,pw))(e2:(pendingOf st)[i+1]? = some (sb,nb,p2))(hsb:sb=sa+na)(hna:0<na)(hnb:0<nb)(hsz:sb+nb<=(arrOf st).size)
  (sA:Srt r (((arrOf st).toList.drop sa).take na)) (sB:Srt r (((arrOf st).toList.drop sb).take nb))
  (h:∀(arr':Array Keyed)(m:List Keyed)(g:Nat),arr'.toList=(arrOf st).toList.take sa++m++(arrOf st).toList.drop (sb+nb)->m.Perm (((arrOf st).toList.drop sa).take (na+nb))->Srt r m->Q true (SortSt.mk' (kindOf st) arr' (((pendingOf st).setIfInBounds i (sa,na+nb,pw)).eraseIdxIfInBounds (i+1)) g none)) :
  wpS (model prog w) A E s (zeF i) Q st:=by
 have at_:∀ j,j<(arrOf st).size->∃ x,(arrOf st).toList[j]? = some x/\(arrOf st)[j]? = some x/\P x:=fun j hj=>by
  have e:(arrOf st).toList[j]? = some ((arrOf st)[j]'hj):=by rw[Array.getElem?_toList];exact getElem?_pos (arrOf st) j hj
  exact ⟨_,e,getElem?_pos (arrOf st) j hj,hP _ (List.mem_of_getElem? e)⟩
 unfold zeF
 refine wpS_bind (wpS_get ?_)
 have e1':(sortPriv% PySem.Builtin.SortState.pending) st=pendingOf st:=rfl
 rw[e1',e1,e2]
 dsimp only
 refine wpS_bind (zqa ?_)
 obtain ⟨y,y1,y2,yP⟩:=at_ sb (by omega)
 refine wpS_bind (zau y2 (wpS_bind (zfl (a:=arrOf st) C hk yP hP sA (by omega) (by omega) fun k k1 k2 k3=>?_)))
 dsimp only
 have cut:((arrOf st).toList.drop sa).take (na+nb)=((arrOf st).toList.drop sa).take na++((arrOf st).toList.drop sb).take nb:=by
  rw[List.take_add,List.drop_drop,hsb]
 have whole:(arrOf st).toList=(arrOf st).toList.take sa++((arrOf st).toList.drop sa).take (na+nb)++(arrOf st).toList.drop (sb+nb):=by
  rw[List.append_assoc,show sb+nb=sa+(na+nb) by omega,<- List.drop_drop,List.take_append_drop,List.take_append_drop]
 have lenA:(((arrOf st).toList.drop sa).take na).length=na:=by rw[List.length_take,List.length_drop,Array.length_toList];omega
 have lenB:(((arrOf st).toList.drop sb).take nb).length=nb:=by rw[List.length_take,List.length_drop,Array.length_toList];omega
 have hy0:(((arrOf st).toList.drop sb).take nb)[0]? = some y:=by rw[zbz hnb];exact y1
 have k2':∀ j z,j<k->(((arrOf st).toList.drop sa).take na)[j]? = some z->r z<=r y:=fun j z hj hz=>by
  rw[zbz (by omega)] at hz
  have:=k2 j z hj hz
  unfold bey at this
  simp only[Bool.false_eq_true,if_false,Bool.not_eq_true',decide_eq_false_iff_not] at this
  omega
 have k3':∀ j z,k<=j->j<na->(arrOf st).toList[sa+j]? = some z->r y<r z:=fun j z hj hj' hz=>by
  have:=k3 j z hj hj' hz
  unfold bey at this
  simp only[Bool.false_eq_true,if_false,Bool.not_eq_false',decide_eq_true_eq] at this
  exact this
 obtain ⟨x,x1,x2,xP⟩:=at_ (sa+na-1) (by omega)
 have hx0:(((arrOf st).toList.drop sa).take na)[(((arrOf st).toList.drop sa).take na).length-1]? = some x:=by
  rw[lenA,zbz (by omega),show sa+(na-1)=sa+na-1 by omega];exact x1
 have same:∀ q,(∀ j z,q<=j->(((arrOf st).toList.drop sb).take nb)[j]? = some z->r x<=r z)->(k=na\/q=0)->q<=nb->Q true (SortSt.mk' (kindOf st) (arrOf st) (((pendingOf st).setIfInBounds i (sa,na+nb,pw)).eraseIdxIfInBounds (i+1)) (gallopOf st) (failedOf st)):=fun q hq e hqn=>by
  have hm:Mgd r ((((arrOf st).toList.drop sa).take na).drop k) ((((arrOf st).toList.drop sb).take nb).take q) ((((arrOf st).toList.drop sa).take na).drop k++(((arrOf st).toList.drop sb).take nb).take q):=by
   refine ⟨.refl _,?_⟩
   rcases e with e|e
   ·rw[List.drop_eq_nil_iff.mpr (by omega),List.nil_append];exact sB.take q
   ·subst e;rw[List.take_zero,List.append_nil];exact sA.drop k
  have g:=glue sA sB hy0 hx0 k2' hq hm
  rw[List.append_assoc,List.take_append_drop,<- List.append_assoc,List.take_append_drop,<- cut] at g
  have:=h (arrOf st) _ (gallopOf st) whole (.refl _) g.2
  rw[<- hf] at this
  exact this
 refine zai (fun c1=>?_) (fun c1=>?_)
 ·have:=beq_iff_eq.mp c1
  exact wpS_pure (same nb (fun j z hj hz=>absurd (List.getElem?_eq_some_iff.mp hz).1 (by omega)) (.inl (by omega)) (Nat.le_refl _))
 rw[beq_iff_eq] at c1
 rw[show sa+k+(na-k)-1=sa+na-1 by omega]
 refine wpS_bind (zau x2 (wpS_bind (zfl (a:=arrOf st) C hk xP hP sB (by omega) (by omega) fun q q1 q2 q3=>?_)))
 dsimp only
 have q2':∀ j z,j<q->(arrOf st).toList[sb+j]? = some z->r z<r x:=fun j z hj hz=>by
  have:=q2 j z hj hz
  unfold bey at this
  simp only[if_true,decide_eq_true_eq] at this
  exact this
 have q3':∀ j z,q<=j->(((arrOf st).toList.drop sb).take nb)[j]? = some z->r x<=r z:=fun j z hj hz=>by
  have hjl:=(List.getElem?_eq_some_iff.mp hz).1
  rw[zbz (by omega)] at hz
  have:=q3 j z hj (by omega) hz
  unfold bey at this
  simp only[if_true,decide_eq_false_iff_not] at this
  omega
 refine zai (fun c2=>?_) (fun c2=>?_)
 ·exact wpS_pure (same q q3' (.inr (beq_iff_eq.mp c2)) q1)
 rw[beq_iff_eq] at c2
 have xl:((arrOf st).extract (sa+k) sb).toList=(((arrOf st).toList.drop sa).take na).drop k:=by
  rw[Array.toList_extract,List.extract_eq_take_drop,List.drop_take,List.drop_drop,show sb-(sa+k)=na-k by omega]
 have yl:((arrOf st).extract sb (sb+q)).toList=(((arrOf st).toList.drop sb).take nb).take q:=by
  rw[zfx,List.take_take,show min q nb=q by omega]
 have xs:((arrOf st).extract (sa+k) sb).size=na-k:=by rw[<- Array.length_toList,xl,List.length_drop,lenA]
 have ys:((arrOf st).extract sb (sb+q)).size=q:=by rw[<- Array.length_toList,yl,List.length_take,lenB];omega
 have px:∀ z∈((arrOf st).extract (sa+k) sb).toList,P z:=fun z hz=>hP z (by rw[xl] at hz;exact List.mem_of_mem_drop (List.mem_of_mem_take (List.mem_of_mem_drop hz)))
 have py:∀ z∈((arrOf st).extract sb (sb+q)).toList,P z:=fun z hz=>hP z (by rw[yl] at hz;exact List.mem_of_mem_drop (List.mem_of_mem_take (List.mem_of_mem_take hz)))
 have ax:∀ j z,((arrOf st).extract (sa+k) sb).toList[j]? = some z->r y<r z/\j<na-k:=fun j z hz=>by
  have hl:=(List.getElem?_eq_some_iff.mp hz).1
  rw[Array.length_toList,xs] at hl
  rw[xl,List.getElem?_drop,zbz (by omega)] at hz
  exact ⟨k3' (k+j) z (by omega) (by omega) hz,hl⟩
 have ay:∀ j z,((arrOf st).extract sb (sb+q)).toList[j]? = some z->r z<r x/\(j=0->z=y):=fun j z hz=>by
  have hl:=(List.getElem?_eq_some_iff.mp hz).1
  rw[Array.length_toList,ys] at hl
  rw[yl,List.getElem?_take,if_pos hl,zbz (by omega)] at hz
  refine ⟨q2' j z hl hz,fun e=>?_⟩
  subst e
  rw[Nat.add_zero,y1] at hz
  exact (Option.some.inj hz).symm
 have lastx:∀ z,((arrOf st).extract (sa+k) sb).toList[((arrOf st).extract (sa+k) sb).size-1]? = some z->z=x:=fun z hz=>by
  rw[xl,xs,List.getElem?_drop,zbz (by omega),show sa+(k+(na-k-1))=sa+na-1 by omega,x1] at hz
  exact (Option.some.inj hz).symm
 have sX:Srt r ((arrOf st).extract (sa+k) sb).toList:=by rw[xl];exact sA.drop k
 have sY:Srt r ((arrOf st).extract sb (sb+q)).toList:=by rw[yl];exact sB.take q
 have back:∀(out:Array Keyed)(g:Nat),Mgd r ((arrOf st).extract (sa+k) sb).toList ((arrOf st).extract sb (sb+q)).toList out.toList->Q true (SortSt.mk' (kindOf st) (out.toList.zipIdx.foldl (fun a x=>a.setIfInBounds (sa+k+x.2) x.1) (arrOf st)) (((pendingOf st).setIfInBounds i (sa,na+nb,pw)).eraseIdxIfInBounds (i+1)) g none):=fun out g hm=>by
  have ol:out.toList.length=na-k+q:=by rw[hm.1.length_eq,List.length_append,Array.length_toList,Array.length_toList,xs,ys]
  rw[xl,yl] at hm
  have gl:=glue sA sB hy0 hx0 k2' q3' hm
  rw[<- cut] at gl
  refine h _ _ g ?_ gl.1 gl.2
  rw[zn3 (sa+k) out.toList 0 (arrOf st) (by omega),Nat.add_zero,ol]
  have t1:(arrOf st).toList.take (sa+k)=(arrOf st).toList.take sa++(((arrOf st).toList.drop sa).take na).take k:=by
   rw[List.take_take,show min k na=k by omega,List.take_add]
  have t2:(arrOf st).toList.drop (sa+k+(na-k+q))=(((arrOf st).toList.drop sb).take nb).drop q++(arrOf st).toList.drop (sb+nb):=by
   rw[List.drop_take,List.drop_drop,show sa+k+(na-k+q)=sb+q by omega,show sb+nb=sb+q+(nb-q) by omega,<- List.drop_drop (i:=nb-q) (j:=sb+q),List.take_append_drop]
  rw[t1,t2]
  simp[List.append_assoc]
 refine zai (fun c3=>?_) (fun c3=>?_)
 ·refine wpS_bind (zjJ C hk px py sX sY (by rw[xs];omega) (by rw[ys];omega) (fun x' y' hx' hy'=>?_) (fun x' hx' y' hy'=>?_) (fun out g hm=>?_))
  ·rw[(ay 0 y' hy').2 rfl]
   have:=(ax 0 x' hx').1
   omega
  ·rw[lastx x' hx']
   obtain ⟨j,hj⟩:=List.getElem?_of_mem hy'
   have:=(ay j y' hj).1
   omega
  ·refine wpS_bind (wpS_modify (wpS_bind (wpS_get (wpS_pure ?_))))
   have:=back out g hm
   rw[show (none:Option Value)=failedOf st from hf.symm] at this
   have e3:((failedOf st).isNone)=true:=by rw[hf];rfl
   show Q ((failedOf st).isNone) _
   rw[e3]
   exact this
 ·refine wpS_bind (zki C hk px py sX sY (by rw[xs];omega) (by rw[ys];omega) (fun y' hy' x' hx'=>?_) (fun x' y' hx' hy'=>?_) (fun out g hm=>?_))
  ·rw[(ay 0 y' hy').2 rfl]
   obtain ⟨j,hj⟩:=List.getElem?_of_mem hx'
   have:=(ax j x' hj).1
   omega
  ·rw[lastx x' hx']
   have:=(ay _ y' hy').1
   omega
  ·refine wpS_bind (wpS_modify (wpS_bind (wpS_get (wpS_pure ?_))))
   have:=back out g hm
   rw[show (none:Option Value)=failedOf st from hf.symm] at this
   have e3:((failedOf st).isNone)=true:=by rw[hf];rfl
   show Q ((failedOf st).isNone) _
   rw[e3]
   exact this
end
def rk(r:Keyed->Int)(a:Array Keyed)(i:Nat):Int:=match a[i]? with
 |some x=>r x
 |none=>0
theorem zdF{r:Keyed->Int}{a b:Array Keyed}{i j:Nat}(h:a[i]? = b[j]?):rk r a i=rk r b j:=by unfold rk;rw[h]
def SIn(r:Keyed->Int)(a:Array Keyed)(lo n:Nat):Prop:=∀ i j,lo<=i->i<=j->j<lo+n->rk r a i<=rk r a j
section
variable{prog:Program}{w:World}{A:Around}{E:Value->Shared->Prop}{s:Shared}
theorem zne{kd:SortKind}{P:Keyed->Prop}{r:Keyed->Int}(C:Cp prog w A s kd P r){st:SortSt}{i j:Nat}{Q:Option Bool->SortSt->Prop}(hk:kindOf st=kd)(hP:∀ x∈(arrOf st).toList,P x)(hi:i<(arrOf st).size)(hj:j<(arrOf st).size)(q:Q (some (decide (rk r (arrOf st) i<rk r (arrOf st) j))) st):wpS (model prog w) A E s (ltAt' i j) Q st:=by
 have at_:∀ j,j<(arrOf st).size->∃ x,(arrOf st)[j]? = some x/\P x:=fun j hj=>by
  have e:(arrOf st).toList[j]? = some ((arrOf st)[j]'hj):=by rw[Array.getElem?_toList];exact getElem?_pos (arrOf st) j hj
  exact ⟨_,getElem?_pos (arrOf st) j hj,hP _ (List.mem_of_getElem? e)⟩
 obtain ⟨x,x1,xP⟩:=at_ i hi
 obtain ⟨y,y1,yP⟩:=at_ j hj
 unfold rk at q
 rw[x1,y1] at q
 unfold ltAt'
 refine wpS_bind (wpS_get ?_)
 exact wpS_bind (zau x1 (wpS_bind (zau y1 (C E x y st Q xP yP hk q))))
theorem zga{kd:SortKind}{P:Keyed->Prop}{r:Keyed->Int}(C:Cp prog w A s kd P r){st:SortSt}{lo n ok:Nat}{Q:Bool->SortSt->Prop}(hk:kindOf st=kd)(hP:∀ x∈(arrOf st).toList,P x)(hn:lo+n<=(arrOf st).size)(hok:ok<=n)(h1:1<=n)(hs:SIn r (arrOf st) lo ok)
  (h:∀ a':Array Keyed,a'.Perm (arrOf st)->(∀ i,i<lo\/lo+n<=i->a'[i]? = (arrOf st)[i]?)->SIn r a' lo n->Q true (setArr st a')):wpS (model prog w) A E s (binarySort' lo n ok) Q st:=by
 unfold binarySort'
 refine wpS_bind (wpS_mono (Q:=fun c st'=>∃ a':Array Keyed,c.1=none/\st'=setArr st a'/\a'.Perm (arrOf st)/\(∀ i,i<lo\/lo+n<=i->a'[i]? = (arrOf st)[i]?)/\SIn r a' lo n) (wpS_forRange (I:=fun k c st'=>∃ a':Array Keyed,c=(none,())/\st'=setArr st a'/\a'.Perm (arrOf st)/\(∀ i,i<lo\/lo+n<=i->a'[i]? = (arrOf st)[i]?)/\SIn r a' lo k) ?_ ?_ ?_) ?_)
 ·rintro k c st' hk1 hkn ⟨a',rfl,rfl,pm,out,so⟩
  have sz:a'.size=(arrOf st).size:=pm.size_eq
  have hP':∀ x∈a'.toList,P x:=fun x hx=>hP x ((Array.perm_iff_toList_perm.mp pm).mem_iff.mp hx)
  try dsimp only
  refine wpS_bind (wpS_mono (Q:=fun c st'=>st'=setArr st a'/\∃ l rr,c=(none,l,rr)/\l<=k/\(∀ i,i<l->rk r a' (lo+i)<=rk r a' (lo+k))/\∀ i,l<=i->i<k->rk r a' (lo+k)<rk r a' (lo+i)) (wpS_forRange (I:=fun t c st'=>st'=setArr st a'/\∃ l rr,c=(none,l,rr)/\l<=rr/\rr<=k/\rr-l+t<=k/\(∀ i,i<l->rk r a' (lo+i)<=rk r a' (lo+k))/\∀ i,rr<=i->i<k->rk r a' (lo+k)<rk r a' (lo+i)) ?_ ?_ ⟨rfl,0,k,rfl,by omega,by omega,by omega,fun i hi=>by omega,fun i hi hi'=>by omega⟩) ?_)
  ·rintro t c st2 _ ht ⟨rfl,l,rr,rfl,g1,g2,g3,g4,g5⟩
   dsimp only
   refine zai (fun c1=>?_) (fun c1=>?_)
   ·exact wpS_pure ⟨rfl,l,rr,rfl,by omega,g4,fun i hi hi'=>g5 i (by omega) hi'⟩
   ·refine wpS_bind (zne C (st:=setArr st a') hk hP' (show lo+k<a'.size by omega) (show lo+(l+rr) / 2<a'.size by omega) ?_)
    dsimp only
    have ea:arrOf (setArr st a')=a':=rfl
    rw[ea]
    by_cases hlt:rk r a' (lo+k)<rk r a' (lo+(l+rr) / 2)
    ·rw[if_pos (decide_eq_true hlt)]
     refine wpS_pure ⟨rfl,l,(l+rr) / 2,rfl,by omega,by omega,by omega,g4,fun i hi hi'=>?_⟩
     have:=so (lo+(l+rr) / 2) (lo+i) (by omega) (by omega) (by omega)
     omega
    ·rw[if_neg (by simpa using hlt)]
     refine wpS_pure ⟨rfl,(l+rr) / 2+1,rr,rfl,by omega,by omega,by omega,fun i hi=>?_,g5⟩
     have:=so (lo+i) (lo+(l+rr) / 2) (by omega) (by omega) (by omega)
     omega
  ·rintro c st2 ⟨rfl,l,rr,rfl,g1,g2,g3,g4,g5⟩
   exact ⟨rfl,l,rr,rfl,by omega,g4,fun i hi hi'=>g5 i (by omega) hi'⟩
  ·rintro c st2 ⟨rfl,l,rr,rfl,g1,g4,g5⟩
   dsimp only
   refine wpS_bind (wpS_modify ?_)
   have hb:∀ i,(bubble a' (lo+k) (lo+k-(lo+l)))[i]? = if i=lo+l then a'[lo+k]? else if lo+l<i/\i<=lo+k then a'[i-1]? else a'[i]? := fun i=>by
    rw[getElem?_bubble (by omega) _ (by omega),show lo+k-(lo+k-(lo+l))=lo+l by omega]
   refine wpS_pure ⟨bubble a' (lo+k) (lo+k-(lo+l)),rfl,rfl,(bubble_perm _ _ _).trans pm,fun i hi=>?_,fun i j hi hij hj=>?_⟩
   ·rw[hb i,if_neg (by omega),if_neg (by omega)];exact out i hi
   ·have v:∀ i,lo<=i->i<lo+(k+1)->rk r (bubble a' (lo+k) (lo+k-(lo+l))) i=if i=lo+l then rk r a' (lo+k) else if lo+l<i then rk r a' (i-1) else rk r a' i:=fun i h1 h2=>by
     unfold rk
     rw[hb i]
     by_cases z1:i=lo+l
     ·rw[if_pos z1,if_pos z1]
     ·rw[if_neg z1,if_neg z1]
      by_cases z2:lo+l<i
      ·rw[if_pos ⟨z2,by omega⟩,if_pos z2]
      ·rw[if_neg (by omega),if_neg z2]
    rw[v i hi (by omega),v j (by omega) hj]
    by_cases z1:i=lo+l
    ·rw[if_pos z1]
     by_cases z2:j=lo+l
     ·rw[if_pos z2];exact Int.le_refl _
     ·rw[if_neg z2,if_pos (by omega)]
      have:=g5 (j-1-lo) (by omega) (by omega)
      rw[show lo+(j-1-lo)=j-1 by omega] at this
      omega
    ·rw[if_neg z1]
     by_cases z3:lo+l<i
     ·rw[if_pos z3,if_neg (by omega),if_pos (by omega)]
      exact so (i-1) (j-1) (by omega) (by omega) (by omega)
     ·rw[if_neg z3]
      by_cases z2:j=lo+l
      ·rw[if_pos z2]
       have:=g4 (i-lo) (by omega)
       rw[show lo+(i-lo)=i by omega] at this
       exact this
      ·rw[if_neg z2]
       by_cases z4:lo+l<j
       ·rw[if_pos z4]
        exact so i (j-1) hi (by omega) (by omega)
       ·rw[if_neg z4]
        exact so i j hi hij (by omega)
 ·rintro c st' ⟨a',rfl,rfl,pm,out,so⟩
  rw[show max (max ok 1) n=n by omega] at so
  exact ⟨a',rfl,rfl,pm,out,so⟩
 ·refine ⟨arrOf st,rfl,rfl,.refl _,fun i _=>rfl,fun i j hi hij hj=>?_⟩
  by_cases z:1<=ok
  ·exact hs i j hi hij (by omega)
  ·have:i=j:=by omega
   subst this;exact Int.le_refl _
 ·rintro ⟨c1,c⟩ st' ⟨a',e,rfl,pm,out,so⟩
  dsimp only at e ⊢
  subst e
  exact wpS_pure (h a' pm out so)
end
def mir(a:Array Keyed)(i j:Nat):Array Keyed:=mirror a i j ((j-i) / 2)
structure Kp(b:Array Keyed)(lo hi:Nat)(a:Array Keyed):Prop where
 pm:a.Perm b
 out:∀ i,i<lo\/hi<=i->a[i]? = b[i]?
def DIn(r:Keyed->Int)(a:Array Keyed)(lo n:Nat):Prop:=∀ i j,lo<=i->i<=j->j<lo+n->rk r a j<=rk r a i
variable{r:Keyed->Int}
theorem Kp.size{b a:Array Keyed}{lo hi:Nat}(h:Kp b lo hi a):a.size=b.size:=h.pm.size_eq
theorem zje{a:Array Keyed}{i j:Nat}(hj:j<=a.size)(k:Nat):(mir a i j)[k]? = if i<=k/\k<j then a[i+j-1-k]? else a[k]? := getElem?_mirror_all hj k
theorem Kp.mir{b a:Array Keyed}{lo hi i j:Nat}(h:Kp b lo hi a)(hi':lo<=i)(hj:j<=hi)(hs:hi<=b.size):Kp b lo hi (mir a i j) :=
 ⟨(mirror_perm _ _ _ _).trans h.pm,fun k hk=>by rw[zje (by rw[h.size];omega),if_neg (by omega)];exact h.out k hk⟩
theorem zeB{a:Array Keyed}{i j:Nat}(hj:j<=a.size)(he:∀ k,i<=k->k<j->rk r a k=rk r a (j-1))(k:Nat):rk r (mir a i j) k=rk r a k:=by
 by_cases z:i<=k/\k<j
 ·rw[zdF (r:=r) (a:=mir a i j) (b:=a) (i:=k) (j:=i+j-1-k) (by rw[zje hj,if_pos z]),he _ (by omega) (by omega),he k z.1 z.2]
 ·exact zdF (by rw[zje hj,if_neg z])
theorem zfz{a:Array Keyed}{lo n:Nat}(hj:lo+n<=a.size)(h:DIn r a lo n):SIn r (mir a lo (lo+n)) lo n:=fun i j hi hij hj'=>by
 rw[zdF (r:=r) (a:=mir a lo (lo+n)) (b:=a) (i:=i) (j:=lo+(lo+n)-1-i) (by rw[zje hj,if_pos (by omega)]),zdF (r:=r) (a:=mir a lo (lo+n)) (b:=a) (i:=j) (j:=lo+(lo+n)-1-j) (by rw[zje hj,if_pos (by omega)])]
 exact h _ _ (by omega) (by omega) (by omega)
section
variable{prog:Program}{w:World}{A:Around}{E:Value->Shared->Prop}{s:Shared}
theorem zdg{st:SortSt}{a:Array Keyed}{i j:Nat}{Q:Unit->SortSt->Prop}(h:Q () (setArr st (mir a i j))):wpS (model prog w) A E s (reverseSlice' i j) Q (setArr st a):=by
 rw[reverseSlice'_eq];exact wpS_modify h
theorem zhK{kd:SortKind}{P:Keyed->Prop}(C:Cp prog w A s kd P r){st:SortSt}{lo nrem:Nat}{b:Array Keyed}(eb:arrOf st=b){Q:Option Nat->SortSt->Prop}(hk:kindOf st=kd)(hP:∀ x∈b.toList,P x)(hn:lo+nrem<=b.size)(h1:1<=nrem)
  (h:∀(a:Array Keyed)(n:Nat),Kp b lo (lo+nrem) a->1<=n->n<=nrem->SIn r a lo n->Q (some n) (setArr st a)):wpS (model prog w) A E s (countRun' lo nrem) Q st:=by
 have lt:∀ a,Kp b lo (lo+nrem) a->∀ i j,i<lo+nrem->j<lo+nrem->∀{Q:Option Bool->SortSt->Prop},Q (some (decide (rk r a i<rk r a j))) (setArr st a)->wpS (model prog w) A E s (ltAt' i j) Q (setArr st a):=fun a ka i j hi hj Q q =>
  zne C (st:=setArr st a) hk (fun x hx=>hP x ((Array.perm_iff_toList_perm.mp ka.pm).mem_iff.mp hx)) (show i<a.size by rw[ka.size];omega) (show j<a.size by rw[ka.size];omega) q
 have asc:∀ a,Kp b lo (lo+nrem) a->∀ n0,1<=n0->n0<=nrem->SIn r a lo n0->∀(f:Nat->Option (Option Nat)×Nat->StateT SortSt Sem (ForInStep (Option (Option Nat)×Nat))),(∀ x n,1<=n->n<nrem->∀ Q:ForInStep (Option (Option Nat)×Nat)->SortSt->Prop,Q (if rk r a (lo+n)<rk r a (lo+n-1) then .done (none,n) else .yield (none,n+1)) (setArr st a)->wpS (model prog w) A E s (f x (none,n)) Q (setArr st a)) ->
   ∀ Q:Option (Option Nat)×Nat->SortSt->Prop,(∀ n,n0<=n->n<=nrem->SIn r a lo n->(n=nrem\/rk r a (lo+n)<rk r a (lo+n-1))->Q (none,n) (setArr st a))->wpS (model prog w) A E s (forIn [n0:nrem] (none,n0) f) Q (setArr st a):=by
  intro a ka n0 h1 h2 so f hf Q hQ
  refine wpS_forRange (I:=fun x c st'=>st'=setArr st a/\c=(none,x)/\SIn r a lo x) ?_ ?_ ⟨rfl,rfl,so⟩
  ·rintro x c st' hx hxn ⟨rfl,rfl,so⟩
   refine hf x x (by omega) hxn _ ?_
   by_cases z:rk r a (lo+x)<rk r a (lo+x-1)
   ·rw[if_pos z];exact hQ x hx (by omega) so (.inr z)
   ·rw[if_neg z]
    refine ⟨rfl,rfl,fun i j hi hij hj=>?_⟩
    by_cases hjx:j<lo+x
    ·exact so i j hi hij hjx
    ·by_cases e:i=j
     ·subst e;exact Int.le_refl _
     ·have:=so i (lo+x-1) hi (by omega) (by omega)
      have ej:j=lo+x:=by omega
      subst ej
      omega
  ·rintro c st' ⟨rfl,rfl,so⟩
   rw[show max n0 nrem=nrem by omega] at so ⊢
   exact hQ nrem h2 (Nat.le_refl _) so (.inl rfl)
 have fstep:∀ a,Kp b lo (lo+nrem) a->∀ n,1<=n->n<nrem->∀ Q:ForInStep (Option (Option Nat)×Nat)->SortSt->Prop,Q (if rk r a (lo+n)<rk r a (lo+n-1) then .done (none,n) else .yield (none,n+1)) (setArr st a)->∀ g:Option Bool->StateT SortSt Sem (ForInStep (Option (Option Nat)×Nat)),(∀ c,g (some c)=if c=true then pure (.done (none,n)) else pure (.yield (none,n+1)))->wpS (model prog w) A E s (ltAt' (lo+n) (lo+n-1) >>= g) Q (setArr st a):=fun a ka n h1 h2 Q q g hg=>by
  refine wpS_bind (lt a ka _ _ (by omega) (by omega) ?_)
  rw[hg]
  by_cases z:rk r a (lo+n)<rk r a (lo+n-1)
  ·rw[if_pos z] at q;rw[if_pos (decide_eq_true z)];exact wpS_pure q
  ·rw[if_neg z] at q;rw[if_neg (by simpa using z)];exact wpS_pure q
 have k0:Kp b lo (lo+nrem) (arrOf st):=by rw[eb];exact ⟨.refl _,fun _ _=>rfl⟩
 have s1:∀ a,SIn r a lo 1:=fun a i j hi hij hj=>by
  have:i=j:=by omega
  subst this;exact Int.le_refl _
 unfold countRun'
 show wpS _ _ _ _ _ _ (setArr st (arrOf st))
 generalize arrOf st=a0 at k0 ⊢
 refine wpS_bind (asc a0 k0 1 (Nat.le_refl _) h1 (s1 a0) _ (fun x n h1 h2 Q q=>fstep a0 k0 n h1 h2 Q q _ fun c=>rfl) _ fun n g1 g2 so cs=>?_)
 dsimp only
 refine zai (fun c1=>?_) (fun c1=>?_)
 ·exact wpS_pure (h a0 n k0 g1 g2 so)
 rw[beq_iff_eq] at c1
 have cs:rk r a0 (lo+n)<rk r a0 (lo+n-1):=cs.resolve_left c1
 have dstep:∀(a:Array Keyed)(x:Nat),1<=x->DIn r a lo x->rk r a (lo+x)<=rk r a (lo+x-1)->DIn r a lo (x+1):=fun a x h1 dd hl i j hi hij hj=>by
  by_cases z:j<lo+x
  ·exact dd i j hi hij z
  ·by_cases e:i=j
   ·subst e;exact Int.le_refl _
   ·have:=dd i (lo+x-1) hi (by omega) (by omega)
    have ej:j=lo+x:=by omega
    subst ej
    omega
 refine zai (fun c2=>?_) (fun c2=>?_)
 ·refine wpS_bind (lt a0 k0 _ _ (by omega) (by omega) ?_)
  dsimp only
  refine zai (fun c3=>?_) (fun c3=>?_)
  ·exact wpS_pure (h a0 n k0 g1 g2 so)
  have c3':¬ rk r a0 lo<rk r a0 (lo+n-1):=fun z=>c3 (decide_eq_true z)
  have eqs:∀ k,lo<=k->k<lo+n->rk r a0 k=rk r a0 (lo+n-1):=fun k h h'=>by
   have u:=so lo k (Nat.le_refl _) h h'
   have v:=so k (lo+n-1) h (by omega) (by omega)
   omega
  refine wpS_bind (zdg ?_)
  have sm:=zeB (r:=r) (a:=a0) (i:=lo) (j:=lo+n) (by rw[k0.size];omega) eqs
  have k1:=k0.mir (i:=lo) (j:=lo+n) (Nat.le_refl _) (by omega) hn
  have d1:DIn r (mir a0 lo (lo+n)) lo (n+1):=fun i j hi hij hj=>by
   rw[sm,sm]
   refine dstep a0 n g1 (fun i j hi hij hj=>?_) (by omega) i j hi hij hj
   rw[eqs i hi (by omega),eqs j (by omega) hj]
   exact Int.le_refl _
  generalize mir a0 lo (lo+n)=a1 at k1 d1 ⊢
  refine wpS_bind (zcW ?_)
  refine wpS_bind (wpS_mono (Q:=fun c st'=>∃ a x neq,c=(none,x,neq)/\st'=setArr st a/\Kp b lo (lo+nrem) a/\1<=x/\x<=nrem/\neq+1<=x/\DIn r a lo x/\∀ k,lo+x-(neq+1)<=k->k<lo+x->rk r a k=rk r a (lo+x-1)) (wpS_forRange (I:=fun x c st'=>∃ a neq,c=(none,x,neq)/\st'=setArr st a/\Kp b lo (lo+nrem) a/\neq+1<=x/\DIn r a lo x/\∀ k,lo+x-(neq+1)<=k->k<lo+x->rk r a k=rk r a (lo+x-1)) ?_ ?_ ⟨a1,0,rfl,rfl,k1,by omega,d1,fun k h h'=>by rw[show k=lo+(n+1)-1 by omega]⟩) ?_)
  ·rintro x c st' hx hxn ⟨a,neq,rfl,rfl,ka,q1,dd,ee⟩
   dsimp only
   have sz:=ka.size
   refine wpS_bind (lt a ka (lo+x) (lo+x-1) (by omega) (by omega) ?_)
   dsimp only
   refine zai (fun c5=>?_) (fun c5=>?_)
   ·have c5':=of_decide_eq_true c5
    refine zai (fun c6=>?_) (fun c6=>?_)
    ·refine wpS_bind (zdg (wpS_pure ?_))
     have sm:=zeB (r:=r) (a:=a) (i:=lo+x-(neq+1)) (j:=lo+x) (by omega) ee
     refine ⟨_,0,rfl,rfl,ka.mir (by omega) (by omega) hn,by omega,fun i j hi hij hj=>?_,fun k h h'=>by rw[show k=lo+(x+1)-1 by omega]⟩
     rw[sm,sm]
     exact dstep a x (by omega) dd (by omega) i j hi hij hj
    ·exact wpS_pure ⟨a,0,rfl,rfl,ka,by omega,dstep a x (by omega) dd (by omega),fun k h h'=>by rw[show k=lo+(x+1)-1 by omega]⟩
   ·have c5':¬ rk r a (lo+x)<rk r a (lo+x-1):=fun z=>c5 (decide_eq_true z)
    refine wpS_bind (lt a ka (lo+x-1) (lo+x) (by omega) (by omega) ?_)
    dsimp only
    refine zai (fun c8=>?_) (fun c8=>?_)
    ·exact wpS_pure ⟨a,x,neq,rfl,rfl,ka,by omega,by omega,q1,dd,ee⟩
    ·have c8':¬ rk r a (lo+x-1)<rk r a (lo+x):=fun z=>c8 (decide_eq_true z)
     refine wpS_pure ⟨a,neq+1,rfl,rfl,ka,by omega,dstep a x (by omega) dd (by omega),fun k h h'=>?_⟩
     rw[show lo+(x+1)-1=lo+x by omega]
     by_cases z:k=lo+x
     ·rw[z]
     ·have:=ee k (by omega) (by omega)
      omega
  ·rintro c st' ⟨a,neq,rfl,rfl,ka,q1,dd,ee⟩
   rw[show max (n+1) nrem=nrem by omega] at q1 dd ee ⊢
   exact ⟨a,nrem,neq,rfl,rfl,ka,h1,Nat.le_refl _,q1,dd,ee⟩
  ·rintro c st' ⟨a,x,neq,rfl,rfl,ka,q0,q1,q2,dd,ee⟩
   dsimp only
   have sz:=ka.size
   refine zai (fun c7=>?_) (fun c7=>?_)
   ·have sm:=zeB (r:=r) (a:=a) (i:=lo+x-(neq+1)) (j:=lo+x) (by omega) ee
    refine wpS_bind (zdg (wpS_bind (zdg ?_)))
    have ka':=ka.mir (i:=lo+x-(neq+1)) (j:=lo+x) (by omega) (by omega) hn
    have dd':DIn r (mir a (lo+x-(neq+1)) (lo+x)) lo x:=fun i j hi hij hj=>by rw[sm,sm];exact dd i j hi hij hj
    generalize mir a (lo+x-(neq+1)) (lo+x)=a2 at ka' dd' ⊢
    have k3:=ka'.mir (i:=lo) (j:=lo+x) (Nat.le_refl _) (by omega) hn
    have so3:=zfz (by rw[ka'.size];omega) dd'
    generalize mir a2 lo (lo+x)=a3 at k3 so3 ⊢
    refine wpS_bind (asc a3 k3 x q0 q1 so3 _ (fun y n h1 h2 Q q=>fstep a3 k3 n h1 h2 Q q _ fun c=>rfl) _ fun n g1 g2 so cs=>?_)
    exact wpS_pure (h a3 n k3 (by omega) g2 so)
   ·refine wpS_bind (zdg ?_)
    have k3:=ka.mir (i:=lo) (j:=lo+x) (Nat.le_refl _) (by omega) hn
    have so3:=zfz (by rw[ka.size];omega) dd
    generalize mir a lo (lo+x)=a3 at k3 so3 ⊢
    refine wpS_bind (asc a3 k3 x q0 q1 so3 _ (fun y n h1 h2 Q q=>fstep a3 k3 n h1 h2 Q q _ fun c=>rfl) _ fun n g1 g2 so cs=>?_)
    exact wpS_pure (h a3 n k3 (by omega) g2 so)
 ·have k1:=k0
  have d1:DIn r a0 lo (n+1):=dstep a0 n g1 (fun i j hi hij hj=>by
   have:i=j:=by omega
   subst this;exact Int.le_refl _) (by omega)
  generalize a0=a1 at k1 d1 ⊢
  refine wpS_bind (zcW ?_)
  refine wpS_bind (wpS_mono (Q:=fun c st'=>∃ a x neq,c=(none,x,neq)/\st'=setArr st a/\Kp b lo (lo+nrem) a/\1<=x/\x<=nrem/\neq+1<=x/\DIn r a lo x/\∀ k,lo+x-(neq+1)<=k->k<lo+x->rk r a k=rk r a (lo+x-1)) (wpS_forRange (I:=fun x c st'=>∃ a neq,c=(none,x,neq)/\st'=setArr st a/\Kp b lo (lo+nrem) a/\neq+1<=x/\DIn r a lo x/\∀ k,lo+x-(neq+1)<=k->k<lo+x->rk r a k=rk r a (lo+x-1)) ?_ ?_ ⟨a1,0,rfl,rfl,k1,by omega,d1,fun k h h'=>by rw[show k=lo+(n+1)-1 by omega]⟩) ?_)
  ·rintro x c st' hx hxn ⟨a,neq,rfl,rfl,ka,q1,dd,ee⟩
   dsimp only
   have sz:=ka.size
   refine wpS_bind (lt a ka (lo+x) (lo+x-1) (by omega) (by omega) ?_)
   dsimp only
   refine zai (fun c5=>?_) (fun c5=>?_)
   ·have c5':=of_decide_eq_true c5
    refine zai (fun c6=>?_) (fun c6=>?_)
    ·refine wpS_bind (zdg (wpS_pure ?_))
     have sm:=zeB (r:=r) (a:=a) (i:=lo+x-(neq+1)) (j:=lo+x) (by omega) ee
     refine ⟨_,0,rfl,rfl,ka.mir (by omega) (by omega) hn,by omega,fun i j hi hij hj=>?_,fun k h h'=>by rw[show k=lo+(x+1)-1 by omega]⟩
     rw[sm,sm]
     exact dstep a x (by omega) dd (by omega) i j hi hij hj
    ·exact wpS_pure ⟨a,0,rfl,rfl,ka,by omega,dstep a x (by omega) dd (by omega),fun k h h'=>by rw[show k=lo+(x+1)-1 by omega]⟩
   ·have c5':¬ rk r a (lo+x)<rk r a (lo+x-1):=fun z=>c5 (decide_eq_true z)
    refine wpS_bind (lt a ka (lo+x-1) (lo+x) (by omega) (by omega) ?_)
    dsimp only
    refine zai (fun c8=>?_) (fun c8=>?_)
    ·exact wpS_pure ⟨a,x,neq,rfl,rfl,ka,by omega,by omega,q1,dd,ee⟩
    ·have c8':¬ rk r a (lo+x-1)<rk r a (lo+x):=fun z=>c8 (decide_eq_true z)
     refine wpS_pure ⟨a,neq+1,rfl,rfl,ka,by omega,dstep a x (by omega) dd (by omega),fun k h h'=>?_⟩
     rw[show lo+(x+1)-1=lo+x by omega]
     by_cases z:k=lo+x
     ·rw[z]
     ·have:=ee k (by omega) (by omega)
      omega
  ·rintro c st' ⟨a,neq,rfl,rfl,ka,q1,dd,ee⟩
   rw[show max (n+1) nrem=nrem by omega] at q1 dd ee ⊢
   exact ⟨a,nrem,neq,rfl,rfl,ka,h1,Nat.le_refl _,q1,dd,ee⟩
  ·rintro c st' ⟨a,x,neq,rfl,rfl,ka,q0,q1,q2,dd,ee⟩
   dsimp only
   have sz:=ka.size
   refine zai (fun c7=>?_) (fun c7=>?_)
   ·have sm:=zeB (r:=r) (a:=a) (i:=lo+x-(neq+1)) (j:=lo+x) (by omega) ee
    refine wpS_bind (zdg (wpS_bind (zdg ?_)))
    have ka':=ka.mir (i:=lo+x-(neq+1)) (j:=lo+x) (by omega) (by omega) hn
    have dd':DIn r (mir a (lo+x-(neq+1)) (lo+x)) lo x:=fun i j hi hij hj=>by rw[sm,sm];exact dd i j hi hij hj
    generalize mir a (lo+x-(neq+1)) (lo+x)=a2 at ka' dd' ⊢
    have k3:=ka'.mir (i:=lo) (j:=lo+x) (Nat.le_refl _) (by omega) hn
    have so3:=zfz (by rw[ka'.size];omega) dd'
    generalize mir a2 lo (lo+x)=a3 at k3 so3 ⊢
    refine wpS_bind (asc a3 k3 x q0 q1 so3 _ (fun y n h1 h2 Q q=>fstep a3 k3 n h1 h2 Q q _ fun c=>rfl) _ fun n g1 g2 so cs=>?_)
    exact wpS_pure (h a3 n k3 (by omega) g2 so)
   ·refine wpS_bind (zdg ?_)
    have k3:=ka.mir (i:=lo) (j:=lo+x) (Nat.le_refl _) (by omega) hn
    have so3:=zfz (by rw[ka.size];omega) dd
    generalize mir a lo (lo+x)=a3 at k3 so3 ⊢
    refine wpS_bind (asc a3 k3 x q0 q1 so3 _ (fun y n h1 h2 Q q=>fstep a3 k3 n h1 h2 Q q _ fun c=>rfl) _ fun n g1 g2 so cs=>?_)
    exact wpS_pure (h a3 n k3 (by omega) g2 so)
end
variable{r:Keyed->Int}
theorem zhi{a:Array Keyed}{i:Nat}{x:Keyed}(h:a.toList[i]? = some x):rk r a i=r x:=by
 unfold rk
 rw[Array.getElem?_toList] at h
 rw[h]
theorem SIn.srt{a:Array Keyed}{lo n:Nat}(h:SIn r a lo n):Srt r ((a.toList.drop lo).take n):=by
 refine List.pairwise_iff_getElem.mpr fun i j hi hj hij=>?_
 have hi':i<n:=by rw[List.length_take] at hi;omega
 have hj':j<n:=by rw[List.length_take] at hj;omega
 have e1:=zbz (l:=a.toList) (i:=lo) hi'
 have e2:=zbz (l:=a.toList) (i:=lo) hj'
 rw[List.getElem?_eq_getElem hi] at e1
 rw[List.getElem?_eq_getElem hj] at e2
 have:=h (lo+i) (lo+j) (by omega) (by omega) (by omega)
 rwa [zhi e1.symm,zhi e2.symm] at this
theorem zqo{a:Array Keyed}{lo n:Nat}(hn:lo+n<=a.size)(h:Srt r ((a.toList.drop lo).take n)):SIn r a lo n:=fun i j hi hij hj=>by
 have at_:∀ k,lo<=k->k<lo+n->∃ x,a.toList[k]? = some x/\((a.toList.drop lo).take n)[k-lo]? = some x:=fun k h1 h2=>by
  have hl:k<a.toList.length:=by rw[Array.length_toList];omega
  refine ⟨_,List.getElem?_eq_getElem hl,?_⟩
  rw[zbz (by omega),show lo+(k-lo)=k by omega]
  exact List.getElem?_eq_getElem hl
 obtain ⟨x,x1,x2⟩:=at_ i hi (by omega)
 obtain ⟨y,y1,y2⟩:=at_ j (by omega) hj
 rw[zhi x1,zhi y1]
 exact h.at (by omega) x2 y2
inductive zdO(r:Keyed->Int)(a:Array Keyed):List (Nat×Nat×Nat)->Nat->Nat->Prop
 |nil {s:Nat}:zdO r a [] s s
 |cons {s n p e:Nat} {l:List (Nat×Nat×Nat)} (h1:1<=n) (hs:SIn r a s n) (t:zdO r a l (s+n) e):zdO r a ((s,n,p)::l) s e
theorem zdO.le{a:Array Keyed}:∀{l:List (Nat×Nat×Nat)}{s e:Nat},zdO r a l s e->s+l.length<=e
 |[],_,_,.nil=>by simp
 |_::_,_,_,.cons h1 hs t=>by have:=t.le;simp;omega
theorem SIn.same{a a':Array Keyed}{lo n:Nat}(h:SIn r a lo n)(e:∀ i,lo<=i->i<lo+n->a'[i]? = a[i]?):SIn r a' lo n:=fun i j hi hij hj=>by
 rw[zdF (e i hi (by omega)),zdF (e j (by omega) hj)]
 exact h i j hi hij hj
theorem zdO.same{a a':Array Keyed}:∀{l:List (Nat×Nat×Nat)}{s e:Nat},zdO r a l s e->(∀ i,s<=i->i<e->a'[i]? = a[i]?)->zdO r a' l s e
 |[],_,_,.nil,_=>.nil
 |_::_,_,_,.cons h1 hs t,h=>.cons h1 (hs.same fun i g1 g2=>h i g1 (by have:=t.le;omega)) (t.same fun i g1 g2=>h i (by omega) g2)
theorem zdO.split{a:Array Keyed}:∀{l m:List (Nat×Nat×Nat)}{s e:Nat},zdO r a (l++m) s e->∃ k,zdO r a l s k/\zdO r a m k e
 |[],_,s,_,h=>⟨s,.nil,h⟩
 |_::_,_,_,_,.cons h1 hs t=>by
  obtain ⟨k,t1,t2⟩:=t.split
  exact ⟨k,.cons h1 hs t1,t2⟩
theorem zdO.join{a:Array Keyed}:∀{l m:List (Nat×Nat×Nat)}{s k e:Nat},zdO r a l s k->zdO r a m k e->zdO r a (l++m) s e
 |[],_,_,_,_,.nil,h=>h
 |_::_,_,_,_,_,.cons h1 hs t,h=>.cons h1 hs (t.join h)
theorem zdO.snoc{a:Array Keyed}{l:List (Nat×Nat×Nat)}{s e n p:Nat}(h:zdO r a l s e)(h1:1<=n)(hs:SIn r a e n):zdO r a (l++[(e,n,p)]) s (e+n):=h.join (.cons h1 hs .nil)
theorem znO{p:Array (Nat×Nat×Nat)}{i:Nat}{x y:Nat×Nat×Nat}(h1:p[i]? = some x)(h2:p[i+1]? = some y)(z:Nat×Nat×Nat):p.toList=p.toList.take i++x::y::p.toList.drop (i+2)/\((p.setIfInBounds i z).eraseIdxIfInBounds (i+1)).toList=p.toList.take i++z::p.toList.drop (i+2):=by
 have g1:p.toList[i]? = some x:=by rw[Array.getElem?_toList];exact h1
 have g2:p.toList[i+1]? = some y:=by rw[Array.getElem?_toList];exact h2
 obtain ⟨l1,e1⟩:=List.getElem?_eq_some_iff.mp g1
 obtain ⟨l2,e2⟩:=List.getElem?_eq_some_iff.mp g2
 have d:p.toList.drop i=x::y::p.toList.drop (i+2):=by
  rw[List.drop_eq_getElem_cons l1,e1,List.drop_eq_getElem_cons l2,e2]
 constructor
 ·rw[<- d,List.take_append_drop]
 ·rw[Array.toList_eraseIdxIfInBounds,Array.toList_setIfInBounds,List.set_eq_take_append_cons_drop,if_pos l1,List.drop_eq_getElem_cons l2]
  rw[List.eraseIdx_append_of_length_le (by rw[List.length_take];omega),List.length_take,show i+1-min i p.toList.length=1 by omega]
  rfl
section
variable{prog:Program}{w:World}{A:Around}{E:Value->Shared->Prop}{s:Shared}
structure Sg(kd:SortKind)(r:Keyed->Int)(b:Array Keyed)(lo:Nat)(st:SortSt):Prop where
 kd:kindOf st=kd
 ok:failedOf st=none
 pm:(arrOf st).Perm b
 rs:zdO r (arrOf st) (pendingOf st).toList 0 lo
theorem Sg.mergeAt{kd:SortKind}{P:Keyed->Prop}(C:Cp prog w A s kd P r){b:Array Keyed}(hP:∀ x∈b.toList,P x){lo i:Nat}{st:SortSt}{Q:Bool->SortSt->Prop}(h:Sg kd r b lo st)(hlo:lo<=b.size)(hi:i+1<(pendingOf st).size)
  (q:∀ st',Sg kd r b lo st'->(∀ j,lo<=j->(arrOf st')[j]? = (arrOf st)[j]?)->(pendingOf st').size+1=(pendingOf st).size->Q true st'):wpS (model prog w) A E s (zeF i) Q st:=by
 have sz:(arrOf st).size=b.size:=h.pm.size_eq
 have e1:(pendingOf st)[i]? = some ((pendingOf st)[i]'(by omega)):=getElem?_pos (pendingOf st) i (by omega)
 have e2:(pendingOf st)[i+1]? = some ((pendingOf st)[i+1]'hi):=getElem?_pos (pendingOf st) (i+1) hi
 generalize (pendingOf st)[i]'(by omega)=x at e1
 generalize (pendingOf st)[i+1]'hi=y at e2
 obtain ⟨sa,na,pw⟩:=x
 obtain ⟨sb,nb,p2⟩:=y
 obtain ⟨d1,d2⟩:=znO e1 e2 (sa,na+nb,pw)
 have rs:=h.rs
 rw[d1] at rs
 obtain ⟨k,t1,t2⟩:=rs.split
 cases t2 with
 |cons ha sa' t2 =>
  cases t2 with
  |cons hb sb' t3 =>
   have l3:=t3.le
   refine zj5 C h.kd h.ok (fun x hx=>hP x ((Array.perm_iff_toList_perm.mp h.pm).mem_iff.mp hx)) e1 e2 rfl (by omega) (by omega) (by omega) sa'.srt sb'.srt fun arr' m g em pm so=>?_
   have lm:m.length=na+nb:=by rw[pm.length_eq,List.length_take,List.length_drop,Array.length_toList];omega
   have lt:((arrOf st).toList.take sa).length=sa:=by rw[List.length_take,Array.length_toList];omega
   have out:∀ j,j<sa\/sa+(na+nb)<=j->arr'[j]? = (arrOf st)[j]? := fun j hj=>by
    rw[<- Array.getElem?_toList,<- Array.getElem?_toList,em]
    rcases hj with hj|hj
    ·rw[List.append_assoc,List.getElem?_append_left (by omega),List.getElem?_take,if_pos hj]
    ·rw[List.getElem?_append_right (by rw[List.length_append];omega),List.getElem?_drop,List.length_append,lt,lm]
     congr 1
     omega
   have ps:arr'.Perm (arrOf st):=by
    refine Array.perm_iff_toList_perm.mpr ?_
    rw[em]
    have wh:(arrOf st).toList=(arrOf st).toList.take sa++((arrOf st).toList.drop sa).take (na+nb)++(arrOf st).toList.drop (sa+na+nb):=by
     rw[List.append_assoc,show sa+na+nb=sa+(na+nb) by omega,<- List.drop_drop,List.take_append_drop,List.take_append_drop]
    refine List.Perm.trans ?_ (List.Perm.of_eq wh.symm)
    exact (List.Perm.append_left _ pm).append_right _
   have sz':arr'.size=(arrOf st).size:=ps.size_eq
   have sM:SIn r arr' sa (na+nb):=by
    refine zqo (by omega) ?_
    rw[em,List.append_assoc,List.drop_append,lt,List.drop_eq_nil_iff.mpr (by omega),List.nil_append,Nat.sub_self,List.drop_zero,List.take_append,lm,Nat.sub_self,List.take_zero,List.append_nil,List.take_of_length_le (by omega)]
    exact so
   refine q _ ⟨h.kd,rfl,ps.trans h.pm,?_⟩ (fun j hj=>out j (.inr (by omega))) ?_
   ·show zdO r arr' _ 0 lo
    have ep:(pendingOf (SortSt.mk' (kindOf st) arr' (((pendingOf st).setIfInBounds i (sa,na+nb,pw)).eraseIdxIfInBounds (i+1)) g none)).toList=(pendingOf st).toList.take i++(sa,na+nb,pw)::(pendingOf st).toList.drop (i+2):=d2
    rw[ep]
    refine (t1.same fun j _ hj=>out j (.inl hj)).join (.cons (by omega) sM ?_)
    rw[<- Nat.add_assoc]
    exact t3.same fun j hj _=>out j (.inr (by omega))
   ·show (((pendingOf st).setIfInBounds i (sa,na+nb,pw)).eraseIdxIfInBounds (i+1)).size+1=_
    rw[<- Array.length_toList,d2,<- Array.length_toList,List.length_append,List.length_cons,List.length_take,List.length_drop]
    rw[<- Array.length_toList] at hi
    omega
end
variable{r:Keyed->Int}
def ziT:StateT SortSt Sem Unit:=sortPriv% PySem.Builtin.sortRuns
theorem zdO.modify{a:Array Keyed}{f:Nat×Nat×Nat->Nat×Nat×Nat}(hf:∀ x,(f x).1=x.1/\(f x).2.1=x.2.1):∀{l:List (Nat×Nat×Nat)}{s e:Nat}(i:Nat),zdO r a l s e->zdO r a (l.modify i f) s e
 |[],_,_,i,.nil=>by rw[List.modify_nil];exact .nil
 | (s,n,p)::l,_,_,0,.cons h1 hs t=>by
  rw[List.modify_zero_cons]
  obtain ⟨e1,e2⟩:=hf (s,n,p)
  have:f (s,n,p)=(s,n,(f (s,n,p)).2.2):=Prod.ext e1 (Prod.ext e2 rfl)
  rw[this]
  exact .cons h1 hs t
 |_::l,_,_,i+1,.cons h1 hs t=>by
  rw[List.modify_succ_cons]
  exact .cons h1 hs (zdO.modify hf i t)
section
variable{prog:Program}{w:World}{A:Around}{E:Value->Shared->Prop}{s:Shared}
theorem Sg.arr{kd:SortKind}{b:Array Keyed}{lo hi:Nat}{st:SortSt}(h:Sg kd r b lo st){a:Array Keyed}(k:Kp (arrOf st) lo hi a):Sg kd r b lo (setArr st a) :=
 ⟨h.kd,h.ok,k.pm.trans h.pm,h.rs.same fun i _ hi=>k.out i (.inl hi)⟩
theorem zhw{kd:SortKind}{P:Keyed->Prop}(C:Cp prog w A s kd P r){b:Array Keyed}(hP:∀ x∈b.toList,P x){st:SortSt}{Q:Unit->SortSt->Prop}(h0:Sg kd r b 0 st)(hsz:1<=b.size)
  (h:∀ st',Sg kd r b b.size st'->(pendingOf st').size<=1->Q () st'):wpS (model prog w) A E s ziT Q st:=by
 have sz:(arrOf st).size=b.size:=h0.pm.size_eq
 have mloop:∀ lo,lo<=b.size->∀(st2:SortSt),Sg kd r b lo st2->∀ f:Nat->Option Unit×Unit->StateT SortSt Sem (ForInStep (Option Unit×Unit)),(∀ x st',Sg kd r b lo st'->∀ Q:ForInStep (Option Unit×Unit)->SortSt->Prop,Q (.done (none,())) st'->((pendingOf st').size > 1->wpS (model prog w) A E s (zeF ((pendingOf st').size-2)) (fun ok st''=>Q (if ok=true then .yield (none,()) else .done (some (),())) st'') st')->wpS (model prog w) A E s (f x (none,())) Q st') ->
   ∀ Q:Option Unit×Unit->SortSt->Prop,(∀ st',Sg kd r b lo st'->(∀ j,lo<=j->(arrOf st')[j]? = (arrOf st2)[j]?)->Q (none,()) st')->wpS (model prog w) A E s (forIn [:b.size] (none,()) f) Q st2:=by
  intro lo hlo st2 S2 f hf Q hQ
  refine wpS_forRange (I:=fun _ c st'=>c=(none,())/\Sg kd r b lo st'/\∀ j,lo<=j->(arrOf st')[j]? = (arrOf st2)[j]?) ?_ ?_ ⟨rfl,S2,fun _ _=>rfl⟩
  ·rintro t c st' _ _ ⟨rfl,S,keep⟩
   refine hf t st' S _ (hQ st' S keep) fun g=>?_
   exact S.mergeAt C hP hlo (by omega) fun st'' S' k' _=>⟨rfl,S',fun j hj=>(k' j hj).trans (keep j hj)⟩
  ·rintro c st' ⟨rfl,S,keep⟩
   exact hQ st' S keep
 unfold ziT
 refine wpS_bind (wpS_get ?_)
 have ez:((sortPriv% PySem.Builtin.SortState.a) st).size=b.size:=sz
 rw[ez]
 refine wpS_bind (wpS_mono (Q:=fun c st'=>c.1=none/\Sg kd r b b.size st') (wpS_forRange (I:=fun t c st'=>∃ lo,c=(none,lo)/\Sg kd r b lo st'/\lo<=b.size/\t<=lo) ?_ ?_ ⟨0,rfl,h0,by omega,by omega⟩) ?_)
 ·rintro t c st1 _ ht ⟨lo,rfl,S1,hlo,htl⟩
  dsimp only
  refine zai (fun c1=>?_) (fun c1=>?_)
  ·have:lo=b.size:=by omega
   subst this
   exact wpS_pure ⟨rfl,S1⟩
  have z1:(arrOf st1).size=b.size:=S1.pm.size_eq
  have p1:∀ x∈(arrOf st1).toList,P x:=fun x hx=>hP x ((Array.perm_iff_toList_perm.mp S1.pm).mem_iff.mp hx)
  refine wpS_bind (zhK C rfl S1.kd p1 (by omega) (by omega) fun a n ka n1 n2 so=>?_)
  dsimp only
  have S2:=S1.arr ka
  have za:=ka.size
  refine zai (fun c2=>?_) (fun c2=>?_)
  ·refine wpS_bind (zcW ?_)
   have hF1:=Nat.le_min.mpr ⟨n2,Nat.le_of_lt c2⟩
   have hF2:=Nat.min_le_left (b.size-lo) ((sortPriv% PySem.Builtin.minRun) b.size b.size 0)
   generalize min (b.size-lo) ((sortPriv% PySem.Builtin.minRun) b.size b.size 0)=N at hF1 hF2 ⊢
   refine wpS_bind (zga C (st:=setArr st1 a) S2.kd (fun x hx=>p1 x ((Array.perm_iff_toList_perm.mp ka.pm).mem_iff.mp hx)) (show lo+N<=a.size by omega) hF1 (by omega) so fun a' pm out so3=>?_)
   refine zai (fun c3=>absurd c3 (by simp)) (fun _=>?_)
   have S3:=S2.arr ⟨pm,out⟩
   have so3:SIn r (arrOf (setArr (setArr st1 a) a')) lo N:=so3
   have hN1:1<=N:=by omega
   generalize setArr (setArr st1 a) a'=st2 at S3 so3 ⊢
   refine wpS_bind (wpS_get ?_)
   cases hb:(pendingOf st2).back? with
   |none =>
    dsimp only
    refine wpS_bind (wpS_modify (wpS_pure ⟨lo+N,rfl,⟨S3.kd,S3.ok,S3.pm,?_⟩,by omega,by omega⟩))
    show zdO r (arrOf st2) ((pendingOf st2).push (lo,N,0)).toList 0 (lo+N)
    rw[Array.toList_push]
    exact S3.rs.snoc hN1 so3
   |some v =>
    obtain ⟨s1,m1,pp⟩:=v
    dsimp only
    refine wpS_bind (mloop lo hlo st2 S3 _ (fun x st' S Q q1 q2=>?_) _ fun st' S keep=>?_)
    ·refine wpS_bind (wpS_get ?_)
     by_cases g:(pendingOf st').size > 1
     ·have eg:(pendingOf st')[(pendingOf st').size-2]? = some ((pendingOf st')[(pendingOf st').size-2]'(by omega)):=getElem?_pos (pendingOf st') _ (by omega)
      rw[if_pos g,eg]
      dsimp only
      refine zai (fun _=>wpS_pure q1) (fun _=>wpS_bind (wpS_mono (q2 g) fun ok st'' hq=>?_))
      cases ok with
      |true=>exact wpS_pure hq
      |false=>exact wpS_pure hq
     ·rw[if_neg g]
      exact wpS_pure q1
    ·dsimp only
     refine wpS_bind (wpS_modify (wpS_bind (wpS_modify (wpS_pure ⟨lo+N,rfl,⟨S.kd,S.ok,S.pm,?_⟩,by omega,by omega⟩))))
     show zdO r (arrOf st') (((pendingOf st').modify ((pendingOf st').size-1) _).push (lo,N,0)).toList 0 (lo+N)
     rw[Array.toList_push,Array.toList_modify]
     refine zdO.snoc (zdO.modify ?_ _ S.rs) hN1 (so3.same fun i h1 h2=>keep i h1)
     exact fun x=>⟨rfl,rfl⟩
  ·have S3:=S2
   have so3:SIn r (arrOf (setArr st1 a)) lo n:=so
   have hN1:1<=n:=n1
   generalize setArr st1 a=st2 at S3 so3 ⊢
   refine wpS_bind (wpS_get ?_)
   cases hb:(pendingOf st2).back? with
   |none =>
    dsimp only
    refine wpS_bind (wpS_modify (wpS_pure ⟨lo+n,rfl,⟨S3.kd,S3.ok,S3.pm,?_⟩,by omega,by omega⟩))
    show zdO r (arrOf st2) ((pendingOf st2).push (lo,n,0)).toList 0 (lo+n)
    rw[Array.toList_push]
    exact S3.rs.snoc hN1 so3
   |some v =>
    obtain ⟨s1,m1,pp⟩:=v
    dsimp only
    refine wpS_bind (mloop lo hlo st2 S3 _ (fun x st' S Q q1 q2=>?_) _ fun st' S keep=>?_)
    ·refine wpS_bind (wpS_get ?_)
     by_cases g:(pendingOf st').size > 1
     ·have eg:(pendingOf st')[(pendingOf st').size-2]? = some ((pendingOf st')[(pendingOf st').size-2]'(by omega)):=getElem?_pos (pendingOf st') _ (by omega)
      rw[if_pos g,eg]
      dsimp only
      refine zai (fun _=>wpS_pure q1) (fun _=>wpS_bind (wpS_mono (q2 g) fun ok st'' hq=>?_))
      cases ok with
      |true=>exact wpS_pure hq
      |false=>exact wpS_pure hq
     ·rw[if_neg g]
      exact wpS_pure q1
    ·dsimp only
     refine wpS_bind (wpS_modify (wpS_bind (wpS_modify (wpS_pure ⟨lo+n,rfl,⟨S.kd,S.ok,S.pm,?_⟩,by omega,by omega⟩))))
     show zdO r (arrOf st') (((pendingOf st').modify ((pendingOf st').size-1) _).push (lo,n,0)).toList 0 (lo+n)
     rw[Array.toList_push,Array.toList_modify]
     refine zdO.snoc (zdO.modify ?_ _ S.rs) hN1 (so3.same fun i h1 h2=>keep i h1)
     exact fun x=>⟨rfl,rfl⟩
 ·rintro c st' ⟨lo,rfl,S,g1,g2⟩
  have:lo=b.size:=by omega
  subst this
  exact ⟨rfl,S⟩
 ·rintro ⟨c1,c⟩ st' ⟨e,S⟩
  dsimp only at e ⊢
  subst e
  dsimp only
  refine wpS_bind (wpS_mono (Q:=fun c st'=>c.1=none/\Sg kd r b b.size st'/\(pendingOf st').size<=1) (wpS_forRange (I:=fun t c st'=>c=(none,())/\Sg kd r b b.size st'/\((pendingOf st').size<=1\/(pendingOf st').size+t<=b.size+1)) ?_ ?_ ⟨rfl,S,.inr (by have:=S.rs.le;rw[Array.length_toList] at this;omega)⟩) ?_)
  ·rintro t c st1 _ ht ⟨rfl,S1,g⟩
   refine wpS_bind (wpS_get ?_)
   refine zai (fun c1=>?_) (fun c1=>?_)
   ·exact wpS_pure ⟨rfl,S1,c1⟩
   have c1':¬ (pendingOf st1).size<=1:=c1
   have yes:∀ i,i+1<(pendingOf st1).size->∀ g:Bool->StateT SortSt Sem (ForInStep (Option Unit×Unit)),g true=pure (.yield (none,()))->∀ Q:ForInStep (Option Unit×Unit)->SortSt->Prop,(∀ st'',Sg kd r b b.size st''->(pendingOf st'').size+1=(pendingOf st1).size->Q (.yield (none,())) st'')->wpS (model prog w) A E s (zeF i >>= g) Q st1:=fun i hi g hg Q hQ=>by
    refine wpS_bind (S1.mergeAt C hP (Nat.le_refl _) hi fun st'' S' _ e=>?_)
    rw[hg]
    exact wpS_pure (hQ st'' S' e)
   refine yes _ ?_ _ ?_ _ fun st'' S' e=>⟨rfl,S',by omega⟩
   rotate_left
   ·rfl
   have two:∀(c:Prop) [Decidable c] (n:Nat),¬ n<=1->(if c then n-2-1 else n-2)+1<n:=fun c _ n hn=>by split <;> omega
   exact two _ _ c1'
  ·rintro c st1 ⟨rfl,S1,g⟩
   exact ⟨rfl,S1,by omega⟩
  ·rintro ⟨c1,c⟩ st1 ⟨e,S1,g⟩
   dsimp only at e ⊢
   subst e
   exact wpS_pure (h st1 S1 g)
end
section
variable{prog:Program}{w:World}{A:Around}{E:Value->Shared->Prop}{s:Shared}{r:Keyed->Int}
theorem zl3{kd:SortKind}{PK:Keyed->Prop}{x:Addr}{vs:List Value}{n:Nat}{P:Fin->Shared->Prop}(ho:s.heap.get? x=some (seqObj "list" vs.toArray n))(h2:2<=vs.length)(hz:vs.length<=sizeLine)
  (hkk:∀(h':Heap),(∀ b o,b≠x->s.heap.get? b=some o->h'.get? b=some o)->∀(Q:SortKind->Shared->Prop)(E:Value->Shared->Prop),Q kd { s with heap:=h' }->wpAny (model prog w) A (keyKind' vs.toArray) Q E { s with heap:=h' })
  (C:∀(h':Heap),(∀ b o,b≠x->s.heap.get? b=some o->h'.get? b=some o)->Cp prog w A { s with heap:=h' } kd PK r) (hP:∀ p∈(pairsOf vs).toList,PK p)
  (h:∀ out:Array Keyed,out.Perm (pairsOf vs)->SIn r out 0 vs.length->P (.done (.ret .none)) { s with heap:=sortedHeap s.heap x vs (out.map (·.2)) }) :
  wpAny (model prog w) A (Builtin.«list.sort» ⟨[.ref x],[]⟩) P E s:=by
 have hx:=Heap.lt_size ho
 have hn2:¬ vs.toArray.size<2:=by rw[List.size_toArray];omega
 rw[list_sort_plain]
 refine wpAny_bind (listItems_at ho rfl (wpAny_bind (listUpdate_at ho rfl ?_)))
 have g1:=get?_update_seq ho fun _=>(#[]:Array Value)
 have keep:∀ b o,b≠x->s.heap.get? b=some o->(s.heap.update x (Obj.mapSeq fun _=>#[])).get? b=some o:=fun b o hb e=>((Heap.SameBut.update s.heap x (Obj.mapSeq fun _=>#[])).2 b hb).trans e
 refine wpAny_bind (seqEpoch_at g1 rfl (wpAny_bind (wpAny_newTuple (wpAny_bind (wpAny_newList (wpAny_holding ?_))))))
 have k6:∀ b o,b≠x->s.heap.get? b=some o->(((s.heap.update x (Obj.mapSeq fun _=>#[])).push (seqObj "tuple" vs.toArray 0)).push (seqObj "list" #[] 0)).get? b=some o:=fun b o hb e=>Heap.get?_push_of_some _ (Heap.get?_push_of_some _ (keep b o hb e))
 have g6:=Heap.get?_push_of_some (seqObj "list" #[] 0) (Heap.get?_push_of_some (seqObj "tuple" vs.toArray 0) g1)
 have hps:(pairsOf vs).size=vs.length:=pairsOf_size vs
 show wpAny _ A _ P E { s with heap:=((s.heap.update x (Obj.mapSeq fun _=>#[])).push (seqObj "tuple" vs.toArray 0)).push (seqObj "list" #[] 0) }
 dsimp only
 rw[if_neg hn2]
 refine wpAny_bind (hkk _ k6 _ _ ?_)
 rw[if_neg hn2]
 have run:=zhw (E:=E) (C _ k6) hP (st:=SortSt.mk' kd (pairsOf vs) #[] 7 none) (Q:=fun _ st'=>Sg kd r (pairsOf vs) (pairsOf vs).size st'/\(pendingOf st').size<=1) ⟨rfl,rfl,.refl _,.nil⟩ (by omega) fun st' S p=>⟨S,p⟩
 refine wpAny_bind (wpAny_mono run ?_ fun _ _ e=>e)
 rintro ⟨⟨⟩,st'⟩ s' ⟨rfl,S,hp⟩
 dsimp only at S hp ⊢
 have so:SIn r (arrOf st') 0 vs.length:=by
  have rs:=S.rs
  rw[hps] at rs
  cases hl:(pendingOf st').toList with
  |nil =>
   rw[hl] at rs
   generalize hv:vs.length=L at rs h2
   cases rs
   omega
  |cons p q =>
   have hq:q=[]:=by
    have:=congrArg List.length hl
    rw[Array.length_toList,List.length_cons] at this
    exact List.length_eq_zero_iff.mp (by omega)
   subst hq
   rw[hl] at rs
   generalize hv:vs.length=L at rs h2 ⊢
   cases rs with
   |cons h1 hs t =>
    cases t
    rw[Nat.zero_add]
    exact hs
 refine wpAny_bind (seqEpoch_at g6 rfl (wpAny_bind (listUpdate_at g6 rfl ?_ (hsz2:=by rw[Array.size_map,S.pm.size_eq,hps];exact Nat.le_succ_of_le hz))))
 rw[S.ok]
 simp only[bne_self_eq_false,Bool.false_eq_true,if_false]
 exact wpAny_pure (h (arrOf st') S.pm so)
end
section
variable{prog:Program}{w:World}{A:Around}{E:Value->Shared->Prop}{s:Shared}{r:Keyed->Int}
theorem zi7{kd:SortKind}{PK:Keyed->Prop}{l:Addr}{vs:List Value}{Q:Value->Shared->Prop}(hl:s.heap.IsList l vs.toArray)(h2:2<=vs.length)(hz:vs.length<=sizeLine)
  (hkk:∀(A:Around)(h':Heap),(∀ b o,s.heap.get? b=some o->h'.get? b=some o)->∀(Q:SortKind->Shared->Prop)(E:Value->Shared->Prop),Q kd { s with heap:=h' }->wpAny (model prog w) A (keyKind' vs.toArray) Q E { s with heap:=h' })
  (C:∀(h':Heap),(∀ b o,s.heap.get? b=some o->h'.get? b=some o)->Cp prog w A.in1.in1 { s with heap:=h' } kd PK r) (hP:∀ p∈(pairsOf vs).toList,PK p)
  (h:∀ out:Array Keyed,out.Perm (pairsOf vs)->SIn r out 0 vs.length->Q (.ref (s.heap.objs.size+1)) { s with heap:=sortedAll s.heap vs (out.map (·.2)) }) :
  wpAny (model prog w) A (call (.builtin "sorted") [.ref l]) Q E s:=by
 have keep0:∀ b o,s.heap.get? b=some o->(((s.heap.push (seqObj "list" #[] 0)).update s.heap.objs.size (Obj.mapSeq (·++vs.toArray))).push (seqObj "list" vs.toArray 0)).get? b=some o:=fun b o e=>Heap.get?_push_of_some _ (((Heap.SameBut.update (s.heap.push (seqObj "list" #[] 0)) s.heap.objs.size (Obj.mapSeq (·++vs.toArray))).2 b (Nat.ne_of_lt (Heap.lt_size e))).trans (Heap.get?_push_of_some _ e))
 have zz:((s.heap.push (seqObj "list" #[] 0)).update s.heap.objs.size (Obj.mapSeq (·++vs.toArray))).objs.size=s.heap.objs.size+1:=(Heap.size_update ..).trans (size_push' ..)
 have ff:(((s.heap.push (seqObj "list" #[] 0)).update s.heap.objs.size (Obj.mapSeq (·++vs.toArray))).push (seqObj "list" vs.toArray 0)).get? ((s.heap.push (seqObj "list" #[] 0)).update s.heap.objs.size (Obj.mapSeq (·++vs.toArray))).objs.size=some (seqObj "list" vs.toArray 0):=Heap.get?_push_size _ rfl
 rw[zz] at ff
 refine Calls.call_function_entry kind_sorted plain_sorted entry_sorted (args_sorted1 (.ref l)) (by
  unfold Builtin.«sorted»
  refine wpAny_bind (m:=checkCount "sorted" 1 1 _) (wpAny_pure (wpAny_bind (collect_list hl (wpAny_bind (wpAny_newList ?_ hz)))))
  show wpAny _ _ _ _ _ { s with heap:=((s.heap.push (seqObj "list" #[] 0)).update s.heap.objs.size (Obj.mapSeq (·++vs.toArray))).push (seqObj "list" vs.toArray 0) }
  rw[zz]
  refine wpAny_bind (wpAny_holding (wpAny_call_entry slot_list_sort ⟨_,ff,rfl⟩ entry_list_sort (zl3 (kd:=kd) (PK:=PK) (r:=r) ff h2 hz (fun h' k=>hkk _ h' fun b o e=>k b o (fun z=>absurd (Heap.lt_size e) (by rw[z];exact Nat.not_lt.mpr (Nat.le_succ _))) (keep0 b o e)) (fun h' k=>C h' fun b o e=>k b o (fun z=>absurd (Heap.lt_size e) (by rw[z];exact Nat.not_lt.mpr (Nat.le_succ _))) (keep0 b o e)) hP fun out pm so=>⟨_,rfl,wpAny_pure ⟨_,rfl,h out pm so⟩⟩) (args_list_sort _))))
end
end Ts
end
section
namespace Ts
open PySem PySem.W PyProof.Rows
inductive IL:List Value->List Int->Prop
 |nil:IL [] []
 |cons {a:Int} {t:Tok} {vs:List Value} {l:List Int} (h:IL vs l):IL (.int a t::vs) (a::l)
theorem IL.len{vs:List Value}{l:List Int}(h:IL vs l):vs.length=l.length:=by
 induction h with
 |nil=>rfl
 |cons h ih=>simp[ih]
def lxB:List Int->List Int->Bool
 |[],[]=>false
 |[],_::_=>true
 |_::_,[]=>false
 |x::xs,y::ys=>if x=y then lxB xs ys else decide (x<y)
section
variable{prog:Program}{w:World}{A:Around}{E:Value->Shared->Prop}{s:Shared}
theorem znP{c:Bool}{a b:Int}{t u:Tok}{Q:Bool->Shared->Prop}(h:Q (decide (a<b)) s):wpAny (model prog w) A (oneLt' c (.int a t) (.int b u)) Q E s:=by
 cases c with
 |true=>exact oneLt_int h
 |false =>
  rw[oneLt'_eq]
  simp only[Bool.false_eq_true,if_false]
  exact wpAny_bind (richCompare_gives (op:=.Lt) (typeIs_int s _ t) (typeIs_int s _ u) PySem.F.slot_int_lt PySem.F.entry_int_lt (PySem.F.args_int_lt_2 _ _) (gives_int_lt _ _ t u) (fun x=>nomatch x) (wpAny_truthy_bool h))
theorem zo3{c:Bool}{Q:Bool->Shared->Prop}{xs:List Value}{l:List Int}(hx:IL xs l):∀{ys:List Value}{m:List Int}{i:Nat}{fin:Bool},IL ys m->fin=decide (l.length<m.length)->Q (lxB l m) s->KatLex prog w A c fin Q (xs.zip ys) i s:=by
 induction hx with
 |nil =>
  intro ys m i fin hy hf q
  rw[List.zip_nil_left]
  refine kat_nil ?_
  cases hy with
  |nil=>rw[hf];exact q
  |cons h=>rw[hf];simpa [lxB] using q
 |@cons a t vs l h ih =>
  intro ys m i fin hy hf q
  cases hy with
  |nil=>rw[List.zip_nil_right];refine kat_nil ?_;rw[hf];simpa [lxB] using q
  |@cons b u ws k h' =>
   rw[List.zip_cons_cons]
   refine kat_cons (wpAny_eqBool_int (kat_go (fun e=>kat_yes (ih h' (by rw[hf];simp) ?_)) fun e=>kat_no (znP ?_)))
   ·rw[beq_iff_eq] at e
    unfold lxB at q
    rw[if_pos e] at q
    exact q
   ·have e':¬ a=b:=by simpa using e
    unfold lxB at q
    rw[if_neg e'] at q
    exact q
theorem zka{c:Bool}{st:SortSt}{p q:Keyed}{x y:Addr}{ox oy:Obj}{xs ys:Array Value}{n k:Nat}{l m:List Int}{Q:Option Bool->SortSt->Prop}(hk:kindOf st=tuples' c)(px:p.1=.ref x)(py:q.1=.ref y)(hx:s.heap.get? x=some ox)(dx:ox.data=.seq xs n)(hy:s.heap.get? y=some oy)(dy:oy.data=.seq ys k)(ix:IL xs.toList l)(iy:IL ys.toList m)
  (h:Q (some (lxB l m)) st):wpS (model prog w) A E s (lt' p q) Q st:=by
 rw[lt'_eq]
 refine wpS_bind (wpS_get ?_)
 rw[hk,px,py]
 refine wpS_bind (wpS_lift (wpAny_attempt (kat_lt hx dx hy dy (zo3 ix iy ?_ ⟨rfl,?_⟩))))
 ·rw[<- ix.len,<- iy.len,Array.length_toList,Array.length_toList]
 ·exact wpS_pure h
end
theorem lxB_irr:∀ a:List Int,lxB a a=false
 |[]=>rfl
 |x::xs=>by unfold lxB;rw[if_pos rfl];exact lxB_irr xs
theorem lxB_tr:∀{a b c:List Int},lxB a b=true->lxB b c=true->lxB a c=true
 |[],[],_,h,_=>by cases h
 |[],_::_,[],_,h=>by cases h
 |[],_::_,_::_,_,_=>rfl
 |_::_,[],_,h,_=>by cases h
 |_::_,_::_,[],_,h=>by cases h
 |x::xs,y::ys,z::zs,h,h'=>by
  unfold lxB at h h' ⊢
  by_cases e1:x=y
  ·subst e1
   rw[if_pos rfl] at h
   by_cases e2:x=z
   ·rw[if_pos e2] at h' ⊢
    exact lxB_tr h h'
   ·rw[if_neg e2] at h' ⊢;exact h'
  ·rw[if_neg e1,decide_eq_true_eq] at h
   by_cases e2:y=z
   ·subst e2
    rw[if_neg e1,decide_eq_true_eq];exact h
   ·rw[if_neg e2,decide_eq_true_eq] at h'
    rw[if_neg (by omega),decide_eq_true_eq];omega
theorem lxB_tot:∀{a b:List Int},lxB a b=false->lxB b a=false->a=b
 |[],[],_,_=>rfl
 |[],_::_,h,_=>by cases h
 |_::_,[],_,h=>by cases h
 |x::xs,y::ys,h,h'=>by
  unfold lxB at h h'
  by_cases e1:x=y
  ·subst e1
   rw[if_pos rfl] at h h'
   rw[lxB_tot h h']
  ·rw[if_neg e1,decide_eq_false_iff_not] at h
   rw[if_neg (Ne.symm e1),decide_eq_false_iff_not] at h'
   omega
theorem zi0{α:Type}{p q:α->Bool}(hpq:∀ x,p x=true->q x=true):∀{L:List α},(L.filter p).length<=(L.filter q).length/\(∀ a∈L,q a=true->p a=false->(L.filter p).length<(L.filter q).length)
 |[]=>⟨Nat.le_refl _,fun a h=>by cases h⟩
 |x::L=>by
  obtain ⟨h1,h2⟩:=zi0 (p:=p) (q:=q) hpq (L:=L)
  cases hp:p x with
  |true =>
   have hq:=hpq x hp
   rw[List.filter_cons_of_pos hp,List.filter_cons_of_pos hq,List.length_cons,List.length_cons]
   refine ⟨by omega,fun a ha qa pa=>?_⟩
   rcases List.mem_cons.mp ha with z|z
   ·subst z;rw[hp] at pa;cases pa
   ·have:=h2 a z qa pa;omega
  |false =>
   rw[List.filter_cons_of_neg (by rw[hp];simp)]
   cases hq:q x with
   |true =>
    rw[List.filter_cons_of_pos hq,List.length_cons]
    exact ⟨by omega,fun a ha qa pa=>by omega⟩
   |false =>
    rw[List.filter_cons_of_neg (by rw[hq];simp)]
    refine ⟨h1,fun a ha qa pa=>?_⟩
    rcases List.mem_cons.mp ha with z|z
    ·subst z;rw[hq] at qa;cases qa
    ·exact h2 a z qa pa
def zr2(Ls:List (List Int))(a:List Int):Int:=((Ls.filter fun l=>lxB l a).length:Nat)
theorem zmE{Ls:List (List Int)}{a b:List Int}(ha:a∈Ls)(h:lxB a b=true):zr2 Ls a<zr2 Ls b:=by
 have:=(zi0 (p:=fun l=>lxB l a) (q:=fun l=>lxB l b) (fun x hx=>lxB_tr hx h) (L:=Ls)).2 a ha h (lxB_irr a)
 unfold zr2
 omega
theorem zna{Ls:List (List Int)}{a b:List Int}(ha:a∈Ls)(hb:b∈Ls):decide (zr2 Ls a<zr2 Ls b)=lxB a b:=by
 cases h:lxB a b with
 |true=>exact decide_eq_true (zmE ha h)
 |false =>
  refine decide_eq_false fun z=>?_
  cases h':lxB b a with
  |true=>have:=zmE hb h';omega
  |false=>rw[lxB_tot h h'] at z;omega
section
variable{prog:Program}{w:World}{A:Around}{s:Shared}
theorem zqK{c:Bool}{tk:Keyed->List Int}{Ls:List (List Int)}:Cp prog w A s (tuples' c) (fun p=>tk p∈Ls/\∃ x o xs n,p.1=.ref x/\s.heap.get? x=some o/\o.data=.seq xs n/\IL xs.toList (tk p)) (fun p=>zr2 Ls (tk p)):=by
 intro E p q st Q hp hq hk h
 obtain ⟨m1,x,o,xs,n,e1,e2,e3,e4⟩:=hp
 obtain ⟨m2,y,o',ys,k,g1,g2,g3,g4⟩:=hq
 refine zka hk e1 g1 e2 e3 g2 g3 e4 g4 ?_
 rw[<- zna m1 m2]
 exact h
end
section
variable{prog:Program}{w:World}{A:Around}{E:Value->Shared->Prop}{s:Shared}
theorem zie(vs:List Value):(pairsOf vs).map (·.2)=vs.toArray:=by
 unfold pairsOf
 apply Array.ext
 ·simp
 ·intro i h1 h2;simp
theorem znF{x:Addr}{vs:List Value}{n:Nat}{P:PySem.Fin->Shared->Prop}(ho:s.heap.get? x=some (seqObj "list" vs.toArray n))(h2:vs.length<2)
  (h:P (.done (.ret .none)) { s with heap:=sortedHeap s.heap x vs vs.toArray }) :
  wpAny (model prog w) A (Builtin.«list.sort» ⟨[.ref x],[]⟩) P E s:=by
 have hn2:vs.toArray.size<2:=by rw[List.size_toArray];exact h2
 rw[list_sort_plain]
 refine wpAny_bind (listItems_at ho rfl (wpAny_bind (listUpdate_at ho rfl ?_)))
 have g1:=get?_update_seq ho fun _=>(#[]:Array Value)
 refine wpAny_bind (seqEpoch_at g1 rfl (wpAny_bind (wpAny_newTuple (wpAny_bind (wpAny_newList (wpAny_holding ?_))))))
 have g6:=Heap.get?_push_of_some (seqObj "list" #[] 0) (Heap.get?_push_of_some (seqObj "tuple" vs.toArray 0) g1)
 show wpAny _ A _ P E { s with heap:=((s.heap.update x (Obj.mapSeq fun _=>#[])).push (seqObj "tuple" vs.toArray 0)).push (seqObj "list" #[] 0) }
 dsimp only
 rw[if_pos hn2]
 refine wpAny_bind (wpAny_pure ?_)
 rw[if_pos hn2,StateT.run_pure]
 refine wpAny_bind (wpAny_pure (wpAny_bind (seqEpoch_at g6 rfl (wpAny_bind (listUpdate_at g6 rfl ?_ (hsz2:=by rw[Array.size_map];show (pairsOf vs).size<=_;rw[pairsOf_size,sizeLine_eq];omega))))))
 simp only[bne_self_eq_false,Bool.false_eq_true,if_false]
 refine wpAny_pure ?_
 have h':P (.done (.ret .none)) { s with heap:=sortedHeap s.heap x vs ((pairsOf vs).map (·.2)) }:=by rw[zie];exact h
 exact h'
theorem zlD{l:Addr}{vs:List Value}{Q:Value->Shared->Prop}(hl:s.heap.IsList l vs.toArray)(h2:vs.length<2)(h:Q (.ref (s.heap.objs.size+1)) { s with heap:=sortedAll s.heap vs vs.toArray }) :
  wpAny (model prog w) A (call (.builtin "sorted") [.ref l]) Q E s:=by
 have hz:vs.length<=sizeLine:=by rw[sizeLine_eq];omega
 have zz:((s.heap.push (seqObj "list" #[] 0)).update s.heap.objs.size (Obj.mapSeq (·++vs.toArray))).objs.size=s.heap.objs.size+1:=(Heap.size_update ..).trans (size_push' ..)
 have ff:(((s.heap.push (seqObj "list" #[] 0)).update s.heap.objs.size (Obj.mapSeq (·++vs.toArray))).push (seqObj "list" vs.toArray 0)).get? ((s.heap.push (seqObj "list" #[] 0)).update s.heap.objs.size (Obj.mapSeq (·++vs.toArray))).objs.size=some (seqObj "list" vs.toArray 0):=Heap.get?_push_size _ rfl
 rw[zz] at ff
 refine Calls.call_function_entry kind_sorted plain_sorted entry_sorted (args_sorted1 (.ref l)) (by
  unfold Builtin.«sorted»
  refine wpAny_bind (m:=checkCount "sorted" 1 1 _) (wpAny_pure (wpAny_bind (collect_list hl (wpAny_bind (wpAny_newList ?_ hz)))))
  show wpAny _ _ _ _ _ { s with heap:=((s.heap.push (seqObj "list" #[] 0)).update s.heap.objs.size (Obj.mapSeq (·++vs.toArray))).push (seqObj "list" vs.toArray 0) }
  rw[zz]
  refine wpAny_bind (wpAny_holding (wpAny_call_entry slot_list_sort ⟨_,ff,rfl⟩ entry_list_sort (znF ff h2 ⟨_,rfl,wpAny_pure ⟨_,rfl,h⟩⟩) (args_list_sort _))))
def intsOf(h:Heap):Value->List Int
 |.ref x=>match h.get? x with
  |some o=>match o.data with
   |.seq xs _=>xs.toList.map fun v=>match v with
    |.int a _=>a
    |_=>0
   |_=>[]
  |none=>[]
 |_=>[]
theorem zsM{xs:List Value}{l:List Int}(h:IL xs l):(xs.map fun v=>match v with|.int a _=>a|_=>0)=l:=by
 induction h with
 |nil=>rfl
 |cons h ih=>rw[List.map_cons,ih]
structure TupAt(h:Heap)(v:Value)(l:List Int):Prop where
 ex:∃ x o xs n,v=.ref x/\h.get? x=some o/\o.cls=.type "tuple"/\o.data=.seq xs n/\IL xs.toList l
 ne:l≠[]
theorem TupAt.ints{h:Heap}{v:Value}{l:List Int}(t:TupAt h v l):intsOf h v=l:=by
 obtain ⟨x,o,xs,n,rfl,ho,_,hd,hi⟩:=t.ex
 unfold intsOf
 simp only[ho,hd]
 exact zsM hi
theorem TupAt.keep{h h':Heap}{v:Value}{l:List Int}(k:∀ b o,h.get? b=some o->h'.get? b=some o)(t:TupAt h v l):TupAt h' v l:=by
 obtain ⟨x,o,xs,n,e,ho,hc,hd,hi⟩:=t.ex
 exact ⟨⟨x,o,xs,n,e,k _ _ ho,hc,hd,hi⟩,t.ne⟩
theorem zpO{h:Heap}:∀{vs:List Value},(∀ v∈vs,∃ l,TupAt h v l)->∃ fs,KatTups h vs fs/\fs.length=vs.length/\∀ f∈fs,∃ a t,f=.int a t
 |[],_=>⟨[],.nil,rfl,by simp⟩
 |v::vs,H=>by
  obtain ⟨fs,h1,h2,h3⟩:=zpO (vs:=vs) fun v hv=>H v (List.mem_cons_of_mem _ hv)
  obtain ⟨l,t⟩:=H v List.mem_cons_self
  obtain ⟨x,o,xs,n,rfl,ho,hc,hd,hi⟩:=t.ex
  have:∃ a k,xs[0]? = some (.int a k):=by
   have hx:xs.toList[0]? = xs[0]? := by rw[Array.getElem?_toList]
   rw[<- hx]
   have:=t.ne
   revert hi
   generalize xs.toList=ys
   intro hi
   cases hi with
   |nil=>exact absurd rfl this
   |cons h=>exact ⟨_,_,rfl⟩
  obtain ⟨a,k,hf⟩:=this
  refine ⟨_,KatTups.cons ho hc hd hf h1,by simp[h2],fun f hf=>?_⟩
  rcases List.mem_cons.mp hf with rfl|hf
  ·exact ⟨a,k,rfl⟩
  ·exact h3 f hf
theorem zin{α β:Type}{x y:Array α}(f:α->β)(h:x.Perm y):(x.toList.map f).Perm (y.toList.map f):=(Array.perm_iff_toList_perm.mp h).map f
def rkT(h:Heap)(vs:List Value)(p:Keyed):Int:=zr2 (vs.map (intsOf h)) (intsOf h p.1)
def PT(h:Heap)(vs:List Value)(p:Keyed):Prop:=p.1∈vs/\p.2=p.1/\∃ l,TupAt h p.1 l
theorem zp0{h:Heap}{vs:List Value}(ht:∀ v∈vs,∃ l,TupAt h v l):∀ p∈(pairsOf vs).toList,PT h vs p:=fun k hk=>by
 have:k.1∈vs/\k.2=k.1:=by
  unfold pairsOf at hk
  obtain ⟨i,hi,rfl⟩:=List.mem_iff_getElem.mp hk
  simp
 exact ⟨this.1,this.2,ht _ this.1⟩
theorem ztF{h':Heap}{vs:List Value}(k:∀ b o,s.heap.get? b=some o->h'.get? b=some o):Cp prog w A { s with heap:=h' } (tuples' true) (PT s.heap vs) (rkT s.heap vs):=by
 intro E p q st Q hp hq hk h
 obtain ⟨m1,_,l,t⟩:=hp
 obtain ⟨m2,_,m,u⟩:=hq
 refine zqK (prog:=prog) (w:=w) (A:=A) (s:={ s with heap:=h' }) (c:=true) (tk:=fun p=>intsOf s.heap p.1) (Ls:=vs.map (intsOf s.heap)) E p q st Q ?_ ?_ hk h
 ·obtain ⟨x,o,xs,n,e,ho,hc,hd,hi⟩:=t.ex
  exact ⟨List.mem_map_of_mem m1,x,o,xs,n,e,k _ _ ho,hd,by rw[t.ints];exact hi⟩
 ·obtain ⟨x,o,xs,n,e,ho,hc,hd,hi⟩:=u.ex
  exact ⟨List.mem_map_of_mem m2,x,o,xs,n,e,k _ _ ho,hd,by rw[u.ints];exact hi⟩
theorem zqg{h':Heap}{vs:List Value}(ht:∀ v∈vs,∃ l,TupAt s.heap v l)(hv:0<vs.length)(k:∀ b o,s.heap.get? b=some o->h'.get? b=some o)(Q:SortKind->Shared->Prop)(E:Value->Shared->Prop)(q:Q (tuples' true) { s with heap:=h' }):wpAny (model prog w) A (keyKind' vs.toArray) Q E { s with heap:=h' }:=by
 obtain ⟨fs,h1,h2',h3⟩:=zpO (h:=h') (vs:=vs) fun v hv=>by
  obtain ⟨l,t⟩:=ht v hv
  exact ⟨l,t.keep k⟩
 exact kat_kind (s:={ s with heap:=h' }) (T:=.type "int") h1 (by omega) (fun v hv=>by
  obtain ⟨a,t,rfl⟩:=h3 v hv
  exact Looks.of_pure rfl) rfl q
theorem zti{h:Heap}{vs:List Value}{out:Array Keyed}(pm:out.Perm (pairsOf vs))(ht:∀ v∈vs,∃ l,TupAt h v l)(so:SIn (rkT h vs) out 0 vs.length):(out.map (·.2)).toList.Perm vs/\(out.map (·.2)).toList.Pairwise (fun a b=>lxB (intsOf h b) (intsOf h a)=false):=by
 have hs:out.size=vs.length:=by rw[pm.size_eq];exact pairsOf_size vs
 have hp:(out.map (·.2)).toList.Perm vs:=by
  have:=zin (·.2) pm
  rw[<- Array.toList_map,<- Array.toList_map,zie] at this
  exact this
 have hm:∀ x∈out.toList,PT h vs x:=fun x hx=>zp0 ht x ((Array.perm_iff_toList_perm.mp pm).mem_iff.mp hx)
 refine ⟨hp,?_⟩
 rw[List.pairwise_iff_getElem]
 intro i j hi hj hij
 rw[Array.length_toList,Array.size_map] at hi hj
 simp only[Array.getElem_toList,Array.getElem_map]
 have e1:=hm out[i] (Array.getElem_mem_toList hi)
 have e2:=hm out[j] (Array.getElem_mem_toList hj)
 rw[e1.2.1,e2.2.1]
 have:=so i j (Nat.zero_le _) (Nat.le_of_lt hij) (by omega)
 unfold rk at this
 rw[Array.getElem?_eq_getElem hi,Array.getElem?_eq_getElem hj] at this
 have r:=zna (Ls:=vs.map (intsOf h)) (List.mem_map_of_mem (f:=intsOf h) e2.1) (List.mem_map_of_mem (f:=intsOf h) e1.1)
 rw[<- r]
 unfold rkT at this
 dsimp only at this
 exact decide_eq_false (by omega)
theorem zso{α:Type}{R:α->α->Prop}:∀{vs:List α},vs.length<2->vs.Pairwise R
 |[],_=>.nil
 |[a],_=>by simp
 |a::b::r,h=>by simp at h;omega
theorem sorted_tups{l:Addr}{vs:List Value}{Q:Value->Shared->Prop}(hl:s.heap.IsList l vs.toArray)(hz:vs.length<=sizeLine)(ht:∀ v∈vs,∃ l,TupAt s.heap v l)
  (h:∀ out:List Value,out.Perm vs->out.Pairwise (fun a b=>lxB (intsOf s.heap b) (intsOf s.heap a)=false)->Q (.ref (s.heap.objs.size+1)) { s with heap:=sortedAll s.heap vs out.toArray }) :
  wpAny (model prog w) A (call (.builtin "sorted") [.ref l]) Q E s:=by
 by_cases h2:vs.length<2
 ·exact zlD hl h2 (h vs (.refl _) (zso h2))
 ·refine zi7 (kd:=tuples' true) (r:=rkT s.heap vs) (PK:=PT s.heap vs) hl (by omega) hz (fun A h' k Q E q=>zqg ht (by omega) k Q E q) (fun h' k=>ztF k) (zp0 ht) fun out pm so=>?_
  obtain ⟨h3,h4⟩:=zti pm ht so
  have:=h _ h3 h4
  rwa [Array.toArray_toList] at this
end
end Ts
end
section
namespace PV
open PySem PySem.Spec L2
def leL(a b:List Int):Bool:=!Ts.lxB b a
def zpW(a:List Int):List (List Int)->List (List Int)
 |[]=>[a]
 |b::r=>if leL a b=true then a::b::r else b::zpW a r
def zc1:List (List Int)->List (List Int)
 |[]=>[]
 |a::r=>zpW a (zc1 r)
theorem zgi(a:List Int):∀ l:List (List Int),(zpW a l).Perm (a::l)
 |[]=>.refl _
 |b::r=>by
  unfold zpW
  split
  ·exact .refl _
  ·exact ((zgi a r).cons b).trans (.swap a b r)
theorem zcT:∀ l:List (List Int),(zc1 l).Perm l
 |[]=>.refl _
 |a::r=>(zgi a _).trans ((zcT r).cons a)
theorem zsk{a b c:List Int}(h:leL a b=true)(h':leL b c=true):leL a c=true:=by
 unfold leL at *
 rw[Bool.not_eq_true'] at *
 cases e:Ts.lxB c a with
 |false=>rfl
 |true =>
  cases e1:Ts.lxB a b with
  |true=>rw[Ts.lxB_tr e e1] at h';cases h'
  |false =>
   rw[Ts.lxB_tot e1 h] at e
   rw[e] at h';cases h'
theorem zr0{a b:List Int}(h:leL a b=false):leL b a=true:=by
 unfold leL at *
 rw[Bool.not_eq_false'] at h
 rw[Bool.not_eq_true']
 cases e:Ts.lxB a b with
 |false=>rfl
 |true=>exact absurd (Ts.lxB_tr e h) (by rw[Ts.lxB_irr];simp)
theorem zoE{a b:List Int}(h:leL a b=true)(h':leL b a=true):a=b:=by
 unfold leL at *
 rw[Bool.not_eq_true'] at *
 exact Ts.lxB_tot h' h
theorem zkw(a:List Int):∀ l:List (List Int),l.Pairwise (fun x y=>leL x y=true)->(zpW a l).Pairwise (fun x y=>leL x y=true)
 |[],_=>by simp[zpW]
 |b::r,h=>by
  unfold zpW
  rw[List.pairwise_cons] at h
  split
  ·rename_i z
   refine List.pairwise_cons.mpr ⟨fun x hx=>?_,List.pairwise_cons.mpr h⟩
   rcases List.mem_cons.mp hx with rfl|hx
   ·exact z
   ·exact zsk z (h.1 x hx)
  ·rename_i z
   refine List.pairwise_cons.mpr ⟨fun x hx=>?_,zkw a r h.2⟩
   rcases List.mem_cons.mp ((zgi a r).mem_iff.mp hx) with rfl|hx
   ·exact zr0 (by simpa using z)
   ·exact h.1 x hx
theorem zgg:∀ l:List (List Int),(zc1 l).Pairwise (fun x y=>leL x y=true)
 |[]=>.nil
 |a::r=>zkw a _ (zgg r)
theorem zhM:∀{l m:List (List Int)},l.Perm m->l.Pairwise (fun x y=>leL x y=true)->m.Pairwise (fun x y=>leL x y=true)->l=m
 |[],m,p,_,_=>by rw[p.symm.eq_nil]
 |a::l,[],p,_,_=>by have:=p.length_eq;simp at this
 |a::l,b::m,p,h,k=>by
  rw[List.pairwise_cons] at h k
  have ab:a=b:=by
   have h1:leL a b=true:=by
    rcases List.mem_cons.mp (p.mem_iff.mpr (List.mem_cons_self:b∈b::m)) with e|e
    ·subst e;unfold leL;rw[Ts.lxB_irr];rfl
    ·exact h.1 b e
   have h2:leL b a=true:=by
    rcases List.mem_cons.mp (p.mem_iff.mp (List.mem_cons_self:a∈a::l)) with e|e
    ·subst e;unfold leL;rw[Ts.lxB_irr];rfl
    ·exact k.1 a e
   exact zoE h1 h2
  subst ab
  rw[zhM (List.Perm.cons_inv p) h.2 k.2]
def zpy(K:W.Frag):List V->Hp->VK->Prop:=fun xs H Q=>∃(p:Addr)(ps:List (Addr×List Int)),xs=[.ref p]/\SqL K H p (ps.map fun q=>V.ref q.1)/\(∀ q∈ps,SqT K H q.1 (q.2.map V.int)/\q.2≠[]) /\
 ∀ ps':List (Addr×List Int),ps'.Perm ps->ps'.map (·.2)=zc1 (ps.map (·.2))->∀ l,H l=none->Q (.ref l) (upd H l (.lst (ps'.map fun q=>V.ref q.1)))
theorem zjb:∀{as:List Addr}{us:List Value},zaM (as.map V.ref) us->us=as.map Value.ref
 |[],_,.nil=>rfl
 |a::as,_,.cons h t=>by cases h;rw[zjb t];rfl
theorem zfm:∀(as:List Addr),zaM (as.map V.ref) (as.map Value.ref)
 |[]=>.nil
 |a::as=>.cons rfl (zfm as)
theorem zsR:∀{ns:List Int}{us:List Value},zaM (ns.map V.int) us->Ts.IL us ns
 |[],_,.nil=>.nil
 |n::ns,_,.cons ⟨t,h⟩ r=>by subst h;exact .cons (zsR r)
theorem zls{X:Cx}:zcg X (.builtin "sorted") (zpy X.K):=by
 intro pins s σ H xs us Q I r h
 obtain ⟨p,ps,rfl,hq,ht,q⟩:=h
 obtain ⟨u,rfl,ru⟩:=zeX r
 cases ru
 obtain ⟨its,rv,pl,hz⟩:=I.list hq
 have e0:(ps.map fun q=>V.ref q.1)=(ps.map (·.1)).map V.ref:=by rw[List.map_map];rfl
 rw[e0] at rv
 have ei:=zjb rv
 have tup:∀ q∈ps,Ts.TupAt s.heap (.ref q.1) q.2:=fun q hq'=>by
  obtain ⟨h1,h2⟩:=ht q hq'
  obtain ⟨its',rv',⟨o,ho,hc,n,hd⟩,hz'⟩:=I.tuple h1
  exact ⟨⟨q.1,o,its'.toArray,n,rfl,ho,hc,hd,by simpa using zsR rv'⟩,h2⟩
 have hlen:its.length<=sizeLine:=by rw[<- rv.length];rw[List.length_map] at hz;simpa using hz
 refine Ts.sorted_tups pl.isList hlen (fun v hv=>?_) fun out pm so=>?_
 ·rw[ei,List.map_map] at hv
  obtain ⟨q,h1,rfl⟩:=List.mem_map.mp hv
  exact ⟨q.2,tup q h1⟩
 ·let back:Value->Addr×List Int:=fun v=>(match v with|.ref a=>a|_=>0,Ts.intsOf s.heap v)
  have eb:its.map back=ps:=by
   rw[ei,List.map_map,List.map_map]
   have:∀ q∈ps,((back ∘ Value.ref) ∘ fun x=>x.1) q=q:=fun q hq'=>by
    show (q.1,Ts.intsOf s.heap (.ref q.1))=q
    rw[(tup q hq').ints]
   calc _=ps.map id:=List.map_congr_left this
    _=ps:=List.map_id _
  have pm':(out.map back).Perm ps:=by rw[<- eb];exact pm.map back
  have eo:out=((out.map back).map (·.1)).map Value.ref:=by
   rw[List.map_map,List.map_map]
   have:∀ v∈out,v=((Value.ref ∘ fun x=>x.1) ∘ back) v:=fun v hv=>by
    have hv':=pm.mem_iff.mp hv
    rw[ei,List.map_map] at hv'
    obtain ⟨q,h1,rfl⟩:=List.mem_map.mp hv'
    rfl
   calc out=out.map id:=(List.map_id _).symm
    _=_:=List.map_congr_left this
  have es:(out.map back).map (·.2)=zc1 (ps.map (·.2)):=by
   refine zhM ((pm'.map _).trans (zcT _).symm) ?_ (zgg _)
   rw[List.map_map,List.pairwise_map]
   refine so.imp fun {a b} hab=>?_
   show leL (Ts.intsOf s.heap a) (Ts.intsOf s.heap b)=true
   unfold leL
   rw[hab];rfl
  obtain ⟨c,hc⟩:=PyProof.Rows.sortedAll_at s.heap its out.toArray
  refine ⟨.ref (s.heap.objs.size+1),_,I.laid (t':=s.toks) (fun b o=>PyProof.Rows.sortedAll_old) (Nat.le_succ _) (o:=.lst ((out.map back).map fun q=>V.ref q.1)) ⟨?_,out,c,?_,?_⟩,rfl,q _ pm' es _ (I.hok.fresh (Nat.le_succ _))⟩
  ·rw[List.length_map,List.length_map,pm.length_eq];exact hlen
  ·have e1:((out.map back).map fun q=>V.ref q.1)=((out.map back).map (·.1)).map V.ref:=by rw[List.map_map,List.map_map,List.map_map];rfl
   have e2:=zfm ((out.map back).map (·.1))
   rw[<- eo] at e2
   rw[e1];exact e2
  ·simpa using hc
def zpG:List Dt->Option (List (List Int))
 |[]=>some []
 |.tup x::r=>match ziK x,zpG r with
  |some (a::l),some ls=>some ((a::l)::ls)
  |_,_=>none
 |_=>none
def zty(l:List Int):Dt:=.tup (l.map .int)
def zer:List Dt->R (List Dt)
 |[.lst l]=>match zpG l with
  |some ls=>.ok ((zc1 ls).map zty)
  |none=>.no
 |_=>.no
theorem zir{K:W.Frag}{G:Hp}:∀{ds:List Dt}{vs:List V}{ls:List (List Int)},zay K G ds vs->zpG ds=some ls->∃ ps:List (Addr×List Int),vs=(ps.map fun q=>V.ref q.1)/\ps.map (·.2)=ls/\∀ q∈ps,zgO K G q.1 (q.2.map V.int)/\q.2≠[]
 |[],_,ls,h,e=>by rw[h.nil_inv];simp[zpG] at e;subst e;exact ⟨[],rfl,rfl,by simp⟩
 |d::r,_,ls,h,e=>by
  obtain ⟨v,t,rfl,h1,h2⟩:=h.cons_inv
  unfold zpG at e
  split at e
  ·rename_i e0;cases e0
  ·rename_i x r' e0
   cases e0
   split at e
   ·rename_i a l ls' e1 e2
    cases e
    obtain ⟨ps,q1,q2,q3⟩:=zir h2 e2
    obtain ⟨ad,us,rfl,m1,m2⟩:=zdJ h1
    rw[zhI m2 e1] at m1
    refine ⟨(ad,a::l)::ps,by rw[q1];rfl,by rw[List.map_cons,q2],fun q hq=>?_⟩
    rcases List.mem_cons.mp hq with rfl|hq
    ·exact ⟨m1,by simp⟩
    ·exact q3 q hq
   ·cases e
  ·cases e
theorem ziz{K:W.Frag}{G:Hp}:∀{ps:List (Addr×List Int)},(∀ q∈ps,zgO K G q.1 (q.2.map V.int)/\q.2≠[])->zay K G ((ps.map (·.2)).map zty) (ps.map fun q=>V.ref q.1)
 |[],_=>zay.nil
 |q::ps,h=>by
  refine zay.cons ?_ (ziz fun z hz=>h z (List.mem_cons_of_mem _ hz))
  unfold zty Rep
  exact ⟨q.1,_,rfl,(h q List.mem_cons_self).1,ze2 _⟩
theorem zoe{K:W.Frag}:FnN K (zpy K) zer:=fun G H vs ds z Q gh hr e k=>by
 unfold zer at e
 split at e
 ·split at e
  ·rename_i ls el
   obtain ⟨v,rfl,h1⟩:=zex hr
   obtain ⟨a,us,rfl,h2,h3⟩:=zaG h1
   cases e
   obtain ⟨ps,e1,e2,e3⟩:=zir h3 el
   subst e1
   refine ⟨a,ps,rfl,SqL.of (gh _ _ h2),fun q hq=>⟨za1 gh (e3 q hq).1.sq,(e3 q hq).2⟩,fun ps' pm es l hl=>k l _ hl ?_⟩
   rw[<- e2,<- es]
   exact ziz fun q hq=>e3 q (pm.mem_iff.mp hq)
  ·cases e
 ·cases e
theorem zoN:zj2 zer:=fun x n h=>by
 unfold zer at h
 split at h
 ·split at h <;> cases h
 ·cases h
section
variable{X:Cx}{C:Cn}{fa:De}{pos:Pos}
theorem zok{x:Expr}{p:Pos}(hg:Gl X "sorted")(hm:X.mg "sorted"=none)(ha:JE X C x fa)(hs:starEach [x] X.env=(false,eval x X.env)::starEach [] X.env:=by rfl)(hpl:(backTo pos (starEach [] X.env)).any (·.1)=false:=by rfl) :
  JN X C (.Call (.Name "sorted" p) [x] [] pos) (zdD zer (dA fa dA0)) :=
 zhn zoe zoN zls hg hm PyProof.Rows.boot_sorted (zap ha za5 hs) (by decide) (by decide) hs hpl
end
end PV
end
section
namespace PV
open PySem PySem.Spec L2 PyProof.Rows
open AutoSeq1 (wpAny_loadPart')
section
variable{M:Model}{A:Around}{E:Value->Shared->Prop}{s:Shared}{env:Env}
theorem zsL{pos:Pos}{T:String}{args:List (Bool×Sem Value)}{keywords:List (Option Str×Sem Value)}{Q:Value->Shared->Prop}(hp:args.any (·.1)=false)(hk:keywords.any (·.1.isNone)=false)
  (h:wpAny M A (evalArgs (.type T) true args keywords) (fun a s1=>wpAny M A (call (.type T) a.pos a.kw) Q E s1) E s):wpAny M A (callWith pos (.type T) [] args keywords) Q E s:=by
 unfold callWith
 refine wpAny_bind (wpAny_holding (wpAny_mono h (fun a s1 h1=>wpAny_bind (wpAny_standAt ?_)) fun _ _ x=>x));simp only[hp,hk,Bool.or_false]
 exact wpAny_bind (wpAny_pure (wpAny_bind (wpAny_mono h1 (fun r s2 hr=>wpAny_bind (wpAny_holding (wpAny_point (wpAny_pure hr)))) fun _ _ x=>x)))
end
section
variable{prog:Program}{w:World}{A:Around}{E:Value->Shared->Prop}{s:Shared}
theorem zqc{T newId:String}{Bn:Builtin}{args:List Value}{kw:List (Str×Value)}{S:PySem.Spec}{Q:Value->Shared->Prop}(ft:TypeCalled T newId "object.__init__")
  (hct:checkTypeCall T ⟨args,kw⟩=pure ()) (hcn:checkBuiltinCall newId ⟨.type T::args,kw⟩=pure ()) (hok:∀ obj,argsOk "object.__init__" ⟨obj::args,kw⟩) (en:entryFor table newId=some Bn) (g:Meets (Bn ⟨.type T::args,kw⟩) S)
  (gi:∀ obj,Meets (Builtin.«object.__init__» ⟨obj::args,kw⟩) (fun _ R s=>s.TypeIs obj T/\R (.ok (.ret .none)) s))
  (h:S A.in1 (wants (fun obj s1=>s1.TypeIs obj T/\Q obj s1) E) s):wpAny (model prog w) A (call (.type T) args kw) Q E s:=by
 obtain ⟨c,tl,hmro⟩:=ft.mro
 have hmade:=ft.made;have hsub:=ft.sub;have h1:=ft.notType;have h2:=ft.canCreate
 refine wpAny_call (codeAny_of_tree (show wpAny _ _ (callAny (.type T) _) _ _ _ from wpAny_pure ⟨Code.quiet_builtin _ (by decide +kernel),codeAny_builtin F.entry_type_call ?_⟩))
 rw[Around.under_plain (weight_type_call_type T args kw) (units_type_call_type T args kw)]
 repeat (any_goals (first|assumption|wp_step|fail))
 refine codeAny_mono (codeAny_call_builtin ft.plain en (wpAny_of_eq hcn (g prog w A.in1 _ s h))) fun r t hr=>?_
 cases r with
 |error e=>exact hr
 |ok fl =>
  cases fl with
  |ret obj =>
   obtain ⟨hT,hq⟩:=hr
   have hli:=ft.init.lookup;have hbi:=ft.init.bind obj
   repeat (any_goals (first|assumption|wp_step|fail))
   refine codeAny_mono (codeAny_call_builtin ft.init.plain F.entry_object_init (ft.init.check _ _ _ _ _ _ _ _ hT (hok obj) (gi obj prog w A.in1 (wants (fun r s2=>r=.none/\Q obj s2) E) t ⟨hT,rfl,hq⟩))) fun r2 t2 hr2=>?_
   cases r2 with
   |error e=>exact hr2
   |ok fl2 =>
    cases fl2 with
    |ret r =>
     obtain ⟨rfl,hq⟩:=hr2
     repeat (any_goals (first|assumption|wp_step|fail))
    |_=>exact hr2.elim
  |_=>exact hr.elim
theorem zod(a:Value)(t:Tok):checkTypeCall "enumerate" ⟨[a],[(Str.ofString "start",.int 1 t)]⟩=pure ():=by kernel_rfl
theorem zqt(a:Value)(t:Tok):checkBuiltinCall "enumerate.__new__" ⟨[.type "enumerate",a],[(Str.ofString "start",.int 1 t)]⟩=pure ():=by kernel_rfl
theorem zoT(obj a:Value)(t:Tok):argsOk "object.__init__" ⟨[obj,a],[(Str.ofString "start",.int 1 t)]⟩:=by
 unfold argsOk;first|kernel_rfl|(rw[signature?_of (id:="object.__init__") (n:=['_','_','t','i','n','i','_','_']) (o:=['t','c','e','j','b','o']) (by kernel_rfl) F.owner_object];kernel_rfl)
theorem zrn(obj a:Value)(t:Tok):Meets (Builtin.«object.__init__» ⟨[obj,a],[(Str.ofString "start",.int 1 t)]⟩) (fun _ R s=>s.TypeIs obj "enumerate"/\R (.ok (.ret .none)) s):=by
 have hl:=F.called_enumerate.init.lookup;have hm:=F.called_enumerate.made
 have hne:(some "enumerate.__new__" != some "object.__new__")=true:=by decide
 refine Meets.of_wp fun prog w A R s hs=>?_
 obtain ⟨hT,hq⟩:=hs
 repeat (any_goals (first|assumption|wp_step|fail))
 exact ⟨_,rfl,hq⟩
theorem znm(l:Addr)(items:Array Value)(n:Nat)(dct:Option Addr)(sl:Array (Option Value))(t:Tok) :
  Meets (Builtin.«enumerate.__new__» ⟨[.type "enumerate",.ref l],[(Str.ofString "start",.int 1 t)]⟩) (fun _ R s=>s.heap.get? l=some { cls:=.type "tuple",dict:=dct,data:=.seq items n,slots:=sl } /\
   R (.ok (.ret (.ref (s.heap.push { cls:=.type "tuple_iterator",data:=.fields #[.ref l,.int 0 0] }).objs.size)))
    { s with heap:=(s.heap.push { cls:=.type "tuple_iterator",data:=.fields #[.ref l,.int 0 0] }).push { cls:=.type "enumerate",data:=.fields #[.none,.bool false,.ref s.heap.objs.size,rawInt 1,.none,.none] } }) :=
 .of_wp fun prog w A R s h=>by
  obtain ⟨hp,g,d,tk,os⟩:=s;obtain ⟨hl,h⟩:=h
  have hsub:=sub_enumerate
  have hL:Heap.IsTuple (Shared.heap ⟨hp,g,d,tk,os⟩) l items:=⟨_,hl,rfl,n,rfl⟩
  wp_walk using wpAny_loadPart' hl
  refine wpAny_stack_any fun st=>wpAny_pure ?_
  split
  ·rename_i c _ _ _ _ _
   cases (c == Value.type "enumerate")
   ·wp_walk using wpAny_loadPart' hl,wpAny_pyIter_tuple hL
    exact ⟨_,rfl,h⟩
   ·wp_walk using wpAny_loadPart' hl,wpAny_pyIter_tuple hL
    exact ⟨_,rfl,h⟩
  ·wp_walk using wpAny_loadPart' hl,wpAny_pyIter_tuple hL
   exact ⟨_,rfl,h⟩
end
end PV
end
section
namespace PV
open PySem PySem.Spec L2
theorem zi1{prog:Program}{w:World}{A:Around}(hh:A.handled=none)(it l:Addr)(hne:l≠it)(items:Array Value) :
  Draws prog w A it [it,l] (items.size+1) (fun i v=>items[i-1]? = some v) (fun i h=>1<=i/\h.IsTupleIter it l (i-1)/\h.IsTuple l items) where
 live:=fun _ _ st=>let ⟨o,ho,_⟩:=st.2.1;⟨o,ho⟩
 frame:=fun i h h' st hk=>⟨st.1,(zep (prog:=prog) (w:=w) hh it l hne items).frame (i-1) h h' st.2 hk⟩
 item:=fun i s Q E hi st hQ=>by
  obtain ⟨j,rfl⟩ : ∃ j,i=j+1:=⟨i-1,by have:=st.1;omega⟩
  exact (zep hh it l hne items).item j s Q E (by omega) st.2 fun x h' tk p q k=>hQ x h' tk p ⟨Nat.le_add_left 1 _,q⟩ k
 done:=fun s Q E st hE=>(zep hh it l hne items).done s Q E st.2 hE
theorem zmO{prog:Program}{w:World}{A:Around}{E:Value->Shared->Prop}{s:Shared}{e it l:Addr}{i:Nat}{c:Int}{items:Array Value}{old:Value}{Q:Option Value->Shared->Prop}(hh:A.handled=none)(he:IsEnum s.heap e it c old)(hit:s.heap.IsTupleIter it l i)(hl:s.heap.IsTuple l items)(hx:items[i]? = none)
  (hQ:∀ h',Heap.ExtBut it s.heap h'->Q none { s with heap:=h' }):wpAny (model prog w) A (pyNext (.ref e)) Q E s:=by
 have hT:s.TypeIs (.ref e) "enumerate":=⟨_,he,rfl⟩
 unfold pyNext
 refine wpAny_bind (wpAny_attempt (wpAny_callSpecial?_slot (name:=Str.ofString "__next__") hT F.slot_enumerate_next (wpAny_call_entry F.slot_enumerate_next hT F.entry_enumerate_next ?_ (F.args_enumerate_next_1 _))))
 show wpAny _ _ (field (.ref e) 2 >>= _) _ _ _
 refine wpAny_bind (wpAny_field he rfl (x:=.ref it) rfl (wpAny_bind (zjv (show A.in1.handled=none from hh) hit hl hx fun h' x he' hx'=>?_)))
 obtain ⟨o,ho,hc⟩:=hx'
 exact wpAny_bind (wpAny_isInstance (T:="StopIteration") (b:=true) ⟨o,ho,hc⟩ isSubtype_stop (wpAny_pure (hQ _ he')))
def zjm(ds:List Dt):List Dt:=(List.range ds.length).zip ds |>.map fun p=>.tup [.int ((p.1+1:Nat):Int),p.2]
theorem zd5{prog:Program}{w:World}{A:Around}{E:Value->Shared->Prop}{s:Shared}{l:Addr}{items:Array Value}{t:Tok}{Q:Value->Shared->Prop}(hL:s.heap.IsTuple l items)
  (h:∀ h',IsEnum h' (s.heap.objs.size+1) s.heap.objs.size 1 .none->h'.IsTupleIter s.heap.objs.size l 0->h'.objs.size=s.heap.objs.size+2 ->
   (∀ b o,s.heap.get? b=some o->h'.get? b=some o)->Q (.ref (s.heap.objs.size+1)) { s with heap:=h' }) :
  wpAny (model prog w) A (call (.type "enumerate") [.ref l] [(Str.ofString "start",.int 1 t)]) Q E s:=by
 obtain ⟨⟨c,dct,dt,sl⟩,hl,hc,n,hd⟩:=hL
 replace hc:c=.type "tuple":=hc
 replace hd:dt=.seq items n:=hd
 subst hc hd
 refine zqc F.called_enumerate (zod _ t) (zqt _ t) (fun obj=>zoT obj _ t) F.entry_enumerate_new (znm l items n dct sl t) (fun obj=>zrn obj _ t) ⟨hl,?_⟩
 have hz:(s.heap.push { cls:=.type "tuple_iterator",data:=.fields #[.ref l,.int 0 0] }).objs.size=s.heap.objs.size+1:=Heap.size_push ..
 show _/\_
 rw[hz]
 have he:IsEnum ((s.heap.push { cls:=.type "tuple_iterator",data:=.fields #[.ref l,.int 0 0] }).push
   { cls:=.type "enumerate",data:=.fields #[.none,.bool false,.ref s.heap.objs.size,rawInt 1,.none,.none] }) (s.heap.objs.size+1) s.heap.objs.size 1 .none:=by
  have:=Heap.get?_push_size (s.heap.push { cls:=.type "tuple_iterator",data:=.fields #[.ref l,.int 0 0] })
   (o:={ cls:=.type "enumerate",data:=.fields #[.none,.bool false,.ref s.heap.objs.size,rawInt 1,.none,.none] }) rfl
  rw[hz] at this;exact this
 refine ⟨⟨_,he,rfl⟩,h _ he ⟨_,Heap.get?_push_of_some _ (Heap.get?_push_size _ rfl),rfl,rfl⟩ (by rw[Heap.size_push,hz]) fun b o x=>Heap.get?_push_of_some _ (Heap.get?_push_of_some _ x)⟩
def zue(K:W.Frag)(a:Addr):It :=
 ⟨fun i H=>∃ xs x,SqT K H a xs/\xs[i]? = some x,
   fun i H v H'=>∃ p x,v=.ref p/\H p=none/\H'=upd H p (.tup [.int ((i+1:Nat):Int),x])/\∀ xs,SqT K H a xs->xs[i]? = some x,
   fun i H=>∃ xs,SqT K H a xs/\xs.length<=i⟩
structure EpU(h:Heap)(e it l:Addr)(i:Nat):Prop where
 e:∃ old,IsEnum h e it ((i+1:Nat):Int) old
 a:h.IsTupleIter it l i
theorem EpU.keep{h h':Heap}{e it l:Addr}{i:Nat}(p:EpU h e it l i)(k:∀ b∈[e,it],∀ o,h.get? b=some o->h'.get? b=some o):EpU h' e it l i :=
 ⟨let ⟨old,q⟩:=p.e;⟨old,k e (by simp) _ q⟩,p.a.at fun o q=>k it (by simp) o q⟩
theorem zlA{P:Program}{w:World}{K:W.Frag}{elts:List Expr}{x1}{ps:Pos}{a e it:Addr}(hne:e≠it):zlV P w K (.Tuple elts x1 ps) (zue K a) [e,it] e (fun i h=>EpU h e it a i) where
 mem:=by simp
 obj:=fun i h st c hc=>by
  obtain ⟨⟨old,s1⟩,⟨o4,s4,_,d4⟩⟩:=st
  simp only[List.mem_cons,List.not_mem_nil,or_false] at hc
  rcases hc with rfl|rfl
  ·exact ⟨_,s1,fun v q=>by cases q⟩
  ·exact ⟨_,s4,fun v q=>by rw[d4] at q;cases q⟩
 keep:=fun i h h' st k=>st.keep k
 item:=by
  intro X hP hw hK hc i pins s σ H E I hf st hg
  subst hP hw hK
  obtain ⟨xs,x,q1,hx⟩:=hg
  obtain ⟨its,rv,p,hz⟩:=I.tuple q1
  obtain ⟨u,hu,ru⟩:=rv.get hx
  obtain ⟨old,he⟩:=st.e
  have D:=zi1 (prog:=X.prog) (w:=X.w) (A:=X.A.in1) (I.ok.hd hc) it a (Ne.symm (zmj I (hf it (by simp)) q1)) its.toArray
  refine wpAny_pyNext_enum_itemD (i:=i+1) D he ⟨Nat.le_add_left 1 i,st.a,show s.heap.IsTuple a its.toArray from p⟩ (by simpa using (List.getElem?_eq_some_iff.mp hu).1) hne (by simp[hne,zmj I (hf e (by simp)) q1]) fun x' h' tk hP a1 a2 a3 a4 a5=>?_
  have ex:x'=u:=by
   have h9:its.toArray[i]? = some x':=hP
   rw[show its.toArray[i]? = some u by simpa using hu] at h9
   exact (Option.some.inj h9).symm
  subst ex
  refine ⟨_,rfl,wpAny_letOwnedTupleGo_enum a1 fun h2 he2 sb=>?_⟩
  have hel:e<s.heap.objs.size:=Heap.lt_size he
  have hitl:it<s.heap.objs.size:=by obtain ⟨o,ho,_⟩:=st.a;exact Heap.lt_size ho
  have hzp:∀ c∈[e,it],c≠s.heap.objs.size:=fun c hc q=>by
   simp only[List.mem_cons,List.not_mem_nil,or_false] at hc
   rcases hc with rfl|rfl
   ·exact absurd (q ▸ hel) (Nat.lt_irrefl _)
   ·exact absurd (q ▸ hitl) (Nat.lt_irrefl _)
  have st2:EpU h2 e it a (i+1):=⟨⟨_,he2⟩,a2.2.1.extBut sb.extBut (Ne.symm hne)⟩
  have hk2:∀ c ob,c∉[e,it]->s.heap.get? c=some ob->h2.get? c=some ob:=fun c ob nc q=>by
   simp only[List.mem_cons,List.not_mem_nil,or_false,not_or] at nc
   exact sb.extBut _ _ nc.1 (a5 c ob nc.1 nc.2 q)
  have hth:∀ c ob,s.heap.get? c=some ob->∃ ob',h2.get? c=some ob':=fun c ob q=>by
   by_cases nc:c∈[e,it]
   ·simp only[List.mem_cons,List.not_mem_nil,or_false] at nc
    obtain ⟨⟨o1,s1⟩,⟨o4,s4,_⟩⟩:=st2
    rcases nc with rfl|rfl
    ·exact ⟨_,s1⟩
    ·exact ⟨_,s4⟩
   ·exact ⟨ob,hk2 c ob nc q⟩
  have hnew:h2.get? s.heap.objs.size=some { cls:=.type "tuple",data:=.seq #[.int ((i+1:Nat):Int) tk,x'] }:=sb.extBut _ _ (Ne.symm (hzp e (by simp))) a3
  have IN:L2.Inv X pins σ (upd H s.heap.objs.size (.tup [.int ((i+1:Nat):Int),x])) { s with heap:=h2,toks:=tk+1 }:=zen (s:=s) (t':=tk+1) (o:=.tup [.int ((i+1:Nat):Int),x]) I hf hk2 (Nat.le_refl _) hth ⟨by show 2<=sizeLine;decide,[.int ((i+1:Nat):Int) tk,x'],.cons ⟨_,rfl⟩ (.cons ru .nil),0,hnew⟩
  exact ⟨.ref s.heap.objs.size,_,IN,rfl,
   ⟨_,x,rfl,I.hok.fresh (Nat.le_refl _),rfl,fun zs q=>by rw[I.tuple_inj q q1];exact hx⟩,st2,fun c hc=>by rw[zae (hzp c hc)];exact (hf c hc).1⟩
 done:=by
  intro X hP hw hK hc i pins s σ H E I hf st hg
  subst hP hw hK
  obtain ⟨xs,q1,hx⟩:=hg
  obtain ⟨its,rv,p,hz⟩:=I.tuple q1
  have hl:=rv.length
  obtain ⟨old,he⟩:=st.e
  have hge:its.toArray.size<=i:=by simp;omega
  refine zmO (I.ok.hd hc) he st.a (show s.heap.IsTuple a its.toArray from p) (by simp;omega) fun h' hk=>⟨rfl,?_⟩
  refine zeh (t':=s.toks) I hf fun c ob nc q=>?_
  simp only[List.mem_cons,List.not_mem_nil,or_false,not_or] at nc
  exact hk c ob nc.2 q
 self:=fun _ _ _ _ _ st h=>let ⟨_,he⟩:=st.e;wpAny_pyIter_enum he h
def zgR(fa:De):DA:=fun ρ=>(fa ρ).bind fun a=>match a.1 with
 |.tup l=>.ok (zjm l,a.2)
 |_=>.no
theorem zqi{K:W.Frag}{G:Hp}{a:Addr}{vs:List V}{ds:List Dt}(hs:SqT K G a vs)(q:zay K G ds vs):zlw K (zue K a) G (zjm ds):=fun i G1 H s1 s2=>by
 have h1:SqT K H a vs:=za1 s2 (za1 s1 hs)
 refine ⟨fun d e=>?_,fun h=>⟨vs,h1,?_⟩⟩
 ·unfold zjm at e
  rw[List.getElem?_map] at e
  have hi:i<ds.length:=by
   by_cases hi:i<ds.length
   ·exact hi
   ·rw[List.getElem?_eq_none (by rw[List.length_zip,List.length_range];omega)] at e;cases e
  have z1:(List.range ds.length)[i]? = some i:=by simp[hi]
  have z2:ds[i]? = some ds[i]:=by simp[hi]
  obtain ⟨v,e1,e2⟩:=q.get z2
  have ed:d=.tup [.int ((i+1:Nat):Int),ds[i]]:=by
   rw[(List.getElem?_zip_eq_some (z:=(i,ds[i]))).mpr ⟨z1,z2⟩] at e
   exact (Option.some.inj e).symm
  refine ⟨⟨vs,v,h1,e1⟩,fun x H' y=>?_⟩
  obtain ⟨p,x',rfl,hp,rfl,k1⟩:=y
  have kx:=k1 vs h1
  rw[e1] at kx
  cases kx
  have gr:zdz G1 H (upd G1 p (.tup [.int ((i+1:Nat):Int),v])) (upd H p (.tup [.int ((i+1:Nat):Int),v])):=.new s2 hp
  refine ⟨_,gr,?_⟩
  rw[ed]
  unfold Rep
  exact ⟨p,[.int ((i+1:Nat):Int),v],rfl,zgO.of zah,zay.cons (za3 _) (zay.cons ((e2.same s1).same gr.g) zay.nil)⟩
 ·rw[<- q.length]
  unfold zjm at h
  simpa using h
section
variable{X:Cx}{C:Cn}{elts:List Expr}{x1:Nat}{pt:Pos}{a:Expr}{fa:De}{p pos:Pos}
theorem zoH{cj:Nat}{cp kp:Pos}(hg:Gl X "enumerate")(hm:X.mg "enumerate"=none)(ha:JE X C a fa)(hs:starEach [a] X.env=(false,eval a X.env)::starEach [] X.env:=by rfl)(he:backTo pos (starEach [a] X.env)=(false,eval a X.env)::backTo pos (starEach [] X.env):=by rfl)(hplain:(backTo pos (starEach [a] X.env)).any (·.1)=false:=by rfl)
  (hall:(backToKw pos (keywordEach [⟨some "start",.Constant (.int 1) cj cp,kp⟩] X.env)).all (·.1.isSome)=true:=by rfl) (hkw:(backToKw pos (keywordEach [⟨some "start",.Constant (.int 1) cj cp,kp⟩] X.env)).any (·.1.isNone)=false:=by rfl) (hks:(backToKw pos (keywordEach [⟨some "start",.Constant (.int 1) cj cp,kp⟩] X.env)).filterMap (·.1)=[Str.ofString "start"]:=by rfl) :
  JI X C (.Tuple elts x1 pt) (.Call (.Name "enumerate" p) [a] [⟨some "start",.Constant (.int 1) cj cp,kp⟩] pos) (zgR fa):=by
 intro pins s σ H R I ⟨G,w,ρ,r,pp⟩
 refine wpAny_Call_Name_kw (zeC I hg hm PyProof.Rows.boot_enumerate (zsL hplain hkw ?_))
 rw[he]
 refine PyProof.Rows.evalArgs_kwB hall ?_
 rw[<- he]
 refine thn (zap ha za5 hs pos pins s σ H (fun vs H1=>∃(l1:Addr)(xs:List V),vs=[.ref l1]/\SqT X.K H1 l1 xs/\R (zue X.K l1) H1) I ?_) fun us s1 ⟨vs,H1,I1,r1,q1⟩=>?_
 ·refine ⟨G,w,ρ,r,?_⟩
  unfold zgR at pp
  unfold dA dA0
  cases e:fa ρ with
  |ok x =>
   obtain ⟨d,ρ1⟩:=x
   rw[e] at pp
   simp only[PV.R.bind_ok] at pp ⊢
   intro vs G1 H1 w1 s1 r1 q
   obtain ⟨v,rfl,k1⟩:=zex q
   cases d with
   |tup l =>
    obtain ⟨a1,xs,rfl,m1,m2⟩:=zbi k1
    exact ⟨a1,xs,rfl,za1 r1.gh m1,pp _ G1 H1 w1 s1 r1 (zqi m1 m2)⟩
   |_=>exact False.elim pp
  |er n=>rw[e] at pp;exact pp
  |no=>rw[e] at pp;exact pp
 ·obtain ⟨l1,xs,rfl,k1,q⟩:=q1
  obtain ⟨u1,rfl,c1⟩:=zeX r1
  cases c1
  refine thn (zq6 (nm:=some "start") (kpos:=kp) (znh (i:=1) (j:=cj) (pos:=cp)) zs1 pos pins s1 σ H1 (fun vs H2=>vs=[.int 1]/\H2=H1) I1 ⟨rfl,rfl⟩) fun ws s2 ⟨zs,H2,I2,r2,e2,eH⟩=>?_
  subst e2;subst eH
  obtain ⟨uw,rfl,⟨t,rfl⟩⟩:=zeX r2
  rw[hks]
  show wpAny _ _ (call (.type "enumerate") [.ref l1] [(Str.ofString "start",.int 1 t)]) _ _ _
  obtain ⟨its,rv,p1,_⟩:=I2.tuple k1
  refine zd5 (show s2.heap.IsTuple l1 its.toArray from p1) fun h' he hit hz hk=>?_
  refine wpAny_pyIter_enum he ?_
  refine ⟨s2.heap.objs.size+1,[s2.heap.objs.size+1,s2.heap.objs.size],_,_,_,rfl,I2.kept (t':=s2.toks) hk,zlA (by intro h;have h:(s2.heap.objs.size+1:Nat)=s2.heap.objs.size:=h;omega),⟨⟨_,he⟩,hit⟩,fun c hc=>?_,q⟩
  have hle:s2.heap.objs.size<=c:=by
   simp only[List.mem_cons,List.not_mem_nil,or_false] at hc
   rcases hc with rfl|rfl
   ·exact Nat.le_add_right ..
   ·exact Nat.le_refl _
  exact I2.fpOk hle (I2.hok.fresh hle)
end
end PV
end
section
namespace Lw
open PySem PySem.Spec L2 PV
def top(i:Nat):Stmt:=PySem.Challenge.pw_standtogether_k04_rows_of_trees.main.body.getD i (.Pass ⟨0,0,0,0⟩)
def xvC(cls:Nat->Addr):Nat->Value:=fun n=>.ref (cls n)
abbrev zgG:Str:=((Str.ofString "law")++".<locals>.")++"<lambda>"
abbrev Uf(K:W.Frag)(mg:Str->Option Value)(x:String)(i:Nat):Prop:=∃ f fd,Fun K (Str.ofString x) (Str.ofString x) (top i) f fd/\mg (Str.ofString x)=some (.ref f)
structure Tx(K:W.Frag)(mg:Str->Option Value)(cls:Nat->Addr):Prop where
 xc:∀ n,n<8->Xin K (cls n)
 xm0:mg (Str.ofString "NoGuests")=some (.ref (cls 0))
 xm1:mg (Str.ofString "NoParties")=some (.ref (cls 1))
 xm2:mg (Str.ofString "NoNumber")=some (.ref (cls 2))
 xm3:mg (Str.ofString "NoOrder")=some (.ref (cls 3))
 xm4:mg (Str.ofString "NoWeb")=some (.ref (cls 4))
 xm5:mg (Str.ofString "NoText")=some (.ref (cls 5))
 xm6:mg (Str.ofString "NoLine")=some (.ref (cls 6))
 xm7:mg (Str.ofString "NoDeed")=some (.ref (cls 7))
 xS:∃ Cs,Xin K Cs/\mg (Str.ofString "SeatError")=some (.ref Cs)/\∀ n,n<8->W.subIn K (.ref (cls n)) (.ref Cs)=some true
 xi:∀ n k,n<8->k<8->W.kitOne K (.ref (cls n)) (.ref (cls k))=some (n == k)
 xV:∀ n,n<8->W.kitOne K (.ref (cls n)) (.type "ValueError")=some true
 u_is_whole:Uf K mg "is_whole" 12
 u_check_guests:Uf K mg "check_guests" 13
 u_is_leaf:Uf K mg "is_leaf" 15
 u_count_rows:Uf K mg "count_rows" 16
 u_rows_many:Uf K mg "rows_many" 17
 u_orders_of:Uf K mg "orders_of" 18
 u_strung:Uf K mg "strung" 19
 u_all_rows:Uf K mg "all_rows" 20
 u_rows_of:Uf K mg "rows_of" 21
 u__law_cell_at:Uf K mg "_law_cell_at" 23
 u__law_state:Uf K mg "_law_state" 24
 u__law_take:Uf K mg "_law_take" 25
 u__law_mixed_row:Uf K mg "_law_mixed_row" 26
 u__law_tree:Uf K mg "_law_tree" 27
 u__law_perms:Uf K mg "_law_perms" 28
 u__law_leaves:Uf K mg "_law_leaves" 29
 u__law_of_tree:Uf K mg "_law_of_tree" 30
 u__law_rows_by:Uf K mg "_law_rows_by" 31
 u__law_same:Uf K mg "_law_same" 32
 u__law_refused:Uf K mg "_law_refused" 33
 u_law:Uf K mg "law" 34
 b_ValueError:mg (Str.ofString "ValueError")=none
 b_all:mg (Str.ofString "all")=none
 b_bool:mg (Str.ofString "bool")=none
 b_enumerate:mg (Str.ofString "enumerate")=none
 b_int:mg (Str.ofString "int")=none
 b_isinstance:mg (Str.ofString "isinstance")=none
 b_len:mg (Str.ofString "len")=none
 b_list:mg (Str.ofString "list")=none
 b_max:mg (Str.ofString "max")=none
 b_min:mg (Str.ofString "min")=none
 b_range:mg (Str.ofString "range")=none
 b_reversed:mg (Str.ofString "reversed")=none
 b_sorted:mg (Str.ofString "sorted")=none
 b_tuple:mg (Str.ofString "tuple")=none
 b_zip:mg (Str.ofString "zip")=none
 g_MOST_GUESTS:∃ t,mg (Str.ofString "MOST_GUESTS")=some (.int 7 t)
section
variable{P:Program}{w:World}{K:W.Frag}{mg:Str->Option Value}{base:Heap}{xv:Nat->Value}{cls:Nat->Addr}
abbrev zly:List Str:=["thing"]
abbrev zeY:List Str:=["thing"]
theorem zjs:za6 zly zeY (zak (top 12)):=⟨rfl,rfl,rfl,by decide +kernel,rfl,by decide +kernel,by decide +kernel⟩
def zgK:DS:=(zbo (zsl (zeQ "int" (zaa 0)) (ztu (zeQ "bool" (zaa 0)))))
def zci:FD:=za2 false [false] 0 zgK
theorem zlx(T:Tx K mg cls):Dfn false P w K mg base (CXe P w) (xvC cls) 3 (Str.ofString "is_whole") [false] zci:=by
  obtain ⟨f,fd,U,hm⟩:=T.u_is_whole
  refine ⟨f,fd,zeY,?_,hm,U.kp,U.binds (ps:=zeY) fun _ _ _ _ _ _ us hl=>match us,hl with|[_],_=>rfl,za8⟩
  refine zaZ (k:=2) false zaT U zjs rfl rfl fun X C hX hpp hxv hnw hr hx hpo=>?_
  obtain ⟨cG,cH,cw,cpp,cσ,cex,cxv,cnw⟩:=C
  dsimp only at hpp hxv hnw
  subst hpp hxv hnw
  have hnw:(false:Bool)=false:=rfl
  obtain ⟨cdv,A,outer,s,H,E,rfl⟩:=hX
  exact (zaj (by exact (zaB hnw (zpF (zd8 zjl rfl T.b_isinstance zdj rfl T.b_int zms (zab 0)) (zmh (zpA (zd8 zhg rfl T.b_isinstance zdj rfl T.b_bool zkc (zab 0))))))))
abbrev zg0:List Str:=["n"]
abbrev zcG:List Str:=["n"]
theorem zgs:za6 zg0 zcG (zak (top 13)):=⟨rfl,rfl,rfl,by decide +kernel,rfl,by decide +kernel,by decide +kernel⟩
def zbw:DS:=(dIf (zjj (zca (dTB (zal zci (dR (zaa 0) dR0)))) (zjj (dTB (dOp gLt (zaa 0) (dC (.int 1)))) (dTB (dOp gGt (zaa 0) (dC (.int 7)))))) (zik 0 (dA (dC (.str (Str.ofString "the guests are no whole number from 1 to 7"))) dA0)) dNx)
def zas:FD:=za2 false [false] 0 zbw
theorem zdT(T:Tx K mg cls):Dfn false P w K mg base (CXe P w) (xvC cls) 6 (Str.ofString "check_guests") [false] zas:=by
  obtain ⟨f,fd,U,hm⟩:=T.u_check_guests
  refine ⟨f,fd,zcG,?_,hm,U.kp,U.binds (ps:=zcG) fun _ _ _ _ _ _ us hl=>match us,hl with|[_],_=>rfl,za8⟩
  refine zaZ (k:=5) false zaT U zgs rfl rfl fun X C hX hpp hxv hnw hr hx hpo=>?_
  obtain ⟨cG,cH,cw,cpp,cσ,cex,cxv,cnw⟩:=C
  dsimp only at hpp hxv hnw
  subst hpp hxv hnw
  have hnw:(false:Bool)=false:=rfl
  obtain ⟨cdv,A,outer,s,H,E,rfl⟩:=hX
  exact (zaj (by exact (zct (JW.jt (zoA (ziP (zcR (zbl (zlx T) hr (by omega) hx (zao (zab 0) za9)))) (zoA (zs5 (zab 0) zaq) (znt (zta (zab 0) (zqN rfl T.g_MOST_GUESTS.choose_spec)))))) (zaj (by exact (znC hx rfl (T.xc 0 (by decide)).cls T.xm0 rfl (zap zfj za5)))) zaL)))
abbrev zn1:List Str:=["tree"]
abbrev zfU:List Str:=["tree"]
theorem zl5:za6 zn1 zfU (zak (top 15)):=⟨rfl,rfl,rfl,by decide +kernel,rfl,by decide +kernel,by decide +kernel⟩
def zmC:DS:=(zbo (ztu (zeQ "tuple" (zaa 0))))
def zbU:FD:=za2 false [false] 0 zmC
theorem zjd(T:Tx K mg cls):Dfn false P w K mg base (CXe P w) (xvC cls) 3 (Str.ofString "is_leaf") [false] zbU:=by
  obtain ⟨f,fd,U,hm⟩:=T.u_is_leaf
  refine ⟨f,fd,zfU,?_,hm,U.kp,U.binds (ps:=zfU) fun _ _ _ _ _ _ us hl=>match us,hl with|[_],_=>rfl,za8⟩
  refine zaZ (k:=2) false zaT U zl5 rfl rfl fun X C hX hpp hxv hnw hr hx hpo=>?_
  obtain ⟨cG,cH,cw,cpp,cσ,cex,cxv,cnw⟩:=C
  dsimp only at hpp hxv hnw
  subst hpp hxv hnw
  have hnw:(false:Bool)=false:=rfl
  obtain ⟨cdv,A,outer,s,H,E,rfl⟩:=hX
  exact (zaj (by exact (zaB hnw (zpA (zd8 ze0 rfl T.b_isinstance zdj rfl T.b_tuple zeH (zab 0))))))
abbrev zi9:List Str:=["tree","many","place","branch"]
abbrev zcB:List Str:=["tree"]
theorem zbA:za6 zi9 zcB (zak (top 16)):=⟨rfl,rfl,rfl,by decide +kernel,rfl,by decide +kernel,by decide +kernel⟩
def zc4(F_self:FD):DS:=(zaw (dIf (dTB (zal zbU (dR (zaa 0) dR0))) (zbo (dC (.int 1))) dNx) (zaw (zaU 1 (zrE (dTB (dOp (gEq false) (dOp gIx (zaa 0) (dC (.int 0))) (dC (.str (Str.ofString "row"))))) (dC (.int 2)) (dC (.int 1)))) (zaw (zeI (zgR (dOp gIx (zaa 0) (dC (.int 1)))) (zfq 2 3) (zaw (zaU 1 (dOp zhc (zaa 1) (zal F_self (dR (zaa 3) dR0)))) (dIf (dTB (dOp (gEq false) (dOp gIx (zaa 0) (dC (.int 0))) (dC (.str (Str.ofString "any"))))) (zaU 1 (dOp zhc (zaa 1) (zaa 2))) dNx))) (zbo (zaa 1)))))
def zb1:Nat->FD
 |0=>fun _=>.no
 |n+1=>za2 false [false] 3 (zc4 (zb1 n))
theorem zfk(T:Tx K mg cls):∀ n,Dfn false P w K mg base (CXe P w) (xvC cls) (n+5) (Str.ofString "count_rows") [false] (zb1 n)
 |0=>by
  obtain ⟨f,fd,U,hm⟩:=T.u_count_rows
  exact zcZ rfl U hm (U.binds (ps:=zcB) fun _ _ _ _ _ _ us hl=>match us,hl with|[_],_=>rfl)
 |n+1=>by
  have DS:=zfk T n
  obtain ⟨f,fd,U,hm⟩:=T.u_count_rows
  refine ⟨f,fd,zcB,?_,hm,U.kp,U.binds (ps:=zcB) fun _ _ _ _ _ _ us hl=>match us,hl with|[_],_=>rfl,za8⟩
  refine zeJ.mono (j:=(n+5)+1) ?_ (by omega)
  refine zaZ (k:=n+5) false zaT U zbA rfl rfl fun X C hX hpp hxv hnw hr hx hpo=>?_
  obtain ⟨cG,cH,cw,cpp,cσ,cex,cxv,cnw⟩:=C
  dsimp only at hpp hxv hnw
  subst hpp hxv hnw
  have hnw:(false:Bool)=false:=rfl
  obtain ⟨cdv,A,outer,s,H,E,rfl⟩:=hX
  exact (zac (by exact (zct (zcR (zbl (zjd T) hr (by omega) hx (zao (zab 0) za9))) (zaj (by exact (zaB hnw zaq))) zaL)) (zac (by exact (zaK (i:=1) zbA.nd rfl (by first|exact Or.inl rfl|exact Or.inr rfl) (show 1∉zaJ [false] by decide) (zsu (zl6 (zhV hr) (zcq (zab 0) zaq) zfj) zaq zaq))) (zac (by exact (zdr hpo rfl (zoH rfl T.b_enumerate (zcq (zab 0) zaq)) (znj (i:=2) (j:=3) rfl zbA.nd rfl rfl (by first|exact Or.inl rfl|exact Or.inr rfl) (by first|exact Or.inl rfl|exact Or.inr rfl) (show 2∉zaJ [false] by decide) (show 3∉zaJ [false] by decide)) (zac (by exact (zaK (i:=1) zbA.nd rfl (by first|exact Or.inl rfl|exact Or.inr rfl) (show 1∉zaJ [false] by decide) (zfS (zab 1) (zbl DS hr (Nat.le_refl _) hx (zao (zab 3) za9))))) (zaj (by exact (zct (zl6 (zhV hr) (zcq (zab 0) zaq) zfj) (zaj (by exact (zaK (i:=1) zbA.nd rfl (by first|exact Or.inl rfl|exact Or.inr rfl) (show 1∉zaJ [false] by decide) (zfS (zab 1) (zab 2))))) zaL)))))) (zaj (by exact (zaB hnw (zab 1)))))))
abbrev zjo:List Str:=["n","tree"]
abbrev zel:List Str:=["n","tree"]
theorem zig:za6 zjo zel (zak (top 17)):=⟨rfl,rfl,rfl,by decide +kernel,rfl,by decide +kernel,by decide +kernel⟩
def zfF:DS:=(zaw (dEx (zal zas (dR (zaa 0) dR0))) (zbo (zal (zb1 8) (dR (zaa 1) dR0))))
def zaN:FD:=za2 false [false,false] 0 zfF
theorem zgl(T:Tx K mg cls):Dfn false P w K mg base (CXe P w) (xvC cls) 16 (Str.ofString "rows_many") [false,false] zaN:=by
  obtain ⟨f,fd,U,hm⟩:=T.u_rows_many
  refine ⟨f,fd,zel,?_,hm,U.kp,U.binds (ps:=zel) fun _ _ _ _ _ _ us hl=>match us,hl with|[_,_],_=>rfl,za8⟩
  refine zaZ (k:=15) false zaT U zig rfl rfl fun X C hX hpp hxv hnw hr hx hpo=>?_
  obtain ⟨cG,cH,cw,cpp,cσ,cex,cxv,cnw⟩:=C
  dsimp only at hpp hxv hnw
  subst hpp hxv hnw
  have hnw:(false:Bool)=false:=rfl
  obtain ⟨cdv,A,outer,s,H,E,rfl⟩:=hX
  exact (zac (by exact (zcH (zbl (zdT T) hr (by omega) hx (zao (zab 0) za9)))) (zaj (by exact (zaB hnw (zbl (zfk T 8) hr (by omega) hx (zao (zab 1) za9))))))
abbrev zjw:List Str:=["things","orders","k","rest"]
abbrev zdc:List Str:=["things"]
theorem zc3:za6 zjw zdc (zak (top 18)):=⟨rfl,rfl,rfl,by decide +kernel,rfl,by decide +kernel,by decide +kernel⟩
def zcr(F_self:FD):DS:=(zaw (dIf (dTB (dOp (gEq false) (dFn zcU (dA (zaa 0) dA0)) (dC (.int 0)))) (zbo (dC (.lst [(.lst [])]))) dNx) (zaw (zbp 1 (zch dA0)) (zaw (zeI (zb6 (dFn zcU (dA (zaa 0) dA0))) (zba 2) (zeI (dIt (zal F_self (dR (dFz (zfO (dFz (zlH (zaa 0) dO0 (dO1 (zaa 2)))) (dFz (zlH (zaa 0) (dO1 (dOp zdv (zaa 2) (dC (.int 1)))) dO0)))) dR0))) (zba 3) (dEx (zda 1 (dFz (zfO (dFz (zch (dA (dOp gIx (zaa 0) (zaa 2)) dA0))) (zaa 3))))))) (zbo (zdt 1)))))
def zcy:Nat->FD
 |0=>fun _=>.no
 |n+1=>za2 false [false] 3 (zcr (zcy n))
theorem zgp(T:Tx K mg cls):∀ n,Dfn false P w K mg base (CXe P w) (xvC cls) (n+2) (Str.ofString "orders_of") [false] (zcy n)
 |0=>by
  obtain ⟨f,fd,U,hm⟩:=T.u_orders_of
  exact zcZ rfl U hm (U.binds (ps:=zdc) fun _ _ _ _ _ _ us hl=>match us,hl with|[_],_=>rfl)
 |n+1=>by
  have DS:=zgp T n
  obtain ⟨f,fd,U,hm⟩:=T.u_orders_of
  refine ⟨f,fd,zdc,?_,hm,U.kp,U.binds (ps:=zdc) fun _ _ _ _ _ _ us hl=>match us,hl with|[_],_=>rfl,za8⟩
  refine zeJ.mono (j:=(n+2)+1) ?_ (by omega)
  refine zaZ (k:=n+2) false zaT U zc3 rfl rfl fun X C hX hpp hxv hnw hr hx hpo=>?_
  obtain ⟨cG,cH,cw,cpp,cσ,cex,cxv,cnw⟩:=C
  dsimp only at hpp hxv hnw
  subst hpp hxv hnw
  have hnw:(false:Bool)=false:=rfl
  obtain ⟨cdv,A,outer,s,H,E,rfl⟩:=hX
  exact (zac (by exact (zct (zl6 (zhV hr) (zfZ T.b_len (zab 0)) zaq) (zaj (by exact (zaB hnw (by refine jd 40 ?_;kernel_rfl)))) zaL)) (zac (by exact (zcV (i:=1) zc3.nd rfl (by first|exact Or.inl rfl|exact Or.inr rfl) (show 1∉zaJ [false] by decide) (zb8 za5))) (zac (by exact (zdr hpo rfl (zcw rfl T.b_range (zfZ T.b_len (zab 0))) (zaY (i:=2) zc3.nd rfl (by first|exact Or.inl rfl|exact Or.inr rfl) (show 2∉zaJ [false] by decide)) (zaj (by exact (zdr hpo rfl (zdn (zbl DS hr (Nat.le_refl _) hx (zao (zaA (by refine ziV (zaA (zkH (zab 0) zek (zdX (zab 2)))) ?_;exact (zaA (zkH (zab 0) (zdX (zed (zab 2) zaq)) zek)))) za9))) (zaY (i:=3) zc3.nd rfl (by first|exact Or.inl rfl|exact Or.inr rfl) (show 3∉zaJ [false] by decide)) (zaj (by exact (zcH (zho 1 (zaA (by refine ziV (zaA (zb8 (zap (zcq (zab 0) (zab 2)) za5))) ?_;exact (zab 3)))))))))))) (zaj (by exact (zaB hnw (ze5 1)))))))
abbrev zpb:List Str:=["choices","rows","choice","longer","row"]
abbrev zhp:List Str:=["choices"]
theorem zcS:za6 zpb zhp (zak (top 19)):=⟨rfl,rfl,rfl,by decide +kernel,rfl,by decide +kernel,by decide +kernel⟩
abbrev ze6:List Str:=["choices","rows","choice","longer","row","piece"]
theorem zkd:ze6.Nodup:=by decide +kernel
def zhq:DS:=(zaw (zaU 1 (dC (.lst [(.tup [])]))) (zaw (zeI (dIt (zaa 0)) (zba 2) (zaw (zbp 3 (zch dA0)) (zaw (zeI (dIt (zaa 1)) (zba 4) (dEx (zft 3 (dFz (zbh (dIt (zaa 2)) (zba 5) dTT (dOp zeR (zaa 4) (zaa 5)) 1))))) (zaU 1 (zdt 3))))) (zbo (zaa 1))))
def ze4:FD:=za2 false [false] 4 zhq
theorem zoj(T:Tx K mg cls):Dfn false P w K mg base (CXe P w) (xvC cls) 3 (Str.ofString "strung") [false] ze4:=by
  obtain ⟨f,fd,U,hm⟩:=T.u_strung
  refine ⟨f,fd,zhp,?_,hm,U.kp,U.binds (ps:=zhp) fun _ _ _ _ _ _ us hl=>match us,hl with|[_],_=>rfl,za8⟩
  refine zaZ (k:=2) false zaT U zcS rfl rfl fun X C hX hpp hxv hnw hr hx hpo=>?_
  obtain ⟨cG,cH,cw,cpp,cσ,cex,cxv,cnw⟩:=C
  dsimp only at hpp hxv hnw
  subst hpp hxv hnw
  have hnw:(false:Bool)=false:=rfl
  obtain ⟨cdv,A,outer,s,H,E,rfl⟩:=hX
  exact (zac (by exact (zaK (i:=1) zcS.nd rfl (by first|exact Or.inl rfl|exact Or.inr rfl) (show 1∉zaJ [false] by decide) (by refine jd 40 ?_;kernel_rfl))) (zac (by exact (zdr hpo rfl (zdn (zab 0)) (zaY (i:=2) zcS.nd rfl (by first|exact Or.inl rfl|exact Or.inr rfl) (show 2∉zaJ [false] by decide)) (zac (by exact (zcV (i:=3) zcS.nd rfl (by first|exact Or.inl rfl|exact Or.inr rfl) (show 3∉zaJ [false] by decide) (zb8 za5))) (zac (by exact (zdr hpo rfl (zdn (zab 1)) (zaY (i:=4) zcS.nd rfl (by first|exact Or.inl rfl|exact Or.inr rfl) (show 4∉zaJ [false] by decide)) (zaj (by exact (zcH (zj8 3 (zaA (zdW (zdn (zab 2)) rfl (N':=ze6) (m:=1) (by kernel_rfl) rfl (zb9 (by kernel_rfl)) (zcs (by kernel_rfl)) (zdb (by kernel_rfl)) (fun cl L s H fp G H' w σ=>⟨(zaY (i:=5) zkd rfl (by first|exact Or.inl rfl|exact Or.inr rfl) (show 5∉List.range 5 by decide)),zfI,(znp (zab 4) (zab 5))⟩))))))))) (zaj (by exact (zaK (i:=1) zcS.nd rfl (by first|exact Or.inl rfl|exact Or.inr rfl) (show 1∉zaJ [false] by decide) (ze5 3)))))))) (zaj (by exact (zaB hnw (zab 1))))))
abbrev zlf:List Str:=["tree","choices","orders","rows","order"]
abbrev zdN:List Str:=["tree"]
theorem zbH:za6 zlf zdN (zak (top 20)):=⟨rfl,rfl,rfl,by decide +kernel,rfl,by decide +kernel,by decide +kernel⟩
abbrev zdA:List Str:=["tree","choices","orders","rows","order","branch"]
theorem zhB:zdA.Nodup:=by decide +kernel
def zdE(F_self:FD):DS:=(zaw (dIf (dTB (zal zbU (dR (zaa 0) dR0))) (zbo (dFz (zch (dA (zeS (dA (zaa 0) dA0)) dA0)))) dNx) (zaw (zaU 1 (dFz (zbh (dIt (dOp gIx (zaa 0) (dC (.int 1)))) (zba 5) dTT (zal F_self (dR (zaa 5) dR0)) 1))) (zaw (dIf (dTB (dOp (gEq false) (dOp gIx (zaa 0) (dC (.int 0))) (dC (.str (Str.ofString "row"))))) (zaU 2 (dFz (zch (dA (zaa 1) (dA (dFz (zgy (zaa 1))) dA0))))) (zaU 2 (zal (zcy 8) (dR (zaa 1) dR0)))) (zaw (zbp 3 (zch dA0)) (zaw (zeI (dIt (zaa 2)) (zba 4) (dEx (zft 3 (zal ze4 (dR (zaa 4) dR0))))) (zbo (zdt 3)))))))
def zbG:Nat->FD
 |0=>fun _=>.no
 |n+1=>za2 false [false] 4 (zdE (zbG n))
theorem zgM(T:Tx K mg cls):∀ n,Dfn false P w K mg base (CXe P w) (xvC cls) (n+12) (Str.ofString "all_rows") [false] (zbG n)
 |0=>by
  obtain ⟨f,fd,U,hm⟩:=T.u_all_rows
  exact zcZ rfl U hm (U.binds (ps:=zdN) fun _ _ _ _ _ _ us hl=>match us,hl with|[_],_=>rfl)
 |n+1=>by
  have DS:=zgM T n
  obtain ⟨f,fd,U,hm⟩:=T.u_all_rows
  refine ⟨f,fd,zdN,?_,hm,U.kp,U.binds (ps:=zdN) fun _ _ _ _ _ _ us hl=>match us,hl with|[_],_=>rfl,za8⟩
  refine zeJ.mono (j:=(n+12)+1) ?_ (by omega)
  refine zaZ (k:=n+12) false zaT U zbH rfl rfl fun X C hX hpp hxv hnw hr hx hpo=>?_
  obtain ⟨cG,cH,cw,cpp,cσ,cex,cxv,cnw⟩:=C
  dsimp only at hpp hxv hnw
  subst hpp hxv hnw
  have hnw:(false:Bool)=false:=rfl
  obtain ⟨cdv,A,outer,s,H,E,rfl⟩:=hX
  exact (zac (by exact (zct (zcR (zbl (zjd T) hr (by omega) hx (zao (zab 0) za9))) (zaj (by exact (zaB hnw (zaA (zb8 (zap (zet (zap (zab 0) za5)) za5)))))) zaL)) (zac (by exact (zlJ (i:=1) zbH.nd rfl (by first|exact Or.inl rfl|exact Or.inr rfl) (show 1∉zaJ [false] by decide) (zdn (zcq (zab 0) zaq)) rfl (N':=zdA) (m:=1) (by kernel_rfl) rfl (zb9 (by kernel_rfl)) (zcs (by kernel_rfl)) (zdb (by kernel_rfl)) (fun cl L s H fp G H' w σ=>⟨(zaY (i:=5) zhB rfl (by first|exact Or.inl rfl|exact Or.inr rfl) (show 5∉List.range 5 by decide)),zfI,(zbl DS hr (Nat.le_refl _) (zrN fun _ z=>z) (zao (zab 5) za9))⟩))) (zac (by exact (zct (zl6 (zhV hr) (zcq (zab 0) zaq) zfj) (zaj (by exact (zaK (i:=2) zbH.nd rfl (by first|exact Or.inl rfl|exact Or.inr rfl) (show 2∉zaJ [false] by decide) (zaA (zb8 (zap (zab 1) (zap (zaA (zqu rfl rfl T.b_list rfl T.b_reversed (zab 1))) za5))))))) (zaj (by exact (zaK (i:=2) zbH.nd rfl (by first|exact Or.inl rfl|exact Or.inr rfl) (show 2∉zaJ [false] by decide) (zbl (zgp T 8) hr (by omega) hx (zao (zab 1) za9))))))) (zac (by exact (zcV (i:=3) zbH.nd rfl (by first|exact Or.inl rfl|exact Or.inr rfl) (show 3∉zaJ [false] by decide) (zb8 za5))) (zac (by exact (zdr hpo rfl (zdn (zab 2)) (zaY (i:=4) zbH.nd rfl (by first|exact Or.inl rfl|exact Or.inr rfl) (show 4∉zaJ [false] by decide)) (zaj (by exact (zcH (zj8 3 (zbl (zoj T) hr (by omega) hx (zao (zab 4) za9)))))))) (zaj (by exact (zaB hnw (ze5 3)))))))))
abbrev zmR:List Str:=["n","tree"]
abbrev zgk:List Str:=["n","tree"]
theorem zll:za6 zmR zgk (zak (top 21)):=⟨rfl,rfl,rfl,by decide +kernel,rfl,by decide +kernel,by decide +kernel⟩
def zhZ:DS:=(zaw (dEx (zal zas (dR (zaa 0) dR0))) (zd9 (zdD zer (dA (zal (zbG 8) (dR (zaa 1) dR0)) dA0))))
def zbC:FD:=za2 true [false,false] 0 zhZ
theorem ziM(T:Tx K mg cls):Dfn true P w K mg base (CXe P w) (xvC cls) 23 (Str.ofString "rows_of") [false,false] zbC:=by
  obtain ⟨f,fd,U,hm⟩:=T.u_rows_of
  refine ⟨f,fd,zgk,?_,hm,U.kp,U.binds (ps:=zgk) fun _ _ _ _ _ _ us hl=>match us,hl with|[_,_],_=>rfl,za8⟩
  refine zaZ (k:=22) true zaT U zll rfl rfl fun X C hX hpp hxv hnw hr hx hpo=>?_
  obtain ⟨cG,cH,cw,cpp,cσ,cex,cxv,cnw⟩:=C
  dsimp only at hpp hxv hnw
  subst hpp hxv hnw
  have hnw:(true:Bool)=true:=rfl
  obtain ⟨cdv,A,outer,s,H,E,rfl⟩:=hX
  exact (zac (by exact (zcH (zbl (zdT T) hr (by omega) hx (zao (zab 0) za9)))) (zaj (by exact (zhj hnw (zok rfl T.b_sorted (zbl (zgM T 8) hr (by omega) hx (zao (zab 1) za9)))))))
abbrev zgz:List Str:=["script","k"]
abbrev zcF:List Str:=["script","k"]
theorem zgm:za6 zgz zcF (zak (top 23)):=⟨rfl,rfl,rfl,by decide +kernel,rfl,by decide +kernel,by decide +kernel⟩
def zbt:DS:=(zaw (dIf (dTB (dOp gLt (zaa 1) (dFn zcU (dA (zaa 0) dA0)))) (zbo (dOp gIx (zaa 0) (zaa 1))) dNx) (zbo (dC (.int 0))))
def zbP:FD:=za2 false [false,false] 0 zbt
theorem zg4(T:Tx K mg cls):Dfn false P w K mg base (CXe P w) (xvC cls) 3 (Str.ofString "_law_cell_at") [false,false] zbP:=by
  obtain ⟨f,fd,U,hm⟩:=T.u__law_cell_at
  refine ⟨f,fd,zcF,?_,hm,U.kp,U.binds (ps:=zcF) fun _ _ _ _ _ _ us hl=>match us,hl with|[_,_],_=>rfl,za8⟩
  refine zaZ (k:=2) false zaT U zgm rfl rfl fun X C hX hpp hxv hnw hr hx hpo=>?_
  obtain ⟨cG,cH,cw,cpp,cσ,cex,cxv,cnw⟩:=C
  dsimp only at hpp hxv hnw
  subst hpp hxv hnw
  have hnw:(false:Bool)=false:=rfl
  obtain ⟨cdv,A,outer,s,H,E,rfl⟩:=hX
  exact (zac (by exact (zct (zs5 (zab 1) (zfZ T.b_len (zab 0))) (zaj (by exact (zaB hnw (zcq (zab 0) (zab 1))))) zaL)) (zaj (by exact (zaB hnw zaq))))
abbrev zic:List Str:=["script","k","cell"]
abbrev zd2:List Str:=["script","k"]
theorem zez:za6 zic zd2 (zak (top 24)):=⟨rfl,rfl,rfl,by decide +kernel,rfl,by decide +kernel,by decide +kernel⟩
def zbV:DS:=(zaw (zaU 2 (zal zbP (dR (zaa 0) (dR (zaa 1) dR0)))) (zaw (dIf (dTB (dOp gGe (zaa 2) (dOp zo9 (dC (.int 10)) (dC (.int 18))))) (zd9 (zch (dA (dOp zmJ (zaa 2) (dOp zo9 (dC (.int 10)) (dC (.int 18)))) (dA (dC (.bl true)) dA0)))) dNx) (zd9 (zch (dA (dOp zlK (zaa 2) (dC (.int 2147483647))) (dA (dC (.bl false)) dA0))))))
def zbT:FD:=za2 true [false,false] 1 zbV
theorem ziD(T:Tx K mg cls):Dfn true P w K mg base (CXe P w) (xvC cls) 6 (Str.ofString "_law_state") [false,false] zbT:=by
  obtain ⟨f,fd,U,hm⟩:=T.u__law_state
  refine ⟨f,fd,zd2,?_,hm,U.kp,U.binds (ps:=zd2) fun _ _ _ _ _ _ us hl=>match us,hl with|[_,_],_=>rfl,za8⟩
  refine zaZ (k:=5) true zaT U zez rfl rfl fun X C hX hpp hxv hnw hr hx hpo=>?_
  obtain ⟨cG,cH,cw,cpp,cσ,cex,cxv,cnw⟩:=C
  dsimp only at hpp hxv hnw
  subst hpp hxv hnw
  have hnw:(true:Bool)=true:=rfl
  obtain ⟨cdv,A,outer,s,H,E,rfl⟩:=hX
  exact (zac (by exact (zaK (i:=2) zez.nd rfl (by first|exact Or.inl rfl|exact Or.inr rfl) (show 2∉zaJ [false,false] by decide) (zbl (zg4 T) hr (by omega) hx (zao (zab 0) (zao (zab 1) za9))))) (zac (by exact (zct (zt6 (zab 2) (zp8 zaq zaq)) (zaj (by exact (zhj hnw (zb8 (zap (zpM (zab 2) (zp8 zaq zaq)) (zap zfs za5)))))) zaL)) (zaj (by exact (zhj hnw (zb8 (zap (zgE (zab 2) zaq) (zap zfs za5))))))))
abbrev zkg:List Str:=["state","many","found","stirred"]
abbrev zeo:List Str:=["state","many"]
theorem zc2:za6 zkg zeo (zak (top 25)):=⟨rfl,rfl,rfl,by decide +kernel,rfl,by decide +kernel,by decide +kernel⟩
def zei:DS:=(zaw (dIf (dTB (zmx 0 (dC (.int 1)))) (zaw (zaU 2 (dOp zlK (zmx 0 (dC (.int 0))) (zaa 1))) (zaw (znv 0 (dOp zoV (zmx 0 (dC (.int 0))) (zaa 1)) (dC (.int 0))) (zbo (zaa 2)))) dNx) (zaw (znv 0 (dOp zlK (dOp zdv (dOp zhc (zmx 0 (dC (.int 0))) (dC (.int 48271))) (dC (.int 29))) (dC (.int 2147483647))) (dC (.int 0))) (zaw (zaU 3 (dOp zlK (dOp zdv (dOp zdv (dOp zhc (zmx 0 (dC (.int 0))) (zmx 0 (dC (.int 0)))) (dOp zhc (dC (.int 39373)) (zmx 0 (dC (.int 0))))) (dC (.int 7))) (dC (.int 2147483629)))) (zaw (zaU 3 (dOp zlK (dOp zdv (dOp zhc (zaa 3) (zaa 3)) (dOp zhc (dC (.int 16807)) (zaa 3))) (dC (.int 2147483587)))) (zbo (dOp zlK (dOp zoV (zaa 3) (dC (.int 8))) (zaa 1)))))))
def zan:FD:=za2 false [true,false] 2 zei
theorem zbI(T:Tx K mg cls):Dfn false P w K mg base (CXe P w) (xvC cls) 3 (Str.ofString "_law_take") [true,false] zan:=by
  obtain ⟨f,fd,U,hm⟩:=T.u__law_take
  refine ⟨f,fd,zeo,?_,hm,U.kp,U.binds (ps:=zeo) fun _ _ _ _ _ _ us hl=>match us,hl with|[_,_],_=>rfl,za8⟩
  refine zaZ (k:=2) false zaT U zc2 rfl rfl fun X C hX hpp hxv hnw hr hx hpo=>?_
  obtain ⟨cG,cH,cw,cpp,cσ,cex,cxv,cnw⟩:=C
  dsimp only at hpp hxv hnw
  subst hpp hxv hnw
  have hnw:(false:Bool)=false:=rfl
  obtain ⟨cdv,A,outer,s,H,E,rfl⟩:=hX
  exact (zac (by exact (zct (zcR (zfB 0 (hb:=zaq))) (zac (by exact (zaK (i:=2) zc2.nd rfl (by first|exact Or.inl rfl|exact Or.inr rfl) (show 2∉zaJ [true,false] by decide) (zgE (zfB 0 (hb:=zaq)) (zab 1)))) (zac (by exact (zmT 0 (zp4 (zfB 0 (hb:=zaq)) (zab 1)) zaq)) (zaj (by exact (zaB hnw (zab 2)))))) zaL)) (zac (by exact (zmT 0 (zgE (zed (zfS (zfB 0 (hb:=zaq)) zaq) zaq) zaq) zaq)) (zac (by exact (zaK (i:=3) zc2.nd rfl (by first|exact Or.inl rfl|exact Or.inr rfl) (show 3∉zaJ [true,false] by decide) (zgE (zed (zed (zfS (zfB 0 (hb:=zaq)) (zfB 0 (hb:=zaq))) (zfS zaq (zfB 0 (hb:=zaq)))) zaq) zaq))) (zac (by exact (zaK (i:=3) zc2.nd rfl (by first|exact Or.inl rfl|exact Or.inr rfl) (show 3∉zaJ [true,false] by decide) (zgE (zed (zfS (zab 3) (zab 3)) (zfS zaq (zab 3))) zaq))) (zaj (by exact (zaB hnw (zgE (zp4 (zab 3) zaq) (zab 1)))))))))
abbrev zfu:List Str:=["state","things","left","found"]
abbrev zcb:List Str:=["state","things"]
theorem zbK:za6 zfu zcb (zak (top 26)):=⟨rfl,rfl,rfl,by decide +kernel,rfl,by decide +kernel,by decide +kernel⟩
def zbY:DS:=(zaw (zbp 2 (zdD zjS (dA (zaa 1) dA0))) (zaw (zbp 3 (zch dA0)) (zaw (zbg (dTB (zrA true 2 (dFz (zch dA0)))) (dEx (zda 3 (zgV 2 (zal zan (dRO 0 (dR (zl2 2) dR0)))))) 10) (zbo (zdt 3)))))
def zby:FD:=za2 false [true,false] 2 zbY
theorem zfw(T:Tx K mg cls):Dfn false P w K mg base (CXe P w) (xvC cls) 6 (Str.ofString "_law_mixed_row") [true,false] zby:=by
  obtain ⟨f,fd,U,hm⟩:=T.u__law_mixed_row
  refine ⟨f,fd,zcb,?_,hm,U.kp,U.binds (ps:=zcb) fun _ _ _ _ _ _ us hl=>match us,hl with|[_,_],_=>rfl,za8⟩
  refine zaZ (k:=5) false zaT U zbK rfl rfl fun X C hX hpp hxv hnw hr hx hpo=>?_
  obtain ⟨cG,cH,cw,cpp,cσ,cex,cxv,cnw⟩:=C
  dsimp only at hpp hxv hnw
  subst hpp hxv hnw
  have hnw:(false:Bool)=false:=rfl
  obtain ⟨cdv,A,outer,s,H,E,rfl⟩:=hX
  exact (zac (by exact (zcV (i:=2) zbK.nd rfl (by first|exact Or.inl rfl|exact Or.inr rfl) (show 2∉zaJ [true,false] by decide) (zsE T.b_list (zab 1)))) (zac (by exact (zcV (i:=3) zbK.nd rfl (by first|exact Or.inl rfl|exact Or.inr rfl) (show 3∉zaJ [true,false] by decide) (zb8 za5))) (zac (by exact (zk8 10 hpo (zsT 2 (zhV hr) (zaA (zb8 za5))) (zaj (by exact (zcH (zho 3 (zoB 2 (zbl (zbI T) hr (by omega) hx (zeG 0 (zao (zq8 2 rfl T.b_len) za9)))))))))) (zaj (by exact (zaB hnw (ze5 3)))))))
abbrev zjX:List Str:=["state","guests","row","many","pieces","guest","branches"]
abbrev zcX:List Str:=["state","guests"]
theorem zb2:za6 zjX zcX (zak (top 27)):=⟨rfl,rfl,rfl,by decide +kernel,rfl,by decide +kernel,by decide +kernel⟩
abbrev zdm:List Str:=["state","guests","row","many","pieces","%5","branches","guest"]
theorem zg9:zdm.Nodup:=by decide +kernel
abbrev zdk:List Str:=["state","guests","row","many","pieces","guest","branches","piece"]
theorem zg5:zdk.Nodup:=by decide +kernel
def zbF(F_self:FD):DS:=(zaw (dIf (dTB (dOp (gEq false) (dFn zcU (dA (zaa 1) dA0)) (dC (.int 1)))) (zbo (dOp gIx (zaa 1) (dC (.int 0)))) dNx) (zaw (zaU 2 (zal zby (dRO 0 (dR (zaa 1) dR0)))) (zaw (zaU 3 (dOp zdv (dC (.int 2)) (zal zan (dRO 0 (dR (dOp zmJ (dFn zcU (dA (zaa 2) dA0)) (dC (.int 1))) dR0))))) (zaw (zkP 4 (dIt (dFz (zlH (zaa 2) dO0 (dO1 (zaa 3))))) (zba 7) dTT (zch (dA (zaa 7) dA0)) 1) (zaw (zeI (dIt (dFz (zlH (zaa 2) (dO1 (zaa 3)) dO0))) (zba 5) (dEx (zia 4 5 (zal zan (dRO 0 (dR (zaa 3) dR0)))))) (zaw (zaU 6 (dFn zfE (dA (dFz (zbh (dIt (zdt 4)) (zba 7) dTT (zal F_self (dRO 0 (dR (zaa 7) dR0))) 1)) dA0))) (zaw (dIf (zj4 (dTB (dOp gGt (zaa 3) (dC (.int 2)))) (dTB (dOp (gEq false) (zal zan (dRO 0 (dR (dC (.int 2)) dR0))) (dC (.int 1))))) (zbo (zeS (dA (dC (.str (Str.ofString "row"))) (dA (zaa 6) dA0)))) dNx) (zbo (zeS (dA (dC (.str (Str.ofString "any"))) (dA (zaa 6) dA0)))))))))))
def zaC:Nat->FD
 |0=>fun _=>.no
 |n+1=>za2 false [true,false] 5 (zbF (zaC n))
theorem zf8(T:Tx K mg cls):∀ n,Dfn false P w K mg base (CXe P w) (xvC cls) (n+8) (Str.ofString "_law_tree") [true,false] (zaC n)
 |0=>by
  obtain ⟨f,fd,U,hm⟩:=T.u__law_tree
  exact zcZ rfl U hm (U.binds (ps:=zcX) fun _ _ _ _ _ _ us hl=>match us,hl with|[_,_],_=>rfl)
 |n+1=>by
  have DS:=zf8 T n
  obtain ⟨f,fd,U,hm⟩:=T.u__law_tree
  refine ⟨f,fd,zcX,?_,hm,U.kp,U.binds (ps:=zcX) fun _ _ _ _ _ _ us hl=>match us,hl with|[_,_],_=>rfl,za8⟩
  refine zeJ.mono (j:=(n+8)+1) ?_ (by omega)
  refine zaZ (k:=n+8) false zaT U zb2 rfl rfl fun X C hX hpp hxv hnw hr hx hpo=>?_
  obtain ⟨cG,cH,cw,cpp,cσ,cex,cxv,cnw⟩:=C
  dsimp only at hpp hxv hnw
  subst hpp hxv hnw
  have hnw:(false:Bool)=false:=rfl
  obtain ⟨cdv,A,outer,s,H,E,rfl⟩:=hX
  exact (zac (by exact (zct (zl6 (zhV hr) (zfZ T.b_len (zab 1)) zaq) (zaj (by exact (zaB hnw (zcq (zab 1) zaq)))) zaL)) (zac (by exact (zaK (i:=2) zb2.nd rfl (by first|exact Or.inl rfl|exact Or.inr rfl) (show 2∉zaJ [true,false] by decide) (zbl (zfw T) hr (by omega) hx (zeG 0 (zao (zab 1) za9))))) (zac (by exact (zaK (i:=3) zb2.nd rfl (by first|exact Or.inl rfl|exact Or.inr rfl) (show 3∉zaJ [true,false] by decide) (zed zaq (zbl (zbI T) hr (by omega) hx (zeG 0 (zao (zpM (zfZ T.b_len (zab 2)) zaq) za9)))))) (zac (by exact (zjt (i:=4) zb2.nd rfl (by first|exact Or.inl rfl|exact Or.inr rfl) (show 4∉zaJ [true,false] by decide) (zdn (zaA (zkH (zab 2) zek (zdX (zab 3))))) rfl (N':=zdm) (m:=1) (by kernel_rfl) rfl (zb9 (by kernel_rfl)) (zcs (by kernel_rfl)) (zdb (by kernel_rfl)) (fun cl L s H fp G H' w σ=>⟨(zaY (i:=7) zg9 rfl (by first|exact Or.inl rfl|exact Or.inr rfl) (show 7∉List.range 7 by decide)),zfI,(zb8 (zap (zab 7) za5))⟩))) (zac (by exact (zdr hpo rfl (zdn (zaA (zkH (zab 2) (zdX (zab 3)) zek))) (zaY (i:=5) zb2.nd rfl (by first|exact Or.inl rfl|exact Or.inr rfl) (show 5∉zaJ [true,false] by decide)) (zaj (by exact (zcH (zqx 4 5 (zbl (zbI T) hr (by omega) hx (zeG 0 (zao (zab 3) za9))))))))) (zac (by exact (zaK (i:=6) zb2.nd rfl (by first|exact Or.inl rfl|exact Or.inr rfl) (show 6∉zaJ [true,false] by decide) (zqn T.b_tuple (zaA (zdW (zdn (ze5 4)) rfl (N':=zdk) (m:=1) (by kernel_rfl) rfl (zb9 (by kernel_rfl)) (zcs (by kernel_rfl)) (zdb (by kernel_rfl)) (fun cl L s H fp G H' w σ=>⟨(zaY (i:=7) zg5 rfl (by first|exact Or.inl rfl|exact Or.inr rfl) (show 7∉List.range 7 by decide)),zfI,(zbl DS hr (Nat.le_refl _) (zrN fun _ z=>z) (zeG 0 (zao (zab 7) za9)))⟩)))))) (zac (by exact (zct (JW.jt (zsf (zta (zab 3) zaq) (zq5 (zl6 (zhV hr) (zbl (zbI T) hr (by omega) hx (zeG 0 (zao zaq za9))) zaq)))) (zaj (by exact (zaB hnw (zet (zap zfj (zap (zab 6) za5)))))) zaL)) (zaj (by exact (zaB hnw (zet (zap zfj (zap (zab 6) za5)))))))))))))
abbrev ziX:List Str:=["n","found","turn","longer","row"]
abbrev zd4:List Str:=["n"]
theorem zbn:za6 ziX zd4 (zak (top 28)):=⟨rfl,rfl,rfl,by decide +kernel,rfl,by decide +kernel,by decide +kernel⟩
abbrev zcO:List Str:=["n","found","turn","longer","row","guest"]
theorem zfR:zcO.Nodup:=by decide +kernel
def zd0:DS:=(zaw (zaU 1 (dC (.lst [(.tup [])]))) (zaw (zeI (zb6 (zaa 0)) (zba 2) (zaw (zbp 3 (zch dA0)) (zaw (zeI (dIt (zaa 1)) (zba 4) (dEx (zft 3 (dFz (zbh (zb6 (zaa 0)) (zba 5) (dTB (dOp (gIn true) (zaa 5) (zaa 4))) (dOp zeR (zaa 4) (zeS (dA (zaa 5) dA0))) 1))))) (zaU 1 (zdt 3))))) (zbo (zaa 1))))
def zbR:FD:=za2 false [false] 4 zd0
theorem zih(T:Tx K mg cls):Dfn false P w K mg base (CXe P w) (xvC cls) 3 (Str.ofString "_law_perms") [false] zbR:=by
  obtain ⟨f,fd,U,hm⟩:=T.u__law_perms
  refine ⟨f,fd,zd4,?_,hm,U.kp,U.binds (ps:=zd4) fun _ _ _ _ _ _ us hl=>match us,hl with|[_],_=>rfl,za8⟩
  refine zaZ (k:=2) false zaT U zbn rfl rfl fun X C hX hpp hxv hnw hr hx hpo=>?_
  obtain ⟨cG,cH,cw,cpp,cσ,cex,cxv,cnw⟩:=C
  dsimp only at hpp hxv hnw
  subst hpp hxv hnw
  have hnw:(false:Bool)=false:=rfl
  obtain ⟨cdv,A,outer,s,H,E,rfl⟩:=hX
  exact (zac (by exact (zaK (i:=1) zbn.nd rfl (by first|exact Or.inl rfl|exact Or.inr rfl) (show 1∉zaJ [false] by decide) (by refine jd 40 ?_;kernel_rfl))) (zac (by exact (zdr hpo rfl (zcw rfl T.b_range (zab 0)) (zaY (i:=2) zbn.nd rfl (by first|exact Or.inl rfl|exact Or.inr rfl) (show 2∉zaJ [false] by decide)) (zac (by exact (zcV (i:=3) zbn.nd rfl (by first|exact Or.inl rfl|exact Or.inr rfl) (show 3∉zaJ [false] by decide) (zb8 za5))) (zac (by exact (zdr hpo rfl (zdn (zab 1)) (zaY (i:=4) zbn.nd rfl (by first|exact Or.inl rfl|exact Or.inr rfl) (show 4∉zaJ [false] by decide)) (zaj (by exact (zcH (zj8 3 (zaA (zdW (zcw rfl T.b_range (zab 0)) rfl (N':=zcO) (m:=1) (by kernel_rfl) rfl (zb9 (by kernel_rfl)) (zcs (by kernel_rfl)) (zdb (by kernel_rfl)) (fun cl L s H fp G H' w σ=>⟨(zaY (i:=5) zfR rfl (by first|exact Or.inl rfl|exact Or.inr rfl) (show 5∉List.range 5 by decide)),(zhe (zoY (ztv hr) (zab 5) (zab 4))),(znp (zab 4) (zet (zap (zab 5) za5)))⟩))))))))) (zaj (by exact (zaK (i:=1) zbn.nd rfl (by first|exact Or.inl rfl|exact Or.inr rfl) (show 1∉zaJ [false] by decide) (ze5 3)))))))) (zaj (by exact (zaB hnw (zab 1))))))
abbrev zhO:List Str:=["tree","found","branch"]
abbrev zcf:List Str:=["tree"]
theorem zbO:za6 zhO zcf (zak (top 29)):=⟨rfl,rfl,rfl,by decide +kernel,rfl,by decide +kernel,by decide +kernel⟩
def zde(F_self:FD):DS:=(zaw (dIf (dTB (zeQ "int" (zaa 0))) (zbo (dFz (zch (dA (zaa 0) dA0)))) dNx) (zaw (zaU 1 (dFz (zch dA0))) (zaw (zeI (dIt (dOp gIx (zaa 0) (dC (.int 1)))) (zba 2) (zaU 1 (dFz (zfO (zaa 1) (zal F_self (dR (zaa 2) dR0)))))) (zbo (zaa 1)))))
def zaF:Nat->FD
 |0=>fun _=>.no
 |n+1=>za2 false [false] 2 (zde (zaF n))
theorem zce(T:Tx K mg cls):∀ n,Dfn false P w K mg base (CXe P w) (xvC cls) (n+2) (Str.ofString "_law_leaves") [false] (zaF n)
 |0=>by
  obtain ⟨f,fd,U,hm⟩:=T.u__law_leaves
  exact zcZ rfl U hm (U.binds (ps:=zcf) fun _ _ _ _ _ _ us hl=>match us,hl with|[_],_=>rfl)
 |n+1=>by
  have DS:=zce T n
  obtain ⟨f,fd,U,hm⟩:=T.u__law_leaves
  refine ⟨f,fd,zcf,?_,hm,U.kp,U.binds (ps:=zcf) fun _ _ _ _ _ _ us hl=>match us,hl with|[_],_=>rfl,za8⟩
  refine zeJ.mono (j:=(n+2)+1) ?_ (by omega)
  refine zaZ (k:=n+2) false zaT U zbO rfl rfl fun X C hX hpp hxv hnw hr hx hpo=>?_
  obtain ⟨cG,cH,cw,cpp,cσ,cex,cxv,cnw⟩:=C
  dsimp only at hpp hxv hnw
  subst hpp hxv hnw
  have hnw:(false:Bool)=false:=rfl
  obtain ⟨cdv,A,outer,s,H,E,rfl⟩:=hX
  exact (zac (by exact (zct (zcR (zd8 zjl rfl T.b_isinstance zdj rfl T.b_int zms (zab 0))) (zaj (by exact (zaB hnw (zaA (zb8 (zap (zab 0) za5)))))) zaL)) (zac (by exact (zaK (i:=1) zbO.nd rfl (by first|exact Or.inl rfl|exact Or.inr rfl) (show 1∉zaJ [false] by decide) (zaA (zb8 za5)))) (zac (by exact (zdr hpo rfl (zdn (zcq (zab 0) zaq)) (zaY (i:=2) zbO.nd rfl (by first|exact Or.inl rfl|exact Or.inr rfl) (show 2∉zaJ [false] by decide)) (zaj (by exact (zaK (i:=1) zbO.nd rfl (by first|exact Or.inl rfl|exact Or.inr rfl) (show 1∉zaJ [false] by decide) (zaA (by refine ziV (zab 1) ?_;exact (zbl DS hr (Nat.le_refl _) hx (zao (zab 2) za9))))))))) (zaj (by exact (zaB hnw (zab 1)))))))
abbrev zg2:List Str:=["tree","row","left","places","here","many"]
abbrev zbN:List Str:=["tree","row"]
theorem zaR:za6 zg2 zbN (zak (top 30)):=⟨rfl,rfl,rfl,by decide +kernel,rfl,by decide +kernel,by decide +kernel⟩
abbrev zcv:List Str:=["tree","row","left","places","here","many","at"]
theorem zeK:zcv.Nodup:=by decide +kernel
def zbd(F_self:FD):DS:=(zaw (dIf (dTB (zeQ "int" (zaa 0))) (zbo (dOp (gEq false) (zaa 1) (zeS (dA (zaa 0) dA0)))) dNx) (zaw (zaU 2 (zaa 1)) (zaw (zbp 3 (zch dA0)) (zaw (zbg (dTB (dOp (gEq true) (zaa 2) (zeS dA0))) (zaw (zaU 4 (dOp gIx (dFz (zbh (zb6 (dFn zcU (dA (dOp gIx (zaa 0) (dC (.int 1))) dA0))) (zba 6) (dTB (dOp (gIn false) (dOp gIx (zaa 2) (dC (.int 0))) (zal (zaF 8) (dR (dOp gIx (dOp gIx (zaa 0) (dC (.int 1))) (zaa 6)) dR0)))) (zaa 6) 1)) (dC (.int 0)))) (zaw (zaU 5 (dFn zcU (dA (zal (zaF 8) (dR (dOp gIx (dOp gIx (zaa 0) (dC (.int 1))) (zaa 4)) dR0)) dA0))) (zaw (dIf (zjj (dTB (zoZ false 3 (zaa 4))) (dTB (dOp (gEq true) (dFz (zdD zcI (dA (zfa (zaa 2) dO0 (dO1 (zaa 5))) dA0))) (dFz (zdD zbv (dA (zal (zaF 8) (dR (dOp gIx (dOp gIx (zaa 0) (dC (.int 1))) (zaa 4)) dR0)) dA0)))))) (zbo (dC (.bl false))) dNx) (zaw (dIf (zca (dTB (zal F_self (dR (dOp gIx (dOp gIx (zaa 0) (dC (.int 1))) (zaa 4)) (dR (zfa (zaa 2) dO0 (dO1 (zaa 5))) dR0))))) (zbo (dC (.bl false))) dNx) (zaw (dEx (zda 3 (zaa 4))) (zaU 2 (zfa (zaa 2) (dO1 (zaa 5)) dO0))))))) 10) (zbo (dOr (dOp (gEq false) (dOp gIx (zaa 0) (dC (.int 0))) (dC (.str (Str.ofString "any")))) (dOp (gIn false) (zdt 3) (zeS (dA (dFz (zdD zbv (dA (zdt 3) dA0))) (dA (dFz (zgy (dFz (zdD zbv (dA (zdt 3) dA0))))) dA0))))))))))
def zbb:Nat->FD
 |0=>fun _=>.no
 |n+1=>za2 false [false,false] 4 (zbd (zbb n))
theorem zdV(T:Tx K mg cls):∀ n,Dfn false P w K mg base (CXe P w) (xvC cls) (n+12) (Str.ofString "_law_of_tree") [false,false] (zbb n)
 |0=>by
  obtain ⟨f,fd,U,hm⟩:=T.u__law_of_tree
  exact zcZ rfl U hm (U.binds (ps:=zbN) fun _ _ _ _ _ _ us hl=>match us,hl with|[_,_],_=>rfl)
 |n+1=>by
  have DS:=zdV T n
  obtain ⟨f,fd,U,hm⟩:=T.u__law_of_tree
  refine ⟨f,fd,zbN,?_,hm,U.kp,U.binds (ps:=zbN) fun _ _ _ _ _ _ us hl=>match us,hl with|[_,_],_=>rfl,za8⟩
  refine zeJ.mono (j:=(n+12)+1) ?_ (by omega)
  refine zaZ (k:=n+12) false zaT U zaR rfl rfl fun X C hX hpp hxv hnw hr hx hpo=>?_
  obtain ⟨cG,cH,cw,cpp,cσ,cex,cxv,cnw⟩:=C
  dsimp only at hpp hxv hnw
  subst hpp hxv hnw
  have hnw:(false:Bool)=false:=rfl
  obtain ⟨cdv,A,outer,s,H,E,rfl⟩:=hX
  exact (zac (by exact (zct (zcR (zd8 zjl rfl T.b_isinstance zdj rfl T.b_int zms (zab 0))) (zaj (by exact (zaB hnw (zoS (zhV hr) (zab 1) (zet (zap (zab 0) za5)))))) zaL)) (zac (by exact (zaK (i:=2) zaR.nd rfl (by first|exact Or.inl rfl|exact Or.inr rfl) (show 2∉zaJ [false,false] by decide) (zab 1))) (zac (by exact (zcV (i:=3) zaR.nd rfl (by first|exact Or.inl rfl|exact Or.inr rfl) (show 3∉zaJ [false,false] by decide) (zb8 za5))) (zac (by exact (zk8 10 hpo (zko (zhV hr) (zab 2) (zet za5)) (zac (by exact (zaK (i:=4) zaR.nd rfl (by first|exact Or.inl rfl|exact Or.inr rfl) (show 4∉zaJ [false,false] by decide) (zcq (zaA (zdW (zcw rfl T.b_range (zfZ T.b_len (zcq (zab 0) zaq))) rfl (N':=zcv) (m:=1) (by kernel_rfl) rfl (zb9 (by kernel_rfl)) (zcs (by kernel_rfl)) (zdb (by kernel_rfl)) (fun cl L s H fp G H' w σ=>⟨(zaY (i:=6) zeK rfl (by first|exact Or.inl rfl|exact Or.inr rfl) (show 6∉List.range 6 by decide)),(zhe (ztD (ztv hr) (zcq (zab 2) zaq) (zbl (zce T 8) hr (by omega) (zrN fun _ z=>z) (zao (zcq (zcq (zab 0) zaq) (zab 6)) za9)))),(zab 6)⟩))) zaq))) (zac (by exact (zaK (i:=5) zaR.nd rfl (by first|exact Or.inl rfl|exact Or.inr rfl) (show 5∉zaJ [false,false] by decide) (zfZ T.b_len (zbl (zce T 8) hr (by omega) hx (zao (zcq (zcq (zab 0) zaq) (zab 4)) za9))))) (zac (by exact (zct (JW.jt (zoA (ztf 3 (ztv hr) (zab 4)) (znt (zko (zhV hr) (zaA (zpp rfl T.b_sorted (zjL (zab 2) zek (zdX (zab 5))))) (zaA (zhA rfl T.b_sorted (zbl (zce T 8) hr (by omega) hx (zao (zcq (zcq (zab 0) zaq) (zab 4)) za9)))))))) (zaj (by exact (zaB hnw zfs))) zaL)) (zac (by exact (zct (ziP (zcR (zbl DS hr (Nat.le_refl _) hx (zao (zcq (zcq (zab 0) zaq) (zab 4)) (zao (zjL (zab 2) zek (zdX (zab 5))) za9))))) (zaj (by exact (zaB hnw zfs))) zaL)) (zac (by exact (zcH (zho 3 (zab 4)))) (zaj (by exact (zaK (i:=2) zaR.nd rfl (by first|exact Or.inl rfl|exact Or.inr rfl) (show 2∉zaJ [false,false] by decide) (zjL (zab 2) (zdX (zab 5)) zek))))))))))) (zaj (by exact (zaB hnw (ztU (zoS (zhV hr) (zcq (zab 0) zaq) zfj) (zmh (zt8 (ztv hr) (ze5 3) (zet (zap (zaA (zhA rfl T.b_sorted (ze5 3))) (zap (zaA (zs2 (zaA (zhA rfl T.b_sorted (ze5 3))))) za5)))))))))))))
abbrev zg3:List Str:=["tree","rows"]
abbrev zcD:List Str:=["tree","rows"]
theorem zfK:za6 zg3 zcD (zak (top 31)):=⟨rfl,rfl,rfl,by decide +kernel,rfl,by decide +kernel,by decide +kernel⟩
abbrev zco:List Str:=["tree","rows","row"]
theorem zfb:zco.Nodup:=by decide +kernel
def zgA:DS:=(zbo (dFz (zbh (dIt (zaa 1)) (zba 2) (dTB (zal (zbb 8) (dR (zaa 0) (dR (zaa 2) dR0)))) (zaa 2) 1)))
def zbu:FD:=za2 false [false,false] 0 zgA
theorem zg8(T:Tx K mg cls):Dfn false P w K mg base (CXe P w) (xvC cls) 23 (Str.ofString "_law_rows_by") [false,false] zbu:=by
  obtain ⟨f,fd,U,hm⟩:=T.u__law_rows_by
  refine ⟨f,fd,zcD,?_,hm,U.kp,U.binds (ps:=zcD) fun _ _ _ _ _ _ us hl=>match us,hl with|[_,_],_=>rfl,za8⟩
  refine zaZ (k:=22) false zaT U zfK rfl rfl fun X C hX hpp hxv hnw hr hx hpo=>?_
  obtain ⟨cG,cH,cw,cpp,cσ,cex,cxv,cnw⟩:=C
  dsimp only at hpp hxv hnw
  subst hpp hxv hnw
  have hnw:(false:Bool)=false:=rfl
  obtain ⟨cdv,A,outer,s,H,E,rfl⟩:=hX
  exact (zaj (by exact (zaB hnw (zaA (zdW (zdn (zab 1)) rfl (N':=zco) (m:=1) (by kernel_rfl) rfl (zb9 (by kernel_rfl)) (zcs (by kernel_rfl)) (zdb (by kernel_rfl)) (fun cl L s H fp G H' w σ=>⟨(zaY (i:=2) zfb rfl (by first|exact Or.inl rfl|exact Or.inr rfl) (show 2∉List.range 2 by decide)),(zhe (zcR (zbl (zdV T 8) hr (by omega) (zrN fun _ z=>z) (zao (zab 0) (zao (zab 2) za9))))),(zab 2)⟩))))))
abbrev zjD:List Str:=["found","due"]
abbrev zdi:List Str:=["found","due"]
theorem zi2:za6 zjD zdi (zak (top 32)):=⟨rfl,rfl,rfl,by decide +kernel,rfl,by decide +kernel,by decide +kernel⟩
abbrev zdl:List Str:=["found","due","one","other"]
theorem zg7:zdl.Nodup:=by decide +kernel
def zb0(F_self:FD):DS:=(zaw (dIf (dTB (zqh "tuple" "list" (zaa 1))) (zaw (dIf (zjj (dTB (dOp (gEq true) (zeQ "tuple" (zaa 0)) (zeQ "tuple" (zaa 1)))) (dTB (dOp (gEq true) (zeQ "list" (zaa 0)) (zeQ "list" (zaa 1))))) (zbo (dC (.bl false))) dNx) (zaw (dIf (dTB (dOp (gEq true) (dFn zcU (dA (zaa 0) dA0)) (dFn zcU (dA (zaa 1) dA0)))) (zbo (dC (.bl false))) dNx) (zbo (dFn zpN (dA (dFz (zbh (zkf (zaa 0) (zaa 1)) (zfq 2 3) dTT (zal F_self (dR (zaa 2) (dR (zaa 3) dR0))) 2)) dA0))))) dNx) (zbo (zsl (dOp (gEq false) (zaa 0) (zaa 1)) (dOp (gEq false) (zeQ "bool" (zaa 0)) (zeQ "bool" (zaa 1))))))
def zam:Nat->FD
 |0=>fun _=>.no
 |n+1=>za2 false [false,false] 0 (zb0 (zam n))
theorem zdZ(T:Tx K mg cls):∀ n,Dfn false P w K mg base (CXe P w) (xvC cls) (n+2) (Str.ofString "_law_same") [false,false] (zam n)
 |0=>by
  obtain ⟨f,fd,U,hm⟩:=T.u__law_same
  exact zcZ rfl U hm (U.binds (ps:=zdi) fun _ _ _ _ _ _ us hl=>match us,hl with|[_,_],_=>rfl)
 |n+1=>by
  have DS:=zdZ T n
  obtain ⟨f,fd,U,hm⟩:=T.u__law_same
  refine ⟨f,fd,zdi,?_,hm,U.kp,U.binds (ps:=zdi) fun _ _ _ _ _ _ us hl=>match us,hl with|[_,_],_=>rfl,za8⟩
  refine zeJ.mono (j:=(n+2)+1) ?_ (by omega)
  refine zaZ (k:=n+2) false zaT U zi2 rfl rfl fun X C hX hpp hxv hnw hr hx hpo=>?_
  obtain ⟨cG,cH,cw,cpp,cσ,cex,cxv,cnw⟩:=C
  dsimp only at hpp hxv hnw
  subst hpp hxv hnw
  have hnw:(false:Bool)=false:=rfl
  obtain ⟨cdv,A,outer,s,H,E,rfl⟩:=hX
  exact (zac (by exact (zct (zcR (zrz ze0 zhs rfl T.b_isinstance zdj rfl T.b_tuple zeH rfl T.b_list zhF (zab 1))) (zac (by exact (zct (JW.jt (zoA (zko (zhV hr) (zd8 ze0 rfl T.b_isinstance zdj rfl T.b_tuple zeH (zab 0)) (zd8 ze0 rfl T.b_isinstance zdj rfl T.b_tuple zeH (zab 1))) (znt (zko (zhV hr) (zd8 zhs rfl T.b_isinstance zdj rfl T.b_list zhF (zab 0)) (zd8 zhs rfl T.b_isinstance zdj rfl T.b_list zhF (zab 1)))))) (zaj (by exact (zaB hnw zfs))) zaL)) (zac (by exact (zct (zko (zhV hr) (zfZ T.b_len (zab 0)) (zfZ T.b_len (zab 1))) (zaj (by exact (zaB hnw zfs))) zaL)) (zaj (by exact (zaB hnw (zt9 rfl T.b_all (zaA (zdW (zqQ rfl T.b_zip (zab 0) (zab 1)) rfl (N':=zdl) (m:=2) (by kernel_rfl) rfl (zb9 (by kernel_rfl)) (zcs (by kernel_rfl)) (zdb (by kernel_rfl)) (fun cl L s H fp G H' w σ=>⟨(znj (i:=2) (j:=3) rfl zg7 rfl rfl (by first|exact Or.inl rfl|exact Or.inr rfl) (by first|exact Or.inl rfl|exact Or.inr rfl) (show 2∉List.range 2 by decide) (show 3∉List.range 2 by decide)),zfI,(zbl DS hr (Nat.le_refl _) (zrN fun _ z=>z) (zao (zab 2) (zao (zab 3) za9)))⟩))))))))) zaL)) (zaj (by exact (zaB hnw (zpF (zoS (zhV hr) (zab 0) (zab 1)) (zmh (zoS (zhV hr) (zd8 zhg rfl T.b_isinstance zdj rfl T.b_bool zkc (zab 0)) (zd8 zhg rfl T.b_isinstance zdj rfl T.b_bool zkc (zab 1)))))))))
abbrev zbQ:List Str:=["call","error","e","kinds"]
theorem zaH:za6 zbQ ["call"] (zak (top 33)):=⟨rfl,rfl,rfl,by decide +kernel,rfl,by decide +kernel,by decide +kernel⟩
abbrev zcm:List Str:=["call","error","e","kinds","k"]
theorem zfg:zcm.Nodup:=by decide +kernel
def za7(n:Nat)(Cc:Addr):DS:=(zaw (zaU 1 (dC .non)) (zaw (znl 0 1 2 Cc) (zaw (zaU 3 (dFz (zch (dA (zgB 1 Cc (n == 0)) (dA (zgB 1 Cc (n == 1)) (dA (zgB 1 Cc (n == 2)) dA0)))))) (zaw (zaU 3 (dFz (zfO (zaa 3) (dFz (zch (dA (zgB 1 Cc (n == 3)) (dA (zgB 1 Cc (n == 4)) (dA (zgB 1 Cc (n == 5)) dA0)))))))) (zaw (zaU 3 (dFz (zfO (zaa 3) (dFz (zch (dA (zgB 1 Cc (n == 6)) (dA (zgB 1 Cc (n == 7)) dA0))))))) (zaw (dIf (zca (dTB (zgB 1 Cc true))) dNo dNx) (zd9 (zbh (zb6 (dC (.int 8))) (zba 4) (dTB (dOp gIx (zaa 3) (zaa 4))) (zaa 4) 1))))))))
theorem zdU(T:Tx K mg cls){C:Cn}{k:Nat}{f:Addr}(XR:Cx)(CR:Cn)(n:Nat)(Fa:Addr)(hn:n<8)(hX:∃ cdv A outer s H E,XR=zjK (CXe P w) P w K mg base zbQ (Str.ofString "_law_refused") (zak (top 33)) f cdv A outer s H E)(hC:∃ G H,CR=zoU C G H (L2.start zbQ [.ref Fa]))(hr:zds (k+1) XR.A)
  (hF:∀ pins σ H s,L2.Inv XR pins σ H s->zb7 CR.H₀ H->codeAny (model XR.prog XR.w) XR.A (.call (.ref Fa) ⟨[],[]⟩) (fun r s'=>∃ e,r=.error e/\CXf XR.prog XR.w XR.stack H s (EL (cls n) H) e s') s)
  (hFn:∀ pins σ H s,L2.Inv XR pins σ H s->zb7 CR.H₀ H->W.FnAt Fa s.heap):JSs XR CR (zbZ (top 33)) (za7 n (cls n)):=by
  obtain ⟨cdv,A,outer,s,H,E,rfl⟩:=hX
  obtain ⟨G,H',rfl⟩:=hC
  obtain ⟨Cs,xs,hmS,hsub⟩:=T.xS
  have hnw:(zoU C G H' (L2.start zbQ [.ref Fa])).nw=true:=rfl
  exact (zac (by exact (zaK (i:=1) zaH.nd rfl (by first|exact Or.inl rfl|exact Or.inr rfl) (show 1∉([0]:List Nat) by decide) zp1)) (zac (by exact (zmp rfl zaH.nd rfl rfl rfl rfl rfl hF hFn xs (hsub n hn) hmS rfl rfl rfl rfl (by decide) (by decide) (by decide) rfl rfl rfl)) (zac (by exact (zaK (i:=3) zaH.nd rfl (by first|exact Or.inl rfl|exact Or.inr rfl) (show 3∉([0]:List Nat) by decide) (zaA (zb8 (zap (zfn 1 (T.xc n hn) (T.xi n 0 hn (by decide)) rfl T.b_isinstance rfl T.xm0) (zap (zfn 1 (T.xc n hn) (T.xi n 1 hn (by decide)) rfl T.b_isinstance rfl T.xm1) (zap (zfn 1 (T.xc n hn) (T.xi n 2 hn (by decide)) rfl T.b_isinstance rfl T.xm2) za5))))))) (zac (by exact (zaK (i:=3) zaH.nd rfl (by first|exact Or.inl rfl|exact Or.inr rfl) (show 3∉([0]:List Nat) by decide) (zaA (by refine ziV (zab 3) ?_;exact (zaA (zb8 (zap (zfn 1 (T.xc n hn) (T.xi n 3 hn (by decide)) rfl T.b_isinstance rfl T.xm3) (zap (zfn 1 (T.xc n hn) (T.xi n 4 hn (by decide)) rfl T.b_isinstance rfl T.xm4) (zap (zfn 1 (T.xc n hn) (T.xi n 5 hn (by decide)) rfl T.b_isinstance rfl T.xm5) za5))))))))) (zac (by exact (zaK (i:=3) zaH.nd rfl (by first|exact Or.inl rfl|exact Or.inr rfl) (show 3∉([0]:List Nat) by decide) (zaA (by refine ziV (zab 3) ?_;exact (zaA (zb8 (zap (zfn 1 (T.xc n hn) (T.xi n 6 hn (by decide)) rfl T.b_isinstance rfl T.xm6) (zap (zfn 1 (T.xc n hn) (T.xi n 7 hn (by decide)) rfl T.b_isinstance rfl T.xm7) za5)))))))) (zac (by exact (zct (ziP (zcR (zrk 1 (T.xc n hn) (T.xV n hn) rfl T.b_isinstance rfl T.b_ValueError rfl))) (zaj zou) zaL)) (zaj (by exact (zhj hnw (zdW (zcw rfl T.b_range zaq) rfl (N':=zcm) (m:=1) (by kernel_rfl) rfl (zb9 (by kernel_rfl)) (zcs (by kernel_rfl)) (zdb (by kernel_rfl)) (fun cl L s H fp G H' w σ=>⟨(zaY (i:=4) zfg rfl (by first|exact Or.inl rfl|exact Or.inr rfl) (show 4∉List.range 4 by decide)),(zhe (zcR (zcq (zab 3) (zab 4)))),(zab 4)⟩)))))))))))
theorem zdo:∀(n:Nat)(Cc:Addr),n<8->∃ ρ,za7 n Cc (some .opq::List.replicate 3 none)=.ok (.rt (.lst [.int n]),ρ):=by
 intro n Cc h
 match n,h with
 |0,_=>exact ⟨_,by simp[za7,zaw,znl,zgB,zaU,zbp,dFz,zch,dA,dA0,dC,zfO,zaa,zdt,dIf,zca,dTB,dNx,dNo,zd9,zbh,zbr,zb6,zb4,zba,dOp,gIx,ixN,zcK,R.bind];try rfl⟩
 |1,_=>exact ⟨_,by simp[za7,zaw,znl,zgB,zaU,zbp,dFz,zch,dA,dA0,dC,zfO,zaa,zdt,dIf,zca,dTB,dNx,dNo,zd9,zbh,zbr,zb6,zb4,zba,dOp,gIx,ixN,zcK,R.bind];try rfl⟩
 |2,_=>exact ⟨_,by simp[za7,zaw,znl,zgB,zaU,zbp,dFz,zch,dA,dA0,dC,zfO,zaa,zdt,dIf,zca,dTB,dNx,dNo,zd9,zbh,zbr,zb6,zb4,zba,dOp,gIx,ixN,zcK,R.bind];try rfl⟩
 |3,_=>exact ⟨_,by simp[za7,zaw,znl,zgB,zaU,zbp,dFz,zch,dA,dA0,dC,zfO,zaa,zdt,dIf,zca,dTB,dNx,dNo,zd9,zbh,zbr,zb6,zb4,zba,dOp,gIx,ixN,zcK,R.bind];try rfl⟩
 |4,_=>exact ⟨_,by simp[za7,zaw,znl,zgB,zaU,zbp,dFz,zch,dA,dA0,dC,zfO,zaa,zdt,dIf,zca,dTB,dNx,dNo,zd9,zbh,zbr,zb6,zb4,zba,dOp,gIx,ixN,zcK,R.bind];try rfl⟩
 |5,_=>exact ⟨_,by simp[za7,zaw,znl,zgB,zaU,zbp,dFz,zch,dA,dA0,dC,zfO,zaa,zdt,dIf,zca,dTB,dNx,dNo,zd9,zbh,zbr,zb6,zb4,zba,dOp,gIx,ixN,zcK,R.bind];try rfl⟩
 |6,_=>exact ⟨_,by simp[za7,zaw,znl,zgB,zaU,zbp,dFz,zch,dA,dA0,dC,zfO,zaa,zdt,dIf,zca,dTB,dNx,dNo,zd9,zbh,zbr,zb6,zb4,zba,dOp,gIx,ixN,zcK,R.bind];try rfl⟩
 |7,_=>exact ⟨_,by simp[za7,zaw,znl,zgB,zaU,zbp,dFz,zch,dA,dA0,dC,zfO,zaa,zdt,dIf,zca,dTB,dNx,dNo,zd9,zbh,zbr,zb6,zb4,zba,dOp,gIx,ixN,zcK,R.bind];try rfl⟩
abbrev zuc:List Str:=["script","k","state","n","tree","due","turn","found","bad","<tab>"]
abbrev zrS:List Str:=["script"]
theorem zeu:za6 zuc zrS (zak (top 34)):=⟨rfl,rfl,rfl,by decide +kernel,rfl,by decide +kernel,by decide +kernel⟩
def zjp:DS:=(zaw (zeI (zb6 (dFn zhd (dA (dC (.int 1)) (dA (dFn zhT (dA (dFn zcU (dA (zaa 0) dA0)) (dA (dC (.int 3)) dA0))) dA0)))) (zba 1) (zaw (zbp 2 (zcc zbT (dR (zaa 0) (dR (zaa 1) dR0)))) (zaw (zaU 3 (dOp zdv (dC (.int 1)) (zal zan (dRO 2 (dR (dC (.int 6)) dR0))))) (zaw (zaU 4 (zal (zaC 8) (dRO 2 (dR (dFz (zjV (zaa 3))) dR0)))) (zaw (zaU 5 (zal zbu (dR (zaa 4) (dR (zal zbR (dR (zaa 3) dR0)) dR0)))) (zaw (dIf (zca (dTB (zal (zam 4) (dR (zal zaN (dR (zaa 3) (dR (zaa 4) dR0))) (dR (dFn zcU (dA (zaa 5) dA0)) dR0))))) (zbo (dC (.bl false))) dNx) (zaw (zeI (zb6 (dC (.int 2))) (zba 6) (zaw (zbp 7 (zcc zbC (dR (zaa 3) (dR (zaa 4) dR0)))) (zaw (dIf (zca (dTB (zlE 7 5 (zam 4)))) (zbo (dC (.bl false))) dNx) (dEx (zda 7 (zeS dA0)))))) (zaw (zaU 8 (dOp gIx (dC (.lst [(.int 0),(.int 8),(.bl true),.non])) (zal zan (dRO 2 (dR (dC (.int 4)) dR0))))) (zaw (dIf (dTB (dOp (gEq true) (dFz (znA 9 zgG (dFz (zcc zbC (dR (zaa 8) (dR (zaa 4) dR0)))))) (dC (.lst [(.int 0)])))) (zbo (dC (.bl false))) dNx) (dIf (dTB (dOp (gEq true) (dFz (znA 9 zgG (zal zaN (dR (zaa 8) (dR (zaa 4) dR0))))) (dC (.lst [(.int 0)])))) (zbo (dC (.bl false))) dNx)))))))))) (zbo (dC (.bl true))))
theorem ztI(T:Tx K mg cls){f PT cL:Addr}{fd:FuncData}(U:Fun K "law" "law" (top 34) f fd)(hcL:fd.code=.ref cL)(hch:W.codeHdIn K cL PT=true)(hbm:base.BuiltinsAt mg PT)(hKb:K.In base):zeJ P w K mg base (CXe P w) 29 f fd zrS (spT K PT (zr7 8 zgG zjp)):=by
  obtain ⟨fR,fdR,UR,hmR⟩:=T.u__law_refused
  refine zrY (k:=28) (m:=8) (xt:="<tab>") (xv:=xvC cls) U hcL hch zeu rfl rfl (by unfold Vis;decide +kernel) hbm hKb fun X C hX hpp hσ0 hxv hnw hr hx hpo hLB=>?_
  obtain ⟨cdv,A,outer,s,H,E,rfl⟩:=hX
  obtain ⟨cG,cH,cw,cpp,cσ,cex,cxv,cnw⟩:=C
  dsimp only at hpp hσ0 hxv hnw
  subst hpp hxv hnw
  have hnw:(false:Bool)=false:=rfl
  exact (zac (by exact (zdr hpo rfl (zcw rfl T.b_range (zsd rfl T.b_max zaq (zs7 rfl T.b_min (zfZ T.b_len (zab 0)) zaq))) (zaY (i:=1) zeu.nd rfl (by first|exact Or.inl rfl|exact Or.inr rfl) (show 1∉([9]:List Nat) by decide)) (zac (by exact (zcV (i:=2) zeu.nd rfl (by first|exact Or.inl rfl|exact Or.inr rfl) (show 2∉([9]:List Nat) by decide) (zqd (ziD T) hr (by omega) hx (zao (zab 0) (zao (zab 1) za9))))) (zac (by exact (zaK (i:=3) zeu.nd rfl (by first|exact Or.inl rfl|exact Or.inr rfl) (show 3∉([9]:List Nat) by decide) (zed zaq (zbl (zbI T) hr (by omega) hx (zeG 2 (zao zaq za9)))))) (zac (by exact (zaK (i:=4) zeu.nd rfl (by first|exact Or.inl rfl|exact Or.inr rfl) (show 4∉([9]:List Nat) by decide) (zbl (zf8 T 8) hr (by omega) hx (zeG 2 (zao (zaA (zrb rfl rfl T.b_list rfl T.b_range (zab 3))) za9))))) (zac (by exact (zaK (i:=5) zeu.nd rfl (by first|exact Or.inl rfl|exact Or.inr rfl) (show 5∉([9]:List Nat) by decide) (zbl (zg8 T) hr (by omega) hx (zao (zab 4) (zao (zbl (zih T) hr (by omega) hx (zao (zab 3) za9)) za9))))) (zac (by exact (zct (ziP (zcR (zbl (zdZ T 4) hr (by omega) hx (zao (zbl (zgl T) hr (by omega) hx (zao (zab 3) (zao (zab 4) za9))) (zao (zfZ T.b_len (zab 5)) za9))))) (zaj (by exact (zaB hnw zfs))) zaL)) (zac (by exact (zdr hpo rfl (zcw rfl T.b_range zaq) (zaY (i:=6) zeu.nd rfl (by first|exact Or.inl rfl|exact Or.inr rfl) (show 6∉([9]:List Nat) by decide)) (zac (by exact (zcV (i:=7) zeu.nd rfl (by first|exact Or.inl rfl|exact Or.inr rfl) (show 7∉([9]:List Nat) by decide) (zqd (ziM T) hr (by omega) hx (zao (zab 3) (zao (zab 4) za9))))) (zac (by exact (zct (ziP (zcR (zr5 7 5 (zdZ T 4) hr (by omega) hx))) (zaj (by exact (zaB hnw zfs))) zaL)) (zaj (by exact (zcH (zho 7 (zet za5))))))))) (zac (by exact (zaK (i:=8) zeu.nd rfl (by first|exact Or.inl rfl|exact Or.inr rfl) (show 8∉([9]:List Nat) by decide) (zcq (by refine jd 40 ?_;kernel_rfl) (zbl (zbI T) hr (by omega) hx (zeG 2 (zao zaq za9)))))) (zac (by exact (zct (zko (zhV hr) (zaA (zpK (k:=23) (st:=top 33) hLB rfl (show 9∈([9]:List Nat) by decide) hσ0 cls (fun _ _=>rfl) UR zaH rfl (UR.binds (ps:=["call"]) fun _ _ _ _ _ _ us hl=>match us,hl with|[_],_=>rfl) hmR (hr.mono (by omega)) (zdU T) zdo (fun XL CL hXL hcv hr hx=>by
   obtain ⟨⟨xp,xw,xK,xmg,xb,xA,xN,xs,xH,xenv,xo,xst,xex,xfn,xc,xpn,xxe⟩,cl,Fa,cdv,s,H,E,e1,e2,e3,e4,e5,rfl⟩:=hXL
   obtain ⟨cG,cH,cw,cpp,cσ,cex,cxv,cnw⟩:=CL
   dsimp only at e1 e2 e3 e4 e5 hcv
   subst e1 e2 e3 e4 e5 hcv
   exact (zaA (zqd (ziM T) hr (by omega) hx (zao (zab 8) (zao (zab 4) za9))))) (hfr:=zcs (by kernel_rfl)) (hbind:=fun _ _ _ _=>rfl))) (by refine jd 40 ?_;kernel_rfl)) (zaj (by exact (zaB hnw zfs))) zaL)) (zaj (by exact (zct (zko (zhV hr) (zaA (zpK (k:=16) (st:=top 33) hLB rfl (show 9∈([9]:List Nat) by decide) hσ0 cls (fun _ _=>rfl) UR zaH rfl (UR.binds (ps:=["call"]) fun _ _ _ _ _ _ us hl=>match us,hl with|[_],_=>rfl) hmR (hr.mono (by omega)) (zdU T) zdo (fun XL CL hXL hcv hr hx=>by
   obtain ⟨⟨xp,xw,xK,xmg,xb,xA,xN,xs,xH,xenv,xo,xst,xex,xfn,xc,xpn,xxe⟩,cl,Fa,cdv,s,H,E,e1,e2,e3,e4,e5,rfl⟩:=hXL
   obtain ⟨cG,cH,cw,cpp,cσ,cex,cxv,cnw⟩:=CL
   dsimp only at e1 e2 e3 e4 e5 hcv
   subst e1 e2 e3 e4 e5 hcv
   exact (zbl (zgl T) hr (by omega) hx (zao (zab 8) (zao (zab 4) za9)))) (hfr:=zcs (by kernel_rfl)) (hbind:=fun _ _ _ _=>rfl))) (by refine jd 40 ?_;kernel_rfl)) (zaj (by exact (zaB hnw zfs))) zaL))))))))))))) (zaj (by exact (zaB hnw zfs))))
end
theorem zjN{x y:Dt}{bs:List B}:∀{ρ:Ev}{k:Nat},zg1 [.d x,.d y] bs k ρ = ρ
 |[],_=>rfl
 |o::r,k=>by
  show (match zdR [.d x,.d y] k with|some j=>bs[j]?|none=>o)::zg1 [.d x,.d y] bs (k+1) r=_
  rw[zjN (ρ:=r)];rfl
theorem zdP{F:FD}{fa:De}{ρ ρ':Ev}{d y:Dt}{l:List B}(h:fa ρ=.ok (d,ρ'))(hF:F [.val d]=.ok (y,l)):zal F (dR fa dR0) ρ=.ok (y,ρ'):=by
 unfold zal dR dR0
 rw[h]
 simp only[R.bind_ok,zjy,zaQ,if_true,zax,hF]
 rw[zpz]
theorem ziB{F:FD}{fa fb:De}{ρ ρ' ρ'':Ev}{d e y:Dt}{l:List B}(h:fa ρ=.ok (d,ρ'))(h2:fb ρ'=.ok (e,ρ''))(hF:F [.val d,.val e]=.ok (y,l)):zal F (dR fa (dR fb dR0)) ρ=.ok (y,ρ''):=by
 unfold zal dR dR0
 rw[h]
 simp only[R.bind_ok,h2,zjy,zaQ,if_true,zax,hF]
 rw[zjN]
theorem zj1{i k:Nat}{d:Dt}:zdR [.s i,.d d] k=if i=k then some 0 else none:=by
 unfold zdR zd7
 split <;> rfl
theorem zpL{i:Nat}{d:Dt}{b:B}{bs:List B}:∀{ρ:Ev}{k:Nat},k<=i->zg1 [.s i,.d d] (b::bs) k ρ = ρ.set (i-k) (some b)
 |[],k,_=>by simp[zg1]
 |o::r,k,h=>by
  unfold zg1
  rw[zj1]
  by_cases e:i=k
  ·subst e
   simp only[if_true,Nat.sub_self,List.set_cons_zero]
   have:∀(r:Ev)(m:Nat),i<m->zg1 [.s i,.d d] (b::bs) m r=r:=by
    intro r
    induction r with
    |nil=>intro m _;rfl
    |cons o r ih =>
     intro m hm
     unfold zg1
     rw[zj1,if_neg (by omega),ih (m+1) (by omega)]
   rw[this r (i+1) (by omega)];rfl
  ·rw[if_neg e,zpL (k:=k+1) (by omega)]
   have:i-k=(i-(k+1))+1:=by omega
   rw[this,List.set_cons_succ]
theorem zhN{F:FD}{fb:De}{i:Nat}{ρ:Ev}{d y:Dt}{st st':List Dt}{l:List B}(hi:ρ[i]? = some (some (.own st)))(h:fb ρ=.ok (d,ρ))(hF:F [.own st,.val d]=.ok (y,.own st'::l)):zal F (dRO i (dR fb dR0)) ρ=.ok (y,ρ.set i (some (.own st'))):=by
 have u:zjy [.s i,.d d]=true:=by
  unfold zjy zaQ
  rw[zj1]
  simp[zaQ]
 unfold zal dRO dR dR0
 simp only[hi,h,R.bind_ok,u,if_true,zax,zmt,hF]
 rw[zpL (Nat.zero_le _)]
 rfl
theorem zav{nw:Bool}{ks:List Bool}{m:Nat}{body:DS}{bs:List B}{d:Dt}{ρ':Ev}{l:List B}(hk:zbE bs=ks)(hb:body (bs.map some++List.replicate m none)=.ok (.rt d,ρ'))(hl:za4 ks ρ'=.ok l):za2 nw ks m body bs=.ok (d,l):=by
 unfold za2
 rw[if_pos hk,hb]
 simp only[R.bind_ok,hl]
def St(st:List Dt):Prop:=∃ s b,st=[.int s,.bl b]
theorem zcL{st:List Dt}{m:Int}(h:St st)(h0:0<m)(h1:m<1073741824):∃(v:Int)(st':List Dt),zan [.own st,.val (.int m)]=.ok (.int v,[.own st',.val .non])/\St st'/\0<=v/\v<m:=by
 obtain ⟨s,b,rfl⟩:=h
 cases b with
 |true =>
  refine ⟨s % m,[.int (s / m),.bl true],?_,⟨_,_,rfl⟩,Int.emod_nonneg _ (by omega),Int.emod_lt_of_pos _ h0⟩
  unfold zan za2 zei
  simp[zbE,zmt,zaw,dIf,dTB,zmx,dC,atI,ixN,zaU,dOp,zlK,zaa,znv,zoV,zbo,za4,h0,h1]
 |false =>
  have e1:∃ a,(s * 48271+29) % 2147483647=a/\0<=a/\a<2147483647:=⟨_,rfl,Int.emod_nonneg _ (by decide),Int.emod_lt_of_pos _ (by decide)⟩
  obtain ⟨a,ea,a0,a1⟩:=e1
  have e2:∃ c,(a * a+39373 * a+7) % 2147483629=c/\0<=c/\c<2147483629:=⟨_,rfl,Int.emod_nonneg _ (by decide),Int.emod_lt_of_pos _ (by decide)⟩
  obtain ⟨c,ec,c0,c1⟩:=e2
  have sa:zbs a=true:=by unfold zbs;simp;omega
  have sc:zbs c=true:=by unfold zbs;simp;omega
  have s1:zbs 48271=true:=by decide
  have s2:zbs 39373=true:=by decide
  have s3:zbs 16807=true:=by decide
  refine ⟨(c * c+16807 * c) % 2147483587 / 8 % m,[.int a,.bl false],?_,⟨_,_,rfl⟩,Int.emod_nonneg _ (by omega),Int.emod_lt_of_pos _ h0⟩
  unfold zan za2 zei
  simp[zbE,zmt,zaw,dIf,dTB,zmx,dC,atI,ixN,zaU,dOp,zlK,zhc,zdv,zaa,znv,zoV,zbo,dNx,za4,h0,h1,ea,ec,sa,sc,s1,s2,s3]
theorem zhm:∀(n:Nat)(d:Dt),okN n d=true->okN (n+1) d=true
 |_,.non,_=>by simp[okN]
 |_,.bl _,_=>by simp[okN]
 |_,.int _,_=>by simp[okN]
 |n,.str x,h=>by cases n <;> simpa [okN] using h
 |0,.tup l,h=>by simp[okN] at h
 |0,.lst l,h=>by simp[okN] at h
 |n+1,.tup l,h=>by
  simp only[okN,List.all_eq_true] at h ⊢
  exact fun d hd=>zhm n d (h d hd)
 |n+1,.lst l,h=>by
  simp only[okN,List.all_eq_true] at h ⊢
  exact fun d hd=>zhm n d (h d hd)
 |n,.dct _,h=>by cases n <;> simp[okN] at h
 |n,.scr _,h=>by cases n <;> simp[okN] at h
theorem zjR{n:Nat}{v:Int}(h0:0<=v)(h1:v<n):ixN n v=some v.toNat:=by
 unfold ixN
 rw[if_pos h0,if_pos h1]
theorem zdH{α:Type}:∀{l:List α}{j:Nat}{d:α},l[j]? = some d->(d::l.eraseIdx j).Perm l
 |[],_,_,h=>by simp at h
 |a::l,0,d,h=>by simp at h;subst h;exact .refl _
 |a::l,j+1,d,h=>by
  have:=zdH (l:=l) (j:=j) (d:=d) (by simpa using h)
  exact (List.Perm.swap a d _).trans (this.cons a)
theorem zb5{neg:Bool}{x y:Dt}(h1:okN 60 x=true)(h2:okN 60 y=true):gEq neg x y=.ok (.bl (if neg then !eqD x y else eqD x y)):=by
 unfold gEq
 rw[h1,h2];rfl
theorem ziI{d:Dt}{l:List Dt}:eqD (.lst (d::l)) (.lst [])=false:=by rw[eqD];simp[zi3]
theorem zjZ:eqD (.lst []) (.lst [])=true:=by rw[eqD,zi3]
theorem zsj{st found l:List Dt}{o:Option B}{b:Bool}(h:okN 60 (.lst l)=true)(e:(!eqD (.lst l) (.lst []))=b):dTB (zrA true 2 (dFz (zch dA0))) [some (.own st),o,some (.own l),some (.own found)]=.ok (b,[some (.own st),o,some (.own l),some (.own found)]):=by
 show (((gEq true (.lst l) (.lst [])).bind fun z=>.ok (z,[some (.own st),o,some (.own l),some (.own found)])).bind fun (a:Dt×Ev)=>match a.1 with|.bl b=>.ok (b,a.2)|_=>.no)=_
 rw[zb5 h rfl]
 simp only[if_true,e]
 rfl
theorem zgT{things:Option B}:∀(n:Nat)(left found:List Dt)(st:List Dt),left.length<n->left.length+found.length<=1000->(∀ d∈left,okN 59 d=true)->St st->∃ st' p,St st'/\p.Perm left /\
  zbg (dTB (zrA true 2 (dFz (zch dA0)))) (dEx (zda 3 (zgV 2 (zal zan (dRO 0 (dR (zl2 2) dR0)))))) n [some (.own st),things,some (.own left),some (.own found)]=.ok (.nx,[some (.own st'),things,some (.own []),some (.own (found++p))])
 |0,left,found,st,h,_,_,_=>absurd h (Nat.not_lt_zero _)
 |n+1,[],found,st,h,hl,hk,hs=>by
  refine ⟨st,[],hs,.refl _,?_⟩
  unfold zbg
  rw[zsj (b:=false) rfl (by rw[zjZ];rfl)]
  simp
 |n+1,d::left,found,st,h,hl,hk,hs=>by
  obtain ⟨v,st1,e,hs1,v0,v1⟩:=zcL (m:=((d::left).length:Nat)) hs (by simp only[List.length_cons];omega) (by simp only[List.length_cons] at hl ⊢;omega)
  have hv:v.toNat<(d::left).length:=by omega
  have hget:(d::left)[v.toNat]? = some (d::left)[v.toNat]:=by simp[hv]
  have hel:=zdH hget
  have hlen:((d::left).eraseIdx v.toNat).length=left.length:=by
   have:=hel.length_eq
   simp only[List.length_cons] at this
   omega
  obtain ⟨st',p,hs',hp,hw⟩:=zgT (things:=things) n ((d::left).eraseIdx v.toNat) (found++[(d::left)[v.toNat]]) st1 (by simp only[List.length_cons] at h;omega) (by simp only[List.length_append,List.length_cons,List.length_nil] at hl ⊢;omega)
   (fun x hx=>hk x (hel.mem_iff.mp (List.mem_cons_of_mem _ hx))) hs1
  refine ⟨st',(d::left)[v.toNat]::p,hs',((hp.cons _).trans hel),?_⟩
  have hall:((d::left).all (okN 59))=true:=List.all_eq_true.mpr hk
  have ec:zal zan (dRO 0 (dR (zl2 2) dR0)) [some (.own st),things,some (.own (d::left)),some (.own found)]=.ok (.int v,[some (.own st1),things,some (.own (d::left)),some (.own found)]):=zhN (ρ:=[some (.own st),things,some (.own (d::left)),some (.own found)]) rfl rfl e
  have hm:zgf v=true:=by unfold zgf;simp;simp only[List.length_cons] at hl v1;omega
  unfold zbg
  have t1:=zsj (st:=st) (found:=found) (l:=d::left) (o:=things) (b:=true) (show okN 60 (.lst (d::left))=true from hall) (by rw[ziI];rfl)
  rw[t1]
  simp only[R.bind_ok,if_true]
  have t2:dEx (zda 3 (zgV 2 (zal zan (dRO 0 (dR (zl2 2) dR0))))) [some (.own st),things,some (.own (d::left)),some (.own found)]=.ok (.nx,[some (.own st1),things,some (.own ((d::left).eraseIdx v.toNat)),some (.own (found++[(d::left)[v.toNat]]))]):=by
   have hpop:zo4 (d::left) v=some ((d::left)[v.toNat],(d::left).eraseIdx v.toNat):=by
    unfold zo4
    rw[if_pos hm,zjR v0 v1]
    simp only[hget]
   unfold dEx zda zgV
   simp only[List.getElem?_cons_succ,List.getElem?_cons_zero,ec,R.bind_ok,hpop,List.set_cons_succ,List.set_cons_zero]
   rw[if_pos (by omega)]
   rfl
  rw[t2]
  simp only[R.bind_ok]
  rw[hw]
  simp
theorem zlj{l:List Dt}{st:List Dt}(hs:St st)(hl:l.length<10)(hk:∀ d∈l,okN 59 d=true):∃ st' p,St st'/\p.Perm l/\zby [.own st,.val (.lst l)]=.ok (.lst p,[.own st',.val .non]):=by
 obtain ⟨st',p,hs',hp,hw⟩:=zgT (things:=some (.val (.lst l))) 10 l [] st hl (by simp;omega) hk hs
 refine ⟨st',p,hs',hp,?_⟩
 have hd:zbY [some (.own st),some (.val (.lst l)),none,none]=.ok (.rt (.lst p),[some (.own st'),some (.val (.lst l)),some (.own []),some (.val (.lst p))]):=by
  unfold zbY
  have e1:zbp 2 (zdD zjS (dA (zaa 1) dA0)) [some (.own st),some (.val (.lst l)),none,none]=.ok (.nx,[some (.own st),some (.val (.lst l)),some (.own l),none]):=rfl
  have e2:zbp 3 (zch dA0) [some (.own st),some (.val (.lst l)),some (.own l),none]=.ok (.nx,[some (.own st),some (.val (.lst l)),some (.own l),some (.own [])]):=rfl
  unfold zaw
  rw[e1]
  simp only[R.bind_ok]
  rw[e2]
  simp only[R.bind_ok]
  rw[hw]
  rfl
 exact zav rfl hd rfl
theorem za0{g:Dt->Dt->R Dt}{fa fb:De}{ρ ρ1 ρ2:Ev}{d e z:Dt}(h1:fa ρ=.ok (d,ρ1))(h2:fb ρ1=.ok (e,ρ2))(h3:g d e=.ok z):dOp g fa fb ρ=.ok (z,ρ2):=by
 unfold dOp
 rw[h1]
 simp only[R.bind_ok,h2,h3]
theorem zaE{f:De}{ρ ρ1:Ev}{b:Bool}(h:f ρ=.ok (.bl b,ρ1)):dTB f ρ=.ok (b,ρ1):=by
 unfold dTB
 rw[h];rfl
theorem zfr{c:DT}{f g:DS}{ρ ρ1:Ev}(h:c ρ=.ok (true,ρ1)):dIf c f g ρ=f ρ1:=by
 unfold dIf
 rw[h];rfl
theorem zc0{c:DT}{f g:DS}{ρ ρ1:Ev}(h:c ρ=.ok (false,ρ1)):dIf c f g ρ=g ρ1:=by
 unfold dIf
 rw[h];rfl
theorem zag{f g:DS}{ρ ρ1:Ev}(h:f ρ=.ok (.nx,ρ1)):zaw f g ρ=g ρ1:=by
 unfold zaw
 rw[h];rfl
theorem zcu{f g:DS}{ρ ρ1:Ev}{d:Dt}(h:f ρ=.ok (.rt d,ρ1)):zaw f g ρ=.ok (.rt d,ρ1):=by
 unfold zaw
 rw[h];rfl
theorem zd3{f:De}{ρ ρ1:Ev}{d:Dt}(h:f ρ=.ok (d,ρ1)):zbo f ρ=.ok (.rt d,ρ1):=by
 unfold zbo
 rw[h];rfl
theorem zbj{f:De}{i:Nat}{ρ ρ1:Ev}{d:Dt}(h:f ρ=.ok (d,ρ1))(hi:i < ρ1.length):zaU i f ρ=.ok (.nx,ρ1.set i (some (.val d))):=by
 unfold zaU
 rw[h]
 simp only[R.bind_ok,hi,if_true]
theorem zkR{f:DN}{i:Nat}{ρ ρ1:Ev}{d:List Dt}(h:f ρ=.ok (d,ρ1))(hi:i < ρ1.length):zbp i f ρ=.ok (.nx,ρ1.set i (some (.own d))):=by
 unfold zbp
 rw[h]
 simp only[R.bind_ok,hi,if_true]
theorem zb3{f:DN}{ρ ρ1:Ev}{d:List Dt}(h:f ρ=.ok (d,ρ1)):dFz f ρ=.ok (.lst d,ρ1):=by
 unfold dFz
 rw[h];rfl
theorem zes{f:De}{ρ ρ1:Ev}{d:Dt}(h:f ρ=.ok (d,ρ1)):dEx f ρ=.ok (.nx,ρ1):=by
 unfold dEx
 rw[h];rfl
theorem zgW{g:List Dt->R Dt}{f:De}{ρ ρ1:Ev}{d z:Dt}(h:f ρ=.ok (d,ρ1))(hg:g [d]=.ok z):dFn g (dA f dA0) ρ=.ok (z,ρ1):=by
 unfold dFn dA dA0
 rw[h]
 simp only[R.bind_ok,hg]
theorem zn5{f g:DT}{ρ ρ1:Ev}(h:f ρ=.ok (false,ρ1)):zjj f g ρ=g ρ1:=by
 unfold zjj
 rw[h];rfl
theorem zme{f g:DT}{ρ ρ1:Ev}(h:f ρ=.ok (true,ρ1)):zj4 f g ρ=g ρ1:=by
 unfold zj4
 rw[h];rfl
theorem zqS{f g:DT}{ρ ρ1:Ev}(h:f ρ=.ok (false,ρ1)):zj4 f g ρ=.ok (false,ρ1):=by
 unfold zj4
 rw[h];rfl
theorem zf4{f:DT}{ρ ρ1:Ev}{b:Bool}(h:f ρ=.ok (b,ρ1)):zca f ρ=.ok (!b,ρ1):=by
 unfold zca
 rw[h];rfl
theorem zlY{ρ0:Ev}{o:Option B}{d:Dt}:zba ρ0.length d (ρ0++[o])=.ok (ρ0++[some (.val d)]):=by
 unfold zba
 rw[if_pos (by simp)]
 simp
theorem ziZ{α:Type}{u f:α->Dt}{fe:De}{ρ0:Ev}:∀{l:List α}{o:Option B},(∀ a∈l,fe (ρ0++[some (.val (u a))])=.ok (f a,ρ0++[some (.val (u a))]))->∃ o',zbr (zba ρ0.length) dTT fe (l.map u) (ρ0++[o])=.ok (l.map f,ρ0++[o'])
 |[],o,_=>⟨o,rfl⟩
 |a::l,o,h=>by
  obtain ⟨o',e⟩:=ziZ (l:=l) (o:=some (.val (u a))) fun b hb=>h b (by simp[hb])
  refine ⟨o',?_⟩
  rw[List.map_cons,zbr,zlY]
  simp only[R.bind_ok,dTT,if_true]
  rw[h a (by simp)]
  simp only[R.bind_ok]
  rw[e]
  rfl
theorem zgY{α:Type}{u f:α->Dt}{fe:De}{ρ0:Ev}{fi:DA}{l:List α}{ds:List Dt}(hi:fi ρ0=.ok (ds,ρ0))(hd:ds=l.map u)(hl:l.length<=1000)(h:∀ a∈l,fe (ρ0++[some (.val (u a))])=.ok (f a,ρ0++[some (.val (u a))])){j:Nat}(hj:j = ρ0.length) :
  zbh fi (zba j) dTT fe 1 ρ0=.ok (l.map f,ρ0):=by
 subst hd;subst hj
 obtain ⟨o',e⟩:=ziZ (o:=none) h
 unfold zbh
 rw[hi]
 simp only[R.bind_ok]
 rw[if_pos (by unfold zcK;simp;omega)]
 show (match zbr (zba ρ0.length) dTT fe (l.map u) (ρ0++[none]) with|.ok z=>R.ok (z.1,z.2.take ρ0.length)|_=>.no)=_
 rw[e]
 simp
theorem zks{α:Type}{a:α}{l:List α}:atI (a::l) 0=some a:=by
 unfold atI ixN
 simp
theorem eqI{a b:Int}:eqD (.int a) (.int b)=(a == b):=by rw[eqD]
theorem zol{x:Option B}{zbm:Ev}{o:Option B}{d:Dt}:zba (zbm.length+1) d (x::(zbm++[o]))=.ok (x::(zbm++[some (.val d)])):=by
 unfold zba
 rw[if_pos (by simp)]
 simp
theorem zlN{α β:Type}{Rl:α->β->Prop}{u:α->Dt}{v:β->Dt}{fe:De}{zbm:Ev}:∀{l:List α}{st:List Dt}{o:Option B},
  (∀ a∈l,∀ st,St st->∃ y st',St st'/\Rl a y/\fe (some (.own st)::(zbm++[some (.val (u a))]))=.ok (v y,some (.own st')::(zbm++[some (.val (u a))])))->St st ->
  ∃ ys st' o',St st'/\Paired Rl l ys/\zbr (zba (zbm.length+1)) dTT fe (l.map u) (some (.own st)::(zbm++[o]))=.ok (ys.map v,some (.own st')::(zbm++[o']))
 |[],st,o,_,hs=>⟨[],st,o,hs,.nil,rfl⟩
 |a::l,st,o,h,hs=>by
  obtain ⟨y,st1,hs1,hr,e1⟩:=h a (by simp) st hs
  obtain ⟨ys,st',o',hs',hp,e⟩:=zlN (l:=l) (st:=st1) (o:=some (.val (u a))) (fun b hb=>h b (List.mem_cons_of_mem _ hb)) hs1
  refine ⟨y::ys,st',o',hs',.cons hr hp,?_⟩
  rw[List.map_cons,zbr,zol]
  simp only[R.bind_ok,dTT,if_true]
  rw[e1]
  simp only[R.bind_ok]
  rw[e]
  rfl
theorem zoG{α β:Type}{Rl:α->β->Prop}{u:α->Dt}{v:β->Dt}{fe:De}{zbm:Ev}{fi:DA}{ρ:Ev}{l:List α}{ds:List Dt}{st:List Dt}{j:Nat}(hi:fi ρ=.ok (ds,some (.own st)::zbm))(hd:ds=l.map u)(hl:l.length<=1000)(hj:j=zbm.length+1)
  (h:∀ a∈l,∀ st,St st->∃ y st',St st'/\Rl a y/\fe (some (.own st)::(zbm++[some (.val (u a))]))=.ok (v y,some (.own st')::(zbm++[some (.val (u a))]))) (hs:St st) :
  ∃ ys st',St st'/\Paired Rl l ys/\zbh fi (zba j) dTT fe 1 ρ=.ok (ys.map v,some (.own st')::zbm):=by
 subst hd;subst hj
 obtain ⟨ys,st',o',hs',hp,e⟩:=zlN (o:=none) h hs
 refine ⟨ys,st',hs',hp,?_⟩
 unfold zbh
 rw[hi]
 simp only[R.bind_ok]
 rw[if_pos (by unfold zcK;simp only[List.length_map,decide_eq_true_eq];omega)]
 show (match zbr (zba (zbm.length+1)) dTT fe (l.map u) (some (.own st)::(zbm++[none])) with|.ok z=>R.ok (z.1,z.2.take (zbm.length+1))|_=>.no)=_
 rw[e]
 simp
theorem zim{p:List Dt}{l:List Int}(h:p.Perm (l.map .int)):∃ q:List Int,q.Perm l/\p=q.map .int:=by
 refine ⟨p.map fun d=>match d with|.int i=>i|_=>0,?_,?_⟩
 ·have:=h.map fun d=>match d with|.int i=>i|_=>0
  rw[List.map_map] at this
  have e:((fun d=>match d with|.int i=>i|_=>0) ∘ Dt.int)=(id:Int->Int):=rfl
  rw[e,List.map_id] at this
  exact this
 ·rw[List.map_map]
  conv=>lhs;rw[<- List.map_id p]
  refine List.map_congr_left fun d hd=>?_
  obtain ⟨i,_,rfl⟩:=List.mem_map.mp (h.mem_iff.mp hd)
  rfl
def isW:Dt->Bool
 |.int _=>true
 |_=>false
theorem zgI(d:Dt):zci [.val d]=.ok (.bl (isW d),[.val .non]):=by
 cases d <;> simp[zci,za2,zgK,zbE,zmt,zbo,zsl,zeQ,zaa,ztu,zjk,tyD,za4,isW]
theorem zku{n:Int}(h1:1<=n)(h7:n<=7):zas [.val (.int n)]=.ok (.non,[.val .non]):=by
 have e:zal zci (dR (zaa 0) dR0) [some (.val (.int n))]=.ok (.bl true,[some (.val (.int n))]):=zdP (ρ':=[some (.val (.int n))]) rfl (zgI _)
 have a1:decide (n<1)=false:=by simp;omega
 have a2:decide (7<n)=false:=by simp;omega
 simp[zas,za2,zbw,zbE,zmt,dIf,zjj,zca,dTB,e,dOp,zaa,dC,zlL,a1,a2,dNx,za4]
theorem zi6{d:Dt}(h:isW d=false\/∃ n,d=.int n/\(n<1\/7<n)):zas [.val d]=.er 0:=by
 have e:zal zci (dR (zaa 0) dR0) [some (.val d)]=.ok (.bl (isW d),[some (.val d)]):=zdP (ρ':=[some (.val d)]) rfl (zgI _)
 rcases h with h|⟨n,rfl,h⟩
 ·simp[zas,za2,zbw,zbE,zmt,dIf,zjj,zca,dTB,e,h,zik,dA,dC,dA0,zcK]
 ·have hw:isW (.int n)=true:=rfl
  by_cases h1:n<1
  ·simp[zas,za2,zbw,zbE,zmt,dIf,zjj,zca,dTB,e,hw,dOp,zaa,dC,zlL,h1,zik,dA,dA0,zcK]
  ·have h7:7<n:=by omega
   simp[zas,za2,zbw,zbE,zmt,dIf,zjj,zca,dTB,e,hw,dOp,zaa,dC,zlL,h1,h7,zik,dA,dA0,zcK]
theorem gEqI{neg:Bool}{i j:Int}:gEq neg (.int i) (.int j)=.ok (.bl (if neg then !(i == j) else (i == j))):=by
 rw[zb5 rfl rfl,eqI]
theorem zoQ{ρ0:Ev}{o:Option B}{d:Dt}:zba ρ0.length d (ρ0++[o])=.ok (ρ0++[some (.val d)]):=by
 unfold zba
 rw[if_pos (by simp)]
 simp
theorem zhU:∀ a b:List Int,zi3 (a.map .int) (b.map .int)=(a == b)
 |[],[]=>by rw[List.map_nil,zi3];rfl
 |[],b::r=>by rw[List.map_nil,List.map_cons,zi3];rfl;all_goals (intros;simp at *)
 |a::r,[]=>by rw[List.map_nil,List.map_cons,zi3];rfl;all_goals (intros;simp at *)
 |a::r,b::q=>by rw[List.map_cons,List.map_cons,zi3,eqI,zhU r q];rfl
theorem zpc(l:List Int)(n:Nat):okN (n+1) (.lst (l.map .int))=true:=by
 simp[okN]
def zaD(n:Nat):List Int:=(List.range n).map fun (k:Nat)=>(k:Int)
theorem zkD(n:Nat):zb4 0 n=(zaD n).map .int:=by
 unfold zb4 zaD
 rw[List.map_map]
 refine List.map_congr_left fun k _=>?_
 simp
theorem zh3(i:Int):∀ l:List Int,inD (.int i) (l.map .int)=decide (i∈l)
 |[]=>by simp[inD]
 |a::r=>by
  have:=zh3 i r
  unfold inD at this ⊢
  rw[List.map_cons,List.any_cons,this,eqI]
  by_cases h:a=i
  ·subst h;simp
  ·have h':¬ i=a:=fun z=>h z.symm
   by_cases h2:i∈r <;> simp[h,h',h2]
theorem zeW:∀(a b:List Int),a.Nodup->(∀ x∈a,x∈b)->b.length<=a.length->a.Perm b
 |[],b,_,_,h=>by
  have:b=[]:=List.length_eq_zero_iff.mp (by simpa using h)
  subst this;exact .refl _
 |x::a,b,hn,hs,hl=>by
  rw[List.nodup_cons] at hn
  have hx:x∈b:=hs x (by simp)
  have hp:=List.perm_cons_erase hx
  have hlen:=hp.length_eq
  simp only[List.length_cons] at hlen hl
  have:=zeW a (b.erase x) hn.2 (fun y hy=>(List.mem_erase_of_ne (fun (e:y=x)=>hn.1 (e ▸ hy))).mpr (hs y (by simp[hy]))) (by omega)
  exact (this.cons x).trans hp.symm
theorem zgQ{n:Nat}{x:Int}:x∈zaD n ↔ 0<=x/\x<n:=by
 unfold zaD
 rw[List.mem_map]
 constructor
 ·rintro ⟨k,hk,rfl⟩
  have:=List.mem_range.mp hk
  omega
 ·rintro ⟨h0,h1⟩
  exact ⟨x.toNat,List.mem_range.mpr (by omega),by omega⟩
theorem zbJ(n:Nat):(zaD n).length=n:=by unfold zaD;simp
theorem zlI(n:Nat):(zaD n).Pairwise (· <= ·):=by
 unfold zaD
 rw[List.pairwise_map]
 refine List.Pairwise.imp (R:=fun a b=>a<b) (fun {a b} h=>by omega) List.pairwise_lt_range
theorem zc7(n:Nat):(zaD n).Nodup:=by
 unfold zaD
 unfold List.Nodup
 rw[List.pairwise_map]
 refine List.Pairwise.imp (R:=fun a b=>a<b) (fun {a b} h=>by omega) List.pairwise_lt_range
theorem zlu{n:Nat}{l:List Int}:zaW l=zaD n ↔ l.Nodup/\(∀ x∈l,0<=x/\x<n)/\l.length=n:=by
 constructor
 ·intro h
  have hp:l.Perm (zaD n):=by rw[<- h];exact (zaV l).symm
  exact ⟨hp.nodup_iff.mpr (zc7 n),fun x hx=>zgQ.mp (hp.mem_iff.mp hx),by rw[hp.length_eq,zbJ]⟩
 ·rintro ⟨h1,h2,h3⟩
  have hp:l.Perm (zaD n):=zeW _ _ h1 (fun x hx=>zgQ.mpr (h2 x hx)) (by rw[zbJ];omega)
  exact W.lks_uniq ((zaV l).trans hp) (zcJ l) (zlI n)
theorem zmq{α:Type}{l:List α}{j:Nat}(h:j<l.length):zgw l none (some (j:Int))=l.take j:=by
 unfold zgw
 rw[HT.sIx_nat,HT.sIx_none,List.drop_zero,Nat.min_eq_left (by omega),Nat.sub_zero]
theorem zky{α:Type}{l:List α}{j:Nat}(h:j<l.length):zgw l (some ((j:Int)+1)) none=l.drop (j+1):=by
 unfold zgw
 rw[show (j:Int)+1=((j+1:Nat):Int) from rfl,HT.sIx_nat,HT.sIx_none,Nat.min_eq_left (by omega),List.take_of_length_le (by simp)]
theorem zhz{α:Type}{l:List α}{v:Int}(h0:0<=v)(h1:v<l.length):atI l v=l[v.toNat]? := by
 unfold atI
 rw[zjR h0 h1];rfl
theorem zqb{l:List Dt}{v:Int}{d:Dt}(h0:0<=v)(h1:v<l.length)(hd:l[v.toNat]? = some d):gIx (.tup l) (.int v)=.ok d:=by
 unfold gIx
 simp only[zhz h0 h1,hd]
theorem znu{l:List Dt}{v:Int}{d:Dt}(h0:0<=v)(h1:v<l.length)(hd:l[v.toNat]? = some d):gIx (.lst l) (.int v)=.ok d:=by
 unfold gIx
 simp only[zhz h0 h1,hd]
theorem zqA{fa:De}{fr:DA}{ρ ρ1 ρ2:Ev}{d:Dt}{ds:List Dt}(h1:fa ρ=.ok (d,ρ1))(h2:fr ρ1=.ok (ds,ρ2)):dA fa fr ρ=.ok (d::ds,ρ2):=by
 unfold dA
 rw[h1];simp only[R.bind_ok]
 rw[h2];rfl
theorem zq9{f:DA}{ρ ρ1:Ev}{ds:List Dt}(h:f ρ=.ok (ds,ρ1))(hl:ds.length<=16777216):zch f ρ=.ok (ds,ρ1):=by
 unfold zch
 rw[h];simp only[R.bind_ok]
 rw[if_pos (by unfold zcK;simpa using hl)]
theorem zqZ{f:DA}{ρ ρ1:Ev}{ds:List Dt}(h:f ρ=.ok (ds,ρ1))(hl:ds.length<=16777216):zeS f ρ=.ok (.tup ds,ρ1):=by
 unfold zeS
 rw[h];simp only[R.bind_ok]
 rw[if_pos (by unfold zcK;simpa using hl)]
theorem zmM{ns:List Int}{k:Nat}:∃ c:Int,zbP [.val (.scr ns),.val (.int k)]=.ok (.int c,[.val .non,.val .non]):=by
 have e0:dTB (dOp gLt (zaa 1) (dFn zcU (dA (zaa 0) dA0))) [some (.val (.scr ns)),some (.val (.int k))]=.ok (decide ((k:Int)<ns.length),[some (.val (.scr ns)),some (.val (.int k))]):=zaE (za0 (d:=.int k) (e:=.int ns.length) rfl rfl rfl)
 by_cases h:k<ns.length
 ·refine ⟨ns[k],zav (ρ':=[some (.val (.scr ns)),some (.val (.int k))]) rfl ?_ rfl⟩
  show zbt [some (.val (.scr ns)),some (.val (.int k))]=_
  unfold zbt
  refine zcu ?_
  rw[zfr (by rw[e0,decide_eq_true (by omega)])]
  refine zd3 (za0 (d:=.scr ns) (e:=.int k) rfl rfl ?_)
  unfold gIx
  simp only[zhz (l:=ns) (v:=(k:Int)) (by omega) (by omega),Int.toNat_natCast,List.getElem?_eq_getElem h]
 ·refine ⟨0,zav (ρ':=[some (.val (.scr ns)),some (.val (.int k))]) rfl ?_ rfl⟩
  show zbt [some (.val (.scr ns)),some (.val (.int k))]=_
  unfold zbt
  rw[zag (ρ1:=[some (.val (.scr ns)),some (.val (.int k))]) (by rw[zc0 (by rw[e0,decide_eq_false (by omega)])];rfl)]
  rfl
theorem zlv{ns:List Int}{k:Nat}:∃ st,St st/\zbT [.val (.scr ns),.val (.int k)]=.ok (.lst st,[.val .non,.val .non]):=by
 obtain ⟨c,hc⟩:=zmM (ns:=ns) (k:=k)
 have e1:zaU 2 (zal zbP (dR (zaa 0) (dR (zaa 1) dR0))) [some (.val (.scr ns)),some (.val (.int k)),none]=.ok (.nx,[some (.val (.scr ns)),some (.val (.int k)),some (.val (.int c))]):=zbj (ziB (ρ':=[some (.val (.scr ns)),some (.val (.int k)),none]) (ρ'':=[some (.val (.scr ns)),some (.val (.int k)),none]) rfl rfl hc) (by simp)
 have ep:dOp zo9 (dC (.int 10)) (dC (.int 18)) [some (.val (.scr ns)),some (.val (.int k)),some (.val (.int c))]=.ok (.int 1000000000000000000,[some (.val (.scr ns)),some (.val (.int k)),some (.val (.int c))]):=by
  refine za0 rfl rfl ?_
  show (if 0<=(18:Int)/\(18:Int)<=1000/\(10:Int).natAbs<18446744073709551616 then R.ok (Dt.int ((10:Int) ^ (18:Int).toNat)) else R.no)=_
  rw[if_pos (by decide)]
  rfl
 have e2:dTB (dOp gGe (zaa 2) (dOp zo9 (dC (.int 10)) (dC (.int 18)))) [some (.val (.scr ns)),some (.val (.int k)),some (.val (.int c))]=.ok (decide ((1000000000000000000:Int)<=c),[some (.val (.scr ns)),some (.val (.int k)),some (.val (.int c))]):=zaE (za0 (d:=.int c) rfl ep rfl)
 by_cases h:(1000000000000000000:Int)<=c
 ·refine ⟨[.int (c-1000000000000000000),.bl true],⟨_,_,rfl⟩,zav (ρ':=[some (.val (.scr ns)),some (.val (.int k)),some (.val (.int c))]) rfl ?_ rfl⟩
  show zbV [some (.val (.scr ns)),some (.val (.int k)),none]=_
  unfold zbV
  rw[zag e1]
  refine zcu ?_
  rw[zfr (by rw[e2,decide_eq_true h])]
  unfold zd9 zch
  rw[dA,za0 (d:=.int c) (z:=.int (c-1000000000000000000)) rfl ep rfl]
  rfl
 ·refine ⟨[.int (c % 2147483647),.bl false],⟨_,_,rfl⟩,zav (ρ':=[some (.val (.scr ns)),some (.val (.int k)),some (.val (.int c))]) rfl ?_ rfl⟩
  show zbV [some (.val (.scr ns)),some (.val (.int k)),none]=_
  unfold zbV
  rw[zag e1,zag (ρ1:=[some (.val (.scr ns)),some (.val (.int k)),some (.val (.int c))]) (by rw[zc0 (by rw[e2,decide_eq_false h])];rfl)]
  unfold zd9 zch
  rw[dA,za0 (d:=.int c) (z:=.int (c % 2147483647)) rfl rfl rfl]
  rfl
theorem zpH{F:FD}{fa fb:De}{ρ ρ' ρ'':Ev}{d e:Dt}{y:List Dt}{l:List B}(h:fa ρ=.ok (d,ρ'))(h2:fb ρ'=.ok (e,ρ''))(hF:F [.val d,.val e]=.ok (.lst y,l)):zcc F (dR fa (dR fb dR0)) ρ=.ok (y,ρ''):=by
 unfold zcc dR dR0
 rw[h]
 simp only[R.bind_ok,h2,zjy,zaQ,if_true,zax,hF]
 rw[zjN]
theorem zov{F:FD}{fa fb:De}{ρ ρ' ρ'':Ev}{d e:Dt}{n:Nat}(h:fa ρ=.ok (d,ρ'))(h2:fb ρ'=.ok (e,ρ''))(hF:F [.val d,.val e]=.er n):zal F (dR fa (dR fb dR0)) ρ=.er n:=by
 unfold zal dR dR0
 rw[h]
 simp only[R.bind_ok,h2,zjy,zaQ,if_true,zax,hF,R.bind_er]
inductive Tr where
 |lf (i:Int)|nd (row:Bool) (l:List Tr)
def wd(r:Bool):Str:=if r then Str.ofString "row" else Str.ofString "any"
mutual
def toD:Tr->Dt
 |.lf i=>.int i
 |.nd r l=>.tup [.str (wd r),.tup (zhW l)]
def zhW:List Tr->List Dt
 |[]=>[]
 |t::r=>toD t::zhW r
end
mutual
def zad:Tr->List Int
 |.lf i=>[i]
 |.nd _ l=>zat l
def zat:List Tr->List Int
 |[]=>[]
 |t::r=>zad t++zat r
end
mutual
def dep:Tr->Nat
 |.lf _=>1
 |.nd _ l=>zis l+1
def zis:List Tr->Nat
 |[]=>0
 |t::r=>max (dep t) (zis r)
end
mutual
def okT:Tr->Bool
 |.lf _=>true
 |.nd r l=>decide ((if r then 3 else 2)<=l.length) && zmn l
def zmn:List Tr->Bool
 |[]=>true
 |t::r=>okT t && zmn r
end
theorem zcY:∀ l:List Tr,zhW l=l.map toD
 |[]=>by simp[zhW]
 |t::r=>by simp[zhW,zcY r]
theorem zcn:∀ l:List Tr,zat l=l.flatMap zad
 |[]=>by simp[zat]
 |t::r=>by simp[zat,zcn r]
theorem zkV:∀ l:List Tr,zmn l=l.all okT
 |[]=>by simp[zmn]
 |t::r=>by simp[zmn,zkV r]
theorem zem{n:Nat}:∀{l:List Tr},zis l<=n ↔ ∀ t∈l,dep t<=n
 |[]=>by simp[zis]
 |t::r=>by
  have:=zem (n:=n) (l:=r)
  simp only[zis,List.mem_cons,forall_eq_or_imp]
  rw[<- this]
  omega
theorem zew:∀(n:Nat)(t:Tr),dep t<=n->okT t=true->zad t≠[]
 |n,.lf i,_,_=>by simp[zad]
 |0,.nd r l,h,_=>by simp[dep] at h
 |n+1,.nd r l,h,ho=>by
  simp only[dep,okT,Bool.and_eq_true,decide_eq_true_eq] at h ho
  cases l with
  |nil=>have:=ho.1;cases r <;> simp at this
  |cons t q =>
   simp only[zmn,Bool.and_eq_true] at ho
   have:=zew n t (by simp only[zis] at h;omega) ho.2.1
   simp only[zad,zat]
   intro z
   exact this (List.append_eq_nil_iff.mp z).1
theorem zgJ{α:Type}{u:α->Dt}{f:α->List Dt}{fe:DN}{ρ0:Ev}:∀{l:List α}{o:Option B},(∀ a∈l,fe (ρ0++[some (.val (u a))])=.ok (f a,ρ0++[some (.val (u a))]))->∃ o',zdq (zba ρ0.length) dTT fe (l.map u) (ρ0++[o])=.ok (l.map f,ρ0++[o'])
 |[],o,_=>⟨o,rfl⟩
 |a::l,o,h=>by
  obtain ⟨o',e⟩:=zgJ (l:=l) (o:=some (.val (u a))) fun b hb=>h b (List.mem_cons_of_mem _ hb)
  refine ⟨o',?_⟩
  rw[List.map_cons,zdq,zlY]
  simp only[R.bind_ok,dTT,if_true]
  rw[h a (by simp)]
  simp only[R.bind_ok]
  rw[e]
  rfl
theorem zfJ{g:Int}:∀{l:List (List Int)}{j:Nat}{p:List Int},l[j]? = some p->(l.set j (p++[g])).flatten.Perm (l.flatten++[g])
 |[],j,p,h=>by simp at h
 |a::l,0,p,h=>by
  simp at h;subst h
  simp only[List.set_cons_zero,List.flatten_cons,List.append_assoc]
  exact List.Perm.append_left _ List.perm_append_comm
 |a::l,j+1,p,h=>by
  have:=zfJ (g:=g) (l:=l) (j:=j) (p:=p) (by simpa using h)
  simp only[List.set_cons_succ,List.flatten_cons,List.append_assoc]
  exact this.append_left a
def lz(p:List Int):List Dt:=p.map .int
theorem zii{g r b6:Option B}{m:Nat}:∀{gs:List Int}{pss:List (List Int)}{st:List Dt}{o:Option B},0<m->m<=100->pss.length=m->(∀ p∈pss,p≠[])->pss.flatten.length+gs.length<=1000->St st ->
  ∃(pss':List (List Int))(st':List Dt)(o':Option B),St st'/\pss'.length=m/\(∀ p∈pss',p≠[])/\pss'.flatten.Perm (pss.flatten++gs) /\
   zlk (zba 5) (dEx (zia 4 5 (zal zan (dRO 0 (dR (zaa 3) dR0))))) (gs.map .int) [some (.own st),g,r,some (.val (.int m)),some (.own2 (pss.map lz)),o,b6]=.ok (.nx,[some (.own st'),g,r,some (.val (.int m)),some (.own2 (pss'.map lz)),o',b6])
 |[],pss,st,o,_,_,hl,hne,_,hs=>⟨pss,st,o,hs,hl,hne,by simp,rfl⟩
 |x::gs,pss,st,o,m0,m1,hl,hne,hb,hs=>by
  obtain ⟨v,st1,e,hs1,v0,v1⟩:=zcL (m:=(m:Nat)) hs (by omega) (by omega)
  have hj:v.toNat<pss.length:=by omega
  obtain ⟨p,hp⟩ : ∃ p,pss[v.toNat]? = some p:=⟨_,List.getElem?_eq_getElem hj⟩
  have hfs:=zfJ (g:=x) hp
  have hpl:p.length<=pss.flatten.length:=(List.sublist_flatten_of_mem (List.mem_of_getElem? hp)).length_le
  obtain ⟨pss',st',o',hs',hl',hne',hp',e'⟩:=zii (g:=g) (r:=r) (b6:=b6) (m:=m) (gs:=gs) (pss:=pss.set v.toNat (p++[x])) (st:=st1) (o:=some (.val (.int x))) m0 m1 (by simpa using hl) (fun q hq=>by
    rcases List.mem_or_eq_of_mem_set hq with z|z
    ·exact hne q z
    ·rw[z];simp) (by rw[hfs.length_eq];simp only[List.length_append,List.length_cons,List.length_nil] at hb ⊢;omega) hs1
  refine ⟨pss',st',o',hs',hl',hne',?_,?_⟩
  ·refine hp'.trans ((hfs.append_right gs).trans ?_)
   simp
  ·rw[List.map_cons,zlk]
   show ((dEx (zia 4 5 (zal zan (dRO 0 (dR (zaa 3) dR0))))) [some (.own st),g,r,some (.val (.int m)),some (.own2 (pss.map lz)),some (.val (.int x)),b6]).bind _=_
   have ec:=zhN (F:=zan) (fb:=zaa 3) (i:=0) (ρ:=[some (.own st),g,r,some (.val (.int m)),some (.own2 (pss.map lz)),some (.val (.int x)),b6]) rfl rfl e
   have eB:dEx (zia 4 5 (zal zan (dRO 0 (dR (zaa 3) dR0)))) [some (.own st),g,r,some (.val (.int m)),some (.own2 (pss.map lz)),some (.val (.int x)),b6]=.ok (.nx,[some (.own st1),g,r,some (.val (.int m)),some (.own2 ((pss.set v.toNat (p++[x])).map lz)),some (.val (.int x)),b6]):=by
    refine zes (d:=.non) ?_
    have hx:(pss.map lz)[v.toNat]? = some (lz p):=by rw[List.getElem?_map,hp];rfl
    have hix:ixN (pss.map lz).length v=some v.toNat:=zjR v0 (by rw[List.length_map];omega)
    unfold zia
    simp only[List.getElem?_cons_succ,List.getElem?_cons_zero,ec,R.bind_ok,List.set_cons_zero,hix,hx]
    rw[if_pos (by unfold lz;rw[List.length_map];simp only[List.length_cons] at hb;omega)]
    simp only[List.set_cons_succ,List.set_cons_zero]
    rw[List.map_set]
    unfold lz
    simp
   rw[eB]
   simp only[R.bind_ok]
   exact e'
theorem zsD{m:Nat}{pss:List (List Int)}(hl:pss.length=m)(h2:2<=m)(hne:∀ p∈pss,p≠[]):∀ p∈pss,p.length<pss.flatten.length:=by
 intro p hp
 obtain ⟨a,b,rfl⟩:=List.append_of_mem hp
 have:0<a.flatten.length+b.flatten.length:=by
  cases a with
  |cons q a =>
   have:=List.length_pos_iff.mpr (hne q (by simp))
   simp only[List.flatten_cons,List.length_append]
   omega
  |nil =>
   cases b with
   |cons q b =>
    have:=List.length_pos_iff.mpr (hne q (by simp))
    simp only[List.flatten_cons,List.length_append]
    omega
   |nil=>simp at hl;omega
 simp only[List.flatten_append,List.flatten_cons,List.length_append]
 omega
def ztw(p:List Int)(t:Tr):Prop:=okT t=true/\(zad t).Perm p/\dep t<=p.length
theorem zi4{k:Nat}:∀{pss:List (List Int)}{ts:List Tr},Paired ztw pss ts->(∀ p∈pss,p.length<=k)->zmn ts=true/\(zat ts).Perm pss.flatten/\zis ts<=k/\ts.length=pss.length
 |_,_,.nil,_=>by simp[zmn,zat,zis]
 |p::pss,t::ts,.cons h r,hk=>by
  obtain ⟨a1,a2,a3,a4⟩:=zi4 (k:=k) r fun q hq=>hk q (List.mem_cons_of_mem _ hq)
  have:=hk p (by simp)
  obtain ⟨b1,b2,b3⟩:=h
  simp only[zmn,zat,zis,List.flatten_cons,List.length_cons]
  exact ⟨by rw[b1,a1];rfl,b2.append a2,by omega,by omega⟩
theorem ziq:∀(n:Nat)(gs:List Int)(st:List Dt),gs.length<=n->n<=8->1<=gs.length->gs.length<=7->St st->∃ t st',St st'/\ztw gs t/\zaC n [.own st,.val (.lst (gs.map .int))]=.ok (toD t,[.own st',.val .non])
 |0,gs,st,h,_,h1,_,_=>by omega
 |n+1,gs,st,h,h8,h1,h7,hs=>by
  by_cases hone:gs.length=1
  ·obtain ⟨g,rfl⟩:=List.length_eq_one_iff.mp hone
   refine ⟨.lf g,st,hs,⟨rfl,.refl _,by simp[dep]⟩,zav (ρ':=[some (.own st),some (.val (.lst [.int g])),none,none,none,none,none]) rfl ?_ rfl⟩
   rw[toD]
   show zbF (zaC n) [some (.own st),some (.val (.lst [.int g])),none,none,none,none,none]=_
   unfold zbF
   refine zcu ?_
   rw[zfr (ρ1:=[some (.own st),some (.val (.lst [.int g])),none,none,none,none,none]) (zaE (za0 (d:=.int 1) (e:=.int 1) rfl rfl (by rw[zb5 rfl rfl,eqI];rfl)))]
   rfl
  ·
   obtain ⟨st1,p,hs1,hp,e1⟩:=zlj (l:=gs.map .int) hs (by rw[List.length_map];omega) (fun d hd=>by obtain ⟨i,_,rfl⟩:=List.mem_map.mp hd;rfl)
   obtain ⟨q,hq,rfl⟩:=zim hp
   have hql:=hq.length_eq
   obtain ⟨v,st2,e2,hs2,v0,v1⟩:=zcL (m:=(q.length:Int)-1) hs1 (by omega) (by omega)
   obtain ⟨m,hm⟩ : ∃ m:Nat,(m:Int)=2+v:=⟨(2+v).toNat,by omega⟩
   have m2:2<=m:=by omega
   have mq:m<=q.length:=by omega
   have cut1:zgw (q.map Dt.int) none (some (m:Int))=(q.take m).map .int:=by
    unfold zgw
    rw[HT.sIx_nat]
    simp only[HT.sIx_none,List.drop_zero,Nat.sub_zero,List.length_map]
    rw[Nat.min_eq_left mq,List.map_take]
   have cut2:zgw (q.map Dt.int) (some (m:Int)) none=(q.drop m).map .int:=by
    unfold zgw
    rw[HT.sIx_nat]
    simp only[HT.sIx_none,List.length_map]
    rw[Nat.min_eq_left mq,List.map_drop,List.take_of_length_le (by simp)]
   let G:Option B:=some (.val (.lst (gs.map .int)))
   let Rw:Option B:=some (.val (.lst (q.map .int)))
   let Mn:Option B:=some (.val (.int m))
   have x1:zaU 2 (zal zby (dRO 0 (dR (zaa 1) dR0))) [some (.own st),G,none,none,none,none,none]=.ok (.nx,[some (.own st1),G,Rw,none,none,none,none]) :=
    zbj (zhN (ρ:=[some (.own st),G,none,none,none,none,none]) rfl rfl e1) (by simp)
   have x2:zaU 3 (dOp zdv (dC (.int 2)) (zal zan (dRO 0 (dR (dOp zmJ (dFn zcU (dA (zaa 2) dA0)) (dC (.int 1))) dR0)))) [some (.own st1),G,Rw,none,none,none,none]=.ok (.nx,[some (.own st2),G,Rw,Mn,none,none,none]):=by
    have ea:dOp zmJ (dFn zcU (dA (zaa 2) dA0)) (dC (.int 1)) [some (.own st1),G,Rw,none,none,none,none]=.ok (.int ((q.length:Int)-1),[some (.own st1),G,Rw,none,none,none,none]):=by
     refine za0 (d:=.int (q.map Dt.int).length) rfl rfl ?_
     rw[List.length_map];rfl
    refine zbj (za0 rfl (zhN (ρ:=[some (.own st1),G,Rw,none,none,none,none]) rfl ea e2) (z:=.int m) ?_) (by simp)
    rw[hm];rfl
   obtain ⟨o7,c1⟩:=zgJ (ρ0:=[some (.own st2),G,Rw,Mn,none,none,none]) (u:=Dt.int) (f:=fun g=>[.int g]) (fe:=zch (dA (zaa 7) dA0)) (l:=q.take m) (o:=none) fun g _=>rfl
   have hpm:(q.take m).map (fun g=>[Dt.int g])=((q.take m).map fun g=>[g]).map lz:=by rw[List.map_map];rfl
   have x3:zkP 4 (dIt (dFz (zlH (zaa 2) dO0 (dO1 (zaa 3))))) (zba 7) dTT (zch (dA (zaa 7) dA0)) 1 [some (.own st2),G,Rw,Mn,none,none,none]=.ok (.nx,[some (.own st2),G,Rw,Mn,some (.own2 (((q.take m).map fun g=>[g]).map lz)),none,none]):=by
    have ei:dIt (dFz (zlH (zaa 2) dO0 (dO1 (zaa 3)))) [some (.own st2),G,Rw,Mn,none,none,none]=.ok ((q.take m).map .int,[some (.own st2),G,Rw,Mn,none,none,none]):=by
     show R.ok (zgw (q.map Dt.int) none (some (m:Int)),_)=_
     rw[cut1]
    unfold zkP
    rw[ei]
    simp only[R.bind_ok]
    rw[if_pos (by unfold zcK;simp only[List.length_map,List.length_take,decide_eq_true_eq];omega)]
    show (match zdq (zba 7) dTT (zch (dA (zaa 7) dA0)) ((q.take m).map .int) ([some (.own st2),G,Rw,Mn,none,none,none]++[none]) with|.ok z=>if 4<7 then R.ok (Fl.nx,(z.2.take 7).set 4 (some (.own2 z.1))) else .no|_=>.no)=_
    have c1':zdq (zba 7) dTT (zch (dA (zaa 7) dA0)) ((q.take m).map .int) ([some (.own st2),G,Rw,Mn,none,none,none]++[none])=.ok ((q.take m).map (fun g=>[Dt.int g]),[some (.own st2),G,Rw,Mn,none,none,none]++[o7]):=c1
    rw[c1',hpm]
    rfl
   have hfl:((q.take m).map fun g=>[g]).flatten=q.take m:=by
    induction q.take m with
    |nil=>rfl
    |cons a r ih=>simp[ih]
   obtain ⟨pss,st3,o5,hs3,hl3,hne3,hp3,e3⟩:=zii (g:=G) (r:=Rw) (b6:=none) (m:=m) (gs:=q.drop m) (pss:=(q.take m).map fun g=>[g]) (st:=st2) (o:=none) (by omega) (by omega) (by rw[List.length_map,List.length_take];omega) (fun p hp=>by obtain ⟨g,_,rfl⟩:=List.mem_map.mp hp;simp) (by rw[hfl,List.length_take,List.length_drop];omega) hs2
   have hflp:pss.flatten.Perm gs:=by
    refine hp3.trans ?_
    rw[hfl,List.take_append_drop]
    exact hq
   have x4:zeI (dIt (dFz (zlH (zaa 2) (dO1 (zaa 3)) dO0))) (zba 5) (dEx (zia 4 5 (zal zan (dRO 0 (dR (zaa 3) dR0))))) [some (.own st2),G,Rw,Mn,some (.own2 (((q.take m).map fun g=>[g]).map lz)),none,none]=.ok (.nx,[some (.own st3),G,Rw,Mn,some (.own2 (pss.map lz)),o5,none]):=by
    have ei:dIt (dFz (zlH (zaa 2) (dO1 (zaa 3)) dO0)) [some (.own st2),G,Rw,Mn,some (.own2 (((q.take m).map fun g=>[g]).map lz)),none,none]=.ok ((q.drop m).map .int,[some (.own st2),G,Rw,Mn,some (.own2 (((q.take m).map fun g=>[g]).map lz)),none,none]):=by
     show R.ok (zgw (q.map Dt.int) (some (m:Int)) none,_)=_
     rw[cut2]
    unfold zeI
    rw[ei]
    exact e3
   have hlt:=zsD hl3 m2 hne3
   have hfll:=hflp.length_eq
   let Fz:Option B:=some (.val (.lst ((pss.map lz).map .lst)))
   obtain ⟨ts,st4,hs4,hp4,e4⟩:=zoG (Rl:=ztw) (u:=fun p=>.lst (lz p)) (v:=toD) (zbm:=[G,Rw,Mn,Fz,o5,none]) (fi:=dIt (zdt 4)) (fe:=zal (zaC n) (dRO 0 (dR (zaa 7) dR0))) (l:=pss) (ds:=(pss.map lz).map .lst) (j:=7) (ρ:=[some (.own st3),G,Rw,Mn,some (.own2 (pss.map lz)),o5,none]) (st:=st3) rfl (by rw[List.map_map];rfl) (by omega) rfl
    (fun p hp st' hs'=>by
     have:=hlt p hp
     have hpos:=List.length_pos_iff.mpr (hne3 p hp)
     obtain ⟨t,st5,h5,h6,h7'⟩:=ziq n p st' (by omega) (by omega) (by omega) (by omega) hs'
     exact ⟨t,st5,h5,h6,zhN (ρ:=some (.own st')::([G,Rw,Mn,Fz,o5,none]++[some (.val (.lst (lz p)))])) rfl rfl h7'⟩) hs3
   obtain ⟨k1,k2,k3,k4⟩:=zi4 (k:=gs.length-1) hp4 fun p hp=>by have:=hlt p hp;omega
   have x5:zaU 6 (dFn zfE (dA (dFz (zbh (dIt (zdt 4)) (zba 7) dTT (zal (zaC n) (dRO 0 (dR (zaa 7) dR0))) 1)) dA0)) [some (.own st3),G,Rw,Mn,some (.own2 (pss.map lz)),o5,none]=.ok (.nx,[some (.own st4),G,Rw,Mn,Fz,o5,some (.val (.tup (ts.map toD)))]):=zbj (zgW (zb3 e4) rfl) (by simp)
   have pre:∀ X,zbF (zaC n) [some (.own st),G,none,none,none,none,none]=X ↔ zaw (dIf (zj4 (dTB (dOp gGt (zaa 3) (dC (.int 2)))) (dTB (dOp (gEq false) (zal zan (dRO 0 (dR (dC (.int 2)) dR0))) (dC (.int 1))))) (zbo (zeS (dA (dC (.str (Str.ofString "row"))) (dA (zaa 6) dA0)))) dNx) (zbo (zeS (dA (dC (.str (Str.ofString "any"))) (dA (zaa 6) dA0)))) [some (.own st4),G,Rw,Mn,Fz,o5,some (.val (.tup (ts.map toD)))]=X:=fun X=>by
    unfold zbF
    have x0:dTB (dOp (gEq false) (dFn zcU (dA (zaa 1) dA0)) (dC (.int 1))) [some (.own st),G,none,none,none,none,none]=.ok (false,[some (.own st),G,none,none,none,none,none]):=by
     refine zaE (za0 (d:=.int (gs.map Dt.int).length) rfl rfl ?_)
     rw[zb5 rfl rfl,eqI,List.length_map]
     have:((gs.length:Int) == 1)=false:=by simp;omega
     rw[this];rfl
    rw[zag (ρ1:=[some (.own st),G,none,none,none,none,none]) (by rw[zc0 x0];rfl),zag x1,zag x2,zag x3,zag x4,zag x5]
   have fin:∀(r:Bool)(st5:List Dt),(r=true->3<=m)->St st5->zbF (zaC n) [some (.own st),G,none,none,none,none,none]=.ok (.rt (toD (.nd r ts)),[some (.own st5),G,Rw,Mn,Fz,o5,some (.val (.tup (ts.map toD)))])->∃ t st',St st'/\ztw gs t/\zaC (n+1) [.own st,.val (.lst (gs.map .int))]=.ok (toD t,[.own st',.val .non]):=fun r st5 hr hs5 hd=>by
    refine ⟨.nd r ts,st5,hs5,⟨?_,k2.trans hflp,?_⟩,zav (ρ':=[some (.own st5),G,Rw,Mn,Fz,o5,some (.val (.tup (ts.map toD)))]) rfl hd rfl⟩
    ·simp only[okT,k1,Bool.and_true,decide_eq_true_eq,k4,hl3]
     cases r with
     |false=>simpa using m2
     |true=>simpa using hr rfl
    ·simp only[dep];omega
   have hD:∀ r,toD (.nd r ts)=.tup [.str (wd r),.tup (ts.map toD)]:=fun r=>by rw[toD,zcY]
   by_cases h3:2<m
   ·have y1:dTB (dOp gGt (zaa 3) (dC (.int 2))) [some (.own st4),G,Rw,Mn,Fz,o5,some (.val (.tup (ts.map toD)))]=.ok (true,[some (.own st4),G,Rw,Mn,Fz,o5,some (.val (.tup (ts.map toD)))]):=by
     refine zaE (za0 (d:=.int m) rfl rfl ?_)
     simp only[zlL]
     rw[decide_eq_true (by omega:(2:Int)<m)]
    obtain ⟨u,st5,e5,hs5,u0,u1⟩:=zcL (m:=2) hs4 (by decide) (by decide)
    have ec:=zhN (F:=zan) (fb:=dC (.int 2)) (i:=0) (ρ:=[some (.own st4),G,Rw,Mn,Fz,o5,some (.val (.tup (ts.map toD)))]) rfl rfl e5
    have y2:dTB (dOp (gEq false) (zal zan (dRO 0 (dR (dC (.int 2)) dR0))) (dC (.int 1))) [some (.own st4),G,Rw,Mn,Fz,o5,some (.val (.tup (ts.map toD)))]=.ok (u == 1,[some (.own st5),G,Rw,Mn,Fz,o5,some (.val (.tup (ts.map toD)))]):=zaE (za0 ec rfl (by rw[zb5 rfl rfl,eqI];rfl))
    by_cases hu:u=1
    ·refine fin true st5 (fun _=>by omega) hs5 ((pre _).mpr (zcu ?_))
     rw[zfr (by rw[zme y1,y2,hu];rfl),hD]
     rfl
    ·have hu':(u == 1)=false:=by simpa using hu
     refine fin false st5 (fun z=>by cases z) hs5 ((pre _).mpr ?_)
     rw[zag (ρ1:=[some (.own st5),G,Rw,Mn,Fz,o5,some (.val (.tup (ts.map toD)))]) (by rw[zc0 (by rw[zme y1,y2,hu'])];rfl),hD]
     rfl
   ·have y1:dTB (dOp gGt (zaa 3) (dC (.int 2))) [some (.own st4),G,Rw,Mn,Fz,o5,some (.val (.tup (ts.map toD)))]=.ok (false,[some (.own st4),G,Rw,Mn,Fz,o5,some (.val (.tup (ts.map toD)))]):=by
     refine zaE (za0 (d:=.int m) rfl rfl ?_)
     simp only[zlL]
     rw[decide_eq_false (by omega:¬ (2:Int)<m)]
    refine fin false st4 (fun z=>by cases z) hs4 ((pre _).mpr ?_)
    rw[zag (ρ1:=[some (.own st4),G,Rw,Mn,Fz,o5,some (.val (.tup (ts.map toD)))]) (by rw[zc0 (by rw[zqS y1])];rfl),hD]
    rfl
def tz(p:List Int):Dt:=.tup (p.map .int)
def lp(ps:List (List Int)):List Dt:=ps.map tz
theorem zhr(r:Bool):PySem.PyData.strOk (wd r)=true:=by cases r <;> decide +kernel
def isLf:Tr->Bool
 |.lf _=>true
 |.nd _ _=>false
theorem zjc(t:Tr):zbU [.val (toD t)]=.ok (.bl (isLf t),[.val .non]):=by
 cases t with
 |lf i=>rw[toD];rfl
 |nd r l=>rw[toD];rfl
theorem zd1:∀{l:List Tr}{t:Tr},t∈l->(zad t).length<=(zat l).length
 |[],_,h=>by cases h
 |u::l,t,h=>by
  simp only[zat,List.length_append]
  rcases List.mem_cons.mp h with rfl|h
  ·omega
  ·have:=zd1 h;omega
theorem eqS{x y:Str}:eqD (.str x) (.str y)=(x == y):=by rw[eqD]
theorem zsK(r:Bool):(wd r == Str.ofString "any") = !r:=by cases r <;> decide +kernel
theorem zpw(r:Bool):(wd r == Str.ofString "row")=r:=by cases r <;> decide +kernel
theorem zmb:PySem.PyData.strOk (Str.ofString "any")=true:=by decide +kernel
theorem ziG:PySem.PyData.strOk (Str.ofString "row")=true:=by decide +kernel
def tdN:Nat->Dt->Bool
 |_,.int _=>true
 |_,.str x=>PySem.PyData.strOk x
 |n+1,.tup l=>decide (l.length<=1000) && l.all (tdN n)
 |_,_=>false
theorem zh8{n:Nat}:∀(l:List Tr),zis l<=n->zmn l=true->l.length<=(zat l).length
 |[],_,_=>by simp
 |t::q,hd,ho=>by
  simp only[zis] at hd
  simp only[zmn,Bool.and_eq_true] at ho
  have h1:=List.length_pos_iff.mpr (zew n t (by omega) ho.1)
  have h2:=zh8 (n:=n) q (by omega) ho.2
  simp only[zat,List.length_append,List.length_cons]
  omega
theorem okB{b:Bool}:okN 60 (.bl b)=true:=rfl
theorem eqB{a b:Bool}:eqD (.bl a) (.bl b)=(a == b):=by rw[eqD]
theorem zhH{f:Dt->Dt}{fe:De}{a b:Option B}:∀{l:List Dt}{o o2:Option B},(∀ d∈l,fe [a,b,some (.val d),some (.val d)]=.ok (f d,[a,b,some (.val d),some (.val d)]))->∃ o' o2',zbr (zfq 2 3) dTT fe (l.map fun d=>.tup [d,d]) [a,b,o,o2]=.ok (l.map f,[a,b,o',o2'])
 |[],o,o2,_=>⟨o,o2,rfl⟩
 |d::l,o,o2,h=>by
  obtain ⟨o',o2',e⟩:=zhH (l:=l) (o:=some (.val d)) (o2:=some (.val d)) fun c hc=>h c (List.mem_cons_of_mem _ hc)
  refine ⟨o',o2',?_⟩
  rw[List.map_cons,zbr]
  show (((fe [a,b,some (.val d),some (.val d)]).bind fun y=>(zbr (zfq 2 3) dTT fe (l.map fun d=>.tup [d,d]) y.2).bind fun z=>R.ok (y.1::z.1,z.2)):R _)=_
  rw[h d (by simp)]
  simp only[R.bind_ok]
  rw[e]
  rfl
theorem zfd:∀(l:List Dt),ze7 (l.map fun _=>Dt.bl true)=some (l.map fun _=>true)
 |[]=>rfl
 |d::l=>by simp[ze7,zfd l]
theorem ziv{F:FD}{d:Dt}(h1:(zjk (tyD d) "tuple" || zjk (tyD d) "list")=false)(h2:okN 60 d=true)(h3:eqD d d=true):zb0 F [some (.val d),some (.val d)]=.ok (.rt (.bl true),[some (.val d),some (.val d)]):=by
 unfold zb0
 have e0:dTB (zqh "tuple" "list" (zaa 1)) [some (.val d),some (.val d)]=.ok (false,[some (.val d),some (.val d)]):=by
  show R.ok ((zjk (tyD d) "tuple" || zjk (tyD d) "list"),[some (B.val d),some (.val d)])=_
  rw[h1]
 rw[zag (ρ1:=[some (.val d),some (.val d)]) (by rw[zc0 e0];rfl)]
 refine zd3 ?_
 have e1:dOp (gEq false) (zaa 0) (zaa 1) [some (.val d),some (.val d)]=.ok (.bl true,[some (.val d),some (.val d)]):=za0 rfl rfl (by rw[zb5 h2 h2,h3];rfl)
 have e2:dOp (gEq false) (zeQ "bool" (zaa 0)) (zeQ "bool" (zaa 1)) [some (.val d),some (.val d)]=.ok (.bl true,[some (.val d),some (.val d)]):=za0 rfl rfl (by
  rw[zb5 okB okB,eqB];simp)
 unfold zsl
 rw[e1]
 simp only[R.bind_ok]
 rw[e2]
theorem zkS{n:Nat}{l:List Dt}(hl:l.length<=1000)(hs:∀ d∈l,zam (n+1) [.val d,.val d]=.ok (.bl true,[.val .non,.val .non])):zam (n+2) [.val (.tup l),.val (.tup l)]=.ok (.bl true,[.val .non,.val .non]):=by
  refine zav (ρ':=[some (.val (.tup l)),some (.val (.tup l))]) rfl ?_ rfl
  show zb0 (zam (n+1)) [some (.val (.tup l)),some (.val (.tup l))]=_
  unfold zb0
  refine zcu ?_
  rw[zfr (ρ1:=[some (.val (.tup l)),some (.val (.tup l))]) rfl]
  have t1:dTB (dOp (gEq true) (zeQ "tuple" (zaa 0)) (zeQ "tuple" (zaa 1))) [some (.val (.tup l)),some (.val (.tup l))]=.ok (false,[some (.val (.tup l)),some (.val (.tup l))]):=zaE (za0 rfl rfl (by rw[zb5 okB okB,eqB];simp))
  have t2:dTB (dOp (gEq true) (zeQ "list" (zaa 0)) (zeQ "list" (zaa 1))) [some (.val (.tup l)),some (.val (.tup l))]=.ok (false,[some (.val (.tup l)),some (.val (.tup l))]):=zaE (za0 rfl rfl (by rw[zb5 okB okB,eqB];simp))
  have t3:dTB (dOp (gEq true) (dFn zcU (dA (zaa 0) dA0)) (dFn zcU (dA (zaa 1) dA0))) [some (.val (.tup l)),some (.val (.tup l))]=.ok (false,[some (.val (.tup l)),some (.val (.tup l))]):=zaE (za0 (d:=.int l.length) (e:=.int l.length) rfl rfl (by rw[zb5 rfl rfl,eqI];simp))
  rw[zag (ρ1:=[some (.val (.tup l)),some (.val (.tup l))]) (by rw[zc0 (ρ1:=[some (.val (.tup l)),some (.val (.tup l))]) (by rw[zn5 t1,t2])];rfl)]
  rw[zag (ρ1:=[some (.val (.tup l)),some (.val (.tup l))]) (by rw[zc0 t3];rfl)]
  refine zd3 ?_
  obtain ⟨o',o2',e⟩:=zhH (a:=some (.val (.tup l))) (b:=some (.val (.tup l))) (fe:=zal (zam (n+1)) (dR (zaa 2) (dR (zaa 3) dR0))) (f:=fun _=>.bl true) (l:=l) (o:=none) (o2:=none) fun d hd =>
   ziB (ρ':=[some (.val (.tup l)),some (.val (.tup l)),some (.val d),some (.val d)]) rfl rfl (hs d hd)
  have ez:∀(l:List Dt),(l.zip l).map (fun z=>Dt.tup [z.1,z.2])=l.map fun d=>.tup [d,d]:=fun l=>by
   induction l with
   |nil=>rfl
   |cons d l ih=>simp[ih]
  have ec:dFz (zbh (zkf (zaa 0) (zaa 1)) (zfq 2 3) dTT (zal (zam (n+1)) (dR (zaa 2) (dR (zaa 3) dR0))) 2) [some (.val (.tup l)),some (.val (.tup l))]=.ok (.lst (l.map fun _=>.bl true),[some (.val (.tup l)),some (.val (.tup l))]):=by
   refine zb3 ?_
   have eZ:zkf (zaa 0) (zaa 1) [some (.val (.tup l)),some (.val (.tup l))]=.ok (l.map fun d=>.tup [d,d],[some (.val (.tup l)),some (.val (.tup l))]):=by
    show (if l.length=l.length then R.ok ((l.zip l).map (fun z=>Dt.tup [z.1,z.2]),[some (B.val (.tup l)),some (.val (.tup l))]) else .no)=_
    rw[if_pos rfl,ez]
   unfold zbh
   rw[eZ]
   simp only[R.bind_ok]
   rw[if_pos (by unfold zcK;simp only[List.length_map,decide_eq_true_eq];omega)]
   show (match zbr (zfq 2 3) dTT (zal (zam (n+1)) (dR (zaa 2) (dR (zaa 3) dR0))) (l.map fun d=>.tup [d,d]) [some (.val (.tup l)),some (.val (.tup l)),none,none] with|.ok z=>R.ok (z.1,z.2.take 2)|_=>.no)=_
   rw[e]
   rfl
  refine zgW ec ?_
  unfold zpN
  simp only[zfd]
  simp
theorem zoi{n:Nat}{l:List Dt}(hl:l.length<=1000)(hs:∀ d∈l,zam (n+1) [.val d,.val d]=.ok (.bl true,[.val .non,.val .non])):zam (n+2) [.val (.lst l),.val (.lst l)]=.ok (.bl true,[.val .non,.val .non]):=by
  refine zav (ρ':=[some (.val (.lst l)),some (.val (.lst l))]) rfl ?_ rfl
  show zb0 (zam (n+1)) [some (.val (.lst l)),some (.val (.lst l))]=_
  unfold zb0
  refine zcu ?_
  rw[zfr (ρ1:=[some (.val (.lst l)),some (.val (.lst l))]) rfl]
  have t1:dTB (dOp (gEq true) (zeQ "tuple" (zaa 0)) (zeQ "tuple" (zaa 1))) [some (.val (.lst l)),some (.val (.lst l))]=.ok (false,[some (.val (.lst l)),some (.val (.lst l))]):=zaE (za0 rfl rfl (by rw[zb5 okB okB,eqB];simp))
  have t2:dTB (dOp (gEq true) (zeQ "list" (zaa 0)) (zeQ "list" (zaa 1))) [some (.val (.lst l)),some (.val (.lst l))]=.ok (false,[some (.val (.lst l)),some (.val (.lst l))]):=zaE (za0 rfl rfl (by rw[zb5 okB okB,eqB];simp))
  have t3:dTB (dOp (gEq true) (dFn zcU (dA (zaa 0) dA0)) (dFn zcU (dA (zaa 1) dA0))) [some (.val (.lst l)),some (.val (.lst l))]=.ok (false,[some (.val (.lst l)),some (.val (.lst l))]):=zaE (za0 (d:=.int l.length) (e:=.int l.length) rfl rfl (by rw[zb5 rfl rfl,eqI];simp))
  rw[zag (ρ1:=[some (.val (.lst l)),some (.val (.lst l))]) (by rw[zc0 (ρ1:=[some (.val (.lst l)),some (.val (.lst l))]) (by rw[zn5 t1,t2])];rfl)]
  rw[zag (ρ1:=[some (.val (.lst l)),some (.val (.lst l))]) (by rw[zc0 t3];rfl)]
  refine zd3 ?_
  obtain ⟨o',o2',e⟩:=zhH (a:=some (.val (.lst l))) (b:=some (.val (.lst l))) (fe:=zal (zam (n+1)) (dR (zaa 2) (dR (zaa 3) dR0))) (f:=fun _=>.bl true) (l:=l) (o:=none) (o2:=none) fun d hd =>
   ziB (ρ':=[some (.val (.lst l)),some (.val (.lst l)),some (.val d),some (.val d)]) rfl rfl (hs d hd)
  have ez:∀(l:List Dt),(l.zip l).map (fun z=>Dt.tup [z.1,z.2])=l.map fun d=>.tup [d,d]:=fun l=>by
   induction l with
   |nil=>rfl
   |cons d l ih=>simp[ih]
  have ec:dFz (zbh (zkf (zaa 0) (zaa 1)) (zfq 2 3) dTT (zal (zam (n+1)) (dR (zaa 2) (dR (zaa 3) dR0))) 2) [some (.val (.lst l)),some (.val (.lst l))]=.ok (.lst (l.map fun _=>.bl true),[some (.val (.lst l)),some (.val (.lst l))]):=by
   refine zb3 ?_
   have eZ:zkf (zaa 0) (zaa 1) [some (.val (.lst l)),some (.val (.lst l))]=.ok (l.map fun d=>.tup [d,d],[some (.val (.lst l)),some (.val (.lst l))]):=by
    show (if l.length=l.length then R.ok ((l.zip l).map (fun z=>Dt.tup [z.1,z.2]),[some (B.val (.lst l)),some (.val (.lst l))]) else .no)=_
    rw[if_pos rfl,ez]
   unfold zbh
   rw[eZ]
   simp only[R.bind_ok]
   rw[if_pos (by unfold zcK;simp only[List.length_map,decide_eq_true_eq];omega)]
   show (match zbr (zfq 2 3) dTT (zal (zam (n+1)) (dR (zaa 2) (dR (zaa 3) dR0))) (l.map fun d=>.tup [d,d]) [some (.val (.lst l)),some (.val (.lst l)),none,none] with|.ok z=>R.ok (z.1,z.2.take 2)|_=>.no)=_
   rw[e]
   rfl
  refine zgW ec ?_
  unfold zpN
  simp only[zfd]
  simp
theorem zgd:∀(n:Nat)(d:Dt),tdN n d=true->okN 60 d=true->zam (n+1) [.val d,.val d]=.ok (.bl true,[.val .non,.val .non])
 |n,.int i,ht,ho=>zav rfl (ziv rfl ho (by rw[eqI];simp)) rfl
 |n,.str x,ht,ho=>zav rfl (ziv rfl ho (by rw[eqS];simp)) rfl
 |0,.tup l,ht,ho=>by simp[tdN] at ht
 |n+1,.tup l,ht,ho=>by
  rw[tdN,Bool.and_eq_true,List.all_eq_true,decide_eq_true_eq] at ht
  exact zkS ht.1 fun d hd=>zgd n d (ht.2 d hd) (by
   rw[okN,List.all_eq_true] at ho
   exact zhm _ _ (ho d hd))
 |n,.non,ht,ho=>by cases n <;> simp[tdN] at ht
 |n,.bl _,ht,ho=>by cases n <;> simp[tdN] at ht
 |n,.lst _,ht,ho=>by cases n <;> simp[tdN] at ht
 |n,.dct _,ht,ho=>by cases n <;> simp[tdN] at ht
 |n,.scr _,ht,ho=>by cases n <;> simp[tdN] at ht
theorem zq7{k:Nat}(p:List Int)(hl:p.length<=1000):zam (k+2) [.val (tz p),.val (tz p)]=.ok (.bl true,[.val .non,.val .non]):=by
 unfold tz
 refine zkS (by simpa using hl) fun d hd=>?_
 obtain ⟨i,_,rfl⟩:=List.mem_map.mp hd
 exact zgd k (.int i) (by cases k <;> rfl) rfl
theorem zqO{k:Nat}(ps:List (List Int))(hl:ps.length<=1000)(h:∀ p∈ps,p.length<=1000):zam (k+3) [.val (.lst (lp ps)),.val (.lst (lp ps))]=.ok (.bl true,[.val .non,.val .non]):=by
 refine zoi (by unfold lp;simpa using hl) fun d hd=>?_
 obtain ⟨p,hp,rfl⟩:=List.mem_map.mp hd
 exact zq7 p (h p hp)
theorem zfL{F:FD}{x:Option B}:∀{l:List Tr}{acc:List Int}{o:Option B},(∀ t∈l,F [.val (toD t)]=.ok (.lst ((zad t).map .int),[.val .non]))->acc.length+(zat l).length<=1000 ->
  ∃ o',zlk (zba 2) (zaU 1 (dFz (zfO (zaa 1) (zal F (dR (zaa 2) dR0))))) (zhW l) [x,some (.val (.lst (acc.map .int))),o]=.ok (.nx,[x,some (.val (.lst ((acc++zat l).map .int))),o'])
 |[],acc,o,_,_=>⟨o,by simp[zhW,zlk,zat]⟩
 |t::l,acc,o,h,hl=>by
  simp only[zat,List.length_append] at hl
  obtain ⟨o',e⟩:=zfL (F:=F) (x:=x) (l:=l) (acc:=acc++zad t) (o:=some (.val (toD t))) (fun u hu=>h u (List.mem_cons_of_mem _ hu)) (by simp only[List.length_append];omega)
  refine ⟨o',?_⟩
  rw[zhW,zlk]
  show ((zaU 1 (dFz (zfO (zaa 1) (zal F (dR (zaa 2) dR0))))) [x,some (.val (.lst (acc.map .int))),some (.val (toD t))]).bind _=_
  have e1:zaU 1 (dFz (zfO (zaa 1) (zal F (dR (zaa 2) dR0)))) [x,some (.val (.lst (acc.map .int))),some (.val (toD t))]=.ok (.nx,[x,some (.val (.lst ((acc++zad t).map .int))),some (.val (toD t))]):=by
   have ec:=zdP (F:=F) (fa:=zaa 2) (ρ:=[x,some (.val (.lst (acc.map .int))),some (.val (toD t))]) (ρ':=[x,some (.val (.lst (acc.map .int))),some (.val (toD t))]) rfl (h t (by simp))
   have e2:zfO (zaa 1) (zal F (dR (zaa 2) dR0)) [x,some (.val (.lst (acc.map .int))),some (.val (toD t))]=.ok ((acc++zad t).map .int,[x,some (.val (.lst (acc.map .int))),some (.val (toD t))]):=by
    have ev:zaa 1 [x,some (.val (.lst (acc.map .int))),some (.val (toD t))]=.ok (.lst (acc.map .int),[x,some (.val (.lst (acc.map .int))),some (.val (toD t))]):=rfl
    unfold zfO
    rw[ev]
    simp only[R.bind_ok]
    rw[ec]
    simp only[R.bind_ok]
    rw[if_pos (by simp only[List.length_map];omega),List.map_append]
   exact zbj (zb3 e2) (by simp)
  rw[e1]
  simp only[R.bind_ok]
  rw[e,zat,List.append_assoc]
theorem zge:∀(n:Nat)(t:Tr),dep t<=n->(zad t).length<=1000->zaF n [.val (toD t)]=.ok (.lst ((zad t).map .int),[.val .non])
 |0,t,h,_=>by cases t <;> simp[dep] at h
 |n+1,.lf i,h,hl=>by
  refine zav (ρ':=[some (.val (.int i)),none,none]) rfl ?_ rfl
  rw[toD,zad]
  rfl
 |n+1,.nd r l,h,hl=>by
  simp only[dep] at h
  simp only[zad] at hl ⊢
  obtain ⟨o',e⟩:=zfL (F:=zaF n) (x:=some (.val (toD (.nd r l)))) (l:=l) (acc:=[]) (o:=none) (fun t ht=>zge n t (zem.mp (by omega:zis l<=n) t ht) (by have:=zd1 ht;omega)) (by simp;omega)
  have hD:toD (.nd r l)=.tup [.str (wd r),.tup (zhW l)]:=by rw[toD]
  refine zav (ρ':=[some (.val (toD (.nd r l))),some (.val (.lst ((zat l).map .int))),o']) rfl ?_ rfl
  show zde (zaF n) [some (.val (toD (.nd r l))),none,none]=_
  unfold zde
  rw[zag (ρ1:=[some (.val (toD (.nd r l))),none,none]) (by rw[hD];rfl)]
  rw[zag (ρ1:=[some (.val (toD (.nd r l))),some (.val (.lst [])),none]) rfl]
  rw[zag (ρ1:=[some (.val (toD (.nd r l))),some (.val (.lst ((zat l).map .int))),o'])]
  ·rfl
  ·unfold zeI
   have:dIt (dOp gIx (zaa 0) (dC (.int 1))) [some (.val (toD (.nd r l))),some (.val (.lst [])),none]=.ok (zhW l,[some (.val (toD (.nd r l))),some (.val (.lst [])),none]):=by rw[hD];rfl
   rw[this]
   simpa using e
def zej{α:Type}:Nat->List α->List (List α)
 |0,_=>[[]]
 |n+1,l=>(List.range l.length).flatMap fun k=>match l[k]? with
  |some a=>(zej n (l.eraseIdx k)).map (a::·)
  |none=>[]
theorem zk1{α:Type}{l:List α}{n k:Nat}(h:l.length=n+1)(hk:k<l.length):(l.eraseIdx k).length=n:=by
 rw[List.length_eraseIdx,if_pos hk,h];rfl
theorem zpv{α β:Type}(f:α->β):∀(l:List α)(k:Nat),(l.map f).eraseIdx k=(l.eraseIdx k).map f
 |[],_=>rfl
 |a::l,0=>rfl
 |a::l,k+1=>by simp[zpv f l k]
theorem zeM{α:Type}:∀(n:Nat)(l p:List α),l.length=n->(p∈zej n l ↔ p.Perm l)
 |0,l,p,h=>by
  have:l=[]:=List.length_eq_zero_iff.mp h
  subst this
  simp[zej]
 |n+1,l,p,h=>by
  rw[zej,List.mem_flatMap]
  constructor
  ·rintro ⟨k,hk,hp⟩
   have hk':=List.mem_range.mp hk
   rw[List.getElem?_eq_getElem hk'] at hp
   obtain ⟨r,hr,rfl⟩:=List.mem_map.mp hp
   have:=(zeM n _ r (zk1 h hk')).mp hr
   exact (this.cons _).trans (zdH (List.getElem?_eq_getElem hk'))
  ·intro hp
   cases p with
   |nil=>have:=hp.length_eq;simp at this;omega
   |cons a r =>
    obtain ⟨k,hk,e⟩:=List.mem_iff_getElem.mp (hp.mem_iff.mp List.mem_cons_self)
    have e':l[k]? = some a:=by rw[List.getElem?_eq_getElem hk,e]
    refine ⟨k,List.mem_range.mpr hk,?_⟩
    rw[e']
    refine List.mem_map.mpr ⟨r,(zeM n _ r (zk1 h hk)).mpr ?_,rfl⟩
    exact List.Perm.cons_inv (hp.trans (zdH e').symm)
theorem ziU{α:Type}:∀(n:Nat)(l:List α),l.length=n->l.Nodup->(zej n l).Nodup
 |0,l,_,_=>by simp[zej]
 |n+1,l,h,hn=>by
  rw[zej]
  refine List.pairwise_flatMap.mpr ⟨fun k hk=>?_,?_⟩
  ·have hk':=List.mem_range.mp hk
   rw[List.getElem?_eq_getElem hk']
   refine List.pairwise_map.mpr ((ziU n (l.eraseIdx k) (zk1 h hk') (hn.sublist (List.eraseIdx_sublist _ _))).imp fun {a b} hab e=>hab (List.cons.inj e).2)
  ·refine List.pairwise_iff_getElem.mpr fun i j hi hj hij x hx y hy e=>?_
   rw[List.length_range] at hi hj
   rw[List.getElem_range,List.getElem?_eq_getElem hi] at hx
   rw[List.getElem_range,List.getElem?_eq_getElem hj] at hy
   obtain ⟨r,_,rfl⟩:=List.mem_map.mp hx
   obtain ⟨r',_,rfl⟩:=List.mem_map.mp hy
   exact List.pairwise_iff_getElem.mp hn i j hi hj hij (List.cons.inj e).1
theorem zj9{α β:Type}(f:α->β):∀(n:Nat)(l:List α),zej n (l.map f)=(zej n l).map (List.map f)
 |0,l=>rfl
 |n+1,l=>by
  rw[zej,zej,List.length_map,List.map_flatMap]
  congr 1
  funext k
  rw[List.getElem?_map]
  cases l[k]? with
  |none=>rfl
  |some a =>
   show List.map (f a::·) (zej n ((l.map f).eraseIdx k))=_
   rw[zpv,zj9 f n,List.map_map,List.map_map]
   rfl
def fac:Nat->Nat
 |0=>1
 |n+1=>(n+1) * fac n
theorem zdB{α:Type}{f:α->Nat}{c:Nat}:∀{l:List α},(∀ a∈l,f a=c)->(l.map f).sum=l.length * c
 |[],_=>by simp
 |a::l,h=>by
  rw[List.map_cons,List.sum_cons,zdB (fun b hb=>h b (List.mem_cons_of_mem _ hb)),h a List.mem_cons_self,List.length_cons,Nat.succ_mul,Nat.add_comm]
theorem zfe{α:Type}:∀(n:Nat)(l:List α),l.length=n->(zej n l).length=fac n
 |0,l,_=>rfl
 |n+1,l,h=>by
  rw[zej,List.length_flatMap,zdB (c:=fac n) fun k hk=>?_,List.length_range,h]
  ·rfl
  ·have hk':=List.mem_range.mp hk
   rw[List.getElem?_eq_getElem hk']
   show (List.map _ (zej n _)).length=_
   rw[List.length_map]
   exact zfe n _ (zk1 h hk')
def zbW:List (List (List Int))->List (List Int)
 |[]=>[[]]
 |c::cs=>c.flatMap fun x=>(zbW cs).map (x++·)
theorem zhS:∀{cs:List (List (List Int))}{r:List Int},r∈zbW cs ↔ ∃ ys,Paired (fun y c=>y∈c) ys cs/\ys.flatten=r
 |[],r=>by
  simp only[zbW,List.mem_singleton]
  constructor
  ·rintro rfl;exact ⟨[],.nil,rfl⟩
  ·rintro ⟨ys,h,rfl⟩;cases h;rfl
 |c::cs,r=>by
  simp only[zbW,List.mem_flatMap,List.mem_map]
  constructor
  ·rintro ⟨x,hx,s,hs,rfl⟩
   obtain ⟨ys,h1,rfl⟩:=zhS.mp hs
   exact ⟨x::ys,.cons hx h1,rfl⟩
  ·rintro ⟨ys,h,rfl⟩
   cases h with
   |cons h t=>exact ⟨_,h,_,zhS.mpr ⟨_,t,rfl⟩,rfl⟩
def zbq:List Nat->Nat
 |[]=>1
 |n::l=>n * zbq l
theorem zfy:∀ cs:List (List (List Int)),(zbW cs).length=zbq (cs.map List.length)
 |[]=>rfl
 |c::cs=>by
  rw[zbW,List.length_flatMap,zdB (c:=zbq (cs.map List.length)) fun x hx=>?_]
  ·rfl
  ·rw[List.length_map,zfy cs]
theorem zeV{a b:List Nat}(h:a.Perm b):zbq a=zbq b:=by
 induction h with
 |nil=>rfl
 |cons x h ih=>simp[zbq,ih]
 |swap x y l=>simp only[zbq];rw[<- Nat.mul_assoc,<- Nat.mul_assoc,Nat.mul_comm x y]
 |trans h1 h2 i1 i2=>exact i1.trans i2
def zh0(rows:List (List Int))(cs:List (List (List Int))):List (List Int):=cs.foldl (fun rows c=>rows.flatMap fun row=>c.map (row++·)) rows
theorem zkB:∀(cs:List (List (List Int)))(rows:List (List Int)),zh0 rows cs=rows.flatMap fun a=>(zbW cs).map (a++·)
 |[],rows=>by
  unfold zh0
  simp only[List.foldl_nil,zbW,List.map_cons,List.map_nil,List.append_nil]
  induction rows with
  |nil=>rfl
  |cons a r ih=>rw[List.flatMap_cons,<- ih];rfl
 |c::cs,rows=>by
  have:zh0 rows (c::cs)=zh0 (rows.flatMap fun row=>c.map (row++·)) cs:=rfl
  rw[this,zkB cs,List.flatMap_assoc]
  congr 1
  funext a
  rw[zbW,List.flatMap_map,List.map_flatMap]
  congr 1
  funext x
  rw[List.map_map]
  congr 1
  funext y
  show (a++x)++y=a++(x++y)
  rw[List.append_assoc]
theorem zjE(cs:List (List (List Int))):zh0 [[]] cs=zbW cs:=by
 rw[zkB]
 simp
mutual
def zar:Tr->List (List Int)
 |.lf g=>[[g]]
 |.nd r bs=>(if r=true then [zfG bs,(zfG bs).reverse] else zej bs.length (zfG bs)).flatMap zbW
def zfG:List Tr->List (List (List Int))
 |[]=>[]
 |t::l=>zar t::zfG l
end
theorem zgZ:∀ l:List Tr,zfG l=l.map zar
 |[]=>by simp[zfG]
 |t::l=>by simp[zfG,zgZ l]
def arr(r:Bool)(bs:List Tr):List (List Tr):=if r=true then [bs,bs.reverse] else zej bs.length bs
theorem zbk{r:Bool}{bs p:List Tr}(h:p∈arr r bs):p.Perm bs:=by
 unfold arr at h
 split at h
 ·simp only[List.mem_cons,List.not_mem_nil,or_false] at h
  rcases h with rfl|rfl
  ·exact .refl _
  ·exact List.reverse_perm _
 ·exact (zeM _ _ _ rfl).mp h
theorem zfh(r:Bool)(bs:List Tr):zar (.nd r bs)=(arr r bs).flatMap fun p=>zbW (p.map zar):=by
 rw[zar,zgZ]
 unfold arr
 cases r with
 |true=>simp
 |false =>
  simp only[Bool.false_eq_true,if_false]
  rw[zj9,List.flatMap_map]
theorem zdG{α β γ:Type}{F:α->γ->Prop}{f:β->γ}:∀{l:List α}{r:List β},Paired F l (r.map f) ↔ Paired (fun a b=>F a (f b)) l r
 |l,[]=>⟨fun h=>by cases h;exact .nil,fun h=>by cases h;exact .nil⟩
 |l,b::r=>⟨fun h=>by
   rw[List.map_cons] at h
   cases h with
   |cons h t=>exact .cons h (zdG.mp t),fun h=>by
   rw[List.map_cons]
   cases h with
   |cons h t=>exact .cons h (zdG.mpr t)⟩
def zjY(r:List Int)(p:List Tr):Prop:=∃ ys,Paired (fun y t=>y∈zar t) ys p/\ys.flatten=r
theorem zf3{r:List Int}{p:List Tr}:r∈zbW (p.map zar) ↔ zjY r p:=by
 rw[zhS]
 unfold zjY
 exact ⟨fun ⟨ys,h,e⟩=>⟨ys,zdG.mp h,e⟩,fun ⟨ys,h,e⟩=>⟨ys,zdG.mpr h,e⟩⟩
theorem zf0{b:Bool}{bs:List Tr}{r:List Int}:r∈zar (.nd b bs) ↔ ∃ p∈arr b bs,zjY r p:=by
 rw[zfh,List.mem_flatMap]
 exact ⟨fun ⟨p,h,e⟩=>⟨p,h,zf3.mp e⟩,fun ⟨p,h,e⟩=>⟨p,h,zf3.mpr e⟩⟩
theorem zi5{p q:List Tr}(h:p.Perm q):(zat p).Perm (zat q):=by
 rw[zcn,zcn]
 exact h.flatMap_right _
theorem zff{P:Tr->Prop}(H:∀ t,P t->∀ r∈zar t,r.Perm (zad t)):∀{p:List Tr}{ys:List (List Int)},(∀ t∈p,P t)->Paired (fun y t=>y∈zar t) ys p->ys.flatten.Perm (zat p)
 |[],_,_,.nil=>by simp[zat]
 |t::p,_,hP,.cons h r=>by
  rw[List.flatten_cons,zat]
  exact (H t (hP t List.mem_cons_self) _ h).append (zff H (fun u hu=>hP u (List.mem_cons_of_mem _ hu)) r)
theorem zk7:∀(n:Nat)(t:Tr),dep t<=n->∀ r∈zar t,r.Perm (zad t)
 |0,t,h,r,_=>by cases t <;> simp[dep] at h
 |n+1,.lf g,h,r,hr=>by
  rw[zar,List.mem_singleton] at hr
  subst hr;rw[zad]
 |n+1,.nd b bs,h,r,hr=>by
  obtain ⟨p,hp,ys,h1,rfl⟩:=zf0.mp hr
  simp only[dep] at h
  have hd:=zem.mp (by omega:zis bs<=n)
  rw[zad]
  exact (zff (P:=fun t=>dep t<=n) (fun t ht=>zk7 n t ht) (fun t ht=>hd t ((zbk hp).mem_iff.mp ht)) h1).trans (zi5 (zbk hp))
theorem zaS{t:Tr}{r:List Int}(h:r∈zar t):r.Perm (zad t):=zk7 _ t (Nat.le_refl _) r h
theorem zil{p:List Tr}{r:List Int}(h:zjY r p):r.Perm (zat p):=by
 obtain ⟨ys,h1,rfl⟩:=h
 exact zff (P:=fun _=>True) (fun t _ r hr=>zaS hr) (fun _ _=>trivial) h1
structure zf7(bs:List Tr):Prop where
 nd:(zat bs).Nodup
 ne:∀ t∈bs,zad t≠[]
theorem zbL{g:Int}{bs:List Tr}:g∈zat bs ↔ ∃ t∈bs,g∈zad t:=by
 rw[zcn,List.mem_flatMap]
theorem zdM:∀{bs:List Tr},(zat bs).Nodup->∀{t u:Tr}{g:Int},t∈bs->u∈bs->g∈zad t->g∈zad u->t=u
 |[],_,_,_,_,h,_,_,_=>by cases h
 |b::bs,hn,t,u,g,ht,hu,gt,gu=>by
  rw[zat,List.nodup_append] at hn
  obtain ⟨h1,h2,h3⟩:=hn
  rcases List.mem_cons.mp ht with e|ht' <;> rcases List.mem_cons.mp hu with e'|hu'
  ·rw[e,e']
  ·subst e;exact absurd rfl (h3 g gt g (zbL.mpr ⟨u,hu',gu⟩))
  ·subst e';exact absurd rfl (h3 g gu g (zbL.mpr ⟨t,ht',gt⟩))
  ·exact zdM h2 ht' hu' gt gu
theorem zix{bs:List Tr}(A:zf7 bs):∀{p q:List Tr}{ys zs:List (List Int)},(∀ t∈p,t∈bs)->(∀ t∈q,t∈bs)->Paired (fun y t=>y∈zar t) ys p->Paired (fun y t=>y∈zar t) zs q->ys.flatten=zs.flatten->p=q/\ys=zs
 |[],q,_,zs,_,hq,.nil,h2,e=>by
  cases h2 with
  |nil=>exact ⟨rfl,rfl⟩
  |@cons z t zs q h r =>
   exfalso
   have:=zaS h
   rw[List.flatten_nil,List.flatten_cons] at e
   have hz:z=[]:=(List.append_eq_nil_iff.mp e.symm).1
   subst hz
   exact A.ne t (hq t List.mem_cons_self) (this.symm.eq_nil)
 |t::p,q,_,zs,hp,hq,.cons (a:=y) (l₁:=ys) h r,h2,e=>by
  have hy:=zaS h
  have hyn:y≠[]:=fun z=>A.ne t (hp t List.mem_cons_self) (by subst z;exact hy.symm.eq_nil)
  cases h2 with
  |nil =>
   exfalso
   rw[List.flatten_nil,List.flatten_cons] at e
   exact hyn (List.append_eq_nil_iff.mp e).1
  |@cons z u zs q h' r' =>
   have hz:=zaS h'
   have hzn:z≠[]:=fun w=>A.ne u (hq u List.mem_cons_self) (by subst w;exact hz.symm.eq_nil)
   rw[List.flatten_cons,List.flatten_cons] at e
   obtain ⟨g,y',rfl⟩:=List.exists_cons_of_ne_nil hyn
   obtain ⟨g',z',rfl⟩:=List.exists_cons_of_ne_nil hzn
   have eg:g=g':=by simp only[List.cons_append] at e;exact (List.cons.inj e).1
   subst eg
   have tu:t=u:=zdM A.nd (hp t List.mem_cons_self) (hq u List.mem_cons_self) (hy.mem_iff.mp List.mem_cons_self) (hz.mem_iff.mp List.mem_cons_self)
   subst tu
   have el:(g::y').length=(g::z').length:=hy.length_eq.trans hz.length_eq.symm
   obtain ⟨e1,e2⟩:=List.append_inj e el
   obtain ⟨e3,e4⟩:=zix A (fun u hu=>hp u (List.mem_cons_of_mem _ hu)) (fun u hu=>hq u (List.mem_cons_of_mem _ hu)) r r' e2
   exact ⟨by rw[e3],by rw[e1,e4]⟩
theorem zkA{bs:List Tr}(A:zf7 bs){p q:List Tr}{r:List Int}(hp:∀ t∈p,t∈bs)(hq:∀ t∈q,t∈bs)(h1:zjY r p)(h2:zjY r q):p=q:=by
 obtain ⟨ys,a1,rfl⟩:=h1
 obtain ⟨zs,b1,e⟩:=h2
 exact (zix A hp hq a1 b1 e.symm).1
theorem zcl:∀{bs:List Tr},zf7 bs->bs.Nodup
 |[],_=>.nil
 |b::bs,A=>by
  have hn:=A.nd
  rw[zat,List.nodup_append] at hn
  refine List.nodup_cons.mpr ⟨fun hb=>?_,zcl ⟨hn.2.1,fun t ht=>A.ne t (List.mem_cons_of_mem _ ht)⟩⟩
  obtain ⟨g,y,e⟩:=List.exists_cons_of_ne_nil (A.ne b List.mem_cons_self)
  have hg:g∈zad b:=by rw[e];exact List.mem_cons_self
  exact absurd rfl (hn.2.2 g hg g (zbL.mpr ⟨b,hb,hg⟩))
theorem zhb{bs:List Tr}(A:zf7 bs):∀{p:List Tr},(∀ t∈p,t∈bs)->(∀ t∈p,(zar t).Nodup)->(zbW (p.map zar)).Nodup
 |[],_,_=>by simp[zbW]
 |t::p,hp,hn=>by
  rw[List.map_cons,zbW]
  refine List.pairwise_flatMap.mpr ⟨fun x hx=>?_,?_⟩
  ·exact List.pairwise_map.mpr ((zhb A (fun u hu=>hp u (List.mem_cons_of_mem _ hu)) fun u hu=>hn u (List.mem_cons_of_mem _ hu)).imp fun {a b} hab e=>hab (List.append_cancel_left e))
  ·refine (List.Pairwise.imp_of_mem ?_ (hn t List.mem_cons_self))
   intro x y hx hy hxy u hu v hv e
   obtain ⟨a,_,rfl⟩:=List.mem_map.mp hu
   obtain ⟨b,_,rfl⟩:=List.mem_map.mp hv
   exact hxy (List.append_inj e ((zaS hx).length_eq.trans (zaS hy).length_eq.symm)).1
theorem zc5{n:Nat}{b:Bool}{bs:List Tr}(hd:dep (.nd b bs)<=n+1)(ho:okT (.nd b bs)=true)(hn:(zad (.nd b bs)).Nodup):zf7 bs/\∀ t∈bs,dep t<=n/\okT t=true/\(zad t).Nodup:=by
 simp only[dep] at hd
 rw[zad] at hn
 rw[okT,Bool.and_eq_true,zkV,List.all_eq_true] at ho
 have h:=zem.mp (by omega:zis bs<=n)
 refine ⟨⟨hn,fun t ht=>zew n t (h t ht) (ho.2 t ht)⟩,fun t ht=>⟨h t ht,ho.2 t ht,?_⟩⟩
 rw[zcn] at hn
 exact (List.pairwise_flatMap.mp hn).1 t ht
theorem zmX{b:Bool}{bs:List Tr}(h:(if b then 3 else 2)<=bs.length)(hn:bs.Nodup):(arr b bs).Nodup:=by
 unfold arr
 split
 ·rename_i hb
  subst hb
  simp only[if_true] at h
  simp only[List.nodup_cons,List.mem_singleton,List.not_mem_nil,not_false_iff,List.nodup_nil,and_true]
  intro e
  match bs,h,hn,e with
  |a::b::r,h,hn,e =>
   have h1:(a::b::r)[0]? = (a::b::r).reverse[0]? := by rw[<- e]
   rw[List.getElem?_reverse (by simp)] at h1
   simp only[List.getElem?_cons_zero,List.length_cons] at h1
   have h2:=List.mem_iff_getElem?.mpr ⟨r.length,by
    have:(a::b::r)[r.length+1+1-1-0]? = (b::r)[r.length]? := by
     show (a::b::r)[r.length+1]? = _
     rw[List.getElem?_cons_succ]
    rw[<- this,<- h1]⟩
   exact (List.nodup_cons.mp hn).1 h2
 ·exact ziU _ _ rfl hn
theorem zeP:∀(n:Nat)(t:Tr),dep t<=n->okT t=true->(zad t).Nodup->(zar t).Nodup
 |0,t,h,_,_=>by cases t <;> simp[dep] at h
 |n+1,.lf g,_,_,_=>by rw[zar];simp
 |n+1,.nd b bs,hd,ho,hn=>by
  obtain ⟨A,H⟩:=zc5 hd ho hn
  rw[okT,Bool.and_eq_true,decide_eq_true_eq] at ho
  rw[zfh]
  refine List.pairwise_flatMap.mpr ⟨fun p hp=>?_,?_⟩
  ·exact zhb A (fun t ht=>(zbk hp).mem_iff.mp ht) fun t ht=>by
    obtain ⟨h1,h2,h3⟩:=H t ((zbk hp).mem_iff.mp ht)
    exact zeP n t h1 h2 h3
  ·refine List.Pairwise.imp_of_mem ?_ (zmX ho.1 (zcl A))
   intro p q hp hq hpq x hx y hy e
   subst e
   exact hpq (zkA A (fun t ht=>(zbk hp).mem_iff.mp ht) (fun t ht=>(zbk hq).mem_iff.mp ht) (zf3.mp hx) (zf3.mp hy))
def zbf(n:Nat):Nat->List (List Int)
 |0=>[[]]
 |j+1=>(zbf n j).flatMap fun row=>((zaD n).filter fun g=>!decide (g∈row)).map fun g=>row++[g]
theorem zcQ{n:Nat}:∀{j:Nat}{r:List Int},r∈zbf n j ↔ r.length=j/\r.Nodup/\∀ x∈r,x∈zaD n
 |0,r=>by
  simp only[zbf,List.mem_singleton]
  constructor
  ·rintro rfl;simp
  ·rintro ⟨h,_⟩;exact List.length_eq_zero_iff.mp h
 |j+1,r=>by
  simp only[zbf,List.mem_flatMap,List.mem_map,List.mem_filter,Bool.not_eq_true',decide_eq_false_iff_not]
  constructor
  ·rintro ⟨row,hr,g,⟨hg,hn⟩,rfl⟩
   obtain ⟨h1,h2,h3⟩:=zcQ.mp hr
   refine ⟨by simp[h1],?_,fun x hx=>?_⟩
   ·rw[List.nodup_append]
    refine ⟨h2,by simp,fun a ha b hb e=>?_⟩
    rw[List.mem_singleton] at hb
    subst hb;subst e;exact hn ha
   ·rcases List.mem_append.mp hx with hx|hx
    ·exact h3 x hx
    ·rw[List.mem_singleton] at hx;subst hx;exact hg
  ·rintro ⟨h1,h2,h3⟩
   have hne:r≠[]:=fun z=>by subst z;simp at h1
   have e:=List.dropLast_concat_getLast hne
   rw[<- e] at h2 h3
   rw[List.nodup_append] at h2
   refine ⟨r.dropLast,zcQ.mpr ⟨by simp[h1],h2.1,fun x hx=>h3 x (List.mem_append_left _ hx)⟩,r.getLast hne,⟨h3 _ (List.mem_append_right _ (by simp)),fun hx=>h2.2.2 _ hx _ (by simp) rfl⟩,e⟩
theorem zmr{x y:List Int}:∀ a:List Int,Ts.lxB (a++x) (a++y)=Ts.lxB x y
 |[]=>rfl
 |b::a=>by simp[Ts.lxB,zmr a]
theorem zkO{x y:List Int}:∀{a b:List Int},a.length=b.length->Ts.lxB a b=true->Ts.lxB (a++x) (b++y)=true
 |[],[],_,h=>by simp[Ts.lxB] at h
 |[],_::_,h,_=>by simp at h
 |_::_,[],h,_=>by simp at h
 |c::a,d::b,h,k=>by
  simp only[List.cons_append,Ts.lxB] at k ⊢
  split at k
  ·rename_i e
   rw[if_pos e]
   exact zkO (by simpa using h) k
  ·rename_i e
   rw[if_neg e];exact k
theorem zmU(n:Nat):(zaD n).Pairwise (· < ·):=by
 unfold zaD
 exact List.pairwise_map.mpr (List.pairwise_lt_range.imp fun h=>by omega)
theorem zfW(n:Nat):∀ j,(zbf n j).Pairwise (fun a b=>Ts.lxB a b=true)
 |0=>by simp[zbf]
 |j+1=>by
  rw[zbf]
  refine List.pairwise_flatMap.mpr ⟨fun row _=>?_,?_⟩
  ·refine List.pairwise_map.mpr (((zmU n).filter _).imp fun {a b} hab=>?_)
   rw[zmr]
   simp only[Ts.lxB]
   rw[if_neg (by omega)]
   simpa using hab
  ·refine List.Pairwise.imp_of_mem ?_ (zfW n j)
   intro a b ha hb hab x hx y hy
   obtain ⟨g,_,rfl⟩:=List.mem_map.mp hx
   obtain ⟨h,_,rfl⟩:=List.mem_map.mp hy
   exact zkO ((zcQ.mp ha).1.trans (zcQ.mp hb).1.symm) hab
theorem ztY{a b:List Int}(h:Ts.lxB a b=true):leL a b=true:=by
 unfold leL
 rw[Bool.not_eq_true']
 cases e:Ts.lxB b a with
 |false=>rfl
 |true=>exact absurd (Ts.lxB_tr h e) (by rw[Ts.lxB_irr];simp)
theorem ztC{a b:List Int}(h:Ts.lxB a b=true):a≠b:=fun e=>by
 subst e;rw[Ts.lxB_irr] at h;cases h
theorem zjW(n j:Nat):(zbf n j).Nodup:=(zfW n j).imp fun h=>ztC h
theorem zfM{α:Type} [BEq α] [LawfulBEq α] {a b:List α} (ha:a.Nodup) (hb:b.Nodup) (h:∀ x,x∈a ↔ x∈b):a.Perm b:=by
 rw[List.perm_iff_count]
 intro x
 by_cases hx:x∈a
 ·rw[ha.count,hb.count,if_pos hx,if_pos ((h x).mp hx)]
 ·rw[ha.count,hb.count,if_neg hx,if_neg fun z=>hx ((h x).mpr z)]
theorem zf9{n:Nat}{r:List Int}:r∈zbf n n ↔ r.Perm (zaD n):=by
 rw[zcQ]
 constructor
 ·rintro ⟨h1,h2,h3⟩
  exact zeW r (zaD n) h2 h3 (by rw[zbJ];omega)
 ·intro h
  exact ⟨by rw[h.length_eq,zbJ],h.symm.nodup (zc7 n),fun x hx=>h.mem_iff.mp hx⟩
theorem zj3{n:Nat}{t:Tr}(ho:okT t=true)(hp:(zad t).Perm (zaD n)):zc1 (zar t)=(zbf n n).filter fun r=>decide (r∈zar t):=by
 have hn:(zar t).Nodup:=zeP _ t (Nat.le_refl _) ho (hp.symm.nodup (zc7 n))
 refine zhM ((zcT _).trans (zfM hn ((zjW n n).filter _) fun r=>?_)) (zgg _) (((zfW n n).filter _).imp fun h=>ztY h)
 rw[List.mem_filter,decide_eq_true_eq,zf9]
 exact ⟨fun h=>⟨(zaS h).trans hp,h⟩,fun h=>h.2⟩
theorem ziy{α:Type} [BEq α] [LawfulBEq α]:∀{a b:List α},a.Nodup->(∀ x∈a,x∈b)->a.length<=b.length
 |[],_,_,_=>Nat.zero_le _
 |x::a,b,hn,h=>by
  have hx:=h x List.mem_cons_self
  have:=ziy (a:=a) (b:=b.erase x) (List.nodup_cons.mp hn).2 fun y hy=>by
   have hne:y≠x:=fun e=>(List.nodup_cons.mp hn).1 (by rw[<- e];exact hy)
   exact (List.mem_erase_of_ne hne).mpr (h y (List.mem_cons_of_mem _ hy))
  have e:=List.length_erase_of_mem hx
  have:0<b.length:=List.length_pos_of_mem hx
  rw[List.length_cons]
  omega
theorem zhE{t:Tr}(ho:okT t=true)(hn:(zad t).Nodup):(zar t).length<=fac (zad t).length:=by
 rw[<- zfe _ (zad t) rfl]
 exact ziy (zeP _ t (Nat.le_refl _) ho hn) fun r hr=>(zeM _ _ _ rfl).mpr (zaS hr)
theorem zkn:∀ n,1<=fac n
 |0=>Nat.le_refl _
 |n+1=>by
  have:=zkn n
  rw[fac]
  exact Nat.le_trans this (Nat.le_mul_of_pos_left _ (Nat.succ_pos n))
theorem zjP(b:Nat):∀ a,fac a * fac b<=fac (a+b)
 |0=>by simp[fac]
 |a+1=>by
  rw[show a+1+b=(a+b)+1 by omega,fac,fac,Nat.mul_assoc]
  exact Nat.le_trans (Nat.mul_le_mul_left _ (zjP b a)) (Nat.mul_le_mul_right _ (by omega))
theorem znG{a b:Nat}(h:a<=b):fac a<=fac b:=by
 obtain ⟨c,rfl⟩:=Nat.le.dest h
 exact Nat.le_trans (Nat.le_mul_of_pos_right _ (zkn c)) (zjP c a)
theorem zrB{m:Nat}(h:m<=6):fac m<=720:=znG (b:=6) h
theorem zkN:∀{p:List Tr},(∀ t∈p,(zar t).length<=fac (zad t).length)->zbq (p.map fun t=>(zar t).length)<=fac (zat p).length
 |[],_=>by simp[zbq,zat,fac]
 |t::p,h=>by
  rw[List.map_cons,zbq,zat,List.length_append]
  exact Nat.le_trans (Nat.mul_le_mul (h t List.mem_cons_self) (zkN fun u hu=>h u (List.mem_cons_of_mem _ hu))) (zjP _ _)
mutual
def zgv:Tr->Nat
 |.lf _=>1
 |.nd r bs=>zfv r bs 1 (if r=true then 2 else 1)
def zfv(r:Bool):List Tr->Nat->Nat->Nat
 |[],_,acc=>acc
 |t::l,i,acc=>zfv r l (i+1) (acc * zgv t * (if r=true then 1 else i))
end
theorem zkE:∀(l:List Tr)(i acc:Nat),zfv true l i acc=acc * zbq (l.map zgv)
 |[],_,acc=>by simp[zfv,zbq]
 |t::l,i,acc=>by
  rw[zfv,zkE l]
  simp[zbq,Nat.mul_assoc]
theorem zkz:∀(l:List Tr)(i acc:Nat),fac i * zfv false l (i+1) acc=acc * zbq (l.map zgv) * fac (i+l.length)
 |[],i,acc=>by simp[zfv,zbq,Nat.mul_comm]
 |t::l,i,acc=>by
  have ih:=zkz l (i+1) (acc * zgv t * (i+1))
  rw[zfv]
  simp only[Bool.false_eq_true,if_false,List.map_cons,zbq,List.length_cons]
  rw[fac,Nat.mul_assoc,show i+1+l.length=i+(l.length+1) by omega] at ih
  refine Nat.eq_of_mul_eq_mul_left (Nat.succ_pos i) (ih.trans ?_)
  simp only[Nat.mul_assoc,Nat.mul_left_comm,Nat.mul_comm]
theorem zjO:∀(n:Nat)(t:Tr),dep t<=n->zgv t=(zar t).length
 |0,t,h=>by cases t <;> simp[dep] at h
 |n+1,.lf g,_=>by rw[zgv,zar];rfl
 |n+1,.nd r bs,h=>by
  simp only[dep] at h
  have hd:=zem.mp (by omega:zis bs<=n)
  have e:bs.map zgv=bs.map fun t=>(zar t).length:=List.map_congr_left fun t ht=>zjO n t (hd t ht)
  rw[zfh,List.length_flatMap,zdB (c:=zbq (bs.map zgv)) fun p hp=>?_,zgv]
  ·cases r with
   |true =>
    rw[zkE]
    rfl
   |false =>
    have:=zkz bs 0 1
    simp only[fac,Nat.one_mul,Nat.zero_add] at this
    show zfv false bs 1 1=_
    rw[this]
    show _=(zej bs.length bs).length * _
    rw[zfe _ _ rfl,Nat.mul_comm]
  ·rw[zfy,List.map_map,e]
   exact zeV ((zbk hp).map _)
theorem ziF{α:Type}{g:DG}{body:DS}{u:α->Dt}{l:List α}{I:List α->Ev->Prop}(H:∀ dn a zbm,l=dn++a::zbm->∀ ρ,I dn ρ->∃ ρ1 ρ2,g (u a) ρ=.ok ρ1/\body ρ1=.ok (.nx,ρ2)/\I (dn++[a]) ρ2) :
  ∀(todo dn:List α)(ρ:Ev),l=dn++todo->I dn ρ->∃ ρ',I l ρ'/\zlk g body (todo.map u) ρ=.ok (.nx,ρ')
 |[],dn,ρ,e,h=>by rw[List.append_nil] at e;subst e;exact ⟨ρ,h,rfl⟩
 |a::todo,dn,ρ,e,h=>by
  obtain ⟨ρ1,ρ2,h1,h2,h3⟩:=H dn a todo e ρ h
  obtain ⟨ρ',h4,h5⟩:=ziF H todo (dn++[a]) ρ2 (by rw[e];simp) h3
  refine ⟨ρ',h4,?_⟩
  rw[List.map_cons,zlk,h1]
  simp only[R.bind_ok,h2]
  exact h5
theorem zbc{α:Type}{fi:DA}{g:DG}{body:DS}{u:α->Dt}{l:List α}{ds:List Dt}{I:List α->Ev->Prop}{ρ ρ0:Ev}(hi:fi ρ=.ok (ds,ρ0))(hd:ds=l.map u)(h0:I [] ρ0)(H:∀ dn a zbm,l=dn++a::zbm->∀ ρ,I dn ρ->∃ ρ1 ρ2,g (u a) ρ=.ok ρ1/\body ρ1=.ok (.nx,ρ2)/\I (dn++[a]) ρ2) :
  ∃ ρ',I l ρ'/\zeI fi g body ρ=.ok (.nx,ρ'):=by
 subst hd
 obtain ⟨ρ',h1,h2⟩:=ziF H l [] ρ0 rfl h0
 refine ⟨ρ',h1,?_⟩
 unfold zeI
 rw[hi]
 exact h2
theorem zgu{i:Nat}{fa:De}{ρ ρ1:Ev}{l0 ds l:List Dt}{d:Dt}(h0:ρ[i]? = some (some (.own l0)))(h:fa ρ=.ok (d,ρ1))(h1:ρ1[i]? = some (some (.own ds)))(hd:zpE d=some l)(hl:ds.length+l.length<=16777216):zft i fa ρ=.ok (.non,ρ1.set i (some (.own (ds++l)))):=by
 unfold zft
 simp only[h0,h,R.bind_ok,h1,hd,hl,if_true]
theorem zlQ{i:Nat}{fa:De}{ρ ρ1:Ev}{l0 ds:List Dt}{d:Dt}(h0:ρ[i]? = some (some (.own l0)))(h:fa ρ=.ok (d,ρ1))(h1:ρ1[i]? = some (some (.own ds)))(hl:ds.length<16777216):zda i fa ρ=.ok (.non,ρ1.set i (some (.own (ds++[d])))):=by
 unfold zda
 simp only[h0,h,R.bind_ok,h1,hl,if_true]
theorem zp3{fa fb:De}{ρ ρ1 ρ2:Ev}{x y:List Dt}(h:fa ρ=.ok (.lst x,ρ1))(h2:fb ρ1=.ok (.lst y,ρ2))(hl:x.length+y.length<=16777216):zfO fa fb ρ=.ok (x++y,ρ2):=by
 unfold zfO
 simp only[h,h2,R.bind_ok,hl,if_true]
theorem zn2{x y:List Dt}(hl:x.length+y.length<=16777216):zeR (.tup x) (.tup y)=.ok (.tup (x++y)):=by
 unfold zeR
 simp only[hl,if_true]
theorem zlR{fa:De}{fl fh:DO}{ρ ρ1 ρ2 ρ3:Ev}{x:List Dt}{lo hi:Option Int}(h:fa ρ=.ok (.lst x,ρ1))(h1:fl ρ1=.ok (lo,ρ2))(h2:fh ρ2=.ok (hi,ρ3)):zlH fa fl fh ρ=.ok (zgw x lo hi,ρ3):=by
 unfold zlH
 simp only[h,h1,h2,R.bind_ok]
theorem zj6{fa:De}{fl fh:DO}{ρ ρ1 ρ2 ρ3:Ev}{x:List Dt}{lo hi:Option Int}(h:fa ρ=.ok (.tup x,ρ1))(h1:fl ρ1=.ok (lo,ρ2))(h2:fh ρ2=.ok (hi,ρ3)):zfa fa fl fh ρ=.ok (.tup (zgw x lo hi),ρ3):=by
 unfold zfa
 simp only[h,h1,h2,R.bind_ok]
theorem zqC{fa:De}{ρ ρ1:Ev}{i:Int}(h:fa ρ=.ok (.int i,ρ1)):dO1 fa ρ=.ok (some i,ρ1):=by
 unfold dO1
 simp only[h,R.bind_ok]
abbrev zqH(F:FD):De:=zal F (dR (dFz (zfO (dFz (zlH (zaa 0) dO0 (dO1 (zaa 2)))) (dFz (zlH (zaa 0) (dO1 (dOp zdv (zaa 2) (dC (.int 1)))) dO0)))) dR0)
abbrev oApp:DS:=dEx (zda 1 (dFz (zfO (dFz (zch (dA (dOp gIx (zaa 0) (zaa 2)) dA0))) (zaa 3))))
abbrev oIn(F:FD):DS:=zeI (dIt (zqH F)) (zba 3) oApp
theorem znb(F:FD):zcr F=zaw (dIf (dTB (dOp (gEq false) (dFn zcU (dA (zaa 0) dA0)) (dC (.int 0)))) (zbo (dC (.lst [(.lst [])]))) dNx) (zaw (zbp 1 (zch dA0)) (zaw (zeI (zb6 (dFn zcU (dA (zaa 0) dA0))) (zba 2) (oIn F)) (zbo (zdt 1)))):=rfl
def zm5(l:List Dt)(k:Nat):List Dt:=match l[k]? with
 |some a=>((zej (l.length-1) (l.eraseIdx k)).map (a::·)).map .lst
 |none=>[]
theorem zqf{α:Type}(l:List α)(k:Nat):l.take k++l.drop (k+1)=l.eraseIdx k:=(List.eraseIdx_eq_take_drop_succ l k).symm
theorem zot{F:FD}{l acc:List Dt}{k:Nat}{o3:Option B}(hk:k<l.length)(hl:l.length<=6)(ha:acc.length<=10000)
  (hF:F [.val (.lst (l.eraseIdx k))]=.ok (.lst ((zej (l.length-1) (l.eraseIdx k)).map .lst),[.val .non])) :
  ∃ o',oIn F [some (.val (.lst l)),some (.own acc),some (.val (.int (k:Nat))),o3]=.ok (.nx,[some (.val (.lst l)),some (.own (acc++zm5 l k)),some (.val (.int (k:Nat))),o']):=by
 have el:(l.eraseIdx k).length=l.length-1:=by rw[List.length_eraseIdx,if_pos hk]
 have e72:(zej (l.length-1) (l.eraseIdx k)).length<=720:=by rw[zfe _ _ el];exact zrB (by omega)
 let ρ0:Ev:=[some (.val (.lst l)),some (.own acc),some (.val (.int (k:Nat))),o3]
 have hc:dIt (zqH F) ρ0=.ok ((zej (l.length-1) (l.eraseIdx k)).map .lst,ρ0):=by
  unfold dIt
  have:zqH F ρ0=.ok (.lst ((zej (l.length-1) (l.eraseIdx k)).map .lst),ρ0):=by
   refine zdP (l:=[.val .non]) (ρ':=ρ0) (zb3 (zp3 (ρ1:=ρ0) (zb3 (zlR (ρ1:=ρ0) (ρ2:=ρ0) (lo:=none) (hi:=some (k:Int)) rfl rfl rfl)) (zb3 (zlR (ρ1:=ρ0) (ρ2:=ρ0) (lo:=some ((k:Int)+1)) (hi:=none) rfl rfl rfl)) ?_)) ?_
   ·rw[zmq hk,zky hk]
    simp;omega
   ·rw[zmq hk,zky hk,zqf];exact hF
  rw[this];rfl
 obtain ⟨ρ',⟨o',rfl⟩,e⟩:=zbc (u:=Dt.lst) (g:=zba 3) (body:=oApp) (I:=fun dn ρ=>∃ o',ρ=[some (.val (.lst l)),some (.own (acc++dn.map fun r=>.lst (l[k]::r))),some (.val (.int (k:Nat))),o']) hc rfl ⟨o3,by simp[ρ0]⟩
  (fun dn r zbm e ρ ⟨o',hρ⟩=>by
   subst hρ
   have hr:r∈zej (l.length-1) (l.eraseIdx k):=by rw[e];simp
   have hrl:r.length<=6:=by rw[((zeM _ _ _ el).mp hr).length_eq,el];omega
   have hdn:dn.length<=720:=by rw[e,List.length_append] at e72;omega
   let ρ1:Ev:=[some (.val (.lst l)),some (.own (acc++dn.map fun r=>.lst (l[k]::r))),some (.val (.int (k:Nat))),some (.val (.lst r))]
   refine ⟨ρ1,_,rfl,zes (zlQ (ρ1:=ρ1) (l0:=acc++dn.map fun r=>.lst (l[k]::r)) (ds:=acc++dn.map fun r=>.lst (l[k]::r)) (d:=.lst ([l[k]]++r)) rfl ?_ rfl ?_),some (.val (.lst r)),?_⟩
   ·refine zb3 (zp3 (ρ1:=ρ1) (zb3 (zq9 (zqA (ρ1:=ρ1) (za0 (ρ1:=ρ1) rfl rfl (znu (v:=(k:Nat)) (by omega) (by omega) (by simp[hk]))) rfl) (by simp))) rfl ?_)
    simp;omega
   ·simp only[List.length_append,List.length_map];omega
   ·simp[ρ1])
 refine ⟨o',e.trans ?_⟩
 unfold zm5
 rw[List.getElem?_eq_getElem hk]
 simp[List.map_map]
theorem zrx(l:List Dt)(h:0<l.length):(zej l.length l).map .lst=(List.range l.length).flatMap (zm5 l):=by
 obtain ⟨m,hm⟩ : ∃ m,l.length=m+1:=⟨l.length-1,by omega⟩
 rw[hm,zej,List.map_flatMap,hm]
 congr 1
 funext k
 unfold zm5
 rw[hm]
 cases l[k]? <;> rfl
theorem zpi{l:List Dt}{k:Nat}(hl:l.length<=6)(hk:k<l.length):(zm5 l k).length<=720:=by
 unfold zm5
 rw[List.getElem?_eq_getElem hk]
 simp only[List.length_map]
 rw[zfe _ _ (by rw[List.length_eraseIdx,if_pos hk])]
 exact zrB (by omega)
theorem zkF{α β:Type}{f:α->List β}{c:Nat}:∀{l:List α},(∀ a∈l,(f a).length<=c)->(l.flatMap f).length<=l.length * c
 |[],_=>by simp
 |a::l,h=>by
  rw[List.flatMap_cons,List.length_append,List.length_cons,Nat.succ_mul]
  have:=zkF (l:=l) fun b hb=>h b (List.mem_cons_of_mem _ hb)
  have:=h a List.mem_cons_self
  omega
theorem zpS{m:Nat}(h:m<=1000):zgf (m:Int)=true:=by
 unfold zgf
 rw[Bool.and_eq_true,decide_eq_true_eq,decide_eq_true_eq]
 omega
def ztR(j:Int)(ρ:Ev):R (List Dt×Ev):=if zgf j=true then .ok (zb4 0 j.toNat,ρ) else .no
theorem zma{j:Int}{ρ:Ev}(h:zgf j=true):ztR j ρ=.ok (zb4 0 j.toNat,ρ):=if_pos h
theorem zp9{fa:De}{ρ ρ1:Ev}{j:Int}(h:fa ρ=.ok (.int j,ρ1)):zb6 fa ρ=ztR j ρ1:=by
 unfold zb6 ztR
 rw[h]
 rfl
theorem ziQ{fa:De}{ρ ρ1:Ev}{m:Nat}(h:fa ρ=.ok (.int (m:Nat),ρ1))(hm:m<=1000):zb6 fa ρ=.ok ((List.range m).map fun k:Nat=>Dt.int k,ρ1):=by
 rw[zp9 h,zma (zpS hm),Int.toNat_natCast]
 unfold zb4
 simp only[Int.zero_add]
theorem zj7{F:FD}{n:Nat}(IH:∀ l:List Dt,l.length<n->l.length<=6->F [.val (.lst l)]=.ok (.lst ((zej l.length l).map .lst),[.val .non]))(l:List Dt)(h:l.length<n+1)(hl:l.length<=6):za2 false [false] 3 (zcr F) [.val (.lst l)]=.ok (.lst ((zej l.length l).map .lst),[.val .non]):=by
  by_cases h0:l.length=0
  ·have:l=[]:=List.length_eq_zero_iff.mp h0
   subst this
   refine zav (d:=.lst [.lst []]) (ρ':=[some (.val (.lst [])),none,none,none]) rfl ?_ rfl
   show zcr F [some (.val (.lst [])),none,none,none]=_
   rw[znb,zcu (ρ1:=[some (.val (.lst [])),none,none,none]) (d:=.lst [.lst []])]
   rw[zfr (ρ1:=[some (.val (.lst [])),none,none,none]) (zaE (za0 (d:=.int 0) (e:=.int 0) (ρ1:=[some (.val (.lst [])),none,none,none]) rfl rfl gEqI))]
   rfl
  ·let ρ0:Ev:=[some (.val (.lst l)),none,none,none]
   let ρ1:Ev:=[some (.val (.lst l)),some (.own []),none,none]
   have hlen:∀(a b c:Option B),dFn zcU (dA (zaa 0) dA0) [some (.val (.lst l)),a,b,c]=.ok (.int l.length,[some (.val (.lst l)),a,b,c]):=fun a b c=>rfl
   have x1:dIf (dTB (dOp (gEq false) (dFn zcU (dA (zaa 0) dA0)) (dC (.int 0)))) (zbo (dC (.lst [(.lst [])]))) dNx ρ0=.ok (.nx,ρ0):=by
    rw[zc0 (zaE (ρ1:=ρ0) (b:=false) (za0 (ρ1:=ρ0) (hlen _ _ _) rfl ?_))]
    ·rfl
    ·rw[gEqI]
     simp only[Bool.false_eq_true,if_false]
     congr 2
     exact beq_false_of_ne (by omega)
   have hr:zb6 (dFn zcU (dA (zaa 0) dA0)) ρ1=.ok ((List.range l.length).map fun k:Nat=>Dt.int k,ρ1):=by
    exact ziQ (hlen _ _ _) (by omega)
   obtain ⟨ρ',⟨o2,o3,rfl⟩,e⟩:=zbc (u:=fun k:Nat=>Dt.int k) (g:=zba 2) (body:=oIn F) (I:=fun dn ρ=>∃ o2 o3,ρ=[some (.val (.lst l)),some (.own (dn.flatMap (zm5 l))),o2,o3]) hr rfl ⟨none,none,rfl⟩
    (fun dn k zbm e ρ ⟨o2,o3,hρ⟩=>by
     subst hρ
     have hk:k<l.length:=List.mem_range.mp (by rw[e];simp)
     have hin:∀ a∈dn,a<l.length:=fun a ha=>List.mem_range.mp (by rw[e];exact List.mem_append_left _ ha)
     have hdl:dn.length<=6:=by
      have:=congrArg List.length e
      simp at this;omega
     have ha:(dn.flatMap (zm5 l)).length<=10000:=by
      have:=zkF (f:=zm5 l) (c:=720) (l:=dn) fun a ha=>zpi hl (hin a ha)
      have:=Nat.mul_le_mul_right 720 hdl
      omega
     obtain ⟨o',e'⟩:=zot (F:=F) (acc:=dn.flatMap (zm5 l)) (o3:=o3) hk hl ha (by
      have el:(l.eraseIdx k).length=l.length-1:=by rw[List.length_eraseIdx,if_pos hk]
      have:=IH (l.eraseIdx k) (by rw[el];omega) (by rw[el];omega)
      rw[el] at this
      exact this)
     refine ⟨[some (.val (.lst l)),some (.own (dn.flatMap (zm5 l))),some (.val (.int (k:Nat))),o3],_,rfl,e',some (.val (.int (k:Nat))),o',?_⟩
     rw[List.flatMap_append,List.flatMap_singleton])
   refine zav (ρ':=[some (.val (.lst l)),some (.val (.lst ((zej l.length l).map .lst))),o2,o3]) rfl ?_ rfl
   show zcr F ρ0=_
   rw[znb,zag x1,zag (ρ1:=ρ1) rfl,zag e,<- zrx l (by omega)]
   rfl
theorem zgn:∀(n:Nat)(l:List Dt),l.length<n->l.length<=6->zcy n [.val (.lst l)]=.ok (.lst ((zej l.length l).map .lst),[.val .non])
 |0,l,h,_=>by omega
 |n+1,l,h,hl=>zj7 (zgn n) l h hl
theorem zmH(a b:List (List Int)):lp (a++b)=lp a++lp b:=by unfold lp;rw[List.map_append]
theorem zgt(a:List (List Int)):(lp a).length=a.length:=by unfold lp;rw[List.length_map]
theorem zpP(a b:List Int):Dt.tup (a.map .int++b.map .int)=tz (a++b):=by unfold tz;rw[List.map_append]
abbrev zsx:De:=dFz (zbh (dIt (zaa 2)) (zba 5) dTT (dOp zeR (zaa 4) (zaa 5)) 1)
abbrev sIn:DS:=zeI (dIt (zaa 1)) (zba 4) (dEx (zft 3 zsx))
abbrev ztp:DS:=zaw (zbp 3 (zch dA0)) (zaw sIn (zaU 1 (zdt 3)))
theorem zlz:zhq=zaw (zaU 1 (dC (.lst [(.tup [])]))) (zaw (zeI (dIt (zaa 0)) (zba 2) ztp) (zbo (zaa 1))):=rfl
def stp(c:List (List Int))(row:List Int):List (List Int):=c.map (row++·)
theorem zrd(c:List (List Int))(row:List Int):(stp c row).length=c.length:=by unfold stp;rw[List.length_map]
theorem zoh{ch o4:Option B}{R c:List (List Int)}(hc:c.length<=1000)(hR:R.length * c.length<=10000)(hl:∀ r∈R,∀ y∈c,r.length+y.length<=1000) :
  ∃ o',sIn [ch,some (.val (.lst (lp R))),some (.val (.lst (lp c))),some (.own []),o4]=.ok (.nx,[ch,some (.val (.lst (lp R))),some (.val (.lst (lp c))),some (.own (lp (R.flatMap (stp c)))),o']):=by
 let ρ0:Ev:=[ch,some (.val (.lst (lp R))),some (.val (.lst (lp c))),some (.own []),o4]
 obtain ⟨ρ',⟨o',rfl⟩,e⟩:=zbc (u:=tz) (l:=R) (g:=zba 4) (body:=dEx (zft 3 zsx)) (ρ:=ρ0) (ρ0:=ρ0) (ds:=lp R) (I:=fun dn ρ=>∃ o',ρ=[ch,some (.val (.lst (lp R))),some (.val (.lst (lp c))),some (.own (lp (dn.flatMap (stp c)))),o']) (fi:=dIt (zaa 1)) rfl rfl ⟨o4,rfl⟩
  (fun dn row zbm e ρ ⟨o',hρ⟩=>by
   subst hρ
   have hrow:row∈R:=by rw[e];simp
   let ρ1:Ev:=[ch,some (.val (.lst (lp R))),some (.val (.lst (lp c))),some (.own (lp (dn.flatMap (stp c)))),some (.val (tz row))]
   have hcomp:zbh (dIt (zaa 2)) (zba 5) dTT (dOp zeR (zaa 4) (zaa 5)) 1 ρ1=.ok (c.map fun p=>tz (row++p),ρ1):=by
    refine zgY (u:=tz) (f:=fun p=>tz (row++p)) (fe:=dOp zeR (zaa 4) (zaa 5)) (l:=c) (ds:=lp c) rfl rfl hc (fun p hp=>?_) rfl
    have a1:zaa 4 (ρ1++[some (.val (tz p))])=.ok (tz row,ρ1++[some (.val (tz p))]):=rfl
    have a2:zaa 5 (ρ1++[some (.val (tz p))])=.ok (tz p,ρ1++[some (.val (tz p))]):=rfl
    refine za0 a1 a2 ?_
    have:=hl row hrow p hp
    rw[<- zpP]
    exact zn2 (by simp only[List.length_map];omega)
   have hdn:(dn.flatMap (stp c)).length+c.length<=10000:=by
    have h1:(dn.flatMap (stp c)).length<=dn.length * c.length:=zkF fun a _=>Nat.le_of_eq (zrd c a)
    have h2:dn.length+1<=R.length:=by rw[e];simp
    have h3:=Nat.mul_le_mul_right c.length h2
    rw[Nat.succ_mul] at h3
    omega
   refine ⟨ρ1,_,rfl,zes (zgu (ρ1:=ρ1) rfl (zb3 hcomp) rfl rfl ?_),some (.val (tz row)),?_⟩
   ·rw[zgt,List.length_map];omega
   ·show [ch,_,_,some (.own (lp (dn.flatMap (stp c))++c.map fun p=>tz (row++p))),_]=_
    rw[List.flatMap_append,zmH,List.flatMap_singleton]
    have:lp (stp c row)=c.map fun p=>tz (row++p):=by unfold lp stp;rw[List.map_map];rfl
    rw[this])
 exact ⟨o',e⟩
theorem zoJ(dn:List (List (List Int)))(c:List (List Int)):zh0 [[]] (dn++[c])=(zh0 [[]] dn).flatMap (stp c):=by
 unfold zh0
 rw[List.foldl_append]
 rfl
theorem zhY{m:Nat}:∀{cs:List (List (List Int))},(∀ c∈cs,∀ y∈c,y.length<=m)->∀ r∈zbW cs,r.length<=cs.length * m
 |[],_,r,hr=>by simp[zbW] at hr;subst hr;simp
 |c::cs,h,r,hr=>by
  simp only[zbW,List.mem_flatMap,List.mem_map] at hr
  obtain ⟨x,hx,y,hy,rfl⟩:=hr
  have:=zhY (fun c hc=>h c (List.mem_cons_of_mem _ hc)) y hy
  have:=h c List.mem_cons_self x hx
  rw[List.length_append,List.length_cons,Nat.succ_mul]
  omega
theorem zf5:∀ a b:List Nat,zbq (a++b)=zbq a * zbq b
 |[],b=>by simp[zbq]
 |x::a,b=>by rw[List.cons_append,zbq,zbq,zf5 a b,Nat.mul_assoc]
theorem zev:∀{a:List Nat},(∀ x∈a,1<=x)->1<=zbq a
 |[],_=>Nat.le_refl _
 |x::a,h=>Nat.le_trans (zev fun y hy=>h y (List.mem_cons_of_mem _ hy)) (Nat.le_mul_of_pos_left _ (h x List.mem_cons_self))
def chD(c:List (List Int)):Dt:=.lst (lp c)
theorem zjr{cs:List (List (List Int))}(h1:∀ c∈cs,1<=c.length)(h2:∀ c∈cs,∀ y∈c,y.length<=10)(h3:cs.length<=10)(h4:zbq (cs.map List.length)<=720):ze4 [.val (.lst (cs.map chD))]=.ok (.lst (lp (zbW cs)),[.val .non]):=by
 have hpre:∀ dn zbm,cs=dn++zbm->zbq (dn.map List.length)<=720:=fun dn zbm e=>by
  have:1<=zbq (zbm.map List.length):=zev fun x hx=>by
   obtain ⟨c,hc,rfl⟩:=List.mem_map.mp hx
   exact h1 c (by rw[e];exact List.mem_append_right _ hc)
  rw[e,List.map_append,zf5] at h4
  exact Nat.le_trans (Nat.le_mul_of_pos_right _ this) h4
 let A:Option B:=some (.val (.lst (cs.map chD)))
 obtain ⟨ρ',⟨o2,o3,o4,rfl⟩,e⟩:=zbc (u:=chD) (l:=cs) (g:=zba 2) (body:=ztp) (fi:=dIt (zaa 0)) (ρ:=[A,some (.val (.lst [.tup []])),none,none,none]) (ρ0:=[A,some (.val (.lst [.tup []])),none,none,none]) (ds:=cs.map chD)
  (I:=fun dn ρ=>∃ o2 o3 o4,ρ=[A,some (.val (.lst (lp (zh0 [[]] dn)))),o2,o3,o4]) rfl rfl ⟨none,none,none,rfl⟩
  (fun dn c zbm e ρ ⟨o2,o3,o4,hρ⟩=>by
   subst hρ
   have hc:c∈cs:=by rw[e];simp
   have hdl:dn.length<=10:=by have:=congrArg List.length e;simp at this;omega
   have hp1:=hpre (dn++[c]) zbm (by rw[e];simp)
   rw[List.map_append,zf5,List.map_cons,List.map_nil,zbq,zbq,Nat.mul_one] at hp1
   have hp2:=hpre dn (c::zbm) e
   have hRl:(zh0 [[]] dn).length=zbq (dn.map List.length):=by rw[zjE,zfy]
   have hc1:=h1 c hc
   have hcl:c.length<=720:=Nat.le_trans (Nat.le_mul_of_pos_left _ (zev fun x hx=>by
    obtain ⟨c',hc',rfl⟩:=List.mem_map.mp hx
    exact h1 c' (by rw[e];exact List.mem_append_left _ hc'))) hp1
   obtain ⟨o',e'⟩:=zoh (ch:=A) (o4:=o4) (R:=zh0 [[]] dn) (c:=c) (by omega) (by rw[hRl];omega) (fun r hr y hy=>by
    rw[zjE] at hr
    have h5:=zhY (m:=10) (fun c' hc'=>h2 c' (by rw[e];exact List.mem_append_left _ hc')) r hr
    have:=h2 c hc y hy
    have:=Nat.mul_le_mul_right 10 hdl
    omega)
   let ρ1:Ev:=[A,some (.val (.lst (lp (zh0 [[]] dn)))),some (.val (chD c)),o3,o4]
   let ρ2:Ev:=[A,some (.val (.lst (lp (zh0 [[]] dn)))),some (.val (chD c)),some (.own []),o4]
   refine ⟨ρ1,[A,some (.val (.lst (lp ((zh0 [[]] dn).flatMap (stp c))))),some (.val (chD c)),some (.val (.lst (lp ((zh0 [[]] dn).flatMap (stp c))))),o'],rfl,?_,some (.val (chD c)),some (.val (.lst (lp ((zh0 [[]] dn).flatMap (stp c))))),o',?_⟩
   ·have e2:sIn ρ2=.ok (.nx,[A,some (.val (.lst (lp (zh0 [[]] dn)))),some (.val (chD c)),some (.own (lp ((zh0 [[]] dn).flatMap (stp c)))),o']):=e'
    show ztp ρ1=_
    rw[show ztp=zaw (zbp 3 (zch dA0)) (zaw sIn (zaU 1 (zdt 3))) from rfl,zag (ρ1:=ρ2) rfl,zag e2]
    rfl
   ·rw[zoJ])
 refine zav (ρ':=[A,some (.val (.lst (lp (zh0 [[]] cs)))),o2,o3,o4]) rfl ?_ rfl
 show zhq [A,none,none,none,none]=_
 rw[zlz,zag (ρ1:=[A,some (.val (.lst [.tup []])),none,none,none]) rfl,zag e,<- zjE]
 rfl
theorem zr3(r:Bool)(bs:List Tr):1<=(arr r bs).length:=by
 unfold arr
 split
 ·simp
 ·rw[zfe _ _ rfl];exact zkn _
theorem znT(r:Bool)(bs:List Tr):(zar (.nd r bs)).length=(arr r bs).length * zbq (bs.map fun t=>(zar t).length):=by
 rw[zfh,List.length_flatMap,zdB (c:=zbq (bs.map fun t=>(zar t).length)) fun p hp=>?_]
 rw[zfy,List.map_map]
 exact zeV ((zbk hp).map _)
theorem zkG:∀(n:Nat)(t:Tr),dep t<=n->1<=(zar t).length
 |0,t,h=>by cases t <;> simp[dep] at h
 |n+1,.lf g,_=>by rw[zar];simp
 |n+1,.nd r bs,h=>by
  simp only[dep] at h
  have hd:=zem.mp (by omega:zis bs<=n)
  rw[znT]
  exact Nat.le_trans (zr3 r bs) (Nat.le_mul_of_pos_right _ (zev fun x hx=>by
   obtain ⟨t,ht,rfl⟩:=List.mem_map.mp hx
   exact zkG n t (hd t ht)))
abbrev zrh(F:FD):DN:=zbh (dIt (dOp gIx (zaa 0) (dC (.int 1)))) (zba 5) dTT (zal F (dR (zaa 5) dR0)) 1
abbrev aIf:DS:=dIf (dTB (dOp (gEq false) (dOp gIx (zaa 0) (dC (.int 0))) (dC (.str (Str.ofString "row"))))) (zaU 2 (dFz (zch (dA (zaa 1) (dA (dFz (zgy (zaa 1))) dA0))))) (zaU 2 (zal (zcy 8) (dR (zaa 1) dR0)))
abbrev zs8:DS:=dEx (zft 3 (zal ze4 (dR (zaa 4) dR0)))
theorem zrf(F:FD):zdE F=zaw (dIf (dTB (zal zbU (dR (zaa 0) dR0))) (zbo (dFz (zch (dA (zeS (dA (zaa 0) dA0)) dA0)))) dNx) (zaw (zaU 1 (dFz (zrh F))) (zaw aIf (zaw (zbp 3 (zch dA0)) (zaw (zeI (dIt (zaa 2)) (zba 4) zs8) (zbo (zdt 3)))))):=rfl
def brD(t:Tr):Dt:=chD (zar t)
def orD(p:List Tr):Dt:=.lst (p.map brD)
theorem znX{T o2 o3 o4:Option B}{r:Bool}{bs:List Tr}(hT:T=some (.val (toD (.nd r bs))))(hl:bs.length<=6):aIf [T,some (.val (.lst (bs.map brD))),o2,o3,o4]=.ok (.nx,[T,some (.val (.lst (bs.map brD))),some (.val (.lst ((arr r bs).map orD))),o3,o4]):=by
 subst hT
 let ρ:Ev:=[some (.val (toD (.nd r bs))),some (.val (.lst (bs.map brD))),o2,o3,o4]
 have hD:toD (.nd r bs)=.tup [.str (wd r),.tup (zhW bs)]:=by rw[toD]
 have ix:dOp gIx (zaa 0) (dC (.int 0)) ρ=.ok (.str (wd r),ρ):=by
  have a1:zaa 0 ρ=.ok (toD (.nd r bs),ρ):=rfl
  exact za0 a1 rfl (by rw[hD];rfl)
 have ht:dTB (dOp (gEq false) (dOp gIx (zaa 0) (dC (.int 0))) (dC (.str (Str.ofString "row")))) ρ=.ok (r,ρ):=by
  refine zaE (za0 ix rfl ?_)
  rw[zb5 (by rw[okN];exact zhr r) (by rw[okN];exact ziG),eqS,zpw];rfl
 cases r with
 |true =>
  show dIf _ _ _ ρ=_
  rw[zfr ht]
  have ea:(arr true bs).map orD=[.lst (bs.map brD),.lst (bs.map brD).reverse]:=by
   rw[<- List.map_reverse];rfl
  rw[ea]
  rfl
 |false =>
  show dIf _ _ _ ρ=_
  rw[zc0 ht]
  refine (zbj (i:=2) (ρ1:=ρ) (d:=.lst ((arr false bs).map orD)) (zdP (ρ':=ρ) (l:=[.val .non]) (d:=.lst (bs.map brD)) rfl ?_) (by simp[ρ])).trans rfl
  have:=zgn 8 (bs.map brD) (by rw[List.length_map];omega) (by rw[List.length_map];omega)
  rw[this,List.length_map,zj9,List.map_map]
  rfl
theorem zo5{F:FD}{r:Bool}{bs:List Tr}(IH:∀ b∈bs,F [.val (toD b)]=.ok (.lst (lp (zar b)),[.val .non]))(ho:okT (.nd r bs)=true)(hn:(zad (.nd r bs)).Nodup)(h6:(zad (.nd r bs)).length<=6) :
  za2 false [false] 4 (zdE F) [.val (toD (.nd r bs))]=.ok (.lst (lp (zar (.nd r bs))),[.val .non]):=by
 obtain ⟨A,H⟩:=zc5 (Nat.le_succ _) ho hn
 have hD:toD (.nd r bs)=.tup [.str (wd r),.tup (zhW bs)]:=by rw[toD]
 have hk:bs.length<=6:=by
  have:=zh8 bs (Nat.le_refl _) (by rw[okT,Bool.and_eq_true] at ho;exact ho.2)
  rw[zad] at h6
  omega
 have hsub:∀ b∈bs,(zad b).length<=6:=fun b hb=>by
  have:=zd1 hb
  rw[zad] at h6
  omega
 have hle:∀ b∈bs,(zar b).length<=fac (zad b).length:=fun b hb=>zhE (H b hb).2.1 (H b hb).2.2
 have h720:zbq (bs.map fun t=>(zar t).length)<=720:=Nat.le_trans (zkN hle) (zrB (by rw[zad] at h6;exact h6))
 have htot:(zar (.nd r bs)).length<=720:=Nat.le_trans (zhE ho hn) (zrB h6)
 let T:Option B:=some (.val (toD (.nd r bs)))
 let ρ0:Ev:=[T,none,none,none,none]
 have x0:dIf (dTB (zal zbU (dR (zaa 0) dR0))) (zbo (dFz (zch (dA (zeS (dA (zaa 0) dA0)) dA0)))) dNx ρ0=.ok (.nx,ρ0):=by
  rw[zc0 (zaE (ρ1:=ρ0) (b:=false) (zdP (ρ':=ρ0) (d:=toD (.nd r bs)) rfl (zjc _)))]
  rfl
 have x1:zaU 1 (dFz (zrh F)) ρ0=.ok (.nx,[T,some (.val (.lst (bs.map brD))),none,none,none]):=by
  have hi:dIt (dOp gIx (zaa 0) (dC (.int 1))) ρ0=.ok (zhW bs,ρ0):=by
   have a1:zaa 0 ρ0=.ok (toD (.nd r bs),ρ0):=rfl
   have:dOp gIx (zaa 0) (dC (.int 1)) ρ0=.ok (.tup (zhW bs),ρ0):=za0 a1 rfl (by rw[hD];rfl)
   unfold dIt
   rw[this];rfl
  have hc:zrh F ρ0=.ok (bs.map brD,ρ0):=zgY (u:=toD) (f:=brD) (l:=bs) hi (zcY bs) (by omega) (fun b hb=>by
   have a1:zaa 5 (ρ0++[some (.val (toD b))])=.ok (toD b,ρ0++[some (.val (toD b))]):=rfl
   exact zdP a1 (IH b hb)) rfl
  exact zbj (zb3 hc) (by simp[ρ0])
 have x2:=znX (T:=T) (o2:=none) (o3:=none) (o4:=none) (r:=r) (bs:=bs) rfl hk
 let B1:Option B:=some (.val (.lst (bs.map brD)))
 let B2:Option B:=some (.val (.lst ((arr r bs).map orD)))
 obtain ⟨ρ',⟨o4,rfl⟩,e⟩:=zbc (u:=orD) (l:=arr r bs) (g:=zba 4) (body:=zs8) (fi:=dIt (zaa 2)) (ρ:=[T,B1,B2,some (.own []),none]) (ρ0:=[T,B1,B2,some (.own []),none]) (ds:=(arr r bs).map orD)
  (I:=fun dn ρ=>∃ o4,ρ=[T,B1,B2,some (.own (lp (dn.flatMap fun p=>zbW (p.map zar)))),o4]) rfl rfl ⟨none,rfl⟩
  (fun dn p zbm e ρ ⟨o4,hρ⟩=>by
   subst hρ
   have hp:p∈arr r bs:=by rw[e];simp
   have pb:∀ t∈p,t∈bs:=fun t ht=>(zbk hp).mem_iff.mp ht
   have hpl:p.length<=6:=by rw[(zbk hp).length_eq];exact hk
   have hst:ze4 [.val (orD p)]=.ok (.lst (lp (zbW (p.map zar))),[.val .non]):=by
    have:orD p=.lst ((p.map zar).map chD):=by unfold orD;rw[List.map_map];rfl
    rw[this]
    refine zjr (fun c hc=>?_) (fun c hc y hy=>?_) (by rw[List.length_map];omega) ?_
    ·obtain ⟨t,ht,rfl⟩:=List.mem_map.mp hc
     exact zkG _ t (Nat.le_refl _)
    ·obtain ⟨t,ht,rfl⟩:=List.mem_map.mp hc
     rw[(zaS hy).length_eq]
     have:=hsub t (pb t ht);omega
    ·rw[List.map_map]
     have:=zeV ((zbk hp).map fun t=>(zar t).length)
     exact Nat.le_trans (Nat.le_of_eq this) h720
   have hlen:(dn.flatMap fun p=>zbW (p.map zar)).length+(zbW (p.map zar)).length<=720:=by
    rw[zfh,e,List.flatMap_append,List.length_append,List.flatMap_cons,List.length_append] at htot
    omega
   let ρ1:Ev:=[T,B1,B2,some (.own (lp (dn.flatMap fun p=>zbW (p.map zar)))),some (.val (orD p))]
   refine ⟨ρ1,_,rfl,zes (zgu (ρ1:=ρ1) (l:=lp (zbW (p.map zar))) rfl (zdP (ρ':=ρ1) (d:=orD p) rfl hst) rfl rfl ?_),some (.val (orD p)),?_⟩
   ·rw[zgt,zgt];omega
   ·rw[List.flatMap_append,zmH,List.flatMap_singleton]
    rfl)
 refine zav (ρ':=[T,B1,B2,some (.val (.lst (lp (zar (.nd r bs))))),o4]) rfl ?_ rfl
 show zdE F ρ0=_
 rw[zrf,zag x0,zag x1,zag x2,zag (ρ1:=[T,B1,B2,some (.own []),none]) rfl,zag e,<- zfh]
 rfl
theorem zk3:∀(n:Nat)(t:Tr),dep t<=n->okT t=true->(zad t).Nodup->(zad t).length<=6->zbG n [.val (toD t)]=.ok (.lst (lp (zar t)),[.val .non])
 |0,t,h,_,_,_=>by cases t <;> simp[dep] at h
 |n+1,.lf g,_,_,_,_=>by
  rw[toD,zar]
  exact zav (d:=.lst [.tup [.int g]]) (ρ':=[some (.val (.int g)),none,none,none,none]) rfl rfl rfl
 |n+1,.nd r bs,h,ho,hn,h6=>by
  have hh:=zc5 h ho hn
  refine zo5 (F:=zbG n) (fun b hb=>?_) ho hn h6
  obtain ⟨h1,h2,h3⟩:=hh.2 b hb
  refine zk3 n b h1 h2 h3 ?_
  have:=zd1 hb
  rw[zad] at h6
  omega
theorem znZ{m:Nat}(h:m<=1000):zbs (m:Int)=true:=by
 unfold zbs
 rw[Bool.and_eq_true,decide_eq_true_eq,decide_eq_true_eq]
 omega
def mulC(i j:Int):R Dt:=if (zbs i || zbs j)=true then .ok (.int (i * j)) else .no
theorem zqJ{i j:Int}(h:zbs j=true):mulC i j=.ok (.int (i * j)):=if_pos (by rw[h,Bool.or_true])
theorem zpB{a b:Nat}(h:b<=1000):zhc (.int (a:Nat)) (.int (b:Nat))=.ok (.int ((a * b:Nat):Int)):=by
 rw[Int.natCast_mul]
 exact zqJ (znZ h)
theorem zib{nw:Bool}{ks:List Bool}{m n:Nat}{body:DS}{bs:List B}(hk:zbE bs=ks)(hb:body (bs.map some++List.replicate m none)=.er n):za2 nw ks m body bs=.er n:=by
 unfold za2
 rw[if_pos hk,hb];rfl
abbrev znR(F:FD):DS:=zaw (zaU 1 (dOp zhc (zaa 1) (zal F (dR (zaa 3) dR0)))) (dIf (dTB (dOp (gEq false) (dOp gIx (zaa 0) (dC (.int 0))) (dC (.str (Str.ofString "any"))))) (zaU 1 (dOp zhc (zaa 1) (zaa 2))) dNx)
theorem zmD(F:FD):zc4 F=zaw (dIf (dTB (zal zbU (dR (zaa 0) dR0))) (zbo (dC (.int 1))) dNx) (zaw (zaU 1 (zrE (dTB (dOp (gEq false) (dOp gIx (zaa 0) (dC (.int 0))) (dC (.str (Str.ofString "row"))))) (dC (.int 2)) (dC (.int 1)))) (zaw (zeI (zgR (dOp gIx (zaa 0) (dC (.int 1)))) (zfq 2 3) (znR F)) (zbo (zaa 1)))):=rfl
def ze8(r:Bool)(acc:Nat)(l:List (Nat×Tr)):Nat:=l.foldl (fun acc p=>acc * zgv p.2 * (if r=true then 1 else p.1+1)) acc
theorem zl1(r:Bool)(acc:Nat)(l:List (Nat×Tr))(p:Nat×Tr):ze8 r acc (l++[p])=ze8 r acc l * zgv p.2 * (if r=true then 1 else p.1+1):=by
 unfold ze8
 rw[List.foldl_append];rfl
theorem ziw(r:Bool):∀(l:List Tr)(i acc:Nat),ze8 r acc ((List.range' i l.length).zip l)=zfv r l (i+1) acc
 |[],i,acc=>by simp[ze8,zfv]
 |t::l,i,acc=>by
  rw[List.length_cons,List.range'_succ,List.zip_cons_cons,zfv,<- ziw r l (i+1)]
  rfl
def enD(p:Nat×Tr):Dt:=.tup [.int ((p.1+1:Nat):Int),toD p.2]
theorem zoI(bs:List Tr):zjm (zhW bs)=((List.range' 0 bs.length).zip bs).map enD:=by
 unfold zjm
 rw[zcY,List.length_map,List.range_eq_range',List.zip_map_right,List.map_map]
 rfl
theorem zpD{r:Bool}{bs:List Tr}{ρ:Ev}(h:zaa 0 ρ=.ok (toD (.nd r bs),ρ)):dOp gIx (zaa 0) (dC (.int 0)) ρ=.ok (.str (wd r),ρ) :=
 za0 h rfl (by rw[toD];rfl)
theorem zql{r:Bool}{bs:List Tr}{ρ:Ev}(h:zaa 0 ρ=.ok (toD (.nd r bs),ρ)):dTB (dOp (gEq false) (dOp gIx (zaa 0) (dC (.int 0))) (dC (.str (Str.ofString "row")))) ρ=.ok (r,ρ):=by
 refine zaE (za0 (zpD h) rfl ?_)
 rw[zb5 (by rw[okN];exact zhr r) (by rw[okN];exact ziG),eqS,zpw];rfl
theorem zjI{r:Bool}{bs:List Tr}{ρ:Ev}(h:zaa 0 ρ=.ok (toD (.nd r bs),ρ)):dOp (gEq false) (dOp gIx (zaa 0) (dC (.int 0))) (dC (.str (Str.ofString "any"))) ρ=.ok (.bl (!r),ρ):=by
 refine za0 (zpD h) rfl ?_
 rw[zb5 (by rw[okN];exact zhr r) (by rw[okN];exact zmb),eqS,zsK];rfl
theorem zh4{r:Bool}{bs:List Tr}{ρ:Ev}(h:zaa 0 ρ=.ok (toD (.nd r bs),ρ)):dOp gIx (zaa 0) (dC (.int 1)) ρ=.ok (.tup (zhW bs),ρ) :=
 za0 h rfl (by rw[toD];rfl)
theorem zlG{F:FD}{r:Bool}{bs:List Tr}(IH:∀ b∈bs,F [.val (toD b)]=.ok (.int (zgv b:Nat),[.val .non]))(hc:∀ b∈bs,zgv b<=1000)(hl:bs.length<=100):za2 false [false] 3 (zc4 F) [.val (toD (.nd r bs))]=.ok (.int (zgv (.nd r bs):Nat),[.val .non]):=by
 let T:Option B:=some (.val (toD (.nd r bs)))
 let b0:Nat:=if r=true then 2 else 1
 let ρ0:Ev:=[T,none,none,none]
 have hv:∀ a b c:Option B,zaa 0 [T,a,b,c]=.ok (toD (.nd r bs),[T,a,b,c]):=fun _ _ _=>rfl
 have x0:dIf (dTB (zal zbU (dR (zaa 0) dR0))) (zbo (dC (.int 1))) dNx ρ0=.ok (.nx,ρ0):=by
  rw[zc0 (zaE (ρ1:=ρ0) (b:=false) (zdP (ρ':=ρ0) (d:=toD (.nd r bs)) rfl (zjc _)))]
  rfl
 have x1:zaU 1 (zrE (dTB (dOp (gEq false) (dOp gIx (zaa 0) (dC (.int 0))) (dC (.str (Str.ofString "row"))))) (dC (.int 2)) (dC (.int 1))) ρ0=.ok (.nx,[T,some (.val (.int (b0:Nat))),none,none]):=by
  have:zrE (dTB (dOp (gEq false) (dOp gIx (zaa 0) (dC (.int 0))) (dC (.str (Str.ofString "row"))))) (dC (.int 2)) (dC (.int 1)) ρ0=.ok (.int (b0:Nat),ρ0):=by
   unfold zrE
   rw[zql (hv _ _ _)]
   cases r <;> rfl
  exact zbj this (by simp[ρ0])
 have hi:zgR (dOp gIx (zaa 0) (dC (.int 1))) [T,some (.val (.int (b0:Nat))),none,none]=.ok (zjm (zhW bs),[T,some (.val (.int (b0:Nat))),none,none]):=by
  unfold zgR
  rw[zh4 (hv _ _ _)];rfl
 obtain ⟨ρ',⟨o2,o3,rfl⟩,e⟩:=zbc (u:=enD) (l:=(List.range' 0 bs.length).zip bs) (g:=zfq 2 3) (body:=znR F) (I:=fun dn ρ=>∃ o2 o3,ρ=[T,some (.val (.int (ze8 r b0 dn:Nat))),o2,o3]) hi (zoI bs) ⟨none,none,rfl⟩
  (fun dn p zbm e ρ ⟨o2,o3,hρ⟩=>by
   subst hρ
   obtain ⟨i,b⟩:=p
   have hi100:i<100:=by
    have h8:=(List.of_mem_zip (show (i,b)∈(List.range' 0 bs.length).zip bs by rw[e];simp)).1
    rw[<- List.range_eq_range'] at h8
    have:=List.mem_range.mp h8
    omega
   have hb:b∈bs:=(List.of_mem_zip (show (i,b)∈(List.range' 0 bs.length).zip bs by rw[e];simp)).2
   let I2:Option B:=some (.val (.int ((i+1:Nat):Int)))
   let B3:Option B:=some (.val (toD b))
   let ρ1:Ev:=[T,some (.val (.int (ze8 r b0 dn:Nat))),I2,B3]
   let ρ2:Ev:=[T,some (.val (.int ((ze8 r b0 dn * zgv b:Nat):Int))),I2,B3]
   have y1:zaU 1 (dOp zhc (zaa 1) (zal F (dR (zaa 3) dR0))) ρ1=.ok (.nx,ρ2):=by
    have a1:zaa 1 ρ1=.ok (.int (ze8 r b0 dn:Nat),ρ1):=rfl
    have a3:zaa 3 ρ1=.ok (toD b,ρ1):=rfl
    have:dOp zhc (zaa 1) (zal F (dR (zaa 3) dR0)) ρ1=.ok (.int ((ze8 r b0 dn * zgv b:Nat):Int),ρ1):=za0 a1 (zdP a3 (IH b hb)) (zpB (hc b hb))
    exact zbj this (by simp[ρ1])
   have y2:dTB (dOp (gEq false) (dOp gIx (zaa 0) (dC (.int 0))) (dC (.str (Str.ofString "any")))) ρ2=.ok (!r,ρ2):=zaE (zjI (hv _ _ _))
   refine ⟨ρ1,[T,some (.val (.int (ze8 r b0 (dn++[(i,b)]):Nat))),I2,B3],rfl,?_,I2,B3,rfl⟩
   show znR F ρ1=_
   rw[show znR F=zaw _ _ from rfl,zag y1,zl1]
   cases r with
   |true =>
    rw[zc0 y2]
    simp only[if_true,Nat.mul_one]
    rfl
   |false =>
    rw[zfr y2]
    have a1:zaa 1 ρ2=.ok (.int ((ze8 false b0 dn * zgv b:Nat):Int),ρ2):=rfl
    have a2:zaa 2 ρ2=.ok (.int ((i+1:Nat):Int),ρ2):=rfl
    have:dOp zhc (zaa 1) (zaa 2) ρ2=.ok (.int ((ze8 false b0 dn * zgv b * (i+1):Nat):Int),ρ2):=za0 a1 a2 (zpB (by omega))
    exact zbj this (by simp[ρ2]))
 refine zav (ρ':=[T,some (.val (.int (ze8 r b0 ((List.range' 0 bs.length).zip bs):Nat))),o2,o3]) rfl ?_ rfl
 show zc4 F ρ0=_
 rw[zmD,zag x0,zag x1,zag e,ziw,zgv]
 rfl
theorem zrF{t:Tr}(ho:okT t=true)(hn:(zad t).Nodup)(h6:(zad t).length<=6):zgv t<=1000:=by
 rw[zjO _ t (Nat.le_refl _)]
 have:=Nat.le_trans (zhE ho hn) (zrB h6)
 omega
theorem zgD:∀(n:Nat)(t:Tr),dep t<=n->okT t=true->(zad t).Nodup->(zad t).length<=6->zb1 n [.val (toD t)]=.ok (.int (zgv t:Nat),[.val .non])
 |0,t,h,_,_,_=>by cases t <;> simp[dep] at h
 |n+1,.lf g,_,_,_,_=>by
  rw[toD,zgv]
  exact zav (d:=.int 1) (ρ':=[some (.val (.int g)),none,none,none]) rfl rfl rfl
 |n+1,.nd r bs,h,ho,hn,h6=>by
  have hh:=zc5 h ho hn
  have hs:∀ b∈bs,(zad b).length<=6:=fun b hb=>by
   have:=zd1 hb
   rw[zad] at h6
   omega
  have hk:bs.length<=6:=by
   have:=zh8 bs (Nat.le_refl _) (by rw[okT,Bool.and_eq_true] at ho;exact ho.2)
   rw[zad] at h6
   omega
  exact zlG (F:=zb1 n) (fun b hb=>zgD n b (hh.2 b hb).1 (hh.2 b hb).2.1 (hh.2 b hb).2.2 (hs b hb)) (fun b hb=>zrF (hh.2 b hb).2.1 (hh.2 b hb).2.2 (hs b hb)) (by omega)
theorem znc{n:Nat}{t:Tr}(h1:1<=n)(h7:n<=7)(hd:dep t<=8)(ho:okT t=true)(hn:(zad t).Nodup)(h6:(zad t).length<=6):zaN [.val (.int n),.val (toD t)]=.ok (.int ((zar t).length:Nat),[.val .non,.val .non]):=by
 let ρ:Ev:=[some (.val (.int n)),some (.val (toD t))]
 refine zav (ρ':=ρ) rfl ?_ rfl
 have a0:zaa 0 ρ=.ok (.int n,ρ):=rfl
 have a1:zaa 1 ρ=.ok (toD t,ρ):=rfl
 show zaw (dEx (zal zas (dR (zaa 0) dR0))) (zbo (zal (zb1 8) (dR (zaa 1) dR0))) ρ=_
 rw[zag (zes (zdP a0 (zku (by omega) (by omega))))]
 refine zd3 (zdP (l:=[.val .non]) a1 ?_)
 rw[zgD 8 t hd ho hn h6,zjO 8 t hd]
theorem znV{d e:Dt}(h:isW d=false\/∃ n,d=.int n/\(n<1\/7<n)):zaN [.val d,.val e]=.er 0:=by
 have e1:zal zas (dR (zaa 0) dR0) [some (.val d),some (.val e)]=.er 0:=by
  unfold zal dR dR0
  rw[show zaa 0 [some (.val d),some (.val e)]=.ok (d,[some (.val d),some (.val e)]) from rfl]
  simp only[R.bind_ok,zjy,zaQ,if_true,zax,zi6 h,R.bind_er]
 have:zfF [some (.val d),some (.val e)]=.er 0:=by
  show zaw (dEx (zal zas (dR (zaa 0) dR0))) _ _=_
  unfold zaw dEx
  rw[e1];rfl
 exact zib rfl this
theorem zkm(l:List Int):ziK (l.map .int)=some l:=zsm l
theorem zn7:∀{ps:List (List Int)},(∀ p∈ps,p≠[])->zpG (lp ps)=some ps
 |[],_=>rfl
 |p::ps,h=>by
  have ih:=zn7 (ps:=ps) fun q hq=>h q (List.mem_cons_of_mem _ hq)
  obtain ⟨a,r,rfl⟩:=List.exists_cons_of_ne_nil (h p List.mem_cons_self)
  show zpG (tz (a::r)::lp ps)=_
  unfold tz
  rw[zpG,zkm,ih]
theorem zmL{n:Nat}{t:Tr}(h1:1<=n)(h7:n<=7)(hd:dep t<=8)(ho:okT t=true)(hn:(zad t).Nodup)(h6:(zad t).length<=6):zbC [.val (.int n),.val (toD t)]=.ok (.lst (lp (zc1 (zar t))),[.val .non,.val .non]):=by
 let ρ:Ev:=[some (.val (.int n)),some (.val (toD t))]
 refine zav (ρ':=ρ) rfl ?_ rfl
 have a0:zaa 0 ρ=.ok (.int n,ρ):=rfl
 have a1:zaa 1 ρ=.ok (toD t,ρ):=rfl
 show zaw (dEx (zal zas (dR (zaa 0) dR0))) (zd9 (zdD zer (dA (zal (zbG 8) (dR (zaa 1) dR0)) dA0))) ρ=_
 rw[zag (zes (zdP a0 (zku (by omega) (by omega))))]
 have e:zal (zbG 8) (dR (zaa 1) dR0) ρ=.ok (.lst (lp (zar t)),ρ):=zdP a1 (zk3 8 t hd ho hn h6)
 have eg:zer [.lst (lp (zar t))]=.ok (lp (zc1 (zar t))):=by
  unfold zer
  simp only[zn7 (ps:=zar t) fun p hp z=>zew _ t (Nat.le_refl _) ho (by subst z;exact (zaS hp).symm.eq_nil)]
  rfl
 unfold zd9 zdD dA dA0
 rw[e]
 simp only[R.bind_ok,eg]
theorem zow{d e:Dt}(h:isW d=false\/∃ n,d=.int n/\(n<1\/7<n)):zbC [.val d,.val e]=.er 0:=by
 have e1:zal zas (dR (zaa 0) dR0) [some (.val d),some (.val e)]=.er 0:=by
  unfold zal dR dR0
  rw[show zaa 0 [some (.val d),some (.val e)]=.ok (d,[some (.val d),some (.val e)]) from rfl]
  simp only[R.bind_ok,zjy,zaQ,if_true,zax,zi6 h,R.bind_er]
 have:zhZ [some (.val d),some (.val e)]=.er 0:=by
  show zaw (dEx (zal zas (dR (zaa 0) dR0))) _ _=_
  unfold zaw dEx
  rw[e1];rfl
 exact zib rfl this
theorem zgF{α:Type}{u f:α->Dt}{p:α->Bool}{ft:DT}{fe:De}{ρ0:Ev}:∀{l:List α}{o:Option B},(∀ a∈l,ft (ρ0++[some (.val (u a))])=.ok (p a,ρ0++[some (.val (u a))]))->(∀ a∈l,p a=true->fe (ρ0++[some (.val (u a))])=.ok (f a,ρ0++[some (.val (u a))])) ->
  ∃ o',zbr (zba ρ0.length) ft fe (l.map u) (ρ0++[o])=.ok ((l.filter p).map f,ρ0++[o'])
 |[],o,_,_=>⟨o,rfl⟩
 |a::l,o,h,h2=>by
  obtain ⟨o',e⟩:=zgF (l:=l) (o:=some (.val (u a))) (fun b hb=>h b (List.mem_cons_of_mem _ hb)) fun b hb=>h2 b (List.mem_cons_of_mem _ hb)
  refine ⟨o',?_⟩
  rw[List.map_cons,zbr,zoQ]
  simp only[R.bind_ok]
  rw[h a List.mem_cons_self]
  simp only[R.bind_ok]
  cases hp:p a with
  |true =>
   simp only[if_true]
   rw[h2 a List.mem_cons_self hp]
   simp only[R.bind_ok,e,List.filter_cons,hp,if_true,List.map_cons]
  |false =>
   simp only[Bool.false_eq_true,if_false,e,List.filter_cons,hp]
theorem zeL{α:Type}{u f:α->Dt}{p:α->Bool}{ft:DT}{fe:De}{ρ0:Ev}{fi:DA}{l:List α}{ds:List Dt}{j:Nat}(hi:fi ρ0=.ok (ds,ρ0))(hd:ds=l.map u)(hj:j = ρ0.length)(hl:l.length<=16777216)(h:∀ a∈l,ft (ρ0++[some (.val (u a))])=.ok (p a,ρ0++[some (.val (u a))]))(h2:∀ a∈l,p a=true->fe (ρ0++[some (.val (u a))])=.ok (f a,ρ0++[some (.val (u a))])) :
  zbh fi (zba j) ft fe 1 ρ0=.ok ((l.filter p).map f,ρ0):=by
 subst hj;subst hd
 obtain ⟨o',e⟩:=zgF (o:=none) h h2
 unfold zbh
 rw[hi]
 simp only[R.bind_ok]
 have hf:zcK (l.map u)=true:=by unfold zcK;rw[List.length_map];exact decide_eq_true hl
 rw[if_pos hf]
 show (match zbr (zba ρ0.length) ft fe (l.map u) (ρ0++[none]) with|.ok z=>R.ok (z.1,z.2.take ρ0.length)|_=>.no)=_
 rw[e]
 simp
abbrev zpV:DN:=zbh (zb6 (zaa 0)) (zba 5) (dTB (dOp (gIn true) (zaa 5) (zaa 4))) (dOp zeR (zaa 4) (zeS (dA (zaa 5) dA0))) 1
abbrev pIn:DS:=zeI (dIt (zaa 1)) (zba 4) (dEx (zft 3 (dFz zpV)))
abbrev ztr:DS:=zaw (zbp 3 (zch dA0)) (zaw pIn (zaU 1 (zdt 3)))
theorem zmB:zd0=zaw (zaU 1 (dC (.lst [(.tup [])]))) (zaw (zeI (zb6 (zaa 0)) (zba 2) ztr) (zbo (zaa 1))):=rfl
def zo8(n:Nat)(row:List Int):List (List Int):=((zaD n).filter fun g=>!decide (g∈row)).map fun g=>row++[g]
theorem zkv:∀ n,n<=6->∀ j,j<=n->(zbf n j).length<=720:=by decide +kernel
theorem zkL{neg:Bool}{x:Dt}{ds:List Dt}(h1:okN 60 x=true)(h2:∀ d∈ds,okN 60 d=true):gIn neg x (.tup ds)=.ok (.bl (if neg then !inD x ds else inD x ds))/\gIn neg x (.lst ds)=.ok (.bl (if neg then !inD x ds else inD x ds)):=by
 have h3:ds.all (okN 60)=true:=List.all_eq_true.mpr h2
 unfold gIn
 simp only[h1,h3,Bool.and_self,if_true,and_self]
theorem zjn{l:List Int}:∀ d∈l.map Dt.int,okN 60 d=true:=fun d hd=>by
 obtain ⟨i,_,rfl⟩:=List.mem_map.mp hd
 rfl
theorem zqL{fa:De}{ρ ρ1:Ev}{m:Nat}(h:fa ρ=.ok (.int (m:Nat),ρ1))(hm:m<=1000):zb6 fa ρ=.ok ((zaD m).map Dt.int,ρ1):=by
 rw[zp9 h,zma (zpS hm),Int.toNat_natCast,zkD]
theorem zpl{n:Nat}{o2 o4:Option B}{R:List (List Int)}(hn:n<=6)(hR:R.length<=1000)(hl:∀ r∈R,r.length<=100) :
  ∃ o',pIn [some (.val (.int (n:Nat))),some (.val (.lst (lp R))),o2,some (.own []),o4]=.ok (.nx,[some (.val (.int (n:Nat))),some (.val (.lst (lp R))),o2,some (.own (lp (R.flatMap (zo8 n)))),o']):=by
 let N:Option B:=some (.val (.int (n:Nat)))
 let ρ0:Ev:=[N,some (.val (.lst (lp R))),o2,some (.own []),o4]
 have hst:∀ row,(zo8 n row).length<=6:=fun row=>by
  unfold zo8
  rw[List.length_map]
  exact Nat.le_trans (List.length_filter_le _ _) (by rw[zbJ];exact hn)
 obtain ⟨ρ',⟨o',rfl⟩,e⟩:=zbc (u:=tz) (l:=R) (g:=zba 4) (body:=dEx (zft 3 (dFz zpV))) (ρ:=ρ0) (ρ0:=ρ0) (ds:=lp R) (I:=fun dn ρ=>∃ o',ρ=[N,some (.val (.lst (lp R))),o2,some (.own (lp (dn.flatMap (zo8 n)))),o']) (fi:=dIt (zaa 1)) rfl rfl ⟨o4,rfl⟩
  (fun dn row zbm e ρ ⟨o',hρ⟩=>by
   subst hρ
   have hrow:row∈R:=by rw[e];simp
   let ρ1:Ev:=[N,some (.val (.lst (lp R))),o2,some (.own (lp (dn.flatMap (zo8 n)))),some (.val (tz row))]
   have hcomp:zpV ρ1=.ok (((zaD n).filter fun g=>!decide (g∈row)).map fun g=>tz (row++[g]),ρ1):=by
    have a0:zaa 0 ρ1=.ok (.int (n:Nat),ρ1):=rfl
    refine zeL (u:=Dt.int) (l:=zaD n) (zqL a0 (by omega)) rfl rfl (by rw[zbJ];omega) (fun g hg=>?_) fun g hg _=>?_
    ·have a4:zaa 4 (ρ1++[some (.val (.int g))])=.ok (tz row,ρ1++[some (.val (.int g))]):=rfl
     have a5:zaa 5 (ρ1++[some (.val (.int g))])=.ok (.int g,ρ1++[some (.val (.int g))]):=rfl
     refine zaE (za0 a5 a4 ?_)
     unfold tz
     rw[(zkL rfl zjn).1,zh3]
     rfl
    ·have a4:zaa 4 (ρ1++[some (.val (.int g))])=.ok (tz row,ρ1++[some (.val (.int g))]):=rfl
     have a5:zeS (dA (zaa 5) dA0) (ρ1++[some (.val (.int g))])=.ok (tz [g],ρ1++[some (.val (.int g))]):=rfl
     refine za0 a4 a5 ?_
     have:=hl row hrow
     rw[<- zpP]
     exact zn2 (by simp only[List.length_map,List.length_cons,List.length_nil];omega)
   have hdn:(dn.flatMap (zo8 n)).length<=6000:=by
    have h1:(dn.flatMap (zo8 n)).length<=dn.length * 6:=zkF fun a _=>hst a
    have h2:dn.length<=R.length:=by rw[e];simp
    omega
   have hlp:lp (zo8 n row)=((zaD n).filter fun g=>!decide (g∈row)).map fun g=>tz (row++[g]):=by unfold lp zo8;rw[List.map_map];rfl
   refine ⟨ρ1,_,rfl,zes (zgu (ρ1:=ρ1) rfl (zb3 hcomp) rfl rfl ?_),some (.val (tz row)),?_⟩
   ·have:=hst row
    rw[<- hlp,zgt,zgt]
    omega
   ·rw[List.flatMap_append,zmH,List.flatMap_singleton,hlp]
    rfl)
 exact ⟨o',e⟩
theorem zlp{n:Nat}(hn:n<=6):zbR [.val (.int (n:Nat))]=.ok (.lst (lp (zbf n n)),[.val .non]):=by
 let A:Option B:=some (.val (.int (n:Nat)))
 have hr:zb6 (zaa 0) [A,some (.val (.lst [.tup []])),none,none,none]=.ok ((List.range n).map fun k:Nat=>Dt.int k,[A,some (.val (.lst [.tup []])),none,none,none]):=by
  have a0:zaa 0 [A,some (.val (.lst [.tup []])),none,none,none]=.ok (.int (n:Nat),[A,some (.val (.lst [.tup []])),none,none,none]):=rfl
  exact ziQ a0 (by omega)
 obtain ⟨ρ',⟨o2,o3,o4,rfl⟩,e⟩:=zbc (u:=fun k:Nat=>Dt.int k) (l:=List.range n) (g:=zba 2) (body:=ztr)
  (I:=fun dn ρ=>∃ o2 o3 o4,ρ=[A,some (.val (.lst (lp (zbf n dn.length)))),o2,o3,o4]) hr rfl ⟨none,none,none,rfl⟩
  (fun dn c zbm e ρ ⟨o2,o3,o4,hρ⟩=>by
   subst hρ
   have hdl:dn.length<n:=by have:=congrArg List.length e;simp at this;omega
   have hle:=zkv n hn dn.length (by omega)
   let C2:Option B:=some (.val (.int (c:Nat)))
   obtain ⟨o',e'⟩:=zpl (n:=n) (o2:=C2) (o4:=o4) (R:=zbf n dn.length) hn (by omega) (fun r hr=>by
    have:=(zcQ.mp hr).1
    omega)
   let ρ1:Ev:=[A,some (.val (.lst (lp (zbf n dn.length)))),C2,o3,o4]
   let ρ2:Ev:=[A,some (.val (.lst (lp (zbf n dn.length)))),C2,some (.own []),o4]
   have e2:pIn ρ2=.ok (.nx,[A,some (.val (.lst (lp (zbf n dn.length)))),C2,some (.own (lp (zbf n (dn.length+1)))),o']):=e'
   refine ⟨ρ1,[A,some (.val (.lst (lp (zbf n (dn.length+1))))),C2,some (.val (.lst (lp (zbf n (dn.length+1))))),o'],rfl,?_,C2,some (.val (.lst (lp (zbf n (dn.length+1))))),o',?_⟩
   ·show ztr ρ1=_
    rw[show ztr=zaw (zbp 3 (zch dA0)) (zaw pIn (zaU 1 (zdt 3))) from rfl,zag (ρ1:=ρ2) rfl,zag e2]
    rfl
   ·rw[List.length_append];rfl)
 refine zav (ρ':=[A,some (.val (.lst (lp (zbf n (List.range n).length)))),o2,o3,o4]) rfl ?_ rfl
 show zd0 [A,none,none,none,none]=_
 rw[zmB,zag (ρ1:=[A,some (.val (.lst [.tup []])),none,none,none]) rfl,zag e,List.length_range]
 rfl
theorem zfV{bs q:List Tr}{b:Tr}{g:Int}{l:List Int}(A:zf7 bs)(hq:∀ t∈q,t∈bs)(hb:b∈bs)(hg:g∈zad b)(h:zjY (g::l) q):∃ q',q=b::q'/\(g::l).take (zad b).length∈zar b/\zjY ((g::l).drop (zad b).length) q':=by
 obtain ⟨ys,h1,e⟩:=h
 cases h1 with
 |nil=>simp at e
 |@cons y t ys q h r =>
  have hy:=zaS h
  have hyn:y≠[]:=fun z=>A.ne t (hq t List.mem_cons_self) (by subst z;exact hy.symm.eq_nil)
  obtain ⟨g',y',rfl⟩:=List.exists_cons_of_ne_nil hyn
  rw[List.flatten_cons] at e
  have eg:g'=g:=by simp only[List.cons_append] at e;exact (List.cons.inj e).1
  subst eg
  have tb:t=b:=zdM A.nd (hq t List.mem_cons_self) hb (hy.mem_iff.mp List.mem_cons_self) hg
  subst tb
  have hm:(zad t).length=(g'::y').length:=hy.length_eq.symm
  refine ⟨q,rfl,?_,ys,r,?_⟩
  ·rw[<- e,hm,List.take_left];exact h
  ·rw[<- e,hm,List.drop_left]
theorem zni{b:Tr}{q:List Tr}{l:List Int}{m:Nat}(h1:l.take m∈zar b)(h2:zjY (l.drop m) q):zjY l (b::q):=by
 obtain ⟨ys,h3,e⟩:=h2
 exact ⟨l.take m::ys,.cons h1 h3,by rw[List.flatten_cons,e,List.take_append_drop]⟩
def sel(bs:List Tr)(pl:List Nat):List Tr:=pl.filterMap (bs[·]?)
theorem zc6{bs:List Tr}{i:Nat}{b:Tr}{pl:List Nat}(h:bs[i]? = some b):sel bs (i::pl)=b::sel bs pl:=by
 unfold sel
 rw[List.filterMap_cons,h]
theorem zh1{bs:List Tr}{pl:List Nat}{t:Tr}(h:t∈sel bs pl):t∈bs:=by
 unfold sel at h
 obtain ⟨i,_,e⟩:=List.mem_filterMap.mp h
 exact List.mem_of_getElem? e
theorem zkj{bs:List Tr}(hn:bs.Nodup):∀{a b:List Nat},(∀ i∈a,i<bs.length)->(∀ i∈b,i<bs.length)->sel bs a=sel bs b->a=b
 |[],[],_,_,_=>rfl
 |[],j::b,_,hb,e=>by
  rw[zc6 (List.getElem?_eq_getElem (hb j List.mem_cons_self))] at e
  simp[sel] at e
 |i::a,[],ha,_,e=>by
  rw[zc6 (List.getElem?_eq_getElem (ha i List.mem_cons_self))] at e
  simp[sel] at e
 |i::a,j::b,ha,hb,e=>by
  have hi:=ha i List.mem_cons_self
  have hj:=hb j List.mem_cons_self
  rw[zc6 (List.getElem?_eq_getElem hi),zc6 (List.getElem?_eq_getElem hj)] at e
  obtain ⟨e1,e2⟩:=List.cons.inj e
  have:i=j:=by
   rcases Nat.lt_trichotomy i j with h|h|h
   ·exact absurd e1 (List.pairwise_iff_getElem.mp hn i j hi hj h)
   ·exact h
   ·exact absurd e1.symm (List.pairwise_iff_getElem.mp hn j i hj hi h)
  rw[this,zkj hn (fun k hk=>ha k (List.mem_cons_of_mem _ hk)) (fun k hk=>hb k (List.mem_cons_of_mem _ hk)) e2]
theorem znw:∀(l pre:List Tr),sel (pre++l) (List.range' pre.length l.length)=l
 |[],pre=>by simp[sel]
 |t::l,pre=>by
  rw[List.length_cons,List.range'_succ,zc6 (b:=t) (by rw[List.getElem?_append_right (Nat.le_refl _),Nat.sub_self];rfl)]
  have:=znw l (pre++[t])
  rw[List.append_assoc,List.length_append] at this
  exact congrArg (t::·) this
theorem zey(bs:List Tr):sel bs (List.range bs.length)=bs:=by
 rw[List.range_eq_range']
 exact znw bs []
theorem zmi(bs:List Tr)(pl:List Nat):sel bs pl.reverse=(sel bs pl).reverse:=by
 unfold sel
 rw[List.filterMap_reverse]
theorem zjz{bs:List Tr}:∀{pl:List Nat},(∀ i∈pl,i<bs.length)->(sel bs pl).length=pl.length
 |[],_=>rfl
 |i::pl,h=>by
  rw[zc6 (List.getElem?_eq_getElem (h i List.mem_cons_self)),List.length_cons,List.length_cons,zjz fun j hj=>h j (List.mem_cons_of_mem _ hj)]
theorem zh5{bs q:List Tr}{r:List Int}(A:zf7 bs)(hq:∀ t∈q,t∈bs)(hr:r.Perm (zat bs))(h:zjY r q):q.Perm bs:=by
 have hp:(zat q).Perm (zat bs):=(zil h).symm.trans hr
 have hA:zf7 q:=⟨hp.symm.nodup A.nd,fun t ht=>A.ne t (hq t ht)⟩
 haveI:DecidableEq Tr:=fun a b=>Classical.propDecidable (a=b)
 refine zfM (zcl hA) (zcl A) fun t=>⟨hq t,fun ht=>?_⟩
 obtain ⟨g,y,e⟩:=List.exists_cons_of_ne_nil (A.ne t ht)
 have hg:g∈zad t:=by rw[e];exact List.mem_cons_self
 obtain ⟨u,hu,gu⟩:=zbL.mp (hp.mem_iff.mpr (zbL.mpr ⟨t,ht,hg⟩))
 rw[zdM A.nd ht (hq u hu) hg gu]
 exact hu
theorem ziL{bs:List Tr}:∀{pl:List Nat},(∀ i∈pl,i<bs.length)->(sel bs pl).Nodup->pl.Nodup
 |[],_,_=>.nil
 |i::pl,h,hn=>by
  have hi:=h i List.mem_cons_self
  rw[zc6 (List.getElem?_eq_getElem hi)] at hn
  rw[List.nodup_cons] at hn ⊢
  refine ⟨fun z=>hn.1 ?_,ziL (fun j hj=>h j (List.mem_cons_of_mem _ hj)) hn.2⟩
  unfold sel
  exact List.mem_filterMap.mpr ⟨i,z,List.getElem?_eq_getElem hi⟩
def zaI(pl:List Nat):List Int:=pl.map fun (i:Nat)=>(i:Int)
theorem zfN:∀{a b:List Nat},zaI a=zaI b->a=b
 |[],[],_=>rfl
 |[],_::_,h=>by simp[zaI] at h
 |_::_,[],h=>by simp[zaI] at h
 |x::a,y::b,h=>by
  simp only[zaI,List.map_cons] at h
  obtain ⟨h1,h2⟩:=List.cons.inj h
  rw[zfN h2,Int.ofNat_inj.mp h1]
theorem zdd(k:Nat):zaI (List.range k)=zaD k:=rfl
theorem zjg(l:List Nat):zaI l.reverse=(zaI l).reverse:=by unfold zaI;rw[List.map_reverse]
theorem zrw{bs:List Tr}{r:List Int}{pl:List Nat}(A:zf7 bs)(hr:r.Perm (zat bs))(hpl:∀ i∈pl,i<bs.length)(h:zjY r (sel bs pl)):r∈zar (.nd false bs):=by
 refine zf0.mpr ⟨sel bs pl,?_,h⟩
 show sel bs pl∈zej bs.length bs
 exact (zeM _ _ _ rfl).mpr (zh5 A (fun t=>zh1) hr h)
theorem zrm{bs:List Tr}{r:List Int}{pl:List Nat}(A:zf7 bs)(hr:r.Perm (zat bs))(hpl:∀ i∈pl,i<bs.length)(h:zjY r (sel bs pl)) :
  zaW (zaI pl)=zaD bs.length/\(r∈zar (.nd true bs) ↔ zaI pl=zaD bs.length\/zaI pl=(zaD bs.length).reverse):=by
 have hp:=zh5 A (fun t=>zh1) hr h
 have hn:=zcl A
 have hlen:pl.length=bs.length:=by rw[<- zjz hpl,hp.length_eq]
 refine ⟨zlu.mpr ⟨?_,fun x hx=>?_,?_⟩,?_⟩
 ·exact List.pairwise_map.mpr ((ziL hpl (hp.symm.nodup hn)).imp fun hab e=>hab (Int.ofNat_inj.mp e))
 ·obtain ⟨i,hi,rfl⟩:=List.mem_map.mp hx
  have:=hpl i hi
  omega
 ·unfold zaI;rw[List.length_map,hlen]
 ·rw[zf0]
  have hR:∀ i∈List.range bs.length,i<bs.length:=fun i hi=>List.mem_range.mp hi
  have hR':∀ i∈(List.range bs.length).reverse,i<bs.length:=fun i hi=>List.mem_range.mp (List.mem_reverse.mp hi)
  constructor
  ·rintro ⟨p,hp',hm⟩
   have e:sel bs pl=p:=zkA A (fun t=>zh1) (fun t ht=>(zbk hp').mem_iff.mp ht) h hm
   have:p=bs\/p=bs.reverse:=by simpa [arr] using hp'
   rcases this with rfl|rfl
   ·left
    rw[<- zdd,<- zkj hn hpl hR (e.trans (zey _).symm)]
   ·right
    rw[<- zdd,<- zjg,<- zkj hn hpl hR' (e.trans (by rw[zmi,zey]))]
  ·rintro (e|e)
   ·have:=zfN (e.trans (zdd _).symm)
    refine ⟨bs,by simp[arr],?_⟩
    rw[this,zey] at h
    exact h
   ·have:=zfN (e.trans (by rw[zjg,zdd]:(zaD bs.length).reverse=zaI (List.range bs.length).reverse))
    refine ⟨bs.reverse,by simp[arr],?_⟩
    rw[this,zmi,zey] at h
    exact h
theorem zrI{α:Type}(l:List α)(j:Nat):zgw l none (some (j:Int))=l.take j:=by
 unfold zgw
 rw[HT.sIx_nat,HT.sIx_none,List.drop_zero,Nat.sub_zero]
 rcases Nat.le_total j l.length with h|h
 ·rw[Nat.min_eq_left h]
 ·rw[Nat.min_eq_right h,List.take_of_length_le (Nat.le_refl _),List.take_of_length_le h]
theorem zk5{α:Type}(l:List α)(j:Nat):zgw l (some (j:Int)) none=l.drop j:=by
 unfold zgw
 rw[HT.sIx_nat,HT.sIx_none]
 rcases Nat.le_total j l.length with h|h
 ·rw[Nat.min_eq_left h,List.take_of_length_le (by simp)]
 ·rw[Nat.min_eq_right h,List.drop_of_length_le (Nat.le_refl _),List.drop_of_length_le h];simp
theorem zrq(l:List Int)(j:Nat):Dt.tup ((l.map .int).take j)=tz (l.take j):=by unfold tz;rw[List.map_take]
theorem zlP(l:List Int)(j:Nat):Dt.tup ((l.map .int).drop j)=tz (l.drop j):=by unfold tz;rw[List.map_drop]
theorem zkt(l:List Int):okN 60 (tz l)=true:=by
 unfold tz
 rw[okN,List.all_eq_true]
 intro d hd
 obtain ⟨i,_,rfl⟩:=List.mem_map.mp hd
 rfl
theorem zi8(l:List Int):okN 60 (.lst (l.map .int))=true:=zpc l 59
theorem zse(a b:List Int):eqD (tz a) (tz b)=(a == b):=by unfold tz;rw[eqD,zhU]
theorem zqe(a b:List Int):eqD (.lst (a.map .int)) (.lst (b.map .int))=(a == b):=by rw[eqD,zhU]
abbrev tC:DT:=dTB (dOp (gEq true) (zaa 2) (zeS dA0))
abbrev zsW(j:Nat):De:=dOp gIx (dOp gIx (zaa 0) (dC (.int 1))) (zaa j)
abbrev tLv(j:Nat):De:=zal (zaF 8) (dR (zsW j) dR0)
abbrev zrO:DN:=zbh (zb6 (dFn zcU (dA (dOp gIx (zaa 0) (dC (.int 1))) dA0))) (zba 6) (dTB (dOp (gIn false) (dOp gIx (zaa 2) (dC (.int 0))) (tLv 6))) (zaa 6) 1
abbrev zmv:DS:=zaU 4 (dOp gIx (dFz zrO) (dC (.int 0)))
abbrev zmY:DS:=zaU 5 (dFn zcU (dA (tLv 4) dA0))
abbrev znW:De:=zfa (zaa 2) dO0 (dO1 (zaa 5))
abbrev zqP:DS:=dIf (zjj (dTB (zoZ false 3 (zaa 4))) (dTB (dOp (gEq true) (dFz (zdD zcI (dA znW dA0))) (dFz (zdD zbv (dA (tLv 4) dA0)))))) (zbo (dC (.bl false))) dNx
abbrev zr9(F:FD):DS:=dIf (zca (dTB (zal F (dR (zsW 4) (dR znW dR0))))) (zbo (dC (.bl false))) dNx
abbrev ziJ(F:FD):DS:=zaw zmv (zaw zmY (zaw zqP (zaw (zr9 F) (zaw (dEx (zda 3 (zaa 4))) (zaU 2 (zfa (zaa 2) (dO1 (zaa 5)) dO0))))))
abbrev tEnd:De:=dOr (dOp (gEq false) (dOp gIx (zaa 0) (dC (.int 0))) (dC (.str (Str.ofString "any")))) (dOp (gIn false) (zdt 3) (zeS (dA (dFz (zdD zbv (dA (zdt 3) dA0))) (dA (dFz (zgy (dFz (zdD zbv (dA (zdt 3) dA0))))) dA0))))
theorem znk(F:FD):zbd F=zaw (dIf (dTB (zeQ "int" (zaa 0))) (zbo (dOp (gEq false) (zaa 1) (zeS (dA (zaa 0) dA0)))) dNx) (zaw (zaU 2 (zaa 1)) (zaw (zbp 3 (zch dA0)) (zaw (zbg tC (ziJ F) 10) (zbo tEnd)))):=rfl
theorem zkU{c:DT}{body:DS}{n:Nat}{ρ ρ1 ρ2:Ev}(h:c ρ=.ok (true,ρ1))(hb:body ρ1=.ok (.nx,ρ2)):zbg c body (n+1) ρ=zbg c body n ρ2:=by
 rw[zbg,h]
 simp only[R.bind_ok,if_true,hb]
theorem zk0{c:DT}{body:DS}{n:Nat}{ρ ρ1 ρ2:Ev}{d:Dt}(h:c ρ=.ok (true,ρ1))(hb:body ρ1=.ok (.rt d,ρ2)):zbg c body (n+1) ρ=.ok (.rt d,ρ2):=by
 rw[zbg,h]
 simp only[R.bind_ok,if_true,hb]
theorem zmS{c:DT}{body:DS}{n:Nat}{ρ ρ1:Ev}(h:c ρ=.ok (false,ρ1)):zbg c body (n+1) ρ=.ok (.nx,ρ1):=by
 rw[zbg,h]
 simp only[R.bind_ok,Bool.false_eq_true,if_false]
theorem zjx{g:List Dt->R (List Dt)}{f:De}{ρ ρ1:Ev}{d:Dt}{z:List Dt}(h:f ρ=.ok (d,ρ1))(hg:g [d]=.ok z):zdD g (dA f dA0) ρ=.ok (z,ρ1):=by
 unfold zdD dA dA0
 rw[h]
 simp only[R.bind_ok,hg]
theorem zog{l:List Int}(h:l.length<64):zcI [tz l]=.ok ((zaW l).map .int):=by
 unfold zcI tz
 simp only[zkm,h,if_true]
theorem zkW{l:List Int}(h:l.length<64):zbv [.lst (l.map .int)]=.ok ((zaW l).map .int):=by
 unfold zbv
 simp only[zkm,h,if_true]
structure Nod(r:Bool)(bs:List Tr):Prop where
 A:zf7 bs
 d:∀ b∈bs,dep b<=8
 k:bs.length<=6
 l:(zat bs).length<=6
theorem zmk{r:Bool}{bs:List Tr}{ρ:Ev}{i j:Nat}{b:Tr}(h:zaa 0 ρ=.ok (toD (.nd r bs),ρ))(hj:zaa j ρ=.ok (.int (i:Nat),ρ))(hb:bs[i]? = some b):zsW j ρ=.ok (toD b,ρ):=by
 have hi:=(List.getElem?_eq_some_iff.mp hb).1
 refine za0 (zh4 h) hj (zqb (v:=(i:Nat)) (by omega) (by rw[zcY,List.length_map];omega) ?_)
 rw[Int.toNat_natCast,zcY,List.getElem?_map,hb];rfl
theorem zmP{r:Bool}{bs:List Tr}{ρ:Ev}{i j:Nat}{b:Tr}(N:Nod r bs)(h:zaa 0 ρ=.ok (toD (.nd r bs),ρ))(hj:zaa j ρ=.ok (.int (i:Nat),ρ))(hb:bs[i]? = some b):tLv j ρ=.ok (.lst ((zad b).map .int),ρ):=by
 have hm:=List.mem_of_getElem? hb
 exact zdP (zmk h hj hb) (zge 8 b (N.d b hm) (by have:=zd1 hm;have:=N.l;omega))
theorem zm1{r:Bool}{bs:List Tr}{g:Int}{l:List Int}{R3 o3 o4 o5:Option B}(N:Nod r bs)(hg:g∈zat bs):∃ i b,bs[i]? = some b/\g∈zad b /\
  zmv [some (.val (toD (.nd r bs))),R3,some (.val (tz (g::l))),o3,o4,o5]=.ok (.nx,[some (.val (toD (.nd r bs))),R3,some (.val (tz (g::l))),o3,some (.val (.int (i:Nat))),o5]):=by
 let ρ:Ev:=[some (.val (toD (.nd r bs))),R3,some (.val (tz (g::l))),o3,o4,o5]
 have hv:zaa 0 ρ=.ok (toD (.nd r bs),ρ):=rfl
 have hlen:dFn zcU (dA (dOp gIx (zaa 0) (dC (.int 1))) dA0) ρ=.ok (.int (bs.length:Nat),ρ):=zgW (zh4 hv) (by show R.ok (Dt.int ((zhW bs).length:Nat))=_;rw[zcY,List.length_map])
 let p:Nat->Bool:=fun i=>match bs[i]? with
  |some b=>decide (g∈zad b)
  |none=>false
 have hc:zrO ρ=.ok (((List.range bs.length).filter p).map fun i:Nat=>Dt.int i,ρ):=by
  refine zeL (u:=fun i:Nat=>Dt.int i) (l:=List.range bs.length) (ziQ hlen (by have:=N.k;omega)) rfl rfl (by rw[List.length_range];have:=N.k;omega) (fun i hi=>?_) fun i hi _=>?_
  ·have hi':=List.mem_range.mp hi
   have e:bs[i]? = some bs[i]:=List.getElem?_eq_getElem hi'
   have a0:zaa 0 (ρ++[some (.val (.int (i:Nat)))])=.ok (toD (.nd r bs),ρ++[some (.val (.int (i:Nat)))]):=rfl
   have a6:zaa 6 (ρ++[some (.val (.int (i:Nat)))])=.ok (.int (i:Nat),ρ++[some (.val (.int (i:Nat)))]):=rfl
   have a2:dOp gIx (zaa 2) (dC (.int 0)) (ρ++[some (.val (.int (i:Nat)))])=.ok (.int g,ρ++[some (.val (.int (i:Nat)))]):=za0 (d:=tz (g::l)) (ρ1:=ρ++[some (.val (.int (i:Nat)))]) rfl rfl (by unfold gIx tz;rw[List.map_cons];simp only[zks])
   refine zaE (za0 a2 (zmP N a0 a6 e) ?_)
   rw[(zkL rfl zjn).2,zh3]
   show _=PV.R.ok (Dt.bl (match bs[i]? with|some b=>decide (g∈zad b)|none=>false))
   rw[e];rfl
  ·rfl
 obtain ⟨b,hb,gb⟩:=zbL.mp hg
 obtain ⟨k,hk,ek⟩:=List.mem_iff_getElem.mp hb
 have hkp:k∈(List.range bs.length).filter p:=by
  refine List.mem_filter.mpr ⟨List.mem_range.mpr hk,?_⟩
  show (match bs[k]? with|some b=>decide (g∈zad b)|none=>false)=true
  rw[List.getElem?_eq_getElem hk,ek]
  exact decide_eq_true gb
 obtain ⟨i,zbm,ei⟩:=List.exists_cons_of_ne_nil (List.ne_nil_of_mem hkp)
 have hi:i∈(List.range bs.length).filter p:=by rw[ei];exact List.mem_cons_self
 obtain ⟨h1,h2⟩:=List.mem_filter.mp hi
 have hil:=List.mem_range.mp h1
 have h2':(match bs[i]? with|some b=>decide (g∈zad b)|none=>false)=true:=h2
 rw[List.getElem?_eq_getElem hil] at h2'
 refine ⟨i,bs[i],List.getElem?_eq_getElem hil,of_decide_eq_true h2',?_⟩
 rw[ei] at hc
 exact zbj (ρ1:=ρ) (za0 (zb3 hc) rfl (by unfold gIx;rw[List.map_cons];simp only[zks])) (by simp[ρ])
theorem znN{a b:List Int}(h:a.Perm b):zaW a=zaW b:=W.lks_uniq ((zaV a).trans (h.trans (zaV b).symm)) (zcJ a) (zcJ b)
theorem zlm{a b:List Int}(h:zaW a=zaW b):a.Perm b:=(zaV a).symm.trans (by rw[h];exact zaV b)
theorem zpe{i:Nat}{pl:List Nat}:((i:Int)∈zaI pl) ↔ i∈pl:=by
 unfold zaI
 rw[List.mem_map]
 exact ⟨fun ⟨j,hj,e⟩=>by rw[<- Int.ofNat_inj.mp e];exact hj,fun h=>⟨i,h,rfl⟩⟩
section
variable{r:Bool}{bs:List Tr}{F:FD}{R:Option B}
theorem zph{g:Int}{l:List Int}{pl:List Nat}{i:Nat}{b:Tr}{o5:Option B}(N:Nod r bs)(hl:(g::l).length<=6)(hb:bs[i]? = some b)(hpl:i∉pl)(ρ2:Ev)(e2:ρ2=[some (.val (toD (.nd r bs))),R,some (.val (tz (g::l))),some (.own ((zaI pl).map .int)),some (.val (.int (i:Nat))),some (.val (.int ((zad b).length:Nat)))]) :
  zmY [some (.val (toD (.nd r bs))),R,some (.val (tz (g::l))),some (.own ((zaI pl).map .int)),some (.val (.int (i:Nat))),o5]=.ok (.nx,ρ2) /\
  zjj (dTB (zoZ false 3 (zaa 4))) (dTB (dOp (gEq true) (dFz (zdD zcI (dA znW dA0))) (dFz (zdD zbv (dA (tLv 4) dA0))))) ρ2=.ok (!(zaW ((g::l).take (zad b).length) == zaW (zad b)),ρ2) /\
  znW ρ2=.ok (tz ((g::l).take (zad b).length),ρ2)/\zfa (zaa 2) (dO1 (zaa 5)) dO0 ρ2=.ok (tz ((g::l).drop (zad b).length),ρ2):=by
 subst e2
 let ρ2:Ev:=[some (.val (toD (.nd r bs))),R,some (.val (tz (g::l))),some (.own ((zaI pl).map .int)),some (.val (.int (i:Nat))),some (.val (.int ((zad b).length:Nat)))]
 let ρ1:Ev:=[some (.val (toD (.nd r bs))),R,some (.val (tz (g::l))),some (.own ((zaI pl).map .int)),some (.val (.int (i:Nat))),o5]
 have hbl:(zad b).length<=6:=by have:=zd1 (List.mem_of_getElem? hb);have:=N.l;omega
 have a2:zaa 2 ρ2=.ok (tz (g::l),ρ2):=rfl
 have a5:zaa 5 ρ2=.ok (.int ((zad b).length:Nat),ρ2):=rfl
 have a4:zaa 4 ρ2=.ok (.int (i:Nat),ρ2):=rfl
 have hpre:znW ρ2=.ok (tz ((g::l).take (zad b).length),ρ2):=by
  refine (zj6 a2 rfl (zqC a5)).trans ?_
  rw[zrI,zrq]
 refine ⟨?_,?_,hpre,?_⟩
 ·have e:=zgW (g:=zcU) (z:=.int ((zad b).length:Nat)) (zmP (j:=4) (ρ:=ρ1) N rfl rfl hb) (by show PV.R.ok (Dt.int (((zad b).map Dt.int).length:Nat))=_;rw[List.length_map])
  exact zbj e (by simp[ρ1])
 ·have c1:dTB (zoZ false 3 (zaa 4)) ρ2=.ok (false,ρ2):=by
   refine zaE ?_
   unfold zoZ
   rw[a4]
   show ((gIn false (.int (i:Nat)) (.lst ((zaI pl).map .int))).bind fun z=>PV.R.ok (z,ρ2))=_
   rw[(zkL rfl zjn).2,zh3]
   have:decide ((i:Int)∈zaI pl)=false:=decide_eq_false fun z=>hpl (zpe.mp z)
   rw[this];rfl
  have c2:dTB (dOp (gEq true) (dFz (zdD zcI (dA znW dA0))) (dFz (zdD zbv (dA (tLv 4) dA0)))) ρ2=.ok (!(zaW ((g::l).take (zad b).length) == zaW (zad b)),ρ2):=by
   refine zaE (za0 (zb3 (zjx hpre (zog ?_))) (zb3 (zjx (zmP (j:=4) N rfl rfl hb) (zkW (by omega)))) ?_)
   ·rw[List.length_take];omega
   ·rw[zb5 (zi8 _) (zi8 _),zqe];rfl
  rw[show zjj _ _ ρ2=_ from zn5 c1]
  exact c2
 ·refine (zj6 a2 (zqC a5) rfl).trans ?_
  rw[zk5,zlP]
theorem zmG{T o3 o4 o5:Option B}(left:List Int):tC [T,R,some (.val (tz left)),o3,o4,o5]=.ok (!left.isEmpty,[T,R,some (.val (tz left)),o3,o4,o5]):=by
 let ρ:Ev:=[T,R,some (.val (tz left)),o3,o4,o5]
 have a2:zaa 2 ρ=.ok (tz left,ρ):=rfl
 have a0:zeS dA0 ρ=.ok (tz [],ρ):=rfl
 refine zaE (za0 a2 a0 ?_)
 rw[zb5 (zkt _) (zkt _),zse]
 cases left <;> rfl
theorem ziH(N:Nod r bs)(IH:∀ b∈bs,∀ x:List Int,x.Perm (zad b)->F [.val (toD b),.val (tz x)]=.ok (.bl (decide (x∈zar b)),[.val .non,.val .non])) :
  ∀(f:Nat)(left:List Int)(pl:List Nat)(o4 o5:Option B),left.length<f->left.length<=6->left.Nodup->(∀ g∈left,g∈zat bs)->(∀ i∈pl,∀ b,bs[i]? = some b->∀ g∈zad b,g∉left)->pl.length+left.length<=10 ->
   (∃ a2 a3 a4 a5,zbg tC (ziJ F) f [some (.val (toD (.nd r bs))),R,some (.val (tz left)),some (.own ((zaI pl).map .int)),o4,o5]=.ok (.rt (.bl false),[some (.val (toD (.nd r bs))),R,a2,a3,a4,a5])/\¬ ∃ q,(∀ t∈q,t∈bs)/\zjY left q) \/
   (∃ pl' a4 a5,zbg tC (ziJ F) f [some (.val (toD (.nd r bs))),R,some (.val (tz left)),some (.own ((zaI pl).map .int)),o4,o5]=.ok (.nx,[some (.val (toD (.nd r bs))),R,some (.val (tz [])),some (.own ((zaI (pl++pl')).map .int)),a4,a5])/\(∀ i∈pl',i<bs.length)/\zjY left (sel bs pl'))
 |0,left,pl,o4,o5,h,_,_,_,_,_=>by omega
 |f+1,[],pl,o4,o5,_,_,_,_,_,_=>by
  right
  refine ⟨[],o4,o5,?_,by simp,[],.nil,rfl⟩
  rw[List.append_nil]
  exact zmS (zmG [])
 |f+1,g::l,pl,o4,o5,hf,h6,hn,hin,hpl,h10=>by
  obtain ⟨i,b,hb,gb,e1⟩:=zm1 (r:=r) (bs:=bs) (g:=g) (l:=l) (R3:=R) (o3:=some (.own ((zaI pl).map .int))) (o4:=o4) (o5:=o5) N (hin g List.mem_cons_self)
  have hbm:=List.mem_of_getElem? hb
  have hi:=(List.getElem?_eq_some_iff.mp hb).1
  have hip:i∉pl:=fun z=>hpl i z b hb g gb List.mem_cons_self
  have hne:zad b≠[]:=N.A.ne b hbm
  have hm1:1<=(zad b).length:=Nat.pos_of_ne_zero fun z=>hne (List.length_eq_zero_iff.mp z)
  let T:Option B:=some (.val (toD (.nd r bs)))
  let ρ2:Ev:=[T,R,some (.val (tz (g::l))),some (.own ((zaI pl).map .int)),some (.val (.int (i:Nat))),some (.val (.int ((zad b).length:Nat)))]
  obtain ⟨e2,e3,e4,e5⟩:=zph (r:=r) (R:=R) (g:=g) (l:=l) (pl:=pl) (o5:=o5) N h6 hb hip ρ2 rfl
  have hc:=zmG (R:=R) (T:=T) (o3:=some (.own ((zaI pl).map .int))) (o4:=o4) (o5:=o5) (g::l)
  have hkid:zsW 4 ρ2=.ok (toD b,ρ2):=zmk (r:=r) rfl rfl hb
  by_cases hp:((g::l).take (zad b).length).Perm (zad b)
  ·have e3':zjj (dTB (zoZ false 3 (zaa 4))) (dTB (dOp (gEq true) (dFz (zdD zcI (dA znW dA0))) (dFz (zdD zbv (dA (tLv 4) dA0))))) ρ2=.ok (false,ρ2):=by
    rw[e3,znN hp];simp
   have hcall:zal F (dR (zsW 4) (dR znW dR0)) ρ2=.ok (.bl (decide ((g::l).take (zad b).length∈zar b)),ρ2):=ziB hkid e4 (IH b hbm _ hp)
   by_cases hr:(g::l).take (zad b).length∈zar b
   ·rw[decide_eq_true hr] at hcall
    have hlen:pl.length+1<=10:=by simp only[List.length_cons] at h10;omega
    have hbody:ziJ F [T,R,some (.val (tz (g::l))),some (.own ((zaI pl).map .int)),o4,o5]=.ok (.nx,[T,R,some (.val (tz ((g::l).drop (zad b).length))),some (.own ((zaI (pl++[i])).map .int)),some (.val (.int (i:Nat))),some (.val (.int ((zad b).length:Nat)))]):=by
     let ρ3:Ev:=[T,R,some (.val (tz (g::l))),some (.own ((zaI (pl++[i])).map .int)),some (.val (.int (i:Nat))),some (.val (.int ((zad b).length:Nat)))]
     have y1:dEx (zda 3 (zaa 4)) ρ2=.ok (.nx,ρ3):=by
      have:=zlQ (i:=3) (fa:=zaa 4) (ρ:=ρ2) (ρ1:=ρ2) (l0:=(zaI pl).map .int) (ds:=(zaI pl).map .int) (d:=.int (i:Nat)) rfl rfl rfl (by unfold zaI;rw[List.length_map,List.length_map];omega)
      refine (zes this).trans ?_
      show PV.R.ok (Fl.nx,[T,R,_,some (B.own ((zaI pl).map Dt.int++[Dt.int (i:Nat)])),_,_])=_
      have:(zaI (pl++[i])).map Dt.int=(zaI pl).map Dt.int++[Dt.int (i:Nat)]:=by unfold zaI;simp
      rw[show ρ3=[T,R,some (.val (tz (g::l))),some (.own ((zaI (pl++[i])).map .int)),some (.val (.int (i:Nat))),some (.val (.int ((zad b).length:Nat)))] from rfl,this]
     have a2:zaa 2 ρ3=.ok (tz (g::l),ρ3):=rfl
     have a5:zaa 5 ρ3=.ok (.int ((zad b).length:Nat),ρ3):=rfl
     have y2:zfa (zaa 2) (dO1 (zaa 5)) dO0 ρ3=.ok (tz ((g::l).drop (zad b).length),ρ3):=by
      refine (zj6 a2 (zqC a5) rfl).trans ?_
      rw[zk5,zlP]
     rw[show ziJ F=zaw zmv (zaw zmY (zaw zqP (zaw (zr9 F) (zaw (dEx (zda 3 (zaa 4))) (zaU 2 (zfa (zaa 2) (dO1 (zaa 5)) dO0)))))) from rfl,zag e1,zag e2,zag (ρ1:=ρ2) (by rw[show zqP ρ2=_ from zc0 e3'];rfl),zag (ρ1:=ρ2) (by rw[show zr9 F ρ2=_ from zc0 (zf4 (zaE hcall))];rfl),zag y1]
     exact zbj y2 (by simp[ρ3])
    have htd:((g::l).take (zad b).length++(g::l).drop (zad b).length).Nodup:=by rw[List.take_append_drop];exact hn
    rw[List.nodup_append] at htd
    have hdl:((g::l).drop (zad b).length).length+1<=(g::l).length:=by rw[List.length_drop];simp only[List.length_cons] at *;omega
    have hsub:∀ x∈(g::l).drop (zad b).length,x∈g::l:=fun x hx=>List.mem_of_mem_drop hx
    rcases ziH N IH f ((g::l).drop (zad b).length) (pl++[i]) (some (.val (.int (i:Nat)))) (some (.val (.int ((zad b).length:Nat)))) (by omega) (by omega) htd.2.1 (fun x hx=>hin x (hsub x hx)) (fun j hj c hc x hx z=>by
      rcases List.mem_append.mp hj with hj|hj
      ·exact hpl j hj c hc x hx (hsub x z)
      ·rw[List.mem_singleton] at hj
       subst hj
       rw[hb] at hc
       cases hc
       exact htd.2.2 x (hp.mem_iff.mpr hx) x z rfl) (by rw[List.length_append];simp only[List.length_cons,List.length_nil] at *;omega) with ⟨a2,a3,a4,a5,ew,hno⟩|⟨pl',a4,a5,ew,h1,h2⟩
    ·left
     refine ⟨a2,a3,a4,a5,(zkU hc hbody).trans ew,fun ⟨q,hq,hM⟩=>?_⟩
     obtain ⟨q',rfl,_,h3⟩:=zfV N.A hq hbm gb hM
     exact hno ⟨q',fun t ht=>hq t (List.mem_cons_of_mem _ ht),h3⟩
    ·right
     refine ⟨i::pl',a4,a5,(zkU hc hbody).trans ?_,fun j hj=>?_,?_⟩
     ·rw[ew,List.append_assoc];rfl
     ·rcases List.mem_cons.mp hj with rfl|hj
      ·exact hi
      ·exact h1 j hj
     ·rw[zc6 hb]
      exact zni hr h2
   ·left
    rw[decide_eq_false hr] at hcall
    refine ⟨_,_,_,_,zk0 hc (ρ2:=ρ2) ?_,fun ⟨q,hq,hM⟩=>?_⟩
    ·rw[show ziJ F=zaw zmv (zaw zmY (zaw zqP (zaw (zr9 F) (zaw (dEx (zda 3 (zaa 4))) (zaU 2 (zfa (zaa 2) (dO1 (zaa 5)) dO0)))))) from rfl,zag e1,zag e2,zag (ρ1:=ρ2) (by rw[show zqP ρ2=_ from zc0 e3'];rfl)]
     exact zcu (by rw[show zr9 F ρ2=_ from zfr (zf4 (zaE hcall))];rfl)
    ·obtain ⟨q',rfl,h3,_⟩:=zfV N.A hq hbm gb hM
     exact hr h3
  ·left
   have e3':zjj (dTB (zoZ false 3 (zaa 4))) (dTB (dOp (gEq true) (dFz (zdD zcI (dA znW dA0))) (dFz (zdD zbv (dA (tLv 4) dA0))))) ρ2=.ok (true,ρ2):=by
    have:(zaW ((g::l).take (zad b).length) == zaW (zad b))=false:=beq_false_of_ne fun z=>hp (zlm z)
    rw[e3,this];rfl
   refine ⟨_,_,_,_,zk0 hc (ρ2:=ρ2) ?_,fun ⟨q,hq,hM⟩=>?_⟩
   ·rw[show ziJ F=zaw zmv (zaw zmY (zaw zqP (zaw (zr9 F) (zaw (dEx (zda 3 (zaa 4))) (zaU 2 (zfa (zaa 2) (dO1 (zaa 5)) dO0)))))) from rfl,zag e1,zag e2]
    exact zcu (by rw[show zqP ρ2=_ from zfr e3'];rfl)
   ·obtain ⟨q',rfl,h3,_⟩:=zfV N.A hq hbm gb hM
    exact hp (zaS h3)
end
theorem zmQ{r:Bool}{bs:List Tr}{R a2 a4 a5:Option B}{P:List Int}(hl:P.length<64):∃ a3,tEnd [some (.val (toD (.nd r bs))),R,a2,some (.own (P.map .int)),a4,a5]=.ok (.bl (!r || (zaW P == P || (zaW P).reverse == P)),[some (.val (toD (.nd r bs))),R,a2,a3,a4,a5]):=by
 let ρ:Ev:=[some (.val (toD (.nd r bs))),R,a2,some (.own (P.map .int)),a4,a5]
 let ρ1:Ev:=[some (.val (toD (.nd r bs))),R,a2,some (.val (.lst (P.map .int))),a4,a5]
 have hv:zaa 0 ρ=.ok (toD (.nd r bs),ρ):=rfl
 cases r with
 |false =>
  refine ⟨some (.own (P.map .int)),?_⟩
  show dOr _ _ ρ=_
  unfold dOr
  rw[zjI hv]
  rfl
 |true =>
  refine ⟨some (.val (.lst (P.map .int))),?_⟩
  show dOr _ _ ρ=_
  unfold dOr
  rw[zjI hv]
  have u0:zdt 3 ρ=.ok (.lst (P.map .int),ρ1):=rfl
  have u1:zdt 3 ρ1=.ok (.lst (P.map .int),ρ1):=rfl
  have s1:dFz (zdD zbv (dA (zdt 3) dA0)) ρ1=.ok (.lst ((zaW P).map .int),ρ1):=zb3 (zjx u1 (zkW hl))
  have s2:dFz (zgy (dFz (zdD zbv (dA (zdt 3) dA0)))) ρ1=.ok (.lst ((zaW P).reverse.map .int),ρ1):=by
   refine zb3 ?_
   unfold zgy
   rw[s1]
   simp only[PV.R.bind_ok]
   rw[List.map_reverse]
  have s3:zeS (dA (dFz (zdD zbv (dA (zdt 3) dA0))) (dA (dFz (zgy (dFz (zdD zbv (dA (zdt 3) dA0))))) dA0)) ρ1=.ok (.tup [.lst ((zaW P).map .int),.lst ((zaW P).reverse.map .int)],ρ1):=zqZ (zqA s1 (zqA s2 rfl)) (by simp)
  have:=za0 (g:=gIn false) u0 s3 (zkL (neg:=false) (zi8 P) (fun d hd=>by
   simp only[List.mem_cons,List.not_mem_nil,or_false] at hd
   rcases hd with rfl|rfl
   ·exact zi8 _
   ·exact zi8 _)).1
  simp only[PV.R.bind_ok,Bool.not_true,Bool.false_or]
  refine this.trans ?_
  have:inD (.lst (P.map .int)) [.lst ((zaW P).map .int),.lst ((zaW P).reverse.map .int)]=(zaW P == P || (zaW P).reverse == P):=by
   unfold inD
   rw[List.any_cons,List.any_cons,List.any_nil,zqe,zqe,Bool.or_false]
  rw[this]
  rfl
theorem zqr{F:FD}{r:Bool}{bs:List Tr}{row:List Int}(N:Nod r bs)(IH:∀ b∈bs,∀ x:List Int,x.Perm (zad b)->F [.val (toD b),.val (tz x)]=.ok (.bl (decide (x∈zar b)),[.val .non,.val .non]))(hr:row.Perm (zat bs)) :
  za2 false [false,false] 4 (zbd F) [.val (toD (.nd r bs)),.val (tz row)]=.ok (.bl (decide (row∈zar (.nd r bs))),[.val .non,.val .non]):=by
 let T:Option B:=some (.val (toD (.nd r bs)))
 let R:Option B:=some (.val (tz row))
 let ρ0:Ev:=[T,R,none,none,none,none]
 let ρ1:Ev:=[T,R,R,none,none,none]
 let ρ2:Ev:=[T,R,R,some (.own []),none,none]
 have hrl:row.length<=6:=by rw[hr.length_eq];exact N.l
 have x0:dIf (dTB (zeQ "int" (zaa 0))) (zbo (dOp (gEq false) (zaa 1) (zeS (dA (zaa 0) dA0)))) dNx ρ0=.ok (.nx,ρ0):=by
  have:dTB (zeQ "int" (zaa 0)) ρ0=.ok (false,ρ0):=by
   refine zaE ?_
   unfold zeQ
   rw[show zaa 0 ρ0=.ok (toD (.nd r bs),ρ0) from rfl,toD]
   rfl
  rw[zc0 this];rfl
 rcases ziH (r:=r) (F:=F) (R:=R) N IH 10 row [] none none (by omega) hrl (hr.symm.nodup N.A.nd) (fun g hg=>hr.mem_iff.mp hg) (fun i hi=>by cases hi) (by simp;omega) with ⟨a2,a3,a4,a5,ew,hno⟩|⟨pl',a4,a5,ew,h1,h2⟩
 ·have hf:decide (row∈zar (.nd r bs))=false:=decide_eq_false fun z=>by
   obtain ⟨p,hp,hm⟩:=zf0.mp z
   exact hno ⟨p,fun t ht=>(zbk hp).mem_iff.mp ht,hm⟩
  rw[hf]
  refine zav (ρ':=[T,R,a2,a3,a4,a5]) rfl ?_ rfl
  show zbd F ρ0=_
  rw[znk,zag x0,zag (ρ1:=ρ1) rfl,zag (ρ1:=ρ2) rfl]
  exact zcu ew
 ·rw[List.nil_append] at ew
  have hpl:(zaI pl').length<64:=by
   have:=(zil h2).length_eq
   have h3:=zh5 N.A (fun t=>zh1) hr h2
   have:=h3.length_eq
   rw[zjz h1] at this
   unfold zaI;rw[List.length_map]
   have:=N.k
   omega
  obtain ⟨a3,ee⟩:=zmQ (r:=r) (bs:=bs) (R:=R) (a2:=some (.val (tz []))) (a4:=a4) (a5:=a5) (P:=zaI pl') hpl
  have hval:(!r || (zaW (zaI pl') == zaI pl' || (zaW (zaI pl')).reverse == zaI pl'))=decide (row∈zar (.nd r bs)):=by
   cases r with
   |false =>
    rw[decide_eq_true (zrw N.A hr h1 h2)];rfl
   |true =>
    obtain ⟨h3,h4⟩:=zrm N.A hr h1 h2
    rw[h3,Bool.eq_iff_iff]
    simp only[Bool.not_true,Bool.false_or,Bool.or_eq_true,beq_iff_eq,decide_eq_true_eq,h4]
    exact ⟨fun h=>h.elim (fun e=>.inl e.symm) fun e=>.inr e.symm,fun h=>h.elim (fun e=>.inl e.symm) fun e=>.inr e.symm⟩
  rw[hval] at ee
  refine zav (ρ':=[T,R,some (.val (tz [])),a3,a4,a5]) rfl ?_ rfl
  show zbd F ρ0=_
  have ew2:zbg tC (ziJ F) 10 ρ2=.ok (.nx,[T,R,some (.val (tz [])),some (.own ((zaI pl').map .int)),a4,a5]):=ew
  rw[znk,zag x0,zag (ρ1:=ρ1) rfl,zag (ρ1:=ρ2) rfl,zag ew2]
  exact zd3 ee
theorem zns:∀(n:Nat)(t:Tr),dep t<=n->dep t<=8->okT t=true->(zad t).Nodup->(zad t).length<=6->∀ row:List Int,row.Perm (zad t)->zbb n [.val (toD t),.val (tz row)]=.ok (.bl (decide (row∈zar t)),[.val .non,.val .non])
 |0,t,h,_,_,_,_=>by cases t <;> simp[dep] at h
 |n+1,.lf g,_,_,_,_,_=>fun row hr=>by
  let ρ:Ev:=[some (.val (.int g)),some (.val (tz row)),none,none,none,none]
  refine zav (ρ':=ρ) rfl ?_ rfl
  rw[toD]
  show zbd _ ρ=_
  rw[znk]
  have a1:zaa 1 ρ=.ok (tz row,ρ):=rfl
  have a0:zeS (dA (zaa 0) dA0) ρ=.ok (tz [g],ρ):=rfl
  refine zcu ?_
  rw[zfr (ρ1:=ρ) (zaE rfl)]
  refine zd3 (za0 a1 a0 ?_)
  rw[zb5 (zkt _) (zkt _),zse,zar]
  congr 2
  rw[Bool.eq_iff_iff]
  simp
 |n+1,.nd r bs,h,h8,ho,hn,h6=>fun row hr=>by
  have hh:=zc5 h ho hn
  have hd8:∀ b∈bs,dep b<=8:=fun b hb=>by
   simp only[dep] at h8
   have:=zem.mp (Nat.le_refl (zis bs)) b hb
   omega
  have hsub:∀ b∈bs,(zad b).length<=6:=fun b hb=>by
   have:=zd1 hb
   rw[zad] at h6
   omega
  have hk:bs.length<=6:=by
   have:=zh8 bs (Nat.le_refl _) (by rw[okT,Bool.and_eq_true] at ho;exact ho.2)
   rw[zad] at h6
   omega
  rw[zad] at hr h6
  exact zqr (F:=zbb n) ⟨hh.1,hd8,hk,h6⟩ (fun b hb x hx=>zns n b (hh.2 b hb).1 (hd8 b hb) (hh.2 b hb).2.1 (hh.2 b hb).2.2 (hsub b hb) x hx) hr
theorem zq3{t:Tr}{rs:List (List Int)}(hd:dep t<=8)(ho:okT t=true)(hn:(zad t).Nodup)(h6:(zad t).length<=6)(hl:rs.length<=1000)(hr:∀ r∈rs,r.Perm (zad t)) :
  zbu [.val (toD t),.val (.lst (lp rs))]=.ok (.lst (lp (rs.filter fun r=>decide (r∈zar t))),[.val .non,.val .non]):=by
 let ρ:Ev:=[some (.val (toD t)),some (.val (.lst (lp rs)))]
 refine zav (ρ':=ρ) rfl ?_ rfl
 show zbo (dFz (zbh (dIt (zaa 1)) (zba 2) (dTB (zal (zbb 8) (dR (zaa 0) (dR (zaa 2) dR0)))) (zaa 2) 1)) ρ=_
 refine zd3 (zb3 ?_)
 refine (zeL (u:=tz) (f:=tz) (p:=fun r=>decide (r∈zar t)) (l:=rs) (ds:=lp rs) rfl rfl rfl (by omega) (fun r hr'=>?_) fun r hr' _=>rfl).trans rfl
 have a0:zaa 0 (ρ++[some (.val (tz r))])=.ok (toD t,ρ++[some (.val (tz r))]):=rfl
 have a2:zaa 2 (ρ++[some (.val (tz r))])=.ok (tz r,ρ++[some (.val (tz r))]):=rfl
 exact zaE (ziB a0 a2 (zns 8 t hd hd ho hn h6 r (hr r hr')))
theorem zrs{fa:De}{ρ ρ1:Ev}{n:Nat}(h:fa ρ=.ok (.int n,ρ1))(hn:n<=1000):zjV fa ρ=.ok ((zaD n).map .int,ρ1):=by
 have hc:(0:Int)<=n/\(n:Int)<=16777216:=by omega
 unfold zjV
 rw[h]
 show (if 0<=(n:Int)/\(n:Int)<=16777216 then R.ok (zb4 0 (n:Int).toNat,ρ1) else .no)=_
 rw[if_pos hc,Int.toNat_natCast,zkD]
def znJ:List Dt:=[(.int 0),(.int 8),(.bl true),.non]
def Bad(d:Dt):Prop:=isW d=false\/∃ n,d=.int n/\(n<1\/7<n)
theorem zoF:∀ d∈znJ,Bad d:=by
 intro d hd
 simp only[znJ,List.mem_cons,List.not_mem_nil,or_false] at hd
 rcases hd with rfl|rfl|rfl|rfl
 ·exact .inr ⟨0,rfl,by omega⟩
 ·exact .inr ⟨8,rfl,by omega⟩
 ·exact .inl rfl
 ·exact .inl rfl
theorem zpU{fE:De}{ρ:Ev}{n:Nat}{z:Int}(hz:z=n)(h8:ρ[9]? = some (some (.tab zgG)))(h:fE (zcE ρ)=.er n)(hn:n<8):dIf (dTB (dOp (gEq true) (dFz (znA 9 zgG fE)) (dC (.lst [(.int z)])))) (zbo (dC (.bl false))) dNx ρ=.ok (.nx,ρ):=by
 subst hz
 have hr:znA 9 zgG fE ρ=.ok ([.int n],ρ):=by
  unfold znA
  rw[h8]
  simp only[if_true]
  rw[h]
  simp only[hn,if_true]
 have:dTB (dOp (gEq true) (dFz (znA 9 zgG fE)) (dC (.lst [(.int n)]))) ρ=.ok (false,ρ):=by
  refine zaE (za0 (zb3 hr) (e:=.lst [.int n]) rfl ?_)
  rw[zb5 rfl rfl]
  rw[show eqD (.lst [.int n]) (.lst [.int n])=true by rw[eqD,zi3,zi3,eqD];simp]
  rfl
 rw[zc0 this]
 rfl
theorem zlW{F:FD}{fa fb:De}{ρ ρ' ρ'':Ev}{d e:Dt}{n:Nat}(h:fa ρ=.ok (d,ρ'))(h2:fb ρ'=.ok (e,ρ''))(hF:F [.val d,.val e]=.er n):dFz (zcc F (dR fa (dR fb dR0))) ρ=.er n:=by
 unfold dFz zcc dR dR0
 rw[h]
 simp only[R.bind_ok,h2,zjy,zaQ,if_true,zax,hF,R.bind_er]
abbrev zom:DS:=zaw (zbp 7 (zcc zbC (dR (zaa 3) (dR (zaa 4) dR0)))) (zaw (dIf (zca (dTB (zlE 7 5 (zam 4)))) (zbo (dC (.bl false))) dNx) (dEx (zda 7 (zeS dA0))))
abbrev outer:DS:=zaw (zbp 2 (zcc zbT (dR (zaa 0) (dR (zaa 1) dR0)))) (zaw (zaU 3 (dOp zdv (dC (.int 1)) (zal zan (dRO 2 (dR (dC (.int 6)) dR0))))) (zaw (zaU 4 (zal (zaC 8) (dRO 2 (dR (dFz (zjV (zaa 3))) dR0)))) (zaw (zaU 5 (zal zbu (dR (zaa 4) (dR (zal zbR (dR (zaa 3) dR0)) dR0)))) (zaw (dIf (zca (dTB (zal (zam 4) (dR (zal zaN (dR (zaa 3) (dR (zaa 4) dR0))) (dR (dFn zcU (dA (zaa 5) dA0)) dR0))))) (zbo (dC (.bl false))) dNx) (zaw (zeI (zb6 (dC (.int 2))) (zba 6) zom) (zaw (zaU 8 (dOp gIx (dC (.lst znJ)) (zal zan (dRO 2 (dR (dC (.int 4)) dR0))))) (zaw (dIf (dTB (dOp (gEq true) (dFz (znA 9 zgG (dFz (zcc zbC (dR (zaa 8) (dR (zaa 4) dR0)))))) (dC (.lst [(.int 0)])))) (zbo (dC (.bl false))) dNx) (dIf (dTB (dOp (gEq true) (dFz (znA 9 zgG (zal zaN (dR (zaa 8) (dR (zaa 4) dR0))))) (dC (.lst [(.int 0)])))) (zbo (dC (.bl false))) dNx))))))))
theorem zqs:zjp=zaw (zeI (zb6 (dFn zhd (dA (dC (.int 1)) (dA (dFn zhT (dA (dFn zcU (dA (zaa 0) dA0)) (dA (dC (.int 3)) dA0))) dA0)))) (zba 1) outer) (zbo (dC (.bl true))):=rfl
theorem zoL{k:Nat}(i:Int):zam (k+1) [.val (.int i),.val (.int i)]=.ok (.bl true,[.val .non,.val .non]):=zgd k (.int i) (by cases k <;> rfl) rfl
theorem zlq{ns:List Int}{k:Nat}{o2 o3 o4 o5 o6 o7 o8:Option B}:∃ b2 b3 b4 b5 b6 b7 b8,outer [some (.val (.scr ns)),some (.val (.int k)),o2,o3,o4,o5,o6,o7,o8,some (.tab zgG)]=.ok (.nx,[some (.val (.scr ns)),some (.val (.int k)),b2,b3,b4,b5,b6,b7,b8,some (.tab zgG)]):=by
 let S:Option B:=some (.val (.scr ns))
 let K:Option B:=some (.val (.int k))
 let Q:Option B:=some (.tab zgG)
 obtain ⟨st,hs,e1⟩:=zlv (ns:=ns) (k:=k)
 have x1:zbp 2 (zcc zbT (dR (zaa 0) (dR (zaa 1) dR0))) [S,K,o2,o3,o4,o5,o6,o7,o8,Q]=.ok (.nx,[S,K,some (.own st),o3,o4,o5,o6,o7,o8,Q]) :=
  zkR (zpH (ρ':=[S,K,o2,o3,o4,o5,o6,o7,o8,Q]) (ρ'':=[S,K,o2,o3,o4,o5,o6,o7,o8,Q]) rfl rfl e1) (by simp)
 obtain ⟨v,st1,e2,hs1,v0,v1⟩:=zcL (m:=6) hs (by decide) (by decide)
 obtain ⟨N,hN⟩ : ∃ N:Nat,(N:Int)=1+v:=⟨(1+v).toNat,by omega⟩
 have n1:1<=N:=by omega
 have n6:N<=6:=by omega
 let NV:Option B:=some (.val (.int N))
 have x2:zaU 3 (dOp zdv (dC (.int 1)) (zal zan (dRO 2 (dR (dC (.int 6)) dR0)))) [S,K,some (.own st),o3,o4,o5,o6,o7,o8,Q]=.ok (.nx,[S,K,some (.own st1),NV,o4,o5,o6,o7,o8,Q]):=by
  refine zbj (za0 rfl (zhN (ρ:=[S,K,some (.own st),o3,o4,o5,o6,o7,o8,Q]) rfl rfl e2) (z:=.int N) ?_) (by simp)
  rw[hN];rfl
 have hgl:(zaD N).length=N:=zbJ N
 obtain ⟨t,st3,hs3,⟨ho,hpm,hd⟩,e4⟩:=ziq 8 (zaD N) st1 (by omega) (by decide) (by omega) (by omega) hs1
 have hd8:dep t<=8:=by omega
 have hlv:(zad t).length<=6:=by rw[hpm.length_eq];omega
 have hnd:(zad t).Nodup:=hpm.symm.nodup (zc7 N)
 let TV:Option B:=some (.val (toD t))
 have x4:zaU 4 (zal (zaC 8) (dRO 2 (dR (dFz (zjV (zaa 3))) dR0))) [S,K,some (.own st1),NV,o4,o5,o6,o7,o8,Q]=.ok (.nx,[S,K,some (.own st3),NV,TV,o5,o6,o7,o8,Q]) :=
  zbj (zhN (ρ:=[S,K,some (.own st1),NV,o4,o5,o6,o7,o8,Q]) rfl (zb3 (zrs rfl (by omega))) e4) (by simp)
 have hdue:(zbf N N).filter (fun r=>decide (r∈zar t))=zc1 (zar t):=(zj3 ho hpm).symm
 have hlen:(zc1 (zar t)).length=(zar t).length:=(zcT _).length_eq
 have h720:(zar t).length<=720:=Nat.le_trans (zhE ho hnd) (zrB hlv)
 let DV:Option B:=some (.val (.lst (lp (zc1 (zar t)))))
 let ρ5:Ev:=[S,K,some (.own st3),NV,TV,o5,o6,o7,o8,Q]
 let ρ6:Ev:=[S,K,some (.own st3),NV,TV,DV,o6,o7,o8,Q]
 have x5:zaU 5 (zal zbu (dR (zaa 4) (dR (zal zbR (dR (zaa 3) dR0)) dR0))) ρ5=.ok (.nx,ρ6):=by
  have a3:zaa 3 ρ5=.ok (.int (N:Nat),ρ5):=rfl
  have a4:zaa 4 ρ5=.ok (toD t,ρ5):=rfl
  have:=zq3 (rs:=zbf N N) hd8 ho hnd hlv (by have:=zkv N n6 N (Nat.le_refl _);omega) fun r hr=>(zf9.mp hr).trans hpm.symm
  rw[hdue] at this
  exact zbj (ziB a4 (zdP a3 (zlp n6)) this) (by simp[ρ5])
 have x6:dIf (zca (dTB (zal (zam 4) (dR (zal zaN (dR (zaa 3) (dR (zaa 4) dR0))) (dR (dFn zcU (dA (zaa 5) dA0)) dR0))))) (zbo (dC (.bl false))) dNx ρ6=.ok (.nx,ρ6):=by
  have a3:zaa 3 ρ6=.ok (.int (N:Nat),ρ6):=rfl
  have a4:zaa 4 ρ6=.ok (toD t,ρ6):=rfl
  have a5:zaa 5 ρ6=.ok (.lst (lp (zc1 (zar t))),ρ6):=rfl
  have l5:dFn zcU (dA (zaa 5) dA0) ρ6=.ok (.int ((zar t).length:Nat),ρ6):=zgW a5 (by show R.ok (Dt.int ((lp (zc1 (zar t))).length:Nat))=_;rw[zgt,hlen])
  have:zca (dTB (zal (zam 4) (dR (zal zaN (dR (zaa 3) (dR (zaa 4) dR0))) (dR (dFn zcU (dA (zaa 5) dA0)) dR0)))) ρ6=.ok (false,ρ6) :=
   zf4 (zaE (ziB (ziB a3 a4 (znc n1 (by omega) hd8 ho hnd hlv)) l5 (zoL (k:=3) _)))
  rw[zc0 this];rfl
 obtain ⟨ρ7,⟨b6,b7,rfl⟩,x7⟩:=zbc (u:=fun i:Nat=>Dt.int i) (l:=List.range 2) (g:=zba 6) (body:=zom) (fi:=zb6 (dC (.int 2))) (ρ:=ρ6) (I:=fun dn ρ=>∃ b6 b7,ρ=[S,K,some (.own st3),NV,TV,DV,b6,b7,o8,Q]) (ziQ (m:=2) (ρ1:=ρ6) rfl (by decide)) rfl ⟨o6,o7,rfl⟩
  (fun dn c zbm e ρ ⟨b6,b7,hρ⟩=>by
   subst hρ
   let C6:Option B:=some (.val (.int (c:Nat)))
   let r1:Ev:=[S,K,some (.own st3),NV,TV,DV,C6,b7,o8,Q]
   let r2:Ev:=[S,K,some (.own st3),NV,TV,DV,C6,some (.own (lp (zc1 (zar t)))),o8,Q]
   have a3:zaa 3 r1=.ok (.int (N:Nat),r1):=rfl
   have a4:zaa 4 r1=.ok (toD t,r1):=rfl
   have y1:zbp 7 (zcc zbC (dR (zaa 3) (dR (zaa 4) dR0))) r1=.ok (.nx,r2):=zkR (zpH a3 a4 (zmL n1 (by omega) hd8 ho hnd hlv)) (by simp[r1])
   have hsame:=zqO (k:=1) (zc1 (zar t)) (by omega) (fun p hp=>by
    rw[(zaS ((zcT _).mem_iff.mp hp)).length_eq];omega)
   have y2:zlE 7 5 (zam 4) r2=.ok (.bl true,r2):=by
    unfold zlE
    show (match zam 4 [.val (.lst (lp (zc1 (zar t)))),.val (.lst (lp (zc1 (zar t))))] with|PV.R.ok (Dt.bl b,_)=>PV.R.ok (Dt.bl b,r2)|_=>.no)=_
    rw[hsame]
   have y3:dEx (zda 7 (zeS dA0)) r2=.ok (.nx,[S,K,some (.own st3),NV,TV,DV,C6,some (.own (lp (zc1 (zar t))++[.tup []])),o8,Q]) :=
    (zes (zlQ (i:=7) (fa:=zeS dA0) (ρ:=r2) (ρ1:=r2) (l0:=lp (zc1 (zar t))) (ds:=lp (zc1 (zar t))) (d:=.tup []) rfl rfl rfl (by rw[zgt];omega))).trans rfl
   refine ⟨r1,_,rfl,?_,C6,some (.own (lp (zc1 (zar t))++[.tup []])),rfl⟩
   show zom r1=_
   rw[show zom=zaw _ (zaw _ _) from rfl,zag y1,zag (ρ1:=r2) (by rw[zc0 (zf4 (zaE y2))];rfl)]
   exact y3)
 obtain ⟨u,st4,eu,hs4,u0,u1⟩:=zcL (m:=4) hs3 (by decide) (by decide)
 have hul:u.toNat<znJ.length:=by show u.toNat<4;omega
 let ρ8:Ev:=[S,K,some (.own st4),NV,TV,DV,b6,b7,some (.val znJ[u.toNat]),Q]
 have x8:zaU 8 (dOp gIx (dC (.lst znJ)) (zal zan (dRO 2 (dR (dC (.int 4)) dR0)))) [S,K,some (.own st3),NV,TV,DV,b6,b7,o8,Q]=.ok (.nx,ρ8) :=
  zbj (za0 (ρ1:=[S,K,some (.own st3),NV,TV,DV,b6,b7,o8,Q]) rfl (zhN (ρ:=[S,K,some (.own st3),NV,TV,DV,b6,b7,o8,Q]) rfl rfl eu) (znu u0 (by show u<4;omega) (List.getElem?_eq_getElem hul))) (by simp)
 have hb:=zoF znJ[u.toNat] (List.getElem_mem hul)
 have v8:zaa 8 (zcE ρ8)=.ok (znJ[u.toNat],zcE ρ8):=rfl
 have v4:zaa 4 (zcE ρ8)=.ok (toD t,zcE ρ8):=rfl
 have r1:=zpU (z:=0) (n:=0) (ρ:=ρ8) (fE:=dFz (zcc zbC (dR (zaa 8) (dR (zaa 4) dR0)))) rfl rfl (zlW v8 v4 (zow hb)) (by decide)
 have r2:=zpU (z:=0) (n:=0) (ρ:=ρ8) (fE:=zal zaN (dR (zaa 8) (dR (zaa 4) dR0))) rfl rfl (zov v8 v4 (znV hb)) (by decide)
 refine ⟨some (.own st4),NV,TV,DV,b6,b7,some (.val znJ[u.toNat]),?_⟩
 unfold outer
 rw[zag x1,zag x2,zag x4,zag x5,zag x6,zag x7,zag x8,zag r1]
 exact r2
theorem zoy(ns:List Int):zr7 8 zgG zjp ns:=by
 let ρ0:Ev:=[some (.val (.scr ns)),none,none,none,none,none,none,none,none,some (.tab zgG)]
 obtain ⟨j,hj,ej⟩ : ∃ j:Nat,j<=1000/\dFn zhd (dA (dC (.int 1)) (dA (dFn zhT (dA (dFn zcU (dA (zaa 0) dA0)) (dA (dC (.int 3)) dA0))) dA0)) ρ0=.ok (.int (j:Nat),ρ0):=by
  have h0:dFn zhd (dA (dC (.int 1)) (dA (dFn zhT (dA (dFn zcU (dA (zaa 0) dA0)) (dA (dC (.int 3)) dA0))) dA0)) ρ0=.ok (.int (if (if (3:Int)<ns.length then (3:Int) else ns.length) > 1 then (if (3:Int)<ns.length then (3:Int) else ns.length) else 1),ρ0):=rfl
  obtain ⟨j,h1,h2⟩ : ∃ j:Nat,(j:Int)=(if (if (3:Int)<ns.length then (3:Int) else ns.length) > 1 then (if (3:Int)<ns.length then (3:Int) else ns.length) else 1)/\j<=1000:=by
   refine ⟨(if (if (3:Int)<ns.length then (3:Int) else ns.length) > 1 then (if (3:Int)<ns.length then (3:Int) else ns.length) else 1).toNat,?_,?_⟩ <;> split <;> split <;> omega
  refine ⟨j,h2,?_⟩
  rw[h0,h1]
 obtain ⟨ρ',⟨a1,a2,a3,a4,a5,a6,a7,a8,rfl⟩,e⟩:=zbc (u:=fun i:Nat=>Dt.int i) (l:=List.range j) (g:=zba 1) (body:=outer) (ρ:=ρ0)
  (I:=fun _ ρ=>∃ a1 a2 a3 a4 a5 a6 a7 a8,ρ=[some (.val (.scr ns)),a1,a2,a3,a4,a5,a6,a7,a8,some (.tab zgG)]) (ziQ ej hj) rfl ⟨none,none,none,none,none,none,none,none,rfl⟩
  (fun dn k zbm _ ρ ⟨a1,a2,a3,a4,a5,a6,a7,a8,hρ⟩=>by
   subst hρ
   obtain ⟨b2,b3,b4,b5,b6,b7,b8,e⟩:=zlq (ns:=ns) (k:=k) (o2:=a2) (o3:=a3) (o4:=a4) (o5:=a5) (o6:=a6) (o7:=a7) (o8:=a8)
   exact ⟨[some (.val (.scr ns)),some (.val (.int k)),a2,a3,a4,a5,a6,a7,a8,some (.tab zgG)],_,rfl,e,_,_,_,_,_,_,_,_,rfl⟩)
 refine ⟨[some (.val (.scr ns)),a1,a2,a3,a4,a5,a6,a7,a8,some (.tab zgG)],?_⟩
 show zjp ρ0=_
 rw[zqs,zag e]
 rfl
theorem at8{α:Type}{f g:Nat->α}(h:(List.range 8).map f=(List.range 8).map g):∀ n,n<8->f n=g n:=fun n hn=>List.map_inj_left.mp h n (List.mem_range.mpr hn)
theorem xc_of{K:W.Frag}{cls:Nat->Addr}(h:((List.range 8).map fun n=>(W.excIn K (cls n) bmV "ValueError.__new__",W.findIn K (.ref (cls n)) "__getattribute__",W.findIn K (.ref (cls n)) "__getattr__",W.findIn K (.ref (cls n)) "__class__",W.subIn K (.ref (cls n)) (.type "BaseException")))=(List.range 8).map fun _=>(true,some (some (.builtin "BaseException.__getattribute__")),some none,some (some (.builtin "object.__class__")),some true)):∀ n,n<8->Xin K (cls n):=fun n hn=>by
 have e:=at8 h n hn
 simp only[Prod.mk.injEq] at e
 exact ⟨e.1,e.2.1,e.2.2.1,e.2.2.2.1,e.2.2.2.2⟩
theorem xi_of{K:W.Frag}{cls:Nat->Addr}(h:((List.range 8).map fun n=>(List.range 8).map fun k=>W.kitOne K (.ref (cls n)) (.ref (cls k)))=(List.range 8).map fun n=>(List.range 8).map fun k=>some (n == k)):∀ n k,n<8->k<8->W.kitOne K (.ref (cls n)) (.ref (cls k))=some (n == k):=fun n k hn hk=>at8 (at8 h n hn) k hk
abbrev c8(a b c d e f g h:Addr):Nat->Addr:=fun n=>match n with|0=>a|1=>b|2=>c|3=>d|4=>e|5=>f|6=>g|_=>h
section
variable{K:W.Frag}{h:Heap}{mg:Str->Option Value}(X:K.In h)(G:h.Ns mainGlobals mg)
include X G in
theorem fe{x:String}{i:Nat}{f:Addr}{od an:Option Addr}{sl:Array (Option Value)}{oc kV dc pm cd ct:Value}(a:W.nsIn K mainGlobals (Str.ofString x)=some (some (.ref f)))(l:K.lookup f=some ⟨oc,od,.func (W.fnOf (Str.ofString x) (Str.ofString x) (zef (top i)) (zbZ (top i)) (zak (top i)) .none kV dc pm an cd ct),sl⟩)(c:W.codeIn K cd (Str.ofString x)=true)(k:W.keepIn K (.ref f)=true):Uf K mg x i:=⟨_,_,zp5 (st:=top i) l c k,W.mg_of X G a⟩
include X G in
theorem xs_of{CS:Addr}{x:Str}{cls:Nat->Addr}(m:W.nsIn K mainGlobals x=some (some (.ref CS)))(i:Xin K CS)(s:∀ n,n<8->W.subIn K (.ref (cls n)) (.ref CS)=some true):∃ Cs,Xin K Cs/\mg x=some (.ref Cs)/\∀ n,n<8->W.subIn K (.ref (cls n)) (.ref Cs)=some true:=⟨_,i,W.mg_of X G m,s⟩
include X G in
theorem ct{x:Str}{i:Int}{t:Tok}(m:W.nsIn K mainGlobals x=some (some (.int i t))):∃ t,mg x=some (.int i t):=⟨_,W.mg_of X G m⟩
include X G in
theorem fin{l:W.OpenLaw}{w:World}{fa g cM QT:Addr}{C0 C1 C2 C3 C4 C5 C6 C7:Addr}(hfa:mg "law"=some (.ref fa)){oe ao:Option Addr}{sm:Array (Option Value)}{o2 k2 d2 p2 c2:Value}(T:Tx K mg (c8 C0 C1 C2 C3 C4 C5 C6 C7))
  (b:W.nsIn K mainGlobals (Str.ofString "law")=some (some (.ref g))) (lb:K.lookup g=some ⟨o2,oe,.func (W.fnOf (Str.ofString "law") (Str.ofString "law") (zef (top 34)) (zbZ (top 34)) (zak (top 34)) .none k2 d2 p2 ao (.ref cM) c2),sm⟩) (cb:W.codeIn K (.ref cM) (Str.ofString "law")=true) (kb:W.keepIn K (.ref g)=true)
  (ch2:W.codeHdIn K cM QT=true) :
  ∃(fd:FuncData)(cM:Addr),(∀(s:Shared)(v:Value),BindsTo s fd ⟨[v],[]⟩ [("script",v)])/\W.codeHdIn K cM QT=true/\∀ base:Heap,K.In base->base.Ns mainGlobals mg->base.BuiltinsAt mg QT->zeJ l.prog w K mg base (CXe l.prog w) 29 fa fd ["script"] (spT K QT (zr7 8 zgG zjp)):=by
 have e:=hfa.symm.trans (W.mg_of X G b)
 cases e
 exact ⟨W.fnOf "law" "law" (zef (top 34)) (zbZ (top 34)) (zak (top 34)) .none k2 d2 p2 ao (.ref cM) c2,cM,fun s v=>.of_eq rfl,ch2,fun base hK _ hb=>ztI T (zp5 (st:=top 34) lb cb kb) rfl ch2 hb hK⟩
end
theorem walk{l:W.OpenLaw}{q:Program}{loose:List Str}{XP:(Str->Option Value)->Heap->Prop}{YP:World->Heap->Prop}{d:DefRec}{K:Params->W.Frag}{QT:Addr}(hn:l.most=some 63)(hdf:d.params.defaults=[])
  (hY:∀(w:World)(h:Heap),YP w h->(K w.params).In h) (hYQ:∀(w:World)(h:Heap),YP w h->h.get? QT=some (W.tabObj #[])) (hnt:∀ w:World,W.noTabs (K w.params)=true)
  (F:∀(w:World)(mg:Str->Option Value)(fa:Addr)(h:Heap),(K w.params).In h->h.Ns mainGlobals mg->mg d.name=some (.ref fa) ->
   ∃(fd:FuncData)(cM:Addr),(∀(s:Shared)(u:Value),BindsTo s fd ⟨[u],[]⟩ [("script",u)])/\W.codeHdIn (K w.params) cM QT=true/\∀ base:Heap,(K w.params).In base->base.Ns mainGlobals mg->base.BuiltinsAt mg QT->zeJ l.prog w (K w.params) mg base (CXe l.prog w) 29 fa fd ["script"] (spT (K w.params) QT (zr7 8 zgG zjp))) :
  W.WalkO q loose XP YP l.row.toRowW d [] (fun f vs=>PySem.call f vs) :=
 znK (n:=63) (k:=29) (x:="script") (CX:=fun w=>CXe l.prog w) (sp:=fun w=>spT (K w.params) QT (zr7 8 zgG zjp)) hn (by decide) hdf ⟨rfl,by decide,by decide⟩ hY hYQ hnt F (fun w H a ns hl hP hS=>⟨a,ns,rfl,hS,hP,zoy ns,fun _=>rfl⟩) fun _ _ _ _ _ z=>CXe.none z
end Lw
def PySem.W.Fast.tw4982420673977067735:=0
def PySem.W.Fast.tw15024706255784302986:=0
def PySem.W.Fast.tw18156171162758169043:=0
def PySem.W.Fast.tw6420061744687330511:=0
def PySem.W.Fast.tw33925979202586672:=0
def PySem.W.Fast.tw12098951658511416965:=0
def PySem.W.Fast.tw12967960351080080863:=0
def PySem.W.Fast.tw1271710205463034493:=0
def PySem.W.Fast.tw17901446702501383148:=0
def PySem.W.Fast.tw7716883858267247328:=0
def PySem.W.Fast.tw17113827223457968852:=0
open PySem PySem.W PyProof.Rows
set_option maxRecDepth 100000 in
set_option maxHeartbeats 0 in
theorem PySem.Challenge.cw_standtogether_k04_rows_of_trees_holds : PySem.Challenge.rw_standtogether_k04_rows_of_trees.Holds := by
  w_on; o_law; k_head; (case hw => w_witness2)
  k_fill
  refine Lw.walk (l := PySem.Challenge.rw_standtogether_k04_rows_of_trees) rfl rfl (fun w h Y => PySem.W.km_in_of Y) (fun w h Y => PySem.W.km_tabs_of Y _ List.mem_cons_self) (fun w => by kernel_rfl) ?F
  case F =>
    intro w mg fa h KX G hmg
    refine' Lw.fin KX G hmg ⟨Lw.xc_of ?_,PySem.W.mg_of KX G ?x0,PySem.W.mg_of KX G ?x1,PySem.W.mg_of KX G ?x2,PySem.W.mg_of KX G ?x3,PySem.W.mg_of KX G ?x4,PySem.W.mg_of KX G ?x5,PySem.W.mg_of KX G ?x6,
     PySem.W.mg_of KX G ?x7,Lw.xs_of KX G ?x8 ⟨?_,?_,?_,?_,?_⟩ (Lw.at8 ?_),Lw.xi_of ?_,Lw.at8 ?_,Lw.fe KX G ?_ ?_ ?_ ?_,Lw.fe KX G ?_ ?_ ?_ ?_,Lw.fe KX G ?_ ?_ ?_ ?_,Lw.fe KX G ?_ ?_ ?_ ?_,
     Lw.fe KX G ?_ ?_ ?_ ?_,Lw.fe KX G ?_ ?_ ?_ ?_,Lw.fe KX G ?_ ?_ ?_ ?_,Lw.fe KX G ?_ ?_ ?_ ?_,Lw.fe KX G ?_ ?_ ?_ ?_,Lw.fe KX G ?_ ?_ ?_ ?_,Lw.fe KX G ?_ ?_ ?_ ?_,Lw.fe KX G ?_ ?_ ?_ ?_,
     Lw.fe KX G ?_ ?_ ?_ ?_,Lw.fe KX G ?_ ?_ ?_ ?_,Lw.fe KX G ?_ ?_ ?_ ?_,Lw.fe KX G ?_ ?_ ?_ ?_,Lw.fe KX G ?_ ?_ ?_ ?_,Lw.fe KX G ?_ ?_ ?_ ?_,Lw.fe KX G ?_ ?_ ?_ ?_,Lw.fe KX G ?_ ?_ ?_ ?_,
     Lw.fe KX G ?_ ?_ ?_ ?_,PySem.W.mg_none_of KX G ?_,PySem.W.mg_none_of KX G ?_,PySem.W.mg_none_of KX G ?_,PySem.W.mg_none_of KX G ?_,PySem.W.mg_none_of KX G ?_,PySem.W.mg_none_of KX G ?_,PySem.W.mg_none_of KX G ?_,
     PySem.W.mg_none_of KX G ?_,PySem.W.mg_none_of KX G ?_,PySem.W.mg_none_of KX G ?_,PySem.W.mg_none_of KX G ?_,PySem.W.mg_none_of KX G ?_,PySem.W.mg_none_of KX G ?_,PySem.W.mg_none_of KX G ?_,PySem.W.mg_none_of KX G ?_,
     Lw.ct KX G ?_⟩ ?_ ?_ ?_ ?_ ?_
    (case x0|x1|x2|x3|x4|x5|x6|x7|x8 => k_is)
    all_goals try first | k_is | kernel_rfl
end
