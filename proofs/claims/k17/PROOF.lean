import PyProof.Rows.All
import Wide.All
import OpenK.AllK
import Wide.FinOn
import Lean
import PyProof.EqAt
import PyProof.EqKinds
import PyProof.TupleCall
import PySem.Challenge.RW_standtogether_k17_least_bars
set_option Elab.async false
set_option linter.all false
set_option maxRecDepth 100000
set_option maxHeartbeats 4000000
section
namespace L2
open PySem PySem.Spec PyProof.Rows
abbrev Key:=Sum Int Str
def zk0:Key->Value->Bool
 |.inl k,v=>Value.isInt k v
 |.inr x,v=>Value.isStrOf x v
def keyH(w:World):Key->Int
 |.inl k=>hashInt k
 |.inr x=>hashStr w x
theorem zaS:∀{k:Key}{v:Value},zk0 k v=true->(∃ i t,k=Sum.inl i/\v=Value.int i t)\/(∃ x t,k=Sum.inr x/\v=Value.str x t)
 |.inl i,v,h=>by
  obtain ⟨t,e⟩:=Value.isInt_shape (k:=i) (v:=v) h
  exact .inl ⟨i,t,rfl,e⟩
 |.inr x,v,h=>by
  obtain ⟨t,e⟩:=Value.isStrOf_shape (x:=x) (v:=v) h
  exact .inr ⟨x,t,rfl,e⟩
theorem zlC(i:Int)(t:Tok):zk0 (.inl i) (.int i t)=true:=by simp[zk0,Value.isInt]
theorem zlE(x:Str)(t:Tok):zk0 (.inr x) (.str x t)=true:=by simp[zk0,Value.isStrOf]
theorem zse(a b:Int):decide ((Sum.inl a:Key)=Sum.inl b)=(a == b):=by
 by_cases e:a=b
 ·subst e;simp
 ·have h:¬ (Sum.inl a:Key)=Sum.inl b:=fun q=>e (Sum.inl.inj q)
  rw[decide_eq_false h]
  exact (beq_eq_false_iff_ne.mpr e).symm
theorem zsa(a b:Str):decide ((Sum.inr a:Key)=Sum.inr b)=decide (a=b):=by
 by_cases e:a=b
 ·subst e;simp
 ·have h:¬ (Sum.inr a:Key)=Sum.inr b:=fun q=>e (Sum.inr.inj q)
  rw[decide_eq_false h,decide_eq_false e]
theorem zrl(a:Int)(b:Str):decide ((Sum.inl a:Key)=Sum.inr b)=false:=decide_eq_false (fun q=>nomatch q)
theorem zsi(a:Str)(b:Int):decide ((Sum.inr a:Key)=Sum.inl b)=false:=decide_eq_false (fun q=>nomatch q)
def zaR(prog:Program)(w:World):PySem.KeyKind prog w Key where
 is:=zk0
 hash:=keyH w
 inj:=fun v a b ha hb=>by
  rcases zaS ha with ⟨i,t,rfl,rfl⟩|⟨x,t,rfl,rfl⟩
  ·rcases zaS hb with ⟨j,u,rfl,e⟩|⟨y,u,rfl,e⟩
   ·injection e with e1 _;rw[e1]
   ·exact nomatch e
  ·rcases zaS hb with ⟨j,u,rfl,e⟩|⟨y,u,rfl,e⟩
   ·exact nomatch e
   ·injection e with e1 _;rw[e1]
 byValue:=fun k v h=>by
  rcases zaS h with ⟨i,t,rfl,rfl⟩|⟨x,t,rfl,rfl⟩ <;> rfl
 pyHash:=fun hv h=>by
  rcases zaS hv with ⟨i,t,rfl,rfl⟩|⟨x,t,rfl,rfl⟩
  ·exact wpAny_pyHash_int h
  ·exact wpAny_pyHash_str h
 eqBool:=fun hu hv h=>by
  rcases zaS hu with ⟨i,t,rfl,rfl⟩|⟨x,t,rfl,rfl⟩
  ·rcases zaS hv with ⟨j,u,rfl,rfl⟩|⟨y,u,rfl,rfl⟩
   ·rw[zse] at h;exact wpAny_eqBool_int h
   ·rw[zrl] at h;exact SeqAt.EqAt.int_str i t y u _ _ _ _ h
  ·rcases zaS hv with ⟨j,u,rfl,rfl⟩|⟨y,u,rfl,rfl⟩
   ·rw[zsi] at h;exact SeqAt.EqAt.str_int x t j u _ _ _ _ h
   ·rw[zsa] at h;exact wpAny_eqBool_str h
 «strs» := fun k x t v h=>by
  rcases zaS h with ⟨i,u,rfl,e⟩|⟨y,u,rfl,e⟩
  ·exact nomatch e
  ·injection e with e1 _
   subst e1
   cases v <;> rfl
theorem zi5(prog:Program)(w:World)(i:Int)(t:Tok):(zaR prog w).is (.inl i) (.int i t)=true:=zlC i t
theorem zjj(prog:Program)(w:World)(x:Str)(t:Tok):(zaR prog w).is (.inr x) (.str x t)=true:=zlE x t
end L2
namespace L2
open PySem PySem.Spec PyProof.Rows
inductive V where
 |non|bl (b:Bool)|int (i:Int)|str (x:Str)|byt (b:Array UInt8)|flt (b:UInt64)|ref (a:Addr)|ty (n:String)
 deriving DecidableEq
def zaF:V->Value->Prop
 |.non,u=>u=Value.none
 |.bl b,u=>u=Value.bool b
 |.int i,u=>∃ t,u=Value.int i t
 |.str x,u=>∃ t,u=Value.str x t
 |.byt b,u=>∃ t,u=Value.bytes b t
 |.flt b,u=>∃ t,u=Value.float b t
 |.ref a,u=>u=Value.ref a
 |.ty n,u=>u=Value.type n
abbrev zaM:List V->List Value->Prop:=Paired zaF
theorem zaM.length{xs:List V}{us:List Value}(r:zaM xs us):xs.length=us.length:=Paired.length r
theorem zaM.get:∀{xs:List V}{us:List Value}{i:Nat}{x:V},zaM xs us->xs[i]? = some x->∃ u,us[i]? = some u/\zaF x u
 |_,_,_,_,.nil,e=>by simp at e
 |_,_,0,_,.cons r _,e=>by simp at e;subst e;exact ⟨_,rfl,r⟩
 |_,_,i+1,x,.cons _ t,e=>by
  obtain ⟨u,h1,h2⟩:=zaM.get (i:=i) (x:=x) t (by simpa using e)
  exact ⟨u,by simpa using h1,h2⟩
theorem zaM.set{x:V}{u:Value}(r:zaF x u):∀{xs:List V}{us:List Value}(i:Nat),zaM xs us->zaM (xs.set i x) (us.set i u)
 |_,_,_,.nil=>.nil
 |_,_,0,.cons _ t=>.cons r t
 |_,_,i+1,.cons q t=>.cons q (zaM.set r i t)
theorem zaM.append:∀{xs ys:List V}{us ws:List Value},zaM xs us->zaM ys ws->zaM (xs++ys) (us++ws)
 |_,_,_,_,.nil,s=>s
 |_,_,_,_,.cons r t,s=>.cons r (zaM.append t s)
theorem zaM.take:∀{xs:List V}{us:List Value}(n:Nat),zaM xs us->zaM (xs.take n) (us.take n)
 |_,_,0,_=>.nil
 |_,_,_+1,.nil=>.nil
 |_,_,n+1,.cons r t=>.cons r (zaM.take n t)
theorem zaM.drop:∀{xs:List V}{us:List Value}(n:Nat),zaM xs us->zaM (xs.drop n) (us.drop n)
 |_,_,0,r=>r
 |_,_,_+1,.nil=>.nil
 |_,_,n+1,.cons _ t=>zaM.drop n t
def zkF:Option V->Option Value->Prop
 |some v,some u=>zaF v u
 |none,none=>True
 |_,_=>False
def KV{κ:Type}:List (κ×V)->List (κ×Value)->Prop:=Paired fun (p:κ×V) (q:κ×Value)=>p.1=q.1/\zaF p.2 q.2
def kV:Key->V
 |.inl i=>.int i
 |.inr x=>.str x
inductive HO where
  |lst (xs:List V)
  |tup (xs:List V)
  |dK (kvs:List (Key×V))|dT (kvs:List (List Key×V))
  |set (S:Int->Bool) (n:Nat)
  |ins (C dx:Addr) (fs:List (Str×V))
  |own (x:Addr)
  |xd (fs:List (Str×V))
  |met (f x:Addr)
  |rng (lo hi:Int)
  |frz (o:Obj) (u:HO)
  |tbl (ps:Array Value)
  |ext (φ : Heap->Prop)
abbrev Hp:=Addr->Option HO
def upd(H:Hp)(a:Addr)(o:HO):Hp:=fun b=>if b=a then some o else H b
theorem zal{H:Hp}{a:Addr}{o:HO}:upd H a o a=some o:=by unfold upd;rw[if_pos rfl]
theorem zad{H:Hp}{a b:Addr}{o:HO}(h:b≠a):upd H a o b=H b:=by unfold upd;rw[if_neg h]
theorem zsX{H:Hp}{a b:Addr}{o u:HO}(h:H a=some o)(h':H b=some u)(d:o≠u):a≠b:=by
 intro e;subst e;rw[h] at h';exact d (Option.some.inj h')
theorem zaf{H:Hp}{a b:Addr}{o:HO}(h:H a=some o)(h':H b=none):a≠b:=by
 intro e;subst e;rw[h] at h';cases h'
section
variable(P:Program)(w:World)
def zbw(H:Hp)(h:Heap)(a:Addr):HO->Prop
 |.lst xs=>xs.length<=sizeLine/\∃(its:List Value)(n:Nat),zaM xs its/\h.get? a=some { cls:=.type "list",data:=.seq its.toArray n }
 |.tup xs=>xs.length<=sizeLine/\∃ its:List Value,zaM xs its/\∃ n,h.get? a=some { cls:=.type "tuple",data:=.seq its.toArray n }
 |.dK kvs=>kvs.length<=sizeLine/\(a == sysModules)=false/\∃ vs,KV kvs vs/\h.DictOf (zaR P w) a vs
 |.dT kvs=>kvs.length<=sizeLine/\(a == sysModules)=false/\∃ xs:List (List Key×Addr×Value),
   Paired (fun (p:List Key×V) (q:List Key×Addr×Value)=>p.1=q.1/\H q.2.1=some (.tup (p.1.map kV))/\zaF p.2 q.2.2) kvs xs /\
   ∃ o es ep,h.get? a=some o/\o.ExactDict/\o.data=.dict es ep/\es.toList=xs.map (entryOfKey (tupleKind (zaR P w)))/\(xs.map (·.1)).Nodup
 |.set S n=>h.SetOf (intKind P w) a S n
 |.ins C dx fs=>H dx=some (.own a)/\fs.length<=1000/\dx≠a/\h.get? a=some (W.instObj C dx) /\
   ∃ mA,h.Ns1 dx mA/\(∀ f,zkF (fs.lookup f) (mA f))/\PySem.Within mA (fs.map (·.1))
 |.own _=>∃ o,h.get? a=some o
 |.xd fs=>∃ mA,h.Ns1 a mA/\∀ f,zkF (fs.lookup f) (mA f)
 |.rng lo hi=>∃ t u v,h.get? a=some { cls:=.type "range",data:=.fields #[.int lo t,.int hi u,.int 1 v] }
 |.frz o u=>h.get? a=some o/\zbw H h a u
 |.tbl ps=>h.get? a=some { cls:=.none,data:=.fields ps }
 |.met f x=>h.get? a=some (W.methodObj (.ref f) (.ref x))
 |.ext φ => φ h/\(∃ o,h.get? a=some o)/\∀ h1 h2:Heap,φ h1->(∀ o,h1.get? a=some o->h2.get? a=some o)->φ h2
def HOk(H:Hp)(h:Heap):Prop:=∀ a o,H a=some o->zbw P w H h a o
end
section
variable{P:Program}{w:World}{H H':Hp}{h h':Heap}{a:Addr}{o:HO}
theorem zbw.lt(x:zbw P w H h a o):a<h.objs.size:=by
 cases o with
 |lst xs=>obtain ⟨_,_,_,_,e⟩:=x;exact Heap.lt_size e
 |tup xs=>obtain ⟨_,_,_,_,e⟩:=x;exact Heap.lt_size e
 |dK kvs=>obtain ⟨_,_,_,_,o,_,_,e,_⟩:=x;exact Heap.lt_size e
 |dT kvs=>obtain ⟨_,_,_,_,o,_,_,e,_⟩:=x;exact Heap.lt_size e
 |set S n=>obtain ⟨o,_,_,_,e,_⟩:=x;exact Heap.lt_size e
 |ins C dx fs=>obtain ⟨_,_,_,e,_⟩:=x;exact Heap.lt_size e
 |own y=>obtain ⟨_,e⟩:=x;exact Heap.lt_size e
 |xd fs=>obtain ⟨_,⟨_,_,_,e,_⟩,_⟩:=x;exact Heap.lt_size e
 |rng lo hi=>obtain ⟨_,_,_,e⟩:=x;exact Heap.lt_size e
 |frz ob u=>obtain ⟨e,_⟩:=x;exact Heap.lt_size e
 |tbl ps=>exact Heap.lt_size (show h.get? a=some _ from x)
 |met f y=>exact Heap.lt_size (show h.get? a=some _ from x)
 |ext φ => obtain ⟨_,⟨_,e⟩,_⟩:=x;exact Heap.lt_size e
theorem Paired.mapP{α β:Type}{F G:α->β->Prop}:∀{l₁:List α}{l₂:List β},Paired F l₁ l₂->(∀ a b,F a b->G a b)->Paired G l₁ l₂
 |_,_,.nil,_=>.nil
 |_,_,.cons r t,f=>.cons (f _ _ r) (Paired.mapP t f)
theorem zbw.stay(x:zbw P w H h a o)(k:∀ b u,(b=a\/H b=some (.own a))->h.get? b=some u->h'.get? b=some u)
  (ho:∀ b,H b=some (.own a)->H' b=some (.own a)) (ht:∀ b xs,H b=some (.tup xs)->H' b=some (.tup xs)):zbw P w H' h' a o:=by
 induction o with
 |lst xs=>obtain ⟨z,its,n,r,e⟩:=x;exact ⟨z,its,n,r,k _ _ (.inl rfl) e⟩
 |tup xs=>obtain ⟨z,its,r,n,e⟩:=x;exact ⟨z,its,r,n,k _ _ (.inl rfl) e⟩
 |dK kvs=>obtain ⟨z,y,vs,r,ob,es,ep,e,c⟩:=x;exact ⟨z,y,vs,r,ob,es,ep,k _ _ (.inl rfl) e,c⟩
 |dT kvs =>
  obtain ⟨z,y,xs,r,ob,es,ep,e,c⟩:=x
  exact ⟨z,y,xs,Paired.mapP r fun p q z=>⟨z.1,ht _ _ z.2.1,z.2.2⟩,ob,es,ep,k _ _ (.inl rfl) e,c⟩
 |set S n=>obtain ⟨ob,es,ep,t,e,c⟩:=x;exact ⟨ob,es,ep,t,k _ _ (.inl rfl) e,c⟩
 |ins C dx fs =>
  obtain ⟨d,z,ne,e,mA,⟨od,es,ep,e2,c⟩,r⟩:=x
  exact ⟨ho _ d,z,ne,k _ _ (.inl rfl) e,mA,⟨od,es,ep,k _ _ (.inr d) e2,c⟩,r⟩
 |own y=>obtain ⟨ob,e⟩:=x;exact ⟨ob,k _ _ (.inl rfl) e⟩
 |xd fs=>obtain ⟨mA,⟨od,es,ep,e,c⟩,r⟩:=x;exact ⟨mA,⟨od,es,ep,k _ _ (.inl rfl) e,c⟩,r⟩
 |rng lo hi=>obtain ⟨t,u,v,e⟩:=x;exact ⟨t,u,v,k _ _ (.inl rfl) e⟩
 |frz ob u ih=>obtain ⟨e,q⟩:=x;exact ⟨k _ _ (.inl rfl) e,ih q⟩
 |tbl ps =>
  have e:h.get? a=some { cls:=.none,data:=.fields ps }:=x
  show h'.get? a=some { cls:=.none,data:=.fields ps }
  exact k a _ (.inl rfl) e
 |met f y =>
  have e:h.get? a=some (W.methodObj (.ref f) (.ref y)):=x
  show h'.get? a=some (W.methodObj (.ref f) (.ref y))
  exact k a _ (.inl rfl) e
 |ext φ => obtain ⟨p,⟨o,e⟩,st⟩:=x;exact ⟨st _ _ p fun o q=>k _ _ (.inl rfl) q,⟨o,k _ _ (.inl rfl) e⟩,st⟩
theorem HOk.lt(x:HOk P w H h)(e:H a=some o):a<h.objs.size:=(x a o e).lt
theorem HOk.fresh(x:HOk P w H h)(e:h.objs.size<=a):H a=none:=by
 cases q:H a with
 |none=>rfl
 |some u=>exact absurd (Nat.lt_of_lt_of_le (x.lt q) e) (Nat.lt_irrefl _)
theorem HOk.kept(x:HOk P w H h)(k:∀ b u,h.get? b=some u->h'.get? b=some u):HOk P w H h':=fun a o e =>
 (x a o e).stay (fun b u _ q=>k b u q) (fun _ q=>q) fun _ _ q=>q
theorem HOk.laid(x:HOk P w H h)(k:∀ b u,h.get? b=some u->h'.get? b=some u)(hp:h.objs.size<=a)(new:zbw P w (upd H a o) h' a o):HOk P w (upd H a o) h':=fun b u e=>by
 have hn:=x.fresh hp
 by_cases hb:b=a
 ·subst hb;rw[zal] at e;cases e;exact new
 ·rw[zad hb] at e
  exact (x b u e).stay (fun c v _ q=>k c v q) (fun c q=>by rw[zad (zaf q hn)];exact q) fun c xs q=>by rw[zad (zaf q hn)];exact q
end
def Rd(H:Hp)(a:Addr)(u:HO):Prop:=H a=some u\/∃ o,H a=some (.frz o u)
theorem Rd.of{H:Hp}{a:Addr}{u:HO}(h:H a=some u):Rd H a u:=.inl h
theorem Rd.ok{P:Program}{w:World}{H:Hp}{h:Heap}{a:Addr}{u:HO}(r:Rd H a u)(x:HOk P w H h):zbw P w H h a u:=by
 rcases r with r|⟨o,r⟩
 ·exact x a u r
 ·obtain ⟨_,q⟩:=x a _ r
  exact q
def Mut:Option HO->Prop
 |some (.lst _)=>True
 |some (.dK _)=>True
 |some (.dT _)=>True
 |some (.set _ _)=>True
 |some (.ins _ _ _)=>True
 |some (.ext _)=>True
 |_=>False
section
variable{P:Program}{w:World}{H:Hp}{h h':Heap}{x e:Addr}{o':HO}
theorem HOk.write(ok:HOk P w H h)(mu:Mut (H x))(he:e=x\/H e=some (.own x))(k:∀ b u,b≠e->h.get? b=some u->h'.get? b=some u)(heo:∃ u,h'.get? e=some u)
  (new:zbw P w (upd H x o') h' x o'):HOk P w (upd H x o') h':=fun b u q=>by
 have nown:∀ c y,H c=some (.own y)->c≠x:=fun c y r z=>by subst z;rw[r] at mu;exact mu
 have ntup:∀ c xs,H c=some (.tup xs)->c≠x:=fun c xs r z=>by subst z;rw[r] at mu;exact mu
 by_cases hb:b=x
 ·subst hb;rw[zal] at q;cases q;exact new
 ·rw[zad hb] at q
  by_cases hbe:b=e
  ·have q':H b=some (.own x):=by
    rcases he with z|z
    ·exact absurd (hbe.trans z) hb
    ·rw[hbe];exact z
   rw[q] at q';cases q'
   obtain ⟨v,hv⟩:=heo
   exact ⟨v,by rw[hbe];exact hv⟩
  ·refine (ok b u q).stay (fun c v hc r=>k c v ?_ r) (fun c r=>by rw[zad (nown c b r)];exact r) fun c xs r=>by rw[zad (ntup c xs r)];exact r
   rcases hc with rfl|hc
   ·exact hbe
   ·rintro rfl
    rcases he with z|z
    ·exact nown c b hc z
    ·rw[hc] at z;cases z;exact hb rfl
end
structure Un(fs ex:List Addr)(H H':Hp)(h h':Heap):Prop where
 keep:∀ b o,h.get? b=some o->H b=none->b∉fs->b∉ex->h'.get? b=some o
 slot:∀ b o,h.get? b=some o->H b=none->b∈fs->b∉ex->∃ sl,h'.get? b=some { o with slots:=sl }
 free:∀ b o,h.get? b=some o->H b=none->b∉ex->H' b=none
 there:∀ b o,h.get? b=some o->b∉ex->∃ o',h'.get? b=some o'
 tups:∀ b xs,H b=some (.tup xs)->H' b=some (.tup xs)
 frzs:∀ b o u,H b=some (.frz o u)->H' b=some (.frz o u)
 tbls:∀ b ps,H b=some (.tbl ps)->∃ more,H' b=some (.tbl (ps++more))
section
variable{fs fs' ex ex':List Addr}{H H1 H2:Hp}{h h1 h2 h':Heap}{a x e:Addr}{o:HO}
theorem Un.any(u:Un fs ex H H1 h h1){b:Addr}{ob:Obj}(q:h.get? b=some ob)(n:H b=none)(hx:b∉ex):∃ sl,h1.get? b=some { ob with slots:=sl }:=by
 by_cases hb:b∈fs
 ·exact u.slot b ob q n hb hx
 ·exact ⟨ob.slots,u.keep b ob q n hb hx⟩
theorem Un.trans(a:Un fs ex H H1 h h1)(b:Un fs ex H1 H2 h1 h2):Un fs ex H H2 h h2 where
 keep:=fun c ob q n hc hx=>b.keep c ob (a.keep c ob q n hc hx) (a.free c ob q n hx) hc hx
 slot:=fun c ob q n hc hx=>by
  obtain ⟨sl,e1⟩:=a.slot c ob q n hc hx
  obtain ⟨sl',e2⟩:=b.slot c _ e1 (a.free c ob q n hx) hc hx
  exact ⟨sl',e2⟩
 free:=fun c ob q n hx=>by
  obtain ⟨o',e1⟩:=a.there c ob q hx
  exact b.free c o' e1 (a.free c ob q n hx) hx
 there:=fun c ob q hx=>by
  obtain ⟨o',e1⟩:=a.there c ob q hx
  exact b.there c o' e1 hx
 tups:=fun c xs q=>b.tups c xs (a.tups c xs q)
 frzs:=fun c ob xs q=>b.frzs c ob xs (a.frzs c ob xs q)
 tbls:=fun c ps q=>by
  obtain ⟨m1,e1⟩:=a.tbls c ps q
  obtain ⟨m2,e2⟩:=b.tbls c _ e1
  exact ⟨m1++m2,by rw[e2,Array.append_assoc]⟩
theorem Un.kept(k:∀ b u,h.get? b=some u->h'.get? b=some u):Un fs ex H H h h' :=
 ⟨fun b ob q _ _ _=>k b ob q,fun b ob q _ _ _=>⟨ob.slots,k b ob q⟩,fun _ _ _ n _=>n,fun b ob q _=>⟨ob,k b ob q⟩,fun _ _ q=>q,fun _ _ _ q=>q,fun _ ps q=>⟨#[],by rw[q];simp⟩⟩
theorem Un.refl:Un fs ex H H h h:=Un.kept fun _ _ q=>q
theorem Un.laid(k:∀ b u,h.get? b=some u->h'.get? b=some u)(hp:h.objs.size<=a)(hn:H a=none):Un fs ex H (upd H a o) h h' where
 keep:=fun b u q _ _ _=>k b u q
 slot:=fun b u q _ _ _=>⟨u.slots,k b u q⟩
 free:=fun b u q n _=>by rw[zad (Nat.ne_of_lt (Nat.lt_of_lt_of_le (Heap.lt_size q) hp))];exact n
 there:=fun b u q _=>⟨u,k b u q⟩
 tups:=fun b xs q=>by rw[zad (zaf q hn)];exact q
 frzs:=fun b u xs q=>by rw[zad (zaf q hn)];exact q
 tbls:=fun b ps q=>⟨#[],by rw[zad (zaf q hn),q];simp⟩
theorem Un.write(mu:Mut (H x))(he:e=x\/H e=some (.own x))(k:∀ b u,b≠e->h.get? b=some u->h'.get? b=some u)(heo:∃ u,h'.get? e=some u):Un fs ex H (upd H x o) h h':=by
 have hx:∀ b,H b=none->b≠x:=fun b n z=>by subst z;rw[n] at mu;exact mu
 have hb:∀ b,H b=none->b≠e:=fun b n z=>by
  subst z
  rcases he with r|r
  ·exact hx b n r
  ·rw[n] at r;cases r
 have hm:∀ b u,H b=some u->¬ Mut (some u)->b≠x:=fun b u q nm z=>by subst z;rw[q] at mu;exact nm mu
 refine ⟨fun b u q n _ _=>k b u (hb b n) q,fun b u q n _ _=>⟨u.slots,k b u (hb b n) q⟩,fun b u q n _=>by rw[zad (hx b n)];exact n,fun b u q _=>?_,
  fun b xs q=>by rw[zad (hm b _ q fun z=>z)];exact q,fun b u xs q=>by rw[zad (hm b _ q fun z=>z)];exact q,fun b ps q=>⟨#[],by rw[zad (hm b _ q fun z=>z),q];simp⟩⟩
 by_cases hbe:b=e
 ·subst hbe;exact heo
 ·exact ⟨u,k b u hbe q⟩
theorem Un.mono(u:Un fs ex H H1 h h1)(hs:∀ b∈fs,b∈fs')(hx:∀ b∈ex,b∈ex'):Un fs' ex' H H1 h h1 :=
 ⟨fun b ob q n hb he=>u.keep b ob q n (fun z=>hb (hs b z)) fun z=>he (hx b z),fun _ _ q n _ he=>u.any q n fun z=>he (hx _ z),fun b ob q n he=>u.free b ob q n fun z=>he (hx b z),fun b ob q he=>u.there b ob q fun z=>he (hx b z),u.tups,u.frzs,u.tbls⟩
end
def trk(h:Heap)(H:Hp):List Addr:=(List.range h.objs.size).filter fun a=>(H a).isSome
def zmD(h:Heap)(H:Hp):Heap:=W.hideAll h (trk h H)
theorem zkM(h:Heap)(H:Hp):(zmD h H).objs.size=h.objs.size:=W.hideAll_size _ _
theorem zne{h:Heap}{H:Hp}{b:Addr}{o:Obj}(e:h.get? b=some o)(n:H b=none):(zmD h H).get? b=some o :=
 W.hideAll_get _ e fun hm=>by
  have q:(H b).isSome=true:=(List.mem_filter.mp hm).2
  rw[n] at q;simp at q
theorem zpL{h:Heap}{H:Hp}{b:Addr}{o:Obj}(e:(zmD h H).get? b=some o):h.get? b=some o/\H b=none:=by
 have e':h.get? b=some o:=W.of_hideAll (trk h H) e
 refine ⟨e',?_⟩
 cases q:H b with
 |none=>rfl
 |some x =>
  have hm:b∈trk h H:=List.mem_filter.mpr ⟨List.mem_range.mpr (Heap.lt_size e'),by simp[q]⟩
  have z:(zmD h H).get? b=none:=W.hideAll_none (trk h H) hm
  rw[z] at e;cases e
def zpR(g h:Heap)(L:Addr):List (Addr×Obj):=(List.range h.objs.size).filterMap fun a=>if a=L\/(g.get? a).isSome=true then none else (h.get? a).map fun o=>(a,o)
def zay(g h:Heap)(L d:Addr):List (Addr×Obj):=(zpR g h L).filter fun p=>decide (p.1≠d)
end L2
namespace L2
open PySem PySem.Spec PyProof.Rows
structure Mod(K:W.Frag)(mg:Str->Option Value)(base:Heap):Prop where
 kin:K.In base
 glob:base.Ns mainGlobals mg
 blt:∃ mb,base.Ns builtinsNs mb/\∀ x:Str,x≠"__name__"->mb x=bootBuiltins x
 nolimit:base.NoLimit
structure Cx where
 prog:Program
 w:World
 K:W.Frag
 mg:Str->Option Value
 base:Heap
 A:Around
 N:List Str
 s₀:Shared
 H₀:Hp
 env:Env
 outer:List Env
 stack:List Env
 ex:List Addr
 fn:Str->Bool
 calm:Bool
 pn:List (Addr×Obj)
 xe:Value->Shared->Prop
def frs(l:List Env):List Addr:=l.filterMap (·.frame)
abbrev Cx.fs(X:Cx):List Addr:=frs X.outer
def Vis(sc:Scope)(x:Str):Prop:=sc.names.lookup x=some .local\/sc.names.lookup x=some .cell\/sc.names.lookup x=some .free
def Loc(sc:Scope)(x:Str):Prop:=sc.names.lookup x=some .local\/sc.names.lookup x=some .cell
def Look(env:Env)(h:Heap)(m:Str->Option Value)(x:Str)(u:Value):Prop :=
 (env.kindOf x=some .local/\m x=some u)\/((env.kindOf x=some .cell\/env.kindOf x=some .free)/\∃ c,env.cells.lookup x=some c/\h.IsCell c (some u))
structure Cx.Ok(X:Cx):Prop where
 mod:Mod X.K X.mg X.base
 kind:X.env.scope.kind=.function
 glob:X.env.globals=mainGlobals
 blt:X.env.builtins=builtinsNs
 above:X.s₀.heap.objs.size<=X.env.locals
 inj:∀ x y c,X.env.cells.lookup x=some c->X.env.cells.lookup y=some c->x=y
 has:∀ x,(X.env.kindOf x=some .cell\/X.env.kindOf x=some .free)->∃ c,X.env.cells.lookup x=some c
 cab:∀ x c,X.fn x=true->X.env.cells.lookup x=some c->X.s₀.heap.objs.size<=c
 hd:X.calm=true->X.A.handled=none
 frames:X.A.frames=some X.stack
 stk:X.stack=X.outer\/(X.stack=X.env::X.outer/\X.env.frame=some X.env.locals)
 exf:∀ b∈X.ex,b≠X.env.locals/\∀ x c,X.env.cells.lookup x=some c->c≠b
 bs:∀ b o,X.base.get? b=some o->X.s₀.heap.get? b=some o/\X.H₀ b=none
 bsz:X.base.objs.size<=X.s₀.heap.objs.size
 noex:∀ b o,X.base.get? b=some o->b∉X.ex
 exfs:∀ b∈X.ex,b∉X.fs
 funs:X.s₀.heap.FunFrames X.base X.outer
 frf:∀ b∈X.fs,X.H₀ b=none
structure Inv(X:Cx)(pins:List (Addr×Obj))(σ:List (Option V))(H:Hp)(s:Shared):Prop where
 ok:X.Ok
 os:s.os=X.s₀.os
 bare:AllBare s.gens
 base:Un X.fs X.ex X.H₀ H X.s₀.heap s.heap
 loc:∃ m,s.heap.Ns X.env.locals m/\∀(i:Nat)(x:Str)(v:V),X.N[i]? = some x->σ[i]? = some (some v)->Vis X.env.scope x->∃ u,zaF v u/\Look X.env s.heap m x u
 cell:∀ x c,X.env.cells.lookup x=some c->∃ v,s.heap.IsCell c v
 free:H X.env.locals=none
 freeC:∀ x c,X.env.cells.lookup x=some c->H c=none
 pin:∀ p∈X.pn++pins,s.heap.get? p.1=some p.2/\H p.1=none/\p.1≠X.env.locals/\p.1∉X.fs/\∀ v,p.2.data≠.cell v
 hok:HOk X.prog X.w H s.heap
 len:σ.length=X.N.length
section
variable{X:Cx}{pins:List (Addr×Obj)}{σ:List (Option V)}{H H':Hp}{s:Shared}{h':Heap}
theorem Cx.Ok.nofr(ok:X.Ok){b:Addr}{o:Obj}(e:X.base.get? b=some o):b∉X.fs:=fun hb=>by
 have:=(ok.funs.mem hb).1
 rw[e] at this;cases this
theorem Inv.bs(I:Inv X pins σ H s):∀ b o,X.base.get? b=some o->s.heap.get? b=some o/\H b=none:=fun b o e =>
 ⟨I.base.keep b o (I.ok.bs b o e).1 (I.ok.bs b o e).2 (I.ok.nofr e) (I.ok.noex b o e),I.base.free b o (I.ok.bs b o e).1 (I.ok.bs b o e).2 (I.ok.noex b o e)⟩
theorem Inv.bk(I:Inv X pins σ H s):∀ b o,X.base.get? b=some o->s.heap.get? b=some o:=fun b o e=>(I.bs b o e).1
theorem Inv.mod(I:Inv X pins σ H s):Mod X.K X.mg X.base:=I.ok.mod
theorem Inv.kIn(I:Inv X pins σ H s):X.K.In s.heap:=I.ok.mod.kin.keeps I.bk
theorem Inv.nolimit(I:Inv X pins σ H s):s.heap.NoLimit:=I.ok.mod.nolimit.keeps I.bk
theorem Inv.fr(I:Inv X pins σ H s):∃ m,Fr X.base X.env.locals s.heap m :=
 let ⟨m,hn,_⟩:=I.loc
 ⟨m,hn,I.bk,Nat.le_trans I.ok.bsz I.ok.above⟩
theorem Inv.lt(I:Inv X pins σ H s):X.env.locals<s.heap.objs.size:=let ⟨_,hn,_⟩:=I.loc;hn.lt
theorem Inv.sz(I:Inv X pins σ H s):X.s₀.heap.objs.size<=s.heap.objs.size:=Nat.le_trans I.ok.above (Nat.le_of_lt I.lt)
theorem Inv.nofs(I:Inv X pins σ H s){a:Addr}(h:s.heap.objs.size<=a):a∉X.fs:=fun hb=>by
 obtain ⟨_,o,ho,_⟩:=I.ok.funs.mem hb
 exact absurd (Nat.lt_of_lt_of_le (Heap.lt_size ho) (Nat.le_trans I.sz h)) (Nat.lt_irrefl _)
theorem Inv.cne(I:Inv X pins σ H s):∀ x c,X.env.cells.lookup x=some c->c≠X.env.locals:=fun x c e z=>by
 obtain ⟨v,o,ho,hd⟩:=I.cell x c e
 obtain ⟨m,⟨o',es,ep,ho',hd',_⟩,_⟩:=I.loc
 rw[z,ho'] at ho;cases ho;rw[hd'] at hd;cases hd
theorem Inv.funs(I:Inv X pins σ H s):s.heap.FunFrames X.base X.outer:=by
 have all:∀(l:List Env),(∀ b∈frs l,b∈X.fs)->X.s₀.heap.FunFrames X.base l->s.heap.FunFrames X.base l:=by
  intro l
  induction l with
  |nil=>intro _ _;trivial
  |cons env r ih =>
   intro hs hl
   obtain ⟨hk,⟨L,o,hf,hn,ho,hd⟩,hr⟩:=hl
   have hL:L∈X.fs:=hs L (by unfold frs;rw[List.filterMap_cons,hf];exact List.mem_cons_self)
   obtain ⟨sl,e⟩:=I.base.slot L o ho (I.ok.frf L hL) hL fun z=>I.ok.exfs L z hL
   exact ⟨hk,⟨L,_,hf,hn,e,hd⟩,ih (fun b hb=>hs b (by unfold frs;rw[List.filterMap_cons,hf];exact List.mem_cons_of_mem _ hb)) hr⟩
 exact all X.outer (fun _ hb=>hb) I.ok.funs
theorem Inv.stack(I:Inv X pins σ H s):s.heap.FunFrames X.base X.stack:=by
 rcases I.ok.stk with e|⟨e,hf⟩
 ·rw[e];exact I.funs
 ·rw[e]
  obtain ⟨m,hn,_⟩:=I.loc
  refine .cons (by rw[I.ok.kind];decide) hf hn ?_ I.funs
  exact Heap.get?_none_of_le (Nat.le_trans I.ok.bsz I.ok.above)
theorem Inv.stkSub(I:Inv X pins σ H s):∀ b∈frs X.stack,b∈X.env.locals::X.fs:=fun b hb=>by
 rcases I.ok.stk with e|⟨e,hf⟩
 ·rw[e] at hb;exact List.mem_cons_of_mem _ hb
 ·rw[e] at hb
  unfold frs at hb
  rw[List.filterMap_cons,hf] at hb
  exact hb
theorem Inv.stkFree(I:Inv X pins σ H s):∀ b∈frs X.stack,H b=none:=fun b hb=>by
 rcases List.mem_cons.mp (I.stkSub b hb) with e|hb
 ·rw[e];exact I.free
 ·obtain ⟨_,o,ho,_⟩:=I.ok.funs.mem hb
  exact I.base.free b o ho (I.ok.frf b hb) fun z=>I.ok.exfs b z hb
theorem Inv.step{g':Array GenState}{t':Nat}{d':Drawn}{ch:List Addr}(I:Inv X pins σ H s)
  (hch:∀ b∈ch,(b∈X.ex\/X.s₀.heap.objs.size<=b)/\b≠X.env.locals/\(∀ x c,X.env.cells.lookup x=some c->c≠b)/\∀ p∈X.pn++pins,p.1≠b)
  (keep:∀ b o,b≠X.env.locals->b∉X.fs->b∉ch->s.heap.get? b=some o->H b=none->h'.get? b=some o)
  (slot:∀ b o,b≠X.env.locals->b∈X.fs->b∉ch->s.heap.get? b=some o->H b=none->∃ sl,h'.get? b=some { o with slots:=sl }) (free:∀ b o,b∉ch->s.heap.get? b=some o->H b=none->H' b=none)
  (there:∀ b o,b∉ch->s.heap.get? b=some o->∃ o',h'.get? b=some o')
  (tups:∀ b xs,H b=some (.tup xs)->H' b=some (.tup xs)) (frzs:∀ b o u,H b=some (.frz o u)->H' b=some (.frz o u)) (tbls:∀ b ps,H b=some (.tbl ps)->∃ more,H' b=some (.tbl (ps++more)))
  (ns:∀ m,s.heap.Ns X.env.locals m->h'.Ns X.env.locals m) (hok:HOk X.prog X.w H' h') (hg:AllBare g') :
  Inv X pins σ H' { s with heap:=h',gens:=g',drawn:=d',toks:=t' }:=by
 have neL:∀ b o,X.s₀.heap.get? b=some o->b≠X.env.locals:=fun b o e=>Nat.ne_of_lt (Nat.lt_of_lt_of_le (Heap.lt_size e) I.ok.above)
 have neC:∀ b o,X.s₀.heap.get? b=some o->b∉X.ex->b∉ch:=fun b o e hx hb=>by
  rcases (hch b hb).1 with z|z
  ·exact hx z
  ·exact absurd (Nat.lt_of_lt_of_le (Heap.lt_size e) z) (Nat.lt_irrefl _)
 have cellK:∀ x c,X.env.cells.lookup x=some c->∀ v,s.heap.IsCell c v->h'.IsCell c v:=fun x c e v ⟨o,ho,hd⟩=>by
  have nch:c∉ch:=fun z=>(hch c z).2.2.1 x c e rfl
  by_cases hc:c∈X.fs
  ·obtain ⟨sl,q⟩:=slot c o (I.cne x c e) hc nch ho (I.freeC x c e)
   exact ⟨_,q,hd⟩
  ·exact ⟨o,keep c o (I.cne x c e) hc nch ho (I.freeC x c e),hd⟩
 refine ⟨I.ok,I.os,hg,⟨fun b o e n hb hx=>?_,fun b o e n hb hx=>?_,fun b o e n hx=>?_,fun b o e hx=>?_,fun b xs e=>tups b xs (I.base.tups b xs e),fun b o xs e=>frzs b o xs (I.base.frzs b o xs e),fun b ps e=>?_⟩,?_,fun x c e=>?_,?_,fun x c e=>?_,fun p hp=>?_,hok,I.len⟩
 ·exact keep b o (neL b o e) hb (neC b o e hx) (I.base.keep b o e n hb hx) (I.base.free b o e n hx)
 ·obtain ⟨sl,e1⟩:=I.base.slot b o e n hb hx
  obtain ⟨sl',e2⟩:=slot b _ (neL b o e) hb (neC b o e hx) e1 (I.base.free b o e n hx)
  exact ⟨sl',e2⟩
 ·obtain ⟨o',e1⟩:=I.base.there b o e hx
  exact free b o' (neC b o e hx) e1 (I.base.free b o e n hx)
 ·obtain ⟨o',e1⟩:=I.base.there b o e hx
  exact there b o' (neC b o e hx) e1
 ·obtain ⟨m1,e1⟩:=I.base.tbls b ps e
  obtain ⟨m2,e2⟩:=tbls b _ e1
  exact ⟨m1++m2,by rw[e2,Array.append_assoc]⟩
 ·obtain ⟨m,hn,hl⟩:=I.loc
  refine ⟨m,ns m hn,fun i x v e1 e2 e3=>?_⟩
  obtain ⟨u,r,l⟩:=hl i x v e1 e2 e3
  refine ⟨u,r,?_⟩
  rcases l with l|⟨k,c,e,z⟩
  ·exact .inl l
  ·exact .inr ⟨k,c,e,cellK x c e _ z⟩
 ·obtain ⟨v,z⟩:=I.cell x c e
  exact ⟨v,cellK x c e v z⟩
 ·obtain ⟨m,⟨o,_,_,ho,_⟩,_⟩:=I.loc
  exact free _ o (fun z=>(hch _ z).2.1 rfl) ho I.free
 ·obtain ⟨v,o,ho,hd⟩:=I.cell x c e
  exact free c o (fun z=>(hch c z).2.2.1 x c e rfl) ho (I.freeC x c e)
 ·obtain ⟨e,n,ne,nf,d⟩:=I.pin p hp
  have nch:p.1∉ch:=fun z=>(hch p.1 z).2.2.2 p hp rfl
  exact ⟨keep p.1 p.2 ne nf nch e n,free p.1 p.2 nch e n,ne,nf,d⟩
theorem Inv.un{t':Nat}(I:Inv X pins σ H s)(u:Un X.fs [] H H' s.heap h')(hok:HOk X.prog X.w H' h'):Inv X pins σ H' { s with heap:=h',toks:=t' }:=by
 obtain ⟨m,⟨o,es,ep,ho,r⟩,_⟩:=id I.loc
 obtain ⟨sl,hL⟩:=u.any ho I.free (by simp)
 exact I.step (g':=s.gens) (d':=s.drawn) (ch:=[]) (fun _ z=>nomatch z) (fun b o _ hb _ e n=>u.keep b o e n hb (by simp)) (fun b o _ hb _ e n=>u.slot b o e n hb (by simp)) (fun b o _ e n=>u.free b o e n (by simp)) (fun b o _ e=>u.there b o e (by simp)) u.tups u.frzs u.tbls (fun m' hm=>by
  obtain ⟨o',es',ep',ho',r'⟩:=hm
  rw[ho] at ho';cases ho'
  exact ⟨_,es',ep',hL,r'⟩) hok I.bare
theorem Inv.call{g':Array GenState}{t':Nat}{d':Drawn}{ch:List Addr}(I:Inv X pins σ H s)(u:Un (frs X.stack) ch H H' s.heap h')(hok:HOk X.prog X.w H' h')(hg:AllBare g')
  (hch:∀ b∈ch,(b∈X.ex\/X.s₀.heap.objs.size<=b)/\b≠X.env.locals/\(∀ x c,X.env.cells.lookup x=some c->c≠b)/\∀ p∈X.pn++pins,p.1≠b) :
  Inv X pins σ H' { s with heap:=h',gens:=g',drawn:=d',toks:=t' }:=by
 obtain ⟨m,⟨o,es,ep,ho,r⟩,_⟩:=id I.loc
 obtain ⟨sl,hL⟩:=u.any ho I.free fun z=>(hch _ z).2.1 rfl
 exact I.step (ch:=ch) hch (fun b o hL hb hc e n=>u.keep b o e n (fun z=>(List.mem_cons.mp (I.stkSub b z)).elim hL hb) hc) (fun b o _ _ hc e n=>u.any e n hc) (fun b o hc e n=>u.free b o e n hc) (fun b o hc e=>u.there b o e hc) u.tups u.frzs u.tbls (fun m' hm=>by
  obtain ⟨o',es',ep',ho',r'⟩:=hm
  rw[ho] at ho';cases ho'
  exact ⟨_,es',ep',hL,r'⟩) hok hg
theorem Inv.turned{t':Nat}{it:Addr}(I:Inv X pins σ H s)(k:∀ b o,b≠it->s.heap.get? b=some o->h'.get? b=some o)(hn:H it=none)(hL:it≠X.env.locals)
  (h1:it∈X.ex\/X.s₀.heap.objs.size<=it) (h2:∀ x c,X.env.cells.lookup x=some c->c≠it) (h3:∀ p∈X.pn++pins,p.1≠it):Inv X pins σ H { s with heap:=h',toks:=t' }:=by
 have nit:∀ b u,H b=some u->b≠it:=fun b u e z=>by rw[z,hn] at e;cases e
 refine I.step (g':=s.gens) (d':=s.drawn) (ch:=[it]) (fun b hb=>?_) (fun b o _ _ hc e _=>k b o (fun z=>hc (by simp[z])) e) (fun b o _ _ hc e _=>⟨o.slots,k b o (fun z=>hc (by simp[z])) e⟩) (fun _ _ _ _ n=>n)
  (fun b o hc e=>⟨o,k b o (fun z=>hc (by simp[z])) e⟩) (fun _ _ e=>e) (fun _ _ _ e=>e) (fun b ps e=>⟨#[],by rw[e];simp⟩) (fun m hm=>?_) (fun b u e=>?_) I.bare
 ·have e:b=it:=by simpa using hb
  subst e
  exact ⟨h1,hL,h2,h3⟩
 ·obtain ⟨o,es,ep,ho,r⟩:=hm
  exact ⟨o,es,ep,k _ o (Ne.symm hL) ho,r⟩
 ·refine (I.hok b u e).stay (fun c v hc q=>k c v ?_ q) (fun _ q=>q) fun _ _ q=>q
  rcases hc with z|z
  ·rw[z];exact nit b u e
  ·exact nit c _ z
theorem Inv.tok(I:Inv X pins σ H s)(t:Nat):Inv X pins σ H { s with toks:=t }:=I.un (h':=s.heap) (t':=t) Un.refl I.hok
theorem Inv.kept{t':Nat}(I:Inv X pins σ H s)(k:∀ b u,s.heap.get? b=some u->h'.get? b=some u):Inv X pins σ H { s with heap:=h',toks:=t' }:=I.un (Un.kept k) (I.hok.kept k)
theorem Inv.laid{a:Addr}{o:HO}{t':Nat}(I:Inv X pins σ H s)(k:∀ b u,s.heap.get? b=some u->h'.get? b=some u)(hp:s.heap.objs.size<=a)(new:zbw X.prog X.w (upd H a o) h' a o) :
  Inv X pins σ (upd H a o) { s with heap:=h',toks:=t' }:=I.un (Un.laid k hp (I.hok.fresh hp)) (I.hok.laid k hp new)
theorem Inv.write{x e:Addr}{o:HO}{t':Nat}(I:Inv X pins σ H s)(mu:Mut (H x))(he:e=x\/H e=some (.own x))(k:∀ b u,b≠e->s.heap.get? b=some u->h'.get? b=some u)(heo:∃ u,h'.get? e=some u)
  (new:zbw X.prog X.w (upd H x o) h' x o):Inv X pins σ (upd H x o) { s with heap:=h',toks:=t' }:=I.un (Un.write mu he k heo) (I.hok.write mu he k heo new)
theorem Inv.weak{σ':List (Option V)}(I:Inv X pins σ H s)(hl:σ'.length = σ.length)(w:∀(i:Nat) v,σ'[i]? = some (some v)->σ[i]? = some (some v)):Inv X pins σ' H s :=
 ⟨I.ok,I.os,I.bare,I.base,let ⟨m,hn,hl'⟩:=I.loc;⟨m,hn,fun i x v e1 e2 e3=>hl' i x v e1 (w i v e2) e3⟩,I.cell,I.free,I.freeC,I.pin,I.hok,hl.trans I.len⟩
theorem Inv.pins_of{pins':List (Addr×Obj)}(I:Inv X pins σ H s)(h:∀ p∈pins',s.heap.get? p.1=some p.2/\H p.1=none/\p.1≠X.env.locals/\p.1∉X.fs/\∀ v,p.2.data≠.cell v):Inv X pins' σ H s :=
 ⟨I.ok,I.os,I.bare,I.base,I.loc,I.cell,I.free,I.freeC,fun p hp=>(List.mem_append.mp hp).elim (fun z=>I.pin p (List.mem_append_left _ z)) (h p),I.hok,I.len⟩
theorem zjH{N:List Str}(hN:N.Nodup){i j:Nat}{x:Str}(a:N[i]? = some x)(b:N[j]? = some x):i=j:=by
 obtain ⟨h1,e1⟩:=List.getElem?_eq_some_iff.mp a
 obtain ⟨h2,e2⟩:=List.getElem?_eq_some_iff.mp b
 exact (List.getElem_inj hN).mp (e1.trans e2.symm)
theorem zh7{M:Model}{A:Around}{E:Value->Shared->Prop}{i:Nat}{x:Str}{v:V}{u:Value}{Q:Unit->Shared->Prop}(I:Inv X pins σ H s)(hN:X.N.Nodup)(hi:X.N[i]? = some x)(hx:Loc X.env.scope x)(r:zaF v u)
  (h:∀ s',Inv X pins (σ.set i (some v)) H s'->(∃ a,Heap.SameBut a s.heap s'.heap/\(a=X.env.locals\/X.env.cells.lookup x=some a))->Q () s') (hf:X.fn x=true\/X.env.scope.names.lookup x=some .local:=by first|exact .inl rfl|exact .inr rfl|assumption):wpAny M A (storeName X.env x u) Q E s:=by
 obtain ⟨m,hn,hl⟩:=id I.loc
 have hcls:(X.env.scope.kind == .class || (X.env.scope.kind == .module && X.env.locals != X.env.globals))=false:=by rw[I.ok.kind];rfl
 have hiσ:i < σ.length:=by rw[I.len];exact (List.getElem?_eq_some_iff.mp hi).1
 have cne:=I.cne
 have tracked:∀{a:Addr}{h':Heap},(∃ o,s.heap.get? a=some o/\H a=none)->Heap.SameBut a s.heap h'->HOk X.prog X.w H h':=fun {a h'} ha hs b ob e=>by
  obtain ⟨_,_,hfree⟩:=ha
  refine (I.hok b ob e).stay (fun c w' hc q=>(hs.2 c ?_).trans q) (fun _ q=>q) fun _ _ q=>q
  rintro rfl
  rcases hc with rfl|hc
  ·rw[hfree] at e;cases e
  ·rw[hfree] at hc;cases hc
 rcases hx with hk|hk
 ·refine wpAny_storeName_local hk hn (fun h' hn' hs=>?_) hcls
  obtain ⟨oL,_,_,hoL,_⟩:=id hn
  refine h _ ⟨I.ok,I.os,I.bare,⟨fun b o e n hb hx=>?_,fun b o e n hb hx=>?_,I.base.free,fun b o e hx=>?_,I.base.tups,I.base.frzs,I.base.tbls⟩,⟨_,hn',fun j y v' e1 e2 e3=>?_⟩,fun y c e=>?_,I.free,I.freeC,fun p hp=>?_,tracked ⟨oL,hoL,I.free⟩ hs,by simpa using I.len⟩ ⟨_,hs,.inl rfl⟩
  ·exact (hs.2 b (Nat.ne_of_lt (Nat.lt_of_lt_of_le (Heap.lt_size e) I.ok.above))).trans (I.base.keep b o e n hb hx)
  ·obtain ⟨sl,e1⟩:=I.base.slot b o e n hb hx
   exact ⟨sl,(hs.2 b (Nat.ne_of_lt (Nat.lt_of_lt_of_le (Heap.lt_size e) I.ok.above))).trans e1⟩
  ·obtain ⟨o',e1⟩:=I.base.there b o e hx
   exact ⟨o',(hs.2 b (Nat.ne_of_lt (Nat.lt_of_lt_of_le (Heap.lt_size e) I.ok.above))).trans e1⟩
  ·by_cases hj:j=i
   ·subst hj
    rw[hi] at e1;cases e1
    rw[List.getElem?_set_self hiσ] at e2
    cases e2
    exact ⟨u,r,.inl ⟨hk,by simp⟩⟩
   ·rw[List.getElem?_set_ne (Ne.symm hj)] at e2
    obtain ⟨u',r',q⟩:=hl j y v' e1 e2 e3
    refine ⟨u',r',?_⟩
    rcases q with ⟨k,e⟩|⟨k,c,e,z⟩
    ·refine .inl ⟨k,?_⟩
     have:y≠x:=fun e=>hj (zjH hN e1 (e ▸ hi))
     simp[this,e]
    ·exact .inr ⟨k,c,e,z.sameBut hs (cne y c e)⟩
  ·obtain ⟨w',z⟩:=I.cell y c e
   exact ⟨w',z.sameBut hs (cne y c e)⟩
  ·obtain ⟨e,n,ne,nf,d⟩:=I.pin p hp
   exact ⟨(hs.2 p.1 ne).trans e,n,ne,nf,d⟩
 ·have hfn:X.fn x=true:=by
   rcases hf with z|z
   ·exact z
   ·rw[z] at hk;cases hk
  obtain ⟨c,hc⟩:=I.ok.has x (.inl hk)
  obtain ⟨w',z⟩:=I.cell x c hc
  refine wpAny_storeName_cell I.ok.kind hk hc z (fun h' hc' hs=>?_)
  obtain ⟨oc,hoc,hocd⟩:=id z
  refine h { s with heap:=h' } ⟨I.ok,I.os,I.bare,⟨fun b o e n hb hx=>?_,fun b o e n hb hx=>?_,I.base.free,fun b o e hx=>?_,I.base.tups,I.base.frzs,I.base.tbls⟩,⟨m,hn.sameBut hs (Ne.symm (cne x c hc)),fun j y v' e1 e2 e3=>?_⟩,fun y c' e=>?_,I.free,I.freeC,fun p hp=>?_,tracked ⟨oc,hoc,I.freeC x c hc⟩ hs,by simpa using I.len⟩ ⟨c,hs,.inr hc⟩
  ·exact (hs.2 b (Nat.ne_of_lt (Nat.lt_of_lt_of_le (Heap.lt_size e) (I.ok.cab x c hfn hc)))).trans (I.base.keep b o e n hb hx)
  ·obtain ⟨sl,e1⟩:=I.base.slot b o e n hb hx
   exact ⟨sl,(hs.2 b (Nat.ne_of_lt (Nat.lt_of_lt_of_le (Heap.lt_size e) (I.ok.cab x c hfn hc)))).trans e1⟩
  ·obtain ⟨o',e1⟩:=I.base.there b o e hx
   exact ⟨o',(hs.2 b (Nat.ne_of_lt (Nat.lt_of_lt_of_le (Heap.lt_size e) (I.ok.cab x c hfn hc)))).trans e1⟩
  ·by_cases hj:j=i
   ·subst hj
    rw[hi] at e1;cases e1
    rw[List.getElem?_set_self hiσ] at e2
    cases e2
    exact ⟨u,r,.inr ⟨.inl hk,c,hc,hc'⟩⟩
   ·rw[List.getElem?_set_ne (Ne.symm hj)] at e2
    obtain ⟨u',r',q⟩:=hl j y v' e1 e2 e3
    refine ⟨u',r',?_⟩
    rcases q with q|⟨k,c',e,z'⟩
    ·exact .inl q
    ·refine .inr ⟨k,c',e,z'.sameBut hs ?_⟩
     rintro rfl
     exact hj (zjH hN e1 (I.ok.inj _ _ _ e hc ▸ hi))
  ·by_cases hcc:c'=c
   ·subst hcc;exact ⟨_,hc'⟩
   ·obtain ⟨w2,z2⟩:=I.cell y c' e
    exact ⟨w2,z2.sameBut hs hcc⟩
  ·obtain ⟨e,n,ne,nf,d⟩:=I.pin p hp
   refine ⟨(hs.2 p.1 ?_).trans e,n,ne,nf,d⟩
   intro q
   rw[q,hoc] at e
   have q':oc=p.2:=Option.some.inj e
   exact d w' (by rw[<- q'];exact hocd)
theorem zjN{M:Model}{A:Around}{E:Value->Shared->Prop}{i:Nat}{x:Str}{v:V}{u:Value}{Q:Unit->Shared->Prop}(I:Inv X pins σ H s)(hN:X.N.Nodup)(hi:X.N[i]? = some x)(hx:Loc X.env.scope x)(r:zaF v u)
  (h:∀ s',Inv X pins (σ.set i (some v)) H s'->Q () s') (hf:X.fn x=true\/X.env.scope.names.lookup x=some .local:=by first|exact .inl rfl|exact .inr rfl|assumption):wpAny M A (storeName X.env x u) Q E s :=
 zh7 I hN hi hx r (fun s' I' _=>h s' I') hf
theorem Inv.call'{s':Shared}{ch:List Addr}(I:Inv X pins σ H s)(ho:s'.os=s.os)(u:Un (frs X.stack) ch H H' s.heap s'.heap)(hok:HOk X.prog X.w H' s'.heap)(hg:AllBare s'.gens)
  (hch:∀ b∈ch,(b∈X.ex\/X.s₀.heap.objs.size<=b)/\b≠X.env.locals/\(∀ x c,X.env.cells.lookup x=some c->c≠b)/\∀ p∈X.pn++pins,p.1≠b):Inv X pins σ H' s':=by
 obtain ⟨h',g',d',t',o'⟩:=s'
 have e:o'=s.os:=ho
 subst e
 exact I.call (g':=g') (t':=t') (d':=d') u hok hg hch
end
abbrev XK:=Value->Option Addr->Hp->Prop
abbrev St:=List (Option V)
abbrev VK:=V->Hp->Prop
abbrev TE:=St->Hp->VK->Prop
abbrev TT:=St->Hp->(Bool->Hp->Prop)->Prop
abbrev TA:=St->Hp->(List V->Hp->Prop)->Prop
structure zo2 where
 nx:St->Hp->Prop
 rt:VK
 bk:St->Hp->Prop:=fun _ _=>False
 ct:St->Hp->Prop:=fun _ _=>False
abbrev TS:=zo2->St->Hp->Prop
def EP(X:Cx)(pins:List (Addr×Obj))(σ:St)(Q:VK)(u:Value)(s':Shared):Prop:=∃ v H',Inv X pins σ H' s'/\zaF v u/\Q v H'
def TP(X:Cx)(pins:List (Addr×Obj))(σ:St)(Q:Bool->Hp->Prop)(b:Bool)(s':Shared):Prop:=∃ H',Inv X pins σ H' s'/\Q b H'
def AP(X:Cx)(pins:List (Addr×Obj))(σ:St)(Q:List V->Hp->Prop)(us:List Value)(s':Shared):Prop:=∃ vs H',Inv X pins σ H' s'/\zaM vs us/\Q vs H'
def SP(X:Cx)(pins:List (Addr×Obj))(D:zo2)(f:Flow)(s':Shared):Prop :=
 match f with
 |.next=>∃ σ' H',Inv X pins σ' H' s'/\D.nx σ' H'
 |.brk=>∃ σ' H',Inv X pins σ' H' s'/\D.bk σ' H'
 |.cont=>∃ σ' H',Inv X pins σ' H' s'/\D.ct σ' H'
 |.ret u=>∃ v σ' H',Inv X pins σ' H' s'/\zaF v u/\D.rt v H'
def PE(X:Cx)(e:Expr)(t:TE):Prop :=
 ∀(pins:List (Addr×Obj))(s:Shared)(σ:St)(H:Hp)(Q:VK),Inv X pins σ H s->t σ H Q->wpAny (model X.prog X.w) X.A (eval e X.env) (EP X pins σ Q) X.xe s
def PT(X:Cx)(e:Expr)(t:TT):Prop :=
 ∀(pins:List (Addr×Obj))(s:Shared)(σ:St)(H:Hp)(Q:Bool->Hp->Prop),Inv X pins σ H s->t σ H Q->wpAny (model X.prog X.w) X.A (isTrue e X.env (eval e X.env)) (TP X pins σ Q) X.xe s
def PW(X:Cx)(e:Expr)(t:TT):Prop :=
 ∀(whole:Sem Value)(pins:List (Addr×Obj))(s:Shared)(σ:St)(H:Hp)(Q:Bool->Hp->Prop),Inv X pins σ H s->t σ H Q->wpAny (model X.prog X.w) X.A (isTrue e X.env whole) (TP X pins σ Q) X.xe s
theorem PW.pt{X:Cx}{e:Expr}{t:TT}(h:PW X e t):PT X e t:=h _
def PA(X:Cx)(es:List Expr)(t:TA):Prop :=
 ∀(pos:Pos)(pins:List (Addr×Obj))(s:Shared)(σ:St)(H:Hp)(Q:List V->Hp->Prop),Inv X pins σ H s->t σ H Q->wpAny (model X.prog X.w) X.A (spliced (backTo pos (starEach es X.env))) (AP X pins σ Q) X.xe s
def PS(X:Cx)(st:Stmt)(t:TS):Prop :=
 ∀(pins:List (Addr×Obj))(s:Shared)(σ:St)(H:Hp)(D:zo2),Inv X pins σ H s->t D σ H->wpAny (model X.prog X.w) X.A (exec st X.env) (SP X pins D) X.xe s
def PSs(X:Cx)(st:List Stmt)(t:TS):Prop :=
 ∀(pins:List (Addr×Obj))(s:Shared)(σ:St)(H:Hp)(D:zo2),Inv X pins σ H s->t D σ H->wpAny (model X.prog X.w) X.A (execs st X.env) (SP X pins D) X.xe s
theorem thn{α:Type}{t:Sem α}{Q Q':α->Shared->Prop}{M:Model}{A:Around}{E:Value->Shared->Prop}{s:Shared}(h:wpAny M A t Q E s)(hQ:∀ a s,Q a s->Q' a s):wpAny M A t Q' E s:=wpAny_mono h hQ fun _ _ x=>x
end L2
namespace L2
open PySem PySem.Spec PyProof.Rows
section
variable{X:Cx}
def tVar(i:Nat):TE:=fun σ H Q=>∃ v,σ[i]? = some (some v)/\Q v H
def tC(v:V):TE:=fun _ H Q=>Q v H
theorem zb1{i:Nat}{x:Str}{pos:Pos}(hN:X.N[i]? = some x)(hv:Vis X.env.scope x)(hd:(x == ("__debug__" : Str))=false:=by decide)(hcd:(x == ("__classdict__" : Str))=false:=by decide):PE X (.Name x pos) (tVar i):=by
 intro pins s σ H Q I h
 obtain ⟨v,e,h⟩:=h
 obtain ⟨m,hn,hl⟩:=I.loc
 obtain ⟨u,r,l⟩:=hl i x v hN e hv
 have fin:EP X pins σ Q u s:=⟨v,H,I,r,h⟩
 rcases l with ⟨hk,hm⟩|⟨hk,c,hc,hcell⟩
 ·exact wpAny_Name (wpAny_loadName_local I.ok.kind hk hn hm fin) hd
 ·rcases hk with hk|hk
  ·exact wpAny_Name (wpAny_loadName_cell I.ok.kind hk hc hcell fin) hd
  ·exact wpAny_Name (wpAny_loadName_free I.ok.kind hk hc hcell fin hcd) hd
theorem zqL{i j pos}:PE X (.Constant (.int i) j pos) (tC (.int i)):=fun _ _ _ H _ I h=>wpAny_Constant_int ⟨.int i,H,I.tok _,⟨_,rfl⟩,h⟩
theorem zsE{b j pos}:PE X (.Constant (.bool b) j pos) (tC (.bl b)):=fun _ _ _ H _ I h=>Constant_bool ⟨.bl b,H,I,rfl,h⟩
theorem zok{j pos}:PE X (.Constant .none j pos) (tC .non):=fun _ _ _ H _ I h=>Constant_none ⟨.non,H,I,rfl,h⟩
theorem zsg{x j pos}:PE X (.Constant (.str x) j pos) (tC (.str x)):=fun _ _ _ H _ I h=>Calls.Constant_str ⟨.str x,H,I.tok _,⟨_,rfl⟩,h⟩
def Gl(X:Cx)(x:Str):Prop:=X.env.kindOf x=some .globalImplicit
theorem zjp{E:Value->Shared->Prop}{pins:List (Addr×Obj)}{s:Shared}{σ:St}{H:Hp}{x:Str}{u:Value}{pos:Pos}{Q:Value->Shared->Prop}(I:Inv X pins σ H s)(hg:Gl X x)(hm:X.mg x=some u)(h:Q u s)
  (hd:(x == ("__debug__" : Str))=false:=by decide):wpAny (model X.prog X.w) X.A (eval (.Name x pos) X.env) Q E s :=
 Calls.Name_function_global I.ok.kind hg (Calls.loadGlobal_global (by rw[I.ok.glob];exact I.mod.glob.keeps I.bk) hm h) hd
theorem zei{E:Value->Shared->Prop}{pins:List (Addr×Obj)}{s:Shared}{σ:St}{H:Hp}{x:Str}{u:Value}{pos:Pos}{Q:Value->Shared->Prop}(I:Inv X pins σ H s)(hg:Gl X x)(hm:X.mg x=none)(hv:bootBuiltins x=some u)(h:Q u s)
  (hn:x≠"__name__":=by decide) (hd:(x == ("__debug__" : Str))=false:=by decide):wpAny (model X.prog X.w) X.A (eval (.Name x pos) X.env) Q E s:=by
 obtain ⟨mb,h1,h2⟩:=I.mod.blt
 exact Calls.Name_function_global I.ok.kind hg (Calls.loadGlobal_builtin (by rw[I.ok.glob];exact I.mod.glob.keeps I.bk) hm (by rw[I.ok.blt];exact h1.keeps I.bk) ((h2 x hn).trans hv) h) hd
theorem zp2{x:Str}{v:V}{u:Value}{pos:Pos}(hg:Gl X x)(hm:X.mg x=some u)(r:zaF v u)(hd:(x == ("__debug__" : Str))=false:=by decide):PE X (.Name x pos) (tC v) :=
 fun _ _ _ H _ I h=>zjp I hg hm ⟨v,H,I,r,h⟩ hd
theorem ziA{x:Str}{v:V}{u:Value}{pos:Pos}(hg:Gl X x)(hm:X.mg x=none)(hv:bootBuiltins x=some u)(r:zaF v u)(hn:x≠"__name__":=by decide)(hd:(x == ("__debug__" : Str))=false:=by decide):PE X (.Name x pos) (tC v) :=
 fun _ _ _ H _ I h=>zei I hg hm hv ⟨v,H,I,r,h⟩ hn hd
variable{a b:Expr}{ta tb:TE}{pos:Pos}
def PC(X:Cx)(op:CmpOp)(a b:Expr)(t:TE):Prop :=
 ∀(pins:List (Addr×Obj))(s:Shared)(σ:St)(H:Hp)(Q:VK),Inv X pins σ H s->t σ H Q ->
  wpAny (model X.prog X.w) X.A (eval a X.env) (fun v s₁=>wpAny (model X.prog X.w) X.A (eval b X.env) (fun u s₂=>wpAny (model X.prog X.w) X.A (compareOp op v u) (EP X pins σ Q) X.xe s₂) X.xe s₁) X.xe s
theorem zmQ(b:Expr){op:CmpOp}(h:op≠.In)(h2:op≠.NotIn):behindInMarks op b=false:=by
 have e1:(op == CmpOp.In)=false:=by cases op <;> first|rfl|exact absurd rfl h
 have e2:(op == CmpOp.NotIn)=false:=by cases op <;> first|rfl|exact absurd rfl h2
 cases b <;> simp[behindInMarks,e1,e2]
def zsS(ta:TE):TE:=fun σ H Q=>ta σ H fun x H1=>Q (.bl (!decide (x=.non))) H1
theorem zaF.none_iff{x:V}{v:Value}(r:zaF x v):(v == Value.none)=decide (x=.non):=by
 cases x with
 |non=>cases r;rfl
 |bl _=>cases r;rfl
 |int _=>obtain ⟨t,rfl⟩:=r;rfl
 |str _=>obtain ⟨t,rfl⟩:=r;rfl
 |byt _=>obtain ⟨t,rfl⟩:=r;rfl
 |flt _=>obtain ⟨t,rfl⟩:=r;rfl
 |ref _=>cases r;rfl
 |ty _=>cases r;rfl
theorem zqg{j pos'}(ha:PE X a ta):PC X .IsNot a (.Constant .none j pos') (zsS ta):=by
 intro pins s σ H Q I h
 refine thn (ha pins s σ H _ I h) fun v s1 ⟨x,H1,I1,r1,q1⟩=>?_
 exact Constant_none (isnot_none_gen ⟨.bl _,H1,I1,by rw[r1.none_iff];rfl,q1⟩)
def tB(t:TE):TT:=fun σ H Q=>t σ H fun x H1=>∃ c,x=.bl c/\Q c H1
theorem zjt{op:CmpOp}{t:TE}(h:PC X op a b t)(h1:behindInMarks op b=false:=by first|exact zmQ _ (by decide) (by decide)|rfl):PT X (.Compare a [op] [b] pos) (tB t):=by
 intro pins s σ H Q I hw
 refine wpAny_isTrue_Compare1 (thn (h pins s σ H _ I hw) fun v s1 h1=>thn h1 fun u s2 h2=>thn h2 fun c s3 ⟨x,H1,I1,r1,q1⟩=>?_) h1
 obtain ⟨d,rfl,q⟩:=q1
 cases r1
 exact wpAny_truthy_bool ⟨H1,I1,q⟩
theorem zro{e:Expr}{t:TE}(h:PE X e t)(he:∀ whole,isTrue e X.env whole=(do let v <- whole;standAt e.pos;holding [v] (truthy v)):=by intro _;rfl):PT X e (tB t):=by
 intro pins s σ H Q I hw
 refine isTrue_plain (thn (h pins s σ H _ I hw) fun v s1 ⟨x,H1,I1,r1,q1⟩=>?_) (he _)
 obtain ⟨d,rfl,q⟩:=q1
 cases r1
 exact wpAny_truthy_bool ⟨H1,I1,q⟩
variable{tA tB':TT}{zay:List Expr}
def tAnd(t u:TT):TT:=fun σ H Q=>t σ H fun c H1=>if c=true then u σ H1 Q else Q false H1
def tOr(t u:TT):TT:=fun σ H Q=>t σ H fun c H1=>if c=true then Q true H1 else u σ H1 Q
def tNot(t:TT):TT:=fun σ H Q=>t σ H fun c H1=>Q (!c) H1
theorem zqj(ha:PT X a tA):PW X (.BoolOp .And [a] pos) tA:=by
 intro wh pins s σ H Q I h
 refine isTrue_and (thn (ha pins s σ H Q I h) fun c s1 e=>?_)
 cases c with
 |true=>exact isTrue_and_nil e
 |false=>exact e
theorem zqF(ha:PT X a tA):PW X (.BoolOp .Or [a] pos) tA:=by
 intro wh pins s σ H Q I h
 refine isTrue_or (thn (ha pins s σ H Q I h) fun c s1 e=>?_)
 cases c with
 |false=>exact isTrue_or_nil e
 |true=>exact e
theorem zqQ(ha:PT X a tA)(hb:PW X (.BoolOp .And (b::zay) pos) tB'):PW X (.BoolOp .And (a::b::zay) pos) (tAnd tA tB'):=by
 intro wh pins s σ H Q I h
 refine isTrue_and (thn (ha pins s σ H _ I h) fun c s1 ⟨H1,I1,q1⟩=>?_)
 cases c with
 |true=>exact hb wh pins s1 σ H1 Q I1 q1
 |false=>exact ⟨H1,I1,q1⟩
theorem zte(ha:PT X a tA)(hb:PW X (.BoolOp .Or (b::zay) pos) tB'):PW X (.BoolOp .Or (a::b::zay) pos) (tOr tA tB'):=by
 intro wh pins s σ H Q I h
 refine isTrue_or (thn (ha pins s σ H _ I h) fun c s1 ⟨H1,I1,q1⟩=>?_)
 cases c with
 |true=>exact ⟨H1,I1,q1⟩
 |false=>exact hb wh pins s1 σ H1 Q I1 q1
theorem zqX(ha:PT X a tA):PT X (.UnaryOp .Not a pos) (tNot tA):=by
 intro pins s σ H Q I h
 exact isTrue_not (ha pins s σ H (fun c H1=>Q (!c) H1) I h)
def zto(ta tb:TE):TE:=fun σ H Q=>ta σ H fun x H1=>∃ c,x=.bl c/\if c=true then tb σ H1 Q else Q (.bl false) H1
def zs8(ta:TE):TE:=fun σ H Q=>ta σ H fun x H1=>∃ c,x=.bl c/\Q (.bl (!c)) H1
theorem zry{op}{t:TE}(h:PE X a t):PE X (.BoolOp op [a] pos) t:=fun pins s σ H Q I hw=>BoolOp_one (h pins s σ H Q I hw)
theorem zsq(ha:PE X a ta)(hb:PE X (.BoolOp .And (b::zay) pos) tb):PE X (.BoolOp .And (a::b::zay) pos) (zto ta tb):=by
 intro pins s σ H Q I h
 refine BoolOp_and (thn (ha pins s σ H _ I h) fun v s1 ⟨x,H1,I1,r1,q1⟩=>?_)
 obtain ⟨c,rfl,q1⟩:=q1
 cases r1
 refine wpAny_truthy_bool ?_
 cases c with
 |true=>exact hb pins s1 σ H1 Q I1 q1
 |false=>exact ⟨.bl false,H1,I1,rfl,q1⟩
theorem zqT(ha:PE X a ta):PE X (.UnaryOp .Not a pos) (zs8 ta):=by
 intro pins s σ H Q I h
 refine UnaryOp_ (thn (ha pins s σ H _ I h) fun v s1 ⟨x,H1,I1,r1,q1⟩=>?_)
 obtain ⟨c,rfl,q1⟩:=q1
 cases r1
 exact not_of (wpAny_truthy_bool ⟨.bl (!c),H1,I1,rfl,q1⟩)
def tIf(t:TT)(ta tb:TE):TE:=fun σ H Q=>t σ H fun c H1=>if c=true then ta σ H1 Q else tb σ H1 Q
theorem zn3{c:Expr}(hc:PT X c tA)(ha:PE X a ta)(hb:PE X b tb):PE X (.IfExp c a b pos) (tIf tA ta tb):=by
 intro pins s σ H Q I h
 refine wpAny_IfExp (thn (hc pins s σ H _ I h) fun d s1 ⟨H1,I1,q1⟩=>?_)
 cases d with
 |true=>exact ha pins s1 σ H1 Q I1 q1
 |false=>exact hb pins s1 σ H1 Q I1 q1
end
end L2
namespace L2
open PySem PySem.Spec PyProof.Rows
def SqL(K:W.Frag)(H:Hp)(a:Addr)(xs:List V):Prop :=
 Rd H a (.lst xs) \/
  ∃(o:Obj)(its:Array Value)(n:Nat),K.lookup a=some o/\o.cls=.type "list"/\o.dict=none/\o.data=.seq its n/\its.size<=sizeLine/\zaM xs its.toList
def SqT(K:W.Frag)(H:Hp)(a:Addr)(xs:List V):Prop :=
 Rd H a (.tup xs) \/
  ∃(o:Obj)(its:Array Value)(n:Nat),K.lookup a=some o/\o.cls=.type "tuple"/\o.data=.seq its n/\its.size<=sizeLine/\zaM xs its.toList
def absV:Value->Option V
 |.none=>some .non
 |.bool b=>some (.bl b)
 |.int i _=>some (.int i)
 |.str x _=>some (.str x)
 |.bytes b _=>some (.byt b)
 |.float b _=>some (.flt b)
 |.ref a=>some (.ref a)
 |.type n=>some (.ty n)
 |_=>none
theorem zaF.abs{x:V}{u:Value}(r:zaF x u):absV u=some x:=by
 cases x with
 |non=>cases r;rfl
 |bl _=>cases r;rfl
 |int _=>obtain ⟨t,rfl⟩:=r;rfl
 |str _=>obtain ⟨t,rfl⟩:=r;rfl
 |byt _=>obtain ⟨t,rfl⟩:=r;rfl
 |flt _=>obtain ⟨t,rfl⟩:=r;rfl
 |ref _=>cases r;rfl
 |ty _=>cases r;rfl
theorem zaF.inj{x y:V}{u:Value}(r:zaF x u)(q:zaF y u):x=y:=Option.some.inj (r.abs.symm.trans q.abs)
theorem zaM.inj:∀{xs ys:List V}{us:List Value},zaM xs us->zaM ys us->xs=ys
 |_,_,_,.nil,.nil=>rfl
 |_,_,_,.cons r t,.cons r' t'=>by rw[r.inj r',zaM.inj t t']
section
variable{X:Cx}{pins:List (Addr×Obj)}{σ:St}{H:Hp}{s:Shared}{a:Addr}{xs ys:List V}
theorem SqL.of{K:W.Frag}(h:H a=some (.lst xs)):SqL K H a xs:=.inl (.inl h)
theorem SqT.of{K:W.Frag}(h:H a=some (.tup xs)):SqT K H a xs:=.inl (.inl h)
theorem Inv.list(I:Inv X pins σ H s)(h:SqL X.K H a xs):∃ its:List Value,zaM xs its/\PlainL s.heap a its.toArray/\xs.length<=sizeLine:=by
 rcases h with h|⟨o,its,n,hk,hc,hd,hs,hz,r⟩
 ·obtain ⟨z,its,n,r,e⟩:=h.ok I.hok
  exact ⟨its,r,⟨_,n,e,rfl,rfl,rfl⟩,z⟩
 ·refine ⟨its.toList,r,⟨o,n,I.kIn a o hk,hc,hd,by simpa using hs⟩,?_⟩
  have e:=r.length
  simp only[Array.length_toList] at e
  omega
theorem Inv.tuple(I:Inv X pins σ H s)(h:SqT X.K H a xs):∃ its:List Value,zaM xs its/\IsTup s.heap a its.toArray/\xs.length<=sizeLine:=by
 rcases h with h|⟨o,its,n,hk,hc,hs,hz,r⟩
 ·obtain ⟨z,its,r,n,e⟩:=h.ok I.hok
  exact ⟨its,r,⟨_,e,rfl,n,rfl⟩,z⟩
 ·refine ⟨its.toList,r,⟨o,I.kIn a o hk,hc,n,by simpa using hs⟩,?_⟩
  have e:=r.length
  simp only[Array.length_toList] at e
  omega
theorem Inv.list_inj(I:Inv X pins σ H s)(h:SqL X.K H a xs)(h':SqL X.K H a ys):xs=ys:=by
 obtain ⟨its,r,⟨o,n,e,_,_,d⟩,_⟩:=I.list h
 obtain ⟨its',r',⟨o',n',e',_,_,d'⟩,_⟩:=I.list h'
 rw[e] at e';cases e'
 rw[d] at d'
 injection d' with d1 _
 have:its=its':=by simpa using congrArg Array.toList d1
 subst this
 exact r.inj r'
theorem Inv.tuple_inj(I:Inv X pins σ H s)(h:SqT X.K H a xs)(h':SqT X.K H a ys):xs=ys:=by
 obtain ⟨its,r,⟨o,e,_,n,d⟩,_⟩:=I.tuple h
 obtain ⟨its',r',⟨o',e',_,n',d'⟩,_⟩:=I.tuple h'
 rw[e] at e';cases e'
 rw[d] at d'
 injection d' with d1 _
 have:its=its':=by simpa using congrArg Array.toList d1
 subst this
 exact r.inj r'
end
abbrev Cx.wish(X:Cx)(E:Value->Shared->Prop):Cx:={ X with xe:=E }
abbrev Cx.nox(X:Cx):Cx:=X.wish fun _ _=>False
theorem Cx.Ok.wish{X:Cx}(ok:X.Ok)(E:Value->Shared->Prop):(X.wish E).Ok :=
 ⟨ok.mod,ok.kind,ok.glob,ok.blt,ok.above,ok.inj,ok.has,ok.cab,ok.hd,ok.frames,ok.stk,ok.exf,ok.bs,ok.bsz,ok.noex,ok.exfs,ok.funs,ok.frf⟩
theorem Cx.Ok.unwish{X:Cx}{E:Value->Shared->Prop}(ok:(X.wish E).Ok):X.Ok :=
 ⟨ok.mod,ok.kind,ok.glob,ok.blt,ok.above,ok.inj,ok.has,ok.cab,ok.hd,ok.frames,ok.stk,ok.exf,ok.bs,ok.bsz,ok.noex,ok.exfs,ok.funs,ok.frf⟩
section
variable{X:Cx}{pins:List (Addr×Obj)}{σ:St}{H:Hp}{s:Shared}{E:Value->Shared->Prop}
theorem Inv.wish(I:Inv X pins σ H s)(E:Value->Shared->Prop):Inv (X.wish E) pins σ H s:=⟨I.ok.wish E,I.os,I.bare,I.base,I.loc,I.cell,I.free,I.freeC,I.pin,I.hok,I.len⟩
theorem Inv.unwish(I:Inv (X.wish E) pins σ H s):Inv X pins σ H s:=⟨I.ok.unwish,I.os,I.bare,I.base,I.loc,I.cell,I.free,I.freeC,I.pin,I.hok,I.len⟩
theorem SP.unwish{D:zo2}{f:Flow}{s':Shared}(h:SP (X.wish E) pins D f s'):SP X pins D f s':=by
 cases f with
 |next=>obtain ⟨σ',H',I,q⟩:=h;exact ⟨σ',H',I.unwish,q⟩
 |brk=>obtain ⟨σ',H',I,q⟩:=h;exact ⟨σ',H',I.unwish,q⟩
 |cont=>obtain ⟨σ',H',I,q⟩:=h;exact ⟨σ',H',I.unwish,q⟩
 |ret u=>obtain ⟨v,σ',H',I,r,q⟩:=h;exact ⟨v,σ',H',I.unwish,r,q⟩
theorem PE.nox{e:Expr}{t:TE}(h:PE X.nox e t):PE X e t:=fun pins s σ H Q I hw =>
 wpAny_mono (h pins s σ H Q (I.wish _) hw) (fun _ _ ⟨v,H',I',r,q⟩=>⟨v,H',I'.unwish,r,q⟩) fun _ _ z=>False.elim z
theorem PT.nox{e:Expr}{t:TT}(h:PT X.nox e t):PT X e t:=fun pins s σ H Q I hw =>
 wpAny_mono (h pins s σ H Q (I.wish _) hw) (fun _ _ ⟨H',I',q⟩=>⟨H',I'.unwish,q⟩) fun _ _ z=>False.elim z
theorem PSs.nox{st:List Stmt}{t:TS}(h:PSs X.nox st t):PSs X st t:=fun pins s σ H D I hw =>
 wpAny_mono (h pins s σ H D (I.wish _) hw) (fun _ _ q=>q.unwish) fun _ _ z=>False.elim z
end
section
variable{X:Cx}{st:Stmt}{zay:List Stmt}{t u:TS}{e:Expr}{te:TE}{pos:Pos}
def ztm:TS:=fun D σ H=>D.nx σ H
def tSeq(t u:TS):TS:=fun D σ H=>t { D with nx:=u D } σ H
theorem zpz:PSs X [] ztm:=fun _ _ σ H _ I h=>wpAny_execs_nil ⟨σ,H,I,h⟩
theorem zny(h1:PS X st t)(h2:PSs X zay u):PSs X (st::zay) (tSeq t u):=by
 intro pins s σ H D I h
 refine wpAny_execs_cons (thn (h1 pins s σ H { D with nx:=u D } I h) fun f s1 q=>?_)
 cases f with
 |next =>
  obtain ⟨σ',H',I',q⟩:=q
  exact h2 pins s1 σ' H' D I' q
 |ret v=>exact q
 |brk=>exact q
 |cont=>exact q
theorem zpO(h1:PS X st t):PSs X [st] t:=by
 intro pins s σ H D I h
 refine wpAny_execs_cons (thn (h1 pins s σ H D I h) fun f s1 q=>?_)
 cases f with
 |next=>exact wpAny_execs_nil q
 |ret v=>exact q
 |brk=>exact q
 |cont=>exact q
theorem Inv.quiet{pins:List (Addr×Obj)}{σ:St}{H:Hp}{s:Shared}(I:Inv X pins σ H s):interactive X.env=false:=by simp[interactive,I.ok.kind]
def zsT(te:TE):TS:=fun D σ H=>te σ H fun _ H1=>D.nx σ H1
theorem zpH(he:PE X e te)(hs:swapsWith e none pos.line X.env=pure false:=by rfl):PS X (.Expr e pos) (zsT te):=by
 intro pins s σ H D I h
 exact wpAny_Expr_any (thn (he pins s σ H _ I h) fun v s1 ⟨x,H1,I1,r1,q1⟩=>⟨σ,H1,I1,q1⟩) I.quiet hs
def tRet(te:TE):TS:=fun D σ H=>te σ H D.rt
theorem zou(he:PE X e te):PS X (.Return (some e) pos) (tRet te):=by
 intro pins s σ H D I h
 exact wpAny_Return_some (thn (he pins s σ H _ I h) fun v s1 ⟨x,H1,I1,r1,q1⟩=>⟨x,σ,H1,I1,r1,q1⟩)
def tIfS(c:TT)(t u:TS):TS:=fun D σ H=>c σ H fun b H1=>if b=true then t D σ H1 else u D σ H1
theorem zts{c:Expr}{a b:List Stmt}{tc:TT}(hc:PT X c tc)(ha:PSs X a t)(hb:PSs X b u):PS X (.If c a b pos) (tIfS tc t u):=by
 intro pins s σ H D I h
 refine wpAny_If (thn (hc pins s σ H _ I h) fun d s1 ⟨H1,I1,q1⟩=>?_)
 cases d with
 |true=>exact ha pins s1 σ H1 D I1 q1
 |false=>exact hb pins s1 σ H1 D I1 q1
end
abbrev TG:=V->St->Hp->(St->Hp->Prop)->Prop
abbrev TGs:=List V->St->Hp->(St->Hp->Prop)->Prop
def PG(X:Cx)(target:Expr)(t:TG):Prop :=
 ∀(pins:List (Addr×Obj))(s:Shared)(σ:St)(H:Hp)(v:V)(u:Value)(Q:St->Hp->Prop),Inv X pins σ H s->zaF v u->t v σ H Q ->
  wpAny (model X.prog X.w) X.A (assign target X.env u) (fun _ s'=>∃ σ' H',Inv X pins σ' H' s'/\Q σ' H') X.xe s
def PGs(X:Cx)(ts:List Expr)(t:TGs):Prop :=
 ∀(pins:List (Addr×Obj))(s:Shared)(σ:St)(H:Hp)(vs:List V)(us:List Value)(Q:St->Hp->Prop),Inv X pins σ H s->zaM vs us->t vs σ H Q ->
  wpAny (model X.prog X.w) X.A (assignInOrder ((assignEach ts X.env).map (·.2)) us) (fun _ s'=>∃ σ' H',Inv X pins σ' H' s'/\Q σ' H') X.xe s
abbrev zsN:=V->V->V->Hp->(Hp->Prop)->Prop
def PSet(X:Cx)(t:zsN):Prop :=
 ∀(pins:List (Addr×Obj))(s:Shared)(σ:St)(H:Hp)(o i v:V)(ov iv u:Value)(Q:Hp->Prop),Inv X pins σ H s->zaF o ov->zaF i iv->zaF v u->t o i v H Q ->
  wpAny (model X.prog X.w) X.A (setItem ov iv u) (fun _ s'=>∃ H',Inv X pins σ H' s'/\Q H') X.xe s
section
variable{X:Cx}{pos:Pos}
def zqA(i:Nat):TG:=fun v σ H Q=>Q (σ.set i (some v)) H
theorem ziR{i:Nat}{x:Str}(hN:X.N.Nodup)(hi:X.N[i]? = some x)(hx:Loc X.env.scope x)(hf:X.fn x=true\/X.env.scope.names.lookup x=some .local:=by first|exact .inl rfl|exact .inr rfl|assumption):PG X (.Name x pos) (zqA i):=by
 intro pins s σ H v u Q I r h
 exact wpAny_assign_Name (zjN I hN hi hx r (fun s' I'=>⟨_,H,I',h⟩) hf)
def gNil:TGs:=fun vs σ H Q=>vs=[]/\Q σ H
def ztf(t:TG)(u:TGs):TGs:=fun vs σ H Q=>∃ v r,vs=v::r/\t v σ H fun σ' H'=>u r σ' H' Q
theorem zpp:PGs X [] gNil:=by
 intro pins s σ H vs us Q I r h
 obtain ⟨e,h⟩:=h
 subst e
 cases r
 exact assignInOrder_nil ⟨σ,H,I,h⟩
theorem zj3{e:Expr}{es:List Expr}{t:TG}{u:TGs}(h1:PG X e t)(h2:PGs X es u)
  (hs:(assignEach (e::es) X.env).map (·.2)=assign e X.env::(assignEach es X.env).map (·.2):=by rfl):PGs X (e::es) (ztf t u):=by
 intro pins s σ H vs us Q I r h
 obtain ⟨v,vr,e1,h⟩:=h
 subst e1
 cases r with
 |cons r rr =>
  rw[hs]
  refine assignInOrder_cons (thn (h1 pins s σ H _ _ _ I r h) fun _ s1 ⟨σ1,H1,I1,q1⟩=>?_)
  exact h2 pins s1 σ1 H1 _ _ Q I1 rr q1
def gTup(K:W.Frag)(n:Nat)(t:TGs):TG:=fun v σ H Q=>∃ a xs,v=.ref a/\SqT K H a xs/\xs.length=n/\t xs σ H Q
theorem zrr{es:List Expr}{k:Nat}{t:TGs}{n:Nat}(hc:X.calm=true)(h:PGs X es t)
  (hn:(assignEach es X.env).length=n:=by rfl) (hst:(assignEach es X.env).findIdx? (·.1)=none:=by rfl):PG X (.Tuple es k pos) (gTup X.K n t):=by
 intro pins s σ H v u Q I r hw
 obtain ⟨a,xs,e1,hq,hl,hw⟩:=hw
 subst e1
 cases r
 obtain ⟨its,rv,ht,hz⟩:=I.tuple hq
 refine assign_Tuple_tuple (I.ok.hd hc) ht (by simp[hn,<- hl,rv.length]) hst fun h' hx=>?_
 have I1:Inv X pins σ H { s with heap:=h' }:=I.kept (t':=s.toks) fun b o e=>hx b o (Nat.ne_of_lt (Heap.lt_size e)) e
 exact h pins _ σ H xs _ Q I1 (by simpa using rv) hw
def zgd(to ti:TE)(t:zsN):TG:=fun v σ H Q=>to σ H fun o H1=>ti σ H1 fun i H2=>t o i v H2 fun H3=>Q σ H3
theorem zqR{o i:Expr}{to ti:TE}{t:zsN}(ho:PE X o to)(hi:PE X i ti)(hs:PSet X t)
  (ha:∀ v,assign (.Subscript o i pos) X.env v=(do
   let ov <- holding [v] (eval o X.env)
   let iv <- holding [v,ov] (eval i X.env)
   standAt pos
   holding [v,ov,iv] (setItem ov iv v)
   release [v,ov,iv] []):=by intro _;rfl):PG X (.Subscript o i pos) (zgd to ti t):=by
 intro pins s σ H v u Q I r h
 rw[ha]
 refine wpAny_bind (wpAny_holding (thn (ho pins s σ H _ I h) fun ov s1 ⟨x,H1,I1,r1,q1⟩=>?_))
 refine wpAny_bind (wpAny_holding (thn (hi pins s1 σ H1 _ I1 q1) fun iv s2 ⟨y,H2,I2,r2,q2⟩=>?_))
 refine wpAny_bind (wpAny_standAt (wpAny_bind (wpAny_holding (thn (hs pins s2 σ H2 x y v ov iv u _ I2 r1 r2 r q2) fun _ s3 ⟨H3,I3,q3⟩=>?_))))
 exact wpAny_release ⟨σ,H3,I3,q3⟩
def zsO(te:TE)(g:TG):TS:=fun D σ H=>te σ H fun x H1=>g x σ H1 D.nx
theorem zqP{tg e:Expr}{te:TE}{g:TG}(he:PE X e te)(hg:PG X tg g)(hs:swapsWithSole [tg] e pos.line X.env=pure false:=by rfl)(hw:swappedStores [tg] e X.env=pure none:=by rfl)
  (h1:(assignEach [tg] X.env).map (·.2)=[assign tg X.env]:=by rfl):PS X (.Assign [tg] e pos) (zsO te g):=by
 intro pins s σ H D I h
 refine wpAny_Assign_stores (thn (he pins s σ H _ I h) fun v s1 ⟨x,H1,I1,r1,q1⟩=>?_) hs hw
 rw[h1]
 exact thn (hg pins s1 σ H1 x v _ I1 r1 q1) fun _ s2 q=>q
theorem zkL{i:Nat}{x:Str}{e:Expr}{te:TE}{pos':Pos}(hN:X.N.Nodup)(hi:X.N[i]? = some x)(hx:Loc X.env.scope x)(he:PE X e te)(hs:swapsWith e (some (.Name x pos')) pos.line X.env=pure false:=by rfl)(hf:X.fn x=true\/X.env.scope.names.lookup x=some .local:=by first|exact .inl rfl|exact .inr rfl|assumption) :
  PS X (.Assign [.Name x pos'] e pos) (zsO te (zqA i)):=by
 intro pins s σ H D I h
 refine wpAny_Assign_Name (thn (he pins s σ H _ I h) fun v s1 ⟨y,H1,I1,r1,q1⟩=>?_) hs
 exact zjN I1 hN hi hx r1 (fun s2 I2=>⟨_,H1,I2,q1⟩) hf
end
section
variable{X:Cx}{pos:Pos}
def zqM(c:TT)(tb:TS):TS:=fun D σ H=>∃ W:Nat->St->Hp->Prop,(∃ m,W m σ H)/\∀ m σ H,W m σ H ->
 c σ H fun b H1=>if b=true then ∃ N:St->Hp->Prop,(∀ σ' H',N σ' H'->∃ m',m'<m/\W m' σ' H')/\tb { D with nx:=N,ct:=N,bk:=D.nx } σ H1 else D.nx σ H1
theorem zmS{c:Expr}{body:List Stmt}{tc:TT}{tb:TS}(hp:PassesOwn (model X.prog X.w) X.A X.env X.xe)(hc:PT X c tc)(hb:PSs X body tb):PS X (.While c body [] pos) (zqM tc tb):=by
 intro pins s σ H D I h
 obtain ⟨W,⟨m0,w0⟩,turn⟩:=h
 refine wpAny_While (codeAny_whileLoop (fun n s'=>∃ σ' H',Inv X pins σ' H' s'/\W n σ' H') ?_ m0 ⟨σ,H,I,w0⟩)
 rintro n s1 ⟨σ1,H1,I1,w1⟩
 refine wpAny_passesOwn hp (thn (hc pins s1 σ1 H1 _ I1 (turn n σ1 H1 w1)) fun b s2 ⟨H2,I2,q2⟩=>?_)
 cases b with
 |true =>
  obtain ⟨N,hN,q2⟩:=q2
  rw[if_pos rfl]
  refine wpAny_passesOwn hp (thn (hb pins s2 σ1 H2 _ I2 q2) fun f s3 q3=>?_)
  cases f with
  |next =>
   obtain ⟨σ3,H3,I3,n3⟩:=q3
   obtain ⟨m',hm,w3⟩:=hN σ3 H3 n3
   exact ⟨m',hm,σ3,H3,I3,w3⟩
  |cont =>
   obtain ⟨σ3,H3,I3,n3⟩:=q3
   obtain ⟨m',hm,w3⟩:=hN σ3 H3 n3
   exact ⟨m',hm,σ3,H3,I3,w3⟩
  |brk=>exact q3
  |ret v=>exact q3
 |false =>
  rw[if_neg Bool.false_ne_true]
  exact wpAny_execs_nil ⟨σ1,H2,I2,q2⟩
end
structure It where
 go:Nat->Hp->Prop
 yld:Nat->Hp->V->Hp->Prop
 stop:Nat->Hp->Prop
def zdt(X:Cx)(pins:List (Addr×Obj))(H:Hp)(b:Addr):Prop :=
 H b=none/\b≠X.env.locals/\b∉X.fs/\(b∈X.ex\/X.s₀.heap.objs.size<=b)/\(∀ x c,X.env.cells.lookup x=some c->c≠b)/\∀ p∈X.pn++pins,p.1≠b
theorem Inv.fpOk{X:Cx}{pins:List (Addr×Obj)}{σ:St}{H H':Hp}{s:Shared}{b:Addr}(I:Inv X pins σ H s)(hb:s.heap.objs.size<=b)(hn:H' b=none):zdt X pins H' b:=by
 refine ⟨hn,Nat.ne_of_gt (Nat.lt_of_lt_of_le I.lt hb),I.nofs hb,.inr (Nat.le_trans I.sz hb),fun x c e z=>?_,fun p hp z=>?_⟩
 ·obtain ⟨v,q⟩:=I.cell x c e
  exact absurd (Nat.lt_of_lt_of_le q.lt (by rw[z];exact hb)) (Nat.lt_irrefl _)
 ·exact absurd (Nat.lt_of_lt_of_le (Heap.lt_size (I.pin p hp).1) (by rw[z];exact hb)) (Nat.lt_irrefl _)
structure zmA(P:Program)(w:World)(K:W.Frag)(tg:Expr)(J:It)(fp:List Addr)(it:Addr)(tn:Nat->Heap->Prop):Prop where
 mem:it∈fp
 obj:∀ i h,tn i h->∀ b∈fp,∃ o,h.get? b=some o/\∀ v,o.data≠.cell v
 keep:∀ i h h',tn i h->(∀ b∈fp,∀ o,h.get? b=some o->h'.get? b=some o)->tn i h'
 item:∀(X:Cx),X.prog=P->X.w=w->X.K=K->X.calm=true->∀(i:Nat)(pins:List (Addr×Obj))(s:Shared)(σ:St)(H:Hp)(E:Value->Shared->Prop),Inv X pins σ H s->(∀ b∈fp,zdt X pins H b)->tn i s.heap->J.go i H ->
  wpAny (model P w) X.A (pyNext (.ref it)) (fun r s1=>∃ u,r=some u /\
   wpAny (model P w) X.A (letOwnedTupleGo tg (.ref it) u) (fun _ s2=>∃ x H',Inv X pins σ H' s2/\zaF x u/\J.yld i H x H'/\tn (i+1) s2.heap/\∀ b∈fp,H' b=none) E s1) E s
 done:∀(X:Cx),X.prog=P->X.w=w->X.K=K->X.calm=true->∀(i:Nat)(pins:List (Addr×Obj))(s:Shared)(σ:St)(H:Hp)(E:Value->Shared->Prop),Inv X pins σ H s->(∀ b∈fp,zdt X pins H b)->tn i s.heap->J.stop i H ->
  wpAny (model P w) X.A (pyNext (.ref it)) (fun r s1=>r=none/\Inv X pins σ H s1) E s
 self:∀(A:Around)(i:Nat)(s:Shared)(Q:Value->Shared->Prop)(E:Value->Shared->Prop),tn i s.heap->Q (.ref it) s->wpAny (model P w) A (pyIter (.ref it)) Q E s
abbrev TI:=St->Hp->(It->Hp->Prop)->Prop
def PIE(X:Cx)(pins:List (Addr×Obj))(σ:St)(tg:Expr)(R:It->Hp->Prop)(itv:Value)(s2:Shared):Prop :=
 ∃(it:Addr)(fp:List Addr)(tn:Nat->Heap->Prop)(J:It)(H':Hp),itv=.ref it/\Inv X pins σ H' s2/\zmA X.prog X.w X.K tg J fp it tn/\tn 0 s2.heap/\(∀ b∈fp,zdt X pins H' b)/\R J H'
def PI(X:Cx)(tg iter:Expr)(wi:TI):Prop :=
 ∀(pins:List (Addr×Obj))(s:Shared)(σ:St)(H:Hp)(R:It->Hp->Prop),Inv X pins σ H s->wi σ H R ->
  wpAny (model X.prog X.w) X.A (eval iter X.env) (fun v s1=>wpAny (model X.prog X.w) X.A (pyIter v) (PIE X pins σ tg R) X.xe s1) X.xe s
theorem zqs{M:Model}{A:Around}{E:Value->Shared->Prop}{s:Shared}{tg:Expr}{it:Addr}{u:Value}{o:Obj}{n:String}{vs:Array Value}{Q:Unit->Shared->Prop}(ho:s.heap.get? it=some o)(hc:o.cls=.type n)(hd:o.data=.fields vs)
  (hn:["enumerate","zip","dict_itemiterator","dict_reverseitemiterator","odict_iterator","itertools.zip_longest","itertools.pairwise"].contains n=false) (hQ:Q () s):wpAny M A (letOwnedTupleGo tg (.ref it) u) Q E s:=by
 unfold letOwnedTupleGo
 cases tg <;> first
  |exact wpAny_pure hQ
  | (cases u <;> first
    |exact wpAny_pure hQ
    | (refine wpAny_bind (wpAny_load ho ?_)
       rw[hc,hd]
       show wpAny M A (if (["enumerate","zip","dict_itemiterator","dict_reverseitemiterator","odict_iterator","itertools.zip_longest","itertools.pairwise"].contains n && vs[0]? == some (rawInt _))=true then _ else _) Q E s
       rw[if_neg (by intro h;rw[hn,Bool.false_and] at h;cases h)]
       exact wpAny_pure hQ))
def Itl(K:W.Frag)(a:Addr):It :=
 ⟨fun i H=>∃ xs x,SqL K H a xs/\xs[i]? = some x,fun i H x H'=>H'=H/\∀ xs,SqL K H a xs->xs[i]? = some x,fun i H=>∃ xs,SqL K H a xs/\xs.length<=i⟩
def Itt(K:W.Frag)(a:Addr):It :=
 ⟨fun i H=>∃ xs x,SqT K H a xs/\xs[i]? = some x,fun i H x H'=>H'=H/\∀ xs,SqT K H a xs->xs[i]? = some x,fun i H=>∃ xs,SqT K H a xs/\xs.length<=i⟩
def Itr(lo:Int)(n:Nat):It:=⟨fun i _=>i<n,fun i H x H'=>H'=H/\x=.int (lo+i),fun i _=>n<=i⟩
theorem zle{P:Program}{w:World}{K:W.Frag}{tg:Expr}(a it:Addr):zmA P w K tg (Itl K a) [it] it (fun i h=>h.IsListIter it a i) where
 mem:=by simp
 obj:=fun i h st b hb=>by
  have e:b=it:=by simpa using hb
  subst e
  obtain ⟨o,e,c,d⟩:=st
  exact ⟨o,e,fun v z=>by rw[d] at z;cases z⟩
 keep:=fun i h h' st k=>st.at fun o e=>k it (by simp) o e
 item:=by
  intro X hP hw hK hc i pins s σ H E I hf st hg
  subst hP hw hK
  obtain ⟨xs,x,hq,hx⟩:=hg
  obtain ⟨its,rv,p,hz⟩:=I.list hq
  obtain ⟨u,hu,ru⟩:=rv.get hx
  obtain ⟨f0,f1,f2,f3,f4,f5⟩:=hf it (by simp)
  refine wpAny_pyNext_list_item st p.isList (x:=u) (by simpa using hu) fun h' st' sb=>?_
  have I1:Inv X pins σ H { s with heap:=h' }:=I.turned (t':=s.toks) (fun b o hb e=>(sb.2 b hb).trans e) f0 f1 f3 f4 f5
  obtain ⟨o,e,c,d⟩:=id st'
  exact ⟨u,rfl,zqs (s:={ s with heap:=h' }) e c d (by decide) ⟨x,H,I1,ru,⟨rfl,fun ys hy=>by rw[I.list_inj hy hq];exact hx⟩,st',fun b hb=>(hf b hb).1⟩⟩
 done:=by
  intro X hP hw hK hc i pins s σ H E I hf st hg
  subst hP hw hK
  obtain ⟨xs,hq,hx⟩:=hg
  obtain ⟨its,rv,p,hz⟩:=I.list hq
  obtain ⟨f0,f1,f2,f3,f4,f5⟩:=hf it (by simp)
  have hl:=rv.length
  exact wpAny_pyNext_list_end (I.ok.hd hc) st p.isList (by simp;omega) fun h' eb=>⟨rfl,I.turned (t':=s.toks) (fun b o hb e=>eb b o hb e) f0 f1 f3 f4 f5⟩
 self:=fun _ _ _ _ _ st h=>wpAny_pyIter_listiter st h
theorem zk2{P:Program}{w:World}{K:W.Frag}{tg:Expr}(a it:Addr):zmA P w K tg (Itt K a) [it] it (fun i h=>h.IsTupleIter it a i) where
 mem:=by simp
 obj:=fun i h st b hb=>by
  have e:b=it:=by simpa using hb
  subst e
  obtain ⟨o,e,c,d⟩:=st
  exact ⟨o,e,fun v z=>by rw[d] at z;cases z⟩
 keep:=fun i h h' st k=>st.at fun o e=>k it (by simp) o e
 item:=by
  intro X hP hw hK hc i pins s σ H E I hf st hg
  subst hP hw hK
  obtain ⟨xs,x,hq,hx⟩:=hg
  obtain ⟨its,rv,p,hz⟩:=I.tuple hq
  obtain ⟨u,hu,ru⟩:=rv.get hx
  obtain ⟨f0,f1,f2,f3,f4,f5⟩:=hf it (by simp)
  refine wpAny_pyNext_tuple_item st (show s.heap.IsTuple a its.toArray from p) (x:=u) (by simpa using hu) fun h' st' sb=>?_
  have I1:Inv X pins σ H { s with heap:=h' }:=I.turned (t':=s.toks) (fun b o hb e=>(sb.2 b hb).trans e) f0 f1 f3 f4 f5
  obtain ⟨o,e,c,d⟩:=id st'
  exact ⟨u,rfl,zqs (s:={ s with heap:=h' }) e c d (by decide) ⟨x,H,I1,ru,⟨rfl,fun ys hy=>by rw[I.tuple_inj hy hq];exact hx⟩,st',fun b hb=>(hf b hb).1⟩⟩
 done:=by
  intro X hP hw hK hc i pins s σ H E I hf st hg
  subst hP hw hK
  obtain ⟨xs,hq,hx⟩:=hg
  obtain ⟨its,rv,p,hz⟩:=I.tuple hq
  obtain ⟨f0,f1,f2,f3,f4,f5⟩:=hf it (by simp)
  have hl:=rv.length
  exact wpAny_pyNext_tuple_end (I.ok.hd hc) st (show s.heap.IsTuple a its.toArray from p) (by simp;omega) fun h' eb=>⟨rfl,I.turned (t':=s.toks) (fun b o hb e=>eb b o hb e) f0 f1 f3 f4 f5⟩
 self:=fun _ _ _ _ _ st h=>wpAny_pyIter_tupleiter st h
theorem zk8{P:Program}{w:World}{K:PySem.W.Frag}{tg:Expr}(it:Addr)(lo:Int)(n:Nat):zmA P w K tg (Itr lo n) [it] it (fun i h=>IsRangeIter h it (lo+(i:Nat) * 1) ((n:Int)-(i:Nat)) 1) where
 mem:=by simp
 obj:=fun i h st b hb=>by
  have e:b=it:=by simpa using hb
  subst e
  exact ⟨_,st,fun v z=>by
   have z':Data.fields _=Data.cell v:=z
   cases z'⟩
 keep:=fun i h h' st k=>k it (by simp) _ st
 item:=by
  intro X hP hw hK hc i pins s σ H E I hf st hg
  subst hP hw hK
  obtain ⟨f0,f1,f2,f3,f4,f5⟩:=hf it (by simp)
  have W:=Walks.range (prog:=X.prog) (w:=X.w) (I.ok.hd hc) it lo 1 n
  refine W.item i s _ _ hg st fun v h' tk hv st' kk=>?_
  obtain ⟨t,rfl⟩:=hv
  have I1:Inv X pins σ H { s with heap:=h',toks:=tk }:=I.turned (fun b o hb e=>kk b o (by simpa using hb) e) f0 f1 f3 f4 f5
  refine ⟨_,rfl,zqs (s:={ s with heap:=h',toks:=tk }) (n:="range_iterator") st' rfl rfl (by decide) ⟨.int (lo+i),H,I1,⟨t,?_⟩,⟨rfl,rfl⟩,st',fun b hb=>(hf b hb).1⟩⟩
  rw[Int.mul_one]
 done:=by
  intro X hP hw hK hc i pins s σ H E I hf st hg
  subst hP hw hK
  obtain ⟨f0,f1,f2,f3,f4,f5⟩:=hf it (by simp)
  exact wpAny_pyNext_range_end (I.ok.hd hc) st (by have:n<=i:=hg;omega) fun h' eb=>⟨rfl,I.turned (t':=s.toks) (fun b o hb e=>eb b o hb e) f0 f1 f3 f4 f5⟩
 self:=fun _ _ _ _ _ st h=>wpAny_pyIter_rangeiter st h
end L2
namespace L2
open PySem PySem.Spec PyProof.Rows
section
variable{X:Cx}{tg:Expr}
def ztt(K:W.Frag)(tl:TE):TI:=fun σ H R=>tl σ H fun x H1=>∃ a,x=.ref a/\(∃ xs,SqL K H1 a xs)/\R (Itl K a) H1
def iTup(K:W.Frag)(tl:TE):TI:=fun σ H R=>tl σ H fun x H1=>∃ a,x=.ref a/\(∃ xs,SqT K H1 a xs)/\R (Itt K a) H1
theorem zqx{l:Expr}{tl:TE}(hl:PE X l tl):PI X tg l (ztt X.K tl):=by
 intro pins s σ H R I h
 refine thn (hl pins s σ H _ I h) fun v s1 ⟨x,H1,I1,r1,q1⟩=>?_
 obtain ⟨a,e,⟨xs,hq⟩,q⟩:=q1
 subst e
 cases r1
 obtain ⟨its,rv,p,hz⟩:=I1.list hq
 refine wpAny_pyIter_list p.isList ?_
 refine ⟨s1.heap.objs.size,[s1.heap.objs.size],_,_,H1,rfl,I1.kept (t':=s1.toks) fun b o e=>Heap.get?_push_of_some _ e,zle a _,⟨_,Heap.get?_push_size _ rfl,rfl,rfl⟩,fun b hb=>?_,q⟩
 have e:b=s1.heap.objs.size:=by simpa using hb
 subst e
 exact I1.fpOk (Nat.le_refl _) (I1.hok.fresh (Nat.le_refl _))
theorem zsw{l:Expr}{tl:TE}(hl:PE X l tl):PI X tg l (iTup X.K tl):=by
 intro pins s σ H R I h
 refine thn (hl pins s σ H _ I h) fun v s1 ⟨x,H1,I1,r1,q1⟩=>?_
 obtain ⟨a,e,⟨xs,hq⟩,q⟩:=q1
 subst e
 cases r1
 obtain ⟨its,rv,p,hz⟩:=I1.tuple hq
 refine wpAny_pyIter_tuple (show s1.heap.IsTuple a its.toArray from p) ?_
 refine ⟨s1.heap.objs.size,[s1.heap.objs.size],_,_,H1,rfl,I1.kept (t':=s1.toks) fun b o e=>Heap.get?_push_of_some _ e,zk2 a _,⟨_,Heap.get?_push_size _ rfl,rfl,rfl⟩,fun b hb=>?_,q⟩
 have e:b=s1.heap.objs.size:=by simpa using hb
 subst e
 exact I1.fpOk (Nat.le_refl _) (I1.hok.fresh (Nat.le_refl _))
theorem zjw{pins:List (Addr×Obj)}{σ:St}{H:Hp}{s:Shared}{R:It->Hp->Prop}{E:Value->Shared->Prop}{lo hi:Int}{t u v:Tok}{tk:Nat}(I:Inv X pins σ H s)(h1:-(2 ^ 62)<=lo)(h2:lo<2 ^ 62)(h3:-(2 ^ 62)<=hi)(h4:hi<2 ^ 62)
  (q:R (Itr lo (hi-lo).toNat) H):wpAny (model X.prog X.w) X.A (pyIter (.ref s.heap.objs.size)) (PIE X pins σ tg R) E { s with heap:=s.heap.push { cls:=.type "range",data:=.fields #[.int lo t,.int hi u,.int 1 v] },toks:=tk }:=by
 refine wpAny_pyIter_range (IsRange.new ..) (small_one h1 h2 h3 h4) ?_
 have I1:Inv X pins σ H { s with heap:=s.heap.push { cls:=.type "range",data:=.fields #[.int lo t,.int hi u,.int 1 v] },toks:=tk }:=I.kept fun b o e=>Heap.get?_push_of_some _ e
 refine ⟨(s.heap.push { cls:=.type "range",data:=.fields #[.int lo t,.int hi u,.int 1 v] }).objs.size,[(s.heap.push { cls:=.type "range",data:=.fields #[.int lo t,.int hi u,.int 1 v] }).objs.size],_,_,H,rfl,
  I1.kept (t':=tk) fun b o e=>Heap.get?_push_of_some _ e,zk8 _ lo (hi-lo).toNat,?_,fun b hb=>?_,q⟩
 ·have e1:lo+((0:Nat):Int) * 1=lo:=by simp
  have e2:(((hi-lo).toNat:Nat):Int)-((0:Nat):Int)=Builtin.Range.rangeSize lo hi 1:=by rw[rangeSize_one];split <;> omega
  show IsRangeIter _ _ (lo+((0:Nat):Int) * 1) ((((hi-lo).toNat:Nat):Int)-((0:Nat):Int)) 1
  rw[e1,e2]
  exact Heap.get?_push_size _ rfl
 ·have e:b=(s.heap.push { cls:=.type "range",data:=.fields #[.int lo t,.int hi u,.int 1 v] }).objs.size:=by simpa using hb
  subst e
  exact I1.fpOk (Nat.le_refl _) (I1.hok.fresh (Nat.le_refl _))
def zs6(ta:TA):TI:=fun σ H R=>ta σ H fun vs H1=>∃ j:Int,vs=[.int j]/\-(2 ^ 62)<=j/\j<2 ^ 62/\R (Itr 0 j.toNat) H1
def zty(ta:TA):TI:=fun σ H R=>ta σ H fun vs H1=>∃ i j:Int,vs=[.int i,.int j]/\(-(2 ^ 62)<=i/\i<2 ^ 62/\-(2 ^ 62)<=j/\j<2 ^ 62)/\R (Itr i (j-i).toNat) H1
theorem zmh{a:Expr}{ta:TA}{p pos:Pos}(hg:Gl X "range")(hm:X.mg "range"=none)(ha:PA X [a] ta)(hs:starEach [a] X.env=[(false,eval a X.env)]:=by rfl):PI X tg (.Call (.Name "range" p) [a] [] pos) (zs6 ta):=by
 intro pins s σ H R I h
 refine Call_ (zei I hg hm boot_range (PyProof.Rows.callWith_type1 (thn (ha pos pins s σ H _ I h) fun us s1 ⟨vs,H1,I1,r1,q1⟩=>?_) hs rfl))
 obtain ⟨j,e,q1,q2,q⟩:=q1
 subst e
 cases r1 with
 |cons r rr =>
  cases rr
  obtain ⟨t,rfl⟩:=r
  exact call_range_1 (zjw I1 (by omega) (by omega) q1 q2 (by simpa using q))
theorem zkO{a b:Expr}{ta:TA}{p pos:Pos}(hg:Gl X "range")(hm:X.mg "range"=none)(ha:PA X [a,b] ta)(hs:starEach [a,b] X.env=[(false,eval a X.env),(false,eval b X.env)]:=by rfl)(hs2:starEach [b] X.env=[(false,eval b X.env)]:=by rfl) :
  PI X tg (.Call (.Name "range" p) [a,b] [] pos) (zty ta):=by
 intro pins s σ H R I h
 refine Call_ (zei I hg hm boot_range (PyProof.Rows.callWith_type1 (thn (ha pos pins s σ H _ I h) fun us s1 ⟨vs,H1,I1,r1,q1⟩=>?_) (by rw[hs,hs2]) (by rw[hs2];rfl)))
 obtain ⟨i,j,e,⟨q1,q2,q3,q4⟩,q⟩:=q1
 subst e
 cases r1 with
 |cons r rr =>
  cases rr with
  |cons r' rr =>
   cases rr
   obtain ⟨t,rfl⟩:=r
   obtain ⟨t',rfl⟩:=r'
   exact call_range_2 (zjw I1 q1 q2 q3 q4 q)
def tFor(wi:TI)(g:TG)(tb:TS):TS:=fun D σ H=>wi σ H fun J H1=>∃ W:Nat->Nat->St->Hp->Prop,(∃ m,W 0 m σ H1)/\∀ i m σ H,W i m σ H ->
 (J.stop i H/\D.nx σ H)\/(J.go i H/\∃ N:St->Hp->Prop,(∀ σ' H',N σ' H'->∃ m',m'<m/\W (i+1) m' σ' H')/\∀ x H',J.yld i H x H'->g x σ H' fun σ2 H2=>tb { D with nx:=N,ct:=N,bk:=D.nx } σ2 H2)
def zer(fp:List Addr)(h:Heap):List (Addr×Obj):=fp.filterMap fun b=>(h.get? b).map fun o=>(b,o)
theorem zdy{fp:List Addr}{h:Heap}{b:Addr}{o:Obj}(hb:b∈fp)(e:h.get? b=some o):(b,o)∈zer fp h:=List.mem_filterMap.mpr ⟨b,hb,by rw[e];rfl⟩
theorem zlL{fp:List Addr}{h:Heap}{p:Addr×Obj}(hp:p∈zer fp h):p.1∈fp/\h.get? p.1=some p.2:=by
 obtain ⟨b,hb,e⟩:=List.mem_filterMap.mp hp
 cases q:h.get? b with
 |none=>rw[q] at e;cases e
 |some o =>
  rw[q] at e
  have e':(b,o)=p:=Option.some.inj e
  subst e'
  exact ⟨hb,q⟩
theorem Inv.pinned{pins:List (Addr×Obj)}{σ:St}{H:Hp}{s:Shared}{fp:List Addr}(I:Inv X pins σ H s)(hf:∀ b∈fp,zdt X pins H b)(ho:∀ b∈fp,∃ o,s.heap.get? b=some o/\∀ v,o.data≠.cell v):Inv X (pins++zer fp s.heap) σ H s :=
 I.pins_of fun p hp=>(List.mem_append.mp hp).elim (fun z=>I.pin p (List.mem_append_right _ z)) fun z=>by
  obtain ⟨hb,e⟩:=zlL z
  obtain ⟨f0,f1,f2,_⟩:=hf p.1 hb
  obtain ⟨o,e',d⟩:=ho p.1 hb
  rw[e] at e';cases e'
  exact ⟨e,f0,f1,f2,d⟩
theorem Inv.unpinned{pins pl:List (Addr×Obj)}{σ:St}{H:Hp}{s:Shared}(I:Inv X (pins++pl) σ H s):Inv X pins σ H s:=I.pins_of fun p hp=>I.pin p (List.mem_append_right _ (List.mem_append_left _ hp))
theorem zrk{iter:Expr}{body:List Stmt}{wi:TI}{g:TG}{tb:TS}{pos:Pos}(hp:PassesOwn (model X.prog X.w) X.A X.env X.xe)(hc:X.calm=true)(hi:PI X tg iter wi)(hg:PG X tg g)(hb:PSs X body tb)
  (hs:∀ x,foldedSetIterable iter X.env x=pure x:=by intro _;rfl):PS X (.For tg iter body [] pos) (tFor wi g tb):=by
 intro pins s σ H D I h
 refine wpAny_For (thn (hi pins s σ H _ I h) fun v s1 h1=>thn h1 fun itv s2 h2=>?_) hs
 obtain ⟨it,fp,tn,J,H2,e,I2,T,st2,f2,W,⟨m0,w0⟩,turn⟩:=h2
 subst e
 have stat:∀{H':Hp},(∀ b∈fp,H' b=none)->∀ b∈fp,zdt X pins H' b:=fun hn b hb=>⟨hn b hb,(f2 b hb).2⟩
 refine codeAny_forLoop_any (fun n s'=>∃ i σ' H',Inv X pins σ' H' s'/\tn i s'.heap/\(∀ b∈fp,H' b=none)/\W i n σ' H') ?_ m0 ⟨0,σ,H2,I2,st2,fun b hb=>(f2 b hb).1,w0⟩
 rintro n s3 ⟨i,σ3,H3,I3,st3,fr3,w3⟩
 rcases turn i n σ3 H3 w3 with ⟨stop,qn⟩|⟨go,N,hN,step⟩
 ·refine wpAny_passesOwn hp (thn (T.done X rfl rfl rfl hc i pins s3 σ3 H3 X.xe I3 (stat fr3) st3 stop) fun r s4 ⟨hr,I4⟩=>?_)
  subst hr
  exact wpAny_execs_nil ⟨σ3,H3,I4,qn⟩
 ·refine wpAny_passesOwn hp (thn (T.item X rfl rfl rfl hc i pins s3 σ3 H3 X.xe I3 (stat fr3) st3 go) fun r s4 ⟨u,hr,h4⟩=>?_)
  subst hr
  refine wpAny_passesOwn hp (thn h4 fun _ s5 ⟨x,H5,I5,r5,y5,st5,fr5⟩=>?_)
  have I5':=I5.pinned (stat fr5) (T.obj _ _ st5)
  refine wpAny_passesOwn hp (thn (hg _ s5 σ3 H5 x u _ I5' r5 (step x H5 y5)) fun _ s6 ⟨σ6,H6,I6,q6⟩=>?_)
  refine wpAny_passesOwn hp (thn (hb _ s6 σ6 H6 _ I6 q6) fun f s7 q7=>?_)
  have again:∀{σ7:St}{H7:Hp},Inv X (pins++zer fp s5.heap) σ7 H7 s7->N σ7 H7->∃ m,m<n/\∃ i σ' H',Inv X pins σ' H' s7/\tn i s7.heap/\(∀ b∈fp,H' b=none)/\W i m σ' H':=fun {σ7 H7} I7 n7=>by
   obtain ⟨m',hm,w7⟩:=hN σ7 H7 n7
   refine ⟨m',hm,i+1,σ7,H7,I7.unpinned,T.keep _ _ _ st5 fun b hb o e=>(I7.pin (b,o) (List.mem_append_right _ (List.mem_append_right _ (zdy hb e)))).1,fun b hb=>?_,w7⟩
   obtain ⟨o,e,d⟩:=T.obj _ _ st5 b hb
   exact (I7.pin (b,o) (List.mem_append_right _ (List.mem_append_right _ (zdy hb e)))).2.1
  cases f with
  |next=>obtain ⟨σ7,H7,I7,n7⟩:=q7;exact again I7 n7
  |cont=>obtain ⟨σ7,H7,I7,n7⟩:=q7;exact again I7 n7
  |brk=>obtain ⟨σ7,H7,I7,q7⟩:=q7;exact ⟨σ7,H7,I7.unpinned,q7⟩
  |ret v=>obtain ⟨x7,σ7,H7,I7,r7,q7⟩:=q7;exact ⟨x7,σ7,H7,I7.unpinned,r7,q7⟩
end
end L2
namespace L2
open PySem PySem.Spec PyProof.Rows
abbrev R2:=V->V->Hp->VK->Prop
def OpR(X:Cx)(f:Value->Value->Sem Value)(r:R2):Prop :=
 ∀(pins:List (Addr×Obj))(s:Shared)(σ:St)(H:Hp)(x y:V)(v u:Value)(Q:VK),Inv X pins σ H s->zaF x v->zaF y u->r x y H Q ->
  wpAny (model X.prog X.w) X.A (f v u) (EP X pins σ Q) X.xe s
def UnR(X:Cx)(f:Value->Sem Value)(r:V->Hp->VK->Prop):Prop :=
 ∀(pins:List (Addr×Obj))(s:Shared)(σ:St)(H:Hp)(x:V)(v:Value)(Q:VK),Inv X pins σ H s->zaF x v->r x H Q ->
  wpAny (model X.prog X.w) X.A (f v) (EP X pins σ Q) X.xe s
def zbP(X:Cx)(f:Value)(r:List V->Hp->VK->Prop):Prop :=
 ∀(pins:List (Addr×Obj))(s:Shared)(σ:St)(H:Hp)(xs:List V)(us:List Value)(Q:VK),Inv X pins σ H s->zaM xs us->r xs H Q ->
  wpAny (model X.prog X.w) X.A (call f us) (EP X pins σ Q) X.xe s
def tOp(r:R2)(ta tb:TE):TE:=fun σ H Q=>ta σ H fun x H1=>tb σ H1 fun y H2=>r x y H2 Q
def tUn(r:V->Hp->VK->Prop)(ta:TE):TE:=fun σ H Q=>ta σ H fun x H1=>r x H1 Q
def rI(C:Int->Int->Prop)(g:Int->Int->V):R2:=fun x y H Q=>∃ i j,x=.int i/\y=.int j/\C i j/\Q (g i j) H
def rI0(g:Int->Int->V):R2:=fun x y H Q=>∃ i j,x=.int i/\y=.int j/\Q (g i j) H
def rU(g:Int->V):V->Hp->VK->Prop:=fun x H Q=>∃ i,x=.int i/\Q (g i) H
section
variable{X:Cx}{a b c:Expr}{ta tb tc:TE}{pos:Pos}
theorem ztu(ha:PE X a ta)(hb:PE X b tb){pins:List (Addr×Obj)}{s:Shared}{σ:St}{H:Hp}{R:V->V->Hp->Prop}(I:Inv X pins σ H s)
  (h:ta σ H fun x H1=>tb σ H1 fun y H2=>R x y H2) {Q:Value->Shared->Prop} {f:Value->Value->Sem Value}
  (hf:∀ v u s2 x y H2,Inv X pins σ H2 s2->zaF x v->zaF y u->R x y H2->wpAny (model X.prog X.w) X.A (f v u) Q X.xe s2) :
  wpAny (model X.prog X.w) X.A (eval a X.env) (fun v s₁=>wpAny (model X.prog X.w) X.A (eval b X.env) (fun u s₂=>wpAny (model X.prog X.w) X.A (f v u) Q X.xe s₂) X.xe s₁) X.xe s:=by
 refine thn (ha pins s σ H _ I h) fun v s1 ⟨x,H1,I1,r1,q1⟩=>?_
 refine thn (hb pins s1 σ H1 _ I1 q1) fun u s2 ⟨y,H2,I2,r2,q2⟩=>?_
 exact hf v u s2 x y H2 I2 r1 r2 q2
theorem zrB{op:Operator}{r:R2}(ho:OpR X (binaryOp op) r)(ha:PE X a ta)(hb:PE X b tb):PE X (.BinOp a op b pos) (tOp r ta tb):=by
 intro pins s σ H Q I h
 exact wpAny_BinOp (ztu ha hb I h fun v u s2 x y H2 I2 rx ry q=>ho pins s2 σ H2 x y v u Q I2 rx ry q)
theorem zsK{op:UnaryOp}{r:V->Hp->VK->Prop}(ho:UnR X (unaryOp op) r)(ha:PE X a ta):PE X (.UnaryOp op a pos) (tUn r ta):=by
 intro pins s σ H Q I h
 exact UnaryOp_ (thn (ha pins s σ H _ I h) fun v s1 ⟨x,H1,I1,r1,q1⟩=>ho pins s1 σ H1 x v Q I1 r1 q1)
theorem opI{f:Value->Value->Sem Value}{C:Int->Int->Prop}{g:Int->Int->Int}
  (rule:∀(i j:Int)(t u:Tok)(s:Shared)(Q:Value->Shared->Prop)(E:Value->Shared->Prop),C i j->Q (.int (g i j) s.toks) { s with toks:=s.toks+1 }->wpAny (model X.prog X.w) X.A (f (.int i t) (.int j u)) Q E s) :
  OpR X f (rI C fun i j=>.int (g i j)):=by
 intro pins s σ H x y v u Q I rx ry h
 obtain ⟨i,j,rfl,rfl,hc,q⟩:=h
 obtain ⟨t,rfl⟩:=rx
 obtain ⟨t',rfl⟩:=ry
 exact rule i j t t' s _ _ hc ⟨.int (g i j),H,I.tok _,⟨_,rfl⟩,q⟩
theorem opI0{f:Value->Value->Sem Value}{g:Int->Int->Int}
  (rule:∀(i j:Int)(t u:Tok)(s:Shared)(Q:Value->Shared->Prop)(E:Value->Shared->Prop),Q (.int (g i j) s.toks) { s with toks:=s.toks+1 }->wpAny (model X.prog X.w) X.A (f (.int i t) (.int j u)) Q E s) :
  OpR X f (rI0 fun i j=>.int (g i j)):=by
 intro pins s σ H x y v u Q I rx ry h
 obtain ⟨i,j,rfl,rfl,q⟩:=h
 obtain ⟨t,rfl⟩:=rx
 obtain ⟨t',rfl⟩:=ry
 exact rule i j t t' s _ _ ⟨.int (g i j),H,I.tok _,⟨_,rfl⟩,q⟩
theorem zs4{f:Value->Value->Sem Value}{g:Int->Int->Bool}
  (rule:∀(i j:Int)(t u:Tok)(s:Shared)(Q:Value->Shared->Prop)(E:Value->Shared->Prop),Q (.bool (g i j)) s->wpAny (model X.prog X.w) X.A (f (.int i t) (.int j u)) Q E s) :
  OpR X f (rI0 fun i j=>.bl (g i j)):=by
 intro pins s σ H x y v u Q I rx ry h
 obtain ⟨i,j,rfl,rfl,q⟩:=h
 obtain ⟨t,rfl⟩:=rx
 obtain ⟨t',rfl⟩:=ry
 exact rule i j t t' s _ _ ⟨.bl (g i j),H,I,rfl,q⟩
def CDiv(i j:Int):Prop:=0<j/\j<1073741824
def CPow(i j:Int):Prop:=0<=j/\j<=1000000/\i.natAbs<2 ^ 64
def zs0(i j:Int):Prop:=(-(2 ^ 64)<i/\i<2 ^ 64)\/(-(2 ^ 64)<j/\j<2 ^ 64)
theorem zs0.ok{i j:Int}(h:zs0 i j):IntMulOk i j:=by
 rcases h with ⟨h1,h2⟩|⟨h1,h2⟩
 ·exact .of_left (intBits_le_64 h1 h2)
 ·exact .of_right (intBits_le_64 h1 h2)
theorem zrj:OpR X (binaryOp .Add) (rI0 fun i j=>.int (i+j)):=opI0 fun _ _ _ _ _ _ _ q=>add_int q
theorem zrC:OpR X (binaryOp .Sub) (rI0 fun i j=>.int (i-j)):=opI0 fun _ _ _ _ _ _ _ q=>sub_int q
theorem zsr:OpR X (binaryOp .Mult) (rI zs0 fun i j=>.int (i * j)):=opI fun _ _ _ _ _ _ _ hc q=>mul_int q hc.ok
theorem zpn:OpR X (binaryOp .FloorDiv) (rI CDiv fun i j=>.int (i / j)):=opI fun i j _ _ _ _ _ hc q=>by
 have h1:(0:Int)<j:=hc.1
 have h2:j<1073741824:=hc.2
 exact floordiv_int (by omega) (by rw[Int.fdiv_eq_ediv_of_nonneg i (by omega)];exact q) (.inl (PyProof.noPylong_small (by omega)))
theorem zrX:OpR X (binaryOp .Mod) (rI (fun _ j=>0<j) fun i j=>.int (i % j)):=opI fun i j _ _ _ _ _ hc q=>by
 have h1:(0:Int)<j:=hc
 exact mod_int' (by omega) (by rw[Int.fmod_eq_emod_of_nonneg i (by omega)];exact q)
theorem zqV:OpR X (binaryOp .Pow) (rI CPow fun i j=>.int (i ^ j.toNat)):=opI fun _ _ _ _ _ _ _ hc q=>pow_int_small hc.1 hc.2.1 hc.2.2 q
theorem unI{f:Value->Sem Value}{g:Int->Int}
  (rule:∀(i:Int)(t:Tok)(s:Shared)(Q:Value->Shared->Prop)(E:Value->Shared->Prop),Q (.int (g i) s.toks) { s with toks:=s.toks+1 }->wpAny (model X.prog X.w) X.A (f (.int i t)) Q E s) :
  UnR X f (rU fun i=>.int (g i)):=by
 intro pins s σ H x v Q I rx h
 obtain ⟨i,rfl,q⟩:=h
 obtain ⟨t,rfl⟩:=rx
 exact rule i t s _ _ ⟨.int (g i),H,I.tok _,⟨_,rfl⟩,q⟩
theorem zr8:UnR X (unaryOp .USub) (rU fun i=>.int (-i)):=unI fun _ _ _ _ _ q=>neg_int q
end
section
variable{X:Cx}{a b c:Expr}{ta tb tc:TE}{pos:Pos}
theorem zpc:OpR X (compareOp .Lt) (rI0 fun i j=>.bl (decide (i<j))):=zs4 fun _ _ _ _ _ _ _ q=>lt_int q
theorem zti:OpR X (compareOp .LtE) (rI0 fun i j=>.bl (decide (i<=j))):=zs4 fun _ _ _ _ _ _ _ q=>le_int q
theorem zri:OpR X (compareOp .Gt) (rI0 fun i j=>.bl (decide (j<i))):=zs4 fun _ _ _ _ _ _ _ q=>gt_int q
theorem zsM:OpR X (compareOp .GtE) (rI0 fun i j=>.bl (decide (j<=i))):=zs4 fun _ _ _ _ _ _ _ q=>ge_int q
theorem OpR.or{f:Value->Value->Sem Value}{r r':R2}(h:OpR X f r)(h':OpR X f r'):OpR X f (fun x y H Q=>r x y H Q\/r' x y H Q):=by
 intro pins s σ H x y v u Q I rx ry q
 rcases q with q|q
 ·exact h pins s σ H x y v u Q I rx ry q
 ·exact h' pins s σ H x y v u Q I rx ry q
theorem zef(b:Expr){op:CmpOp}(h:op≠.In:=by decide)(h2:op≠.NotIn:=by decide):behindInMarks op b=false:=by
 have e1:(op == CmpOp.In)=false:=by cases op <;> first|rfl|exact absurd rfl h
 have e2:(op == CmpOp.NotIn)=false:=by cases op <;> first|rfl|exact absurd rfl h2
 cases b <;> simp[behindInMarks,e1,e2]
theorem zpo{op:CmpOp}{r:R2}(ho:OpR X (compareOp op) r)(ha:PE X a ta)(hb:PE X b tb)(hm:behindInMarks op b=false):PE X (.Compare a [op] [b] pos) (tOp r ta tb):=by
 intro pins s σ H Q I h
 exact wpAny_Compare1 (ztu ha hb I h fun v u s2 x y H2 I2 rx ry q=>ho pins s2 σ H2 x y v u Q I2 rx ry q) hm
def ztv(t:TE):TT:=fun σ H Q=>t σ H fun x H'=>∃ k,x=.bl k/\Q k H'
theorem zli{op:CmpOp}{r:R2}(ho:OpR X (compareOp op) r)(ha:PE X a ta)(hb:PE X b tb)(hm:behindInMarks op b=false):PT X (.Compare a [op] [b] pos) (ztv (tOp r ta tb)):=by
 intro pins s σ H Q I h
 refine wpAny_isTrue_Compare1 (thn (ha pins s σ H _ I h) fun v s1 ⟨x,H1,I1,r1,q1⟩=>thn (hb pins s1 σ H1 _ I1 q1) fun u s2 ⟨y,H2,I2,r2,q2⟩ =>
  thn (ho pins s2 σ H2 x y v u _ I2 r1 r2 q2) fun c s3 ⟨z,H3,I3,r3,k,e,q3⟩=>?_) hm
 subst e
 cases r3
 exact wpAny_truthy_bool ⟨H3,I3,q3⟩
def zoI(r r':R2)(ta tb tc:TE):TE:=fun σ H Q=>ta σ H fun x H1=>tb σ H1 fun y H2=>r x y H2 fun z H3=>∃ k,z=.bl k /\
 (if k=true then tc σ H3 fun w' H4=>r' y w' H4 Q else Q (.bl false) H3)
theorem zn9{op op':CmpOp}{r r':R2}(ho:OpR X (compareOp op) r)(ho':OpR X (compareOp op') r')(ha:PE X a ta)(hb:PE X b tb)(hc:PE X c tc)
  (hm:lastMarks [op,op'] [b,c]=false:=by with_unfolding_all rfl):PE X (.Compare a [op,op'] [b,c] pos) (zoI r r' ta tb tc):=by
 intro pins s σ H Q I h
 refine Compare_chain (thn (ha pins s σ H _ I h) fun v s1 ⟨x,H1,I1,r1,q1⟩=>chain_link (thn (hb pins s1 σ H1 _ I1 q1) fun u s2 ⟨y,H2,I2,r2,q2⟩ =>
  thn (ho pins s2 σ H2 x y v u _ I2 r1 r2 q2) fun d s3 ⟨z,H3,I3,r3,k,e,q3⟩=>?_)) hm
 subst e
 cases r3
 refine wpAny_truthy_bool ?_
 cases k with
 |false=>exact ite_ff ⟨.bl false,H3,I3,rfl,q3⟩
 |true=>exact ite_tt (chain_last (thn (hc pins s3 σ H3 _ I3 q3) fun w' s4 ⟨z',H4,I4,r4,q4⟩=>ho' pins s4 σ H4 y z' u w' Q I4 r2 r4 q4))
theorem zid:(sizeLine:Nat)<2 ^ 63:=by rw[sizeLine_eq];decide
theorem ze5{x:V}{us:List Value}(r:zaM [x] us):∃ u,us=[u]/\zaF x u:=by
 cases r with
 |cons r1 r2=>cases r2;exact ⟨_,rfl,r1⟩
theorem ziC{x y:V}{us:List Value}(r:zaM [x,y] us):∃ u w',us=[u,w']/\zaF x u/\zaF y w':=by
 cases r with
 |cons r1 r2 =>
  cases r2 with
  |cons r3 r4=>cases r4;exact ⟨_,_,rfl,r1,r3⟩
theorem zlW(hc:X.calm=true):zbP X (.builtin "max") (fun xs H Q=>∃ i j,xs=[.int i,.int j]/\Q (.int (if j > i then j else i)) H):=by
 intro pins s σ H xs us Q I r h
 obtain ⟨i,j,rfl,q⟩:=h
 obtain ⟨u,w',rfl,⟨t,rfl⟩,⟨t',rfl⟩⟩:=ziC r
 refine max_two_ints (I.ok.hd hc) fun h' tk k=>⟨_,H,I.kept k,?_,q⟩
 by_cases hj:j > i
 ·rw[if_pos hj,if_pos hj];exact ⟨_,rfl⟩
 ·rw[if_neg hj,if_neg hj];exact ⟨_,rfl⟩
theorem zmo(hc:X.calm=true):zbP X (.builtin "min") (fun xs H Q=>∃ i j,xs=[.int i,.int j]/\Q (.int (if j<i then j else i)) H):=by
 intro pins s σ H xs us Q I r h
 obtain ⟨i,j,rfl,q⟩:=h
 obtain ⟨u,w',rfl,⟨t,rfl⟩,⟨t',rfl⟩⟩:=ziC r
 refine min_two_ints (I.ok.hd hc) fun h' tk k=>⟨_,H,I.kept k,?_,q⟩
 by_cases hj:j<i
 ·rw[if_pos hj,if_pos hj];exact ⟨_,rfl⟩
 ·rw[if_neg hj,if_neg hj];exact ⟨_,rfl⟩
end
end L2
namespace L2
open PySem PySem.Spec PyProof.Rows
structure ObjM(h:Heap)(x dx C:Addr)(mA:Str->Option Value):Prop where
 obj:h.get? x=some (W.instObj C dx)
 ns:h.Ns1 dx mA
 ne:dx≠x
section
variable{prog:Program}{w:World}{A:Around}{E:Value->Shared->Prop}{s:Shared}{K:W.Frag}{x dx C f:Addr}{mA:Str->Option Value}{name:Str}{v:Value}
end
theorem zkF.some_of{v:V}{o:Option Value}(r:zkF (some v) o):∃ u,o=some u/\zaF v u:=by
 cases o with
 |none=>exact (show False from r).elim
 |some u=>exact ⟨u,rfl,r⟩
section
variable{P:Program}{w:World}{H H':Hp}{h h':Heap}{a C dx:Addr}{fs fs':List (Str×V)}
end
structure Cls(K:W.Frag)(C:Addr):Prop where
 pg:W.plainGet K C Str.empty=true
 hd:W.hasDictIn K C=true
 po:W.plainOver K C=true
 sa:W.findIn K (.ref C) "__setattr__"=some (some (.builtin "object.__setattr__"))
theorem Cls.get{K:W.Frag}{C:Addr}(c:Cls K C)(f:Str):W.plainGet K C f=true:=c.pg
structure Con(K:W.Frag)(C:Addr)(f:Str)(v:V)(u:Value):Prop where
 at_:W.findIn K (.ref C) f=some (some u)
 rel:zaF v u
 get:W.specialIn K u "__get__"=some none
 cp:W.copiedNames.contains f=false
structure Meth(K:W.Frag)(C:Addr)(m:Str)(f:Addr):Prop where
 at_:W.findIn K (.ref C) m=some (some (.ref f))
 fn:W.isFn K (.ref f)=true
 kp:W.keepIn K (.ref f)=true
section
variable{X:Cx}{pins:List (Addr×Obj)}{σ:St}{H:Hp}{s:Shared}{a C dx:Addr}{fs:List (Str×V)}{f:Str}{v:V}{A:Around}{E:Value->Shared->Prop}
end
section
variable{X:Cx}{o e value:Expr}{f:Str}{pos pos' tpos:Pos}{ta tv:TE}
end
section
variable{X:Cx}{pins:List (Addr×Obj)}{σ:St}{H:Hp}{s:Shared}{A:Around}{E:Value->Shared->Prop}{Q:Value->Shared->Prop}{c:Value}{b:Bool}
inductive zmz(K:W.Frag)(H:Hp):V->Value->Prop where
 |non:zmz K H .non (.type "NoneType")
 |bl (x:Bool):zmz K H (.bl x) (.type "bool")
 |int (i:Int):zmz K H (.int i) (.type "int")
 |str (x:Str):zmz K H (.str x) (.type "str")
 |flt (x:UInt64):zmz K H (.flt x) (.type "float")
 |lst {a:Addr} {xs:List V} (e:H a=some (.lst xs)):zmz K H (.ref a) (.type "list")
 |frz {a:Addr} {o:Obj} {xs:List V} (e:H a=some (.frz o (.lst xs))):zmz K H (.ref a) (.type "list")
 |tup {a:Addr} {xs:List V} (e:H a=some (.tup xs)):zmz K H (.ref a) (.type "tuple")
 |dK {a:Addr} {kvs:List (Key×V)} (e:H a=some (.dK kvs)):zmz K H (.ref a) (.type "dict")
 |dT {a:Addr} {kvs:List (List Key×V)} (e:H a=some (.dT kvs)):zmz K H (.ref a) (.type "dict")
 |ins {a C dx:Addr} {fs:List (Str×V)} (e:H a=some (.ins C dx fs)) (cl:Cls K C) (ha:W.findIn K (.ref C) "__class__"=some (some (.builtin "object.__class__")))
   (hn:W.specialIn K (.builtin "object.__class__") "__get__"=some (some (.builtin "getset_descriptor.__get__"))) (htk:W.takesIn K (.builtin "object.__class__")=some true)
   (hm:W.mroIn K C (.type "object")=some true):zmz K H (.ref a) (.ref C)
end
end L2
namespace L2
open PySem PySem.Spec PyProof.Rows
structure zcg(k:Nat)(A:Around):Prop where
 hd:A.handled=none
 dp:A.depth+3 * k+5<recursionLimit
 un:A.units+16 * k+200<cLine
theorem zcg.mono{j k:Nat}{A:Around}(r:zcg k A)(h:j<=k):zcg j A:=⟨r.hd,by have:=r.dp;omega,by have:=r.un;omega⟩
theorem zcg.deeper{k:Nat}{A:Around}(r:zcg (k+1) A)(env:Env):zcg k (A.deeper env) :=
 ⟨r.hd,by have:=r.dp;show A.depth+1+3 * k+5<_;omega,by have:=r.un;show A.units+3+16 * k+200<_;omega⟩
theorem zcg.in1{k:Nat}{A:Around}(r:zcg (k+1) A):zcg k A.in1 :=
 ⟨r.hd,by have:=r.dp;show A.depth+3 * k+5<_;omega,by have:=r.un;show A.units+1+16 * k+200<_;omega⟩
theorem zcg.depth{k:Nat}{A:Around}(r:zcg k A):A.depth<recursionLimit:=by have:=r.dp;omega
theorem zcg.units{k:Nat}{A:Around}(r:zcg k A):A.units+64<cLine:=by have:=r.un;omega
def tNil:TA:=fun _ H Q=>Q [] H
def zrF(ta:TE)(tr:TA):TA:=fun σ H Q=>ta σ H fun x H1=>tr σ H1 fun xs H2=>Q (x::xs) H2
section
variable{X:Cx}{e:Expr}{es:List Expr}{te:TE}{t:TA}{pos:Pos}
theorem zdi:PA X [] tNil:=fun _ _ _ _ H Q I h=>Calls.spliced_nil ⟨[],H,I,.nil,h⟩
theorem zbi(ha:PE X e te)(hr:PA X es t)(hs:starEach (e::es) X.env=(false,eval e X.env)::starEach es X.env:=by rfl):PA X (e::es) (zrF te t):=by
 intro pos pins s σ H Q I h
 rw[hs]
 show wpAny _ _ (spliced ((false,eval e X.env)::backTo pos (starEach es X.env))) _ _ s
 refine Calls.spliced_cons (thn (ha pins s σ H _ I h) fun u s1 ⟨x,H1,I1,r1,q1⟩=>?_)
 exact thn (hr pos pins s1 σ H1 _ I1 q1) fun us s2 ⟨xs,H2,I2,r2,q2⟩=>⟨x::xs,H2,I2,.cons r1 r2,q2⟩
def tTup(t:TA):TE:=fun σ H Q=>t σ H fun xs H1=>xs.length<=sizeLine/\∀ p,H1 p=none->Q (.ref p) (upd H1 p (.tup xs))
def tLst(t:TA):TE:=fun σ H Q=>t σ H fun xs H1=>xs.length<=sizeLine/\∀ p,H1 p=none->Q (.ref p) (upd H1 p (.lst xs))
theorem zo5{x1}(h:PA X es t):PE X (.Tuple es x1 pos) (tTup t):=by
 intro pins s σ H Q I hq
 refine wpAny_Tuple_spliced (thn (h pos pins s σ H _ I hq) fun us s1 ⟨xs,H1,I1,r,z,q⟩=>⟨by rw[<- r.length];exact z,?_⟩)
 have hf:H1 s1.heap.objs.size=none:=I1.hok.fresh (Nat.le_refl _)
 refine ⟨.ref s1.heap.objs.size,upd H1 s1.heap.objs.size (.tup xs),I1.laid (t':=s1.toks) (fun b u e=>Heap.get?_push_of_some _ e) (Nat.le_refl _) ?_,rfl,q _ hf⟩
 exact ⟨z,us,r,⟨_,Heap.get?_push_size _ rfl⟩⟩
theorem zre(h:PA X es t):PE X (.List es pos) (tLst t):=by
 intro pins s σ H Q I hq
 refine wpAny_List_spliced (thn (h pos pins s σ H _ I hq) fun us s1 ⟨xs,H1,I1,r,z,q⟩=>⟨by rw[<- r.length];exact z,?_⟩)
 have hf:H1 s1.heap.objs.size=none:=I1.hok.fresh (Nat.le_refl _)
 refine ⟨.ref s1.heap.objs.size,upd H1 s1.heap.objs.size (.lst xs),I1.laid (t':=s1.toks) (fun b u e=>Heap.get?_push_of_some _ e) (Nat.le_refl _) ?_,rfl,q _ hf⟩
 exact ⟨z,us,0,r,Heap.get?_push_size _ rfl⟩
end
abbrev Sp:=List V->Hp->VK->XK->Prop
abbrev CXT:=List Env->Hp->Shared->XK->Value->Shared->Prop
structure zo6(P:Program)(w:World)(K:W.Frag)(mg:Str->Option Value)(base:Heap)(A:Around)(outer:List Env)(s:Shared)(H:Hp):Prop where
 frames:A.frames=some outer
 mod:Mod K mg base
 bs:∀ b o,base.get? b=some o->s.heap.get? b=some o/\H b=none
 bsz:base.objs.size<=s.heap.objs.size
 funs:s.heap.FunFrames base outer
 frf:∀ b∈frs outer,H b=none
 hok:HOk P w H s.heap
 bare:AllBare s.gens
def CE(outer:List Env)(P:Program)(w:World)(H:Hp)(s:Shared)(Q:VK)(u:Value)(s':Shared):Prop :=
 ∃ v H',s'.os=s.os/\AllBare s'.gens/\Un (frs outer) [] H H' s.heap s'.heap/\HOk P w H' s'.heap/\zaF v u/\Q v H'
def CR(CX:CXT)(outer:List Env)(P:Program)(w:World)(H:Hp)(s:Shared)(Q:VK)(E:XK)(r:Result)(s':Shared):Prop :=
 match r with
 |.ok (.ret u)=>CE outer P w H s Q u s'
 |.ok _=>False
 |.error e=>CX outer H s E e s'
structure zf1(P:Program)(w:World)(K:W.Frag)(mg:Str->Option Value)(base:Heap)(CX:CXT)(k:Nat)(f:Addr)(fd:FuncData)(ps:List Str)(sp:Sp):Prop where
 len:∀ vs H Q E,sp vs H Q E->vs.length=ps.length
 run:∀(A:Around)(outer:List Env)(s:Shared)(H:Hp)(args:Args)(us:List Value)(vs:List V)(Q:VK)(E:XK),zcg k A->zo6 P w K mg base A outer s H->BindsTo s fd args (ps.zip us)->zaM vs us->sp vs H Q E ->
  codeAny (model P w) A (.call (.ref f) args) (CR CX outer P w H s Q E) s
theorem zf1.mono{P:Program}{w:World}{K:W.Frag}{mg:Str->Option Value}{base:Heap}{CX:CXT}{j k:Nat}{f:Addr}{fd:FuncData}{ps:List Str}{sp:Sp}(F:zf1 P w K mg base CX j f fd ps sp)(h:j<=k) :
  zf1 P w K mg base CX k f fd ps sp:=⟨F.len,fun A outer s H args us vs Q E hr=>F.run A outer s H args us vs Q E (hr.mono h)⟩
theorem zf1.imp{P:Program}{w:World}{K:W.Frag}{mg:Str->Option Value}{base:Heap}{CX:CXT}{k:Nat}{f:Addr}{fd:FuncData}{ps:List Str}{sp sp':Sp}(F:zf1 P w K mg base CX k f fd ps sp)
  (h:∀ vs H Q E,sp' vs H Q E->sp vs H Q E):zf1 P w K mg base CX k f fd ps sp' :=
 ⟨fun vs H Q E q=>F.len vs H Q E (h _ _ _ _ q),fun A outer s H args us vs Q E hr he hb hv hs=>F.run A outer s H args us vs Q E hr he hb hv (h _ _ _ _ hs)⟩
theorem zo6.in1{P:Program}{w:World}{K:W.Frag}{mg:Str->Option Value}{base:Heap}{A:Around}{outer:List Env}{s:Shared}{H:Hp}(e:zo6 P w K mg base A outer s H) :
  zo6 P w K mg base A.in1 outer s H:=⟨e.frames,e.mod,e.bs,e.bsz,e.funs,e.frf,e.hok,e.bare⟩
section
variable{X:Cx}{pins:List (Addr×Obj)}{σ:St}{H:Hp}{s s':Shared}
theorem Inv.env0(I:Inv X pins σ H s):zo6 X.prog X.w X.K X.mg X.base X.A X.stack s H :=
 ⟨I.ok.frames,I.ok.mod,I.bs,Nat.le_trans I.ok.bsz I.sz,I.stack,I.stkFree,I.hok,I.bare⟩
theorem Inv.after{Q:VK}{u:Value}(I:Inv X pins σ H s)(h:CE X.stack X.prog X.w H s Q u s'):EP X pins σ Q u s':=by
 obtain ⟨v,H',os,bare,un,hok,r,q⟩:=h
 obtain ⟨hh,g,d,t,os'⟩:=s'
 obtain rfl:os'=s.os:=os
 exact ⟨v,H',I.call (h':=hh) (g':=g) (d':=d) (t':=t) (ch:=[]) un hok bare (fun b z=>absurd z (by simp)),r,q⟩
end
def znP(sp:Sp)(dvs:List V)(E:XK)(t:TA):TE:=fun σ H Q=>t σ H fun vs H1=>sp (vs++dvs) H1 Q E
def zfB(K:W.Frag)(fd:FuncData)(ps:List Str)(ds:List Value):Prop :=
 ∀(s:Shared)(us:List Value),K.In s.heap->(us++ds).length=ps.length->BindsTo s fd ⟨us,[]⟩ (ps.zip (us++ds))
theorem zfB.all{K:W.Frag}{fd:FuncData}{ps:List Str}(h:∀ us:List Value,us.length=ps.length->bindArgs fd ⟨us,[]⟩=pure (ps.zip us)):zfB K fd ps []:=fun s us _ hl=>by
 rw[List.append_nil] at hl ⊢
 exact .of_eq (h us hl)
def zbW(CX:CXT)(X:Cx)(E:XK):Prop:=∀(pins:List (Addr×Obj))(σ:St)(H:Hp)(s:Shared)(e:Value)(s':Shared),Inv X pins σ H s->CX X.stack H s E e s'->X.xe e s'
section
variable{X:Cx}{CX:CXT}{k:Nat}{f C:Addr}{fd:FuncData}{ps:List Str}{sp:Sp}{dvs:List V}{ds:List Value}{E:XK}{x m:Str}{p pos apos:Pos}{e o:Expr}{es:List Expr}{ta:TE}{t:TA}
theorem zqJ{pins:List (Addr×Obj)}{σ:St}{H:Hp}{s:Shared}{Q:VK}{us:List Value}{vs:List V}(F:zf1 X.prog X.w X.K X.mg X.base CX k f fd ps sp)(hr:zcg k X.A)(hb:zfB X.K fd ps ds)(hd:zaM dvs ds)(hx:zbW CX X E)
  (I:Inv X pins σ H s) (r:zaM vs us) (h:sp (vs++dvs) H Q E):wpAny (model X.prog X.w) X.A (call (.ref f) us) (EP X pins σ Q) X.xe s:=by
 have r2:zaM (vs++dvs) (us++ds):=r.append hd
 have hl:(us++ds).length=ps.length:=by rw[<- r2.length];exact F.len _ _ _ _ h
 refine wpAny_call (codeAny_mono (F.run X.A X.stack s H ⟨us,[]⟩ (us++ds) (vs++dvs) Q E hr I.env0 (hb s us I.kIn hl) r2 h) fun r s' hq=>?_)
 cases r with
 |error e=>exact hx pins σ H s e s' I hq
 |ok fl =>
  cases fl with
  |ret u=>exact I.after hq
  |next=>exact False.elim hq
  |brk=>exact False.elim hq
  |cont=>exact False.elim hq
theorem ziz(F:zf1 X.prog X.w X.K X.mg X.base CX k f fd ps sp)(hr:zcg k X.A)(hg:Gl X x)(hm:X.mg x=some (.ref f))(hk:W.keepIn X.K (.ref f)=true)(hb:zfB X.K fd ps ds)(hd:zaM dvs ds)(hx:zbW CX X E)
  (ha:PA X (e::es) t) (hdb:(x == ("__debug__" : Str))=false:=by decide) (he:starEach (e::es) X.env=(false,eval e X.env)::starEach es X.env:=by rfl) (hpl:(backTo pos (starEach es X.env)).any (·.1)=false:=by rfl) :
  PE X (.Call (.Name x p) (e::es) [] pos) (znP sp dvs E t):=by
 intro pins s σ H Q I h
 refine wpAny_Call_Name_kw (zjp I hg hm ?_ hdb)
 refine W.callWith_K (h₀:=X.base) I.ok.mod.kin hk (thn (ha pos pins s σ H _ I h) fun us s1 ⟨vs,H1,I1,r,q⟩=>⟨I1.kIn,?_⟩) he hpl
 exact zqJ F hr hb hd hx I1 r q
structure Mk(K:W.Frag)(C f:Addr):Prop where
 makes:W.makesIn K C=true
 init:W.findIn K (.ref C) "__init__"=some (some (.ref f))
 fn:W.isFn K (.ref f)=true
 kp:W.keepIn K (.ref C)=true
end
def PK(X:Cx)(kws:List Keyword)(t:TA):Prop :=
 ∀(pos:Pos)(pins:List (Addr×Obj))(s:Shared)(σ:St)(H:Hp)(Q:List V->Hp->Prop),Inv X pins σ H s->t σ H Q->wpAny (model X.prog X.w) X.A (evalAll ((backToKw pos (keywordEach kws X.env)).map (·.2))) (AP X pins σ Q) X.xe s
section
variable{X:Cx}{CX:CXT}{k:Nat}{f C:Addr}{fd:FuncData}{ps ks:List Str}{sp:Sp}{E:XK}{x m:Str}{p pos apos kpos:Pos}{e o:Expr}{es:List Expr}{kws:List Keyword}{te ta:TE}{t tk:TA}{nm:Option Str}
theorem zqW:PK X [] tNil:=fun _ _ _ _ H Q I h=>wpAny_evalAll_nil ⟨[],H,I,.nil,h⟩
theorem zlq(ha:PE X e te)(hr:PK X kws t):PK X (⟨nm,e,kpos⟩::kws) (zrF te t):=by
 intro pos pins s σ H Q I h
 show wpAny _ _ (evalAll ((do let v <- eval e X.env;standAt pos;pure v)::(backToKw pos (keywordEach kws X.env)).map (·.2))) _ _ s
 refine wpAny_evalAll_cons (wpAny_bind (thn (ha pins s σ H _ I h) fun u s1 ⟨x,H1,I1,r1,q1⟩=>wpAny_bind (wpAny_standAt (wpAny_pure ?_))))
 exact thn (hr pos pins s1 σ H1 _ I1 q1) fun us s2 ⟨xs,H2,I2,r2,q2⟩=>⟨x::xs,H2,I2,.cons r1 r2,q2⟩
structure KBinds(K:W.Frag)(fd:FuncData)(ps ks:List Str)(g:List Value->List Value->List Value)(gV:List V->List V->List V):Prop where
 to:∀(s:Shared)(us ws:List Value),K.In s.heap->(g us ws).length=ps.length->BindsTo s fd ⟨us,ks.zip ws⟩ (ps.zip (g us ws))
 rel:∀{vs:List V}{us:List Value}{zs:List V}{ws:List Value},zaM vs us->zaM zs ws->zaM (gV vs zs) (g us ws)
variable{g:List Value->List Value->List Value}{gV:List V->List V->List V}
end
structure zav(N P:List Str)(sc:Scope):Prop where
 kind:sc.kind=.function
 co:sc.isCoroutine=false
 gen:sc.isGenerator=false
 nd:N.Nodup
 pre:N.take P.length=P
 par:∀ x∈P,sc.names.lookup x=some .local\/sc.names.lookup x=some .cell
 nofree:∀ y∈sc.names,y.2≠.free
theorem zib{kindOf:Str->Option NameKind}{x:Str}:∀{binds:List (Str×Value)}{m:Str->Option Value},(∀ v,(x,v)∉binds)->bindL kindOf binds m x=m x
 |[],_,_=>rfl
 | (n,v)::r,m,h=>by
  unfold bindL
  rw[zib fun w hw=>h w (List.mem_cons_of_mem _ hw)]
  split
  ·have:x≠n:=by rintro rfl;exact h v List.mem_cons_self
   simp[this]
  ·rfl
theorem zhI{kindOf:Str->Option NameKind}{x:Str}:∀{binds:List (Str×Value)}{m:Str->Option Value},(∀ v,(x,v)∉binds)->bindC kindOf binds m x=m x
 |[],_,_=>rfl
 | (n,v)::r,m,h=>by
  unfold bindC
  rw[zhI fun w hw=>h w (List.mem_cons_of_mem _ hw)]
  split
  ·rfl
  ·have:x≠n:=by rintro rfl;exact h v List.mem_cons_self
   simp[this]
theorem ziq{kindOf:Str->Option NameKind}{x:Str}{v:Value}:∀{P:List Str}{vs:List Value}{i:Nat}{m:Str->Option Value},P.Nodup->P[i]? = some x->vs[i]? = some v->kindOf x=some .local ->
  bindL kindOf (P.zip vs) m x=some v
 |[],_,_,_,_,h,_,_=>by simp at h
 |_::_,[],_,_,_,_,h,_=>by simp at h
 |p::P,w::vs,0,m,nd,h1,h2,hk=>by
  simp at h1 h2;subst h1;subst h2
  show bindL kindOf ((p,w)::P.zip vs) m p=_
  unfold bindL
  rw[zib fun v hv=>(List.nodup_cons.mp nd).1 (List.of_mem_zip hv).1,if_pos hk]
  simp
 |p::P,w::vs,i+1,m,nd,h1,h2,hk=>by
  show bindL kindOf ((p,w)::P.zip vs) m x=_
  unfold bindL
  exact ziq (i:=i) (List.nodup_cons.mp nd).2 (by simpa using h1) (by simpa using h2) hk
theorem zh4{kindOf:Str->Option NameKind}{x:Str}{v:Value}:∀{P:List Str}{vs:List Value}{i:Nat}{m:Str->Option Value},P.Nodup->P[i]? = some x->vs[i]? = some v->kindOf x≠some .local ->
  bindC kindOf (P.zip vs) m x=some v
 |[],_,_,_,_,h,_,_=>by simp at h
 |_::_,[],_,_,_,_,h,_=>by simp at h
 |p::P,w::vs,0,m,nd,h1,h2,hk=>by
  simp at h1 h2;subst h1;subst h2
  show bindC kindOf ((p,w)::P.zip vs) m p=_
  unfold bindC
  rw[zhI fun v hv=>(List.nodup_cons.mp nd).1 (List.of_mem_zip hv).1,if_neg hk]
  simp
 |p::P,w::vs,i+1,m,nd,h1,h2,hk=>by
  show bindC kindOf ((p,w)::P.zip vs) m x=_
  unfold bindC
  exact zh4 (i:=i) (List.nodup_cons.mp nd).2 (by simpa using h1) (by simpa using h2) hk
def start(N:List Str)(vs:List V):St:=vs.map some++List.replicate (N.length-vs.length) none
def zit(CX:CXT)(P:Program)(w:World)(K:W.Frag)(mg:Str->Option Value)(base:Heap)(N:List Str)(qual:Str)(scope:Scope)(f:Addr)(cd:Value)(A:Around)(outer:List Env)(s:Shared)(H:Hp)(E:XK):Cx where
 prog:=P
 w:=w
 K:=K
 mg:=mg
 base:=base
 A:=A.deeper (envOfC qual scope s.heap.objs.size f cd)
 N:=N
 s₀:=s
 H₀:=H
 env:=envOfC qual scope s.heap.objs.size f cd
 outer:=outer
 stack:=envOfC qual scope s.heap.objs.size f cd::outer
 ex:=[]
 calm:=true
 fn:=fun _=>true
 pn:=[]
 xe:=fun e s'=>wpAny (model P w) (A.deeper (envOfC qual scope s.heap.objs.size f cd)) (leaving (envOfC qual scope s.heap.objs.size f cd) e) (fun _ s''=>CX outer H s E e s'') (fun e' s''=>CX outer H s E e' s'') s'
theorem zju{sc:Scope}{n:Nat}{x:Str}(h:sc.names.lookup x=some .cell):∃ c,(cellsFrom n sc.names []).lookup x=some c:=by
 have q:=W.cellsFrom_some sc.names n [] (.inl h)
 exact Option.isSome_iff_exists.mp q
theorem zhO{CX:CXT}{P:Program}{w:World}{K:W.Frag}{mg:Str->Option Value}{base:Heap}{N ps:List Str}{qual:Str}{scope:Scope}{f:Addr}{cd:Value}{A:Around}{outer:List Env}{s s1:Shared}{H:Hp}{E:XK}{us:List Value}{vs:List V}
  (S:zav N ps scope) (hd:A.handled=none) (e0:zo6 P w K mg base A outer s H) (hl:vs.length=ps.length) (r:zaM vs us)
  (x:InCallC s s.heap.objs.size (bindL (envOfC qual scope s.heap.objs.size f cd).kindOf (ps.zip us) fun _=>none) (cellsFrom (s.heap.objs.size+1) scope.names []) (bindC (envOfC qual scope s.heap.objs.size f cd).kindOf (ps.zip us) fun _=>none) s1) :
  Inv (zit CX P w K mg base N qual scope f cd A outer s H E) [] (start N vs) H s1:=by
 have hpl:ps.length<=N.length:=by have:=congrArg List.length S.pre;rw[List.length_take] at this;omega
 obtain ⟨h1,tk,rfl,hk⟩:=x.done
 have noA:∀ b:Addr,b∉(zit CX P w K mg base N qual scope f cd A outer s H E).ex:=fun b z=>absurd (show b∈([]:List Addr) from z) (by simp)
 refine ⟨⟨e0.mod,S.kind,rfl,rfl,Nat.le_refl _,fun y z c h1 h2=>?_,fun y hy=>?_,fun y c _ h=>?_,fun _=>hd,Around.frames_deeper e0.frames,.inr ⟨rfl,rfl⟩,fun b z=>absurd z (noA b),e0.bs,e0.bsz,fun b _ _=>noA b,fun b z=>absurd z (noA b),e0.funs,e0.frf⟩,
  rfl,e0.bare,Un.kept hk,⟨_,x.toInCall.ns,fun i y v h1 h2 h3=>?_⟩,fun y c h=>⟨_,x.cell y c h⟩,e0.hok.fresh (Nat.le_refl _),fun y c h=>?_,fun p hp=>absurd (show p∈([]:List (Addr×Obj)) from hp) (by simp),e0.hok.kept hk,?_⟩
 ·exact name_of_addr x.apart (PySem.mem_of_lookup h1) (PySem.mem_of_lookup h2)
 ·have hy:scope.names.lookup y=some .cell\/scope.names.lookup y=some .free:=hy
  rcases hy with hy|hy
  ·exact zju hy
  ·exact absurd rfl (S.nofree _ (PySem.mem_of_lookup hy))
 ·exact Nat.le_of_lt (x.above y c (PySem.mem_of_lookup h))
 ·have hi:i<vs.length:=by
   unfold start at h2
   by_cases hi:i<vs.length
   ·exact hi
   ·rw[List.getElem?_append_right (by simpa using hi)] at h2
    rw[List.getElem?_replicate] at h2
    split at h2 <;> cases h2
  have ha:vs[i]? = some v:=by
   unfold start at h2
   rw[List.getElem?_append_left (by simpa using hi),List.getElem?_map] at h2
   cases e:vs[i]? with
   |none=>rw[e] at h2;cases h2
   |some a=>rw[e] at h2;cases h2;rfl
  obtain ⟨u,hu,rv⟩:=r.get ha
  have hp:ps[i]? = some y:=by
   rw[<- S.pre,List.getElem?_take_of_lt (by omega)];exact h1
  have ndP:ps.Nodup:=by rw[<- S.pre];exact S.nd.sublist (List.take_sublist _ _)
  refine ⟨u,rv,?_⟩
  rcases S.par y (List.mem_of_getElem? hp) with k|k
  ·exact .inl ⟨k,ziq ndP hp hu k⟩
  ·obtain ⟨c,e⟩:=zju (n:=s.heap.objs.size+1) k
   refine .inr ⟨.inl k,c,e,?_⟩
   have q:=x.cell y c e
   rw[zh4 ndP hp hu (by show scope.names.lookup y≠_;rw[k];decide)] at q
   exact q
 ·exact e0.hok.fresh (Nat.le_of_lt (x.above y c (PySem.mem_of_lookup h)))
 ·unfold start
  show _=N.length
  rw[List.length_append,List.length_map,List.length_replicate]
  omega
theorem znl{CX:CXT}{P:Program}{w:World}{K:W.Frag}{mg:Str->Option Value}{base:Heap}{k:Nat}{f:Addr}{name qual:Str}{params:Arguments}{body:List Stmt}{scope:Scope}{dV kV doc pm cdv ct oc:Value}{an od:Option Addr}
  {osl:Array (Option Value)} {N ps:List Str} {sp:Sp} (lk:K.lookup f=some ⟨oc,od,.func (W.fnOf name qual params body scope dV kV doc pm an cdv ct),osl⟩) (hcd:W.codeIn K cdv qual=true) (S:zav N ps scope)
  (len:∀ vs H Q E,sp vs H Q E->vs.length=ps.length)
  (hbody:∀(A:Around)(outer:List Env)(s:Shared)(H:Hp)(vs:List V)(Q:VK)(E:XK),zcg k (A.deeper (envOfC qual scope s.heap.objs.size f cdv))->sp vs H Q E ->
   ∃ t,PSs (zit CX P w K mg base N qual scope f cdv A outer s H E) body t/\t { nx:=fun _ H'=>Q .non H',rt:=Q } (start N vs) H) :
  zf1 P w K mg base CX (k+1) f (W.fnOf name qual params body scope dV kV doc pm an cdv ct) ps sp:=by
 refine ⟨len,fun A outer s H args us vs Q E hr e0 hb r hsp=>?_⟩
 have hl:=len _ _ _ _ hsp
 have KX:K.In s.heap:=e0.mod.kin.keeps fun b o e=>(e0.bs b o e).1
 have lim:s.heap.NoLimit:=e0.mod.nolimit.keeps fun b o e=>(e0.bs b o e).1
 have hkind:∀ y∈ps.zip us,scope.names.lookup y.1=some .local\/(scope.names.lookup y.1=some .cell/\((cellsFrom (s.heap.objs.size+1) scope.names []).lookup y.1).isSome=true):=fun ⟨n,v⟩ hy=>by
  rcases S.par n (List.of_mem_zip hy).1 with q|q
  ·exact .inl q
  ·exact .inr ⟨q,W.cellsFrom_some _ _ _ (.inl q)⟩
 refine codeAny_call_function hr.depth (KX _ _ lk) rfl S.co S.gen rfl (W.codeRec_of KX hcd) (hb _ _ _ _ ?_)
 refine wpAny_newFunctionEnv_cells S.kind hkind fun env he s1 x=>?_
 subst he
 refine ⟨lim.keeps x.toInCall.keep,codeAny_func ?_⟩
 obtain ⟨t,ht,hq⟩:=hbody A outer s H vs Q E (hr.deeper _) hsp
 have I:Inv (zit CX P w K mg base N qual scope f cdv A outer s H E) [] (start N vs) H s1:=zhO S hr.hd e0 hl r x
 refine wpAny_mono (ht [] s1 (start N vs) H _ I hq) (fun fl s' hs=>?_) fun e s' hs=>hs
 have fin:∀{σ':St}{H':Hp}{v:V}{u:Value},Inv (zit CX P w K mg base N qual scope f cdv A outer s H E) [] σ' H' s'->zaF v u->Q v H'->CE outer P w H s Q u s' :=
  fun {σ' H' v u} J rv q=>⟨v,H',J.os,J.bare,J.base,J.hok,rv,q⟩
 cases fl with
 |ret u =>
  obtain ⟨v,σ',H',J,rv,q⟩:=hs
  exact fin J rv q
 |next =>
  obtain ⟨σ',H',J,q⟩:=hs
  exact fin (v:=V.non) (u:=Value.none) J rfl q
 |brk =>
  obtain ⟨_,_,_,q⟩:=hs
  exact False.elim q
 |cont =>
  obtain ⟨_,_,_,q⟩:=hs
  exact False.elim q
end L2
namespace L2
open PySem PySem.Spec PyProof.Rows
section
variable{X:Cx}{x:Str}{p pos:Pos}{e:Expr}{es:List Expr}{t:TA}{id T:String}{r:List V->Hp->VK->Prop}
def tCB(r:List V->Hp->VK->Prop)(t:TA):TE:=fun σ H Q=>t σ H fun vs H1=>r vs H1 Q
theorem zee(hc:zbP X (.builtin id) r)(hg:Gl X x)(hm:X.mg x=none)(hv:bootBuiltins x=some (.builtin id))(ha:PA X (e::es) t)(hn:x≠"__name__":=by decide)(hdb:(x == ("__debug__" : Str))=false:=by decide)
  (he:starEach (e::es) X.env=(false,eval e X.env)::starEach es X.env:=by rfl) (hpl:(backTo pos (starEach es X.env)).any (·.1)=false:=by rfl):PE X (.Call (.Name x p) (e::es) [] pos) (tCB r t):=by
 intro pins s σ H Q I h
 refine wpAny_Call_Name_kw (zei I hg hm hv ?_ hn hdb)
 exact PyProof.Rows.callWith_builtin1 (thn (ha pos pins s σ H _ I h) fun us s1 ⟨vs,H1,I1,r1,q1⟩=>hc pins s1 σ H1 vs us Q I1 r1 q1) he hpl
theorem zfF(hc:zbP X (.type T) r)(hg:Gl X x)(hm:X.mg x=none)(hv:bootBuiltins x=some (.type T))(ha:PA X (e::es) t)(hn:x≠"__name__":=by decide)(hdb:(x == ("__debug__" : Str))=false:=by decide)
  (he:starEach (e::es) X.env=(false,eval e X.env)::starEach es X.env:=by rfl) (hpl:(backTo pos (starEach es X.env)).any (·.1)=false:=by rfl):PE X (.Call (.Name x p) (e::es) [] pos) (tCB r t):=by
 intro pins s σ H Q I h
 refine wpAny_Call_Name_kw (zei I hg hm hv ?_ hn hdb)
 exact PyProof.Rows.callWith_type1 (thn (ha pos pins s σ H _ I h) fun us s1 ⟨vs,H1,I1,r1,q1⟩=>hc pins s1 σ H1 vs us Q I1 r1 q1) he hpl
end
end L2
namespace HT
open PySem PyProof.Rows
theorem rcLt_int(A:Around)(s:Shared)(a:Int)(t:Tok)(c:Int)(u:Tok)(prog:Program)(w:World)(E:Value->Shared->Prop)(Q:Value->Shared->Prop)(h:Q (.bool (decide (a<c))) s) :
  wpAny (model prog w) A (richCompare .Lt (.int a t) (.int c u)) Q E s :=
 (PyProof.Rows.lt_int h:wpAny (model prog w) A (compareOp .Lt (.int a t) (.int c u)) Q E s)
section
open PySem.SeqAt
open PySem.AutoSeq1 (wpAny_loadPart')
open PySem.MeetsSeq PySem.MeetsSeq2 PySem.MeetsSeq3
end
section
variable{prog:Program}{w:World}{A:Around}{E:Value->Shared->Prop}{s:Shared}
theorem cat_tup{t b:Addr}{vs ws:List Value}{Q:Value->Shared->Prop}(ht:IsTup s.heap t vs.toArray)(hb:IsTup s.heap b ws.toArray)(hv:vs≠[])
  (h1:ws=[]->Q (.ref t) s) (h2:ws≠[]->Q (.ref s.heap.objs.size) { s with heap:=s.heap.push { cls:=.type "tuple",data:=.seq (vs++ws).toArray } })
  (hsz:vs.length+ws.length<=sizeLine):wpAny (model prog w) A (binaryOp .Add (.ref t) (.ref b)) Q E s:=by
 obtain ⟨⟨cls,dd,data,sl⟩,ho,hc,n,hd⟩:=id ht
 obtain ⟨⟨cls2,dd2,data2,sl2⟩,ho2,hc2,n2,hd2⟩:=id hb
 simp only at hc hd hc2 hd2
 subst hc hd hc2 hd2
 have e:vs.toArray++ws.toArray=(vs++ws).toArray:=by simp
 by_cases hw:ws=[]
 ·exact concat_meets ⟨_,ho,rfl⟩ ⟨_,ho2,rfl⟩ noFill_tuple_add seq_tuple_add PySem.F.slot_tuple_add PySem.F.entry_tuple_add (PySem.F.args_tuple_add_2 _ _)
   (tuple_addW1 t b vs.toArray ws.toArray n n2 dd dd2 sl sl2 (by simpa using hv) (by simp[hw])) ⟨ho,ho2,h1 hw⟩
 ·refine concat_meets ⟨_,ho,rfl⟩ ⟨_,ho2,rfl⟩ noFill_tuple_add seq_tuple_add PySem.F.slot_tuple_add PySem.F.entry_tuple_add (PySem.F.args_tuple_add_2 _ _)
   (tuple_addW2 t b vs.toArray ws.toArray n n2 dd dd2 sl sl2 (by simpa using hv) (by simpa using hw) (by rw[List.size_toArray,List.size_toArray];exact hsz)) ⟨ho,ho2,?_⟩
  rw[e]
  exact h2 hw
def sIx(n d:Nat):Option Int->Nat
 |none=>d
 |some v=>if v<0 then (v+(n:Int)).toNat else min v.toNat n
theorem sIx_nat(n d k:Nat):sIx n d (some (k:Int))=min k n:=by
 show (if (k:Int)<0 then ((k:Int)+(n:Int)).toNat else min (k:Int).toNat n)=min k n
 rw[if_neg (by omega),Int.toNat_natCast]
end
end HT
namespace L2
open PySem PySem.Spec PyProof.Rows
abbrev TO:=St->Hp->(Option Int->Hp->Prop)->Prop
def PO(X:Cx)(e:Option Expr)(t:TO):Prop :=
 ∀(pins:List (Addr×Obj))(s:Shared)(σ:St)(H:Hp)(Q:Option Int->Hp->Prop),Inv X pins σ H s->t σ H Q ->
  wpAny (model X.prog X.w) X.A (evalPart e X.env) (fun u s'=>∃ o H',Inv X pins σ H' s'/\IsPart u o/\Q o H') X.xe s
def zsF(t:TE):TO:=fun σ H Q=>t σ H fun x H1=>∃ i,x=.int i/\Q (some i) H1
theorem ze4{ns:List Int}:∀{us:List Value},zaM (ns.map V.int) us->IntsAre us ns:=by
 induction ns with
 |nil=>intro us r;rw[List.map_nil] at r;cases r;exact .nil
 |cons n ns ih =>
  intro us r
  rw[List.map_cons] at r
  cases r with
  |cons r1 r2 =>
   obtain ⟨t,e⟩:=r1
   subst e
   exact .cons n t (ih r2)
section
variable{X:Cx}{e:Expr}{te:TE}{lo hi:Option Expr}{tl th:TO}{pos p2:Pos}
theorem zqy(h:PE X e te):PO X (some e) (zsF te):=by
 intro pins s σ H Q I hw
 rw[evalPart_some]
 refine thn (h pins s σ H _ I hw) fun u s1 ⟨x,H1,I1,r1,q1⟩=>?_
 obtain ⟨i,rfl,q⟩:=q1
 obtain ⟨t,rfl⟩:=r1
 exact ⟨some i,H1,I1,.int i t,q⟩
def SlR(X:Cx)(r:V->Option Int->Option Int->Hp->VK->Prop):Prop :=
 ∀(pins:List (Addr×Obj))(s:Shared)(σ:St)(H:Hp)(x:V)(v vl vu:Value)(lo hi:Option Int)(sl:Addr)(Q:VK),Inv X pins σ H s->zaF x v->s.heap.IsSliceOf sl vl vu .none->IsPart vl lo->IsPart vu hi->r x lo hi H Q ->
  ∃ T id,typeLookup (.type T) "__getitem__"=pure (some (.builtin id))/\s.TypeIs v T/\wpAny (model X.prog X.w) X.A (getItem v (.ref sl)) (EP X pins σ Q) X.xe s
theorem SlR.or{r r':V->Option Int->Option Int->Hp->VK->Prop}(h:SlR X r)(h':SlR X r'):SlR X (fun x lo hi H Q=>r x lo hi H Q\/r' x lo hi H Q):=by
 intro pins s σ H x v vl vu lo hi sl Q I rx hs pl pu q
 rcases q with q|q
 ·exact h pins s σ H x v vl vu lo hi sl Q I rx hs pl pu q
 ·exact h' pins s σ H x v vl vu lo hi sl Q I rx hs pl pu q
def tSl(r:V->Option Int->Option Int->Hp->VK->Prop)(te:TE)(tl th:TO):TE:=fun σ H Q=>te σ H fun x H1=>tl σ H1 fun l H2=>th σ H2 fun u H3=>r x l u H3 Q
theorem zn1{r:V->Option Int->Option Int->Hp->VK->Prop}(hr:SlR X r)(he:PE X e te)(hl:PO X lo tl)(hu:PO X hi th):PE X (.Subscript e (.Slice lo hi none p2) pos) (tSl r te tl th):=by
 intro pins s σ H Q I h
 refine Subscript_ (thn (he pins s σ H _ I h) fun v s1 ⟨x,H1,I1,r1,q1⟩=>?_)
 refine wpAny_Slice (thn (hl pins s1 σ H1 _ I1 q1) fun vl s2 ⟨l,H2,I2,pl,q2⟩=>thn (hu pins s2 σ H2 _ I2 q2) fun vu s3 ⟨u,H3,I3,pu,q3⟩=>?_)
 rw[evalPart_none]
 refine wpAny_pure ?_
 have I4:Inv X pins σ H3 { s3 with heap:=s3.heap.push { cls:=.type "slice",data:=.fields #[vl,vu,.none] } }:=I3.kept (t':=s3.toks) fun b ob q=>Heap.get?_push_of_some _ q
 obtain ⟨T,id,hT,ht,hg⟩:=hr pins { s3 with heap:=s3.heap.push { cls:=.type "slice",data:=.fields #[vl,vu,.none] } } σ H3 x v vl vu l u s3.heap.objs.size Q I4 r1 (Heap.IsSliceOf.new ..) pl pu q3
 show wpAny (model X.prog X.w) X.A (subscriptTail e (.Slice lo hi none p2) v (.ref s3.heap.objs.size)) (EP X pins σ Q) X.xe { s3 with heap:=s3.heap.push { cls:=.type "slice",data:=.fields #[vl,vu,.none] } }
 exact tail_any (ops:=[.ref s3.heap.objs.size,v]) ht hT hg (by with_unfolding_all rfl)
def zpN(xs:List V)(lo hi:Option Int):List V:=(xs.drop (HT.sIx xs.length 0 lo)).take (HT.sIx xs.length xs.length hi-HT.sIx xs.length 0 lo)
theorem zjb(xs:List V)(lo hi:Option Int):(zpN xs lo hi).length<=xs.length:=by
 unfold zpN
 rw[List.length_take,List.length_drop]
 omega
def zsW(K:W.Frag):R2:=fun x y H Q=>∃ a b xs ys,x=.ref a/\y=.ref b/\SqT K H a xs/\SqT K H b ys/\xs≠[]/\xs.length+ys.length<=sizeLine /\
 (ys=[]->Q (.ref a) H)/\(ys≠[]->∀ p,H p=none->Q (.ref p) (upd H p (.tup (xs++ys))))
theorem zaM.nil_iff{xs:List V}{us:List Value}(r:zaM xs us):us=[] ↔ xs=[]:=by
 cases r with
 |nil=>simp
 |cons _ _=>simp
theorem zoT:OpR X (binaryOp .Add) (zsW X.K):=by
 intro pins s σ H x y v u Q I rx ry h
 obtain ⟨a,b,xs,ys,rfl,rfl,ha,hb,hx,hz,q1,q2⟩:=h
 cases rx
 cases ry
 obtain ⟨its,r1,p1,_⟩:=I.tuple ha
 obtain ⟨its2,r2,p2,_⟩:=I.tuple hb
 refine HT.cat_tup p1 p2 (fun z=>hx (r1.nil_iff.mp z)) (fun z=>⟨.ref a,H,I,rfl,q1 (r2.nil_iff.mp z)⟩) (fun z=>?_) (by rw[<- r1.length,<- r2.length];exact hz)
 refine ⟨.ref s.heap.objs.size,_,I.laid (t':=s.toks) (o:=.tup (xs++ys)) (fun b ob q=>Heap.get?_push_of_some _ q) (Nat.le_refl _) ?_,rfl,q2 (fun w=>z (r2.nil_iff.mpr w)) _ (I.hok.fresh (Nat.le_refl _))⟩
 exact ⟨by rw[List.length_append];exact hz,_,r1.append r2,_,Heap.get?_push_size _ rfl⟩
end
end L2
namespace L2
open PySem PySem.Spec PyProof.Rows
def ixN(n:Nat)(i:Int):Option Nat:=if 0<=i then (if i<n then some i.toNat else none) else if -(n:Int)<=i then some (i+n).toNat else none
def atI{α:Type}(xs:List α)(i:Int):Option α:=(ixN xs.length i).bind fun j=>xs[j]?
theorem zi7{n:Nat}{i:Int}{j:Nat}(h:ixN n i=some j):seqIndex? i n=some j/\j<n/\-(n:Int)<=i/\i<n:=by
 unfold ixN at h
 by_cases h0:0<=i
 ·rw[if_pos h0] at h
  by_cases h1:i<n
  ·rw[if_pos h1] at h
   have e:i.toNat=j:=Option.some.inj h
   exact ⟨by rw[seqIndex_of h0 h1,e],by omega,by omega,h1⟩
  ·rw[if_neg h1] at h;cases h
 ·rw[if_neg h0] at h
  by_cases h1:-(n:Int)<=i
  ·rw[if_pos h1] at h
   have e:(i+n).toNat=j:=Option.some.inj h
   exact ⟨by rw[seqIndex_neg (by omega) h1,e],by omega,h1,by omega⟩
  ·rw[if_neg h1] at h;cases h
theorem zlK{α:Type}{xs:List α}{i:Int}{v:α}(h:atI xs i=some v):∃ j,seqIndex? i xs.length=some j/\xs[j]? = some v/\j<xs.length/\-(xs.length:Int)<=i/\i<xs.length:=by
 unfold atI at h
 cases e:ixN xs.length i with
 |none=>rw[e] at h;cases h
 |some j =>
  rw[e] at h
  obtain ⟨h1,h2,h3,h4⟩:=zi7 e
  exact ⟨j,h1,h,h2,h3,h4⟩
theorem zgQ{α:Type}{xs:List α}{j:Nat}{v:α}(h:xs[j]? = some v):atI xs (j:Int)=some v:=by
 have hj:j<xs.length:=(List.getElem?_eq_some_iff.mp h).1
 have e:ixN xs.length (j:Int)=some j:=by
  unfold ixN
  rw[if_pos (by omega),if_pos (by omega)];simp
 unfold atI;rw[e];exact h
theorem zj2{α:Type}(xs:List α)(v:α):atI (xs++[v]) (-1)=some v:=by
 have hl:(xs++[v]).length=xs.length+1:=by simp
 have e:ixN (xs++[v]).length (-1)=some xs.length:=by
  unfold ixN
  rw[hl,if_neg (by decide),if_pos (by omega)]
  congr 1
  omega
 unfold atI
 rw[e]
 show (xs++[v])[xs.length]? = some v
 simp
def zi9(b:Expr):Prop:=∀ o i,subscripted b false o i=operate [o,i] (getItem o i)
def IxR(X:Cx)(r:R2):Prop :=
 ∀(value slice:Expr)(pins:List (Addr×Obj))(s:Shared)(σ:St)(H:Hp)(x y:V)(v u:Value)(Q:VK),Inv X pins σ H s->zaF x v->zaF y u->r x y H Q ->
  subscripted slice false v u=operate [v,u] (getItem v u)->wpAny (model X.prog X.w) X.A (subscriptTail value slice v u) (EP X pins σ Q) X.xe s
def MtR(X:Cx)(id:String)(r:V->List V->Hp->VK->Prop):Prop :=
 ∀(pins:List (Addr×Obj))(s:Shared)(σ:St)(H:Hp)(x:V)(xs:List V)(v:Value)(us:List Value)(Q:VK),Inv X pins σ H s->zaF x v->zaM xs us->r x xs H Q ->
  wpAny (model X.prog X.w) X.A (call (.builtin id) (v::us)) (EP X pins σ Q) X.xe s
section
variable{X:Cx}{a b:Expr}{ta tb:TE}{pos:Pos}
theorem IxR.or{r r':R2}(h:IxR X r)(h':IxR X r'):IxR X (fun x y H Q=>r x y H Q\/r' x y H Q):=by
 intro value slice pins s σ H x y v u Q I rx ry q hs
 rcases q with q|q
 ·exact h value slice pins s σ H x y v u Q I rx ry q hs
 ·exact h' value slice pins s σ H x y v u Q I rx ry q hs
theorem MtR.or{id:String}{r r':V->List V->Hp->VK->Prop}(h:MtR X id r)(h':MtR X id r'):MtR X id (fun x xs H Q=>r x xs H Q\/r' x xs H Q):=by
 intro pins s σ H x xs v us Q I rx rs q
 rcases q with q|q
 ·exact h pins s σ H x xs v us Q I rx rs q
 ·exact h' pins s σ H x xs v us Q I rx rs q
theorem zqG{r:R2}(hr:IxR X r)(ha:PE X a ta)(hb:PE X b tb)(hs:zi9 b):PE X (.Subscript a b pos) (tOp r ta tb):=by
 intro pins s σ H Q I h
 exact Subscript_ (ztu ha hb I h fun v u s2 x y H2 I2 rx ry q=>hr a b pins s2 σ H2 x y v u Q I2 rx ry q (hs _ _))
def rIxL(K:W.Frag):R2:=fun x y H Q=>∃ p xs i v,x=.ref p/\y=.int i/\SqL K H p xs/\atI xs i=some v/\Q v H
def rIxT(K:W.Frag):R2:=fun x y H Q=>∃ p xs i v,x=.ref p/\y=.int i/\SqT K H p xs/\atI xs i=some v/\Q v H
theorem zm5:IxR X (rIxL X.K):=by
 intro value slice pins s σ H x y v u Q I rx ry h hs
 obtain ⟨p,xs,i,z,rfl,rfl,hq,he,q⟩:=h
 cases rx
 obtain ⟨t,rfl⟩:=ry
 obtain ⟨its,r,pl,hz⟩:=I.list hq
 obtain ⟨j,h1,h2,h3,h4,h5⟩:=zlK he
 obtain ⟨w,ew,rw'⟩:=r.get h2
 have hl:=r.length
 have hn:=zid
 have fin:EP X pins σ Q w s:=⟨z,H,I,rw',q⟩
 by_cases h0:0<=i
 ·have hj:i.toNat=j:=by
   rw[seqIndex_of h0 h5] at h1
   exact Option.some.inj h1
  exact item_listR pl.isList h0 (by omega) (by rw[hj];simpa using ew) fin hs
 ·have hj:(i+(its.toArray.size:Int)).toNat=j:=by
   rw[seqIndex_neg (by omega) h4] at h1
   rw[List.size_toArray,<- hl]
   exact Option.some.inj h1
  exact subscriptTail_builtinR (x:=w) pl.isList.typeIs slot_list_getitem.lookup
   (wpAny_getItem_list_neg (Q:=fun r s'=>r=w/\EP X pins σ Q r s') pl.isList (by omega) (by rw[List.size_toArray] <;> omega) (by omega) (by rw[hj];simpa using ew) ⟨rfl,fin⟩) hs
theorem zra:IxR X (rIxT X.K):=by
 intro value slice pins s σ H x y v u Q I rx ry h hs
 obtain ⟨p,xs,i,z,rfl,rfl,hq,he,q⟩:=h
 cases rx
 obtain ⟨t,rfl⟩:=ry
 obtain ⟨its,r,pl,hz⟩:=I.tuple hq
 obtain ⟨j,h1,h2,h3,h4,h5⟩:=zlK he
 obtain ⟨w,ew,rw'⟩:=r.get h2
 have hl:=r.length
 have hn:=zid
 have fin:EP X pins σ Q w s:=⟨z,H,I,rw',q⟩
 exact subscriptTail_builtinR (x:=w) pl.typeIs slot_tuple_getitem.lookup
  (getItem_tuple (j:=j) (Q:=fun r s'=>r=w/\EP X pins σ Q r s') pl (by omega) (by omega) (by rw[List.size_toArray,<- hl];exact h1) (by simpa using ew) ⟨rfl,fin⟩) hs
theorem zku(its:List Value)(n j:Nat)(u:Value):Obj.mapSeq (·.setIfInBounds j u) { cls:=.type "list",data:=.seq its.toArray n }={ cls:=.type "list",data:=.seq (its.set j u).toArray n }:=by
 simp[Obj.mapSeq]
theorem Inv.lst{pins:List (Addr×Obj)}{σ:St}{H:Hp}{s:Shared}{p:Addr}{xs:List V}(I:Inv X pins σ H s)(h:H p=some (.lst xs)) :
  ∃(its:List Value)(n:Nat),zaM xs its/\s.heap.get? p=some { cls:=.type "list",data:=.seq its.toArray n }/\xs.length<=sizeLine:=by
 obtain ⟨z,its,n,r,e⟩:=I.hok p _ h
 exact ⟨its,n,r,e,z⟩
theorem Inv.lstUpd{pins:List (Addr×Obj)}{σ:St}{H:Hp}{s:Shared}{p:Addr}{xs ys:List V}{its its':List Value}{n n':Nat}{f:Obj->Obj}(I:Inv X pins σ H s)(h:H p=some (.lst xs))
  (ho:s.heap.get? p=some { cls:=.type "list",data:=.seq its.toArray n }) (hf:f { cls:=.type "list",data:=.seq its.toArray n }={ cls:=.type "list",data:=.seq its'.toArray n' }) (r:zaM ys its') (hz:ys.length<=sizeLine) (t:Nat) :
  Inv X pins σ (upd H p (.lst ys)) { s with heap:=s.heap.update p f,toks:=t }:=by
 have e:(s.heap.update p f).get? p=some { cls:=.type "list",data:=.seq its'.toArray n' }:=by
  rw[Heap.get?_update_self f ho (by rw[hf] <;> rfl),hf]
 refine I.write (x:=p) (e:=p) (by rw[h];trivial) (.inl rfl) (fun b u hb q=>(Heap.get?_update_other _ _ (Ne.symm hb)).trans q) ⟨_,e⟩ ?_
 exact ⟨hz,its',n',r,e⟩
def zsG:V->V->V->Hp->(Hp->Prop)->Prop:=fun o i v H Q=>∃ p xs k j,o=.ref p/\i=.int k/\H p=some (.lst xs)/\ixN xs.length k=some j/\Q (upd H p (.lst (xs.set j v)))
theorem zmZ:PSet X zsG:=by
 intro pins s σ H o i v ov iv u Q I ro ri rv h
 obtain ⟨p,xs,k,j,rfl,rfl,hp,hj,q⟩:=h
 cases ro
 obtain ⟨t,rfl⟩:=ri
 obtain ⟨its,n,r,ho,hz⟩:=I.lst hp
 obtain ⟨h1,h2,h3,h4⟩:=zi7 hj
 have hl:=r.length
 have hn:=zid
 have I':Inv X pins σ (upd H p (.lst (xs.set j v))) { s with heap:=s.heap.update p (Obj.mapSeq (·.setIfInBounds j u)) } :=
  I.lstUpd hp ho (zku its n j u) (r.set rv j) (by rw[List.length_set];exact hz) s.toks
 by_cases h0:0<=k
 ·have hk:k.toNat=j:=by
   rw[seqIndex_of h0 h4] at h1
   exact Option.some.inj h1
  exact W.ki_setAt ho h0 (by omega) (by rw[List.size_toArray,<- hl];exact h4) (by rw[hk];exact ⟨_,I',q⟩)
 ·have hk:(k+(its.toArray.size:Int)).toNat=j:=by
   rw[seqIndex_neg (by omega) h3] at h1
   rw[List.size_toArray,<- hl]
   exact Option.some.inj h1
  exact W.ki_setBack ho (by omega) (by rw[List.size_toArray,<- hl];exact h3) (by omega) (by rw[hk];exact ⟨_,I',q⟩)
theorem zh5(lo hi:Option Int)(n:Nat):(sliceBounds lo hi none n).1=((HT.sIx n 0 lo:Nat):Int)/\(sliceBounds lo hi none n).2.1=((HT.sIx n n hi:Nat):Int)/\(sliceBounds lo hi none n).2.2=1:=by
 refine ⟨?_,?_,rfl⟩
 ·cases lo with
  |none=>simp[sliceBounds,HT.sIx]
  |some i =>
   simp only[sliceBounds,HT.sIx,Option.getD_none,show (1:Int) > 0 by decide,if_true]
   by_cases h:i<0
   ·simp only[h,if_true] <;> omega
   ·simp only[h,if_false] <;> omega
 ·cases hi with
  |none=>simp[sliceBounds,HT.sIx]
  |some i =>
   simp only[sliceBounds,HT.sIx,Option.getD_none,show (1:Int) > 0 by decide,if_true]
   by_cases h:i<0
   ·simp only[h,if_true] <;> omega
   ·simp only[h,if_false] <;> omega
theorem zgF(its:List Value)(lo hi:Option Int):slicePick its.toArray lo hi none=((its.drop (HT.sIx its.length 0 lo)).take (HT.sIx its.length its.length hi-HT.sIx its.length 0 lo)).toArray:=by
 obtain ⟨h1,h2,h3⟩:=zh5 lo hi its.toArray.size
 unfold slicePick
 rw[h1,h2,h3]
 simp only[sliceRange_one,pick_run,List.size_toArray] <;> rfl
def rSlL(K:W.Frag):V->Option Int->Option Int->Hp->VK->Prop:=fun x lo hi H Q=>∃ a xs,x=.ref a/\SqL K H a xs/\∀ p,H p=none->Q (.ref p) (upd H p (.lst (zpN xs lo hi)))
theorem zpP:SlR X (rSlL X.K):=by
 intro pins s σ H x v vl vu lo hi sl Q I rx hs pl pu h
 obtain ⟨a,xs,rfl,hx,q⟩:=h
 cases rx
 obtain ⟨its,r,ht,hz⟩:=I.list hx
 have hlen:=r.length
 refine ⟨"list",_,slot_list_getitem.lookup,ht.isList.typeIs,?_⟩
 refine wpAny_getItem_list_slice ht.isList hs pl pu .none (by simp) ?_ (by rw[List.size_toArray] <;> omega)
 rw[zgF,<- hlen]
 refine ⟨.ref s.heap.objs.size,_,I.laid (t':=s.toks) (o:=.lst (zpN xs lo hi)) (fun b ob q=>Heap.get?_push_of_some _ q) (Nat.le_refl _) ?_,rfl,q _ (I.hok.fresh (Nat.le_refl _))⟩
 exact ⟨Nat.le_trans (zjb xs lo hi) hz,_,0,(r.drop (HT.sIx xs.length 0 lo)).take (HT.sIx xs.length xs.length hi-HT.sIx xs.length 0 lo),Heap.get?_push_size _ rfl⟩
theorem zeS:zbP X (.builtin "len") (fun xs H Q=>∃ p ys,xs=[.ref p]/\(SqL X.K H p ys\/SqT X.K H p ys)/\Q (.int ys.length) H):=by
 intro pins s σ H xs us Q I r h
 obtain ⟨p,ys,rfl,hq,q⟩:=h
 obtain ⟨u,rfl,rx⟩:=ze5 r
 cases rx
 have hn:=zid
 rcases hq with hq|hq
 ·obtain ⟨its,r',pl,hz⟩:=I.list hq
  have hlen:=r'.length
  exact Calls.call_len_list pl.isList (by simp only[List.size_toArray] <;> omega) ⟨.int ys.length,H,I.tok _,⟨s.toks+1,by rw[List.size_toArray,hlen]⟩,q⟩
 ·obtain ⟨its,r',pl,hz⟩:=I.tuple hq
  have hlen:=r'.length
  exact len_tuple pl (by simp only[List.size_toArray] <;> omega) ⟨.int ys.length,H,I.tok _,⟨s.toks+1,by rw[List.size_toArray,hlen]⟩,q⟩
theorem zhN:zbP X (.builtin "len") (fun xs H Q=>∃ z,xs=[.str z]/\z.length<=sizeLine/\Q (.int z.length) H):=by
 intro pins s σ H xs us Q I r h
 obtain ⟨z,rfl,hz,q⟩:=h
 obtain ⟨u,rfl,t,rfl⟩:=ze5 r
 have hn:=zid
 exact len_str (by omega) ⟨.int z.length,H,I.tok _,⟨_,rfl⟩,q⟩
theorem zbP.or{f:Value}{r r':List V->Hp->VK->Prop}(h:zbP X f r)(h':zbP X f r'):zbP X f (fun xs H Q=>r xs H Q\/r' xs H Q):=by
 intro pins s σ H xs us Q I rs q
 rcases q with q|q
 ·exact h pins s σ H xs us Q I rs q
 ·exact h' pins s σ H xs us Q I rs q
theorem zhY:zbP X (.type "list") (fun xs H Q=>∃ p ys,xs=[.ref p]/\(SqL X.K H p ys\/SqT X.K H p ys)/\∀ l,H l=none->Q (.ref l) (upd H l (.lst ys))):=by
 intro pins s σ H xs us Q I r h
 obtain ⟨p,ys,rfl,hq,q⟩:=h
 obtain ⟨u,rfl,rx⟩:=ze5 r
 cases rx
 have fin:∀(its:List Value),zaM ys its->ys.length<=sizeLine->∀(h':Heap)(c':Nat),(∀ b o',s.heap.get? b=some o'->h'.get? b=some o') ->
   h'.get? s.heap.objs.size=some { cls:=.type "list",dict:=none,data:=.seq its.toArray c',slots:=#[] }->EP X pins σ Q (.ref s.heap.objs.size) { s with heap:=h' }:=fun its r' hz h' c' kp e =>
  ⟨.ref s.heap.objs.size,_,I.laid (t':=s.toks) kp (Nat.le_refl _) (show zbw X.prog X.w _ h' _ (.lst ys) from ⟨hz,its,c',r',e⟩),rfl,q _ (I.hok.fresh (Nat.le_refl _))⟩
 rcases hq with hq|hq
 ·obtain ⟨its,r',pl,hz⟩:=I.list hq
  have hlen:=r'.length
  obtain ⟨o,ho,hc,n,hd⟩:=pl.isList
  exact call_list_seq p (.inl rfl) ho hc hd (fun h' c' kp e=>fin its r' hz h' c' kp e) (by simp only[List.size_toArray] <;> omega)
 ·obtain ⟨its,r',pl,hz⟩:=I.tuple hq
  have hlen:=r'.length
  obtain ⟨o,ho,hc,n,hd⟩:=pl
  exact call_list_seq p (.inr rfl) ho hc hd (fun h' c' kp e=>fin its r' hz h' c' kp e) (by simp only[List.size_toArray] <;> omega)
theorem zhl:zbP X (.type "tuple") (fun xs H Q=>∃ p ys,xs=[.ref p]/\((SqL X.K H p ys/\∀ l,H l=none->Q (.ref l) (upd H l (.tup ys)))\/(SqT X.K H p ys/\Q (.ref p) H))):=by
 intro pins s σ H xs us Q I r h
 obtain ⟨p,ys,rfl,h⟩:=h
 obtain ⟨u,rfl,rx⟩:=ze5 r
 cases rx
 rcases h with ⟨hq,q⟩|⟨hq,q⟩
 ·obtain ⟨its,r',pl,hz⟩:=I.list hq
  have hlen:=r'.length
  refine call_tuple_list pl.isList (fun h' kp=>?_) (by simp only[List.size_toArray] <;> omega)
  have I1:Inv X pins σ H { s with heap:=h' }:=I.kept (t':=s.toks) kp
  have I2:Inv X pins σ (upd H h'.objs.size (.tup ys)) { s with heap:=h'.push { cls:=.type "tuple",data:=.seq its.toArray } } :=
   I1.laid (t':=s.toks) (fun b o e=>Heap.get?_push_of_some _ e) (Nat.le_refl _) (show zbw X.prog X.w _ _ _ (.tup ys) from ⟨hz,its,r',_,Heap.get?_push_size _ rfl⟩)
  exact ⟨.ref h'.objs.size,_,I2,rfl,q _ (I1.hok.fresh (Nat.le_refl _))⟩
 ·obtain ⟨its,r',pl,hz⟩:=I.tuple hq
  exact call_tuple_same pl ⟨.ref p,H,I,rfl,q⟩
def tyV(K:W.Frag)(T:String)(x:V)(H:Hp):Prop:=match x with
 |.str _=>T="str"
 |.int _=>T="int"
 |.ref p=>(T="list"/\∃ xs,SqL K H p xs)\/(T="tuple"/\∃ o,K.lookup p=some o/\o.cls=.type "tuple"/\o.dict=none) \/
   (T="dict"/\((∃ kvs,H p=some (.dK kvs))\/∃ kvs,H p=some (.dT kvs)))\/(T="set"/\∃ S n,H p=some (.set S n))
 |_=>False
theorem zqC{pins:List (Addr×Obj)}{σ:St}{H:Hp}{s:Shared}{T:String}{x:V}{v:Value}(I:Inv X pins σ H s)(r:zaF x v)(ty:tyV X.K T x H) :
  s.TypeIs v T/\∀ a,v=.ref a->∃ ob,s.heap.get? a=some ob/\ob.dict=none:=by
 cases x with
 |str z =>
  obtain ⟨t,rfl⟩:=r
  cases (show T="str" from ty)
  exact ⟨typeIs_str s z t,fun _ e=>nomatch e⟩
 |int i =>
  obtain ⟨t,rfl⟩:=r
  cases (show T="int" from ty)
  exact ⟨typeIs_int s i t,fun _ e=>nomatch e⟩
 |ref p =>
  cases r
  rcases ty with ⟨rfl,xs,hq⟩|⟨rfl,o,hk,hc,hd⟩|⟨rfl,hk⟩|⟨rfl,S,n,hk⟩
  ·obtain ⟨its,_,pl,_⟩:=I.list hq
   refine ⟨pl.isList.typeIs,fun a e=>?_⟩
   cases e
   obtain ⟨o,n,e,c,hd,_⟩:=pl
   exact ⟨o,e,hd⟩
  ·refine ⟨⟨o,I.kIn p o hk,hc⟩,fun a e=>?_⟩
   cases e
   exact ⟨o,I.kIn _ o hk,hd⟩
  ·have z:∃ o,s.heap.get? p=some o/\o.ExactDict:=by
    rcases hk with ⟨kvs,hk⟩|⟨kvs,hk⟩
    ·obtain ⟨_,_,_,_,o,_,_,e,ex,_⟩:=I.hok p _ hk
     exact ⟨o,e,ex⟩
    ·obtain ⟨_,_,_,_,o,_,_,e,ex,_⟩:=I.hok p _ hk
     exact ⟨o,e,ex⟩
   obtain ⟨o,e,ex⟩:=z
   refine ⟨⟨o,e,ex.1⟩,fun a e2=>?_⟩
   cases e2
   exact ⟨o,e,ex.2.1⟩
  ·obtain ⟨o,_,_,_,e,ex,_⟩:=I.hok p _ hk
   refine ⟨⟨o,e,ex.1⟩,fun a e2=>?_⟩
   cases e2
   exact ⟨o,e,ex.2.1⟩
 |_=>exact False.elim ty
def tBM(K:W.Frag)(T:String)(r:V->List V->Hp->VK->Prop)(to:TE)(t:TA):TE:=fun σ H Q=>to σ H fun x H1=>tyV K T x H1/\t σ H1 fun xs H2=>r x xs H2 Q
variable{o e:Expr}{es:List Expr}{to:TE}{t:TA}{name:Str}{apos cpos:Pos}{T id:String}{r:V->List V->Hp->VK->Prop}
theorem zng(pa:PlainAttrs T)(slot:Slot T name id)(hty:typeOf (.builtin id)=pure (.type "method_descriptor"))(hm:MtR X id r)(ho:PE X o to)(ha:PA X (e::es) t)
  (hbase:attributeBase o name X.env (eval o X.env)=eval o X.env:=by rfl)
  (hfew:((backTo cpos (starEach (e::es) X.env)).all (fun x=>!x.1) && (backToKw cpos (keywordEach [] X.env)).all (fun x=>x.1.isSome)
   && decide ((e::es).length+([]:List Keyword).length+(if ([]:List Keyword).isEmpty then 0 else 1)<30))=true:=by rfl)
  (hline:(apos.endLine == cpos.line)=true:=by rfl) (hs:starEach (e::es) X.env=(false,eval e X.env)::starEach es X.env:=by rfl) (hplain:(backTo cpos (starEach es X.env)).any (·.1)=false:=by rfl) :
  PE X (.Call (.Attribute o name apos) (e::es) [] cpos) (tBM X.K T r to t):=by
 intro pins s σ H Q I h
 refine wpAny_Call_method_late hbase hfew hline rfl (thn (ho pins s σ H _ I h) fun v s1 ⟨x,H1,I1,r1,ty,q1⟩=>?_)
 obtain ⟨h1,h2⟩:=zqC I1 r1 ty
 refine ⟨T,id,pa,slot,hty,h1,h2,?_⟩
 have hA:=ha cpos pins s1 σ H1 _ I1 q1
 rw[hs] at hA ⊢
 refine Calls.callWith_builtin (by show (false || (backTo cpos (starEach es X.env)).any (·.1))=false;rw[hplain] <;> rfl) (Calls.evalArgs_plain ?_)
 exact thn hA fun us s2 ⟨vs,H2,I2,r2,q2⟩=>hm pins s2 σ H2 x vs v us Q I2 r1 r2 q2
end
end L2
namespace L2
open PySem PySem.Spec PyProof.Rows
def MtM(X:Cx)(id:String)(r:V->List V->Hp->VK->Prop):Prop :=
 ∀(pins:List (Addr×Obj))(s:Shared)(σ:St)(H:Hp)(x:V)(xs:List V)(v:Value)(us:List Value)(Q:VK),Inv X pins σ H s->zaF x v->zaM xs us->r x xs H Q ->
  wpAny (model X.prog X.w) X.A (call (.builtin id) (v::us)) (EP X pins σ Q) X.xe s
theorem zaM.one:∀{x:V}{us:List Value},zaM [x] us->∃ u,us=[u]/\zaF x u
 |_,_,.cons r .nil=>⟨_,rfl,r⟩
theorem zaM.zero:∀{us:List Value},zaM [] us->us=[]
 |_,.nil=>rfl
theorem zaM.eraseIdx:∀{xs:List V}{us:List Value}(i:Nat),zaM xs us->zaM (xs.eraseIdx i) (us.eraseIdx i)
 |_,_,_,.nil=>.nil
 |_,_,0,.cons _ t=>t
 |_,_,i+1,.cons r t=>.cons r (zaM.eraseIdx i t)
theorem zin{α:Type}:∀(l:List α)(i:Nat),(l.eraseIdx i).length<=l.length
 |[],_=>Nat.le_refl _
 |_::_,0=>Nat.le_succ _
 |_::r,i+1=>Nat.succ_le_succ (zin r i)
section
variable{X:Cx}{pins:List (Addr×Obj)}{σ:St}{H:Hp}{s:Shared}{l b:Addr}{xs ys zs:List V}
theorem Inv.lset{its its':List Value}{n:Nat}{f:Array Value->Array Value}{t':Nat}(I:Inv X pins σ H s)(hH:H l=some (.lst xs))
  (e:s.heap.get? l=some { cls:=.type "list",data:=.seq its.toArray n }) (hf:f its.toArray=its'.toArray) (hv:zaM ys its') (hz:ys.length<=sizeLine) :
  Inv X pins σ (upd H l (.lst ys)) { s with heap:=s.heap.update l (Obj.mapSeq f),toks:=t' }:=by
 have q:=PySem.IsL.update e f
 rw[hf] at q
 refine I.write (x:=l) (e:=l) (by rw[hH];exact trivial) (.inl rfl) (fun b' u hb hu=>(Heap.get?_update_other s.heap (Obj.mapSeq f) (Ne.symm hb)).trans hu) ⟨_,q⟩ ?_
 exact ⟨hz,its',_,hv,q⟩
theorem Inv.lnew{its:List Value}{t':Nat}(I:Inv X pins σ H s)(hv:zaM ys its)(hz:ys.length<=sizeLine) :
  Inv X pins σ (upd H s.heap.objs.size (.lst ys)) { s with heap:=s.heap.push { cls:=.type "list",data:=.seq its.toArray },toks:=t' } :=
 I.laid (fun _ _ q=>Heap.get?_push_of_some _ q) (Nat.le_refl _) ⟨hz,its,0,hv,Heap.get?_push_size _ rfl⟩
theorem Inv.fresh(I:Inv X pins σ H s):H s.heap.objs.size=none:=I.hok.fresh (Nat.le_refl _)
theorem Inv.lstM(I:Inv X pins σ H s)(hH:H l=some (.lst xs)):xs.length<=sizeLine/\∃(its:List Value)(n:Nat),zaM xs its/\xs.length=its.length/\s.heap.get? l=some { cls:=.type "list",data:=.seq its.toArray n }:=by
 obtain ⟨z,its,n,r,e⟩:=I.hok l _ hH
 exact ⟨z,its,n,r,r.length,e⟩
theorem zj0{n:Nat}(h:n<=sizeLine):Builtin.List.listTooLong n=false:=by
 unfold Builtin.List.listTooLong
 exact decide_eq_false (by omega)
end
section
variable{X:Cx}
def zqo:V->List V->Hp->VK->Prop:=fun x vs H Q=>∃ l xs y,x=.ref l/\vs=[y]/\H l=some (.lst xs)/\xs.length<sizeLine/\Q .non (upd H l (.lst (xs++[y])))
theorem zhL:MtM X "list.append" zqo:=by
 intro pins s σ H x vs v us Q I rx rv h
 obtain ⟨l,xs,y,rfl,rfl,hH,hz,q⟩:=h
 cases rx
 obtain ⟨u,rfl,ru⟩:=rv.one
 obtain ⟨z,its,n,r,hl,e⟩:=I.lstM hH
 refine call_meets F.slot_list_append ⟨_,e,rfl⟩ F.entry_list_append (F.args_list_append_2 _ _) (PySem.list_append l its.toArray n u (by rw[List.size_toArray];omega)) ⟨e,?_⟩
 refine ⟨.non,_,I.lset (its':=its++[u]) hH e (by simp) (r.append (.cons ru .nil)) ?_,rfl,q⟩
 rw[List.length_append,List.length_singleton]
 omega
def zpM:V->List V->Hp->VK->Prop:=fun x vs H Q=>∃ l b xs zs,x=.ref l/\vs=[.ref b]/\H l=some (.lst xs)/\H b=some (.lst zs)/\xs.length+zs.length<=sizeLine/\Q .non (upd H l (.lst (xs++zs)))
theorem zlz:MtM X "list.extend" zpM:=by
 intro pins s σ H x vs v us Q I rx rv h
 obtain ⟨l,b,xs,zs,rfl,rfl,hH,hB,hz,q⟩:=h
 cases rx
 obtain ⟨u,rfl,ru⟩:=rv.one
 cases ru
 obtain ⟨z,its,n,r,hl,e⟩:=I.lstM hH
 obtain ⟨z2,its2,n2,r2,hl2,e2⟩:=I.lstM hB
 have hsz:its.toArray.size+its2.toArray.size<=sizeLine:=by rw[List.size_toArray,List.size_toArray];omega
 have hlong:¬ (!its.toArray.isEmpty && Builtin.List.listTooLong (its.toArray.size+its2.toArray.size))=true:=by
  rw[zj0 hsz,Bool.and_false]
  exact Bool.false_ne_true
 refine call_meets F.slot_list_extend ⟨_,e,rfl⟩ F.entry_list_extend (F.args_list_extend_2 _ _)
  (AutoSeq1.list_extend_list_list_0 l its.toArray n b its2.toArray n2 hlong (by rw[List.size_toArray];omega) (by omega)) ⟨e,e2,?_⟩
 refine ⟨.non,_,I.lset (its':=its++its2) hH e (by simp) (r.append r2) ?_,rfl,q⟩
 rw[List.length_append]
 omega
def zrh:V->List V->Hp->VK->Prop:=fun x vs H Q=>∃ l xs i k y,x=.ref l/\vs=[.int i]/\H l=some (.lst xs)/\-(2 ^ 63)<=i/\i<2 ^ 63/\seqIndex? i xs.length=some k/\xs[k]? = some y/\Q y (upd H l (.lst (xs.eraseIdx k)))
theorem zns:MtM X "list.pop" zrh:=by
 intro pins s σ H x vs v us Q I rx rv h
 obtain ⟨l,xs,i,k,y,rfl,rfl,hH,h1,h2,hk,hy,q⟩:=h
 cases rx
 obtain ⟨u,rfl,ru⟩:=rv.one
 obtain ⟨t,rfl⟩:=ru
 obtain ⟨z,its,n,r,hl,e⟩:=I.lstM hH
 obtain ⟨w,hw,rw'⟩:=r.get hy
 refine call_meets F.slot_list_pop ⟨_,e,rfl⟩ F.entry_list_pop (F.args_list_pop_2 _ _)
  (MeetsSeq.list_pop_at l its.toArray n i t k w (fitsIndex_both h1 h2) (by rw[List.size_toArray,<- hl];exact hk) (by rw[<- Array.getElem?_toList];exact hw) (by rw[List.size_toArray];omega)) ⟨e,?_⟩
 refine ⟨y,_,I.lset (its':=its.eraseIdx k) hH e ?_ (r.eraseIdx k) ?_,rw',q⟩
 ·show its.toArray.eraseIdxIfInBounds k=(its.eraseIdx k).toArray
  rw[List.eraseIdxIfInBounds_toArray]
 ·have:=zin xs k
  omega
def rCat:R2:=fun x y H Q=>∃ l b xs zs,x=.ref l/\y=.ref b/\H l=some (.lst xs)/\H b=some (.lst zs)/\xs.length+zs.length<=sizeLine/\∀ p,H p=none->Q (.ref p) (upd H p (.lst (xs++zs)))
theorem zsp:OpR X (binaryOp .Add) rCat:=by
 intro pins s σ H x y v u Q I rx ry h
 obtain ⟨l,b,xs,zs,rfl,rfl,hH,hB,hz,q⟩:=h
 cases rx
 cases ry
 obtain ⟨z,its,n,r,hl,e⟩:=I.lstM hH
 obtain ⟨z2,its2,n2,r2,hl2,e2⟩:=I.lstM hB
 refine PySem.P.add_list e e2 ?_ (by rw[List.size_toArray,List.size_toArray];omega)
 have ea:its.toArray++its2.toArray=(its++its2).toArray:=by simp
 rw[ea]
 exact ⟨.ref _,_,I.lnew (t':=s.toks) (r.append r2) (by rw[List.length_append];omega),rfl,q _ I.fresh⟩
end
section
variable{prog:Program}{w:World}{A:Around}{E:Value->Shared->Prop}{s:Shared}
set_option maxRecDepth 100000 in
end
section
variable{X:Cx}
end
end L2
namespace Att
open PySem PySem.W PySem.Calls PyProof.Rows
theorem zf6{P:Params}{h:Heap}:∀(ns:List Int)(vs:List Value),WellAll P h vs (ns.map WData.int)->IntsAre vs ns:=by
 intro ns
 induction ns with
 |nil =>
  intro vs w
  rw[List.map_nil] at w
  cases w
  exact .nil
 |cons n ns ih =>
  intro vs w
  rw[List.map_cons] at w
  cases w with
  |cons a b =>
   cases a
   exact .cons _ _ (ih _ b)
theorem zkX{l:OpenLaw}{n:Nat}(hn:l.most=some n){P:Params}{h:Heap}{args:List WData}{vals:List Value}
  (hpre:l.row.toRowW.claim.pre args=true) (hwl:WellAll P h vals args) :
  ∃ a vs ns,vals=[Value.ref a]/\args=[WData.list (ns.map WData.int)]/\h.get? a=some { cls:=.type "list",data:=.seq vs.toArray }/\IntsAre vs ns/\ns.length<=n:=by
 have hsh:WShape.hasAll [] args [.list .int]=true:=(pre_splitW hpre).1
 have hc:l.pre.holds [] { args:=args }=true:=(pre_splitW hpre).2
 obtain ⟨d,r,rfl,h1,h2⟩:=hasAllW_cons hsh
 obtain rfl:=hasAllW_nil h2
 obtain ⟨xs,rfl,h3⟩:=hasW_list h1
 obtain ⟨ns,rfl⟩:=items_int h3
 have hlen:ns.length<=n:=by
  unfold OpenLaw.pre at hc
  have h4:(WTm.not (.lt (.lit (.int (n:Int))) (.len (.arg 0)))).holds [] { args:=[.list (ns.map .int)] }=true:=by
   have h4:=(holds_andW hc).1
   rw[hn] at h4
   exact h4
  have h5:=condW_of h4 (w_not (w_lt w_lit (w_len_list (w_arg rfl))))
  rw[List.length_map] at h5
  refine Nat.le_of_not_lt fun q=>?_
  have q':(n:Int)<((ns.length:Nat):Int):=by omega
  first
   | (rw[decide_eq_true q'] at h5;exact absurd h5 (by decide))
   | (simp at h5;omega)
 cases hwl with
 |cons w1 w2 =>
  cases w2
  cases w1 with
  |list ho hall=>exact ⟨_,_,ns,rfl,rfl,ho,zf6 ns _ hall,hlen⟩
theorem zlj(l:OpenLaw)(args:List WData):l.row.toRowW.claim.post args (.bool true) args=true :=
 postW_of (r:=l.row.toRowW) (X:=(true == true))
  (show WShape.has [] (.bool true) .bool=true by first|rfl|decide|simp[WShape.has,WShape.arms,WShape.armsAll])
  (show (WTm.eq .res (.lit (.bool true))).value [] { args:=args,res:=some (.bool true),after:=args }=some (.bool (true == true)) from w_eq_bool (w_res rfl) w_lit) rfl
theorem attach_call{l:OpenLaw}{n:Nat}{q:Program}{loose:List Str}{XP:(Str->Option Value)->Heap->Prop}{YP:World->Heap->Prop}{d:DefRec}
  (hn:l.most=some n) (hdf:d.params.defaults=[])
  (call:∀(w:World)(s₀ s₁:Shared)(mg mb:Str->Option Value)(fa:Addr)(o:Obj)(pm cd doc:Value)(a:Addr)(vs:List Value)(ns:List Int),
   Ground q loose [] XP w s₀ mg mb s₁.heap->YP w s₁.heap ->
   s₁.heap.get? fa=some o->o.data=.func (docDef d.name d.params d.body d.scope pm cd doc)->s₁.heap.CodeRec cd d.name->mg d.name=some (.ref fa) ->
   s₁.heap.get? a=some { cls:=.type "list",data:=.seq vs.toArray }->IntsAre vs ns->ns.length<=n->s₁.gens=#[] ->
   codeAny (model l.prog w) callerA (.call (.ref fa) ⟨[.ref a],[]⟩) (fun r s'=>r=.ok (.ret (.bool true))/\OldK s₁.heap s'.heap/\s'.os=s₁.os/\AllBare s'.gens) s₁) :
  WalkO q loose XP YP l.row.toRowW d [] (fun f vs=>PySem.call f vs):=by
 intro w s₀ s₁ mg mb G Y fa o pm cd doc dV kV ho hd hcd hD hmg hg args vals as hpre hlay hrd hwl hlo
 obtain rfl:dV=.none:=Dflts.none hD hdf
 obtain rfl:kV=.none:=Dflts.noKw hD
 obtain ⟨a,vs,ns,rfl,rfl,hobj,hints,hlen⟩:=zkX hn hpre hwl
 refine enter_call (codeAny_mono (call w s₀ s₁ mg mb fa o pm cd doc a vs ns G Y ho (fd_plain hd) hcd hmg hobj hints hlen hg) fun r s' hq=>?_)
 obtain ⟨rfl,h2,h3,h4⟩:=hq
 exact ⟨.inl ⟨.bool true,.bool true,[],rfl,fun _=>rfl,.bool true,zlj l _,fun _=>⟨List.Pairwise.nil,fun _ hm=>(nomatch hm)⟩⟩,h2,h3,h4⟩
section
variable{prog:Program}{w:World}{A:Around}{E:Value->Shared->Prop}{s:Shared}{K:Frag}
end
end Att
namespace L2
open PySem PySem.Spec PyProof.Rows
theorem zdo:∀{vs:List Value}{ns:List Int},IntsAre vs ns->zaM (ns.map V.int) vs
 |_,_,.nil=>.nil
 |_,_,.cons n t h=>.cons ⟨t,rfl⟩ (zdo h)
end L2
namespace L2
open PySem PySem.Spec PyProof.Rows
end L2
namespace L2
open PySem PySem.Spec PyProof.Rows
def zdf(s:Stmt):Arguments:=match s with
 |.FunctionDef _ a _ _ _ _ _ _ _ _=>a
 |_=>{ posonlyargs:=[],args:=[],vararg:=none,kwonlyargs:=[],kw_defaults:=[],kwarg:=none,defaults:=[] }
def zb7(s:Stmt):List Stmt:=match s with
 |.FunctionDef _ _ b _ _ _ _ _ _ _=>b
 |_=>[]
def zag(s:Stmt):Scope:=match s with
 |.FunctionDef _ _ _ _ _ _ sc _ _ _=>sc
 |_=>{ kind:=.function,names:=[],isGenerator:=false,isCoroutine:=false }
abbrev CX0:CXT:=fun _ _ _ _ _ _=>False
structure Fun(K:W.Frag)(x qual:Str)(st:Stmt)(f:Addr)(fd:FuncData):Prop where
 ex:∃(oc:Value)(od:Option Addr)(kV doc pm:Value)(an:Option Addr)(cdv ct:Value)(osl:Array (Option Value)),
  fd=W.fnOf x qual (zdf st) (zb7 st) (zag st) .none kV doc pm an cdv ct/\K.lookup f=some ⟨oc,od,.func fd,osl⟩/\W.codeIn K cdv qual=true
 kp:W.keepIn K (.ref f)=true
section
variable{P:Program}{w:World}{K:W.Frag}{mg:Str->Option Value}{base:Heap}
theorem Fun.ok{x qual:Str}{st:Stmt}{f:Addr}{fd:FuncData}{N ps:List Str}{k:Nat}{sp:Sp}(F:Fun K x qual st f fd)(S:zav N ps (zag st))(len:∀ vs H Q E,sp vs H Q E->vs.length=ps.length)
  (hbody:∀(cdv:Value)(A:Around)(outer:List Env)(s:Shared)(H:Hp)(vs:List V)(Q:VK)(E:XK),zcg k (A.deeper (envOfC qual (zag st) s.heap.objs.size f cdv))->sp vs H Q E ->
   ∃ t,PSs (zit CX0 P w K mg base N qual (zag st) f cdv A outer s H E).nox (zb7 st) t/\t { nx:=fun _ H'=>Q .non H',rt:=Q } (start N vs) H):zf1 P w K mg base CX0 (k+1) f fd ps sp:=by
 obtain ⟨oc,od,kV,doc,pm,an,cdv,ct,osl,rfl,lk,hcd⟩:=F.ex
 refine znl lk hcd S len fun A outer s H vs Q E hr hsp=>?_
 obtain ⟨t,h,q⟩:=hbody cdv A outer s H vs Q E hr hsp
 exact ⟨t,h.nox,q⟩
theorem Fun.binds{x qual:Str}{st:Stmt}{f:Addr}{fd:FuncData}{ps:List Str}(F:Fun K x qual st f fd)
  (h:∀(kV doc pm:Value)(an:Option Addr)(cdv ct:Value)(us:List Value),us.length=ps.length->bindArgs (W.fnOf x qual (zdf st) (zb7 st) (zag st) .none kV doc pm an cdv ct) ⟨us,[]⟩=pure (ps.zip us)):zfB K fd ps []:=by
 obtain ⟨oc,od,kV,doc,pm,an,cdv,ct,osl,rfl,lk,hcd⟩:=F.ex
 exact .all (h kV doc pm an cdv ct)
theorem zmy{x qual:Str}{st:Stmt}{f:Addr}{oc:Value}{od an:Option Addr}{osl:Array (Option Value)}{kV doc pm cdv ct:Value}(l:K.lookup f=some ⟨oc,od,.func (W.fnOf x qual (zdf st) (zb7 st) (zag st) .none kV doc pm an cdv ct),osl⟩)
  (c:W.codeIn K cdv qual=true) (k:W.keepIn K (.ref f)=true):Fun K x qual st f (W.fnOf x qual (zdf st) (zb7 st) (zag st) .none kV doc pm an cdv ct):=⟨⟨oc,od,kV,doc,pm,an,cdv,ct,osl,rfl,l,c⟩,k⟩
end
section
variable{X:Cx}
end
theorem iteF{A B:Prop}(h:B):if false=true then A else B:=by
 rw[if_neg Bool.false_ne_true]
 exact h
theorem iteT{A B:Prop}(h:A):if true=true then A else B:=by
 rw[if_pos rfl]
 exact h
def zcf(H H':Hp):Prop:=∀ b o,H b=some o->H' b=some o
theorem zcf.refl(H:Hp):zcf H H:=fun _ _ h=>h
theorem zcf.trans{H H1 H2:Hp}(a:zcf H H1)(b:zcf H1 H2):zcf H H2:=fun c o h=>b c o (a c o h)
theorem zcf.free{H H':Hp}(e:zcf H H'){l:Addr}(h:H' l=Option.none):H l=Option.none:=by
 cases q:H l with
 |none=>rfl
 |some o =>
  rw[e l o q] at h
  cases h
theorem zcf.seq{K:W.Frag}{H H':Hp}{a:Addr}{xs:List V}(e:zcf H H')(h:SqL K H a xs):SqL K H' a xs:=by
 rcases h with (h|⟨o,h⟩)|h
 ·exact .inl (.inl (e _ _ h))
 ·exact .inl (.inr ⟨o,e _ _ h⟩)
 ·exact .inr h
section
variable{κ:Type} [DecidableEq κ]
def zj6(kvs:List (κ×V))(k:κ):Option V:=(kvs.find? fun kv=>decide (kv.1=k)).map (·.2)
def zig(kvs:List (κ×V))(k:κ)(v:V):List (κ×V) :=
 if (kvs.any fun kv=>decide (kv.1=k))=true then kvs.map (fun kv=>if kv.1=k then (kv.1,v) else kv) else kvs++[(k,v)]
def zr3(kvs:List (κ×V))(k:κ):List (κ×V):=kvs.filter fun kv=>decide (kv.1≠k)
theorem zfk{p:κ×V}{r:List (κ×V)}{k:κ}(e:p.1=k):zj6 (p::r) k=some p.2:=by simp[zj6,List.find?_cons,e]
theorem zfo{p:κ×V}{r:List (κ×V)}{k:κ}(e:¬ p.1=k):zj6 (p::r) k=zj6 r k:=by simp[zj6,List.find?_cons,e]
theorem zgD(k:κ):∀ kvs:List (κ×V),(kvs.any fun kv=>decide (kv.1=k))=(zj6 kvs k).isSome
 |[]=>rfl
 |p::r=>by
  rw[List.any_cons]
  by_cases e:p.1=k
  ·simp only[zfk e,decide_eq_true e,Bool.true_or,Option.isSome_some]
  ·rw[zfo e,decide_eq_false e,Bool.false_or];exact zgD k r
theorem zdN(kvs:List (κ×V))(k:κ)(v:V):(zig kvs k v).length<=kvs.length+1:=by
 unfold zig
 split
 ·rw[List.length_map];omega
 ·rw[List.length_append,List.length_cons,List.length_nil];omega
theorem zkF.isSome_eq{o:Option V}{u:Option Value}(r:zkF o u):o.isSome=u.isSome:=by
 cases o with
 |none=>cases u with
  |none=>rfl
  |some _=>exact (show False from r).elim
 |some _=>cases u with
  |none=>exact (show False from r).elim
  |some _=>rfl
theorem zkF.getD{o:Option V}{u:Option Value}{d:V}{d':Value}(r:zkF o u)(rd:zaF d d'):zaF (o.getD d) (u.getD d'):=by
 cases o with
 |none=>cases u with
  |none=>exact rd
  |some _=>exact (show False from r).elim
 |some _=>cases u with
  |none=>exact (show False from r).elim
  |some _=>exact r
theorem KV.val{kvs:List (κ×V)}{vs:List (κ×Value)}(r:KV kvs vs)(k:κ):zkF (zj6 kvs k) (valueAt vs k):=by
 unfold KV at r
 induction r with
 |nil=>exact True.intro
 |@cons p q ps qs h t ih =>
  obtain ⟨h1,h2⟩:=h
  by_cases e:p.1=k
  ·have e':q.1=k:=h1.symm.trans e
   have b:valueAt (q::qs) k=some q.2:=by simp[valueAt,List.find?_cons,e']
   rw[zfk e,b];exact h2
  ·have e':¬ q.1=k:=fun z=>e (h1.trans z)
   have b:valueAt (q::qs) k=valueAt qs k:=by simp[valueAt,List.find?_cons,e']
   rw[zfo e,b];exact ih
theorem KV.any{kvs:List (κ×V)}{vs:List (κ×Value)}(r:KV kvs vs)(k:κ):(kvs.any fun kv=>decide (kv.1=k))=vs.any fun kv=>decide (kv.1=k):=by
 unfold KV at r
 induction r with
 |nil=>rfl
 |cons h t ih=>rw[List.any_cons,List.any_cons,ih,h.1]
theorem KV.repl{kvs:List (κ×V)}{vs:List (κ×Value)}(r:KV kvs vs)(k:κ){y:V}{u:Value}(ry:zaF y u) :
  KV (kvs.map fun kv=>if kv.1=k then (kv.1,y) else kv) (vs.map fun kv=>if kv.1=k then (kv.1,u) else kv):=by
 unfold KV at r ⊢
 induction r with
 |nil=>exact .nil
 |@cons p q ps qs h t ih =>
  rw[List.map_cons,List.map_cons]
  refine .cons ?_ ih
  obtain ⟨h1,h2⟩:=h
  by_cases e:p.1=k
  ·rw[if_pos e,if_pos (h1.symm.trans e)];exact ⟨h1,ry⟩
  ·rw[if_neg e,if_neg (fun z=>e (h1.trans z))];exact ⟨h1,h2⟩
theorem KV.put{kvs:List (κ×V)}{vs:List (κ×Value)}(r:KV kvs vs)(k:κ){y:V}{u:Value}(ry:zaF y u):KV (zig kvs k y) (stored vs k u):=by
 unfold zig stored
 rw[r.any k]
 by_cases e:(vs.any fun kv=>decide (kv.1=k))=true
 ·rw[if_pos e,if_pos e];exact r.repl k ry
 ·rw[if_neg e,if_neg e];exact Paired.snoc r ⟨rfl,ry⟩
theorem KV.drop{kvs:List (κ×V)}{vs:List (κ×Value)}(r:KV kvs vs)(k:κ):KV (zr3 kvs k) (without vs k):=by
 unfold KV at r ⊢
 unfold zr3 without
 induction r with
 |nil=>exact .nil
 |@cons p q ps qs h t ih =>
  obtain ⟨h1,h2⟩:=h
  rw[List.filter_cons,List.filter_cons]
  by_cases e:p.1=k
  ·have a:¬ decide (p.1≠k)=true:=by simp[e]
   have b:¬ decide (q.1≠k)=true:=by simp[h1.symm.trans e]
   rw[if_neg a,if_neg b];exact ih
  ·have e':¬ q.1=k:=fun z=>e (h1.trans z)
   have a:decide (p.1≠k)=true:=by simp[e]
   have b:decide (q.1≠k)=true:=by simp[e']
   rw[if_pos a,if_pos b];exact .cons ⟨h1,h2⟩ ih
theorem KV.length{kvs:List (κ×V)}{vs:List (κ×Value)}(r:KV kvs vs):kvs.length=vs.length:=Paired.length r
end
theorem zhZ{P:Program}{w:World}{k:Key}{u:Value}(r:zaF (kV k) u):(zaR P w).is k u=true:=by
 cases k with
 |inl i=>obtain ⟨t,e⟩:=(show ∃ t,u=Value.int i t from r);subst e;exact zi5 P w i t
 |inr x=>obtain ⟨t,e⟩:=(show ∃ t,u=Value.str x t from r);subst e;exact zjj P w x t
theorem zhz{P:Program}{w:World}:∀{ks:List Key}{us:List Value},zaM (ks.map kV) us->ItemsAre (zaR P w) ks us
 |[],_,r=>by rw[List.map_nil] at r;cases r;exact .nil
 |k::ks,_,r=>by
  rw[List.map_cons] at r
  cases r with
  |cons h t=>exact .cons (zhZ h) (zhz t)
abbrev KT(H:Hp):List (List Key×V)->List (List Key×Addr×Value)->Prop:=Paired fun p q=>p.1=q.1/\H q.2.1=some (.tup (p.1.map kV))/\zaF p.2 q.2.2
theorem KT.val{H:Hp}{kvs:List (List Key×V)}{xs:List (List Key×Addr×Value)}(r:KT H kvs xs)(k:List Key):zkF (zj6 kvs k) ((atKey xs k).map (·.2)):=by
 induction r with
 |nil=>exact True.intro
 |@cons p q ps qs h t ih =>
  obtain ⟨h1,_,h2⟩:=h
  by_cases e:p.1=k
  ·have e':q.1=k:=h1.symm.trans e
   have b:atKey (q::qs) k=some q.2:=by simp[atKey,List.find?_cons,e']
   rw[zfk e,b];exact h2
  ·have e':¬ q.1=k:=fun z=>e (h1.trans z)
   have b:atKey (q::qs) k=atKey qs k:=by simp[atKey,List.find?_cons,e']
   rw[zfo e,b];exact ih
theorem KT.repl{H:Hp}{kvs:List (List Key×V)}{xs:List (List Key×Addr×Value)}(r:KT H kvs xs)(k:List Key){y:V}{u:Value}(ry:zaF y u) :
  KT H (kvs.map fun kv=>if kv.1=k then (kv.1,y) else kv) (xs.map (putAt k u)):=by
 induction r with
 |nil=>exact .nil
 |@cons p q ps qs h t ih =>
  rw[List.map_cons,List.map_cons]
  refine .cons ?_ ih
  obtain ⟨h1,h2,h3⟩:=h
  unfold putAt
  by_cases e:p.1=k
  ·rw[if_pos e,if_pos (h1.symm.trans e)];exact ⟨h1,h2,ry⟩
  ·rw[if_neg e,if_neg (fun z=>e (h1.trans z))];exact ⟨h1,h2,h3⟩
theorem KT.put{H:Hp}{kvs:List (List Key×V)}{xs:List (List Key×Addr×Value)}(r:KT H kvs xs)(k:List Key){b:Addr}{y:V}{u:Value}(hb:H b=some (.tup (k.map kV)))(ry:zaF y u) :
  KT H (zig kvs k y) (storedH xs k b u):=by
 have e:(kvs.any fun kv=>decide (kv.1=k))=(atKey xs k).isSome:=by
  rw[zgD,(r.val k).isSome_eq,Option.isSome_map]
 unfold zig storedH
 rw[e]
 by_cases q:(atKey xs k).isSome=true
 ·rw[if_pos q,if_pos q];exact r.repl k ry
 ·rw[if_neg q,if_neg q];exact Paired.snoc r ⟨rfl,hb,ry⟩
theorem KT.keeps{H H':Hp}{kvs:List (List Key×V)}{xs:List (List Key×Addr×Value)}(r:KT H kvs xs)(ht:∀ b ys,H b=some (.tup ys)->H' b=some (.tup ys)):KT H' kvs xs :=
 Paired.mapP r fun _ _ z=>⟨z.1,ht _ _ z.2.1,z.2.2⟩
section
variable{P:Program}{w:World}{H:Hp}{h:Heap}{a:Addr}
theorem zrL{u:HO}(ok:HOk P w H h)(e:Rd H a u):zbw P w H h a u:=e.ok ok
theorem zh9{kvs:List (Key×V)}(ok:HOk P w H h)(e:Rd H a (.dK kvs)):kvs.length<=sizeLine/\(a == sysModules)=false/\∃ vs,KV kvs vs/\h.DictOf (zaR P w) a vs :=
 show zbw P w H h a (.dK kvs) from zrL ok e
theorem zqI{kvs:List (Key×V)}(ok:HOk P w H h)(e:H a=some (.dK kvs)):kvs.length<=sizeLine/\(a == sysModules)=false/\∃ vs,KV kvs vs/\h.DictOf (zaR P w) a vs:=zh9 ok (.inl e)
theorem zfN{ks:List Key}(ok:HOk P w H h)(e:H a=some (.tup (ks.map kV))):(tupleKind (zaR P w)).is h ks a:=by
 obtain ⟨_,its,r,n,h1⟩:=(show zbw P w H h a (.tup (ks.map kV)) from ok a _ e)
 exact ⟨_,its.toArray,n,h1,rfl,rfl,by simpa using zhz r⟩
theorem zii{kvs:List (List Key×V)}(ok:HOk P w H h)(e:Rd H a (.dT kvs)):kvs.length<=sizeLine/\(a == sysModules)=false /\
  ∃ xs,KT H kvs xs/\h.DictOfH (tupleKind (zaR P w)) a xs:=by
 obtain ⟨z,y,xs,r,o,es,ep,h1,h2,h3,h4,h5⟩:=(show zbw P w H h a (.dT kvs) from zrL ok e)
 refine ⟨z,y,xs,r,o,es,ep,h1,h2,h3,h4,fun x hx=>?_,h5⟩
 have all:∀{l:List (List Key×V)}{m:List (List Key×Addr×Value)},KT H l m->∀ x∈m,(tupleKind (zaR P w)).is h x.1 x.2.1:=by
  intro l m q
  induction q with
  |nil=>intro x hx;exact nomatch hx
  |@cons p q ps qs hq t ih =>
   intro x hx
   rcases List.mem_cons.mp hx with e|hx
   ·subst e
    exact zfN ok (by rw[<- hq.1];exact hq.2.1)
   ·exact ih x hx
 exact all r x hx
theorem ztp{kvs:List (List Key×V)}(ok:HOk P w H h)(e:H a=some (.dT kvs)):kvs.length<=sizeLine/\(a == sysModules)=false /\
  ∃ xs,KT H kvs xs/\h.DictOfH (tupleKind (zaR P w)) a xs:=zii ok (.inl e)
end
def zgy(H:Hp)(a:Addr)(y:V)(r:Option V):Prop :=
 (∃ kvs k,Rd H a (.dK kvs)/\y=kV k/\r=zj6 kvs k)\/∃ kvs k b,Rd H a (.dT kvs)/\y=.ref b/\H b=some (.tup (k.map kV))/\r=zj6 kvs k
def zqD(H:Hp)(a:Addr)(y v:V)(H':Hp):Prop :=
 (∃ kvs k,H a=some (.dK kvs)/\y=kV k/\kvs.length<sizeLine/\H'=upd H a (.dK (zig kvs k v))) \/
 ∃ kvs k b,H a=some (.dT kvs)/\y=.ref b/\H b=some (.tup (k.map kV))/\kvs.length<sizeLine/\H'=upd H a (.dT (zig kvs k v))
theorem zgy.k{H:Hp}{a:Addr}{kvs:List (Key×V)}{k:Key}(e:H a=some (.dK kvs)):zgy H a (kV k) (zj6 kvs k):=.inl ⟨kvs,k,.inl e,rfl,rfl⟩
theorem zqD.k{H:Hp}{a:Addr}{kvs:List (Key×V)}{k:Key}{v:V}(e:H a=some (.dK kvs))(hl:kvs.length<sizeLine):zqD H a (kV k) v (upd H a (.dK (zig kvs k v))):=.inl ⟨kvs,k,e,rfl,hl,rfl⟩
section
variable{X:Cx}{pins:List (Addr×Obj)}{σ:St}{H:Hp}{s:Shared}{a:Addr}{y v:V}{u r:Value}{o:Option V}{A:Around}{E:Value->Shared->Prop}
theorem Inv.big(I:Inv X pins σ H s):sysModules<s.heap.objs.size:=by
 have h:mainGlobals<s.heap.objs.size:=(I.mod.glob.keeps I.bk).lt
 exact Nat.lt_trans (by decide) h
theorem zlI{Q:Value->Shared->Prop}(hu:A.units+1<cLine)(I:Inv X pins σ H s)(g:zgy H a y (some v))(ry:zaF y u)(h:∀ w' s',Inv X pins σ H s'->zaF v w'->Q w' s') :
  wpAny (model X.prog X.w) A (getItem (.ref a) u) Q E s:=by
 rcases g with ⟨kvs,k,e,ey,l⟩|⟨kvs,k,b,e,ey,eb,l⟩
 ·subst ey
  obtain ⟨z,hd,vs,rel,dd⟩:=zh9 I.hok e
  obtain ⟨w',hw,rw'⟩:=zkF.some_of (v:=v) (o:=valueAt vs k) (by rw[l];exact rel.val k)
  exact wpAny_getItem_of (zhZ ry) dd.mapOf hw (h w' _ (I.tok _) rw')
 ·subst ey
  cases (show u=Value.ref b from ry)
  obtain ⟨z,hd,xs,rel,dd⟩:=zii I.hok e
  obtain ⟨w',hw,rw'⟩:=zkF.some_of (v:=v) (o:=(atKey xs k).map (·.2)) (by rw[l];exact rel.val k)
  obtain ⟨p,hp,hp2⟩:=Option.map_eq_some_iff.mp hw
  refine wpAny_getItem_heap (tupleKind_room_in1 hu) (zfN I.hok eb) dd hp ?_
  rw[hp2]
  exact h w' _ (I.tok _) rw'
theorem d_in{Q:Value->Shared->Prop}(hu:A.units+1<cLine)(I:Inv X pins σ H s)(g:zgy H a y o)(ry:zaF y u)(h:∀ s',Inv X pins σ H s'->Q (.bool o.isSome) s') :
  wpAny (model X.prog X.w) A (compareOp .In u (.ref a)) Q E s:=by
 rcases g with ⟨kvs,k,e,ey,l⟩|⟨kvs,k,b,e,ey,eb,l⟩
 ·subst ey
  obtain ⟨z,hd,vs,rel,dd⟩:=zh9 I.hok e
  refine wpAny_in_of (zhZ ry) hd dd.mapOf ?_
  rw[<- (rel.val k).isSome_eq,<- l]
  exact h _ (I.tok _)
 ·subst ey
  cases (show u=Value.ref b from ry)
  obtain ⟨z,hd,xs,rel,dd⟩:=zii I.hok e
  refine wpAny_in_heap (tupleKind_room_in1 hu) (zfN I.hok eb) hd dd ?_
  have q:=(rel.val k).isSome_eq
  rw[Option.isSome_map] at q
  rw[<- q,<- l]
  exact h _ (I.tok _)
theorem zpA{Q:Value->Shared->Prop}(hu:A.units+1<cLine)(I:Inv X pins σ H s)(g:zgy H a y o)(ry:zaF y u)(h:∀ s',Inv X pins σ H s'->Q (.bool (!o.isSome)) s') :
  wpAny (model X.prog X.w) A (compareOp .NotIn u (.ref a)) Q E s:=by
 rcases g with ⟨kvs,k,e,ey,l⟩|⟨kvs,k,b,e,ey,eb,l⟩
 ·subst ey
  obtain ⟨z,hd,vs,rel,dd⟩:=zh9 I.hok e
  refine wpAny_notIn_of (zhZ ry) hd dd.mapOf ?_
  rw[<- (rel.val k).isSome_eq,<- l]
  exact h _ (I.tok _)
 ·subst ey
  cases (show u=Value.ref b from ry)
  obtain ⟨z,hd,xs,rel,dd⟩:=zii I.hok e
  refine wpAny_notIn_heap (tupleKind_room_in1 hu) (zfN I.hok eb) hd dd ?_
  have q:=(rel.val k).isSome_eq
  rw[Option.isSome_map] at q
  rw[<- q,<- l]
  exact h _ (I.tok _)
theorem zjc{h':Heap}{t':Nat}{ob:HO}(I:Inv X pins σ H s)(mu:Mut (H a))(hs:Heap.SameBut a s.heap h')(he:∃ q,h'.get? a=some q)(new:zbw X.prog X.w (upd H a ob) h' a ob) :
  Inv X pins σ (upd H a ob) { s with heap:=h',toks:=t' } :=
 I.write (x:=a) (e:=a) mu (.inl rfl) (fun b q hb z=>(hs.2 b hb).trans z) he new
theorem zov{P:Program}{w:World}{H':Hp}{h':Heap}{kvs:List (Key×V)}{vs:List (Key×Value)}(z:kvs.length<=sizeLine)(hd:(a == sysModules)=false)(rel:KV kvs vs)(dd:h'.DictOf (zaR P w) a vs) :
  zbw P w H' h' a (.dK kvs):=⟨z,hd,vs,rel,dd⟩
theorem zm4{H':Hp}{Q:Unit->Shared->Prop}(hu:A.units+1<cLine)(I:Inv X pins σ H s)(g:zqD H a y v H')(ry:zaF y u)(rv:zaF v r)(h:∀ s',Inv X pins σ H' s'->Q () s') :
  wpAny (model X.prog X.w) A (setItem (.ref a) u r) Q E s:=by
 rcases g with ⟨kvs,k,e,ey,l,eH⟩|⟨kvs,k,b,e,ey,eb,l,eH⟩
 ·subst ey eH
  obtain ⟨z,hd,vs,rel,dd⟩:=zqI I.hok e
  have hz:vs.length<=sizeLine:=by rw[<- rel.length];exact z
  have hl:(zig kvs k v).length<=sizeLine:=by have:=zdN kvs k v;omega
  refine wpAny_setItem_pairs (hsz:=hz) (zhZ ry) dd fun h' dd' hs=>h _ ?_
  have he:∃ q,h'.get? a=some q:=let ⟨q,_,_,hq,_⟩:=dd';⟨q,hq⟩
  exact zjc I (by rw[e];exact True.intro) hs he (zov hl hd (rel.put k rv) dd')
 ·subst ey eH
  cases (show u=Value.ref b from ry)
  obtain ⟨z,hd,xs,rel,dd⟩:=ztp I.hok e
  have hz:xs.length<=sizeLine:=by rw[<- Paired.length rel];exact z
  have hl:(zig kvs k v).length<=sizeLine:=by have:=zdN kvs k v;omega
  refine wpAny_setItem_heap (hsz:=hz) (tupleKind_room_in1 hu) (zfN I.hok eb) dd fun h' dd' hs=>h _ ?_
  obtain ⟨q,es,ep,hq,h2,h3,h4,_,h5⟩:=dd'
  refine zjc I (by rw[e];exact True.intro) hs ⟨q,hq⟩ ⟨hl,hd,_,(rel.put k eb rv).keeps fun c ys ec=>?_,q,es,ep,hq,h2,h3,h4,h5⟩
  rw[zad (zsX ec e (fun z=>nomatch z))]
  exact ec
end
section
variable{X:Cx}{pins:List (Addr×Obj)}{σ:St}{H:Hp}{s:Shared}{a:Addr}{kvs:List (Key×V)}{k:Key}{u:Value}{A:Around}{E:Value->Shared->Prop}
end
def zsx(i:Expr):Prop:=∀ ov iv,subscripted i false ov iv=operate [ov,iv] (getItem ov iv)
theorem zpJ{prog:Program}{w:World}{A:Around}{E:Value->Shared->Prop}{s:Shared}{env:Env}{value slice:Expr}{pos:Pos}{T id:String}{Q:Value->Shared->Prop}
  (hl:typeLookup (.type T) "__getitem__"=pure (some (.builtin id))) (hs:zsx slice)
  (h:wpAny (model prog w) A (eval value env) (fun o s₁=>wpAny (model prog w) A (eval slice env) (fun i s₂=>s₂.TypeIs o T/\wpAny (model prog w) A (getItem o i) Q E s₂) E s₁) E s) :
  wpAny (model prog w) A (eval (.Subscript value slice pos) env) Q E s:=by
 refine Subscript_ (wpAny_mono h (fun o s₁ h₁=>wpAny_mono h₁ (fun i s₂ h₂=>?_) fun _ _ x=>x) fun _ _ x=>x)
 obtain ⟨hT,h₂⟩:=h₂
 unfold subscriptTail
 refine wpAny_bind ?_
 rw[getitemInPython_of_ne hT.not_modules]
 refine wpAny_bind (wpAny_specialOf hT hl ?_)
 have fin:wpAny (model prog w) A (subscripted slice false o i) (fun r s₃=>wpAny (model prog w) A (letTemporaryGo value o r >>= fun _=>pure r) Q E s₃) E s₂:=by
  rw[hs o i]
  exact wpAny_operating (wpAny_mono h₂ (fun r s₃ h₃=>wpAny_bind (wpAny_letTemporaryGo (wpAny_pure h₃))) fun _ _ x=>x)
 first
  |exact wpAny_pure (wpAny_bind fin)
  |exact wpAny_bind (wpAny_pure (wpAny_bind fin))
  |exact wpAny_bind fin
theorem ziK{X:Cx}{pins:List (Addr×Obj)}{σ:St}{H:Hp}{s:Shared}{a:Addr}{y:V}{o:Option V}(I:Inv X pins σ H s)(g:zgy H a y o):s.TypeIs (.ref a) "dict":=by
 rcases g with ⟨kvs,k,e,_,_⟩|⟨kvs,k,b,e,_,_,_⟩
 ·obtain ⟨_,_,vs,_,dd⟩:=zh9 I.hok e
  exact dd.typeIs
 ·obtain ⟨_,_,xs,_,dd⟩:=zii I.hok e
  exact dd.typeIs
def zth(td ty:TE):TE:=fun σ H Q=>td σ H fun x H1=>ty σ H1 fun y H2=>∃ a v,x=.ref a/\zgy H2 a y (some v)/\Q v H2
def tDIn(ty td:TE):TE:=fun σ H Q=>ty σ H fun y H1=>td σ H1 fun x H2=>∃ a o,x=.ref a/\zgy H2 a y o/\Q (.bl o.isSome) H2
def zpa(ty td:TE):TE:=fun σ H Q=>ty σ H fun y H1=>td σ H1 fun x H2=>∃ a o,x=.ref a/\zgy H2 a y o/\Q (.bl (!o.isSome)) H2
def zsJ(td ty tv:TE):TS:=fun D σ H=>tv σ H fun v H1=>td σ H1 fun x H2=>ty σ H2 fun y H3=>∃ a H4,x=.ref a/\zqD H3 a y v H4/\D.nx σ H4
section
variable{X:Cx}{o i e value:Expr}{pos pos' tpos:Pos}{td ty tv:TE}
theorem zm9(hu:X.A.units+1<cLine)(ho:PE X o td)(hi:PE X i ty)(hs:zsx i):PE X (.Subscript o i pos) (zth td ty):=by
 intro pins s σ H Q I h
 refine zpJ PySem.F.slot_dict_getitem.lookup hs (thn (ho pins s σ H _ I h) fun u s1 ⟨x,H1,I1,rx,q1⟩=>thn (hi pins s1 σ H1 _ I1 q1) fun iv s2 ⟨y,H2,I2,ry,a,v,ex,g,q2⟩=>?_)
 subst ex
 obtain rfl:u=Value.ref a:=rx
 exact ⟨ziK I2 g,zlI hu I2 g ry fun w' s3 I3 rw'=>⟨v,H2,I3,rw',q2⟩⟩
theorem zrn(hu:X.A.units+1<cLine)(hi:PE X i ty)(ho:PE X o td):PC X .In i o (tDIn ty td):=by
 intro pins s σ H Q I h
 refine thn (hi pins s σ H _ I h) fun iv s1 ⟨y,H1,I1,ry,q1⟩=>thn (ho pins s1 σ H1 _ I1 q1) fun u s2 ⟨x,H2,I2,rx,a,ov,ex,g,q2⟩=>?_
 subst ex
 obtain rfl:u=Value.ref a:=rx
 exact d_in hu I2 g ry fun s3 I3=>⟨.bl ov.isSome,H2,I3,rfl,q2⟩
theorem zhA(hu:X.A.units+1<cLine)(hi:PE X i ty)(ho:PE X o td):PC X .NotIn i o (zpa ty td):=by
 intro pins s σ H Q I h
 refine thn (hi pins s σ H _ I h) fun iv s1 ⟨y,H1,I1,ry,q1⟩=>thn (ho pins s1 σ H1 _ I1 q1) fun u s2 ⟨x,H2,I2,rx,a,ov,ex,g,q2⟩=>?_
 subst ex
 obtain rfl:u=Value.ref a:=rx
 exact zpA hu I2 g ry fun s3 I3=>⟨.bl (!ov.isSome),H2,I3,rfl,q2⟩
theorem zoR(hu:X.A.units+1<cLine)(ho:PE X o td)(hi:PE X i ty)(hv:PE X value tv)(hs:swapsWith value (some (.Subscript o i pos')) pos.line X.env=pure false) :
  PS X (.Assign [.Subscript o i pos'] value pos) (zsJ td ty tv):=by
 intro pins s σ H D I h
 refine wpAny_Assign_Subscript (thn (hv pins s σ H _ I h) fun r s1 ⟨v,H1,I1,rv,q1⟩=>thn (ho pins s1 σ H1 _ I1 q1) fun u s2 ⟨x,H2,I2,rx,q2⟩=>thn (hi pins s2 σ H2 _ I2 q2) fun iv s3 ⟨y,H3,I3,ry,a,H4,ex,g,q3⟩=>?_) hs
 subst ex
 obtain rfl:u=Value.ref a:=rx
 exact zm4 hu I3 g ry rv fun s4 I4=>⟨σ,H4,I4,q3⟩
end
theorem zno{P:Program}{w:World}{H:Hp}(h:Heap)(hb:sysModules<h.objs.size):zbw P w H (h.push { cls:=.type "dict",data:=.dict #[] }) h.objs.size (.dK []) :=
 ⟨Nat.zero_le _,beq_eq_false_iff_ne.mpr (Ne.symm (Nat.ne_of_lt hb)),[],.nil,Heap.DictOf.new h⟩
section
variable{X:Cx}{pos:Pos}
end
def zg4:List (TE×TE)->St->Hp->(List (V×V)->Hp->Prop)->Prop
 |[],_,H,Q=>Q [] H
 | (tk,tv)::r,σ,H,Q=>tk σ H fun x H1=>tv σ H1 fun y H2=>zg4 r σ H2 fun ps H3=>Q ((x,y)::ps) H3
abbrev VV:List (V×V)->List (Value×Value)->Prop:=Paired fun p q=>zaF p.1 q.1/\zaF p.2 q.2
def PPs(X:Cx)(pos:Pos)(keys:List (Option Expr))(values:List Expr)(trs:List (TE×TE)):Prop :=
 ∀(pins:List (Addr×Obj))(s:Shared)(σ:St)(H:Hp)(Q:List (V×V)->Hp->Prop),Inv X pins σ H s->zg4 trs σ H Q ->
  wpAny (model X.prog X.w) X.A (evalPairs (pairTrees keys values X.env pos)) (fun vs s'=>∃ ps H',Inv X pins σ H' s'/\VV ps vs/\Q ps H') X.xe s
theorem zoW{X:Cx}{pos:Pos}:PPs X pos [] [] []:=fun pins s σ H Q I h=>pairTrees_nil_walk ⟨[],H,I,.nil,h⟩
theorem znx{X:Cx}{pos:Pos}{k v:Expr}{ks:List (Option Expr)}{vs:List Expr}{tk tv:TE}{trs:List (TE×TE)}(hk:PE X k tk)(hv:PE X v tv)(hr:PPs X pos ks vs trs) :
  PPs X pos (some k::ks) (v::vs) ((tk,tv)::trs):=fun pins s σ H Q I h =>
 pairTrees_cons_walk (thn (hk pins s σ H _ I h) fun u s1 ⟨x,H1,I1,rx,q1⟩=>thn (hv pins s1 σ H1 _ I1 q1) fun w2 s2 ⟨y,H2,I2,ry,q2⟩ =>
  thn (hr pins s2 σ H2 _ I2 q2) fun ws s3 ⟨ps,H3,I3,rel,q3⟩=>⟨(x,y)::ps,H3,I3,.cons ⟨rx,ry⟩ rel,q3⟩)
def zeR(kvs more:List (Key×V)):List (Key×V):=more.foldl (fun acc kv=>zig acc kv.1 kv.2) kvs
theorem KV.merge:∀{more:List (Key×V)}{rs:List (Key×Value)}{kvs:List (Key×V)}{vs:List (Key×Value)},KV more rs->KV kvs vs->KV (zeR kvs more) (merged vs rs):=by
 intro more rs kvs vs r
 unfold KV at r
 induction r generalizing kvs vs with
 |nil=>intro q;exact q
 |@cons p q ps qs h t ih =>
  intro r0
  have e:KV (zig kvs p.1 p.2) (stored vs q.1 q.2):=by
   have:=r0.put p.1 h.2
   rw[<- h.1];exact this
  exact ih e
theorem zeh:∀(more kvs:List (Key×V)),(zeR kvs more).length<=kvs.length+more.length
 |[],kvs=>by show kvs.length<=kvs.length+0;omega
 |p::r,kvs=>by
  have h1:=zeh r (zig kvs p.1 p.2)
  have h2:=zdN kvs p.1 p.2
  show (zeR (zig kvs p.1 p.2) r).length<=_
  rw[List.length_cons];omega
theorem zg5{P:Program}{w:World}:∀{kvs:List (Key×V)}{ws:List (Value×Value)},VV (kvs.map fun kv=>(kV kv.1,kv.2)) ws->∃ rs,Carries (zaR P w) ws rs/\KV kvs rs
 |[],_,r=>by rw[List.map_nil] at r;cases r;exact ⟨[],True.intro,.nil⟩
 |p::kvs,_,r=>by
  rw[List.map_cons] at r
  cases r with
  |@cons a b as bs h t =>
   obtain ⟨rs,c,q⟩:=zg5 (P:=P) (w:=w) t
   obtain ⟨b1,b2⟩:=b
   exact ⟨(p.1,b2)::rs,⟨zhZ h.1,rfl,c⟩,.cons ⟨rfl,h.2⟩ q⟩
def zsf(trs:List (TE×TE)):TE:=fun σ H Q=>∀ p,H p=none->zg4 trs σ (upd H p (.dK [])) fun ps H2=>H2 p=some (.dK [])/\∃ kvs:List (Key×V),ps=kvs.map (fun kv=>(kV kv.1,kv.2))/\kvs.length<=15/\Q (.ref p) (upd H2 p (.dK (zeR [] kvs)))
theorem zpD{X:Cx}{pos:Pos}{keys:List (Option Expr)}{values:List Expr}{trs:List (TE×TE)}(h:PPs X pos keys values trs)(hall:keys.all (·.isSome)=true)(hl:keys.length=values.length)(h0:keys≠[])
  (h15:keys.length<=15):PE X (.Dict keys values pos) (zsf trs):=by
 intro pins s σ H Q I q
 have hn:=I.hok.fresh (Nat.le_refl s.heap.objs.size)
 have I1:=I.laid (a:=s.heap.objs.size) (o:=.dK []) (h':=s.heap.push { cls:=.type "dict",data:=.dict #[] }) (t':=s.toks) (fun _ _ q=>Heap.get?_push_of_some _ q) (Nat.le_refl _) (zno s.heap I.big)
 refine wpAny_Dict_walk (knd:=zaR X.prog X.w) hall hl h0 h15 (thn (h pins _ σ _ _ I1 (q _ hn)) fun ws s2 ⟨ps,H2,I2,rel,e,kvs,ep,lk,q2⟩=>?_)
 subst ep
 obtain ⟨rs,c,rk⟩:=zg5 (P:=X.prog) (w:=X.w) rel
 obtain ⟨z,hd,vs0,r0,dd⟩:=zqI I2.hok e
 cases r0
 refine ⟨rs,c,dd,fun h' dd' hs=>⟨.ref s.heap.objs.size,_,?_,rfl,q2⟩⟩
 have hz:(zeR [] kvs).length<=sizeLine:=by
  have h1:=zeh kvs []
  rw[List.length_nil] at h1
  rw[sizeLine_eq];omega
 have he:∃ q,h'.get? s.heap.objs.size=some q:=let ⟨q,_,_,hq,_⟩:=dd';⟨q,hq⟩
 exact zjc I2 (by rw[e];exact True.intro) hs he (zov hz hd (rk.merge .nil) dd')
structure M1(X:Cx)(o:Expr)(m:Str)(apos:Pos)(e:Expr)(cpos:Pos):Prop where
 base:attributeBase o m X.env (eval o X.env)=eval o X.env
 few:((backTo cpos (starEach [e] X.env)).all (fun x=>!x.1) && (backToKw cpos (keywordEach [] X.env)).all (fun x=>x.1.isSome)
  && decide (([e]:List Expr).length+([]:List Keyword).length+(if ([]:List Keyword).isEmpty then 0 else 1)<30))=true
 line:(apos.endLine == cpos.line)=true
 trees:backTo cpos (starEach [e] X.env)=[(false,eval e X.env)]
structure M2(X:Cx)(o:Expr)(m:Str)(apos:Pos)(e f:Expr)(cpos:Pos):Prop where
 base:attributeBase o m X.env (eval o X.env)=eval o X.env
 few:((backTo cpos (starEach [e,f] X.env)).all (fun x=>!x.1) && (backToKw cpos (keywordEach [] X.env)).all (fun x=>x.1.isSome)
  && decide (([e,f]:List Expr).length+([]:List Keyword).length+(if ([]:List Keyword).isEmpty then 0 else 1)<30))=true
 line:(apos.endLine == cpos.line)=true
 trees:backTo cpos (starEach [e,f] X.env)=[(false,eval e X.env),(false,eval f X.env)]
def IsD(H:Hp)(a:Addr):Prop:=(∃ kvs,Rd H a (.dK kvs))\/∃ kvs,Rd H a (.dT kvs)
theorem zoG{X:Cx}{pins:List (Addr×Obj)}{σ:St}{H:Hp}{s:Shared}{a:Addr}(I:Inv X pins σ H s)(d:IsD H a) :
  s.TypeIs (.ref a) "dict"/\(∀ b,Value.ref a=.ref b->∃ ob,s.heap.get? b=some ob/\ob.dict=none)/\(a == sysModules)=false:=by
 rcases d with ⟨kvs,e⟩|⟨kvs,e⟩
 ·obtain ⟨_,hd,vs,_,dd⟩:=zh9 I.hok e
  refine ⟨dd.typeIs,fun b q=>?_,hd⟩
  cases q
  obtain ⟨ob,_,_,h1,h2,_⟩:=dd
  exact ⟨ob,h1,h2.2.1⟩
 ·obtain ⟨_,hd,xs,_,dd⟩:=zii I.hok e
  refine ⟨dd.typeIs,fun b q=>?_,hd⟩
  cases q
  obtain ⟨ob,_,_,h1,h2,_⟩:=dd
  exact ⟨ob,h1,h2.2.1⟩
section
variable{X:Cx}{pins:List (Addr×Obj)}{σ:St}{H:Hp}{s:Shared}{a:Addr}{y d:V}{u r:Value}{o:Option V}{A:Around}{E:Value->Shared->Prop}
theorem zrm{Q:Value->Shared->Prop}(hu:A.units+1<cLine)(I:Inv X pins σ H s)(g:zgy H a y o)(ry:zaF y u)(h:∀ w' s',Inv X pins σ H s'->zaF (o.getD .non) w'->Q w' s') :
  wpAny (model X.prog X.w) A (call (.builtin "dict.get") [.ref a,u]) Q E s:=by
 rcases g with ⟨kvs,k,e,ey,l⟩|⟨kvs,k,b,e,ey,eb,l⟩
 ·subst ey
  obtain ⟨z,hd,vs,rel,dd⟩:=zh9 I.hok e
  refine call_meetsIn PySem.F.slot_dict_get dd.typeIs PySem.F.entry_dict_get (PySem.F.args_dict_get_2 _ _) (meets_dict_get (zaR X.prog X.w) a (zhZ ry) hd) ⟨_,dd.mapOf,h _ _ (I.tok _) ?_⟩
  rw[l]
  exact (rel.val k).getD rfl
 ·subst ey
  cases (show u=Value.ref b from ry)
  obtain ⟨z,hd,xs,rel,dd⟩:=zii I.hok e
  refine call_meetsIn PySem.F.slot_dict_get dd.typeIs PySem.F.entry_dict_get (PySem.F.args_dict_get_2 _ _) (meetsH_dict_get (tupleKind (zaR X.prog X.w)) a b hd) ⟨tupleKind_room_in1 hu,k,xs,zfN I.hok eb,dd,h _ _ (I.tok _) ?_⟩
  rw[l]
  exact (rel.val k).getD rfl
theorem zrR{Q:Value->Shared->Prop}(hu:A.units+1<cLine)(I:Inv X pins σ H s)(g:zgy H a y o)(ry:zaF y u)(rd:zaF d r)(h:∀ w' s',Inv X pins σ H s'->zaF (o.getD d) w'->Q w' s') :
  wpAny (model X.prog X.w) A (call (.builtin "dict.get") [.ref a,u,r]) Q E s:=by
 rcases g with ⟨kvs,k,e,ey,l⟩|⟨kvs,k,b,e,ey,eb,l⟩
 ·subst ey
  obtain ⟨z,hd,vs,rel,dd⟩:=zh9 I.hok e
  refine call_meetsIn PySem.F.slot_dict_get dd.typeIs PySem.F.entry_dict_get (PySem.F.args_dict_get_3 _ _ _) (meets_dict_get_default (zaR X.prog X.w) a (zhZ ry) hd r) ⟨_,dd.mapOf,h _ _ (I.tok _) ?_⟩
  rw[l]
  exact (rel.val k).getD rd
 ·subst ey
  cases (show u=Value.ref b from ry)
  obtain ⟨z,hd,xs,rel,dd⟩:=zii I.hok e
  refine call_meetsIn PySem.F.slot_dict_get dd.typeIs PySem.F.entry_dict_get (PySem.F.args_dict_get_3 _ _ _) (meetsH_dict_get_default (tupleKind (zaR X.prog X.w)) a b hd r) ⟨tupleKind_room_in1 hu,k,xs,zfN I.hok eb,dd,h _ _ (I.tok _) ?_⟩
  rw[l]
  exact (rel.val k).getD rd
end
def zrQ(td ty:TE):TE:=fun σ H Q=>td σ H fun x H1=>∃ a,x=.ref a/\IsD H1 a/\ty σ H1 fun y H2=>∃ o,zgy H2 a y o/\Q (o.getD .non) H2
def zsk(td ty tx:TE):TE:=fun σ H Q=>td σ H fun x H1=>∃ a,x=.ref a/\IsD H1 a/\ty σ H1 fun y H2=>tx σ H2 fun z H3=>∃ o,zgy H3 a y o/\Q (o.getD z) H3
section
variable{X:Cx}{o e f:Expr}{apos cpos:Pos}{td ty tx:TE}
theorem zmR(hu:X.A.units+1<cLine)(ho:PE X o td)(he:PE X e ty)(m:M1 X o "get" apos e cpos):PE X (.Call (.Attribute o "get" apos) [e] [] cpos) (zrQ td ty):=by
 intro pins s σ H Q I h
 refine wpAny_Call_method m.base m.few m.line PySem.F.plainAttrs_dict PySem.F.slot_dict_get PySem.F.type_dict_get (thn (ho pins s σ H _ I h) fun u s1 ⟨x,H1,I1,rx,a,ex,d,q1⟩=>?_)
 subst ex
 obtain rfl:u=Value.ref a:=rx
 obtain ⟨t1,t2,_⟩:=zoG I1 d
 refine ⟨t1,t2,?_⟩
 rw[m.trees]
 refine Calls.callWith_builtin rfl (Calls.evalArgs_plain (Calls.spliced_cons (thn (he pins s1 σ H1 _ I1 q1) fun iv s2 ⟨y,H2,I2,ry,ov,g,q2⟩=>Calls.spliced_nil ?_)))
 exact zrm hu I2 g ry fun w' s3 I3 rw'=>⟨_,H2,I3,rw',q2⟩
theorem znp(hu:X.A.units+1<cLine)(ho:PE X o td)(he:PE X e ty)(hf:PE X f tx)(m:M2 X o "get" apos e f cpos):PE X (.Call (.Attribute o "get" apos) [e,f] [] cpos) (zsk td ty tx):=by
 intro pins s σ H Q I h
 refine wpAny_Call_method m.base m.few m.line PySem.F.plainAttrs_dict PySem.F.slot_dict_get PySem.F.type_dict_get (thn (ho pins s σ H _ I h) fun u s1 ⟨x,H1,I1,rx,a,ex,d,q1⟩=>?_)
 subst ex
 obtain rfl:u=Value.ref a:=rx
 obtain ⟨t1,t2,_⟩:=zoG I1 d
 refine ⟨t1,t2,?_⟩
 rw[m.trees]
 refine Calls.callWith_builtin rfl (Calls.evalArgs_plain (Calls.spliced_cons (thn (he pins s1 σ H1 _ I1 q1) fun iv s2 ⟨y,H2,I2,ry,q2⟩ =>
  Calls.spliced_cons (thn (hf pins s2 σ H2 _ I2 q2) fun fv s3 ⟨z,H3,I3,rz,ov,g,q3⟩=>Calls.spliced_nil ?_))))
 exact zrR hu I3 g ry rz fun w' s4 I4 rw'=>⟨_,H3,I4,rw',q3⟩
end
end L2
end
section
namespace PV
open PySem PySem.Spec L2
inductive Dt where
 |non|bl (b:Bool)|int (i:Int)|str (x:Str)|tup (l:List Dt)|lst (l:List Dt)|dct (ks:List (Int×Int))|scr (ns:List Int)
inductive B where
 |val (d:Dt)|own (l:List Dt)|own2 (l:List (List Dt))|dic (l:List (Int×Dt))|tab (q:Str)|opq|exc (C:Addr)
abbrev Ev:=List (Option B)
inductive R(α:Type) where
 |ok (a:α)|er (n:Nat)|no
def R.bind{α β:Type}(r:R α)(f:α->R β):R β:=match r with
 |.ok a=>f a
 |.er n=>.er n
 |.no=>.no
@[simp] theorem R.bind_ok {α β:Type} (a:α) (f:α->R β):(R.ok a).bind f=f a:=rfl
@[simp] theorem R.bind_er {α β:Type} (n:Nat) (f:α->R β):(R.er n).bind f=.er n:=rfl
@[simp] theorem R.bind_no {α β:Type} (f:α->R β):(R.no).bind f=.no:=rfl
theorem R.bind_assoc{α β γ:Type}(r:R α)(f:α->R β)(g:β->R γ):(r.bind f).bind g=r.bind fun a=>(f a).bind g:=by
 cases r <;> rfl
def zhv(K:W.Frag)(H:Hp)(a:Addr)(xs:List V):Prop :=
 H a=some (.tup xs)\/∃(its:Array Value)(n:Nat),K.lookup a=some { cls:=.type "tuple",data:=.seq its n }/\its.size<=sizeLine/\zaM xs its.toList
theorem zhv.of{K:W.Frag}{H:Hp}{a:Addr}{xs:List V}(h:H a=some (.tup xs)):zhv K H a xs:=.inl h
theorem zhv.sq{K:W.Frag}{H:Hp}{a:Addr}{xs:List V}(h:zhv K H a xs):SqT K H a xs:=by
 rcases h with h|⟨its,n,h1,h2,h3⟩
 ·exact .inl (.inl h)
 ·exact .inr ⟨_,its,n,h1,rfl,rfl,h2,h3⟩
theorem zhv.same{K:W.Frag}{H H':Hp}{a:Addr}{xs:List V}(e:zcf H H')(h:zhv K H a xs):zhv K H' a xs:=h.elim (fun z=>.inl (e _ _ z)) .inr
mutual
def Rep(K:W.Frag)(G:Hp):Dt->V->Prop
 |.non,v=>v=.non
 |.bl b,v=>v=.bl b
 |.int i,v=>v=.int i
 |.str x,v=>v=.str x
 |.tup l,v=>∃ a vs,v=.ref a/\zhv K G a vs/\zaw K G l vs
 |.lst l,v=>∃ a vs,v=.ref a/\G a=some (.lst vs)/\zaw K G l vs
 |.dct ks,v=>∃ a,v=.ref a/\G a=some (.dK (ks.map fun p=>(.inl p.1,.int p.2)))
 |.scr ns,v=>∃ a,v=.ref a/\SqL K G a (ns.map V.int)
def zaw(K:W.Frag)(G:Hp):List Dt->List V->Prop
 |[],vs=>vs=[]
 |d::ds,vs=>∃ v r,vs=v::r/\Rep K G d v/\zaw K G ds r
end
theorem za5{K:W.Frag}{H H':Hp}{a:Addr}{xs:List V}(e:zcf H H')(h:SqT K H a xs):SqT K H' a xs:=by
 rcases h with (h|⟨o,h⟩)|h
 ·exact .inl (.inl (e _ _ h))
 ·exact .inl (.inr ⟨o,e _ _ h⟩)
 ·exact .inr h
mutual
theorem Rep.same{K:W.Frag}{G G':Hp}(e:zcf G G'):∀{d:Dt}{v:V},Rep K G d v->Rep K G' d v
 |.non,_,h=>by unfold Rep at h ⊢;exact h
 |.bl _,_,h=>by unfold Rep at h ⊢;exact h
 |.int _,_,h=>by unfold Rep at h ⊢;exact h
 |.str _,_,h=>by unfold Rep at h ⊢;exact h
 |.tup l,_,h=>by
  unfold Rep at h ⊢
  obtain ⟨a,vs,h1,h2,h3⟩:=h
  exact ⟨a,vs,h1,h2.same e,zaw.same e h3⟩
 |.lst l,_,h=>by
  unfold Rep at h ⊢
  obtain ⟨a,vs,h1,h2,h3⟩:=h
  exact ⟨a,vs,h1,e _ _ h2,zaw.same e h3⟩
 |.dct _,_,h=>by
  unfold Rep at h ⊢
  obtain ⟨a,h1,h2⟩:=h
  exact ⟨a,h1,e _ _ h2⟩
 |.scr ns,_,h=>by
  unfold Rep at h ⊢
  obtain ⟨a,h1,h2⟩:=h
  exact ⟨a,h1,e.seq h2⟩
theorem zaw.same{K:W.Frag}{G G':Hp}(e:zcf G G'):∀{ds:List Dt}{vs:List V},zaw K G ds vs->zaw K G' ds vs
 |[],_,h=>by unfold zaw at h ⊢;exact h
 |d::ds,_,h=>by
  unfold zaw at h ⊢
  obtain ⟨v,r,h1,h2,h3⟩:=h
  exact ⟨v,r,h1,Rep.same e h2,zaw.same e h3⟩
end
theorem zaw.nil{K:W.Frag}{G:Hp}:zaw K G [] []:=by unfold zaw;rfl
theorem zaw.cons{K:W.Frag}{G:Hp}{d:Dt}{ds:List Dt}{v:V}{vs:List V}(h:Rep K G d v)(t:zaw K G ds vs):zaw K G (d::ds) (v::vs):=by
 unfold zaw;exact ⟨v,vs,rfl,h,t⟩
theorem zaw.nil_inv{K:W.Frag}{G:Hp}{vs:List V}(h:zaw K G [] vs):vs=[]:=by unfold zaw at h;exact h
theorem zaw.cons_inv{K:W.Frag}{G:Hp}{d:Dt}{ds:List Dt}{vs:List V}(h:zaw K G (d::ds) vs):∃ v r,vs=v::r/\Rep K G d v/\zaw K G ds r:=by unfold zaw at h;exact h
theorem zaw.length{K:W.Frag}{G:Hp}:∀{ds:List Dt}{vs:List V},zaw K G ds vs->ds.length=vs.length
 |[],_,h=>by rw[h.nil_inv];rfl
 |d::ds,_,h=>by
  obtain ⟨v,r,rfl,_,h3⟩:=h.cons_inv
  simp[zaw.length h3]
theorem zaw.get{K:W.Frag}{G:Hp}:∀{ds:List Dt}{vs:List V}{i:Nat}{d:Dt},zaw K G ds vs->ds[i]? = some d->∃ v,vs[i]? = some v/\Rep K G d v
 |[],_,_,_,_,e=>by simp at e
 |d::ds,_,0,_,h,e=>by
  obtain ⟨v,r,rfl,h2,h3⟩:=h.cons_inv
  simp at e;subst e
  exact ⟨v,rfl,h2⟩
 |d::ds,_,i+1,_,h,e=>by
  obtain ⟨v,r,rfl,h2,h3⟩:=h.cons_inv
  obtain ⟨u,e1,e2⟩:=zaw.get (i:=i) h3 (by simpa using e)
  exact ⟨u,by simpa using e1,e2⟩
theorem zaw.append{K:W.Frag}{G:Hp}:∀{ds es:List Dt}{vs us:List V},zaw K G ds vs->zaw K G es us->zaw K G (ds++es) (vs++us)
 |[],_,_,_,h,t=>by rw[h.nil_inv];exact t
 |d::ds,_,_,_,h,t=>by
  obtain ⟨v,r,rfl,h2,h3⟩:=h.cons_inv
  exact zaw.cons h2 (zaw.append h3 t)
theorem zaw.take{K:W.Frag}{G:Hp}:∀(n:Nat){ds:List Dt}{vs:List V},zaw K G ds vs->zaw K G (ds.take n) (vs.take n)
 |0,_,_,_=>by simpa using zaw.nil
 |n+1,[],_,h=>by rw[h.nil_inv];simpa using zaw.nil
 |n+1,d::ds,_,h=>by
  obtain ⟨v,r,rfl,h2,h3⟩:=h.cons_inv
  exact zaw.cons h2 (zaw.take n h3)
theorem zaw.drop{K:W.Frag}{G:Hp}:∀(n:Nat){ds:List Dt}{vs:List V},zaw K G ds vs->zaw K G (ds.drop n) (vs.drop n)
 |0,_,_,h=>h
 |n+1,[],_,h=>by rw[h.nil_inv];simpa using zaw.nil
 |n+1,d::ds,_,h=>by
  obtain ⟨v,r,rfl,h2,h3⟩:=h.cons_inv
  exact zaw.drop n h3
theorem zaw.set{K:W.Frag}{G:Hp}{d:Dt}{v:V}(hv:Rep K G d v):∀(i:Nat){ds:List Dt}{vs:List V},zaw K G ds vs->zaw K G (ds.set i d) (vs.set i v)
 |_,[],_,h=>by rw[h.nil_inv];exact zaw.nil
 |0,d'::ds,_,h=>by
  obtain ⟨v,r,rfl,h2,h3⟩:=h.cons_inv
  exact zaw.cons hv h3
 |i+1,d'::ds,_,h=>by
  obtain ⟨v,r,rfl,h2,h3⟩:=h.cons_inv
  exact zaw.cons h2 (zaw.set hv i h3)
theorem zaw.eraseIdx{K:W.Frag}{G:Hp}:∀(i:Nat){ds:List Dt}{vs:List V},zaw K G ds vs->zaw K G (ds.eraseIdx i) (vs.eraseIdx i)
 |_,[],_,h=>by rw[h.nil_inv];exact zaw.nil
 |0,d'::ds,_,h=>by
  obtain ⟨v,r,rfl,h2,h3⟩:=h.cons_inv
  exact h3
 |i+1,d'::ds,_,h=>by
  obtain ⟨v,r,rfl,h2,h3⟩:=h.cons_inv
  exact zaw.cons h2 (zaw.eraseIdx i h3)
abbrev Wn:=Addr->Option Nat
structure zaN(G H:Hp)(w:Wn)(G' H':Hp)(w':Wn):Prop where
 g:zcf G G'
 fr:∀ b o,G' b=some o->G b≠none\/H b=none\/w b≠none
 h:∀ b o,H b=some o->w b=none->H' b=some o
 w:∀ b,w' b≠none->w b≠none\/H b=none
 k:∀ b,H' b=none->H b=none
theorem zaN.refl(G H:Hp)(w:Wn):zaN G H w G H w :=
 ⟨zcf.refl G,fun b o e=>.inl (by rw[e];simp),fun _ _ e _=>e,fun _ e=>.inl e,fun _ e=>e⟩
theorem zaN.trans{G H G1 H1 G2 H2:Hp}{w w1 w2:Wn}(a:zaN G H w G1 H1 w1)(b:zaN G1 H1 w1 G2 H2 w2):zaN G H w G2 H2 w2:=by
 have hn:=a.k
 refine ⟨a.g.trans b.g,fun c o e=>?_,fun c o e z=>?_,fun c e=>?_,fun c e=>a.k c (b.k c e)⟩
 ·rcases b.fr c o e with q|q|q
  ·cases q':G1 c with
   |none=>exact absurd q' q
   |some u=>exact a.fr c u q'
  ·exact .inr (.inl (hn c q))
  ·rcases a.w c q with z|z
   ·exact .inr (.inr z)
   ·exact .inr (.inl z)
 ·have e1:=a.h c o e z
  refine b.h c o e1 ?_
  cases q:w1 c with
  |none=>rfl
  |some k =>
   rcases a.w c (by rw[q];simp) with r|r
   ·exact absurd z r
   ·rw[e] at r;cases r
 ·rcases b.w c e with q|q
  ·exact a.w c q
  ·exact .inr (hn c q)
structure Cn where
 G₀:Hp
 H₀:Hp
 w₀:Wn
 pp:List Nat
 σ₀:St
 ex:Nat->Prop
 xv:Nat->Value
 nw:Bool
def RtG(nw:Bool)(K:W.Frag)(H0 G H:Hp)(w:Wn)(d:Dt)(v:V):Prop:=match nw with
 |false=>Rep K G d v
 |true=>∃ l p vs,d=.lst l/\v=.ref p/\H0 p=none/\H p=some (.lst vs)/\G p=none/\w p=none/\zaw K G l vs
def cHO(c:Addr)(q:Str):HO:=.ext fun h=>h.CodeRec (.ref c) q
def xHO(l C:Addr):HO:=.ext fun h=>∃ o vs,h.get? l=some o/\o.cls=.ref C/\o.data=.fields vs
def RB(K:W.Frag)(G H:Hp)(w:Wn)(i:Nat)(v:V):B->Prop
 |.val d=>Rep K G d v
 |.own ds=>∃ a vs,v=.ref a/\w a=some i/\H a=some (.lst vs)/\zaw K G ds vs
 |.own2 dss=>∃ a as,v=.ref a/\w a=some i/\H a=some (.lst (as.map V.ref))/\(a::as).Nodup/\Paired (fun b ds=>w b=some i/\∃ vs,H b=some (.lst vs)/\zaw K G ds vs) as dss
 |.tab q=>∃ P ps,v=.ref P/\w P=some i/\H P=some (.tbl ps)/\TriplesOk ps.toList/\∀ pos cv,codeAmong pos ps.toList=some cv->∃ c,cv=.ref c/\G c=some (cHO c q)
 |.dic ds=>∃ a us,v=.ref a/\w a=some i/\H a=some (.dK us)/\Paired (fun (p:Int×Dt) (q:Key×V)=>q.1=.inl p.1/\Rep K G p.2 q.2) ds us
 |.opq=>True
 |.exc C=>∃ l,v=.ref l/\G l=some (xHO l C)
structure Rel(K:W.Frag)(C:Cn)(G:Hp)(w:Wn)(ρ:Ev)(σ:St)(H:Hp):Prop where
 gh:zcf G H
 wg:∀ b,w b≠none->G b=none
 wh:∀ b,w b≠none->H b≠none
 len:ρ.length = σ.length
 sl:∀ i b,ρ[i]? = some (some b)->∃ v,σ[i]? = some (some v)/\RB K G H w i v b
 en:zaN C.G₀ C.H₀ C.w₀ G H w
 pin:∀ i∈C.pp,σ[i]? = C.σ₀[i]?
structure zdE(G H G' H':Hp):Prop where
 g:zcf G G'
 h:zcf H H'
 gh:zcf G' H'
 fr:∀ b o,G' b=some o->G b≠none\/H b=none
theorem zdE.refl{G H:Hp}(e:zcf G H):zdE G H G H:=⟨.refl _,.refl _,e,fun b o q=>.inl (by rw[q];simp)⟩
theorem zdE.trans{G H G1 H1 G2 H2:Hp}(a:zdE G H G1 H1)(b:zdE G1 H1 G2 H2):zdE G H G2 H2 :=
 ⟨a.g.trans b.g,a.h.trans b.h,b.gh,fun c o e=>by
  rcases b.fr c o e with q|q
  ·cases q':G1 c with
   |none=>exact absurd q' q
   |some u=>exact a.fr c u q'
  ·exact .inr (a.h.free q)⟩
theorem zdE.step{G H G' H':Hp}{w:Wn}(a:zdE G H G' H'):zaN G H w G' H' w :=
 ⟨a.g,fun b o e=>(a.fr b o e).elim .inl fun z=>.inr (.inl z),fun b o e _=>a.h b o e,fun _ e=>.inl e,fun _ e=>a.h.free e⟩
theorem zd3{α β:Type}{F F':α->β->Prop}(f:∀ a b,F a b->F' a b):∀{l₁:List α}{l₂:List β},Paired F l₁ l₂->Paired F' l₁ l₂
 |_,_,.nil=>.nil
 |_,_,.cons r t=>.cons (f _ _ r) (zd3 f t)
theorem RB.grow{K:W.Frag}{G H G' H':Hp}{w w':Wn}{i j:Nat}{v:V}{b:B}(g:zcf G G')(h:∀ a o,w a=some i->H a=some o->H' a=some o/\w' a=some j)(r:RB K G H w i v b):RB K G' H' w' j v b:=by
 cases b with
 |val d=>exact Rep.same g r
 |own ds =>
  obtain ⟨a,vs,h1,h2,h3,h4⟩:=r
  obtain ⟨e1,e2⟩:=h a _ h2 h3
  exact ⟨a,vs,h1,e2,e1,zaw.same g h4⟩
 |own2 dss =>
  obtain ⟨a,as,h1,h2,h3,h4,h5⟩:=r
  obtain ⟨e1,e2⟩:=h a _ h2 h3
  refine ⟨a,as,h1,e2,e1,h4,zd3 (fun b ds ⟨q1,vs,q2,q3⟩=>?_) h5⟩
  obtain ⟨e1,e2⟩:=h b _ q1 q2
  exact ⟨e2,vs,e1,zaw.same g q3⟩
 |tab q =>
  obtain ⟨P,ps,h1,h2,h3,h4,h5⟩:=r
  obtain ⟨e1,e2⟩:=h P _ h2 h3
  exact ⟨P,ps,h1,e2,e1,h4,fun pos cv e=>let ⟨c,q1,q2⟩:=h5 pos cv e;⟨c,q1,g _ _ q2⟩⟩
 |dic ds =>
  obtain ⟨a,us,h1,h2,h3,h4⟩:=r
  obtain ⟨e1,e2⟩:=h a _ h2 h3
  exact ⟨a,us,h1,e2,e1,zd3 (fun p q z=>⟨z.1,Rep.same g z.2⟩) h4⟩
 |opq=>exact trivial
 |exc C =>
  obtain ⟨l,h1,h2⟩:=r
  exact ⟨l,h1,g _ _ h2⟩
theorem Rel.grow{K:W.Frag}{C:Cn}{G H G' H':Hp}{w:Wn}{ρ:Ev}{σ:St}(r:Rel K C G w ρ σ H)(a:zdE G H G' H'):Rel K C G' w ρ σ H':=by
 refine ⟨a.gh,fun b e=>?_,fun b e z=>r.wh b e (a.h.free z),r.len,fun i b e=>?_,r.en.trans a.step,r.pin⟩
 ·cases q:G' b with
  |none=>rfl
  |some o =>
   rcases a.fr b o q with z|z
   ·exact absurd (r.wg b e) z
   ·exact absurd z (r.wh b e)
 ·obtain ⟨v,h1,h2⟩:=r.sl i b e
  exact ⟨v,h1,h2.grow a.g fun a' o e1 e2=>⟨a.h _ _ e2,e1⟩⟩
theorem zdE.new{G H:Hp}{p:Addr}{o:HO}(gh:zcf G H)(hp:H p=none):zdE G H (upd G p o) (upd H p o):=by
 refine ⟨fun b u e=>?_,fun b u e=>?_,fun b u e=>?_,fun b u e=>?_⟩
 ·rw[zad (zaf (gh b u e) hp)];exact e
 ·rw[zad (zaf e hp)];exact e
 ·by_cases hb:b=p
  ·subst hb;rw[zal] at e ⊢;exact e
  ·rw[zad hb] at e ⊢;exact gh b u e
 ·by_cases hb:b=p
  ·subst hb;exact .inr hp
  ·rw[zad hb] at e;exact .inl (by rw[e];simp)
theorem zdE.newH{G H:Hp}{p:Addr}{o:HO}(gh:zcf G H)(hp:H p=none):zdE G H G (upd H p o):=by
 refine ⟨.refl _,fun b u e=>?_,fun b u e=>?_,fun b u e=>.inl (by rw[e];simp)⟩
 ·rw[zad (zaf e hp)];exact e
 ·rw[zad (zaf (gh b u e) hp)];exact gh b u e
def zbJ{α:Type}(ex:Nat->Prop)(κ:α->Prop):R α->Prop
 |.ok a=>κ a
 |.er n=>ex n
 |.no=>False
def kE(K:W.Frag)(C:Cn)(σ:St)(Q:VK)(G H:Hp)(w:Wn)(a:Dt×Ev):Prop :=
 ∀ v G' H' w',zaN G H w G' H' w'->Rel K C G' w' a.2 σ H'->Rep K G' a.1 v->Q v H'
def kT(K:W.Frag)(C:Cn)(σ:St)(Q:Bool->Hp->Prop)(G H:Hp)(w:Wn)(a:Bool×Ev):Prop :=
 ∀ G' H' w',zaN G H w G' H' w'->Rel K C G' w' a.2 σ H'->Q a.1 H'
def kN(K:W.Frag)(C:Cn)(σ:St)(Q:VK)(G H:Hp)(w:Wn)(a:List Dt×Ev):Prop :=
 ∀ p vs G' H' w',zaN G H w G' H' w'->Rel K C G' w' a.2 σ H'->H p=none->H' p=some (.lst vs)->G' p=none->w' p=none->zaw K G' a.1 vs->Q (.ref p) H'
inductive Fl where
 |nx|bk|ct|rt (d:Dt)
def kS(K:W.Frag)(C:Cn)(D:zo2)(G H:Hp)(w:Wn)(a:Fl×Ev):Prop :=
 match a.1 with
 |.nx=>∀ σ' G' H' w',zaN G H w G' H' w'->Rel K C G' w' a.2 σ' H'->D.nx σ' H'
 |.bk=>∀ σ' G' H' w',zaN G H w G' H' w'->Rel K C G' w' a.2 σ' H'->D.bk σ' H'
 |.ct=>∀ σ' G' H' w',zaN G H w G' H' w'->Rel K C G' w' a.2 σ' H'->D.ct σ' H'
 |.rt d=>∀ v σ' G' H' w',zaN G H w G' H' w'->Rel K C G' w' a.2 σ' H'->RtG C.nw K C.H₀ G' H' w' d v->D.rt v H'
abbrev De:=Ev->R (Dt×Ev)
abbrev DT:=Ev->R (Bool×Ev)
abbrev DN:=Ev->R (List Dt×Ev)
abbrev DS:=Ev->R (Fl×Ev)
def tE(K:W.Frag)(C:Cn)(f:De):TE:=fun σ H Q=>∃ G w ρ,Rel K C G w ρ σ H/\zbJ C.ex (kE K C σ Q G H w) (f ρ)
def tT(K:W.Frag)(C:Cn)(f:DT):TT:=fun σ H Q=>∃ G w ρ,Rel K C G w ρ σ H/\zbJ C.ex (kT K C σ Q G H w) (f ρ)
def tN(K:W.Frag)(C:Cn)(f:DN):TE:=fun σ H Q=>∃ G w ρ,Rel K C G w ρ σ H/\zbJ C.ex (kN K C σ Q G H w) (f ρ)
def tS(K:W.Frag)(C:Cn)(f:DS):TS:=fun D σ H=>∃ G w ρ,Rel K C G w ρ σ H/\zbJ C.ex (kS K C D G H w) (f ρ)
abbrev JE(X:Cx)(C:Cn)(e:Expr)(f:De):Prop:=PE X e (tE X.K C f)
abbrev JT(X:Cx)(C:Cn)(e:Expr)(f:DT):Prop:=PT X e (tT X.K C f)
abbrev JW(X:Cx)(C:Cn)(e:Expr)(f:DT):Prop:=PW X e (tT X.K C f)
abbrev JN(X:Cx)(C:Cn)(e:Expr)(f:DN):Prop:=PE X e (tN X.K C f)
abbrev JS(X:Cx)(C:Cn)(st:Stmt)(f:DS):Prop:=PS X st (tS X.K C f)
abbrev JSs(X:Cx)(C:Cn)(st:List Stmt)(f:DS):Prop:=PSs X st (tS X.K C f)
abbrev zn7(α:Type):=Hp->Hp->Wn->α->Prop
def Stp{α:Type}(κ:zn7 α):Prop:=∀ G H w G1 H1 w1 a,zaN G H w G1 H1 w1->κ G H w a->κ G1 H1 w1 a
section
variable{K:W.Frag}{C:Cn}{σ:St}
theorem zbt{Q:VK}:Stp (fun G H w=>kE K C σ Q G H w):=fun _ _ _ _ _ _ _ s k v G' H' w' s'=>k v G' H' w' (s.trans s')
theorem zgH{Q:Bool->Hp->Prop}:Stp (fun G H w=>kT K C σ Q G H w):=fun _ _ _ _ _ _ _ s k G' H' w' s'=>k G' H' w' (s.trans s')
theorem zgh{Q:VK}:Stp (fun G H w=>kN K C σ Q G H w):=fun G H w G1 H1 w1 _ s k p vs G' H' w' s' r q1 q2 q3 q4 q5 =>
 k p vs G' H' w' (s.trans s') r (s.k p q1) q2 q3 q4 q5
theorem zcX{D:zo2}:Stp (fun G H w=>kS K C D G H w):=fun G H w G1 H1 w1 a s k=>by
 obtain ⟨f,ρ⟩:=a
 cases f with
 |nx=>exact fun σ' G' H' w' s'=>k σ' G' H' w' (s.trans s')
 |bk=>exact fun σ' G' H' w' s'=>k σ' G' H' w' (s.trans s')
 |ct=>exact fun σ' G' H' w' s'=>k σ' G' H' w' (s.trans s')
 |rt d=>exact fun v σ' G' H' w' s'=>k v σ' G' H' w' (s.trans s')
theorem zbJ.step{α:Type}{ex:Nat->Prop}{κ:zn7 α}(st:Stp κ){G H G1 H1:Hp}{w w1:Wn}(s:zaN G H w G1 H1 w1):∀{r:R α},zbJ ex (κ G H w) r->zbJ ex (κ G1 H1 w1) r
 |.ok _,p=>st _ _ _ _ _ _ _ s p
 |.er _,p=>p
 |.no,p=>p
theorem zch{α:Type}{κ:zn7 α}(st:Stp κ){G H:Hp}{w:Wn}{ρ:Ev}{fa:De}{g:Dt×Ev->R α}{Q:VK}(r:Rel K C G w ρ σ H)(p:zbJ C.ex (κ G H w) ((fa ρ).bind g))
  (k:∀ d ρ1 v G1 H1 w1,Rel K C G1 w1 ρ1 σ H1->zaN G H w G1 H1 w1->Rep K G1 d v->zbJ C.ex (κ G1 H1 w1) (g (d,ρ1))->Q v H1):tE K C fa σ H Q:=by
 refine ⟨G,w,ρ,r,?_⟩
 cases e:fa ρ with
 |ok a =>
  rw[e] at p
  intro v G' H' w' s' r' q
  exact k a.1 a.2 v G' H' w' r' s' q (zbJ.step st s' p)
 |er n=>rw[e] at p;exact p
 |no=>rw[e] at p;exact p
theorem zq3{α:Type}{κ:zn7 α}(st:Stp κ){G H:Hp}{w:Wn}{ρ:Ev}{fa:DT}{g:Bool×Ev->R α}{Q:Bool->Hp->Prop}(r:Rel K C G w ρ σ H)(p:zbJ C.ex (κ G H w) ((fa ρ).bind g))
  (k:∀ b ρ1 G1 H1 w1,Rel K C G1 w1 ρ1 σ H1->zaN G H w G1 H1 w1->zbJ C.ex (κ G1 H1 w1) (g (b,ρ1))->Q b H1):tT K C fa σ H Q:=by
 refine ⟨G,w,ρ,r,?_⟩
 cases e:fa ρ with
 |ok a =>
  rw[e] at p
  intro G' H' w' s' r'
  exact k a.1 a.2 G' H' w' r' s' (zbJ.step st s' p)
 |er n=>rw[e] at p;exact p
 |no=>rw[e] at p;exact p
theorem zsA{α:Type}{κ:zn7 α}{G H:Hp}{w:Wn}{ρ:Ev}{fa:DN}{g:List Dt×Ev->R α}{Q:VK}(r:Rel K C G w ρ σ H)(p:zbJ C.ex (κ G H w) ((fa ρ).bind g))
  (k:∀ ds ρ1 a vs G1 H1 w1,Rel K C G1 w1 ρ1 σ H1->zaN G H w G1 H1 w1->H a=none->H1 a=some (.lst vs)->G1 a=none->w1 a=none->zaw K G1 ds vs->zbJ C.ex (κ G H w) (g (ds,ρ1))->Q (.ref a) H1):tN K C fa σ H Q:=by
 refine ⟨G,w,ρ,r,?_⟩
 cases e:fa ρ with
 |ok a =>
  rw[e] at p
  intro v vs G' H' w' s' r' q1 q2 q3 q4 q5
  exact k a.1 a.2 v vs G' H' w' r' s' q1 q2 q3 q4 q5 p
 |er n=>rw[e] at p;exact p
 |no=>rw[e] at p;exact p
end
section
variable{X:Cx}
theorem _root_.L2.PE.weak{e:Expr}{t t':TE}(h:PE X e t)(k:∀ σ H Q,t' σ H Q->t σ H Q):PE X e t':=fun pins s σ H Q I q=>h pins s σ H Q I (k σ H Q q)
theorem _root_.L2.PT.weak{e:Expr}{t t':TT}(h:PT X e t)(k:∀ σ H Q,t' σ H Q->t σ H Q):PT X e t':=fun pins s σ H Q I q=>h pins s σ H Q I (k σ H Q q)
theorem _root_.L2.PW.weak{e:Expr}{t t':TT}(h:PW X e t)(k:∀ σ H Q,t' σ H Q->t σ H Q):PW X e t':=fun wh pins s σ H Q I q=>h wh pins s σ H Q I (k σ H Q q)
theorem _root_.L2.PA.weak{e:List Expr}{t t':TA}(h:PA X e t)(k:∀ σ H Q,t' σ H Q->t σ H Q):PA X e t':=fun pos pins s σ H Q I q=>h pos pins s σ H Q I (k σ H Q q)
theorem _root_.L2.PS.weak{e:Stmt}{t t':TS}(h:PS X e t)(k:∀ D σ H,t' D σ H->t D σ H):PS X e t':=fun pins s σ H D I q=>h pins s σ H D I (k D σ H q)
theorem _root_.L2.PSs.weak{e:List Stmt}{t t':TS}(h:PSs X e t)(k:∀ D σ H,t' D σ H->t D σ H):PSs X e t':=fun pins s σ H D I q=>h pins s σ H D I (k D σ H q)
end
section
variable{K:W.Frag}{C:Cn}{σ:L2.St}{G H:Hp}{w:Wn}{ρ:Ev}{i:Nat}{v:V}
theorem Rel.freeze{d:Dt}{b0:B}(r:Rel K C G w ρ σ H)(S:List Addr)(hS:∀ b∈S,w b=some i)(hi:ρ[i]? = some (some b0))(hv:σ[i]? = some (some v))
  (hr:Rep K (fun b=>if b∈S then H b else G b) d v) :
  Rel K C (fun b=>if b∈S then H b else G b) (fun b=>if b∈S then none else w b) (ρ.set i (some (.val d))) σ H /\
   zaN G H w (fun b=>if b∈S then H b else G b) H (fun b=>if b∈S then none else w b):=by
 have gS:∀ b∈S,G b=none:=fun b hb=>r.wg b (by rw[hS b hb];simp)
 have st:zaN G H w (fun b=>if b∈S then H b else G b) H (fun b=>if b∈S then none else w b):=by
  refine ⟨fun b o e=>?_,fun b o e=>?_,fun b o e _=>e,fun b e=>?_,fun _ e=>e⟩
  ·have:b∉S:=fun z=>by rw[gS b z] at e;cases e
   simp[this,e]
  ·by_cases hb:b∈S
   ·exact .inr (.inr (by rw[hS b hb];simp))
   ·simp[hb] at e;exact .inl (by rw[e];simp)
  ·by_cases hb:b∈S
   ·simp[hb] at e
   ·simp[hb] at e;exact .inl e
 refine ⟨⟨fun b o e=>?_,fun b e=>?_,fun b e=>?_,by simpa using r.len,fun j b e=>?_,r.en.trans st,r.pin⟩,st⟩
 ·by_cases hb:b∈S
  ·simp[hb] at e;exact e
  ·simp[hb] at e;exact r.gh b o e
 ·by_cases hb:b∈S
  ·simp[hb] at e
  ·simp[hb] at e ⊢;exact r.wg b e
 ·by_cases hb:b∈S
  ·simp[hb] at e
  ·simp[hb] at e;exact r.wh b e
 ·by_cases hj:j=i
  ·subst hj
   rw[List.getElem?_set_self (List.getElem?_eq_some_iff.mp hi).1] at e
   cases e
   exact ⟨v,hv,hr⟩
  ·rw[List.getElem?_set_ne (Ne.symm hj)] at e
   obtain ⟨v',h1,h2⟩:=r.sl j b e
   refine ⟨v',h1,h2.grow st.g fun a o e1 e2=>⟨e2,?_⟩⟩
   have:a∉S:=fun z=>by rw[hS a z] at e1;exact hj (Option.some.inj e1).symm
   simp[this,e1]
end
def zab(i:Nat):De:=fun ρ=>match ρ[i]? with
 |some (some (.val d))=>.ok (d,ρ)
 |_=>.no
def zis(i:Nat):De:=fun ρ=>match ρ[i]? with
 |some (some (.val d))=>.ok (d,ρ)
 |some (some (.own ds))=>.ok (.lst ds,ρ.set i (some (.val (.lst ds))))
 |some (some (.own2 dss))=>.ok (.lst (dss.map .lst),ρ.set i (some (.val (.lst (dss.map .lst)))))
 |_=>.no
theorem zf5{K:W.Frag}{G:Hp}:∀{as:List Addr}{dss:List (List Dt)},Paired (fun b ds=>∃ vs,G b=some (.lst vs)/\zaw K G ds vs) as dss->zaw K G (dss.map .lst) (as.map V.ref)
 |_,_,.nil=>zaw.nil
 |a::as,ds::dss,.cons ⟨vs,h1,h2⟩ t=>zaw.cons (by unfold Rep;exact ⟨a,vs,rfl,h1,h2⟩) (zf5 t)
theorem zg9{α β:Type}{F:α->β->Prop}:∀{l₁:List α}{l₂:List β},Paired F l₁ l₂->∀ a∈l₁,∃ b,F a b
 |_,_,.cons r t,a,h=>by
  rcases List.mem_cons.mp h with rfl|h
  ·exact ⟨_,r⟩
  ·exact zg9 t a h
theorem zd8{α β:Type}{F F':α->β->Prop}:∀{l₁:List α}{l₂:List β},Paired F l₁ l₂->(∀ a b,a∈l₁->F a b->F' a b)->Paired F' l₁ l₂
 |_,_,.nil,_=>.nil
 |_,_,.cons r t,f=>.cons (f _ _ List.mem_cons_self r) (zd8 t fun a b h=>f a b (List.mem_cons_of_mem _ h))
section
variable{X:Cx}{C:Cn}
theorem zaa(i:Nat){x:Str}{pos:Pos}(hN:X.N[i]? = some x:=by rfl)(hv:Vis X.env.scope x:=by first|exact Or.inl rfl|exact Or.inr (Or.inl rfl)|exact Or.inr (Or.inr rfl))(hd:(x == ("__debug__" : Str))=false:=by decide)
  (hcd:(x == ("__classdict__" : Str))=false:=by decide):JE X C (.Name x pos) (zab i):=(zb1 hN hv hd hcd).weak fun σ H Q ⟨G,w,ρ,r,p⟩=>by
 unfold zab at p
 split at p
 ·rename_i d e
  obtain ⟨v,h1,h2⟩:=r.sl i _ e
  exact ⟨v,h1,p v G H w (.refl _ _ _) r h2⟩
 ·exact p.elim
theorem zg2(i:Nat){x:Str}{pos:Pos}(hN:X.N[i]? = some x:=by rfl)(hv:Vis X.env.scope x:=by first|exact Or.inl rfl|exact Or.inr (Or.inl rfl)|exact Or.inr (Or.inr rfl))(hd:(x == ("__debug__" : Str))=false:=by decide)
  (hcd:(x == ("__classdict__" : Str))=false:=by decide):JE X C (.Name x pos) (zis i):=(zb1 hN hv hd hcd).weak fun σ H Q ⟨G,w,ρ,r,p⟩=>by
 unfold zis at p
 split at p
 ·rename_i d e
  obtain ⟨v,h1,h2⟩:=r.sl i _ e
  exact ⟨v,h1,p v G H w (.refl _ _ _) r h2⟩
 ·rename_i ds e
  obtain ⟨v,h1,a,vs,rfl,h2,h3,h4⟩:=r.sl i _ e
  have hr:Rep X.K (fun b=>if b∈[a] then H b else G b) (.lst ds) (.ref a):=by
   unfold Rep
   refine ⟨a,vs,rfl,(by simp[h3]),zaw.same (fun b o e=>?_) h4⟩
   have:b≠a:=fun z=>by subst z;rw[r.wg b (by rw[h2];simp)] at e;cases e
   simp[this,e]
  obtain ⟨r',s'⟩:=r.freeze [a] (fun b hb=>by simp at hb;subst hb;exact h2) e h1 hr
  exact ⟨_,h1,p _ _ _ _ s' r' hr⟩
 ·rename_i dss e
  obtain ⟨v,h1,a,as,rfl,h2,h3,h4,h5⟩:=r.sl i _ e
  have hS:∀ b∈a::as,w b=some i:=fun b hb=>by
   rcases List.mem_cons.mp hb with rfl|hb
   ·exact h2
   ·obtain ⟨_,z,_⟩:=zg9 h5 b hb
    exact z
  have sg:zcf G (fun b=>if b∈a::as then H b else G b):=fun b o e=>by
   have:b∉a::as:=fun z=>by rw[r.wg b (by rw[hS b z];simp)] at e;cases e
   simp only[this,if_false];exact e
  have hr:Rep X.K (fun b=>if b∈a::as then H b else G b) (.lst (dss.map .lst)) (.ref a):=by
   unfold Rep
   refine ⟨a,as.map V.ref,rfl,(by simp[h3]),zf5 (zd8 h5 fun b ds hb ⟨q1,vs,q2,q3⟩=>⟨vs,?_,zaw.same sg q3⟩)⟩
   simp[hb,q2]
  obtain ⟨r',s'⟩:=r.freeze (a::as) hS e h1 hr
  exact ⟨_,h1,p _ _ _ _ s' r' hr⟩
 ·exact p.elim
def dC(d:Dt):De:=fun ρ=>.ok (d,ρ)
theorem zap{i j pos}:JE X C (.Constant (.int i) j pos) (dC (.int i)):=PE.weak zqL fun σ H Q ⟨G,w,ρ,r,p⟩=>p _ G H w (.refl _ _ _) r (by unfold Rep;rfl)
theorem zja{b j pos}:JE X C (.Constant (.bool b) j pos) (dC (.bl b)):=PE.weak zsE fun σ H Q ⟨G,w,ρ,r,p⟩=>p _ G H w (.refl _ _ _) r (by unfold Rep;rfl)
theorem zhB{j pos}:JE X C (.Constant .none j pos) (dC .non):=PE.weak zok fun σ H Q ⟨G,w,ρ,r,p⟩=>p _ G H w (.refl _ _ _) r (by unfold Rep;rfl)
theorem zoE{x j pos}:JE X C (.Constant (.str x) j pos) (dC (.str x)):=PE.weak zsg fun σ H Q ⟨G,w,ρ,r,p⟩=>p _ G H w (.refl _ _ _) r (by unfold Rep;rfl)
theorem zm7{x:Str}{i:Int}{t:Tok}{pos:Pos}(hg:Gl X x)(hm:X.mg x=some (.int i t))(hd:(x == ("__debug__" : Str))=false:=by decide):JE X C (.Name x pos) (dC (.int i)) :=
 (zp2 (v:=.int i) hg hm ⟨t,rfl⟩ hd).weak fun σ H Q ⟨G,w,ρ,r,p⟩=>p _ G H w (.refl _ _ _) r (by unfold Rep;rfl)
def dOp(g:Dt->Dt->R Dt)(fa fb:De):De:=fun ρ=>(fa ρ).bind fun a=>(fb a.2).bind fun b=>(g a.1 b.1).bind fun z=>.ok (z,b.2)
def Op2(K:W.Frag)(r:R2)(g:Dt->Dt->R Dt):Prop:=∀(G H:Hp)(x y:V)(dx dy z:Dt)(Q:VK),zcf G H->Rep K G dx x->Rep K G dy y->g dx dy=.ok z ->
 (∀ v G' H',zdE G H G' H'->Rep K G' z v->Q v H')->r x y H Q
def zha(g:Dt->Dt->R Dt):Prop:=∀ x y n,g x y≠.er n
variable{a b:Expr}{fa fb:De}{pos:Pos}
theorem zhr{r:R2}{g:Dt->Dt->R Dt}{σ:L2.St}{H:Hp}{Q:VK}(h2:Op2 X.K r g)(he:zha g)(h:tE X.K C (dOp g fa fb) σ H Q):tOp r (tE X.K C fa) (tE X.K C fb) σ H Q:=by
 obtain ⟨G,w,ρ,rr,p⟩:=h
 refine zch (κ:=fun G H w=>kE X.K C σ Q G H w) zbt rr p fun d ρ1 v G1 H1 w1 r1 s1 q1 p1=>?_
 refine zch (κ:=fun G H w=>kE X.K C σ Q G H w) zbt r1 p1 fun d2 ρ2 v2 G2 H2 w2 r2 s2 q2 p2=>?_
 cases e:g d d2 with
 |ok z =>
  simp only[e,R.bind_ok] at p2
  refine h2 G2 H2 v v2 d d2 z Q r2.gh (q1.same s2.g) q2 e fun v3 G3 H3 gr q3=>?_
  exact p2 v3 G3 H3 w2 gr.step (r2.grow gr) q3
 |er n=>exact absurd e (he _ _ _)
 |no=>simp only[e,R.bind_no] at p2;exact p2.elim
theorem ziG{op:Operator}{r:R2}{g:Dt->Dt->R Dt}(ho:OpR X (binaryOp op) r)(h2:Op2 X.K r g)(he:zha g)(ha:JE X C a fa)(hb:JE X C b fb):JE X C (.BinOp a op b pos) (dOp g fa fb) :=
 (zrB ho ha hb).weak fun σ H Q h=>zhr h2 he h
theorem zhV{op:CmpOp}{r:R2}{g:Dt->Dt->R Dt}(ho:OpR X (compareOp op) r)(h2:Op2 X.K r g)(he:zha g)(ha:JE X C a fa)(hb:JE X C b fb)(hm:behindInMarks op b=false):JE X C (.Compare a [op] [b] pos) (dOp g fa fb) :=
 (zpo ho ha hb hm).weak fun σ H Q h=>zhr h2 he h
def dTB(f:De):DT:=fun ρ=>(f ρ).bind fun a=>match a.1 with
 |.bl b=>.ok (b,a.2)
 |_=>.no
theorem zdw{K:W.Frag}{G:Hp}{b:Bool}{v:V}(h:Rep K G (.bl b) v):v=.bl b:=by unfold Rep at h;exact h
theorem zam{K:W.Frag}{G:Hp}{b:Int}{v:V}(h:Rep K G (.int b) v):v=.int b:=by unfold Rep at h;exact h
theorem zey{K:W.Frag}{G:Hp}{b:Str}{v:V}(h:Rep K G (.str b) v):v=.str b:=by unfold Rep at h;exact h
theorem zfJ{K:W.Frag}{G:Hp}{v:V}(h:Rep K G .non v):v=.non:=by unfold Rep at h;exact h
theorem zhd{K:W.Frag}{G:Hp}{l:List Dt}{v:V}(h:Rep K G (.tup l) v):∃ a vs,v=.ref a/\zhv K G a vs/\zaw K G l vs:=by unfold Rep at h;exact h
theorem zbh{K:W.Frag}{G:Hp}{l:List Dt}{v:V}(h:Rep K G (.tup l) v):∃ a vs,v=.ref a/\SqT K G a vs/\zaw K G l vs:=by
 obtain ⟨a,vs,h1,h2,h3⟩:=zhd h
 exact ⟨a,vs,h1,h2.sq,h3⟩
theorem za7{K:W.Frag}{G:Hp}{l:List Dt}{v:V}(h:Rep K G (.lst l) v):∃ a vs,v=.ref a/\G a=some (.lst vs)/\zaw K G l vs:=by unfold Rep at h;exact h
theorem ziU{f:De}{σ:L2.St}{H:Hp}{Q:Bool->Hp->Prop}(h:tT X.K C (dTB f) σ H Q):tE X.K C f σ H fun x H'=>∃ k,x=.bl k/\Q k H':=by
 obtain ⟨G,w,ρ,r,p⟩:=h
 refine zch (κ:=fun G H w=>kT X.K C σ Q G H w) zgH r p fun d ρ1 v G1 H1 w1 r1 s1 q1 p1=>?_
 cases d with
 |bl b=>exact ⟨b,zdw q1,p1 G1 H1 w1 (.refl _ _ _) r1⟩
 |_=>exact p1.elim
theorem zfK{op:CmpOp}{r:R2}{g:Dt->Dt->R Dt}(ho:OpR X (compareOp op) r)(h2:Op2 X.K r g)(he:zha g)(ha:JE X C a fa)(hb:JE X C b fb)(hm:behindInMarks op b=false):JT X C (.Compare a [op] [b] pos) (dTB (dOp g fa fb)) :=
 (zli ho ha hb hm).weak fun σ H Q h=>by
  have h':=ziU h
  exact zhr h2 he h'
theorem zf8{e:Expr}{f:De}(h:JE X C e f)(he:∀ whole,isTrue e X.env whole=(do let v <- whole;standAt e.pos;holding [v] (truthy v)):=by intro _;rfl):JT X C e (dTB f) :=
 (zro h he).weak fun σ H Q h=>ziU h
def zeF(f:DT):DT:=fun ρ=>(f ρ).bind fun a=>.ok (!a.1,a.2)
def zd7(f g:DT):DT:=fun ρ=>(f ρ).bind fun a=>if a.1=true then g a.2 else .ok (false,a.2)
def zkJ(f g:DT):DT:=fun ρ=>(f ρ).bind fun a=>if a.1=true then .ok (true,a.2) else g a.2
variable{tA tB':DT}{zay:List Expr}
theorem zjI(ha:JT X C a tA):JT X C (.UnaryOp .Not a pos) (zeF tA):=(zqX ha).weak fun σ H Q ⟨G,w,ρ,r,p⟩ =>
 zq3 (κ:=fun G H w=>kT X.K C σ Q G H w) zgH r p fun b ρ1 G1 H1 w1 r1 s1 p1=>p1 G1 H1 w1 (.refl _ _ _) r1
theorem zft(ha:JT X C a tA):JW X C (.BoolOp .And [a] pos) tA:=zqj ha
theorem zjP(ha:JT X C a tA):JW X C (.BoolOp .Or [a] pos) tA:=zqF ha
theorem zhU(ha:JT X C a tA)(hb:JW X C (.BoolOp .And (b::zay) pos) tB'):JW X C (.BoolOp .And (a::b::zay) pos) (zd7 tA tB'):=(zqQ ha hb).weak fun σ H Q ⟨G,w,ρ,r,p⟩=>by
 refine zq3 (κ:=fun G H w=>kT X.K C σ Q G H w) zgH r p fun b ρ1 G1 H1 w1 r1 s1 p1=>?_
 cases b with
 |true=>exact ⟨G1,w1,ρ1,r1,p1⟩
 |false=>exact p1 G1 H1 w1 (.refl _ _ _) r1
theorem zmf(ha:JT X C a tA)(hb:JW X C (.BoolOp .Or (b::zay) pos) tB'):JW X C (.BoolOp .Or (a::b::zay) pos) (zkJ tA tB'):=(zte ha hb).weak fun σ H Q ⟨G,w,ρ,r,p⟩=>by
 refine zq3 (κ:=fun G H w=>kT X.K C σ Q G H w) zgH r p fun b ρ1 G1 H1 w1 r1 s1 p1=>?_
 cases b with
 |true=>exact p1 G1 H1 w1 (.refl _ _ _) r1
 |false=>exact ⟨G1,w1,ρ1,r1,p1⟩
theorem JW.jt{e:Expr}{f:DT}(h:JW X C e f):JT X C e f:=PW.pt h
def zht(fa fb:De):De:=fun ρ=>(fa ρ).bind fun a=>match a.1 with
 |.bl true=>fb a.2
 |.bl false=>.ok (.bl false,a.2)
 |_=>.no
def zsQ(fa:De):De:=fun ρ=>(fa ρ).bind fun a=>match a.1 with
 |.bl b=>.ok (.bl (!b),a.2)
 |_=>.no
theorem zg1{op}{f:De}(h:JE X C a f):JE X C (.BoolOp op [a] pos) f:=zry h
theorem zeQ(ha:JE X C a fa)(hb:JE X C (.BoolOp .And (b::zay) pos) fb):JE X C (.BoolOp .And (a::b::zay) pos) (zht fa fb):=(zsq ha hb).weak fun σ H Q ⟨G,w,ρ,r,p⟩=>by
 refine zch (κ:=fun G H w=>kE X.K C σ Q G H w) zbt r p fun d ρ1 v G1 H1 w1 r1 s1 q1 p1=>?_
 cases d with
 |bl b =>
  refine ⟨b,zdw q1,?_⟩
  cases b with
  |true=>exact ⟨G1,w1,ρ1,r1,p1⟩
  |false=>exact p1 _ G1 H1 w1 (.refl _ _ _) r1 (by unfold Rep;rfl)
 |_=>exact p1.elim
theorem zrc(ha:JE X C a fa):JE X C (.UnaryOp .Not a pos) (zsQ fa):=(zqT ha).weak fun σ H Q ⟨G,w,ρ,r,p⟩=>by
 refine zch (κ:=fun G H w=>kE X.K C σ Q G H w) zbt r p fun d ρ1 v G1 H1 w1 r1 s1 q1 p1=>?_
 cases d with
 |bl b=>exact ⟨b,zdw q1,p1 _ G1 H1 w1 (.refl _ _ _) r1 (by unfold Rep;rfl)⟩
 |_=>exact p1.elim
def zpt(t:DT)(fa fb:De):De:=fun ρ=>(t ρ).bind fun c=>if c.1=true then fa c.2 else fb c.2
theorem zo4{c:Expr}(hc:JT X C c tA)(ha:JE X C a fa)(hb:JE X C b fb):JE X C (.IfExp c a b pos) (zpt tA fa fb):=(zn3 hc ha hb).weak fun σ H Q ⟨G,w,ρ,r,p⟩=>by
 refine zq3 (κ:=fun G H w=>kE X.K C σ Q G H w) zbt r p fun b ρ1 G1 H1 w1 r1 s1 p1=>?_
 cases b with
 |true=>exact ⟨G1,w1,ρ1,r1,p1⟩
 |false=>exact ⟨G1,w1,ρ1,r1,p1⟩
abbrev DA:=Ev->R (List Dt×Ev)
def kA(K:W.Frag)(C:Cn)(σ:L2.St)(Q:List V->Hp->Prop)(G H:Hp)(w:Wn)(a:List Dt×Ev):Prop :=
 ∀ vs G' H' w',zaN G H w G' H' w'->Rel K C G' w' a.2 σ H'->zaw K G' a.1 vs->Q vs H'
theorem zqH{K:W.Frag}{σ:L2.St}{Q:List V->Hp->Prop}:Stp (fun G H w=>kA K C σ Q G H w):=fun _ _ _ _ _ _ _ s k v G' H' w' s'=>k v G' H' w' (s.trans s')
def tAd(K:W.Frag)(C:Cn)(f:DA):TA:=fun σ H Q=>∃ G w ρ,Rel K C G w ρ σ H/\zbJ C.ex (kA K C σ Q G H w) (f ρ)
abbrev JA(X:Cx)(C:Cn)(es:List Expr)(f:DA):Prop:=PA X es (tAd X.K C f)
def dA0:DA:=fun ρ=>.ok ([],ρ)
def dA(fa:De)(fr:DA):DA:=fun ρ=>(fa ρ).bind fun a=>(fr a.2).bind fun b=>.ok (a.1::b.1,b.2)
theorem zrW{K:W.Frag}{σ:L2.St}{α:Type}{κ:zn7 α}(st:Stp κ){G H:Hp}{w:Wn}{ρ:Ev}{fa:DA}{g:List Dt×Ev->R α}{Q:List V->Hp->Prop}(r:Rel K C G w ρ σ H)(p:zbJ C.ex (κ G H w) ((fa ρ).bind g))
  (k:∀ ds ρ1 vs G1 H1 w1,Rel K C G1 w1 ρ1 σ H1->zaN G H w G1 H1 w1->zaw K G1 ds vs->zbJ C.ex (κ G1 H1 w1) (g (ds,ρ1))->Q vs H1):tAd K C fa σ H Q:=by
 refine ⟨G,w,ρ,r,?_⟩
 cases e:fa ρ with
 |ok a =>
  rw[e] at p
  intro v G' H' w' s' r' q
  exact k a.1 a.2 v G' H' w' r' s' q (zbJ.step st s' p)
 |er n=>rw[e] at p;exact p
 |no=>rw[e] at p;exact p
theorem zaz:JA X C [] dA0:=PA.weak zdi fun σ H Q ⟨G,w,ρ,r,p⟩=>p _ G H w (.refl _ _ _) r zaw.nil
theorem zai{e:Expr}{es:List Expr}{fr:DA}(ha:JE X C e fa)(hr:JA X C es fr)(hs:starEach (e::es) X.env=(false,eval e X.env)::starEach es X.env:=by rfl):JA X C (e::es) (dA fa fr) :=
 (zbi ha hr hs).weak fun σ H Q ⟨G,w,ρ,r,p⟩=>by
  refine zch (κ:=fun G H w=>kA X.K C σ Q G H w) zqH r p fun d ρ1 v G1 H1 w1 r1 s1 q1 p1=>?_
  refine zrW (κ:=fun G H w=>kA X.K C σ Q G H w) zqH r1 p1 fun ds ρ2 vs G2 H2 w2 r2 s2 q2 p2=>?_
  exact p2 _ G2 H2 w2 (.refl _ _ _) r2 (zaw.cons (q1.same s2.g) q2)
def zfQ{α:Type}(l:List α):Bool:=decide (l.length<=16777216)
def zdC(f:DA):De:=fun ρ=>(f ρ).bind fun a=>if zfQ a.1=true then .ok (.tup a.1,a.2) else .no
def zd5(f:DA):DN:=fun ρ=>(f ρ).bind fun a=>if zfQ a.1=true then .ok (a.1,a.2) else .no
theorem zhk{α:Type}{l:List α}(h:zfQ l=true):l.length<=sizeLine:=by
 have:=of_decide_eq_true h
 rw[show sizeLine=16777216 from by decide];exact this
theorem zc6{x1}{es:List Expr}{f:DA}(h:JA X C es f):JE X C (.Tuple es x1 pos) (zdC f):=(zo5 h).weak fun σ H Q ⟨G,w,ρ,r,p⟩=>by
 refine zrW (κ:=fun G H w=>kE X.K C σ Q G H w) zbt r p fun ds ρ1 vs G1 H1 w1 r1 s1 q1 p1=>?_
 by_cases hf:zfQ ds=true
 ·simp only[hf,if_true] at p1
  refine ⟨by rw[<- q1.length];exact zhk hf,fun a ha=>?_⟩
  have gr:zdE G1 H1 (upd G1 a (.tup vs)) (upd H1 a (.tup vs)):=.new r1.gh ha
  exact p1 _ _ _ w1 gr.step (r1.grow gr) (by unfold Rep;exact ⟨a,vs,rfl,zhv.of zal,q1.same gr.g⟩)
 ·simp only[hf] at p1;exact p1.elim
theorem zcj{es:List Expr}{f:DA}(h:JA X C es f):JN X C (.List es pos) (zd5 f):=(zre h).weak fun σ H Q ⟨G,w,ρ,r,p⟩=>by
 refine zrW (κ:=fun G H w=>kN X.K C σ Q G H w) zgh r p fun ds ρ1 vs G1 H1 w1 r1 s1 q1 p1=>?_
 by_cases hf:zfQ ds=true
 ·simp only[hf,if_true] at p1
  refine ⟨by rw[<- q1.length];exact zhk hf,fun a ha=>?_⟩
  have gr:zdE G1 H1 G1 (upd H1 a (.lst vs)):=.newH r1.gh ha
  exact p1 a vs _ _ w1 gr.step (r1.grow gr) ha zal (r1.gh.free ha) (by
   cases z:w1 a with
   |none=>rfl
   |some k=>exact absurd ha (r1.wh a (by rw[z];simp))) q1
 ·simp only[hf] at p1;exact p1.elim
def dFz(f:DN):De:=fun ρ=>(f ρ).bind fun a=>.ok (.lst a.1,a.2)
theorem Rel.know{K:W.Frag}{σ:L2.St}{G H:Hp}{w:Wn}{ρ:Ev}{p:Addr}{o:HO}(r:Rel K C G w ρ σ H)(hp:H p=some o)(hg:G p=none)(hw:w p=none)(H0:Hp)(G0:Hp)(w0:Wn)(s:zaN G0 H0 w0 G H w)(h0:H0 p=none)
  (e0:C.H₀ p=none\/C.w₀ p≠none\/C.G₀ p≠none):Rel K C (upd G p o) w ρ σ H/\zaN G0 H0 w0 (upd G p o) H w:=by
 have sg:zcf G (upd G p o):=fun b u e=>by rw[zad (zaf e hg)];exact e
 have s1:∀{G1 H1:Hp}{w1:Wn},zaN G1 H1 w1 G H w->(H1 p=none\/w1 p≠none\/G1 p≠none)->zaN G1 H1 w1 (upd G p o) H w:=fun s z=>by
  refine ⟨s.g.trans sg,fun b u e=>?_,s.h,s.w,s.k⟩
  by_cases hb:b=p
  ·subst hb
   rcases z with z|z|z
   ·exact .inr (.inl z)
   ·exact .inr (.inr z)
   ·exact .inl z
  ·rw[zad hb] at e;exact s.fr b u e
 refine ⟨⟨fun b u e=>?_,fun b e=>?_,r.wh,r.len,fun i b e=>?_,s1 r.en e0,r.pin⟩,s1 s (.inl h0)⟩
 ·by_cases hb:b=p
  ·subst hb;rw[zal] at e;cases e;exact hp
  ·rw[zad hb] at e;exact r.gh b u e
 ·by_cases hb:b=p
  ·subst hb;rw[hw] at e;exact absurd rfl e
  ·rw[zad hb];exact r.wg b e
 ·obtain ⟨v,h1,h2⟩:=r.sl i b e
  exact ⟨v,h1,h2.grow sg fun _ _ e1 e2=>⟨e2,e1⟩⟩
end
section
variable{X:Cx}{C:Cn}{a b e:Expr}{fa fb:De}{pos:Pos}
theorem zbf{f:DN}(h:JN X C e f):JE X C e (dFz f):=PE.weak h fun σ H Q ⟨G,w,ρ,r,p⟩=>by
 refine zsA (κ:=fun G H w=>kE X.K C σ Q G H w) r p fun ds ρ1 a vs G1 H1 w1 r1 s1 h0 h1 h2 h3 q1 p1=>?_
 obtain ⟨r',s'⟩:=r1.know h1 h2 h3 H G w s1 h0 (.inl (r.en.k a h0))
 have sg:zcf G1 (upd G1 a (.lst vs)):=fun b u e=>by rw[zad (zaf e h2)];exact e
 exact p1 _ _ _ _ s' r' (by unfold Rep;exact ⟨a,vs,rfl,zal,q1.same sg⟩)
def zaP(f g:DS):DS:=fun ρ=>(f ρ).bind fun a=>match a.1 with
 |.nx=>g a.2
 |fl=>.ok (fl,a.2)
def dNx:DS:=fun ρ=>.ok (.nx,ρ)
variable{st:Stmt}{zay:List Stmt}{fs gs:DS}
theorem zaT:JSs X C [] dNx:=PSs.weak zpz fun D σ H ⟨G,w,ρ,r,p⟩=>p σ G H w (.refl _ _ _) r
theorem zah(h1:JS X C st fs)(h2:JSs X C zay gs):JSs X C (st::zay) (zaP fs gs):=PSs.weak (zny h1 h2) fun D σ H ⟨G,w,ρ,r,p⟩=>by
 refine ⟨G,w,ρ,r,?_⟩
 unfold zaP at p
 cases e:fs ρ with
 |ok x =>
  rw[e] at p
  obtain ⟨fl,ρ1⟩:=x
  cases fl with
  |nx=>exact fun σ' G' H' w' s' r'=>⟨G',w',ρ1,r',zbJ.step zcX s' p⟩
  |bk=>exact p
  |ct=>exact p
  |rt d=>exact p
 |er n=>rw[e] at p;exact p
 |no=>rw[e] at p;exact p
theorem zak(h1:JS X C st fs):JSs X C [st] fs:=zpO h1
def dEx(f:De):DS:=fun ρ=>(f ρ).bind fun a=>.ok (.nx,a.2)
theorem zdc(he:JE X C e fa)(hs:swapsWith e none pos.line X.env=pure false:=by rfl):JS X C (.Expr e pos) (dEx fa):=PS.weak (zpH he hs) fun D σ H ⟨G,w,ρ,r,p⟩ =>
 zch (κ:=fun G H w=>kS X.K C D G H w) zcX r p fun d ρ1 v G1 H1 w1 r1 s1 q1 p1=>p1 σ G1 H1 w1 (.refl _ _ _) r1
def zcl(f:De):DS:=fun ρ=>(f ρ).bind fun a=>.ok (.rt a.1,a.2)
theorem zaC(hn:C.nw=false)(he:JE X C e fa):JS X C (.Return (some e) pos) (zcl fa):=PS.weak (zou he) fun D σ H ⟨G,w,ρ,r,p⟩ =>
 zch (κ:=fun G H w=>kS X.K C D G H w) zcX r p fun d ρ1 v G1 H1 w1 r1 s1 q1 p1=>p1 v σ G1 H1 w1 (.refl _ _ _) r1 (by rw[hn];exact q1)
def zlV(f:DN):DS:=fun ρ=>(f ρ).bind fun a=>.ok (.rt (.lst a.1),a.2)
theorem zme{f:DN}(hn:C.nw=true)(he:JN X C e f):JS X C (.Return (some e) pos) (zlV f):=PS.weak (zou he) fun D σ H ⟨G,w,ρ,r,p⟩ =>
 zsA (κ:=fun G H w=>kS X.K C D G H w) r p fun ds ρ1 a vs G1 H1 w1 r1 s1 h0 h1 h2 h3 q1 p1=>p1 _ σ G1 H1 w1 s1 r1 (by rw[hn];exact ⟨ds,a,vs,rfl,rfl,r.en.k a h0,h1,h2,h3,q1⟩)
def dIf(c:DT)(f g:DS):DS:=fun ρ=>(c ρ).bind fun b=>if b.1=true then f b.2 else g b.2
theorem zcP{c:Expr}{A B:List Stmt}{tc:DT}(hc:JT X C c tc)(ha:JSs X C A fs)(hb:JSs X C B gs):JS X C (.If c A B pos) (dIf tc fs gs):=PS.weak (zts hc ha hb) fun D σ H ⟨G,w,ρ,r,p⟩=>by
 refine zq3 (κ:=fun G H w=>kS X.K C D G H w) zcX r p fun b ρ1 G1 H1 w1 r1 s1 p1=>?_
 cases b with
 |true=>exact ⟨G1,w1,ρ1,r1,p1⟩
 |false=>exact ⟨G1,w1,ρ1,r1,p1⟩
theorem Rel.setVal{K:W.Frag}{σ:L2.St}{G H:Hp}{w:Wn}{ρ:Ev}{i:Nat}{d:Dt}{v:V}(r:Rel K C G w ρ σ H)(hi:i < ρ.length)(hp:i∉C.pp)(h:Rep K G d v):Rel K C G w (ρ.set i (some (.val d))) (σ.set i (some v)) H:=by
 refine ⟨r.gh,r.wg,r.wh,by simpa using r.len,fun j b e=>?_,r.en,fun j hj=>?_⟩
 ·by_cases hj:j=i
  ·subst hj
   rw[List.getElem?_set_self hi] at e
   cases e
   exact ⟨v,List.getElem?_set_self (by rw[<- r.len];exact hi),h⟩
  ·rw[List.getElem?_set_ne (Ne.symm hj)] at e
   obtain ⟨v',h1,h2⟩:=r.sl j b e
   exact ⟨v',by rw[List.getElem?_set_ne (Ne.symm hj)];exact h1,h2⟩
 ·have:i≠j:=fun z=>hp (z ▸ hj)
  rw[List.getElem?_set_ne this];exact r.pin j hj
theorem Rel.setOwn{K:W.Frag}{σ:L2.St}{G0 H0:Hp}{w0:Wn}{G H:Hp}{w:Wn}{ρ:Ev}{i:Nat}{ds:List Dt}{p:Addr}{vs:List V}(r:Rel K C G w ρ σ H)(hi:i < ρ.length)(hpp:i∉C.pp)(hp:H p=some (.lst vs))(hg:G p=none)(hw:w p=none)
  (q:zaw K G ds vs) (s:zaN G0 H0 w0 G H w) (h0:H0 p=none) (en0:C.H₀ p=none) :
  Rel K C G (fun b=>if b=p then some i else w b) (ρ.set i (some (.own ds))) (σ.set i (some (.ref p))) H/\zaN G0 H0 w0 G H (fun b=>if b=p then some i else w b):=by
 have s1:∀{G1 H1:Hp}{w1:Wn},zaN G1 H1 w1 G H w->H1 p=none->zaN G1 H1 w1 G H (fun b=>if b=p then some i else w b):=fun s z=>by
  refine ⟨s.g,s.fr,s.h,fun b e=>?_,s.k⟩
  by_cases hb:b=p
  ·subst hb;exact .inr z
  ·simp[hb] at e;exact s.w b e
 refine ⟨⟨r.gh,fun b e=>?_,fun b e=>?_,by simpa using r.len,fun j b e=>?_,s1 r.en en0,fun j hj=>?_⟩,s1 s h0⟩
 ·by_cases hb:b=p
  ·subst hb;exact hg
  ·simp[hb] at e;exact r.wg b e
 ·by_cases hb:b=p
  ·subst hb;rw[hp];simp
  ·simp[hb] at e;exact r.wh b e
 ·by_cases hj:j=i
  ·subst hj
   rw[List.getElem?_set_self hi] at e
   cases e
   exact ⟨_,List.getElem?_set_self (by rw[<- r.len];exact hi),p,vs,rfl,by simp,hp,q⟩
  ·rw[List.getElem?_set_ne (Ne.symm hj)] at e
   obtain ⟨v',h1,h2⟩:=r.sl j b e
   refine ⟨v',by rw[List.getElem?_set_ne (Ne.symm hj)];exact h1,h2.grow (.refl _) fun a o e1 e2=>⟨e2,?_⟩⟩
   have:a≠p:=fun z=>by subst z;rw[hw] at e1;cases e1
   simp[this,e1]
 ·have:i≠j:=fun z=>hpp (z ▸ hj)
  rw[List.getElem?_set_ne this];exact r.pin j hj
def zbT(i:Nat)(f:De):DS:=fun ρ=>(f ρ).bind fun a=>if i<a.2.length then .ok (.nx,a.2.set i (some (.val a.1))) else .no
theorem zb0{i:Nat}{x:Str}{pos':Pos}(hN:X.N.Nodup)(hi:X.N[i]? = some x)(hx:Loc X.env.scope x)(hp:i∉C.pp)(he:JE X C e fa)(hs:swapsWith e (some (.Name x pos')) pos.line X.env=pure false:=by rfl)
  (hf:X.fn x=true\/X.env.scope.names.lookup x=some .local:=by first|exact .inl rfl|exact .inr rfl|assumption):JS X C (.Assign [.Name x pos'] e pos) (zbT i fa) :=
 PS.weak (zkL hN hi hx he hs) fun D σ H ⟨G,w,ρ,r,p⟩=>by
  refine zch (κ:=fun G H w=>kS X.K C D G H w) zcX r p fun d ρ1 v G1 H1 w1 r1 s1 q1 p1=>?_
  by_cases hl:i < ρ1.length
  ·simp only[hl,if_true] at p1
   exact p1 _ G1 H1 w1 (.refl _ _ _) (r1.setVal hl hp q1)
  ·simp only[hl,if_false] at p1
   exact p1.elim
def zcG(i:Nat)(f:DN):DS:=fun ρ=>(f ρ).bind fun a=>if i<a.2.length then .ok (.nx,a.2.set i (some (.own a.1))) else .no
theorem zeA{i:Nat}{x:Str}{pos':Pos}{f:DN}(hN:X.N.Nodup)(hi:X.N[i]? = some x)(hx:Loc X.env.scope x)(hp:i∉C.pp)(he:JN X C e f)(hs:swapsWith e (some (.Name x pos')) pos.line X.env=pure false:=by rfl)
  (hf:X.fn x=true\/X.env.scope.names.lookup x=some .local:=by first|exact .inl rfl|exact .inr rfl|assumption):JS X C (.Assign [.Name x pos'] e pos) (zcG i f) :=
 PS.weak (zkL hN hi hx he hs) fun D σ H ⟨G,w,ρ,r,p⟩=>by
  refine zsA (κ:=fun G H w=>kS X.K C D G H w) r p fun ds ρ1 a vs G1 H1 w1 r1 s1 h0 h1 h2 h3 q1 p1=>?_
  by_cases hl:i < ρ1.length
  ·simp only[hl,if_true] at p1
   obtain ⟨r',s'⟩:=r1.setOwn hl hp h1 h2 h3 q1 s1 h0 (r.en.k a h0)
   exact p1 _ _ _ _ s' r'
  ·simp only[hl,if_false] at p1
   exact p1.elim
def zlh(i:Nat)(fb:De):De:=fun ρ=>match ρ[i]? with
 |some (some _)=>(fb ρ).bind fun b=>match b.2[i]?,b.1 with
  |some (some (.own ds)),.int k=>match atI ds k with
   |some d=>.ok (d,b.2)
   |none=>.no
  |_,_=>.no
 |_=>.no
theorem zhe{K:W.Frag}{G:Hp}{ds:List Dt}{vs:List V}{k:Int}{d:Dt}(h:zaw K G ds vs)(e:atI ds k=some d):∃ v,atI vs k=some v/\Rep K G d v:=by
 unfold atI at e ⊢
 rw[<- h.length]
 cases q:ixN ds.length k with
 |none=>rw[q] at e;cases e
 |some j =>
  rw[q] at e
  exact h.get e
theorem zfA(i:Nat){x:Str}{ps:Pos}(hN:X.N[i]? = some x:=by rfl)(hb:JE X C b fb)(hv:Vis X.env.scope x:=by first|exact Or.inl rfl|exact Or.inr (Or.inl rfl)|exact Or.inr (Or.inr rfl))(hd:(x == ("__debug__" : Str))=false:=by decide)
  (hcd:(x == ("__classdict__" : Str))=false:=by decide) (hs:zi9 b:=by exact fun _ _=>rfl):JE X C (.Subscript (.Name x ps) b pos) (zlh i fb) :=
 PE.weak (zqG zm5 (zb1 hN hv hd hcd) hb hs) fun σ H Q ⟨G,w,ρ,r,p⟩=>by
  unfold zlh at p
  split at p
  ·rename_i b0 e0
   obtain ⟨v0,h0,_⟩:=r.sl i b0 e0
   refine ⟨v0,h0,?_⟩
   refine zch (κ:=fun G H w=>kE X.K C σ Q G H w) zbt r p fun d ρ1 v G1 H1 w1 r1 s1 q1 p1=>?_
   dsimp only at p1
   split at p1
   ·rename_i ds k e1
    obtain ⟨v1,h1,a,vs,rfl,h2,h3,h4⟩:=r1.sl i _ e1
    rw[h0] at h1;cases h1
    split at p1
    ·rename_i d' e2
     obtain ⟨v2,h5,h6⟩:=zhe h4 e2
     exact ⟨a,vs,k,v2,rfl,zam q1,SqL.of h3,h5,p1 v2 G1 H1 w1 (.refl _ _ _) r1 h6⟩
    ·exact p1.elim
   ·exact p1.elim
  ·exact p.elim
end
def zlJ(K:W.Frag)(J:It)(G:Hp)(ds:List Dt):Prop:=∀(i:Nat)(G1 H:Hp),zcf G G1->zcf G1 H ->
 (∀ d,ds[i]? = some d->J.go i H/\∀ x H',J.yld i H x H'->∃ G2,zdE G1 H G2 H'/\Rep K G2 d x)/\(ds.length<=i->J.stop i H)
def kI(K:W.Frag)(C:Cn)(σ:L2.St)(Q:It->Hp->Prop)(G H:Hp)(w:Wn)(a:List Dt×Ev):Prop :=
 ∀ J G' H' w',zaN G H w G' H' w'->Rel K C G' w' a.2 σ H'->zlJ K J G' a.1->Q J H'
def tI(K:W.Frag)(C:Cn)(f:DA):TI:=fun σ H Q=>∃ G w ρ,Rel K C G w ρ σ H/\zbJ C.ex (kI K C σ Q G H w) (f ρ)
abbrev JI(X:Cx)(C:Cn)(tg iter:Expr)(f:DA):Prop:=PI X tg iter (tI X.K C f)
section
variable{X:Cx}{C:Cn}{tg iter:Expr}{fa:De}{pos:Pos}
theorem zsV{K:W.Frag}{σ:L2.St}{α:Type}{κ:zn7 α}(st:Stp κ){G H:Hp}{w:Wn}{ρ:Ev}{fa:DA}{g:List Dt×Ev->R α}{Q:It->Hp->Prop}(r:Rel K C G w ρ σ H)(p:zbJ C.ex (κ G H w) ((fa ρ).bind g))
  (k:∀ ds ρ1 J G1 H1 w1,Rel K C G1 w1 ρ1 σ H1->zaN G H w G1 H1 w1->zlJ K J G1 ds->zbJ C.ex (κ G1 H1 w1) (g (ds,ρ1))->Q J H1):tI K C fa σ H Q:=by
 refine ⟨G,w,ρ,r,?_⟩
 cases e:fa ρ with
 |ok a =>
  rw[e] at p
  intro v G' H' w' s' r' q
  exact k a.1 a.2 v G' H' w' r' s' q (zbJ.step st s' p)
 |er n=>rw[e] at p;exact p
 |no=>rw[e] at p;exact p
theorem PI.or{t t':TI}(h:PI X tg iter t)(h':PI X tg iter t'):PI X tg iter (fun σ H Q=>t σ H Q\/t' σ H Q):=fun pins s σ H Q I q=>q.elim (h pins s σ H Q I) (h' pins s σ H Q I)
theorem PI.weak{t t':TI}(h:PI X tg iter t)(k:∀ σ H Q,t' σ H Q->t σ H Q):PI X tg iter t':=fun pins s σ H Q I q=>h pins s σ H Q I (k σ H Q q)
def dIt(f:De):DA:=fun ρ=>(f ρ).bind fun a=>match a.1 with
 |.lst l=>.ok (l,a.2)
 |.tup l=>.ok (l,a.2)
 |_=>.no
theorem zrG{K:W.Frag}{G:Hp}{a:Addr}{vs:List V}{ds:List Dt}(hs:SqT K G a vs)(q:zaw K G ds vs):zlJ K (Itt K a) G ds:=fun i G1 H s1 s2=>by
 refine ⟨fun d e=>?_,fun h=>⟨vs,za5 s2 (za5 s1 hs),by rw[<- q.length];exact h⟩⟩
 obtain ⟨v,e1,e2⟩:=q.get e
 refine ⟨⟨vs,v,za5 s2 (za5 s1 hs),e1⟩,fun x H' y=>?_⟩
 obtain ⟨rfl,y⟩:=y
 have:=y vs (za5 s2 (za5 s1 hs))
 rw[e1] at this;cases this
 exact ⟨G1,.refl s2,e2.same s1⟩
theorem zpl{K:W.Frag}{G:Hp}{a:Addr}{vs:List V}{ds:List Dt}(hs:SqL K G a vs)(q:zaw K G ds vs):zlJ K (Itl K a) G ds:=fun i G1 H s1 s2=>by
 refine ⟨fun d e=>?_,fun h=>⟨vs,s2.seq (s1.seq hs),by rw[<- q.length];exact h⟩⟩
 obtain ⟨v,e1,e2⟩:=q.get e
 refine ⟨⟨vs,v,s2.seq (s1.seq hs),e1⟩,fun x H' y=>?_⟩
 obtain ⟨rfl,y⟩:=y
 have:=y vs (s2.seq (s1.seq hs))
 rw[e1] at this;cases this
 exact ⟨G1,.refl s2,e2.same s1⟩
theorem zcz(h:JE X C iter fa):JI X C tg iter (dIt fa):=PI.weak (PI.or (zqx h) (zsw h)) fun σ H Q ⟨G,w,ρ,r,p⟩=>by
 unfold dIt at p
 cases e:fa ρ with
 |ok x =>
  obtain ⟨d,ρ1⟩:=x
  cases d with
  |lst l =>
   rw[e] at p
   refine .inl ⟨G,w,ρ,r,?_⟩
   rw[e]
   intro v G' H' w' s' r' q
   obtain ⟨a,vs,rfl,h1,h2⟩:=za7 q
   exact ⟨a,rfl,⟨vs,SqL.of (r'.gh _ _ h1)⟩,p _ G' H' w' s' r' (zpl (SqL.of h1) h2)⟩
  |tup l =>
   rw[e] at p
   refine .inr ⟨G,w,ρ,r,?_⟩
   rw[e]
   intro v G' H' w' s' r' q
   obtain ⟨a,vs,rfl,h1,h2⟩:=zbh q
   exact ⟨a,rfl,⟨vs,za5 r'.gh h1⟩,p _ G' H' w' s' r' (zrG h1 h2)⟩
  |_=>rw[e] at p;exact p.elim
 |er n=>rw[e] at p;exact .inl ⟨G,w,ρ,r,by rw[e];exact p⟩
 |no=>rw[e] at p;exact p.elim
def zaL(lo:Int)(n:Nat):List Dt:=(List.range n).map fun k=>.int (lo+(k:Nat))
theorem zop{K:W.Frag}{G:Hp}{lo:Int}{n:Nat}:zlJ K (Itr lo n) G (zaL lo n):=fun i G1 H s1 s2=>by
 refine ⟨fun d e=>?_,fun h=>show n<=i by simpa [zaL] using h⟩
 unfold zaL at e
 rw[List.getElem?_map] at e
 by_cases hi:i<n
 ·rw[List.getElem?_range hi] at e
  cases e
  refine ⟨hi,fun x H' y=>?_⟩
  obtain ⟨rfl,rfl⟩:=y
  exact ⟨G1,.refl s2,by unfold Rep;rfl⟩
 ·rw[List.getElem?_eq_none (by simpa using hi)] at e
  cases e
def zcv(j:Int):Bool:=decide (-4611686018427387904<=j) && decide (j<4611686018427387904)
theorem zcJ{j:Int}(h:zcv j=true):-(2 ^ 62)<=j/\j<2 ^ 62:=by
 unfold zcv at h
 rw[Bool.and_eq_true] at h
 have h1:=of_decide_eq_true h.1
 have h2:=of_decide_eq_true h.2
 omega
def zbm(fa:De):DA:=fun ρ=>(fa ρ).bind fun a=>match a.1 with
 |.int j=>if zcv j=true then .ok (zaL 0 j.toNat,a.2) else .no
 |_=>.no
def zdJ(fa fb:De):DA:=fun ρ=>(fa ρ).bind fun a=>(fb a.2).bind fun b=>match a.1,b.1 with
 |.int i,.int j=>if (zcv i && zcv j)=true then .ok (zaL i (j-i).toNat,b.2) else .no
 |_,_=>.no
theorem zbj{e:Expr}{p ps:Pos}(hg:Gl X "range")(hm:X.mg "range"=none)(he:JE X C e fa)(hs:starEach [e] X.env=[(false,eval e X.env)]:=by rfl):JI X C tg (.Call (.Name "range" p) [e] [] ps) (zbm fa) :=
 PI.weak (zmh hg hm (zai he zaz (by rw[hs];rfl)) hs) fun σ H Q ⟨G,w,ρ,r,p⟩=>by
  unfold zbm at p
  refine ⟨G,w,ρ,r,?_⟩
  unfold dA dA0
  cases e:fa ρ with
  |ok x =>
   obtain ⟨d,ρ1⟩:=x
   rw[e] at p
   intro vs G' H' w' s' r' q
   obtain ⟨v,t,rfl,q1,q2⟩:=q.cons_inv
   rw[q2.nil_inv]
   cases d with
   |int j =>
    simp only[R.bind_ok] at p
    by_cases hj:zcv j=true
    ·simp only[hj,if_true] at p
     exact ⟨j,by rw[zam q1],(zcJ hj).1,(zcJ hj).2,p _ G' H' w' s' r' zop⟩
    ·simp only[hj] at p;exact p.elim
   |_=>exact p.elim
  |er n=>rw[e] at p;exact p
  |no=>rw[e] at p;exact p
theorem zhu{e e':Expr}{fb:De}{p ps:Pos}(hg:Gl X "range")(hm:X.mg "range"=none)(he:JE X C e fa)(he':JE X C e' fb)(hs:starEach [e,e'] X.env=[(false,eval e X.env),(false,eval e' X.env)]:=by rfl)(hs2:starEach [e'] X.env=[(false,eval e' X.env)]:=by rfl) :
  JI X C tg (.Call (.Name "range" p) [e,e'] [] ps) (zdJ fa fb) :=
 PI.weak (zkO hg hm (zai he (zai he' zaz (by rw[hs2];rfl)) (by rw[hs,hs2])) hs hs2) fun σ H Q ⟨G,w,ρ,r,p⟩=>by
  unfold zdJ at p
  refine ⟨G,w,ρ,r,?_⟩
  unfold dA dA0
  cases e:fa ρ with
  |ok x =>
   obtain ⟨d,ρ1⟩:=x
   rw[e] at p
   simp only[R.bind_ok] at p ⊢
   cases e2:fb ρ1 with
   |ok y =>
    obtain ⟨d2,ρ2⟩:=y
    rw[e2] at p
    intro vs G' H' w' s' r' q
    obtain ⟨v,t,rfl,q1,q2⟩:=q.cons_inv
    obtain ⟨v2,t2,rfl,q3,q4⟩:=q2.cons_inv
    rw[q4.nil_inv]
    simp only[R.bind_ok] at p
    cases d with
    |int i =>
     cases d2 with
     |int j =>
      simp only at p
      by_cases hj:(zcv i && zcv j)=true
      ·simp only[hj,if_true] at p
       rw[Bool.and_eq_true] at hj
       exact ⟨i,j,by rw[zam q1,zam q3],⟨(zcJ hj.1).1,(zcJ hj.1).2,(zcJ hj.2).1,(zcJ hj.2).2⟩,p _ G' H' w' s' r' zop⟩
      ·simp only[hj] at p;exact p.elim
     |_=>exact p.elim
    |_=>exact p.elim
   |er n=>rw[e2] at p;exact p
   |no=>rw[e2] at p;exact p
  |er n=>rw[e] at p;exact p
  |no=>rw[e] at p;exact p
abbrev DG:=Dt->Ev->R Ev
def kG(K:W.Frag)(C:Cn)(Q:L2.St->Hp->Prop)(G H:Hp)(w:Wn)(ρ:Ev):Prop :=
 ∀ σ' G' H' w',zaN G H w G' H' w'->Rel K C G' w' ρ σ' H'->Q σ' H'
def tG(K:W.Frag)(C:Cn)(g:DG):TG:=fun v σ H Q=>∃ G w ρ d,Rel K C G w ρ σ H/\Rep K G d v/\zbJ C.ex (kG K C Q G H w) (g d ρ)
abbrev JG(X:Cx)(C:Cn)(tg:Expr)(g:DG):Prop:=PG X tg (tG X.K C g)
theorem PG.weak{t t':TG}(h:PG X tg t)(k:∀ v σ H Q,t' v σ H Q->t v σ H Q):PG X tg t':=fun pins s σ H v u Q I r q=>h pins s σ H v u Q I r (k v σ H Q q)
def za3(i:Nat):DG:=fun d ρ=>if i < ρ.length then .ok (ρ.set i (some (.val d))) else .no
theorem za6{i:Nat}{x:Str}(hN:X.N.Nodup)(hi:X.N[i]? = some x)(hx:Loc X.env.scope x)(hp:i∉C.pp)(hf:X.fn x=true\/X.env.scope.names.lookup x=some .local:=by first|exact .inl rfl|exact .inr rfl|assumption):JG X C (.Name x pos) (za3 i) :=
 PG.weak (ziR hN hi hx hf) fun v σ H Q ⟨G,w,ρ,d,r,q,p⟩=>by
  unfold za3 at p
  by_cases hl:i < ρ.length
  ·simp only[hl,if_true] at p
   exact p _ G H w (.refl _ _ _) (r.setVal hl hp q)
  ·simp only[hl,if_false] at p;exact p.elim
def zeY(i j:Nat):DG:=fun d ρ=>match d with
 |.tup [a,b]=>if i < ρ.length/\j < ρ.length then .ok ((ρ.set i (some (.val a))).set j (some (.val b))) else .no
 |_=>.no
theorem zmp{i j k:Nat}{x y:Str}{p1 p2:Pos}(hc:X.calm=true)(hN:X.N.Nodup)(hi:X.N[i]? = some x)(hj:X.N[j]? = some y)(hx:Loc X.env.scope x)(hy:Loc X.env.scope y)(hp:i∉C.pp)(hq:j∉C.pp)
  (hf:X.fn x=true\/X.env.scope.names.lookup x=some .local:=by first|exact .inl rfl|exact .inr rfl|assumption) (hf2:X.fn y=true\/X.env.scope.names.lookup y=some .local:=by first|exact .inl rfl|exact .inr rfl|assumption)
  (hs1:(assignEach [.Name x p1,.Name y p2] X.env).map (·.2)=assign (.Name x p1) X.env::(assignEach [.Name y p2] X.env).map (·.2):=by rfl) (hs2:(assignEach [.Name y p2] X.env).map (·.2)=assign (.Name y p2) X.env::(assignEach [] X.env).map (·.2):=by rfl)
  (hn:(assignEach [.Name x p1,.Name y p2] X.env).length=2:=by rfl) (hst:(assignEach [.Name x p1,.Name y p2] X.env).findIdx? (·.1)=none:=by rfl):JG X C (.Tuple [.Name x p1,.Name y p2] k pos) (zeY i j) :=
 PG.weak (zrr hc (zj3 (ziR hN hi hx hf) (zj3 (ziR hN hj hy hf2) zpp hs2) hs1) hn hst) fun v σ H Q ⟨G,w,ρ,d,r,q,p⟩=>by
  unfold zeY at p
  split at p
  ·rename_i a b
   obtain ⟨ad,vs,rfl,h1,h2⟩:=zbh q
   obtain ⟨v1,t,rfl,q1,q2⟩:=h2.cons_inv
   obtain ⟨v2,t2,rfl,q3,q4⟩:=q2.cons_inv
   rw[q4.nil_inv] at h1
   by_cases hl:i < ρ.length/\j < ρ.length
   ·simp only[hl,and_self,if_true] at p
    have r1:=r.setVal hl.1 hp q1
    have r2:=r1.setVal (i:=j) (by simpa using hl.2) hq q3
    exact ⟨ad,_,rfl,za5 r.gh h1,rfl,v1,_,rfl,v2,_,rfl,rfl,p _ G H w (.refl _ _ _) r2⟩
   ·simp only[hl,if_false] at p;exact p.elim
  ·exact p.elim
def zl8(g:DG)(body:DS):List Dt->DS
 |[],ρ=>.ok (.nx,ρ)
 |d::r,ρ=>(g d ρ).bind fun ρ1=>(body ρ1).bind fun a=>match a.1 with
  |.nx=>zl8 g body r a.2
  |.ct=>zl8 g body r a.2
  |.bk=>.ok (.nx,a.2)
  |.rt v=>.ok (.rt v,a.2)
def zcD(fi:DA)(g:DG)(body:DS):DS:=fun ρ=>(fi ρ).bind fun a=>zl8 g body a.1 a.2
theorem zcy{body:List Stmt}{fi:DA}{g:DG}{fb:DS}(hp:PassesOwn (model X.prog X.w) X.A X.env X.xe)(hc:X.calm=true)(hi:JI X C tg iter fi)(hg:JG X C tg g)(hb:JSs X C body fb)
  (hs:∀ x,foldedSetIterable iter X.env x=pure x:=by intro _;rfl):JS X C (.For tg iter body [] pos) (zcD fi g fb) :=
 PS.weak (zrk hp hc hi hg hb hs) fun D σ H ⟨G,w,ρ,r,p⟩=>by
  refine zsV (κ:=fun G H w=>kS X.K C D G H w) zcX r p fun ds ρ1 J G1 H1 w1 r1 s1 it p1=>?_
  refine ⟨fun i m σ' H'=>m=ds.length-i/\i<=ds.length/\∃ G' w' ρ',zcf G1 G'/\Rel X.K C G' w' ρ' σ' H'/\zbJ C.ex (kS X.K C D G' H' w') (zl8 g fb (ds.drop i) ρ'),
   ⟨ds.length,by simp,Nat.zero_le _,G1,w1,ρ1,.refl _,r1,by simpa using p1⟩,?_⟩
  rintro i m σ2 H2 ⟨rfl,hi,G2,w2,ρ2,s2,r2,p2⟩
  obtain ⟨it1,it2⟩:=it i G2 H2 s2 r2.gh
  by_cases hlt:i<ds.length
  ·have ed:ds.drop i=ds[i]::ds.drop (i+1):=List.drop_eq_getElem_cons hlt
   obtain ⟨go,yl⟩:=it1 ds[i] (by simp[hlt])
   rw[ed] at p2
   refine .inr ⟨go,fun σ' H'=>(ds.length-(i+1))=ds.length-(i+1)/\i+1<=ds.length/\∃ G' w' ρ',zcf G1 G'/\Rel X.K C G' w' ρ' σ' H'/\zbJ C.ex (kS X.K C D G' H' w') (zl8 g fb (ds.drop (i+1)) ρ'),
    fun σ' H' h=>⟨ds.length-(i+1),by omega,h⟩,fun x H' y=>?_⟩
   obtain ⟨G3,gr,q3⟩:=yl x H' y
   have r3:=r2.grow gr
   have p3:=zbJ.step (κ:=fun G H w=>kS X.K C D G H w) zcX gr.step (w1:=w2) p2
   refine ⟨G3,w2,ρ2,ds[i],r3,q3,?_⟩
   unfold zl8 at p3
   cases eg:g ds[i] ρ2 with
   |ok ρ3 =>
    rw[eg] at p3
    intro σ4 G4 H4 w4 s4 r4
    have p4:=zbJ.step (κ:=fun G H w=>kS X.K C D G H w) zcX s4 p3
    refine ⟨G4,w4,ρ3,r4,?_⟩
    cases eb:fb ρ3 with
    |ok z =>
     obtain ⟨fl,ρ5⟩:=z
     rw[R.bind_ok,eb] at p4
     have sG:zcf G1 G4:=(s2.trans gr.g).trans s4.g
     cases fl with
     |nx=>exact fun σ6 G6 H6 w6 s6 r6=>⟨rfl,hlt,G6,w6,ρ5,sG.trans s6.g,r6,zbJ.step (κ:=fun G H w=>kS X.K C D G H w) zcX s6 p4⟩
     |ct=>exact fun σ6 G6 H6 w6 s6 r6=>⟨rfl,hlt,G6,w6,ρ5,sG.trans s6.g,r6,zbJ.step (κ:=fun G H w=>kS X.K C D G H w) zcX s6 p4⟩
     |bk=>exact p4
     |rt v=>exact p4
    |er n=>rw[R.bind_ok,eb] at p4;exact p4
    |no=>rw[R.bind_ok,eb] at p4;exact p4
   |er n=>rw[eg] at p3;exact p3
   |no=>rw[eg] at p3;exact p3
  ·have e:i=ds.length:=by omega
   subst e
   simp only[List.drop_length] at p2
   exact .inl ⟨it2 (Nat.le_refl _),p2 σ2 G2 H2 w2 (.refl _ _ _) r2⟩
def zbg(c:DT)(body:DS):Nat->DS
 |0,_=>.no
 |n+1,ρ=>(c ρ).bind fun t=>if t.1=true then (body t.2).bind fun a=>match a.1 with
   |.nx=>zbg c body n a.2
   |.ct=>zbg c body n a.2
   |.bk=>.ok (.nx,a.2)
   |.rt v=>.ok (.rt v,a.2)
  else .ok (.nx,t.2)
theorem zgS(n:Nat){c:Expr}{body:List Stmt}{tc:DT}{fb:DS}(hp:PassesOwn (model X.prog X.w) X.A X.env X.xe)(hc:JT X C c tc)(hb:JSs X C body fb):JS X C (.While c body [] pos) (zbg tc fb n) :=
 PS.weak (zmS hp hc hb) fun D σ H ⟨G,w,ρ,r,p⟩=>by
  refine ⟨fun m σ' H'=>∃ G' w' ρ',Rel X.K C G' w' ρ' σ' H'/\zbJ C.ex (kS X.K C D G' H' w') (zbg tc fb m ρ'),⟨n,G,w,ρ,r,p⟩,?_⟩
  rintro m σ1 H1 ⟨G1,w1,ρ1,r1,p1⟩
  cases m with
  |zero=>exact p1.elim
  |succ m =>
   unfold zbg at p1
   refine zq3 (κ:=fun G H w=>kS X.K C D G H w) zcX r1 p1 fun b ρ2 G2 H2 w2 r2 s2 p2=>?_
   cases b with
   |false=>exact p2 σ1 G2 H2 w2 (.refl _ _ _) r2
   |true =>
    refine ⟨fun σ' H'=>∃ G' w' ρ',Rel X.K C G' w' ρ' σ' H'/\zbJ C.ex (kS X.K C D G' H' w') (zbg tc fb m ρ'),fun σ' H' h=>⟨m,Nat.lt_succ_self _,h⟩,G2,w2,ρ2,r2,?_⟩
    have p2:zbJ C.ex (kS X.K C D G2 H2 w2) ((fb ρ2).bind fun a=>match a.1 with
     |.nx=>zbg tc fb m a.2
     |.ct=>zbg tc fb m a.2
     |.bk=>.ok (.nx,a.2)
     |.rt v=>.ok (.rt v,a.2)):=p2
    cases eb:fb ρ2 with
    |ok z =>
     obtain ⟨fl,ρ5⟩:=z
     rw[eb] at p2
     cases fl with
     |nx=>exact fun σ6 G6 H6 w6 s6 r6=>⟨G6,w6,ρ5,r6,zbJ.step (κ:=fun G H w=>kS X.K C D G H w) zcX s6 p2⟩
     |ct=>exact fun σ6 G6 H6 w6 s6 r6=>⟨G6,w6,ρ5,r6,zbJ.step (κ:=fun G H w=>kS X.K C D G H w) zcX s6 p2⟩
     |bk=>exact p2
     |rt v=>exact p2
    |er n=>rw[eb] at p2;exact p2
    |no=>rw[eb] at p2;exact p2
end
abbrev FD:=List B->R (Dt×List B)
def zj9:B->Bool
 |.val _=>false
 |_=>true
def zbp(bs:List B):List Bool:=bs.map zj9
structure PRel(K:W.Frag)(G H:Hp)(w:Wn)(bs:List B)(vs:List V):Prop where
 gh:zcf G H
 wg:∀ b,w b≠none->G b=none
 wh:∀ b,w b≠none->H b≠none
 len:bs.length=vs.length
 sl:∀(j:Nat)(b:B)(v:V),bs[j]? = some b->vs[j]? = some v->RB K G H w j v b
structure zke(K:W.Frag)(G H:Hp)(w:Wn)(ks:List Bool)(bs:List B)(vs:List V):Prop where
 gh:zcf G H
 wg:∀ b,w b≠none->G b=none
 wh:∀ b,w b≠none->H b≠none
 sl:∀(j:Nat)(v:V),ks[j]? = some true->vs[j]? = some v->∃ b,bs[j]? = some b/\RB K G H w j v b
def zn5(nw:Bool)(K:W.Frag)(xv:Nat->Value)(ks:List Bool)(F:FD):Sp:=fun vs H Q E=>∃ G w bs,vs.length=ks.length/\zbp bs=ks/\PRel K G H w bs vs /\
 match F bs with
 |.ok a=>∀ v G' H' w',zaN G H w G' H' w'->zke K G' H' w' ks a.2 vs->RtG nw K H G' H' w' a.1 v->Q v H'
 |.er n=>∀ G' H' w',zaN G H w G' H' w'->E (xv n) none H'
 |.no=>False
def EXc(C:Cn):XK:=fun u a H'=>a=none/\∃ n,u=C.xv n/\C.ex n/\∃ G' w',zaN C.G₀ C.H₀ C.w₀ G' H' w'
inductive Arg where
 |d (x:Dt)|s (i:Nat)
def zbU(K:W.Frag)(G:Hp)(σ:L2.St):List Arg->List V->Prop
 |[],vs=>vs=[]
 |.d x::r,vs=>∃ v t,vs=v::t/\Rep K G x v/\zbU K G σ r t
 |.s i::r,vs=>∃ v t,vs=v::t/\σ[i]? = some (some v)/\zbU K G σ r t
theorem zbU.same{K:W.Frag}{G G':Hp}{σ:L2.St}(e:zcf G G'):∀{as:List Arg}{vs:List V},zbU K G σ as vs->zbU K G' σ as vs
 |[],_,h=>h
 |.d _::_,_,⟨v,t,h1,h2,h3⟩=>⟨v,t,h1,h2.same e,zbU.same e h3⟩
 |.s _::_,_,⟨v,t,h1,h2,h3⟩=>⟨v,t,h1,h2,zbU.same e h3⟩
abbrev DAr:=Ev->R (List Arg×Ev)
def kAr(K:W.Frag)(C:Cn)(σ:L2.St)(Q:List V->Hp->Prop)(G H:Hp)(w:Wn)(a:List Arg×Ev):Prop :=
 ∀ vs G' H' w',zaN G H w G' H' w'->Rel K C G' w' a.2 σ H'->zbU K G' σ a.1 vs->Q vs H'
def tAr(K:W.Frag)(C:Cn)(f:DAr):TA:=fun σ H Q=>∃ G w ρ,Rel K C G w ρ σ H/\zbJ C.ex (kAr K C σ Q G H w) (f ρ)
abbrev JAr(X:Cx)(C:Cn)(es:List Expr)(f:DAr):Prop:=PA X es (tAr X.K C f)
theorem zkQ{K:W.Frag}{C:Cn}{σ:L2.St}{Q:List V->Hp->Prop}:Stp (fun G H w=>kAr K C σ Q G H w):=fun _ _ _ _ _ _ _ s k v G' H' w' s'=>k v G' H' w' (s.trans s')
theorem zkU{K:W.Frag}{C:Cn}{σ:L2.St}{α:Type}{κ:zn7 α}(st:Stp κ){G H:Hp}{w:Wn}{ρ:Ev}{fa:DAr}{g:List Arg×Ev->R α}{Q:List V->Hp->Prop}(r:Rel K C G w ρ σ H)(p:zbJ C.ex (κ G H w) ((fa ρ).bind g))
  (k:∀ as ρ1 vs G1 H1 w1,Rel K C G1 w1 ρ1 σ H1->zaN G H w G1 H1 w1->zbU K G1 σ as vs->zbJ C.ex (κ G1 H1 w1) (g (as,ρ1))->Q vs H1):tAr K C fa σ H Q:=by
 refine ⟨G,w,ρ,r,?_⟩
 cases e:fa ρ with
 |ok a =>
  rw[e] at p
  intro v G' H' w' s' r' q
  exact k a.1 a.2 v G' H' w' r' s' q (zbJ.step st s' p)
 |er n=>rw[e] at p;exact p
 |no=>rw[e] at p;exact p
def dR0:DAr:=fun ρ=>.ok ([],ρ)
def dR(fa:De)(fr:DAr):DAr:=fun ρ=>(fa ρ).bind fun a=>(fr a.2).bind fun b=>.ok (.d a.1::b.1,b.2)
def dRO(i:Nat)(fr:DAr):DAr:=fun ρ=>match ρ[i]? with
 |some (some _)=>(fr ρ).bind fun b=>.ok (.s i::b.1,b.2)
 |_=>.no
section
variable{X:Cx}{C:Cn}{fa:De}{fr:DAr}{pos:Pos}
theorem za0:JAr X C [] dR0:=PA.weak zdi fun σ H Q ⟨G,w,ρ,r,p⟩=>p _ G H w (.refl _ _ _) r rfl
theorem zac{e:Expr}{es:List Expr}(ha:JE X C e fa)(hr:JAr X C es fr)(hs:starEach (e::es) X.env=(false,eval e X.env)::starEach es X.env:=by rfl):JAr X C (e::es) (dR fa fr) :=
 PA.weak (zbi ha hr hs) fun σ H Q ⟨G,w,ρ,r,p⟩=>by
  refine zch (κ:=fun G H w=>kAr X.K C σ Q G H w) zkQ r p fun d ρ1 v G1 H1 w1 r1 s1 q1 p1=>?_
  refine zkU (κ:=fun G H w=>kAr X.K C σ Q G H w) zkQ r1 p1 fun as ρ2 vs G2 H2 w2 r2 s2 q2 p2=>?_
  exact p2 _ G2 H2 w2 (.refl _ _ _) r2 ⟨v,vs,rfl,q1.same s2.g,q2⟩
theorem zbF(i:Nat){x:Str}{ps:Pos}{es:List Expr}(hr:JAr X C es fr)(hN:X.N[i]? = some x:=by rfl)(hv:Vis X.env.scope x:=by first|exact Or.inl rfl|exact Or.inr (Or.inl rfl)|exact Or.inr (Or.inr rfl))(hd:(x == ("__debug__" : Str))=false:=by decide)
  (hcd:(x == ("__classdict__" : Str))=false:=by decide) (hs:starEach (.Name x ps::es) X.env=(false,eval (.Name x ps) X.env)::starEach es X.env:=by rfl):JAr X C (.Name x ps::es) (dRO i fr) :=
 PA.weak (zbi (zb1 hN hv hd hcd) hr hs) fun σ H Q ⟨G,w,ρ,r,p⟩=>by
  unfold dRO at p
  split at p
  ·rename_i b e
   obtain ⟨v,h1,_⟩:=r.sl i b e
   refine ⟨v,h1,?_⟩
   refine zkU (κ:=fun G H w=>kAr X.K C σ Q G H w) zkQ r p fun as ρ2 vs G2 H2 w2 r2 s2 q2 p2=>?_
   exact p2 _ G2 H2 w2 (.refl _ _ _) r2 ⟨v,vs,rfl,h1,q2⟩
  ·exact p.elim
end
def zom(as:List Arg)(j:Nat):Option Nat:=match as[j]? with
 |some (.s i)=>some i
 |_=>none
def zbx(i:Nat):Nat->List Arg->Option Nat
 |_,[]=>none
 |j,.s i'::r=>if i'=i then some j else zbx i (j+1) r
 |j,.d _::r=>zbx i (j+1) r
def zbQ(as:List Arg)(i:Nat):Option Nat:=zbx i 0 as
def zaE(as:List Arg):Nat->List Arg->Bool
 |_,[]=>true
 |j,.s i::r=>(zbQ as i == some j) && zaE as (j+1) r
 |j,.d _::r=>zaE as (j+1) r
def uniq(as:List Arg):Bool:=zaE as 0 as
theorem zdK{as:List Arg}:∀{l:List Arg}{j k:Nat}{i:Nat},zaE as j l=true->l[k]? = some (.s i)->zbQ as i=some (j+k)
 |[],_,_,_,_,e=>by simp at e
 |.s i'::r,j,0,i,h,e=>by
  simp at e;subst e
  unfold zaE at h
  rw[Bool.and_eq_true] at h
  simpa using h.1
 |.s i'::r,j,k+1,i,h,e=>by
  unfold zaE at h
  rw[Bool.and_eq_true] at h
  have:=zdK (k:=k) h.2 (by simpa using e)
  rw[this];congr 1;omega
 |.d x::r,j,0,i,h,e=>by simp at e
 |.d x::r,j,k+1,i,h,e=>by
  unfold zaE at h
  have:=zdK (k:=k) h (by simpa using e)
  rw[this];congr 1;omega
theorem ze9{i:Nat}:∀{l:List Arg}{j m:Nat},zbx i j l=some m->∃ k,m=j+k/\l[k]? = some (.s i)
 |[],_,_,h=>by simp[zbx] at h
 |.s i'::r,j,m,h=>by
  unfold zbx at h
  split at h
  ·rename_i e;subst e;cases h;exact ⟨0,rfl,rfl⟩
  ·obtain ⟨k,h1,h2⟩:=ze9 h
   exact ⟨k+1,by omega,by simpa using h2⟩
 |.d x::r,j,m,h=>by
  unfold zbx at h
  obtain ⟨k,h1,h2⟩:=ze9 h
  exact ⟨k+1,by omega,by simpa using h2⟩
theorem znS{as:List Arg}{i j:Nat}(h:zbQ as i=some j):as[j]? = some (.s i):=by
 obtain ⟨k,h1,h2⟩:=ze9 h
 have:j=k:=by omega
 subst this;exact h2
theorem zhf{as:List Arg}{i j:Nat}(u:uniq as=true)(h:as[j]? = some (.s i)):zbQ as i=some j:=by
 have:=zdK (j:=0) u h
 simpa using this
def zas(ρ:Ev):List Arg->R (List B)
 |[]=>.ok []
 |.d x::r=>(zas ρ r).bind fun bs=>.ok (.val x::bs)
 |.s i::r=>match ρ[i]? with
  |some (some b)=>if zj9 b=true then (zas ρ r).bind fun bs=>.ok (b::bs) else .no
  |_=>.no
def zen(as:List Arg)(bs:List B):Nat->Ev->Ev
 |_,[]=>[]
 |i,o::r=>(match zbQ as i with|some j=>bs[j]?|none=>o)::zen as bs (i+1) r
theorem zgI{as:List Arg}{bs:List B}:∀{ρ:Ev}{k i:Nat},(zen as bs k ρ)[i]? = ρ[i]?.map fun o=>match zbQ as (k+i) with|some j=>bs[j]?|none=>o
 |[],_,_=>by simp[zen]
 |o::r,k,0=>by simp[zen]
 |o::r,k,i+1=>by
  have:=zgI (as:=as) (bs:=bs) (ρ:=r) (k:=k+1) (i:=i)
  simp only[zen,List.getElem?_cons_succ]
  rw[this]
  have e:k+1+i=k+(i+1):=by omega
  rw[e]
theorem zj7{as:List Arg}{bs:List B}:∀{ρ:Ev}{k:Nat},(zen as bs k ρ).length = ρ.length
 |[],_=>rfl
 |o::r,k=>by simp[zen,zj7 (ρ:=r)]
def zaj(F:FD)(fa:DAr):De:=fun ρ=>(fa ρ).bind fun a=>if uniq a.1=true then (zas a.2 a.1).bind fun bs=>(F bs).bind fun z=>.ok (z.1,zen a.1 z.2 0 a.2) else .no
theorem zdm{ρ:Ev}:∀{as:List Arg}{bs:List B}{j i:Nat},zas ρ as=.ok bs->as[j]? = some (.s i)->∃ b,ρ[i]? = some (some b)/\bs[j]? = some b/\zj9 b=true
 |[],bs,j,i,h,e=>by simp at e
 |.d x::r,bs,j,i,h,e=>by
  unfold zas at h
  cases q:zas ρ r with
  |ok l =>
   rw[q] at h;simp only[R.bind_ok,R.ok.injEq] at h;subst h
   cases j with
   |zero=>simp at e
   |succ j =>
    obtain ⟨b,h1,h2,h3⟩:=zdm (j:=j) q (by simpa using e)
    exact ⟨b,h1,by simpa using h2,h3⟩
  |er n=>rw[q] at h;simp at h
  |no=>rw[q] at h;simp at h
 |.s i'::r,bs,j,i,h,e=>by
  unfold zas at h
  split at h
  ·rename_i b eb
   split at h
   ·rename_i ob
    cases q:zas ρ r with
    |ok l =>
     rw[q] at h;simp only[R.bind_ok,R.ok.injEq] at h;subst h
     cases j with
     |zero=>simp at e;subst e;exact ⟨b,eb,rfl,ob⟩
     |succ j =>
      obtain ⟨b,h1,h2,h3⟩:=zdm (j:=j) q (by simpa using e)
      exact ⟨b,h1,by simpa using h2,h3⟩
    |er n=>rw[q] at h;simp at h
    |no=>rw[q] at h;simp at h
   ·cases h
  ·cases h
theorem zc8{ρ:Ev}:∀{as:List Arg}{n:Nat},zas ρ as≠.er n
 |[],n,h=>by simp[zas] at h
 |.d x::r,n,h=>by
  unfold zas at h
  cases q:zas ρ r with
  |ok l=>rw[q] at h;simp at h
  |er m=>exact zc8 q
  |no=>rw[q] at h;simp at h
 |.s i::r,n,h=>by
  unfold zas at h
  split at h
  ·split at h
   ·cases q:zas ρ r with
    |ok l=>rw[q] at h;simp at h
    |er m=>exact zc8 q
    |no=>rw[q] at h;simp at h
   ·cases h
  ·cases h
def wIn(w:Wn)(as:List Arg):Wn:=fun b=>(w b).bind (zbQ as)
def znN(w w':Wn)(as:List Arg):Wn:=fun b=>match w' b with
 |some j=>zom as j
 |none=>if (w b).bind (zbQ as)=none then w b else none
section
variable{K:W.Frag}{C:Cn}{σ:L2.St}{G H:Hp}{w:Wn}{ρ:Ev}
theorem zf7(r:Rel K C G w ρ σ H):∀{as l:List Arg}{vs:List V}{bs:List B}{k j:Nat}{b:B}{v:V},(∀ m i,l[m]? = some (.s i)->zbQ as i=some (k+m))->zbU K G σ l vs->zas ρ l=.ok bs->bs[j]? = some b->vs[j]? = some v->RB K G H (wIn w as) (k+j) v b
 |as,[],vs,bs,k,j,b,v,hu,ha,hr,hb,hv=>by simp[zas] at hr;subst hr;simp at hb
 |as,.d x::l,vs,bs,k,j,b,v,hu,ha,hr,hb,hv=>by
  obtain ⟨v0,t,rfl,h2,h3⟩:=ha
  unfold zas at hr
  cases q:zas ρ l with
  |ok l' =>
   rw[q] at hr;simp only[R.bind_ok,R.ok.injEq] at hr;subst hr
   cases j with
   |zero=>simp at hb hv;subst hb;subst hv;exact h2
   |succ j =>
    have:=zf7 r (as:=as) (k:=k+1) (j:=j) (fun m i e=>by rw[hu (m+1) i (by simpa using e)];congr 1;omega) h3 q (by simpa using hb) (by simpa using hv)
    have e:k+1+j=k+(j+1):=by omega
    rw[e] at this;exact this
  |er n=>rw[q] at hr;simp at hr
  |no=>rw[q] at hr;simp at hr
 |as,.s i::l,vs,bs,k,j,b,v,hu,ha,hr,hb,hv=>by
  obtain ⟨v0,t,rfl,h2,h3⟩:=ha
  unfold zas at hr
  split at hr
  ·rename_i b0 eb
   split at hr
   ·rename_i ob
    cases q:zas ρ l with
    |ok l' =>
     rw[q] at hr;simp only[R.bind_ok,R.ok.injEq] at hr;subst hr
     cases j with
     |zero =>
      simp at hb hv;subst hb;subst hv
      obtain ⟨v1,h4,h5⟩:=r.sl i _ eb
      rw[h2] at h4;cases h4
      exact h5.grow (.refl _) fun a o e1 e2=>⟨e2,by unfold wIn;rw[e1];exact hu 0 i rfl⟩
     |succ j =>
      have:=zf7 r (as:=as) (k:=k+1) (j:=j) (fun m i e=>by rw[hu (m+1) i (by simpa using e)];congr 1;omega) h3 q (by simpa using hb) (by simpa using hv)
      have e:k+1+j=k+(j+1):=by omega
      rw[e] at this;exact this
    |er n=>rw[q] at hr;simp at hr
    |no=>rw[q] at hr;simp at hr
   ·cases hr
  ·cases hr
theorem zeq:∀{as:List Arg}{vs:List V}{bs:List B},zbU K G σ as vs->zas ρ as=.ok bs->bs.length=vs.length
 |[],vs,bs,ha,hr=>by simp[zas] at hr;subst hr;cases ha;rfl
 |.d x::l,vs,bs,ha,hr=>by
  obtain ⟨v0,t,rfl,h2,h3⟩:=ha
  unfold zas at hr
  cases q:zas ρ l with
  |ok l'=>rw[q] at hr;simp only[R.bind_ok,R.ok.injEq] at hr;subst hr;simp[zeq h3 q]
  |er n=>rw[q] at hr;simp at hr
  |no=>rw[q] at hr;simp at hr
 |.s i::l,vs,bs,ha,hr=>by
  obtain ⟨v0,t,rfl,h2,h3⟩:=ha
  unfold zas at hr
  split at hr
  ·split at hr
   ·cases q:zas ρ l with
    |ok l'=>rw[q] at hr;simp only[R.bind_ok,R.ok.injEq] at hr;subst hr;simp[zeq h3 q]
    |er n=>rw[q] at hr;simp at hr
    |no=>rw[q] at hr;simp at hr
   ·cases hr
  ·cases hr
theorem zf4:∀{as:List Arg}{vs:List V}{j i:Nat},zbU K G σ as vs->as[j]? = some (.s i)->∃ v,vs[j]? = some v/\σ[i]? = some (some v)
 |[],_,_,_,_,e=>by simp at e
 |.d x::l,vs,j,i,ha,e=>by
  obtain ⟨v0,t,rfl,h2,h3⟩:=ha
  cases j with
  |zero=>simp at e
  |succ j=>obtain ⟨v,e1,e2⟩:=zf4 (j:=j) h3 (by simpa using e);exact ⟨v,by simpa using e1,e2⟩
 |.s i'::l,vs,j,i,ha,e=>by
  obtain ⟨v0,t,rfl,h2,h3⟩:=ha
  cases j with
  |zero=>simp at e;subst e;exact ⟨v0,rfl,h2⟩
  |succ j=>obtain ⟨v,e1,e2⟩:=zf4 (j:=j) h3 (by simpa using e);exact ⟨v,by simpa using e1,e2⟩
theorem Rel.back{as:List Arg}{vs:List V}{bs bs':List B}{ks:List Bool}{G' H':Hp}{w':Wn}(r:Rel K C G w ρ σ H)(u:uniq as=true)(ha:zbU K G σ as vs)(hr:zas ρ as=.ok bs)(hk:zbp bs=ks)
  (s:zaN G H (wIn w as) G' H' w') (pb:zke K G' H' w' ks bs' vs):Rel K C G' (znN w w' as) (zen as bs' 0 ρ) σ H'/\zaN G H w G' H' (znN w w' as):=by
 have wi:∀ b,wIn w as b≠none->w b≠none:=fun b e z=>e (by unfold wIn;rw[z];rfl)
 have wi2:∀ b,w b=none->wIn w as b=none:=fun b z=>by unfold wIn;rw[z];rfl
 have st:zaN G H w G' H' (znN w w' as):=by
  refine ⟨s.g,fun b o e=>?_,fun b o e z=>s.h b o e (wi2 b z),fun b e=>?_,s.k⟩
  ·rcases s.fr b o e with q|q|q
   ·exact .inl q
   ·exact .inr (.inl q)
   ·exact .inr (.inr (wi b q))
  ·unfold znN at e
   split at e
   ·rename_i j ej
    rcases s.w b (by rw[ej];simp) with q|q
    ·exact .inl (wi b q)
    ·exact .inr q
   ·split at e
    ·exact .inl e
    ·exact absurd rfl e
 have keep:∀ a o,w a≠none->(w a).bind (zbQ as)=none->H a=some o->H' a=some o/\w' a=none/\G' a=none:=fun a o e1 e2 e3=>by
  have e4:wIn w as a=none:=e2
  have e5:=s.h a o e3 e4
  have e6:w' a=none:=by
   cases q:w' a with
   |none=>rfl
   |some j =>
    rcases s.w a (by rw[q];simp) with z|z
    ·exact absurd e4 z
    ·rw[e3] at z;cases z
  refine ⟨e5,e6,?_⟩
  cases q:G' a with
  |none=>rfl
  |some o' =>
   rcases s.fr a o' q with z|z|z
   ·exact absurd (r.wg a e1) z
   ·rw[e3] at z;cases z
   ·exact absurd e4 z
 refine ⟨⟨pb.gh,fun b e=>?_,fun b e=>?_,by rw[zj7];exact r.len,fun i b e=>?_,r.en.trans st,r.pin⟩,st⟩
 ·unfold znN at e
  split at e
  ·rename_i j ej
   exact pb.wg b (by rw[ej];simp)
  ·split at e
   ·rename_i e2
    cases q:H b with
    |none=>exact absurd q (r.wh b e)
    |some o=>exact (keep b o e e2 q).2.2
   ·exact absurd rfl e
 ·unfold znN at e
  split at e
  ·rename_i j ej
   exact pb.wh b (by rw[ej];simp)
  ·split at e
   ·rename_i e2
    cases q:H b with
    |none=>exact absurd q (r.wh b e)
    |some o=>rw[(keep b o e e2 q).1];simp
   ·exact absurd rfl e
 ·rw[zgI,Nat.zero_add] at e
  cases q:zbQ as i with
  |some j =>
   have ej:=znS q
   obtain ⟨v,e1,e2⟩:=zf4 ha ej
   obtain ⟨b0,h1,h2,h3⟩:=zdm hr ej
   have hkj:ks[j]? = some true:=by rw[<- hk];unfold zbp;rw[List.getElem?_map,h2];simp[h3]
   obtain ⟨b',h4,h5⟩:=pb.sl j v hkj e1
   rw[h1] at e
   simp only[q,Option.map_some] at e
   rw[h4] at e
   have e':b'=b:=by simpa using e
   subst e'
   refine ⟨v,e2,h5.grow (.refl _) fun a o q1 q2=>⟨q2,?_⟩⟩
   unfold znN zom
   rw[q1];simp only;rw[ej]
  |none =>
   cases e1:ρ[i]? with
   |none=>rw[e1] at e;simp at e
   |some o0 =>
    rw[e1] at e
    simp only[q,Option.map_some,Option.some.injEq] at e
    subst e
    obtain ⟨v,h1,h2⟩:=r.sl i b e1
    refine ⟨v,h1,h2.grow s.g fun a o q1 q2=>?_⟩
    have z:(w a).bind (zbQ as)=none:=by rw[q1];exact q
    obtain ⟨k1,k2,_⟩:=keep a o (by rw[q1];simp) z q2
    refine ⟨k1,?_⟩
    unfold znN
    rw[k2];simp only;rw[if_pos z];exact q1
end
section
variable{X:Cx}{C:Cn}{CX:CXT}{k:Nat}{f:Addr}{fd:FuncData}{ps:List Str}{ks:List Bool}{Fd:FD}{x:Str}{p pos:Pos}{e:Expr}{es:List Expr}{far:DAr}
theorem zlr{σ:L2.St}{H:Hp}{Q:VK}(h:tE X.K C (zaj Fd far) σ H Q)(hks:∀ bs,Fd bs≠.no->zbp bs=ks):znP (zn5 false X.K C.xv ks Fd) [] (EXc C) (tAr X.K C far) σ H Q:=by
 obtain ⟨G,w,ρ,r,p⟩:=h
 refine zkU (κ:=fun G H w=>kE X.K C σ Q G H w) zbt r p fun as ρ1 vs G1 H1 w1 r1 s1 q1 p1=>?_
 rw[List.append_nil]
 by_cases hu:uniq as=true
 ·simp only[hu,if_true] at p1
  cases er:zas ρ1 as with
  |ok bs =>
   rw[er,R.bind_ok] at p1
   have hk:zbp bs=ks:=by
    refine hks bs fun z=>?_
    rw[z] at p1;exact p1
   have hl:bs.length=vs.length:=zeq q1 er
   refine ⟨G1,wIn w1 as,bs,by rw[<- hk,<- hl];simp[zbp],hk,⟨r1.gh,fun b e=>r1.wg b fun z=>e (by unfold wIn;rw[z];rfl),fun b e=>r1.wh b fun z=>e (by unfold wIn;rw[z];rfl),hl,fun j b v e1 e2=>?_⟩,?_⟩
   ·have:=zf7 r1 (as:=as) (k:=0) (j:=j) (fun m i e=>by rw[Nat.zero_add];exact zhf hu e) q1 er e1 e2
    rw[Nat.zero_add] at this;exact this
   ·cases ef:Fd bs with
    |ok z =>
     rw[ef,R.bind_ok] at p1
     intro v G' H' w' s' pb q
     obtain ⟨r',st⟩:=r1.back hu q1 er hk s' pb
     exact p1 v G' H' _ st r' q
    |er n =>
     rw[ef] at p1
     intro G' H' w' s'
     refine ⟨rfl,n,rfl,p1,G',fun _=>none,r1.en.trans ⟨s'.g,fun b o e=>?_,fun b o e z=>s'.h b o e (by unfold wIn;rw[z];rfl),fun b e=>absurd rfl e,s'.k⟩⟩
     rcases s'.fr b o e with q|q|q
     ·exact .inl q
     ·exact .inr (.inl q)
     ·exact .inr (.inr fun z=>q (by unfold wIn;rw[z];rfl))
    |no=>rw[ef] at p1;exact p1.elim
  |er n=>exact absurd er zc8
  |no=>rw[er] at p1;exact p1.elim
 ·simp only[hu] at p1;exact p1.elim
theorem zqd(F:zf1 X.prog X.w X.K X.mg X.base CX k f fd ps (zn5 false X.K C.xv ks Fd))(hr:zcg k X.A)(hg:Gl X x)(hm:X.mg x=some (.ref f))(hk:W.keepIn X.K (.ref f)=true)(hb:zfB X.K fd ps [])(hx:zbW CX X (EXc C))(hks:∀ bs,Fd bs≠.no->zbp bs=ks)
  (ha:JAr X C (e::es) far) (hdb:(x == ("__debug__" : Str))=false:=by decide) (he:starEach (e::es) X.env=(false,eval e X.env)::starEach es X.env:=by rfl) (hpl:(backTo pos (starEach es X.env)).any (·.1)=false:=by rfl) :
  JE X C (.Call (.Name x p) (e::es) [] pos) (zaj Fd far) :=
 PE.weak (ziz F hr hg hm hk hb .nil hx ha hdb he hpl) fun σ H Q h=>zlr h hks
def zeT(F:FD)(fa:DAr):DN:=fun ρ=>(fa ρ).bind fun a=>if uniq a.1=true then (zas a.2 a.1).bind fun bs=>(F bs).bind fun z=>match z.1 with
  |.lst l=>.ok (l,zen a.1 z.2 0 a.2)
  |_=>.no
 else .no
theorem zkE{σ:L2.St}{H:Hp}{Q:VK}(h:tN X.K C (zeT Fd far) σ H Q)(hks:∀ bs,Fd bs≠.no->zbp bs=ks):znP (zn5 true X.K C.xv ks Fd) [] (EXc C) (tAr X.K C far) σ H Q:=by
 obtain ⟨G,w,ρ,r,p⟩:=h
 refine zkU (κ:=fun G H w=>kN X.K C σ Q G H w) zgh r p fun as ρ1 vs G1 H1 w1 r1 s1 q1 p1=>?_
 rw[List.append_nil]
 by_cases hu:uniq as=true
 ·simp only[hu,if_true] at p1
  cases er:zas ρ1 as with
  |ok bs =>
   rw[er,R.bind_ok] at p1
   have hk:zbp bs=ks:=by
    refine hks bs fun z=>?_
    rw[z] at p1;exact p1
   have hl:bs.length=vs.length:=zeq q1 er
   refine ⟨G1,wIn w1 as,bs,by rw[<- hk,<- hl];simp[zbp],hk,⟨r1.gh,fun b e=>r1.wg b fun z=>e (by unfold wIn;rw[z];rfl),fun b e=>r1.wh b fun z=>e (by unfold wIn;rw[z];rfl),hl,fun j b v e1 e2=>?_⟩,?_⟩
   ·have:=zf7 r1 (as:=as) (k:=0) (j:=j) (fun m i e=>by rw[Nat.zero_add];exact zhf hu e) q1 er e1 e2
    rw[Nat.zero_add] at this;exact this
   ·cases ef:Fd bs with
    |ok z =>
     rw[ef,R.bind_ok] at p1
     intro v G' H' w' s' pb q
     obtain ⟨r',st⟩:=r1.back hu q1 er hk s' pb
     obtain ⟨l,pp,us,e1,e2,e3,e4,e5,e6,e7⟩:=q
     subst e2
     rw[e1] at p1
     refine p1 pp us G' H' _ st r' e3 e4 e5 ?_ e7
     have w1p:w1 pp=none:=by
      cases zz:w1 pp with
      |none=>rfl
      |some k=>exact absurd e3 (r1.wh pp (by rw[zz];simp))
     unfold znN
     rw[e6,w1p];rfl
    |er n =>
     rw[ef] at p1
     intro G' H' w' s'
     refine ⟨rfl,n,rfl,p1,G',fun _=>none,r1.en.trans ⟨s'.g,fun b o e=>?_,fun b o e z=>s'.h b o e (by unfold wIn;rw[z];rfl),fun b e=>absurd rfl e,s'.k⟩⟩
     rcases s'.fr b o e with q|q|q
     ·exact .inl q
     ·exact .inr (.inl q)
     ·exact .inr (.inr fun z=>q (by unfold wIn;rw[z];rfl))
    |no=>rw[ef] at p1;exact p1.elim
  |er n=>exact absurd er zc8
  |no=>rw[er] at p1;exact p1.elim
 ·simp only[hu] at p1;exact p1.elim
theorem zpV(F:zf1 X.prog X.w X.K X.mg X.base CX k f fd ps (zn5 true X.K C.xv ks Fd))(hr:zcg k X.A)(hg:Gl X x)(hm:X.mg x=some (.ref f))(hk:W.keepIn X.K (.ref f)=true)(hb:zfB X.K fd ps [])(hx:zbW CX X (EXc C))(hks:∀ bs,Fd bs≠.no->zbp bs=ks)
  (ha:JAr X C (e::es) far) (hdb:(x == ("__debug__" : Str))=false:=by decide) (he:starEach (e::es) X.env=(false,eval e X.env)::starEach es X.env:=by rfl) (hpl:(backTo pos (starEach es X.env)).any (·.1)=false:=by rfl) :
  JN X C (.Call (.Name x p) (e::es) [] pos) (zeT Fd far) :=
 PE.weak (ziz F hr hg hm hk hb .nil hx ha hdb he hpl) fun σ H Q h=>zkE h hks
def zao:List Bool->Ev->R (List B)
 |[],_=>.ok []
 |false::ks,_::ρ=>(zao ks ρ).bind fun l=>.ok (.val .non::l)
 |true::ks,some b::ρ=>(zao ks ρ).bind fun l=>.ok (b::l)
 |_,_=>.no
def zaq(nw:Bool)(ks:List Bool)(m:Nat)(body:DS):FD:=fun bs=>if zbp bs=ks then (body (bs.map some++List.replicate m none)).bind fun a=>match a.1 with
  |.nx=>if nw=true then .no else (zao ks a.2).bind fun l=>.ok (.non,l)
  |.rt d=>(zao ks a.2).bind fun l=>.ok (d,l)
  |_=>.no
 else .no
theorem zau{nw:Bool}{ks:List Bool}{m:Nat}{body:DS}:∀ bs,zaq nw ks m body bs≠.no->zbp bs=ks:=fun bs h=>by
 unfold zaq at h
 by_cases e:zbp bs=ks
 ·exact e
 ·rw[if_neg e] at h;exact absurd rfl h
theorem zcN:∀{ks:List Bool}{ρ:Ev}{l:List B}{j:Nat},zao ks ρ=.ok l->ks[j]? = some true->∃ b,l[j]? = some b/\ρ[j]? = some (some b)
 |[],_,_,_,_,e=>by simp at e
 |false::ks,[],l,j,h,e=>by simp[zao] at h
 |true::ks,[],l,j,h,e=>by simp[zao] at h
 |false::ks,o::ρ,l,j,h,e=>by
  unfold zao at h
  cases q:zao ks ρ with
  |ok l' =>
   rw[q] at h;simp only[R.bind_ok,R.ok.injEq] at h;subst h
   cases j with
   |zero=>simp at e
   |succ j=>obtain ⟨b,h1,h2⟩:=zcN (j:=j) q (by simpa using e);exact ⟨b,by simpa using h1,by simpa using h2⟩
  |er n=>rw[q] at h;simp at h
  |no=>rw[q] at h;simp at h
 |true::ks,none::ρ,l,j,h,e=>by simp[zao] at h
 |true::ks,some b::ρ,l,j,h,e=>by
  unfold zao at h
  cases q:zao ks ρ with
  |ok l' =>
   rw[q] at h;simp only[R.bind_ok,R.ok.injEq] at h;subst h
   cases j with
   |zero=>exact ⟨b,rfl,rfl⟩
   |succ j=>obtain ⟨b,h1,h2⟩:=zcN (j:=j) q (by simpa using e);exact ⟨b,by simpa using h1,by simpa using h2⟩
  |er n=>rw[q] at h;simp at h
  |no=>rw[q] at h;simp at h
theorem zbS:∀{ks:List Bool}{ρ:Ev}{n:Nat},zao ks ρ≠.er n
 |[],_,_,h=>by simp[zao] at h
 |false::ks,[],n,h=>by simp[zao] at h
 |true::ks,[],n,h=>by simp[zao] at h
 |false::ks,o::ρ,n,h=>by
  unfold zao at h
  cases q:zao ks ρ with
  |ok l'=>rw[q] at h;simp at h
  |er m=>exact zbS q
  |no=>rw[q] at h;simp at h
 |true::ks,none::ρ,n,h=>by simp[zao] at h
 |true::ks,some b::ρ,n,h=>by
  unfold zao at h
  cases q:zao ks ρ with
  |ok l'=>rw[q] at h;simp at h
  |er m=>exact zbS q
  |no=>rw[q] at h;simp at h
def za9(ks:List Bool):List Nat:=(List.range ks.length).filter fun j=>ks[j]? == some true
def zof(CX:CXT)(P:Program)(w:World)(K:W.Frag)(mg:Str->Option Value)(base:Heap):Prop :=
 ∀(N:List Str)(qual:Str)(scope:Scope)(f:Addr)(cdv:Value)(A:Around)(outer:List Env)(s:Shared)(H:Hp)(E E':XK),scope.kind=.function->(∀ u a H',E' u a H'->E u a H') ->
  zbW CX (zit CX P w K mg base N qual scope f cdv A outer s H E) E'
theorem zaA{P:Program}{w:World}{K:W.Frag}{mg:Str->Option Value}{base:Heap}{xq qual:Str}{st:Stmt}{N:List Str}{xv:Nat->Value}{m:Nat}{fb:DS}(nw:Bool)(lv:zof CX P w K mg base)(F:Fun K xq qual st f fd)(S:zav N ps (zag st))(hl:ps.length=ks.length)(hm:N.length=ks.length+m)
  (hbody:∀(X:Cx)(C:Cn),(∃ cdv A outer s H E,X=zit CX P w K mg base N qual (zag st) f cdv A outer s H E)->C.pp=za9 ks->C.xv=xv->C.nw=nw->zcg k X.A->zbW CX X (EXc C)->PassesOwn (model X.prog X.w) X.A X.env X.xe->JSs X C (zb7 st) fb) :
  zf1 P w K mg base CX (k+1) f fd ps (zn5 nw K xv ks (zaq nw ks m fb)):=by
 obtain ⟨oc,od,kV,doc,pm,an,cdv,ct,osl,rfl,lk,hcd⟩:=F.ex
 refine znl lk hcd S (fun vs H Q E ⟨_,_,_,h,_⟩=>h.trans hl.symm) fun A outer s H vs Q E hr hsp=>?_
 obtain ⟨G,w0,bs,hv,hk,pr,hF⟩:=hsp
 let X:=zit CX P w K mg base N qual (zag st) f cdv A outer s H E
 let C:Cn:=⟨G,H,w0,za9 ks,L2.start N vs,fun n=>zaq nw ks m fb bs=.er n,xv,nw⟩
 have hE:∀ u a H',EXc C u a H'->E u a H':=fun u a H' ⟨ea,n,eu,en,G',w',s'⟩=>by
  subst ea;subst eu
  have en':zaq nw ks m fb bs=.er n:=en
  rw[en'] at hF
  exact hF G' H' w' s'
 have hb:=hbody X C ⟨cdv,A,outer,s,H,E,rfl⟩ rfl rfl rfl hr (lv N qual (zag st) f cdv A outer s H E (EXc C) S.kind hE) PassesOwn.leaving
 refine ⟨_,hb,G,w0,bs.map some++List.replicate m none,?_,?_⟩
 ·refine ⟨pr.gh,pr.wg,pr.wh,?_,fun i b e=>?_,.refl _ _ _,fun i _=>rfl⟩
  ·unfold L2.start
   simp only[List.length_append,List.length_map,List.length_replicate]
   have:=pr.len
   omega
  ·have hi:i<bs.length:=by
    by_cases hi:i<bs.length
    ·exact hi
    ·rw[List.getElem?_append_right (by simpa using hi),List.getElem?_replicate] at e
     split at e <;> cases e
   rw[List.getElem?_append_left (by simpa using hi),List.getElem?_map] at e
   have eb:bs[i]? = some b:=by
    cases q:bs[i]? with
    |none=>rw[q] at e;cases e
    |some z=>rw[q] at e;cases e;rfl
   have hiv:i<vs.length:=by rw[<- pr.len];exact hi
   refine ⟨vs[i],?_,pr.sl i b vs[i] eb (by simp[hiv])⟩
   unfold L2.start
   rw[List.getElem?_append_left (by simpa using hiv),List.getElem?_map]
   simp[hiv]
 ·have hF':match zaq nw ks m fb bs with
   |.ok a=>∀ v G' H' w',zaN G H w0 G' H' w'->zke K G' H' w' ks a.2 vs->RtG nw K H G' H' w' a.1 v->Q v H'
   |.er n=>∀ G' H' w',zaN G H w0 G' H' w'->E (xv n) none H'
   |.no=>False:=hF
  have er:zaq nw ks m fb bs=(fb (bs.map some++List.replicate m none)).bind fun a=>match a.1 with
   |.nx=>if nw=true then .no else (zao ks a.2).bind fun l=>.ok (.non,l)
   |.rt d=>(zao ks a.2).bind fun l=>.ok (d,l)
   |_=>.no:=by unfold zaq;rw[if_pos hk]
  have back:∀{ρ':Ev}{l:List B}{σ':L2.St}{G' H':Hp}{w':Wn},zao ks ρ'=.ok l->Rel K C G' w' ρ' σ' H'->zke K G' H' w' ks l vs:=fun {ρ' l σ' G' H' w'} eb r'=>by
   refine ⟨r'.gh,r'.wg,r'.wh,fun j v e1 e2=>?_⟩
   obtain ⟨b,h1,h2⟩:=zcN eb e1
   obtain ⟨v',h3,h4⟩:=r'.sl j b h2
   have hj:j<ks.length:=(List.getElem?_eq_some_iff.mp e1).1
   have hp:σ'[j]? = (L2.start N vs)[j]? := r'.pin j (by
    show j∈za9 ks
    unfold za9
    rw[List.mem_filter]
    exact ⟨List.mem_range.mpr hj,by simp[e1]⟩)
   have hs:(L2.start N vs)[j]? = some (some v):=by
    unfold L2.start
    rw[List.getElem?_append_left (by simpa using (List.getElem?_eq_some_iff.mp e2).1),List.getElem?_map,e2];rfl
   rw[hp,hs] at h3;cases h3
   exact ⟨b,h1,h4⟩
  cases ef:fb (bs.map some++List.replicate m none) with
  |ok z =>
   obtain ⟨fl,ρ'⟩:=z
   rw[ef,R.bind_ok] at er
   cases fl with
   |nx =>
    cases nw with
    |true=>rw[er] at hF';exact hF'.elim
    |false =>
     intro σ' G' H' w' s' r'
     have er:zaq false ks m fb bs=(zao ks ρ').bind fun l=>.ok (.non,l):=er
     cases eb:zao ks ρ' with
     |ok l =>
      rw[er] at hF';simp only[eb,R.bind_ok] at hF'
      exact hF' _ G' H' w' s' (back eb r') (by unfold RtG Rep;rfl)
     |er n=>exact absurd eb zbS
     |no=>rw[er] at hF';simp only[eb,R.bind_no] at hF'
   |rt d =>
    intro v σ' G' H' w' s' r' q
    cases eb:zao ks ρ' with
    |ok l =>
     rw[er] at hF';simp only[eb,R.bind_ok] at hF'
     exact hF' _ G' H' w' s' (back eb r') q
    |er n=>exact absurd eb zbS
    |no=>rw[er] at hF';simp only[eb,R.bind_no] at hF'
   |bk=>rw[er] at hF';exact hF'.elim
   |ct=>rw[er] at hF';exact hF'.elim
  |er n =>
   show zaq nw ks m fb bs=.er n
   rw[er,ef];rfl
  |no=>rw[er,ef] at hF';exact hF'.elim
end
mutual
def zdT:Dt->PyData
 |.non=>.none
 |.bl b=>.bool b
 |.int i=>.int i
 |.str x=>.str x
 |.tup l=>.tuple (zd6 l)
 |.lst l=>.list (zd6 l)
 |.dct _=>.dict []
 |.scr ns=>.list (ns.map .int)
def zd6:List Dt->List PyData
 |[]=>[]
 |d::ds=>zdT d::zd6 ds
end
def okN:Nat->Dt->Bool
 |_,.non=>true
 |_,.bl _=>true
 |_,.int _=>true
 |_,.str x=>PySem.PyData.strOk x
 |0,.tup _=>false
 |0,.lst _=>false
 |n+1,.tup l=>l.all (okN n)
 |n+1,.lst l=>l.all (okN n)
 |_,.dct _=>false
 |_,.scr _=>false
mutual
def eqD:Dt->Dt->Bool
 |.non,.non=>true
 |.bl a,.bl b=>a == b
 |.bl a,.int j=>(if a then 1 else 0) == j
 |.int i,.bl b=>i == (if b then 1 else 0)
 |.int i,.int j=>i == j
 |.str x,.str y=>x == y
 |.lst xs,.lst ys=>zdP xs ys
 |.tup xs,.tup ys=>zdP xs ys
 |_,_=>false
def zdP:List Dt->List Dt->Bool
 |[],[]=>true
 |x::xs,y::ys=>eqD x y && zdP xs ys
 |_,_=>false
end
theorem zgY{n:Nat}(ih:∀ d,okN n d=true->(zdT d).canLay0=true/\(zdT d).depth<=n):∀ l:List Dt,l.all (okN n)=true->PyData.canLayAll0 (zd6 l)=true/\PyData.depthAll (zd6 l)<=n
 |[],_=>by simp[zd6,PyData.canLayAll0,PyData.depthAll]
 |d::ds,h=>by
  simp only[List.all_cons,Bool.and_eq_true] at h
  obtain ⟨h1,h2⟩:=ih d h.1
  obtain ⟨h3,h4⟩:=zgY ih ds h.2
  simp only[zd6,PyData.canLayAll0,PyData.depthAll,h1,h3,Bool.and_self,true_and]
  omega
theorem zia:∀(n:Nat)(d:Dt),okN n d=true->(zdT d).canLay0=true/\(zdT d).depth<=n
 |n,.non,_=>by simp[zdT,PyData.canLay0,PyData.depth]
 |n,.bl _,_=>by simp[zdT,PyData.canLay0,PyData.depth]
 |n,.int _,_=>by simp[zdT,PyData.canLay0,PyData.depth]
 |n,.str x,h=>by
  have h:PySem.PyData.strOk x=true:=by cases n <;> simpa [okN] using h
  simp[zdT,PyData.canLay0,PyData.depth,h]
 |0,.tup _,h=>by simp[okN] at h
 |0,.lst _,h=>by simp[okN] at h
 |n+1,.tup l,h=>by
  obtain ⟨h1,h2⟩:=zgY (zia n) l (by simpa [okN] using h)
  simp only[zdT,PyData.canLay0,PyData.depth,h1,true_and];omega
 |n+1,.lst l,h=>by
  obtain ⟨h1,h2⟩:=zgY (zia n) l (by simpa [okN] using h)
  simp only[zdT,PyData.canLay0,PyData.depth,h1,true_and];omega
 |n,.dct _,h=>by cases n <;> simp[okN] at h
 |n,.scr _,h=>by cases n <;> simp[okN] at h
mutual
theorem zj4:∀(n:Nat)(x y:Dt),okN n x=true->okN n y=true->PyData.eqv (zdT x) (zdT y)=eqD x y
 |n,.non,y,h,h'=>by cases y <;> first|(cases n <;> simp[okN] at h';done)|simp[zdT,PyData.eqv,eqD]
 |n,.bl _,y,h,h'=>by cases y <;> first|(cases n <;> simp[okN] at h';done)|simp[zdT,PyData.eqv,eqD]
 |n,.int _,y,h,h'=>by cases y <;> first|(cases n <;> simp[okN] at h';done)|simp[zdT,PyData.eqv,eqD]
 |n,.str _,y,h,h'=>by cases y <;> first|(cases n <;> simp[okN] at h';done)|simp[zdT,PyData.eqv,eqD]
 |0,.tup _,y,h,h'=>by simp[okN] at h
 |0,.lst _,y,h,h'=>by simp[okN] at h
 |n+1,.tup l,y,h,h'=>by
  cases y with
  |tup l'=>simp only[zdT,PyData.eqv,eqD];exact zjq n l l' (by simpa [okN] using h) (by simpa [okN] using h')
  |dct _=>simp[okN] at h'
  |scr _=>simp[okN] at h'
  |_=>simp[zdT,PyData.eqv,eqD]
 |n+1,.lst l,y,h,h'=>by
  cases y with
  |lst l'=>simp only[zdT,PyData.eqv,eqD];exact zjq n l l' (by simpa [okN] using h) (by simpa [okN] using h')
  |dct _=>simp[okN] at h'
  |scr _=>simp[okN] at h'
  |_=>simp[zdT,PyData.eqv,eqD]
 |n,.dct _,y,h,h'=>by cases n <;> simp[okN] at h
 |n,.scr _,y,h,h'=>by cases n <;> simp[okN] at h
theorem zjq:∀(n:Nat)(x y:List Dt),x.all (okN n)=true->y.all (okN n)=true->PyData.eqvAll (zd6 x) (zd6 y)=zdP x y
 |n,[],[],_,_=>by simp[zd6,PyData.eqvAll,zdP]
 |n,[],_::_,_,_=>by simp[zd6,PyData.eqvAll,zdP]
 |n,_::_,[],_,_=>by simp[zd6,PyData.eqvAll,zdP]
 |n,a::as,b::bs,h,h'=>by
  simp only[List.all_cons,Bool.and_eq_true] at h h'
  simp only[zd6,PyData.eqvAll,zdP]
  rw[zj4 n a b h.1 h'.1,zjq n as bs h.2 h'.2]
end
section
variable{X:Cx}{pins:List (Addr×Obj)}{σ:L2.St}{H:Hp}{s:Shared}
mutual
theorem zcO(I:L2.Inv X pins σ H s):∀(n:Nat)(d:Dt)(v:V)(u:Value),okN n d=true->Rep X.K H d v->zaF v u->∃ as,Reads s.heap u (zdT d) as
 |n,.non,v,u,_,h,r=>by rw[zfJ h] at r;cases r;exact ⟨[],by simp only[zdT];exact .none⟩
 |n,.bl b,v,u,_,h,r=>by rw[zdw h] at r;cases r;exact ⟨[],by simp only[zdT];exact .bool _⟩
 |n,.int b,v,u,_,h,r=>by rw[zam h] at r;obtain ⟨t,rfl⟩:=r;exact ⟨[],by simp only[zdT];exact .int _ _⟩
 |n,.str b,v,u,_,h,r=>by rw[zey h] at r;obtain ⟨t,rfl⟩:=r;exact ⟨[],by simp only[zdT];exact .str _ _⟩
 |0,.tup l,v,u,hk,h,r=>by simp[okN] at hk
 |0,.lst l,v,u,hk,h,r=>by simp[okN] at hk
 |n+1,.tup l,v,u,hk,h,r=>by
  obtain ⟨a,vs,rfl,h1,h2⟩:=zbh h
  cases r
  obtain ⟨its,rv,⟨o,e,c,k,dd⟩,_⟩:=I.tuple h1
  obtain ⟨as,q⟩:=zdV I n l vs its (by simpa [okN] using hk) h2 rv
  exact ⟨as,by simp only[zdT];exact .tuple e c dd (by simpa using q)⟩
 |n+1,.lst l,v,u,hk,h,r=>by
  obtain ⟨a,vs,rfl,h1,h2⟩:=za7 h
  cases r
  obtain ⟨its,rv,⟨o,k,e,c,_,dd⟩,_⟩:=I.list (SqL.of h1)
  obtain ⟨as,q⟩:=zdV I n l vs its (by simpa [okN] using hk) h2 rv
  exact ⟨a::as,by simp only[zdT];exact .list e c dd (by simpa using q)⟩
 |n,.dct _,v,u,hk,h,r=>by cases n <;> simp[okN] at hk
 |n,.scr _,v,u,hk,h,r=>by cases n <;> simp[okN] at hk
theorem zdV(I:L2.Inv X pins σ H s):∀(n:Nat)(ds:List Dt)(vs:List V)(us:List Value),ds.all (okN n)=true->zaw X.K H ds vs->zaM vs us->∃ as,ReadsAll s.heap us (zd6 ds) as
 |n,[],vs,us,_,h,r=>by
  rw[h.nil_inv] at r
  cases r
  exact ⟨[],by simp only[zd6];exact .nil⟩
 |n,d::ds,vs,us,hk,h,r=>by
  obtain ⟨v,t,rfl,h1,h2⟩:=h.cons_inv
  cases r with
  |cons r1 r2 =>
   simp only[List.all_cons,Bool.and_eq_true] at hk
   obtain ⟨as,q1⟩:=zcO I n d v _ hk.1 h1 r1
   obtain ⟨bs,q2⟩:=zdV I n ds t _ hk.2 h2 r2
   exact ⟨as++bs,by simp only[zd6];exact .cons q1 q2⟩
end
mutual
theorem zlk(I:L2.Inv X pins σ H s):∀(n:Nat)(d d':Dt)(v:V),okN n d=true->okN n d'=true->Rep X.K H d v->Rep X.K H d' v->d=d'
 |n,.non,d',v,hk,hk',h,h'=>by
  rw[zfJ h] at h'
  cases d' <;> unfold Rep at h' <;> first|(obtain ⟨a,vs,z,_⟩:=h';cases z;done)|(obtain ⟨a,z,_⟩:=h';cases z;done)|(cases h';rfl)|(cases h';done)|rfl
 |n,.bl b,d',v,hk,hk',h,h'=>by
  rw[zdw h] at h'
  cases d' <;> unfold Rep at h' <;> first|(obtain ⟨a,vs,z,_⟩:=h';cases z;done)|(obtain ⟨a,z,_⟩:=h';cases z;done)|(cases h';rfl)|(cases h';done)|rfl
 |n,.int b,d',v,hk,hk',h,h'=>by
  rw[zam h] at h'
  cases d' <;> unfold Rep at h' <;> first|(obtain ⟨a,vs,z,_⟩:=h';cases z;done)|(obtain ⟨a,z,_⟩:=h';cases z;done)|(cases h';rfl)|(cases h';done)|rfl
 |n,.str b,d',v,hk,hk',h,h'=>by
  rw[zey h] at h'
  cases d' <;> unfold Rep at h' <;> first|(obtain ⟨a,vs,z,_⟩:=h';cases z;done)|(obtain ⟨a,z,_⟩:=h';cases z;done)|(cases h';rfl)|(cases h';done)|rfl
 |0,.tup l,d',v,hk,_,h,h'=>by simp[okN] at hk
 |0,.lst l,d',v,hk,_,h,h'=>by simp[okN] at hk
 |n+1,.tup l,d',v,hk,hk',h,h'=>by
  obtain ⟨a,vs,rfl,h1,h2⟩:=zbh h
  cases d' with
  |tup l' =>
   obtain ⟨a',vs',e,h3,h4⟩:=zbh h'
   cases e
   rw[I.tuple_inj h3 h1] at h4
   rw[zgV I n l l' vs (by simpa [okN] using hk) (by simpa [okN] using hk') h2 h4]
  |lst l' =>
   obtain ⟨a',vs',e,h3,h4⟩:=za7 h'
   cases e
   obtain ⟨its,rv,⟨o,e,c,k,dd⟩,_⟩:=I.tuple h1
   obtain ⟨its',rv',⟨o',k',e',c',_,dd'⟩,_⟩:=I.list (SqL.of h3)
   rw[e] at e';cases e'
   rw[c] at c';exact absurd c' (by decide)
  |dct _=>simp[okN] at hk'
  |scr _=>simp[okN] at hk'
  |non=>cases zfJ h'
  |bl _=>cases zdw h'
  |int _=>cases zam h'
  |str _=>cases zey h'
 |n+1,.lst l,d',v,hk,hk',h,h'=>by
  obtain ⟨a,vs,rfl,h1,h2⟩:=za7 h
  cases d' with
  |lst l' =>
   obtain ⟨a',vs',e,h3,h4⟩:=za7 h'
   cases e
   rw[h1] at h3;cases h3
   rw[zgV I n l l' vs (by simpa [okN] using hk) (by simpa [okN] using hk') h2 h4]
  |tup l' =>
   obtain ⟨a',vs',e,h3,h4⟩:=zbh h'
   cases e
   obtain ⟨its,rv,⟨o,e,c,k,dd⟩,_⟩:=I.tuple h3
   obtain ⟨its',rv',⟨o',k',e',c',_,dd'⟩,_⟩:=I.list (SqL.of h1)
   rw[e] at e';cases e'
   rw[c] at c';exact absurd c' (by decide)
  |dct _=>simp[okN] at hk'
  |scr _=>simp[okN] at hk'
  |non=>cases zfJ h'
  |bl _=>cases zdw h'
  |int _=>cases zam h'
  |str _=>cases zey h'
 |n,.dct _,d',v,hk,_,h,h'=>by cases n <;> simp[okN] at hk
 |n,.scr _,d',v,hk,_,h,h'=>by cases n <;> simp[okN] at hk
theorem zgV(I:L2.Inv X pins σ H s):∀(n:Nat)(ds ds':List Dt)(vs:List V),ds.all (okN n)=true->ds'.all (okN n)=true->zaw X.K H ds vs->zaw X.K H ds' vs->ds=ds'
 |n,[],ds',vs,_,_,h,h'=>by
  rw[h.nil_inv] at h'
  cases ds' with
  |nil=>rfl
  |cons d t=>obtain ⟨v,r,z,_⟩:=h'.cons_inv;cases z
 |n,d::ds,ds',vs,hk,hk',h,h'=>by
  obtain ⟨v,t,rfl,h1,h2⟩:=h.cons_inv
  cases ds' with
  |nil=>cases h'.nil_inv
  |cons d' t' =>
   obtain ⟨v',r',z,h3,h4⟩:=h'.cons_inv
   cases z
   simp only[List.all_cons,Bool.and_eq_true] at hk hk'
   rw[zlk I n d d' v hk.1 hk'.1 h1 h3,zgV I n ds t' t hk.2 hk'.2 h2 h4]
end
end
def zs3(K:W.Frag)(neg:Bool):R2:=fun x y H Q=>∃ dx dy,Rep K H dx x/\Rep K H dy y/\okN 60 dx=true/\okN 60 dy=true/\Q (.bl (if neg then !eqD dx dy else eqD dx dy)) H
theorem zep{d:Dt}(h:okN 60 d=true):SeqAt.shaped (zdT d)=true:=by
 obtain ⟨h1,h2⟩:=zia 60 d h
 unfold SeqAt.shaped
 rw[h1,Bool.true_and]
 exact decide_eq_true (by omega)
section
variable{X:Cx}
theorem zo0(hu:X.A.units+64<cLine):OpR X (compareOp .Eq) (zs3 X.K false):=by
 intro pins s σ H x y v u Q I rx ry h
 obtain ⟨dx,dy,h1,h2,h3,h4,q⟩:=h
 obtain ⟨as,ra⟩:=zcO I 60 dx x v h3 h1 rx
 obtain ⟨bs,rb⟩:=zcO I 60 dy y u h4 h2 ry
 exact PyProof.Rows.eq_dataH ra rb (zep h3) (zep h4) hu ⟨.bl (eqD dx dy),H,I,(by rw[zj4 60 dx dy h3 h4];rfl),q⟩
theorem zo8(hu:X.A.units+64<cLine):OpR X (compareOp .NotEq) (zs3 X.K true):=by
 intro pins s σ H x y v u Q I rx ry h
 obtain ⟨dx,dy,h1,h2,h3,h4,q⟩:=h
 obtain ⟨as,ra⟩:=zcO I 60 dx x v h3 h1 rx
 obtain ⟨bs,rb⟩:=zcO I 60 dy y u h4 h2 ry
 exact PyProof.Rows.ne_dataH ra rb (zep h3) (zep h4) hu ⟨.bl (!eqD dx dy),H,I,(by rw[zj4 60 dx dy h3 h4];rfl),q⟩
def gEq(neg:Bool):Dt->Dt->R Dt:=fun x y=>if (okN 60 x && okN 60 y)=true then .ok (.bl (if neg then !eqD x y else eqD x y)) else .no
theorem ziZ(neg:Bool):zha (gEq neg):=fun x y n h=>by unfold gEq at h;split at h <;> cases h
theorem zmr{K:W.Frag}(neg:Bool):Op2 K (zs3 K neg) (gEq neg):=fun G H x y dx dy z Q gh hx hy e k=>by
 unfold gEq at e
 split at e
 ·rename_i h
  rw[Bool.and_eq_true] at h
  cases e
  exact ⟨dx,dy,hx.same gh,hy.same gh,h.1,h.2,k _ G H (.refl gh) (by unfold Rep;rfl)⟩
 ·cases e
theorem zlc{pins:List (Addr×Obj)}{σ:L2.St}{H:Hp}{s:Shared}(I:L2.Inv X pins σ H s){A:Around}(hu:A.units+64<cLine){dx dy:Dt}{x y:V}{v u:Value}(h3:okN 60 dx=true)(h4:okN 60 dy=true)(h1:Rep X.K H dx x)(h2:Rep X.K H dy y)(rx:zaF x v)(ry:zaF y u) :
  SeqAt.EqAt A s v u (eqD dx dy):=by
 obtain ⟨as,ra⟩:=zcO I 60 dx x v h3 h1 rx
 obtain ⟨bs,rb⟩:=zcO I 60 dy y u h4 h2 ry
 obtain ⟨k1,k2⟩:=zia 60 dx h3
 obtain ⟨k3,k4⟩:=zia 60 dy h4
 have:=SeqAt.eqAt_reads (zdT dx) (zdT dy) A s v u as bs ra rb k1 k3 (by omega)
 rw[zj4 60 dx dy h3 h4] at this
 exact this
open Classical in
noncomputable def zir(K:W.Frag)(H:Hp)(dx:Dt)(u:Value):Bool:=if ∃ d v,okN 60 d=true/\Rep K H d v/\zaF v u/\eqD d dx=true then true else false
theorem zlH{pins:List (Addr×Obj)}{σ:L2.St}{H:Hp}{s:Shared}(I:L2.Inv X pins σ H s){d dx:Dt}{v:V}{u:Value}(hk:okN 60 d=true)(h:Rep X.K H d v)(r:zaF v u):zir X.K H dx u=eqD d dx:=by
 unfold zir
 split
 ·rename_i q
  obtain ⟨d',v',k',h',r',e'⟩:=q
  have ev:v'=v:=r'.inj r
  subst ev
  rw[zlk I 60 d d' v' hk k' h h'];exact e'.symm
 ·rename_i q
  cases e:eqD d dx with
  |false=>rfl
  |true=>exact absurd ⟨d,v,hk,h,r,e⟩ q
theorem zes{pins:List (Addr×Obj)}{σ:L2.St}{H:Hp}{s:Shared}(I:L2.Inv X pins σ H s){dx:Dt}:∀{ds:List Dt}{vs:List V}{us:List Value},ds.all (okN 60)=true->zaw X.K H ds vs->zaM vs us->us.any (zir X.K H dx)=ds.any fun d=>eqD d dx
 |[],vs,us,_,h,r=>by rw[h.nil_inv] at r;cases r;rfl
 |d::ds,vs,us,hk,h,r=>by
  obtain ⟨v,t,rfl,h1,h2⟩:=h.cons_inv
  cases r with
  |cons r1 r2 =>
   simp only[List.all_cons,Bool.and_eq_true] at hk
   simp only[List.any_cons]
   rw[zlH I hk.1 h1 r1,zes I hk.2 h2 r2]
theorem zda{pins:List (Addr×Obj)}{σ:L2.St}{H:Hp}{s:Shared}(I:L2.Inv X pins σ H s){A:Around}(hu:A.units+64<cLine){dx:Dt}{x:V}{v:Value}(hk:okN 60 dx=true)(hx:Rep X.K H dx x)(rx:zaF x v):∀{ds:List Dt}{vs:List V}{us:List Value},ds.all (okN 60)=true->zaw X.K H ds vs->zaM vs us->∀ u∈us,SeqAt.EqAt A s u v (zir X.K H dx u)
 |[],vs,us,_,h,r,u,hu=>by rw[h.nil_inv] at r;cases r;cases hu
 |d::ds,vs,us,hks,h,r,u,hm=>by
  obtain ⟨v,t,rfl,h1,h2⟩:=h.cons_inv
  cases r with
  |cons r1 r2 =>
   simp only[List.all_cons,Bool.and_eq_true] at hks
   rcases List.mem_cons.mp hm with rfl|hm
   ·rw[zlH I hks.1 h1 r1]
    exact zlc I hu hks.1 hk h1 hx r1 rx
   ·exact zda I hu hk hx rx hks.2 h2 r2 u hm
def inD(x:Dt)(l:List Dt):Bool:=l.any fun d=>eqD d x
def ztc(K:W.Frag)(neg:Bool):R2:=fun x y H Q=>∃ dx ds,Rep K H dx x/\(Rep K H (.lst ds) y\/Rep K H (.tup ds) y)/\okN 60 dx=true/\ds.all (okN 60)=true/\Q (.bl (if neg then !inD dx ds else inD dx ds)) H
theorem zc9(A:Around):A.in1.units=A.units+1:=rfl
theorem zoH(hu:X.A.units+65<cLine):OpR X (compareOp .In) (ztc X.K false):=by
 intro pins s σ H x y v u Q I rx ry h
 obtain ⟨dx,ds,h1,h2,h3,h4,q⟩:=h
 have hu1:X.A.in1.units+64<cLine:=by rw[zc9];omega
 rcases h2 with h2|h2
 ·obtain ⟨a,vs,rfl,k1,k2⟩:=za7 h2
  cases ry
  obtain ⟨its,r,pl,hz⟩:=I.list (SqL.of k1)
  refine SeqAt.in_listAt (zir X.K H dx) pl.isList (fun w hw=>zda I hu1 h3 h1 rx h4 k2 r w (by simpa using hw)) ⟨.bl _,H,I,rfl,?_⟩
  rw[show its.toArray.any (zir X.K H dx)=its.any (zir X.K H dx) by simp,zes I h4 k2 r]
  exact q
 ·obtain ⟨a,vs,rfl,k1,k2⟩:=zbh h2
  cases ry
  obtain ⟨its,r,pl,hz⟩:=I.tuple k1
  refine SeqAt.in_tupleAt (zir X.K H dx) pl (fun w hw=>zda I hu1 h3 h1 rx h4 k2 r w (by simpa using hw)) ⟨.bl _,H,I,rfl,?_⟩
  rw[show its.toArray.any (zir X.K H dx)=its.any (zir X.K H dx) by simp,zes I h4 k2 r]
  exact q
theorem zhC(hu:X.A.units+65<cLine):OpR X (compareOp .NotIn) (ztc X.K true):=by
 intro pins s σ H x y v u Q I rx ry h
 obtain ⟨dx,ds,h1,h2,h3,h4,q⟩:=h
 have hu1:X.A.in1.units+64<cLine:=by rw[zc9];omega
 rcases h2 with h2|h2
 ·obtain ⟨a,vs,rfl,k1,k2⟩:=za7 h2
  cases ry
  obtain ⟨its,r,pl,hz⟩:=I.list (SqL.of k1)
  refine SeqAt.notIn_listAt (zir X.K H dx) pl.isList (fun w hw=>zda I hu1 h3 h1 rx h4 k2 r w (by simpa using hw)) ⟨.bl _,H,I,rfl,?_⟩
  rw[show its.toArray.any (zir X.K H dx)=its.any (zir X.K H dx) by simp,zes I h4 k2 r]
  exact q
 ·obtain ⟨a,vs,rfl,k1,k2⟩:=zbh h2
  cases ry
  obtain ⟨its,r,pl,hz⟩:=I.tuple k1
  refine SeqAt.notIn_tupleAt (zir X.K H dx) pl (fun w hw=>zda I hu1 h3 h1 rx h4 k2 r w (by simpa using hw)) ⟨.bl _,H,I,rfl,?_⟩
  rw[show its.toArray.any (zir X.K H dx)=its.any (zir X.K H dx) by simp,zes I h4 k2 r]
  exact q
def gIn(neg:Bool):Dt->Dt->R Dt:=fun x y=>match y with
 |.lst ds=>if (okN 60 x && ds.all (okN 60))=true then .ok (.bl (if neg then !inD x ds else inD x ds)) else .no
 |.tup ds=>if (okN 60 x && ds.all (okN 60))=true then .ok (.bl (if neg then !inD x ds else inD x ds)) else .no
 |_=>.no
theorem zgE(neg:Bool):zha (gIn neg):=fun x y n h=>by
 unfold gIn at h
 split at h
 ·split at h <;> cases h
 ·split at h <;> cases h
 ·cases h
theorem zjz{K:W.Frag}(neg:Bool):Op2 K (ztc K neg) (gIn neg):=fun G H x y dx dy z Q gh hx hy e k=>by
 unfold gIn at e
 split at e
 ·split at e
  ·rename_i h
   rw[Bool.and_eq_true] at h
   cases e
   exact ⟨dx,_,hx.same gh,.inl (hy.same gh),h.1,h.2,k _ G H (.refl gh) (by unfold Rep;rfl)⟩
  ·cases e
 ·split at e
  ·rename_i h
   rw[Bool.and_eq_true] at h
   cases e
   exact ⟨dx,_,hx.same gh,.inr (hy.same gh),h.1,h.2,k _ G H (.refl gh) (by unfold Rep;rfl)⟩
  ·cases e
 ·cases e
end
def zbY(i:Int):Bool:=decide (-18446744073709551616<i) && decide (i<18446744073709551616)
theorem zgl{i:Int}(h:zbY i=true):-(2 ^ 64)<i/\i<2 ^ 64:=by
 unfold zbY at h
 rw[Bool.and_eq_true] at h
 have h1:=of_decide_eq_true h.1
 have h2:=of_decide_eq_true h.2
 omega
def zaB:Dt->Dt->R Dt
 |.int i,.int j=>.ok (.int (i+j))
 |_,_=>.no
def zgd:Dt->Dt->R Dt
 |.int i,.int j=>.ok (.int (i-j))
 |_,_=>.no
def zmc:Dt->Dt->R Dt
 |.int i,.int j=>if (zbY i || zbY j)=true then .ok (.int (i * j)) else .no
 |_,_=>.no
def zmW:Dt->Dt->R Dt
 |.int i,.int j=>if 0<j/\j<1073741824 then .ok (.int (i / j)) else .no
 |_,_=>.no
def zkD:Dt->Dt->R Dt
 |.int i,.int j=>if 0<j then .ok (.int (i % j)) else .no
 |_,_=>.no
def zna:Dt->Dt->R Dt
 |.int i,.int j=>if 0<=j/\j<=1000/\i.natAbs<18446744073709551616 then .ok (.int (i ^ j.toNat)) else .no
 |_,_=>.no
def zl2(f:Int->Int->Bool):Dt->Dt->R Dt
 |.int i,.int j=>.ok (.bl (f i j))
 |_,_=>.no
section
variable{K:W.Frag}
theorem zax{G:Hp}(i:Int):Rep K G (.int i) (.int i):=by unfold Rep;rfl
theorem zc7{G:Hp}(b:Bool):Rep K G (.bl b) (.bl b):=by unfold Rep;rfl
theorem znk:Op2 K (rI0 fun i j=>.int (i+j)) zaB:=fun G H x y dx dy z Q gh hx hy e k=>by
 unfold zaB at e
 split at e
 ·cases e;exact ⟨_,_,zam hx,zam hy,k _ G H (.refl gh) (zax _)⟩
 ·cases e
theorem zqh:Op2 K (rI0 fun i j=>.int (i-j)) zgd:=fun G H x y dx dy z Q gh hx hy e k=>by
 unfold zgd at e
 split at e
 ·cases e;exact ⟨_,_,zam hx,zam hy,k _ G H (.refl gh) (zax _)⟩
 ·cases e
theorem zps:Op2 K (rI zs0 fun i j=>.int (i * j)) zmc:=fun G H x y dx dy z Q gh hx hy e k=>by
 unfold zmc at e
 split at e
 ·split at e
  ·rename_i h
   cases e
   rw[Bool.or_eq_true] at h
   exact ⟨_,_,zam hx,zam hy,h.elim (fun z=>.inl (zgl z)) (fun z=>.inr (zgl z)),k _ G H (.refl gh) (zax _)⟩
  ·cases e
 ·cases e
theorem zpX:Op2 K (rI CDiv fun i j=>.int (i / j)) zmW:=fun G H x y dx dy z Q gh hx hy e k=>by
 unfold zmW at e
 split at e
 ·split at e
  ·rename_i h
   cases e
   exact ⟨_,_,zam hx,zam hy,h,k _ G H (.refl gh) (zax _)⟩
  ·cases e
 ·cases e
theorem zpi:Op2 K (rI (fun _ j=>0<j) fun i j=>.int (i % j)) zkD:=fun G H x y dx dy z Q gh hx hy e k=>by
 unfold zkD at e
 split at e
 ·split at e
  ·rename_i h
   cases e
   exact ⟨_,_,zam hx,zam hy,h,k _ G H (.refl gh) (zax _)⟩
  ·cases e
 ·cases e
theorem zoN:Op2 K (rI CPow fun i j=>.int (i ^ j.toNat)) zna:=fun G H x y dx dy z Q gh hx hy e k=>by
 unfold zna at e
 split at e
 ·split at e
  ·rename_i h
   cases e
   exact ⟨_,_,zam hx,zam hy,⟨h.1,by omega,by have:=h.2.2;omega⟩,k _ G H (.refl gh) (zax _)⟩
  ·cases e
 ·cases e
theorem zec{f:Int->Int->Bool}:Op2 K (rI0 fun i j=>.bl (f i j)) (zl2 f):=fun G H x y dx dy z Q gh hx hy e k=>by
 unfold zl2 at e
 split at e
 ·cases e;exact ⟨_,_,zam hx,zam hy,k _ G H (.refl gh) (zc7 _)⟩
 ·cases e
theorem zln:zha zaB:=fun x y n h=>by unfold zaB at h;split at h <;> cases h
theorem znc:zha zgd:=fun x y n h=>by unfold zgd at h;split at h <;> cases h
theorem znT:zha zmc:=fun x y n h=>by unfold zmc at h;split at h <;> first|cases h|(split at h <;> cases h)
theorem znv:zha zmW:=fun x y n h=>by unfold zmW at h;split at h <;> first|cases h|(split at h <;> cases h)
theorem znW:zha zkD:=fun x y n h=>by unfold zkD at h;split at h <;> first|cases h|(split at h <;> cases h)
theorem zoc:zha zna:=fun x y n h=>by unfold zna at h;split at h <;> first|cases h|(split at h <;> cases h)
theorem zcF{f:Int->Int->Bool}:zha (zl2 f):=fun x y n h=>by unfold zl2 at h;split at h <;> cases h
end
section
variable{X:Cx}{C:Cn}{a b:Expr}{fa fb:De}{pos:Pos}
theorem zbv(ha:JE X C a fa)(hb:JE X C b fb):JE X C (.BinOp a .Add b pos) (dOp zaB fa fb):=ziG zrj znk zln ha hb
theorem zjy(ha:JE X C a fa)(hb:JE X C b fb):JE X C (.BinOp a .Sub b pos) (dOp zgd fa fb):=ziG zrC zqh znc ha hb
theorem zh8(ha:JE X C a fa)(hb:JE X C b fb):JE X C (.BinOp a .Mult b pos) (dOp zmc fa fb):=ziG zsr zps znT ha hb
theorem zo7(ha:JE X C a fa)(hb:JE X C b fb):JE X C (.BinOp a .FloorDiv b pos) (dOp zmW fa fb):=ziG zpn zpX znv ha hb
theorem zgr(ha:JE X C a fa)(hb:JE X C b fb):JE X C (.BinOp a .Mod b pos) (dOp zkD fa fb):=ziG zrX zpi znW ha hb
theorem zoC(ha:JE X C a fa)(hb:JE X C b fb):JE X C (.BinOp a .Pow b pos) (dOp zna fa fb):=ziG zqV zoN zoc ha hb
abbrev gLt:=zl2 fun i j=>decide (i<j)
abbrev gLe:=zl2 fun i j=>decide (i<=j)
abbrev gGt:=zl2 fun i j=>decide (j<i)
abbrev gGe:=zl2 fun i j=>decide (j<=i)
theorem zsR(ha:JE X C a fa)(hb:JE X C b fb):JE X C (.Compare a [.Lt] [b] pos) (dOp gLt fa fb):=zhV zpc zec zcF ha hb (zef _)
theorem zsH(ha:JE X C a fa)(hb:JE X C b fb):JE X C (.Compare a [.Gt] [b] pos) (dOp gGt fa fb):=zhV zri zec zcF ha hb (zef _)
theorem zqZ(hu:X.A.units+64<cLine)(ha:JE X C a fa)(hb:JE X C b fb):JE X C (.Compare a [.Eq] [b] pos) (dOp (gEq false) fa fb):=zhV (zo0 hu) (zmr false) (ziZ false) ha hb (zef _)
theorem zr9(hu:X.A.units+65<cLine)(ha:JE X C a fa)(hb:JE X C b fb)(hm:behindInMarks .In b=false:=by rfl):JE X C (.Compare a [.In] [b] pos) (dOp (gIn false) fa fb):=zhV (zoH hu) (zjz false) (zgE false) ha hb hm
theorem znr(hu:X.A.units+65<cLine)(ha:JE X C a fa)(hb:JE X C b fb)(hm:behindInMarks .NotIn b=false:=by rfl):JE X C (.Compare a [.NotIn] [b] pos) (dOp (gIn true) fa fb):=zhV (zhC hu) (zjz true) (zgE true) ha hb hm
theorem zob(ha:JE X C a fa)(hb:JE X C b fb):JT X C (.Compare a [.Lt] [b] pos) (dTB (dOp gLt fa fb)):=zfK zpc zec zcF ha hb (zef _)
theorem znt(ha:JE X C a fa)(hb:JE X C b fb):JT X C (.Compare a [.Gt] [b] pos) (dTB (dOp gGt fa fb)):=zfK zri zec zcF ha hb (zef _)
theorem zsL(ha:JE X C a fa)(hb:JE X C b fb):JT X C (.Compare a [.GtE] [b] pos) (dTB (dOp gGe fa fb)):=zfK zsM zec zcF ha hb (zef _)
theorem znC(hu:X.A.units+64<cLine)(ha:JE X C a fa)(hb:JE X C b fb):JT X C (.Compare a [.Eq] [b] pos) (dTB (dOp (gEq false) fa fb)):=zfK (zo0 hu) (zmr false) (ziZ false) ha hb (zef _)
theorem zjm(hu:X.A.units+64<cLine)(ha:JE X C a fa)(hb:JE X C b fb):JT X C (.Compare a [.NotEq] [b] pos) (dTB (dOp (gEq true) fa fb)):=zfK (zo8 hu) (zmr true) (ziZ true) ha hb (zef _)
theorem zsn(hu:X.A.units+65<cLine)(ha:JE X C a fa)(hb:JE X C b fb)(hm:behindInMarks .In b=false:=by rfl):JT X C (.Compare a [.In] [b] pos) (dTB (dOp (gIn false) fa fb)):=zfK (zoH hu) (zjz false) (zgE false) ha hb hm
theorem zhb(hu:X.A.units+65<cLine)(ha:JE X C a fa)(hb:JE X C b fb)(hm:behindInMarks .NotIn b=false:=by rfl):JT X C (.Compare a [.NotIn] [b] pos) (dTB (dOp (gIn true) fa fb)):=zfK (zhC hu) (zjz true) (zgE true) ha hb hm
def zkH(fa:De):De:=fun ρ=>(fa ρ).bind fun a=>match a.1 with
 |.int i=>.ok (.int (-i),a.2)
 |_=>.no
theorem zlx(ha:JE X C a fa):JE X C (.UnaryOp .USub a pos) (zkH fa):=PE.weak (zsK zr8 ha) fun σ H Q ⟨G,w,ρ,r,p⟩=>by
 refine zch (κ:=fun G H w=>kE X.K C σ Q G H w) zbt r p fun d ρ1 v G1 H1 w1 r1 s1 q1 p1=>?_
 cases d with
 |int i=>exact ⟨i,zam q1,p1 _ G1 H1 w1 (.refl _ _ _) r1 (zax _)⟩
 |_=>exact p1.elim
def zhw(g g':Dt->Dt->R Dt)(fa fb fc:De):De:=fun ρ=>(fa ρ).bind fun a=>(fb a.2).bind fun b=>(g a.1 b.1).bind fun z=>match z with
 |.bl true=>(fc b.2).bind fun c=>(g' b.1 c.1).bind fun z'=>.ok (z',c.2)
 |.bl false=>.ok (.bl false,b.2)
 |_=>.no
end
def FnR(K:W.Frag)(r:List V->Hp->VK->Prop)(g:List Dt->R Dt):Prop:=∀(G H:Hp)(vs:List V)(ds:List Dt)(z:Dt)(Q:VK),zcf G H->zaw K G ds vs->g ds=.ok z ->
 (∀ v G' H',zdE G H G' H'->Rep K G' z v->Q v H')->r vs H Q
def FnN(K:W.Frag)(r:List V->Hp->VK->Prop)(g:List Dt->R (List Dt)):Prop:=∀(G H:Hp)(vs:List V)(ds:List Dt)(z:List Dt)(Q:VK),zcf G H->zaw K G ds vs->g ds=.ok z ->
 (∀ p zs,H p=none->zaw K G z zs->Q (.ref p) (upd H p (.lst zs)))->r vs H Q
def ziu{α:Type}(g:List Dt->R α):Prop:=∀ x n,g x≠.er n
def dFn(g:List Dt->R Dt)(fa:DA):De:=fun ρ=>(fa ρ).bind fun a=>(g a.1).bind fun z=>.ok (z,a.2)
def ziT(g:List Dt->R (List Dt))(fa:DA):DN:=fun ρ=>(fa ρ).bind fun a=>(g a.1).bind fun z=>.ok (z,a.2)
section
variable{X:Cx}{C:Cn}{e:Expr}{es:List Expr}{fa:DA}{p pos:Pos}{x:Str}{id T:String}{r:List V->Hp->VK->Prop}
theorem zm3{g:List Dt->R Dt}{σ:L2.St}{H:Hp}{Q:VK}(h:FnR X.K r g)(he:ziu g)(t:tE X.K C (dFn g fa) σ H Q):tCB r (tAd X.K C fa) σ H Q:=by
 obtain ⟨G,w,ρ,rr,p⟩:=t
 refine zrW (κ:=fun G H w=>kE X.K C σ Q G H w) zbt rr p fun ds ρ1 vs G1 H1 w1 r1 s1 q1 p1=>?_
 cases e:g ds with
 |ok z =>
  simp only[e,R.bind_ok] at p1
  exact h G1 H1 vs ds z Q r1.gh q1 e fun v G' H' gr q=>p1 v G' H' w1 gr.step (r1.grow gr) q
 |er n=>exact absurd e (he _ _)
 |no=>simp only[e,R.bind_no] at p1;exact p1.elim
theorem zjX{g:List Dt->R (List Dt)}{σ:L2.St}{H:Hp}{Q:VK}(h:FnN X.K r g)(he:ziu g)(t:tN X.K C (ziT g fa) σ H Q):tCB r (tAd X.K C fa) σ H Q:=by
 obtain ⟨G,w,ρ,rr,p⟩:=t
 refine zrW (κ:=fun G H w=>kN X.K C σ Q G H w) zgh rr p fun ds ρ1 vs G1 H1 w1 r1 s1 q1 p1=>?_
 cases e:g ds with
 |ok z =>
  simp only[e,R.bind_ok] at p1
  refine h G1 H1 vs ds z Q r1.gh q1 e fun a zs ha q=>?_
  have gr:zdE G1 H1 G1 (upd H1 a (.lst zs)):=.newH r1.gh ha
  exact p1 a zs G1 _ w1 gr.step (r1.grow gr) ha zal (r1.gh.free ha) (by
   cases z:w1 a with
   |none=>rfl
   |some k=>exact absurd ha (r1.wh a (by rw[z];simp))) q
 |er n=>exact absurd e (he _ _)
 |no=>simp only[e,R.bind_no] at p1;exact p1.elim
theorem zcI{g:List Dt->R Dt}(h:FnR X.K r g)(he:ziu g)(hc:zbP X (.builtin id) r)(hg:Gl X x)(hm:X.mg x=none)(hv:bootBuiltins x=some (.builtin id))(ha:JA X C (e::es) fa)(hn:x≠"__name__":=by decide)(hdb:(x == ("__debug__" : Str))=false:=by decide)
  (hs:starEach (e::es) X.env=(false,eval e X.env)::starEach es X.env:=by rfl) (hpl:(backTo pos (starEach es X.env)).any (·.1)=false:=by rfl):JE X C (.Call (.Name x p) (e::es) [] pos) (dFn g fa) :=
 PE.weak (zee hc hg hm hv ha hn hdb hs hpl) fun σ H Q t=>zm3 h he t
theorem zl4{g:List Dt->R Dt}(h:FnR X.K r g)(he:ziu g)(hc:zbP X (.type T) r)(hg:Gl X x)(hm:X.mg x=none)(hv:bootBuiltins x=some (.type T))(ha:JA X C (e::es) fa)(hn:x≠"__name__":=by decide)(hdb:(x == ("__debug__" : Str))=false:=by decide)
  (hs:starEach (e::es) X.env=(false,eval e X.env)::starEach es X.env:=by rfl) (hpl:(backTo pos (starEach es X.env)).any (·.1)=false:=by rfl):JE X C (.Call (.Name x p) (e::es) [] pos) (dFn g fa) :=
 PE.weak (zfF hc hg hm hv ha hn hdb hs hpl) fun σ H Q t=>zm3 h he t
theorem znR{g:List Dt->R (List Dt)}(h:FnN X.K r g)(he:ziu g)(hc:zbP X (.builtin id) r)(hg:Gl X x)(hm:X.mg x=none)(hv:bootBuiltins x=some (.builtin id))(ha:JA X C (e::es) fa)(hn:x≠"__name__":=by decide)(hdb:(x == ("__debug__" : Str))=false:=by decide)
  (hs:starEach (e::es) X.env=(false,eval e X.env)::starEach es X.env:=by rfl) (hpl:(backTo pos (starEach es X.env)).any (·.1)=false:=by rfl):JN X C (.Call (.Name x p) (e::es) [] pos) (ziT g fa) :=
 PE.weak (zee hc hg hm hv ha hn hdb hs hpl) fun σ H Q t=>zjX h he t
theorem zmw{g:List Dt->R (List Dt)}(h:FnN X.K r g)(he:ziu g)(hc:zbP X (.type T) r)(hg:Gl X x)(hm:X.mg x=none)(hv:bootBuiltins x=some (.type T))(ha:JA X C (e::es) fa)(hn:x≠"__name__":=by decide)(hdb:(x == ("__debug__" : Str))=false:=by decide)
  (hs:starEach (e::es) X.env=(false,eval e X.env)::starEach es X.env:=by rfl) (hpl:(backTo pos (starEach es X.env)).any (·.1)=false:=by rfl):JN X C (.Call (.Name x p) (e::es) [] pos) (ziT g fa) :=
 PE.weak (zfF hc hg hm hv ha hn hdb hs hpl) fun σ H Q t=>zjX h he t
end
def zbR:List Dt->R Dt
 |[.lst l]=>.ok (.int l.length)
 |[.tup l]=>.ok (.int l.length)
 |[.scr l]=>.ok (.int l.length)
 |[.str x]=>if x.length<=16777216 then .ok (.int x.length) else .no
 |_=>.no
def rLen(K:W.Frag):List V->Hp->VK->Prop:=fun xs H Q=>(∃ p ys,xs=[.ref p]/\(SqL K H p ys\/SqT K H p ys)/\Q (.int ys.length) H)\/∃ z,xs=[.str z]/\z.length<=sizeLine/\Q (.int z.length) H
theorem zdL{K:W.Frag}{G:Hp}{d:Dt}{vs:List V}(h:zaw K G [d] vs):∃ v,vs=[v]/\Rep K G d v:=by
 obtain ⟨v,r,rfl,h1,h2⟩:=h.cons_inv
 rw[h2.nil_inv];exact ⟨v,rfl,h1⟩
theorem zpE{K:W.Frag}{G:Hp}{d e:Dt}{vs:List V}(h:zaw K G [d,e] vs):∃ v u,vs=[v,u]/\Rep K G d v/\Rep K G e u:=by
 obtain ⟨v,r,rfl,h1,h2⟩:=h.cons_inv
 obtain ⟨u,rfl,h3⟩:=zdL h2
 exact ⟨v,u,rfl,h1,h3⟩
theorem ziD{K:W.Frag}{G:Hp}{l:List Int}{v:V}(h:Rep K G (.scr l) v):∃ a,v=.ref a/\SqL K G a (l.map V.int):=by unfold Rep at h;exact h
section
variable{K:W.Frag}
theorem zqE:FnR K (rLen K) zbR:=fun G H vs ds z Q gh hr e k=>by
 unfold zbR at e
 split at e
 ·obtain ⟨v,rfl,h1⟩:=zdL hr
  obtain ⟨a,us,rfl,h2,h3⟩:=za7 h1
  cases e
  exact .inl ⟨a,us,rfl,.inl (SqL.of (gh _ _ h2)),by rw[<- h3.length];exact k _ G H (.refl gh) (zax _)⟩
 ·obtain ⟨v,rfl,h1⟩:=zdL hr
  obtain ⟨a,us,rfl,h2,h3⟩:=zbh h1
  cases e
  exact .inl ⟨a,us,rfl,.inr (za5 gh h2),by rw[<- h3.length];exact k _ G H (.refl gh) (zax _)⟩
 ·obtain ⟨v,rfl,h1⟩:=zdL hr
  obtain ⟨a,rfl,h2⟩:=ziD h1
  cases e
  exact .inl ⟨a,_,rfl,.inl (gh.seq h2),by rw[List.length_map];exact k _ G H (.refl gh) (zax _)⟩
 ·split at e
  ·rename_i hx
   obtain ⟨v,rfl,h1⟩:=zdL hr
   cases e
   exact .inr ⟨_,by rw[zey h1],by rw[show sizeLine=16777216 from by decide];exact hx,k _ G H (.refl gh) (zax _)⟩
  ·cases e
 ·cases e
theorem zsd:ziu zbR:=fun x n h=>by unfold zbR at h;split at h <;> first|cases h|(split at h <;> cases h)
def zfX:List Dt->R (List Dt)
 |[.lst l]=>.ok l
 |[.tup l]=>.ok l
 |_=>.no
theorem zoU:FnN K (fun xs H Q=>∃ p ys,xs=[.ref p]/\(SqL K H p ys\/SqT K H p ys)/\∀ l,H l=none->Q (.ref l) (upd H l (.lst ys))) zfX:=fun G H vs ds z Q gh hr e k=>by
 unfold zfX at e
 split at e
 ·obtain ⟨v,rfl,h1⟩:=zdL hr
  obtain ⟨a,us,rfl,h2,h3⟩:=za7 h1
  cases e
  exact ⟨a,us,rfl,.inl (SqL.of (gh _ _ h2)),fun l hl=>k l us hl h3⟩
 ·obtain ⟨v,rfl,h1⟩:=zdL hr
  obtain ⟨a,us,rfl,h2,h3⟩:=zbh h1
  cases e
  exact ⟨a,us,rfl,.inr (za5 gh h2),fun l hl=>k l us hl h3⟩
 ·cases e
theorem zqz:ziu zfX:=fun x n h=>by unfold zfX at h;split at h <;> cases h
def zck:List Dt->R Dt
 |[.lst l]=>.ok (.tup l)
 |[.tup l]=>.ok (.tup l)
 |_=>.no
theorem znB:FnR K (fun xs H Q=>∃ p ys,xs=[.ref p]/\((SqL K H p ys/\∀ l,H l=none->Q (.ref l) (upd H l (.tup ys)))\/(SqT K H p ys/\Q (.ref p) H))) zck:=fun G H vs ds z Q gh hr e k=>by
 unfold zck at e
 split at e
 ·obtain ⟨v,rfl,h1⟩:=zdL hr
  obtain ⟨a,us,rfl,h2,h3⟩:=za7 h1
  cases e
  refine ⟨a,us,rfl,.inl ⟨SqL.of (gh _ _ h2),fun l hl=>?_⟩⟩
  have gr:zdE G H (upd G l (.tup us)) (upd H l (.tup us)):=.new gh hl
  exact k _ _ _ gr (by unfold Rep;exact ⟨l,us,rfl,zhv.of zal,h3.same gr.g⟩)
 ·obtain ⟨v,rfl,h1⟩:=zdL hr
  obtain ⟨a,us,rfl,h2,h3⟩:=zhd h1
  cases e
  exact ⟨a,us,rfl,.inr ⟨za5 gh h2.sq,k _ G H (.refl gh) (by unfold Rep;exact ⟨a,us,rfl,h2,h3⟩)⟩⟩
 ·cases e
theorem zmV:ziu zck:=fun x n h=>by unfold zck at h;split at h <;> cases h
def zgT:List Dt->R Dt
 |[.int i,.int j]=>.ok (.int (if j > i then j else i))
 |_=>.no
def zgG:List Dt->R Dt
 |[.int i,.int j]=>.ok (.int (if j<i then j else i))
 |_=>.no
theorem zql:FnR K (fun xs H Q=>∃ i j,xs=[.int i,.int j]/\Q (.int (if j > i then j else i)) H) zgT:=fun G H vs ds z Q gh hr e k=>by
 unfold zgT at e
 split at e
 ·obtain ⟨v,u,rfl,h1,h2⟩:=zpE hr
  cases e
  exact ⟨_,_,by rw[zam h1,zam h2],k _ G H (.refl gh) (zax _)⟩
 ·cases e
theorem zqc:FnR K (fun xs H Q=>∃ i j,xs=[.int i,.int j]/\Q (.int (if j<i then j else i)) H) zgG:=fun G H vs ds z Q gh hr e k=>by
 unfold zgG at e
 split at e
 ·obtain ⟨v,u,rfl,h1,h2⟩:=zpE hr
  cases e
  exact ⟨_,_,by rw[zam h1,zam h2],k _ G H (.refl gh) (zax _)⟩
 ·cases e
theorem zpu:ziu zgT:=fun x n h=>by unfold zgT at h;split at h <;> cases h
theorem zp3:ziu zgG:=fun x n h=>by unfold zgG at h;split at h <;> cases h
end
section
variable{X:Cx}
theorem zet{α:Type}{f:α->V}{g:α->Value->Prop}(h:∀ a u,zaF (f a) u->g a u):∀{as:List α}{us:List Value}{i:Nat}{u:Value},zaM (as.map f) us->us[i]? = some u->∃ a,as[i]? = some a/\g a u
 |[],_,_,_,r,e=>by cases r;simp at e
 |a::as,_,0,u,.cons r t,e=>by simp at e;subst e;exact ⟨a,rfl,h a _ r⟩
 |a::as,_,i+1,u,.cons r t,e=>by
  obtain ⟨b,h1,h2⟩:=zet h (i:=i) t (by simpa using e)
  exact ⟨b,by simpa using h1,h2⟩
theorem zgX:∀(bs:List Bool),((List.range bs.length).all fun i=>(bs[i]?).getD true)=bs.all id:=fun bs=>by
 rw[Bool.eq_iff_iff,List.all_eq_true,List.all_eq_true]
 constructor
 ·intro h b hb
  obtain ⟨i,hi,rfl⟩:=List.mem_iff_getElem.mp hb
  have:=h i (List.mem_range.mpr hi)
  simpa [hi] using this
 ·intro h i hi
  have hi':=List.mem_range.mp hi
  simpa [hi'] using h bs[i] (List.getElem_mem hi')
theorem zm0(hc:X.calm=true):zbP X (.builtin "all") (fun xs H Q=>∃(p:Addr)(bs:List Bool),xs=[.ref p]/\SqL X.K H p (bs.map V.bl)/\Q (.bl (bs.all id)) H):=by
 intro pins s σ H xs us Q I r h
 obtain ⟨p,bs,rfl,hq,q⟩:=h
 obtain ⟨u,rfl,ru⟩:=ze5 r
 cases ru
 obtain ⟨its,rv,pl,hz⟩:=I.list hq
 have hlt:p≠s.heap.objs.size:=by
  obtain ⟨o,n,e,_⟩:=id pl
  exact Nat.ne_of_lt (Heap.lt_size e)
 have hlen:its.length=bs.length:=by rw[<- rv.length];simp
 refine call_all_walk (wpAny_pyIter_list pl.isList ?_)
 refine ⟨s.heap.objs.size,_,_,_,_,_,fun i=>(bs[i]?).getD true,rfl,Walks.list (A:=X.A.in1) (I.ok.hd hc) s.heap.objs.size p hlt its.toArray,⟨⟨_,Heap.get?_push_size _ rfl,rfl,rfl⟩,?_⟩,?_,fun h' tk hk=>?_⟩
 ·obtain ⟨o,ho,hc',n,hd⟩:=pl.isList
  exact ⟨o,Heap.get?_push_of_some _ ho,hc',n,hd⟩
 ·intro i v s' Q' E' hP hQ
  obtain ⟨b,h1,h2⟩:=zet (f:=V.bl) (g:=fun b u=>u=Value.bool b) (fun a u z=>z) rv (i:=i) (u:=v) (by simpa using hP)
  subst h2
  simp only[h1,Option.getD_some] at hQ
  exact wpAny_truthy_bool hQ
 ·refine ⟨.bl (bs.all id),H,I.kept (t':=tk) fun b o e=>hk b o (fun z=>?_) (Heap.get?_push_of_some _ e),?_,q⟩
  ·simp at z;exact absurd (z ▸ Heap.lt_size e) (Nat.lt_irrefl _)
  ·show Value.bool _=_
   rw[List.size_toArray,hlen,zgX]
def zd4:List Dt->Option (List Bool)
 |[]=>some []
 |.bl b::r=>(zd4 r).map (b::·)
 |_=>none
theorem zg8{K:W.Frag}{G:Hp}:∀{ds:List Dt}{vs:List V}{bs:List Bool},zaw K G ds vs->zd4 ds=some bs->vs=bs.map V.bl
 |[],_,_,h,e=>by rw[h.nil_inv];simp[zd4] at e;subst e;rfl
 |.bl b::r,_,bs,h,e=>by
  obtain ⟨v,t,rfl,h1,h2⟩:=h.cons_inv
  simp only[zd4,Option.map_eq_some_iff] at e
  obtain ⟨bs',e1,rfl⟩:=e
  rw[zdw h1,zg8 h2 e1];rfl
 |.non::_,_,_,_,e=>by simp[zd4] at e
 |.int _::_,_,_,_,e=>by simp[zd4] at e
 |.str _::_,_,_,_,e=>by simp[zd4] at e
 |.tup _::_,_,_,_,e=>by simp[zd4] at e
 |.lst _::_,_,_,_,e=>by simp[zd4] at e
 |.dct _::_,_,_,_,e=>by simp[zd4] at e
 |.scr _::_,_,_,_,e=>by simp[zd4] at e
def zkI:List Dt->R Dt
 |[.lst l]=>match zd4 l with
  |some bs=>.ok (.bl (bs.all id))
  |none=>.no
 |_=>.no
theorem zsc{K:W.Frag}:FnR K (fun xs H Q=>∃(p:Addr)(bs:List Bool),xs=[.ref p]/\SqL K H p (bs.map V.bl)/\Q (.bl (bs.all id)) H) zkI:=fun G H vs ds z Q gh hr e k=>by
 unfold zkI at e
 split at e
 ·split at e
  ·rename_i bs eb
   obtain ⟨v,rfl,h1⟩:=zdL hr
   obtain ⟨a,us,rfl,h2,h3⟩:=za7 h1
   cases e
   rw[zg8 h3 eb] at h2
   exact ⟨a,bs,rfl,SqL.of (gh _ _ h2),k _ G H (.refl gh) (zc7 _)⟩
  ·cases e
 ·cases e
theorem zrw:ziu zkI:=fun x n h=>by unfold zkI at h;split at h <;> first|cases h|(split at h <;> cases h)
def zgg:List Dt->Option (List Int)
 |[]=>some []
 |.int b::r=>(zgg r).map (b::·)
 |_=>none
theorem zgZ{K:W.Frag}{G:Hp}:∀{ds:List Dt}{vs:List V}{bs:List Int},zaw K G ds vs->zgg ds=some bs->vs=bs.map V.int
 |[],_,_,h,e=>by rw[h.nil_inv];simp[zgg] at e;subst e;rfl
 |.int b::r,_,bs,h,e=>by
  obtain ⟨v,t,rfl,h1,h2⟩:=h.cons_inv
  simp only[zgg,Option.map_eq_some_iff] at e
  obtain ⟨bs',e1,rfl⟩:=e
  rw[zam h1,zgZ h2 e1];rfl
 |.non::_,_,_,_,e=>by simp[zgg] at e
 |.bl _::_,_,_,_,e=>by simp[zgg] at e
 |.str _::_,_,_,_,e=>by simp[zgg] at e
 |.tup _::_,_,_,_,e=>by simp[zgg] at e
 |.lst _::_,_,_,_,e=>by simp[zgg] at e
 |.dct _::_,_,_,_,e=>by simp[zgg] at e
 |.scr _::_,_,_,_,e=>by simp[zgg] at e
theorem zg3(ns:List Int):zgg (ns.map .int)=some ns:=by
 induction ns with
 |nil=>rfl
 |cons n r ih=>simp[zgg,ih]
def maxZ:List Int->Int
 |[]=>0
 |[a]=>a
 |a::b::r=>let m:=maxZ (b::r);if a<m then m else a
def zgW:List Int->Int
 |[]=>0
 |[a]=>a
 |a::b::r=>let m:=zgW (b::r);if m<a then m else a
theorem zfu:∀(l:List Int),l≠[]->zgW l∈l/\∀ a∈l,zgW l<=a
 |[],h=>absurd rfl h
 |[a],_=>by simp[zgW]
 |a::b::r,_=>by
  obtain ⟨h1,h2⟩:=zfu (b::r) (by simp)
  simp only[zgW]
  split
  ·rename_i h
   refine ⟨List.mem_cons_of_mem _ h1,fun x hx=>?_⟩
   rcases List.mem_cons.mp hx with rfl|hx
   ·omega
   ·exact h2 x hx
  ·rename_i h
   refine ⟨List.mem_cons_self,fun x hx=>?_⟩
   rcases List.mem_cons.mp hx with rfl|hx
   ·omega
   ·have:=h2 x hx;omega
theorem zrK{l:List Int}{m:Int}(h1:m∈l)(h2:∀ a∈l,m<=a):m=zgW l:=by
 obtain ⟨h3,h4⟩:=zfu l (by intro z;subst z;cases h1)
 have:=h2 _ h3
 have:=h4 _ h1
 omega
end
section
variable{X:Cx}
theorem zlf(hc:X.calm=true):zbP X (.builtin "min") (fun xs H Q=>∃(p:Addr)(ns:List Int),xs=[.ref p]/\SqL X.K H p (ns.map V.int)/\ns≠[]/\Q (.int (zgW ns)) H):=by
 intro pins s σ H xs us Q I r h
 obtain ⟨p,ns,rfl,hq,hne,q⟩:=h
 obtain ⟨u,rfl,ru⟩:=ze5 r
 cases ru
 obtain ⟨its,rv,pl,hz⟩:=I.list hq
 have hlt:p≠s.heap.objs.size:=by
  obtain ⟨o,n,e,_⟩:=id pl
  exact Nat.ne_of_lt (Heap.lt_size e)
 have hlen:its.length=ns.length:=by rw[<- rv.length];simp
 have hpos:0<ns.length:=by cases ns with|nil=>exact absurd rfl hne|cons a r=>simp
 refine call_min_walk (wpAny_pyIter_list pl.isList ?_)
 refine ⟨s.heap.objs.size,_,_,_,_,_,_,rfl,Walks.list (A:=X.A.in1) (I.ok.hd hc) s.heap.objs.size p hlt its.toArray,⟨⟨_,Heap.get?_push_size _ rfl,rfl,rfl⟩,?_⟩,?_,(by rw[List.size_toArray,hlen];exact hpos),CmpOf.ints_lt (fun i=>(ns[i]?).getD 0) (fun i v hP=>?_),fun v h' tk hP hk=>?_⟩
 ·obtain ⟨o,ho,hc',n,hd⟩:=pl.isList
  exact ⟨o,Heap.get?_push_of_some _ ho,hc',n,hd⟩
 ·intro b hb
  rw[Heap.size_push]
  obtain ⟨o,n,e,_⟩:=id pl
  rcases List.mem_cons.mp hb with rfl|hb
  ·exact Nat.lt_succ_self _
  ·simp at hb;subst hb;exact Nat.lt_succ_of_lt (Heap.lt_size e)
 ·obtain ⟨a,h1,h2⟩:=zet (f:=V.int) (g:=fun a u=>∃ t,u=Value.int a t) (fun a u z=>z) rv (i:=i) (u:=v) (by simpa using hP)
  simp only[h1,Option.getD_some];exact h2
 ·have hP:its.toArray[argBest (fun i j=>decide (((ns[i]?).getD 0)<((ns[j]?).getD 0))) (its.toArray.size-1)]? = some v:=hP
  obtain ⟨a,h1,t,rfl⟩:=zet (f:=V.int) (g:=fun a u=>∃ t,u=Value.int a t) (fun a u z=>z) rv (u:=v) (by simpa using hP)
  obtain ⟨k1,k2⟩:=argBest_lt (fun i=>(ns[i]?).getD 0) (its.toArray.size-1)
  have ea:a=zgW ns:=by
   refine zrK (List.mem_of_getElem? h1) fun b hb=>?_
   obtain ⟨j,hj,rfl⟩:=List.mem_iff_getElem.mp hb
   have:=k2 j (by rw[List.size_toArray,hlen];omega)
   rw[show its.toArray.size-1=its.length-1 from by rw[List.size_toArray]] at this
   simp only[h1,List.getElem?_eq_getElem hj,Option.getD_some] at this
   exact this
  subst ea
  refine ⟨.int (zgW ns),H,I.kept (t':=tk) fun b o e=>hk b o (fun z=>?_) (Heap.get?_push_of_some _ e),⟨t,rfl⟩,q⟩
  simp at z;exact absurd (z ▸ Heap.lt_size e) (Nat.lt_irrefl _)
def zfP:List Dt->R Dt
 |[.lst l]=>match zgg l with
  |some (a::r)=>.ok (.int (zgW (a::r)))
  |_=>.no
 |_=>.no
theorem zqq{K:W.Frag}:FnR K (fun xs H Q=>∃(p:Addr)(ns:List Int),xs=[.ref p]/\SqL K H p (ns.map V.int)/\ns≠[]/\Q (.int (zgW ns)) H) zfP:=fun G H vs ds z Q gh hr e k=>by
 unfold zfP at e
 split at e
 ·split at e
  ·rename_i a r eb
   obtain ⟨v,rfl,h1⟩:=zdL hr
   obtain ⟨ad,us,rfl,h2,h3⟩:=za7 h1
   cases e
   rw[zgZ h3 eb] at h2
   exact ⟨ad,_,rfl,SqL.of (gh _ _ h2),by simp,k _ G H (.refl gh) (zax _)⟩
  ·cases e
 ·cases e
theorem zqe:ziu zfP:=fun x n h=>by unfold zfP at h;split at h <;> first|cases h|(split at h <;> cases h)
end
def tyD:Dt->String
 |.non=>"NoneType"
 |.bl _=>"bool"
 |.int _=>"int"
 |.str _=>"str"
 |.tup _=>"tuple"
 |.lst _=>"list"
 |.dct _=>"dict"
 |.scr _=>"list"
def zg6(t T:String):Bool:=(t == T) || (t == "bool" && T == "int")
section
variable{X:Cx}{pins:List (Addr×Obj)}{σ:L2.St}{H:Hp}{s:Shared}
theorem zot(I:L2.Inv X pins σ H s):∀{d:Dt}{v:V}{u:Value},Rep X.K H d v->zaF v u->∃ P:Heap->Prop,W.KitX X.K u (.type (tyD d)) P/\P s.heap/\u≠.builtin "__main__.__loader__#opaque"
 |.non,v,u,h,r=>by rw[zfJ h] at r;cases r;exact ⟨_,W.kitx_none,True.intro,by simp⟩
 |.bl b,v,u,h,r=>by rw[zdw h] at r;cases r;exact ⟨_,W.kitx_bool,True.intro,by simp⟩
 |.int b,v,u,h,r=>by rw[zam h] at r;obtain ⟨t,rfl⟩:=r;exact ⟨_,W.kitx_int,True.intro,by simp⟩
 |.str b,v,u,h,r=>by rw[zey h] at r;obtain ⟨t,rfl⟩:=r;exact ⟨_,W.kitx_str,True.intro,by simp⟩
 |.tup l,v,u,h,r=>by
  obtain ⟨a,vs,rfl,h1,h2⟩:=zbh h
  cases r
  obtain ⟨its,rv,⟨o,e,c,k,dd⟩,_⟩:=I.tuple h1
  exact ⟨_,W.kitx_tuple,⟨o,e,c⟩,by simp⟩
 |.lst l,v,u,h,r=>by
  obtain ⟨a,vs,rfl,h1,h2⟩:=za7 h
  cases r
  obtain ⟨its,rv,⟨o,k,e,c,_,dd⟩,_⟩:=I.list (SqL.of h1)
  exact ⟨_,W.kitx_list,⟨o,e,c⟩,by simp⟩
 |.dct _,v,u,h,r=>by
  unfold Rep at h
  obtain ⟨a,rfl,h1⟩:=h
  cases r
  obtain ⟨_,_,vs,_,o,es,ep,e1,e2,_⟩:=(show zbw X.prog X.w H s.heap a (.dK _) from I.hok a _ h1)
  exact ⟨_,W.kitx_dict,⟨o,e1,e2.1⟩,by simp⟩
 |.scr l,v,u,h,r=>by
  obtain ⟨a,rfl,h1⟩:=ziD h
  cases r
  obtain ⟨its,rv,⟨o,k,e,c,_,dd⟩,_⟩:=I.list h1
  exact ⟨_,W.kitx_list,⟨o,e,c⟩,by simp⟩
end
def zgc(T:String):Prop:=∀(K:W.Frag)(t:String),t∈["NoneType","bool","int","str","tuple","list","dict"]->W.kitOne K (.type t) (.type T)=some (zg6 t T)
theorem ziL(d:Dt):tyD d∈["NoneType","bool","int","str","tuple","list","dict"]:=by cases d <;> simp[tyD]
theorem zpj:zgc "int":=fun K t h=>by
 simp only[List.mem_cons,List.not_mem_nil,or_false] at h
 rcases h with rfl|rfl|rfl|rfl|rfl|rfl|rfl <;> rfl
theorem zhm:zgc "bool":=fun K t h=>by
 simp only[List.mem_cons,List.not_mem_nil,or_false] at h
 rcases h with rfl|rfl|rfl|rfl|rfl|rfl|rfl <;> rfl
theorem zev:zgc "tuple":=fun K t h=>by
 simp only[List.mem_cons,List.not_mem_nil,or_false] at h
 rcases h with rfl|rfl|rfl|rfl|rfl|rfl|rfl <;> rfl
theorem zfm:zgc "list":=fun K t h=>by
 simp only[List.mem_cons,List.not_mem_nil,or_false] at h
 rcases h with rfl|rfl|rfl|rfl|rfl|rfl|rfl <;> rfl
def zfh(T:String)(fa:De):De:=fun ρ=>(fa ρ).bind fun a=>.ok (.bl (zg6 (tyD a.1) T),a.2)
def zpe(T U:String)(fa:De):De:=fun ρ=>(fa ρ).bind fun a=>.ok (.bl (zg6 (tyD a.1) T || zg6 (tyD a.1) U),a.2)
section
variable{X:Cx}{C:Cn}{e:Expr}{fa:De}{p p2 pos:Pos}
theorem zni{T:String}(ok:zgc T):zbP X (.builtin "isinstance") (fun xs H Q=>∃ d v,xs=[v,.ty T]/\Rep X.K H d v/\Q (.bl (zg6 (tyD d) T)) H):=by
 intro pins s σ H xs us Q I r h
 obtain ⟨d,v,rfl,h1,q⟩:=h
 obtain ⟨u,w',rfl,r1,r2⟩:=ziC r
 cases r2
 obtain ⟨P,Z,hp,hx⟩:=zot I h1 r1
 exact W.kia_one Z I.kIn hp (ok X.K (tyD d) (ziL d)) hx fun tk=>⟨.bl _,H,I.tok tk,rfl,q⟩
theorem zmd{T U:String}(ok:zgc T)(ok2:zgc U):zbP X (.builtin "isinstance") (fun xs H Q=>∃ d v a,xs=[v,.ref a]/\Rep X.K H d v/\SqT X.K H a [.ty T,.ty U]/\Q (.bl (zg6 (tyD d) T || zg6 (tyD d) U)) H):=by
 intro pins s σ H xs us Q I r h
 obtain ⟨d,v,a,rfl,h1,ha,q⟩:=h
 obtain ⟨u,w',rfl,r1,r2⟩:=ziC r
 cases r2
 obtain ⟨P,Z,hp,hx⟩:=zot I h1 r1
 obtain ⟨its,rv,⟨o,e,c,k,dd⟩,_⟩:=I.tuple ha
 obtain ⟨x1,x2,rfl,q1,q2⟩:=ziC rv
 cases q1
 cases q2
 obtain ⟨oc,od,odt,osl⟩:=o
 simp only at c dd
 subst c dd
 refine W.kia_tup (its:=[Value.type T,Value.type U]) (b:=zg6 (tyD d) T || zg6 (tyD d) U) Z I.kIn hp e ?_ hx fun tk=>⟨.bl _,H,I.tok tk,rfl,q⟩
 unfold W.kitAny
 rw[ok X.K (tyD d) (ziL d)]
 cases zg6 (tyD d) T with
 |true=>rfl
 |false =>
  simp only[W.kitAny,ok2 X.K (tyD d) (ziL d)]
  cases zg6 (tyD d) U <;> rfl
theorem zdD{T:String}{x2:Str}(ok:zgc T)(hg:Gl X "isinstance")(hm:X.mg "isinstance"=none)(hv:bootBuiltins "isinstance"=some (.builtin "isinstance"))(hg2:Gl X x2)(hm2:X.mg x2=none)(hv2:bootBuiltins x2=some (.type T))(ha:JE X C e fa)
  (hn:("isinstance" : Str)≠"__name__":=by decide) (hdb:(("isinstance" : Str) == ("__debug__" : Str))=false:=by decide) (hn2:x2≠"__name__":=by decide) (hdb2:(x2 == ("__debug__" : Str))=false:=by decide)
  (hs:starEach [e,.Name x2 p2] X.env=(false,eval e X.env)::starEach [.Name x2 p2] X.env:=by rfl) (hs2:starEach [.Name x2 p2] X.env=(false,eval (.Name x2 p2) X.env)::starEach [] X.env:=by rfl) (hpl:(backTo pos (starEach [.Name x2 p2] X.env)).any (·.1)=false:=by rfl) :
  JE X C (.Call (.Name "isinstance" p) [e,.Name x2 p2] [] pos) (zfh T fa) :=
 PE.weak (zee (zni ok) hg hm hv (zbi ha (zbi (ziA (v:=.ty T) hg2 hm2 hv2 rfl hn2 hdb2) zdi hs2) hs) hn hdb hs hpl) fun σ H Q ⟨G,w,ρ,r,p⟩=>by
  refine zch (κ:=fun G H w=>kE X.K C σ Q G H w) zbt r p fun d ρ1 v G1 H1 w1 r1 s1 q1 p1=>?_
  exact ⟨d,v,rfl,q1.same r1.gh,p1 _ G1 H1 w1 (.refl _ _ _) r1 (zc7 _)⟩
theorem zp4{T U:String}{x2 x3:Str}{p3 pt:Pos}{kt}(ok:zgc T)(ok2:zgc U)(hg:Gl X "isinstance")(hm:X.mg "isinstance"=none)(hv:bootBuiltins "isinstance"=some (.builtin "isinstance"))(hg2:Gl X x2)(hm2:X.mg x2=none)(hv2:bootBuiltins x2=some (.type T))(hg3:Gl X x3)(hm3:X.mg x3=none)(hv3:bootBuiltins x3=some (.type U))(ha:JE X C e fa)
  (hn:("isinstance" : Str)≠"__name__":=by decide) (hdb:(("isinstance" : Str) == ("__debug__" : Str))=false:=by decide) (hn2:x2≠"__name__":=by decide) (hdb2:(x2 == ("__debug__" : Str))=false:=by decide) (hn3:x3≠"__name__":=by decide) (hdb3:(x3 == ("__debug__" : Str))=false:=by decide)
  (hs:starEach [e,.Tuple [.Name x2 p2,.Name x3 p3] kt pt] X.env=(false,eval e X.env)::starEach [.Tuple [.Name x2 p2,.Name x3 p3] kt pt] X.env:=by rfl) (hs2:starEach [.Tuple [.Name x2 p2,.Name x3 p3] kt pt] X.env=(false,eval (.Tuple [.Name x2 p2,.Name x3 p3] kt pt) X.env)::starEach [] X.env:=by rfl) (hpl:(backTo pos (starEach [.Tuple [.Name x2 p2,.Name x3 p3] kt pt] X.env)).any (·.1)=false:=by rfl)
  (hs3:starEach [.Name x2 p2,.Name x3 p3] X.env=(false,eval (.Name x2 p2) X.env)::starEach [.Name x3 p3] X.env:=by rfl) (hs4:starEach [.Name x3 p3] X.env=(false,eval (.Name x3 p3) X.env)::starEach [] X.env:=by rfl) :
  JE X C (.Call (.Name "isinstance" p) [e,.Tuple [.Name x2 p2,.Name x3 p3] kt pt] [] pos) (zpe T U fa) :=
 PE.weak (zee (zmd ok ok2) hg hm hv (zbi ha (zbi (zo5 (zbi (ziA (v:=.ty T) hg2 hm2 hv2 rfl hn2 hdb2) (zbi (ziA (v:=.ty U) hg3 hm3 hv3 rfl hn3 hdb3) zdi hs4) hs3)) zdi hs2) hs) hn hdb hs hpl) fun σ H Q ⟨G,w,ρ,r,p⟩=>by
  refine zch (κ:=fun G H w=>kE X.K C σ Q G H w) zbt r p fun d ρ1 v G1 H1 w1 r1 s1 q1 p1=>?_
  refine ⟨by show 2<=sizeLine;decide,fun a ha=>?_⟩
  have gr:zdE G1 H1 G1 (upd H1 a (.tup [.ty T,.ty U])):=.newH r1.gh ha
  exact ⟨d,v,a,rfl,(q1.same r1.gh).same gr.h,SqT.of zal,p1 _ G1 _ w1 gr.step (r1.grow gr) (zc7 _)⟩
def gIx:Dt->Dt->R Dt
 |.lst l,.int i=>match atI l i with
  |some d=>.ok d
  |none=>.no
 |.tup l,.int i=>match atI l i with
  |some d=>.ok d
  |none=>.no
 |.scr l,.int i=>match atI l i with
  |some d=>.ok (.int d)
  |none=>.no
 |_,_=>.no
theorem zp7{α β:Type}{f:α->β}{l:List α}{i:Int}{d:α}(ed:atI l i=some d):atI (l.map f) i=some (f d):=by
 unfold atI at ed ⊢
 rw[List.length_map]
 cases q:ixN l.length i with
 |none=>rw[q] at ed;cases ed
 |some j =>
  rw[q] at ed
  simp only[Option.bind_some] at ed ⊢
  rw[List.getElem?_map,ed];rfl
theorem zrN{K:W.Frag}:Op2 K (fun x y H Q=>rIxL K x y H Q\/rIxT K x y H Q) gIx:=fun G H x y dx dy z Q gh hx hy e k=>by
 unfold gIx at e
 split at e
 ·split at e
  ·rename_i d ed
   cases e
   obtain ⟨a,vs,rfl,h1,h2⟩:=za7 hx
   obtain ⟨v,e1,e2⟩:=zhe h2 ed
   exact .inl ⟨a,vs,_,v,rfl,zam hy,SqL.of (gh _ _ h1),e1,k v G H (.refl gh) e2⟩
  ·cases e
 ·split at e
  ·rename_i d ed
   cases e
   obtain ⟨a,vs,rfl,h1,h2⟩:=zbh hx
   obtain ⟨v,e1,e2⟩:=zhe h2 ed
   exact .inr ⟨a,vs,_,v,rfl,zam hy,za5 gh h1,e1,k v G H (.refl gh) e2⟩
  ·cases e
 ·split at e
  ·rename_i d ed
   cases e
   obtain ⟨a,rfl,h1⟩:=ziD hx
   exact .inl ⟨a,_,_,.int d,rfl,zam hy,gh.seq h1,zp7 ed,k _ G H (.refl gh) (zax _)⟩
  ·cases e
 ·cases e
theorem zp5:zha gIx:=fun x y n h=>by unfold gIx at h;split at h <;> first|cases h|(split at h <;> cases h)
theorem zeJ{a b:Expr}{fa fb:De}(ha:JE X C a fa)(hb:JE X C b fb)(hs:zi9 b:=by exact fun _ _=>rfl):JE X C (.Subscript a b pos) (dOp gIx fa fb) :=
 PE.weak (zqG (zm5.or zra) ha hb hs) fun σ H Q h=>zhr zrN zp5 h
end
theorem Rel.mutate{K:W.Frag}{C:Cn}{σ:L2.St}{G H:Hp}{w:Wn}{ρ:Ev}{i:Nat}{ds ds':List Dt}{a:Addr}{vs':List V}(r:Rel K C G w ρ σ H)(hi:ρ[i]? = some (some (.own ds)))(hv:σ[i]? = some (some (.ref a)))(hw:w a=some i)(h':zaw K G ds' vs') :
  Rel K C G w (ρ.set i (some (.own ds'))) σ (upd H a (.lst vs'))/\zaN G H w G (upd H a (.lst vs')) w:=by
 have ga:G a=none:=r.wg a (by rw[hw];simp)
 have st:zaN G H w G (upd H a (.lst vs')) w:=by
  refine ⟨.refl _,fun b o e=>.inl (by rw[e];simp),fun b o e z=>?_,fun _ e=>.inl e,fun b e=>?_⟩
  ·have:b≠a:=fun q=>by subst q;rw[hw] at z;cases z
   rw[zad this];exact e
  ·by_cases hb:b=a
   ·subst hb;rw[zal] at e;cases e
   ·rw[zad hb] at e;exact e
 refine ⟨⟨fun b o e=>?_,r.wg,fun b e=>?_,by simpa using r.len,fun j b e=>?_,r.en.trans st,r.pin⟩,st⟩
 ·rw[zad (zaf e ga)];exact r.gh b o e
 ·by_cases hb:b=a
  ·subst hb;rw[zal];simp
  ·rw[zad hb];exact r.wh b e
 ·by_cases hj:j=i
  ·subst hj
   rw[List.getElem?_set_self (List.getElem?_eq_some_iff.mp hi).1] at e
   cases e
   exact ⟨_,hv,a,vs',rfl,hw,zal,h'⟩
  ·rw[List.getElem?_set_ne (Ne.symm hj)] at e
   obtain ⟨v',h1,h2⟩:=r.sl j b e
   refine ⟨v',h1,h2.grow (.refl _) fun b' o e1 e2=>⟨?_,e1⟩⟩
   have:b'≠a:=fun z=>by subst z;rw[hw] at e1;exact hj (Option.some.inj e1).symm
   rw[zad this];exact e2
section
variable{X:Cx}{C:Cn}{e:Expr}{fa:De}{pos ps apos:Pos}{x:Str}
theorem zc0{K:W.Frag}{σ:L2.St}{G H:Hp}{w:Wn}{ρ:Ev}{i:Nat}{ds:List Dt}(r:Rel K C G w ρ σ H)(e:ρ[i]? = some (some (.own ds))):∃ a vs,σ[i]? = some (some (.ref a))/\w a=some i/\H a=some (.lst vs)/\zaw K G ds vs:=by
 obtain ⟨v,h1,a,vs,rfl,h2,h3,h4⟩:=r.sl i _ e
 exact ⟨a,vs,h1,h2,h3,h4⟩
def zfg(i:Nat)(fa:De):De:=fun ρ=>match ρ[i]? with
 |some (some (.own _))=>(fa ρ).bind fun a=>match a.2[i]? with
  |some (some (.own ds))=>if ds.length<16777216 then .ok (.non,a.2.set i (some (.own (ds++[a.1])))) else .no
  |_=>.no
 |_=>.no
theorem zdF:sizeLine=16777216:=by decide
theorem zji(i:Nat)(ha:JE X C e fa)(hN:X.N[i]? = some x:=by rfl)(hv:Vis X.env.scope x:=by first|exact Or.inl rfl|exact Or.inr (Or.inl rfl)|exact Or.inr (Or.inr rfl))(hd:(x == ("__debug__" : Str))=false:=by decide)(hcd:(x == ("__classdict__" : Str))=false:=by decide)
  (hbase:attributeBase (.Name x ps) "append" X.env (eval (.Name x ps) X.env)=eval (.Name x ps) X.env:=by rfl)
  (hfew:((backTo pos (starEach [e] X.env)).all (fun x=>!x.1) && (backToKw pos (keywordEach [] X.env)).all (fun x=>x.1.isSome) && decide ([e].length+([]:List Keyword).length+(if ([]:List Keyword).isEmpty then 0 else 1)<30))=true:=by rfl)
  (hline:(apos.endLine == pos.line)=true:=by rfl) (hs:starEach [e] X.env=(false,eval e X.env)::starEach [] X.env:=by rfl) (hplain:(backTo pos (starEach [] X.env)).any (·.1)=false:=by rfl) :
  JE X C (.Call (.Attribute (.Name x ps) "append" apos) [e] [] pos) (zfg i fa) :=
 PE.weak (zng PySem.F.plainAttrs_list PySem.F.slot_list_append PySem.F.type_list_append zhL (zb1 hN hv hd hcd) (zbi ha zdi hs) hbase hfew hline hs hplain) fun σ H Q ⟨G,w,ρ,r,p⟩=>by
  unfold zfg at p
  split at p
  ·rename_i ds0 e0
   obtain ⟨a,vs,h1,h2,h3,h4⟩:=zc0 r e0
   refine ⟨.ref a,h1,.inl ⟨rfl,vs,SqL.of h3⟩,?_⟩
   refine zch (κ:=fun G H w=>kE X.K C σ Q G H w) zbt r p fun d ρ1 v G1 H1 w1 r1 s1 q1 p1=>?_
   dsimp only at p1
   split at p1
   ·rename_i ds e1
    obtain ⟨a',vs',k1,k2,k3,k4⟩:=zc0 r1 e1
    rw[h1] at k1;cases k1
    split at p1
    ·rename_i hl
     obtain ⟨r',s'⟩:=r1.mutate e1 h1 k2 (k4.append (zaw.cons q1 zaw.nil))
     exact ⟨a,vs',v,rfl,rfl,k3,by rw[<- k4.length,zdF];exact hl,p1 _ _ _ _ s' r' (by unfold Rep;rfl)⟩
    ·exact p1.elim
   ·exact p1.elim
  ·exact p.elim
def ziY(ds:List Dt)(k:Int):Option (Dt×List Dt):=if zcv k=true then match ixN ds.length k with
  |some j=>match ds[j]? with
   |some d=>some (d,ds.eraseIdx j)
   |none=>none
  |none=>none
 else none
def zej(i:Nat)(fa:De):De:=fun ρ=>match ρ[i]? with
 |some (some (.own _))=>(fa ρ).bind fun a=>match a.2[i]?,a.1 with
  |some (some (.own ds)),.int k=>match ziY ds k with
   |some z=>.ok (z.1,a.2.set i (some (.own z.2)))
   |none=>.no
  |_,_=>.no
 |_=>.no
theorem zjY(i:Nat)(ha:JE X C e fa)(hN:X.N[i]? = some x:=by rfl)(hv:Vis X.env.scope x:=by first|exact Or.inl rfl|exact Or.inr (Or.inl rfl)|exact Or.inr (Or.inr rfl))(hd:(x == ("__debug__" : Str))=false:=by decide)(hcd:(x == ("__classdict__" : Str))=false:=by decide)
  (hbase:attributeBase (.Name x ps) "pop" X.env (eval (.Name x ps) X.env)=eval (.Name x ps) X.env:=by rfl)
  (hfew:((backTo pos (starEach [e] X.env)).all (fun x=>!x.1) && (backToKw pos (keywordEach [] X.env)).all (fun x=>x.1.isSome) && decide ([e].length+([]:List Keyword).length+(if ([]:List Keyword).isEmpty then 0 else 1)<30))=true:=by rfl)
  (hline:(apos.endLine == pos.line)=true:=by rfl) (hs:starEach [e] X.env=(false,eval e X.env)::starEach [] X.env:=by rfl) (hplain:(backTo pos (starEach [] X.env)).any (·.1)=false:=by rfl) :
  JE X C (.Call (.Attribute (.Name x ps) "pop" apos) [e] [] pos) (zej i fa) :=
 PE.weak (zng PySem.F.plainAttrs_list PySem.F.slot_list_pop PySem.F.type_list_pop zns (zb1 hN hv hd hcd) (zbi ha zdi hs) hbase hfew hline hs hplain) fun σ H Q ⟨G,w,ρ,r,p⟩=>by
  unfold zej at p
  split at p
  ·rename_i ds0 e0
   obtain ⟨a,vs,h1,h2,h3,h4⟩:=zc0 r e0
   refine ⟨.ref a,h1,.inl ⟨rfl,vs,SqL.of h3⟩,?_⟩
   refine zch (κ:=fun G H w=>kE X.K C σ Q G H w) zbt r p fun d ρ1 v G1 H1 w1 r1 s1 q1 p1=>?_
   dsimp only at p1
   split at p1
   ·rename_i ds k e1
    obtain ⟨a',vs',k1,k2,k3,k4⟩:=zc0 r1 e1
    rw[h1] at k1;cases k1
    split at p1
    ·rename_i z ez
     unfold ziY at ez
     split at ez
     ·rename_i hb
      split at ez
      ·rename_i j ej
       split at ez
       ·rename_i d ed
        cases ez
        obtain ⟨j1,j2,j3,j4⟩:=zi7 ej
        obtain ⟨y,y1,y2⟩:=k4.get ed
        obtain ⟨r',s'⟩:=r1.mutate e1 h1 k2 (k4.eraseIdx j)
        have hl:=k4.length
        obtain ⟨b1,b2⟩:=zcJ hb
        exact ⟨a,vs',k,j,y,rfl,by rw[zam q1],k3,by omega,by omega,by rw[<- hl];exact j1,y1,p1 _ _ _ _ s' r' y2⟩
       ·cases ez
      ·cases ez
     ·cases ez
    ·exact p1.elim
   ·exact p1.elim
  ·exact p.elim
end
theorem zp9{X:Cx}{pins:List (Addr×Obj)}{σ:L2.St}{H:Hp}{s:Shared}{a:Addr}{xs:List V}(I:L2.Inv X pins σ H s)(h:zhv X.K H a xs):∃(its:List Value)(n:Nat),zaM xs its/\s.heap.get? a=some { cls:=.type "tuple",data:=.seq its.toArray n }/\xs.length<=sizeLine:=by
 rcases h with h|⟨its,n,h1,h2,h3⟩
 ·obtain ⟨z,its,r,n,e⟩:=(show zbw X.prog X.w H s.heap a (.tup xs) from I.hok a _ h)
  exact ⟨its,n,r,e,z⟩
 ·refine ⟨its.toList,n,h3,by simpa using I.kIn a _ h1,?_⟩
  have:=h3.length
  simp only[Array.length_toList] at this
  omega
def zqS(K:W.Frag):V->List V->Hp->VK->Prop:=fun x vs H Q=>∃ l b xs zs,x=.ref l/\vs=[.ref b]/\H l=some (.lst xs)/\zhv K H b zs/\xs.length+zs.length<=sizeLine/\Q .non (upd H l (.lst (xs++zs)))
section
variable{X:Cx}
theorem zkz:MtM X "list.extend" (zqS X.K):=by
 intro pins s σ H x vs v us Q I rx rv h
 obtain ⟨l,b,xs,zs,rfl,rfl,hH,hB,hz,q⟩:=h
 cases rx
 obtain ⟨u,rfl,ru⟩:=zaM.one rv
 cases ru
 obtain ⟨z,its,n,r,hl,e⟩:=I.lstM hH
 obtain ⟨its2,n2,r2,e2,z2⟩:=zp9 I hB
 have hl2:=r2.length
 have hsz:its.toArray.size+its2.toArray.size<=sizeLine:=by rw[List.size_toArray,List.size_toArray];omega
 have hlong:¬ (!its.toArray.isEmpty && Builtin.List.listTooLong (its.toArray.size+its2.toArray.size))=true:=by
  rw[zj0 hsz,Bool.and_false]
  exact Bool.false_ne_true
 refine PySem.call_meets F.slot_list_extend ⟨_,e,rfl⟩ F.entry_list_extend (F.args_list_extend_2 _ _)
  (AutoSeq1.list_extend_list_tuple_0 l its.toArray n b its2.toArray n2 hlong (by rw[List.size_toArray];omega) (by omega)) ⟨e,e2,?_⟩
 refine ⟨.non,_,I.lset (its':=its++its2) hH e (by simp) (r.append r2) ?_,rfl,q⟩
 rw[List.length_append]
 omega
theorem MtM.or{id:String}{r r':V->List V->Hp->VK->Prop}(h:MtM X id r)(h':MtM X id r'):MtM X id (fun x xs H Q=>r x xs H Q\/r' x xs H Q):=by
 intro pins s σ H x xs v us Q I rx rs q
 rcases q with q|q
 ·exact h pins s σ H x xs v us Q I rx rs q
 ·exact h' pins s σ H x xs v us Q I rx rs q
variable{C:Cn}{e:Expr}{fa fb:De}{pos ps apos:Pos}{x:Str}
def zos:Dt->Option (List Dt)
 |.lst l=>some l
 |.tup l=>some l
 |_=>none
def zkA(i:Nat)(fa:De):De:=fun ρ=>match ρ[i]? with
 |some (some (.own _))=>(fa ρ).bind fun a=>match a.2[i]?,zos a.1 with
  |some (some (.own ds)),some l=>if ds.length+l.length<=16777216 then .ok (.non,a.2.set i (some (.own (ds++l)))) else .no
  |_,_=>.no
 |_=>.no
theorem zpg(i:Nat)(ha:JE X C e fa)(hN:X.N[i]? = some x:=by rfl)(hv:Vis X.env.scope x:=by first|exact Or.inl rfl|exact Or.inr (Or.inl rfl)|exact Or.inr (Or.inr rfl))(hd:(x == ("__debug__" : Str))=false:=by decide)(hcd:(x == ("__classdict__" : Str))=false:=by decide)
  (hbase:attributeBase (.Name x ps) "extend" X.env (eval (.Name x ps) X.env)=eval (.Name x ps) X.env:=by rfl)
  (hfew:((backTo pos (starEach [e] X.env)).all (fun x=>!x.1) && (backToKw pos (keywordEach [] X.env)).all (fun x=>x.1.isSome) && decide ([e].length+([]:List Keyword).length+(if ([]:List Keyword).isEmpty then 0 else 1)<30))=true:=by rfl)
  (hline:(apos.endLine == pos.line)=true:=by rfl) (hs:starEach [e] X.env=(false,eval e X.env)::starEach [] X.env:=by rfl) (hplain:(backTo pos (starEach [] X.env)).any (·.1)=false:=by rfl) :
  JE X C (.Call (.Attribute (.Name x ps) "extend" apos) [e] [] pos) (zkA i fa) :=
 PE.weak (zng PySem.F.plainAttrs_list PySem.F.slot_list_extend PySem.F.type_list_extend (MtM.or zlz zkz) (zb1 hN hv hd hcd) (zbi ha zdi hs) hbase hfew hline hs hplain) fun σ H Q ⟨G,w,ρ,r,p⟩=>by
  unfold zkA at p
  split at p
  ·rename_i ds0 e0
   obtain ⟨a,vs,h1,h2,h3,h4⟩:=zc0 r e0
   refine ⟨.ref a,h1,.inl ⟨rfl,vs,SqL.of h3⟩,?_⟩
   refine zch (κ:=fun G H w=>kE X.K C σ Q G H w) zbt r p fun d ρ1 v G1 H1 w1 r1 s1 q1 p1=>?_
   dsimp only at p1
   split at p1
   ·rename_i ds l e1 el
    obtain ⟨a',vs',k1,k2,k3,k4⟩:=zc0 r1 e1
    rw[h1] at k1;cases k1
    split at p1
    ·rename_i hl
     cases d with
     |lst l' =>
      cases el
      obtain ⟨b,us,rfl,b1,b2⟩:=za7 q1
      obtain ⟨r',s'⟩:=r1.mutate e1 h1 k2 (k4.append b2)
      exact .inl ⟨a,b,vs',us,rfl,rfl,k3,r1.gh _ _ b1,by rw[<- k4.length,<- b2.length,zdF];exact hl,p1 _ _ _ _ s' r' (by unfold Rep;rfl)⟩
     |tup l' =>
      cases el
      obtain ⟨b,us,rfl,b1,b2⟩:=zhd q1
      obtain ⟨r',s'⟩:=r1.mutate e1 h1 k2 (k4.append b2)
      exact .inr ⟨a,b,vs',us,rfl,rfl,k3,b1.same r1.gh,by rw[<- k4.length,<- b2.length,zdF];exact hl,p1 _ _ _ _ s' r' (by unfold Rep;rfl)⟩
     |_=>cases el
    ·exact p1.elim
   ·exact p1.elim
  ·exact p.elim
def zcW(i:Nat):De:=fun ρ=>match ρ[i]? with
 |some (some (.own ds))=>.ok (.int ds.length,ρ)
 |_=>.no
theorem zgL(i:Nat){p:Pos}(hg:Gl X "len")(hm:X.mg "len"=none)(hN:X.N[i]? = some x:=by rfl)(hv:Vis X.env.scope x:=by first|exact Or.inl rfl|exact Or.inr (Or.inl rfl)|exact Or.inr (Or.inr rfl))(hd:(x == ("__debug__" : Str))=false:=by decide)(hcd:(x == ("__classdict__" : Str))=false:=by decide)
  (hs:starEach [.Name x ps] X.env=(false,eval (.Name x ps) X.env)::starEach [] X.env:=by rfl) (hpl:(backTo pos (starEach [] X.env)).any (·.1)=false:=by rfl):JE X C (.Call (.Name "len" p) [.Name x ps] [] pos) (zcW i) :=
 PE.weak (zee zeS hg hm PySem.boot_len (zbi (zb1 hN hv hd hcd) zdi hs) (by decide) (by decide) hs hpl) fun σ H Q ⟨G,w,ρ,r,p⟩=>by
  unfold zcW at p
  split at p
  ·rename_i ds e0
   obtain ⟨a,vs,h1,h2,h3,h4⟩:=zc0 r e0
   exact ⟨.ref a,h1,a,vs,rfl,.inl (SqL.of h3),by rw[<- h4.length];exact p _ G H w (.refl _ _ _) r (zax _)⟩
  ·exact p.elim
def zmB(neg:Bool)(i:Nat)(fb:De):De:=fun ρ=>match ρ[i]? with
 |some (some (.own _))=>(fb ρ).bind fun b=>match b.2[i]? with
  |some (some (.own ds))=>(gEq neg (.lst ds) b.1).bind fun z=>.ok (z,b.2)
  |_=>.no
 |_=>.no
theorem znF{neg:Bool}{i:Nat}{σ:L2.St}{H:Hp}{Q:VK}(h:tE X.K C (zmB neg i fb) σ H Q):tOp (zs3 X.K neg) (tVar i) (tE X.K C fb) σ H Q:=by
 obtain ⟨G,w,ρ,r,p⟩:=h
 unfold zmB at p
 split at p
 ·rename_i ds0 e0
  obtain ⟨a,vs,h1,h2,h3,h4⟩:=zc0 r e0
  refine ⟨.ref a,h1,?_⟩
  refine zch (κ:=fun G H w=>kE X.K C σ Q G H w) zbt r p fun d ρ1 v G1 H1 w1 r1 s1 q1 p1=>?_
  dsimp only at p1
  split at p1
  ·rename_i ds e1
   obtain ⟨a',vs',k1,k2,k3,k4⟩:=zc0 r1 e1
   rw[h1] at k1;cases k1
   unfold gEq at p1
   split at p1
   ·rename_i hk
    rw[Bool.and_eq_true] at hk
    exact ⟨.lst ds,d,by unfold Rep;exact ⟨a,vs',rfl,k3,k4.same r1.gh⟩,q1.same r1.gh,hk.1,hk.2,p1 _ G1 H1 w1 (.refl _ _ _) r1 (zc7 _)⟩
   ·exact p1.elim
  ·exact p1.elim
 ·exact p.elim
variable{b:Expr}
theorem zon(i:Nat)(hu:X.A.units+64<cLine)(hb:JE X C b fb)(hN:X.N[i]? = some x:=by rfl)(hv:Vis X.env.scope x:=by first|exact Or.inl rfl|exact Or.inr (Or.inl rfl)|exact Or.inr (Or.inr rfl))(hd:(x == ("__debug__" : Str))=false:=by decide)(hcd:(x == ("__classdict__" : Str))=false:=by decide) :
  JT X C (.Compare (.Name x ps) [.NotEq] [b] pos) (dTB (zmB true i fb)):=PT.weak (zli (zo8 hu) (zb1 hN hv hd hcd) hb (zef _)) fun σ H Q h=>znF (ziU h)
def zkZ(i:Nat)(fv fk:De):DS:=fun ρ=>(fv ρ).bind fun v=>match v.2[i]? with
 |some (some (.own _))=>(fk v.2).bind fun k=>match k.2[i]?,k.1 with
  |some (some (.own ds)),.int n=>match ixN ds.length n with
   |some j=>.ok (.nx,k.2.set i (some (.own (ds.set j v.1))))
   |none=>.no
  |_,_=>.no
 |_=>.no
theorem zm8(i:Nat){k:Expr}{fk:De}{tp:Pos}(hv:JE X C e fa)(hk:JE X C k fk)(hN:X.N[i]? = some x:=by rfl)(hvi:Vis X.env.scope x:=by first|exact Or.inl rfl|exact Or.inr (Or.inl rfl)|exact Or.inr (Or.inr rfl))(hd:(x == ("__debug__" : Str))=false:=by decide)(hcd:(x == ("__classdict__" : Str))=false:=by decide)
  (ha:∀ v,assign (.Subscript (.Name x ps) k tp) X.env v=(do
   let ov <- holding [v] (eval (.Name x ps) X.env)
   let iv <- holding [v,ov] (eval k X.env)
   standAt tp
   holding [v,ov,iv] (setItem ov iv v)
   release [v,ov,iv] []):=by intro _;rfl)
  (hs:swapsWithSole [.Subscript (.Name x ps) k tp] e pos.line X.env=pure false:=by rfl) (hw:swappedStores [.Subscript (.Name x ps) k tp] e X.env=pure none:=by rfl)
  (h1:(assignEach [.Subscript (.Name x ps) k tp] X.env).map (·.2)=[assign (.Subscript (.Name x ps) k tp) X.env]:=by rfl):JS X C (.Assign [.Subscript (.Name x ps) k tp] e pos) (zkZ i fa fk) :=
 PS.weak (zqP hv (zqR (zb1 hN hvi hd hcd) hk zmZ ha) hs hw h1) fun D σ H ⟨G,w,ρ,r,p⟩=>by
  refine zch (κ:=fun G H w=>kS X.K C D G H w) zcX r p fun d ρ1 v G1 H1 w1 r1 s1 q1 p1=>?_
  dsimp only at p1
  split at p1
  ·rename_i ds0 e0
   obtain ⟨a,vs,k1,k2,k3,k4⟩:=zc0 r1 e0
   refine ⟨.ref a,k1,?_⟩
   refine zch (κ:=fun G H w=>kS X.K C D G H w) zcX r1 p1 fun d2 ρ2 v2 G2 H2 w2 r2 s2 q2 p2=>?_
   dsimp only at p2
   split at p2
   ·rename_i ds n e2
    obtain ⟨a',vs',m1,m2,m3,m4⟩:=zc0 r2 e2
    rw[k1] at m1;cases m1
    split at p2
    ·rename_i j ej
     obtain ⟨r',s'⟩:=r2.mutate e2 k1 m2 (zaw.set (q1.same s2.g) j m4)
     exact ⟨a,vs',n,j,rfl,zam q2,m3,by rw[<- m4.length];exact ej,p2 _ _ _ _ s' r'⟩
    ·exact False.elim p2
   ·exact False.elim p2
  ·exact False.elim p1
end
theorem zdv{env:Env}:∀(names:List (Str×NameKind))(cs:List (Str×Addr)),(∀ y∈names,y.2=.free->∃ c,env.cells.lookup y.1=some c)->(∀ x c,cs.lookup x=some c->env.cells.lookup x=some c) ->
  ∃ cl,(forIn names cs fun (y:Str×NameKind) (r:List (Str×Addr))=>(if (y.2 == NameKind.free)=true then do let a <- cellOf env y.1;pure (ForInStep.yield ((y.1,a)::r)) else pure (ForInStep.yield r):Sem (ForInStep (List (Str×Addr)))))=pure cl /\
   (∀ x c,cl.lookup x=some c->env.cells.lookup x=some c)/\(∀ x c,cs.lookup x=some c->∃ c',cl.lookup x=some c')/\∀ y∈names,y.2=.free->∃ c,cl.lookup y.1=some c
 |[],cs,_,h2=>⟨cs,rfl,h2,fun x c e=>⟨c,e⟩,fun y hy=>by cases hy⟩
 | (n,k)::r,cs,h1,h2=>by
  rw[List.forIn_cons]
  by_cases hk:k=.free
  ·subst hk
   obtain ⟨c,hc⟩:=h1 (n,.free) List.mem_cons_self rfl
   obtain ⟨cl,e1,e2,e3,e4⟩:=zdv r ((n,c)::cs) (fun y hy=>h1 y (List.mem_cons_of_mem _ hy)) (fun x c' e=>by
    rw[List.lookup_cons] at e
    cases hx:x == n with
    |true=>rw[hx] at e;simp only[Option.some.injEq] at e;subst e;rw[beq_iff_eq.mp hx];exact hc
    |false=>rw[hx] at e;exact h2 x c' e)
   refine ⟨cl,?_,e2,fun x c' e=>?_,fun y hy hf=>?_⟩
   ·simp only[beq_self_eq_true,if_true]
    have:cellOf env n=pure c:=by unfold cellOf;rw[hc]
    rw[this]
    exact e1
   ·refine (e3 x (if x == n then c else c') ?_)
    rw[List.lookup_cons]
    cases hx:x == n with
    |true=>rfl
    |false=>exact e
   ·rcases List.mem_cons.mp hy with rfl|hy
    ·exact e3 n c (by simp[List.lookup_cons])
    ·exact e4 y hy hf
  ·obtain ⟨cl,e1,e2,e3,e4⟩:=zdv r cs (fun y hy=>h1 y (List.mem_cons_of_mem _ hy)) h2
   refine ⟨cl,?_,e2,e3,fun y hy hf=>?_⟩
   ·have:(k == NameKind.free)=false:=by simpa using hk
    simp only[this,Bool.false_eq_true,if_false]
    exact e1
   ·rcases List.mem_cons.mp hy with rfl|hy
    ·exact absurd hf hk
    ·exact e4 y hy hf
theorem zgq{scope:Scope}{env:Env}(h:∀ y∈scope.names,y.2=.free->∃ c,env.cells.lookup y.1=some c):∃ cl,closureFor scope env=pure cl/\(∀ x c,cl.lookup x=some c->env.cells.lookup x=some c)/\∀ y∈scope.names,y.2=.free->∃ c,cl.lookup y.1=some c:=by
 obtain ⟨cl,e1,e2,_,e4⟩:=zdv (env:=env) scope.names [] h (fun x c e=>by simp at e)
 refine ⟨cl,?_,e2,e4⟩
 unfold closureFor
 exact (congrArg (fun z:Sem (List (Str×Addr))=>z >>= fun cs=>pure cs) e1).trans rfl
section
variable{prog:Program}{w:World}{A:Around}{R:Result->Shared->Prop}{s:Shared}
theorem zhR{elt target iter:Expr}{ifs:List Expr}{scope:Scope}{pos:Pos}{it acc:Value}{env:Env}(I:Nat->Shared->Prop)
  (turn:∀ n s,I n s->wpAny (model prog w) A (pyNext it) (fun r s₁=>match r with
   |none=>R (.ok .next) s₁
   |some v=>wpAny (model prog w) A (letOwnedTupleGo target it v) (fun _ s₁'=>wpAny (model prog w) A (assign target env v) (fun _ s₂ =>
     wpAny (model prog w) A (forIn ifs true fun c r=>if r=true then do let ok <- isTrue c env (eval c env);pure (ForInStep.yield ok) else pure (ForInStep.yield r)) (fun ok s₃ =>
      if ok=true then wpAny (model prog w) A (eval elt env) (fun x s₄ =>
       wpAny (model prog w) A (call (.builtin "list.append") [acc,x]) (fun _ s₅=>∃ m,m<n/\I m s₅) (fun _ _=>False) s₄) (fun _ _=>False) s₃
      else ∃ m,m<n/\I m s₃) (fun _ _=>False) s₂) (fun _ _=>False) s₁') (fun _ _=>False) s₁) (fun _ _=>False) s)
  (n:Nat) (h:I n s) :
  codeAny (model prog w) A (.compLoop (.ListComp elt [⟨target,iter,ifs,0⟩] scope pos) 0 it acc env) R s:=by
 refine codeAny_loop rfl I (fun n s hI=>?_) n h
 show wpAny _ A ((compTurn (.ListComp elt [⟨target,iter,ifs,0⟩] scope pos) 0 it acc env).onRaise (fun x=>do noteFrame x env;theTreesLotGoes x)) _ _ s
 refine wpAny_noted ?_
 rw[compTurn_list]
 refine wpAny_bind (wpAny_standAt (wpAny_bind (wpAny_mono (turn n s hI) (fun r s₁ h₁=>?_) fun _ _ h'=>h'.elim)))
 cases r with
 |none=>exact wpAny_pure h₁
 |some v =>
  refine wpAny_bind (wpAny_mono h₁ (fun _ s₁' h₁'=>?_) fun _ _ h'=>h'.elim)
  refine wpAny_bind (wpAny_mono h₁' (fun _ s₂ h₂=>wpAny_bind (wpAny_mono h₂ (fun ok s₃ h₃=>?_) fun _ _ h'=>h'.elim)) fun _ _ h'=>h'.elim)
  cases ok with
  |false=>exact wpAny_pure ⟨rfl,h₃⟩
  |true =>
   exact wpAny_bind (wpAny_bind (wpAny_mono h₃ (fun x s₄ h₄=>wpAny_bind (wpAny_mono h₄ (fun _ s₅ h₅=>wpAny_pure (wpAny_pure ⟨rfl,h₅⟩)) fun _ _ h'=>h'.elim)) fun _ _ h'=>h'.elim))
end
def zfv(X:Cx)(N':List Str)(scope:Scope)(cl:List (Str×Addr))(L:Addr)(s:Shared)(H:Hp)(fp:List Addr):Cx where
 prog:=X.prog
 w:=X.w
 K:=X.K
 mg:=X.mg
 base:=X.base
 A:=X.A
 N:=N'
 s₀:=s
 H₀:=H
 env:=compEnvC scope cl L X.env
 outer:=X.stack
 stack:=X.stack
 ex:=fp
 fn:=fun _=>false
 calm:=X.calm
 pn:=[]
 xe:=fun _ _=>False
def zkP(C:Cn)(n:Nat)(G H:Hp)(w:Wn)(σ:L2.St):Cn:=⟨G,H,w,List.range n,σ,fun _=>False,C.xv,false⟩
def zfw(N N':List Str)(names:List (Str×NameKind))(m:Nat):Bool:=decide (N'.length=N.length+m) && (List.range N.length).all fun i=>match N'[i]? with
 |some x=>match names.lookup x with
  |some .free=>N[i]? == some x
  |some .local=>false
  |some .cell=>false
  |_=>true
 |none=>false
theorem zb9{env:Env}{x:Str}:∀{names:List (Str×NameKind)},(names.map fun (n,k)=>if (k == NameKind.free && env.scope.kind == .function && env.kindOf n == some .cell) then (n,NameKind.cell) else (n,k)).lookup x=(names.lookup x).map fun k=>if (k == NameKind.free && env.scope.kind == .function && env.kindOf x == some .cell)=true then .cell else k
 |[]=>rfl
 | (n,k)::r=>by
  have ih:=zb9 (env:=env) (x:=x) (names:=r)
  show List.lookup x ((if (k == NameKind.free && env.scope.kind == .function && env.kindOf n == some .cell)=true then (n,NameKind.cell) else (n,k))::_)=_
  cases hx:x == n with
  |true =>
   have e:=beq_iff_eq.mp hx
   subst e
   simp only[List.lookup_cons,beq_self_eq_true,Option.map_some]
   split <;> simp[List.lookup_cons]
  |false =>
   simp only[List.lookup_cons,hx]
   split
   ·simp only[List.lookup_cons,hx];exact ih
   ·simp only[List.lookup_cons,hx];exact ih
theorem zbC{α β:Type} [BEq α] [LawfulBEq α] {x:α} {b:β}:∀{l:List (α×β)},l.lookup x=some b->(x,b)∈l
 |[],h=>by simp at h
 | (n,k)::r,h=>by
  rw[List.lookup_cons] at h
  cases hx:x == n with
  |true=>rw[hx] at h;simp at h;subst h;rw[beq_iff_eq.mp hx];exact List.mem_cons_self
  |false=>rw[hx] at h;exact List.mem_cons_of_mem _ (zbC h)
theorem zfs{scope:Scope}{env:Env}{x:Str}(h:Vis (relabel scope env) x):scope.names.lookup x=some .local\/scope.names.lookup x=some .cell\/scope.names.lookup x=some .free:=by
 have e:(relabel scope env).names.lookup x=_:=zb9 (env:=env) (x:=x) (names:=scope.names)
 unfold Vis at h
 rw[e] at h
 cases q:scope.names.lookup x with
 |none=>rw[q] at h;simp at h
 |some k =>
  rw[q] at h
  cases k <;> simp_all
section
variable{X:Cx}{C:Cn}
theorem zma{pins:List (Addr×Obj)}{σ:L2.St}{H:Hp}{s:Shared}{N':List Str}{scope:Scope}{cl:List (Str×Addr)}{m:Nat}{fp:List Addr}{h₁:Heap}{tk:Nat}{mm:Str->Option Value}(I:L2.Inv X pins σ H s)(hf:∀ b∈fp,zdt X pins H b)(ho:∀ b∈fp,∃ o,s.heap.get? b=some o)
  (hb:zfw X.N N' scope.names m=true) (hkind:scope.kind=.function) (hcell:∀ y∈scope.names,y.2≠.cell) (hfr:∀ y∈scope.names,y.2=.free->X.env.kindOf y.1=some .cell\/X.env.kindOf y.1=some .free)
  (hcl:∀ x c,cl.lookup x=some c->X.env.cells.lookup x=some c) (hcf:∀ y∈scope.names,y.2=.free->∃ c,cl.lookup y.1=some c)
  (hns:h₁.Ns s.heap.objs.size mm) (hk:∀ b o,s.heap.get? b=some o->h₁.get? b=some o) :
  L2.Inv (zfv X N' scope cl s.heap.objs.size s H fp) [] (σ++List.replicate m none) H { s with heap:=h₁,toks:=tk }:=by
 have hb1:N'.length=X.N.length+m:=by
  unfold zfw at hb;rw[Bool.and_eq_true] at hb;exact of_decide_eq_true hb.1
 have hb2:∀ i x,i<X.N.length->N'[i]? = some x->Vis (relabel scope X.env) x->X.N[i]? = some x/\scope.names.lookup x=some .free:=fun i x hi e v=>by
  unfold zfw at hb;rw[Bool.and_eq_true,List.all_eq_true] at hb
  have q:=hb.2 i (List.mem_range.mpr hi)
  simp only[e] at q
  rcases zfs v with z|z|z
  ·simp[z] at q
  ·simp[z] at q
  ·simp[z] at q;exact ⟨q,z⟩
 have cellK:∀ c v,s.heap.IsCell c v->h₁.IsCell c v:=fun c v ⟨o,e1,e2⟩=>⟨o,hk c o e1,e2⟩
 refine ⟨⟨I.ok.mod,hkind,I.ok.glob,I.ok.blt,Nat.le_refl _,fun x y c h1 h2=>I.ok.inj x y c (hcl x c h1) (hcl y c h2),fun x hx=>?_,fun x c h _=>absurd h (by simp[zfv]),I.ok.hd,I.ok.frames,.inl rfl,fun b hb=>⟨?_,fun x c e=>(hf b hb).2.2.2.2.1 x c (hcl x c e)⟩,I.bs,Nat.le_trans I.ok.bsz I.sz,fun b o e hb=>?_,fun b hb z=>?_,I.stack,I.stkFree⟩,
  rfl,I.bare,Un.kept hk,⟨mm,hns,fun i x v e1 e2 e3=>?_⟩,fun x c e=>?_,I.hok.fresh (Nat.le_refl _),fun x c e=>I.freeC x c (hcl x c e),fun p hp=>absurd hp (by simp[zfv]),I.hok.kept hk,?_⟩
 ·
  have e:(relabel scope X.env).names.lookup x=_:=zb9 (env:=X.env) (x:=x) (names:=scope.names)
  have hx':Vis (relabel scope X.env) x:=hx.elim (fun z=>.inr (.inl z)) fun z=>.inr (.inr z)
  rcases zfs hx' with z|z|z
  ·rw[z] at e
   have hx2:(relabel scope X.env).names.lookup x=some .cell\/(relabel scope X.env).names.lookup x=some .free:=hx
   rw[e] at hx2;simp at hx2
  ·exact absurd rfl (hcell _ (zbC z))
  ·exact hcf _ (zbC z) rfl
 ·intro z
  obtain ⟨o,e⟩:=ho b hb
  exact absurd (Heap.lt_size e) (by rw[z];exact Nat.lt_irrefl _)
 ·rcases (hf b hb).2.2.2.1 with z|z
  ·exact I.ok.noex b o e z
  ·exact absurd (Nat.lt_of_lt_of_le (Heap.lt_size e) (Nat.le_trans I.ok.bsz z)) (Nat.lt_irrefl _)
 ·rcases List.mem_cons.mp (I.stkSub b z) with z|z
  ·exact (hf b hb).2.1 z
  ·exact (hf b hb).2.2.1 z
 ·have hi:i<X.N.length:=by
   by_cases hi:i<X.N.length
   ·exact hi
   ·rw[List.getElem?_append_right (by rw[I.len];omega),List.getElem?_replicate] at e2
    split at e2 <;> cases e2
  rw[List.getElem?_append_left (by rw[I.len];exact hi)] at e2
  obtain ⟨q1,q2⟩:=hb2 i x hi e1 e3
  have hm:=zbC q2
  obtain ⟨m0,hn0,hl0⟩:=I.loc
  have kc:=hfr _ hm rfl
  obtain ⟨u,ru,lk⟩:=hl0 i x v q1 e2 (kc.elim (fun z=>.inr (.inl z)) fun z=>.inr (.inr z))
  refine ⟨u,ru,.inr ⟨?_,?_⟩⟩
  ·have e:(relabel scope X.env).names.lookup x=_:=zb9 (env:=X.env) (x:=x) (names:=scope.names)
   show (relabel scope X.env).names.lookup x=some .cell\/(relabel scope X.env).names.lookup x=some .free
   rw[e,q2]
   simp only[Option.map_some]
   split
   ·exact .inl rfl
   ·exact .inr rfl
  ·obtain ⟨c,hc⟩:=hcf _ hm rfl
   refine ⟨c,hc,?_⟩
   rcases lk with ⟨z,_⟩|⟨_,c',e',ic⟩
   ·rcases kc with y|y <;> (rw[y] at z;cases z)
   ·rw[hcl _ _ hc] at e';cases e'
    exact cellK _ _ ic
 ·obtain ⟨v,ic⟩:=I.cell x c (hcl x c e)
  exact ⟨v,cellK _ _ ic⟩
 ·show _=N'.length
  rw[List.length_append,List.length_replicate,I.len,hb1]
theorem zpI{pins:List (Addr×Obj)}{σ σ':L2.St}{H H':Hp}{s s':Shared}{N':List Str}{scope:Scope}{cl:List (Str×Addr)}{fp:List Addr}{L:Addr}{h':Heap}{ps:List (Addr×Obj)}(I:L2.Inv X pins σ H s)(hf:∀ b∈fp,zdt X pins H b)(hL:s.heap.objs.size<=L)
  (J:L2.Inv (zfv X N' scope cl L s H fp) ps σ' H' s') (hs:Heap.SameBut L s'.heap h'):L2.Inv X pins σ H' { s' with heap:=h' }:=by
 have hne:∀ b o,s.heap.get? b=some o->b≠L:=fun b o e z=>by subst z;exact absurd (Nat.lt_of_lt_of_le (Heap.lt_size e) hL) (Nat.lt_irrefl _)
 have hfree:H' L=none:=J.free
 have un:Un (frs X.stack) fp H H' s.heap s'.heap:=J.base
 refine I.call' (s':={ s' with heap:=h' }) (ch:=fp) J.os ⟨fun b o e n h1 h2=>?_,fun b o e n h1 h2=>?_,un.free,fun b o e h2=>?_,un.tups,un.frzs,un.tbls⟩ (fun b o e=>?_) J.bare fun b hb=>⟨(hf b hb).2.2.2.1,(hf b hb).2.1,(hf b hb).2.2.2.2.1,(hf b hb).2.2.2.2.2⟩
 ·exact (hs.2 b (hne b o e)).trans (un.keep b o e n h1 h2)
 ·obtain ⟨sl,q⟩:=un.slot b o e n h1 h2
  exact ⟨sl,(hs.2 b (hne b o e)).trans q⟩
 ·obtain ⟨o',q⟩:=un.there b o e h2
  exact ⟨o',(hs.2 b (hne b o e)).trans q⟩
 ·refine (J.hok b o e).stay (fun c v hc q=>(hs.2 c ?_).trans q) (fun _ q=>q) fun _ _ q=>q
  intro z
  subst z
  rcases hc with z|z
  ·subst z;rw[hfree] at e;cases e
  ·rw[hfree] at z;cases z
end
def zbz(g:DG)(ft:DT)(fe:De):List Dt->Ev->R (List Dt×Ev)
 |[],ρ=>.ok ([],ρ)
 |d::r,ρ=>(g d ρ).bind fun ρ1=>(ft ρ1).bind fun t=>if t.1=true then (fe t.2).bind fun y=>(zbz g ft fe r y.2).bind fun z=>.ok (y.1::z.1,z.2) else zbz g ft fe r t.2
def za8(fi:DA)(g:DG)(ft:DT)(fe:De)(m:Nat):DN:=fun ρ=>(fi ρ).bind fun a=>if zfQ a.1=true then match zbz g ft fe a.1 (a.2++List.replicate m none) with
  |.ok z=>.ok (z.1,z.2.take a.2.length)
  |_=>.no
 else .no
theorem zfj{α β:Type}{r:R α}{f:α->R β}{b:β}(h:r.bind f=.ok b):∃ a,r=.ok a/\f a=.ok b:=by
 cases r with
 |ok a=>exact ⟨a,rfl,h⟩
 |er n=>cases h
 |no=>cases h
def JTs(X:Cx)(C:Cn)(ifs:List Expr)(ft:DT):Prop :=
 ∀(pins:List (Addr×Obj))(s:Shared)(σ:L2.St)(H:Hp)(Q:Bool->Hp->Prop),L2.Inv X pins σ H s->tT X.K C ft σ H Q ->
  wpAny (model X.prog X.w) X.A (forIn ifs true fun c r=>if r=true then do let ok <- isTrue c X.env (eval c X.env);pure (ForInStep.yield ok) else pure (ForInStep.yield r)) (TP X pins σ Q) X.xe s
def dTT:DT:=fun ρ=>.ok (true,ρ)
abbrev Hce(scope:Scope):Prop:=∀ y∈scope.names,y.2≠.cell
abbrev Hfr(X:Cx)(scope:Scope):Prop:=∀ y∈scope.names,y.2=.free->X.env.kindOf y.1=some .cell\/X.env.kindOf y.1=some .free
abbrev Hnm(scope:Scope):Prop:=∀ y∈scope.names,y.2=.local->scope.names.lookup y.1=some .local
abbrev Hbk(X:Cx)(C:Cn)(N':List Str)(scope:Scope)(tg:Expr)(ifs:List Expr)(elt:Expr)(g:DG)(ft:DT)(fe:De):Prop:=∀ cl L s H fp G H' w σ,JG (zfv X N' scope cl L s H fp) (zkP C X.N.length G H' w σ) tg g/\JTs (zfv X N' scope cl L s H fp) (zkP C X.N.length G H' w σ) ifs ft/\JE (zfv X N' scope cl L s H fp) (zkP C X.N.length G H' w σ) elt fe
abbrev nL(s2:Shared):Heap:=s2.heap.push { cls:=.type "list",dict:=none,data:=.seq ([]:List Value).toArray }
def PTs(X:Cx)(ifs:List Expr)(t:TT):Prop :=
 ∀(pins:List (Addr×Obj))(s:Shared)(σ:L2.St)(H:Hp)(Q:Bool->Hp->Prop),L2.Inv X pins σ H s->t σ H Q ->
  wpAny (model X.prog X.w) X.A (forIn ifs true fun c r=>if r=true then do let ok <- isTrue c X.env (eval c X.env);pure (ForInStep.yield ok) else pure (ForInStep.yield r)) (TP X pins σ Q) X.xe s
section
variable{X:Cx}{C:Cn}
theorem zcr:JTs X C [] dTT:=fun pins s σ H Q I ⟨G,w,ρ,r,p⟩=>wpAny_tests_nil ⟨H,I,p G H w (.refl _ _ _) r⟩
theorem zhi{c:Expr}{ft:DT}(h:JT X C c ft):JTs X C [c] ft:=fun pins s σ H Q I t=>wpAny_tests_one (h pins s σ H Q I t)
theorem Rel.upd_new{K:W.Frag}{σ:L2.St}{G H:Hp}{w:Wn}{ρ:Ev}{p:Addr}{o:HO}(r:Rel K C G w ρ σ H)(hg:G p=none)(hw:w p=none)(h0:C.H₀ p=none):Rel K C G w ρ σ (upd H p o):=by
 refine ⟨fun b u e=>?_,r.wg,fun b e=>?_,r.len,fun i b e=>?_,⟨r.en.g,r.en.fr,fun b u e z=>?_,r.en.w,fun b e=>?_⟩,r.pin⟩
 ·rw[zad (zaf e hg)];exact r.gh b u e
 ·by_cases hb:b=p
  ·subst hb;rw[zal];simp
  ·rw[zad hb];exact r.wh b e
 ·obtain ⟨v,h1,h2⟩:=r.sl i b e
  refine ⟨v,h1,h2.grow (.refl _) fun a u e1 e2=>⟨?_,e1⟩⟩
  have:a≠p:=fun z=>by subst z;rw[hw] at e1;cases e1
  rw[zad this];exact e2
 ·rw[zad (zaf e h0)];exact r.en.h b u e z
 ·by_cases hb:b=p
  ·subst hb;exact h0
  ·rw[zad hb] at e;exact r.en.k b e
theorem zaN.keep{G H G' H':Hp}{w w':Wn}{p:Addr}{o:HO}(s:zaN G H w G' H' w')(hg:G p=none)(hw:w p=none)(hp:H p=some o):G' p=none/\w' p=none/\H' p=some o:=by
 refine ⟨?_,?_,s.h p o hp hw⟩
 ·cases q:G' p with
  |none=>rfl
  |some u =>
   rcases s.fr p u q with z|z|z
   ·exact absurd hg z
   ·rw[hp] at z;cases z
   ·exact absurd hw z
 ·cases q:w' p with
  |none=>rfl
  |some k =>
   rcases s.w p (by rw[q];simp) with z|z
   ·exact absurd hw z
   ·rw[hp] at z;cases z
structure zmJ(X:Cx)(pins:List (Addr×Obj))(H:Hp)(L:Addr)(s:Shared):Prop where
 fr:H L=none
 nl:L≠X.env.locals
 nw:L∈X.ex\/X.s₀.heap.objs.size<=L
 nc:∀ x c,X.env.cells.lookup x=some c->c≠L
 np:∀ p∈X.pn++pins,p.1≠L
 ns:∃ m,s.heap.Ns L m
theorem znJ{tg iter elt:Expr}{ifs:List Expr}{scope:Scope}{pos:Pos}{N':List Str}{m n:Nat}{tgt:TG}{tts:TT}{te:TE}(hc:X.calm=true)(hb:zfw X.N N' scope.names m=true)
  (hkind:scope.kind=.function) (hcell:Hce scope) (hfr:Hfr X scope)
  {pins:List (Addr×Obj)} {σ:L2.St} {s2:Shared} {cl:List (Str×Addr)} {RR:Value->Addr->Result->Shared->Prop} {E:Value->Shared->Prop}
  (hblk:∀ L s H fp,L2.Inv X pins σ H s->(∀ b∈fp,zdt X pins H b)->s.heap.objs.size<=L->PG (zfv X N' scope cl L s H fp) tg tgt/\PTs (zfv X N' scope cl L s H fp) ifs tts/\PE (zfv X N' scope cl L s H fp) elt te)
  (hcl:∀ x c,cl.lookup x=some c->X.env.cells.lookup x=some c) (hcf:∀ y∈scope.names,y.2=.free->∃ c,cl.lookup y.1=some c)
  {it:Addr} {fp:List Addr} {tn:Nat->Heap->Prop} {J:It} {H2:Hp} (I2:L2.Inv X pins σ H2 s2) (T:zmA X.prog X.w X.K tg J fp it tn) (st2:tn 0 s2.heap) (f2:∀ b∈fp,zdt X pins H2 b)
  (W:Addr->Nat->L2.St->Hp->List V->Prop) (w0:∀ D,H2 D=none->W D 0 (σ++List.replicate m none) (upd H2 D (.lst [])) [])
  (hstep:∀ D i σ' H' vs,H2 D=none->W D i σ' H' vs->H' D=some (.lst vs)->i<n->J.go i H'/\∀ x H7,J.yld i H' x H7->tgt x σ' H7 fun σ8 H8=>tts σ8 H8 fun b H9=>if b=true then te σ8 H9 fun v H10=>H10 D=some (.lst vs)/\vs.length<sizeLine/\W D (i+1) σ8 (upd H10 D (.lst (vs++[v]))) (vs++[v]) else H9 D=some (.lst vs)/\W D (i+1) σ8 H9 vs)
  (hstop:∀ D σ' H' vs,W D n σ' H' vs->J.stop n H')
  (fin:∀(D L:Addr)(s':Shared)(vs:List V)(σ':L2.St)(H':Hp),L2.Inv X pins σ H' s'->zmJ X pins H' L s'->H2 D=none->H' D=some (.lst vs)->σ'.length=X.N.length+m->W D n σ' H' vs->RR (.ref D) L (.ok .next) s') :
  wpAny (model X.prog X.w) X.A (newList []) (fun acc s₃=>wpAny (model X.prog X.w) X.A (newFunctionEnv scope X.env.globals cl [] X.env.qual none .none (some X.env)) (fun cenv s₄ =>
   codeAny (model X.prog X.w) X.A (.compStart (.ListComp elt [⟨tg,iter,ifs,0⟩] scope pos) 0 (.ref it) acc { cenv with scope:=relabel scope X.env }) (RR acc cenv.locals) s₄) E s₃) E s2:=by
 have hD:H2 s2.heap.objs.size=none:=I2.hok.fresh (Nat.le_refl _)
 refine wpAny_newObj_type (wpAny_newFunctionEnv hcell (by intro y hy;simp at hy) (fun h₁ hns₁ hsb₁=>?_) hkind)
 dsimp only at hns₁ hsb₁ ⊢
 have I3:L2.Inv X pins σ (upd H2 s2.heap.objs.size (.lst [])) { s2 with heap:=nL s2 } :=
  I2.laid (t':=s2.toks) (fun b u e=>Heap.get?_push_of_some _ e) (Nat.le_refl _) ⟨Nat.zero_le _,[],0,.nil,Heap.get?_push_size _ rfl⟩
 have hob:∀ b∈fp,∃ o,s2.heap.get? b=some o:=fun b hb=>let ⟨o,e,_⟩:=T.obj 0 _ st2 b hb;⟨o,e⟩
 have hbD:∀ b∈fp,b≠s2.heap.objs.size:=fun b hb z=>by obtain ⟨o,e⟩:=hob b hb;exact absurd (Heap.lt_size e) (by rw[z];exact Nat.lt_irrefl _)
 have f3:∀ b∈fp,zdt X pins (upd H2 s2.heap.objs.size (.lst [])) b:=fun b hb=>⟨by rw[zad (hbD b hb)];exact (f2 b hb).1,(f2 b hb).2⟩
 have hk3:∀ b o,(nL s2).get? b=some o->h₁.get? b=some o:=fun b o e =>
  (hsb₁.2 b (Nat.ne_of_lt (Heap.lt_size e))).trans (Heap.get?_push_of_some _ e)
 have J4:=zma (N':=N') (scope:=scope) (cl:=cl) (m:=m) (fp:=fp) (tk:=s2.toks+([]:List (Str×Value)).length) I3 f3 (fun b hb=>by obtain ⟨o,e⟩:=hob b hb;exact ⟨o,Heap.get?_push_of_some _ e⟩) hb hkind hcell hfr hcl hcf hns₁ hk3
 have st4:tn 0 h₁:=T.keep _ _ _ st2 fun b hb o e=>hk3 b o (Heap.get?_push_of_some _ e)
 generalize hX':zfv X N' scope cl (nL s2).objs.size { s2 with heap:=nL s2 } (upd H2 s2.heap.objs.size (.lst [])) fp=X' at J4
 have eP:X'.prog=X.prog:=by rw[<- hX'];rfl
 have eW:X'.w=X.w:=by rw[<- hX'];rfl
 have eK:X'.K=X.K:=by rw[<- hX'];rfl
 have eA:X'.A=X.A:=by rw[<- hX'];rfl
 have eC:X'.calm=true:=by rw[<- hX'];exact hc
 have eE:X'.xe=fun _ _=>False:=by rw[<- hX'];rfl
 have ePn:X'.pn=[]:=by rw[<- hX'];rfl
 have eN:X'.N.length=X.N.length+m:=by
  rw[<- hX'];show N'.length=_
  unfold zfw at hb;rw[Bool.and_eq_true] at hb;exact of_decide_eq_true hb.1
 have eEx:X'.ex=fp:=by rw[<- hX'];rfl
 have hlenσ:σ.length=X.N.length:=I2.len
 obtain ⟨hg,hts,he⟩:=hblk (nL s2).objs.size { s2 with heap:=nL s2 } (upd H2 s2.heap.objs.size (.lst [])) fp I3 f3 (Nat.le_refl _)
 rw[hX'] at hg hts he
 have stat:∀{H':Hp},(∀ b∈fp,H' b=none)->∀ b∈fp,zdt X' [] H' b:=fun hn b hb=>by
  have q:=J4.ok.exf b (by rw[eEx];exact hb)
  exact ⟨hn b hb,q.1,J4.ok.exfs b (by rw[eEx];exact hb),.inl (by rw[eEx];exact hb),q.2,fun p hp=>by rw[ePn] at hp;simp at hp⟩
 have loop:∀ s₃:Shared,s₃={ s2 with heap:=h₁,toks:=s2.toks+([]:List (Str×Value)).length } ->
   codeAny (model X.prog X.w) X.A (.compLoop (.ListComp elt [⟨tg,iter,ifs,0⟩] scope pos) 0 (.ref it) (.ref s2.heap.objs.size) X'.env) (RR (.ref s2.heap.objs.size) (nL s2).objs.size) s₃:=by
  rintro s₃ rfl
  refine zhR (fun k s'=>∃ i σ' H' vs,L2.Inv X' [] σ' H' s'/\tn i s'.heap/\(∀ b∈fp,H' b=none)/\k=n-i/\i<=n/\H' s2.heap.objs.size=some (.lst vs)/\W s2.heap.objs.size i σ' H' vs) ?_ n
   ⟨0,σ++List.replicate m none,_,[],J4,st4,fun b hb=>(f3 b hb).1,by simp,Nat.zero_le _,zal,w0 _ hD⟩
  rintro k s' ⟨i,σ',H',vs,J5,st5,fr5,rfl,hil,hd5,q5⟩
  by_cases hlt:i<n
  ·obtain ⟨go,yl⟩:=hstep _ i σ' H' vs hD q5 hd5 hlt
   have hIt:=T.item X' eP eW eK eC i [] s' σ' H' (fun _ _=>False) J5 (stat fr5) st5 go
   rw[eA] at hIt
   refine thn hIt fun rr s6 ⟨u,hr,h6⟩=>?_
   subst hr
   refine thn h6 fun _ s7 ⟨x,H7,J7,rx7,y7,st7,fr7⟩=>?_
   have q7:=yl x H7 y7
   have J7':=J7.pinned (stat fr7) (T.obj _ _ st7)
   have hG:=hg ([]++zer fp s7.heap) s7 σ' H7 x u _ J7' rx7 q7
   rw[eP,eW,eA,eE] at hG
   refine thn hG fun _ s8 ⟨σ8,H8,J8,q8⟩=>?_
   have hT:=hts ([]++zer fp s7.heap) s8 σ8 H8 _ J8 q8
   rw[eP,eW,eA,eE] at hT
   refine thn hT fun ok s9 ⟨H9,J9,q9⟩=>?_
   have after:∀{σa:L2.St}{Ha:Hp}{sa:Shared},L2.Inv X' ([]++zer fp s7.heap) σa Ha sa->tn (i+1) sa.heap/\∀ b∈fp,Ha b=none:=fun {σa Ha sa} Ja =>
    ⟨T.keep _ _ _ st7 fun b hb o e=>(Ja.pin (b,o) (List.mem_append_right _ (List.mem_append_right _ (zdy hb e)))).1,fun b hb=>by
     obtain ⟨o,e,_⟩:=T.obj _ _ st7 b hb
     exact (Ja.pin (b,o) (List.mem_append_right _ (List.mem_append_right _ (zdy hb e)))).2.1⟩
   cases ok with
   |false =>
    rw[if_neg Bool.false_ne_true]
    rw[if_neg Bool.false_ne_true] at q9
    obtain ⟨k1,k2⟩:=after J9
    exact ⟨n-(i+1),by omega,i+1,σ8,H9,vs,J9.unpinned,k1,k2,rfl,hlt,q9.1,q9.2⟩
   |true =>
    rw[if_pos rfl]
    rw[if_pos rfl] at q9
    have hEl:=he ([]++zer fp s7.heap) s9 σ8 H9 _ J9 q9
    rw[eP,eW,eA,eE] at hEl
    refine thn hEl fun xv s10 ⟨vy,H10,J10,ry,q10⟩=>?_
    have hAp:=zhL (X:=X') ([]++zer fp s7.heap) s10 σ8 H10 (.ref s2.heap.objs.size) [vy] (.ref s2.heap.objs.size) [xv] (fun v H11=>H11=upd H10 s2.heap.objs.size (.lst (vs++[vy]))) J10 rfl (.cons ry .nil)
     ⟨s2.heap.objs.size,vs,vy,rfl,rfl,q10.1,q10.2.1,rfl⟩
    rw[eP,eW,eA,eE] at hAp
    refine thn hAp fun _ s11 ⟨v11,H11,J11,_,e11⟩=>?_
    subst e11
    obtain ⟨k1,k2⟩:=after J11
    exact ⟨n-(i+1),by omega,i+1,σ8,_,vs++[vy],J11.unpinned,k1,k2,rfl,hlt,zal,q10.2.2⟩
  ·have e:i=n:=by omega
   subst e
   have hDn:=T.done X' eP eW eK eC i [] s' σ' H' (fun _ _=>False) J5 (stat fr5) st5 (hstop _ _ _ _ q5)
   rw[eA] at hDn
   refine thn hDn fun rr s6 ⟨hr,J6⟩=>?_
   subst hr
   have hl6:σ'.length=X.N.length+m:=by rw[J6.len,eN]
   obtain ⟨m6,hn6,_⟩:=id J6.loc
   have eL:X'.env.locals=(nL s2).objs.size:=by rw[<- hX'];rfl
   rw[eL] at hn6
   have frL:H' (nL s2).objs.size=none:=by rw[<- eL];exact J6.free
   rw[<- hX'] at J6
   have IX:L2.Inv X pins σ H' s6:=zpI (h':=s6.heap) I3 f3 (Nat.le_refl _) J6 ⟨rfl,fun _ _=>rfl⟩
   have hLs:∀ b o,(nL s2).get? b=some o->(nL s2).objs.size≠b:=fun b o e z=>absurd (Heap.lt_size e) (by rw[z];exact Nat.lt_irrefl _)
   have lo:zmJ X pins H' (nL s2).objs.size s6:=by
    refine ⟨frL,fun z=>?_,.inr I3.sz,fun x c e z=>?_,fun p hp z=>?_,m6,hn6⟩
    ·exact absurd I3.lt (by rw[<- z];exact Nat.lt_irrefl _)
    ·obtain ⟨v,q⟩:=I3.cell x c e
     exact absurd q.lt (by rw[z];exact Nat.lt_irrefl _)
    ·exact hLs p.1 p.2 (I3.pin p hp).1 z.symm
   exact fin _ _ s6 vs σ' H' IX lo hD hd5 hl6 q5
 have envEq:X'.env=compEnvC scope cl (nL s2).objs.size X.env:=by rw[<- hX'];rfl
 rw[envEq] at loop
 exact codeAny_compStart_list (loop _ rfl) (T.self X.A 0 _ _ _ st4 (loop _ rfl))
theorem zn0{tg iter elt:Expr}{ifs:List Expr}{scope:Scope}{pos:Pos}{N':List Str}{m:Nat}{g:DG}{ft:DT}{fe:De}(hc:X.calm=true)(hb:zfw X.N N' scope.names m=true)
  (hkind:scope.kind=.function) (hcell:Hce scope) (hfr:Hfr X scope)
  (hblk:Hbk X C N' scope tg ifs elt g ft fe)
  {pins:List (Addr×Obj)} {σ:L2.St} {s2:Shared} {cl:List (Str×Addr)} {RR:Value->Addr->Result->Shared->Prop} {E:Value->Shared->Prop}
  (hcl:∀ x c,cl.lookup x=some c->X.env.cells.lookup x=some c) (hcf:∀ y∈scope.names,y.2=.free->∃ c,cl.lookup y.1=some c)
  {it:Addr} {fp:List Addr} {tn:Nat->Heap->Prop} {J:It} {H2:Hp} (I2:L2.Inv X pins σ H2 s2) (T:zmA X.prog X.w X.K tg J fp it tn) (st2:tn 0 s2.heap) (f2:∀ b∈fp,zdt X pins H2 b)
  {ds zs:List Dt} {ρ1 ρf:Ev} {G1:Hp} {w1:Wn} (r1:Rel X.K C G1 w1 ρ1 σ H2) (Ko:Ev->Prop) (k0:Ko (ρ1++List.replicate m none)) (hko:∀ d ρ ρ3 b ρ4,Ko ρ->g d ρ=.ok ρ3->ft ρ3=.ok (b,ρ4)->Ko ρ4/\∀ y ρ5,fe ρ4=.ok (y,ρ5)->Ko ρ5)
  (it1:∀ i ρ' G' w' σ' H',Rel X.K (zkP C X.N.length G1 H2 w1 (σ++List.replicate m none)) G' w' ρ' σ' H'->Ko ρ'->(∀ d,ds[i]? = some d->J.go i H'/\∀ x H7,J.yld i H' x H7->∃ G7,zdE G' H' G7 H7/\Rep X.K G7 d x)/\(ds.length<=i->J.stop i H')) (hfi:zfQ ds=true) (ec:zbz g ft fe ds (ρ1++List.replicate m none)=.ok (zs,ρf))
  (fin:∀(D L:Addr)(s':Shared)(vs:List V)(G' H':Hp)(w':Wn),L2.Inv X pins σ H' s'->zmJ X pins H' L s'->zaN G1 H2 w1 G' H' w'->Rel X.K C G' w' (ρf.take ρ1.length) σ H'->H2 D=none->H' D=some (.lst vs)->G' D=none->w' D=none->zaw X.K G' zs vs->RR (.ref D) L (.ok .next) s') :
  wpAny (model X.prog X.w) X.A (newList []) (fun acc s₃=>wpAny (model X.prog X.w) X.A (newFunctionEnv scope X.env.globals cl [] X.env.qual none .none (some X.env)) (fun cenv s₄ =>
   codeAny (model X.prog X.w) X.A (.compStart (.ListComp elt [⟨tg,iter,ifs,0⟩] scope pos) 0 (.ref it) acc { cenv with scope:=relabel scope X.env }) (RR acc cenv.locals) s₄) E s₃) E s2:=by
 generalize hC':zkP C X.N.length G1 H2 w1 (σ++List.replicate m none)=C' at it1
 have c0:C'.H₀=H2:=by rw[<- hC'];rfl
 have hlenσ:σ.length=X.N.length:=I2.len
 refine znJ (iter:=iter) (pos:=pos) (n:=ds.length) (tgt:=tG X.K C' g) (tts:=tT X.K C' ft) (te:=tE X.K C' fe) hc hb hkind hcell hfr (fun L s H fp _ _ _=>by
  obtain ⟨a1,a2,a3⟩:=hblk cl L s H fp G1 H2 w1 (σ++List.replicate m none)
  rw[hC'] at a1 a2 a3
  exact ⟨a1,a2,a3⟩) hcl hcf I2 T st2 f2
  (fun D i σ' H' vs=>∃ ρ' G' w' ac,Rel X.K C' G' w' ρ' σ' H'/\G' D=none/\w' D=none/\zaw X.K G' ac vs/\ac.length<=i/\Ko ρ'/\∃ z,zbz g ft fe (ds.drop i) ρ'=.ok z/\ac++z.1=zs/\z.2 = ρf) (fun D hD=>?_) (fun D i σ' H' vs hD ⟨ρ',G',w',ac,r5,gd5,wd5,q5,hac,ko,z,ez,ez1,ez2⟩ hd5 hlt=>?_) (fun D σ' H' vs ⟨ρ',G',w',ac,r5,_,_,_,_,ko,_⟩=>(it1 _ _ _ _ _ _ r5 ko).2 (Nat.le_refl _)) fun D L s' vs σ' H' IX lo hD hd5 hl6 ⟨ρ',G',w',ac,r5,gd5,wd5,q5,hac,_,z,ez,ez1,ez2⟩=>?_
 ·have w0:w1 D=none:=by
   cases q:w1 D with
   |none=>rfl
   |some k=>exact absurd hD (r1.wh _ (by rw[q];simp))
  have base:Rel X.K C' G1 w1 (ρ1++List.replicate m none) (σ++List.replicate m none) H2:=by
   refine ⟨r1.gh,r1.wg,r1.wh,by simp[r1.len],fun i b e=>?_,by rw[<- hC'];exact .refl _ _ _,fun i _=>by rw[<- hC'];rfl⟩
   have hi':i < ρ1.length:=by
    by_cases hi':i < ρ1.length
    ·exact hi'
    ·rw[List.getElem?_append_right (by omega),List.getElem?_replicate] at e
     split at e <;> cases e
   rw[List.getElem?_append_left hi'] at e
   obtain ⟨v,h1,h2⟩:=r1.sl i b e
   exact ⟨v,by rw[List.getElem?_append_left (by rw[<- r1.len];exact hi')];exact h1,h2⟩
  exact ⟨ρ1++List.replicate m none,G1,w1,[],base.upd_new (r1.gh.free hD) w0 (by rw[c0];exact hD),r1.gh.free hD,w0,zaw.nil,Nat.zero_le _,k0,(zs,ρf),by simpa using ec,by simp,rfl⟩
 ·have ed:ds.drop i=ds[i]::ds.drop (i+1):=List.drop_eq_getElem_cons hlt
  obtain ⟨go,yl⟩:=(it1 i _ _ _ _ _ r5 ko).1 ds[i] (by simp[hlt])
  refine ⟨go,fun x H7 y7=>?_⟩
  obtain ⟨G7,gr,rep7⟩:=yl x H7 y7
  have keep7:=(gr.step (w:=w')).keep gd5 wd5 hd5
  rw[ed] at ez
  unfold zbz at ez
  obtain ⟨ρ3,e3,ez⟩:=zfj ez
  obtain ⟨t4,e4,ez⟩:=zfj ez
  obtain ⟨b4,ρ4⟩:=t4
  obtain ⟨ko4,ko5⟩:=hko _ _ _ _ _ ko e3 e4
  refine ⟨G7,w',ρ',ds[i],r5.grow gr,rep7,?_⟩
  rw[e3]
  intro σ8 G8 H8 w8 s8s r8
  have keep8:=s8s.keep keep7.1 keep7.2.1 keep7.2.2
  refine ⟨G8,w8,ρ3,r8,?_⟩
  rw[e4]
  intro G9 H9 w9 s9s r9
  have keep9:=s9s.keep keep8.1 keep8.2.1 keep8.2.2
  have sg9:=(gr.g.trans s8s.g).trans s9s.g
  cases b4 with
  |false =>
   show (if false=true then _ else _)
   rw[if_neg Bool.false_ne_true]
   simp only[Bool.false_eq_true,if_false] at ez
   exact ⟨keep9.2.2,ρ4,G9,w9,ac,r9,keep9.1,keep9.2.1,q5.same sg9,by omega,ko4,z,ez,ez1,ez2⟩
  |true =>
   show (if true=true then _ else _)
   rw[if_pos rfl]
   simp only[if_true] at ez
   obtain ⟨⟨yd,ρ10⟩,e10,ez⟩:=zfj ez
   obtain ⟨z',ez',ez3⟩:=zfj ez
   refine ⟨G9,w9,ρ4,r9,?_⟩
   rw[e10]
   intro v G10 H10 w10 s10s r10 q10
   have keep10:=s10s.keep keep9.1 keep9.2.1 keep9.2.2
   cases ez3
   refine ⟨keep10.2.2,?_,ρ10,G10,w10,ac++[yd],r10.upd_new keep10.1 keep10.2.1 (by rw[c0];exact hD),keep10.1,keep10.2.1,(q5.same (sg9.trans s10s.g)).append (zaw.cons q10 zaw.nil),by simp;omega,ko5 _ _ e10,z',ez',by rw[<- ez1];simp,ez2⟩
   have:=q5.length
   have:=zhk hfi
   omega
 ·simp only[List.drop_length] at ez
  unfold zbz at ez
  cases ez
  simp only[List.append_nil] at ez1
  subst ez1
  subst ez2
  have cG:C'.G₀=G1:=by rw[<- hC'];rfl
  have cw:C'.w₀=w1:=by rw[<- hC'];rfl
  have en':zaN G1 H2 w1 G' H' w':=by have:=r5.en;rw[cG,c0,cw] at this;exact this
  have hρlen:ρ'.length=X.N.length+m:=by rw[r5.len,hl6]
  refine fin _ _ s' vs G' H' w' IX lo en' ⟨r5.gh,r5.wg,r5.wh,?_,fun i b e=>?_,r1.en.trans en',r1.pin⟩ hD hd5 gd5 wd5 q5
  ·rw[List.length_take,hρlen,r1.len,hlenσ];omega
  ·have hi':i < ρ1.length:=by
    by_cases hi':i < ρ1.length
    ·exact hi'
    ·rw[List.getElem?_eq_none (by rw[List.length_take];omega)] at e;cases e
   rw[List.getElem?_take_of_lt hi'] at e
   obtain ⟨v,h1,h2⟩:=r5.sl i b e
   refine ⟨v,?_,h2⟩
   have hpi:=r5.pin i (by rw[<- hC'];exact List.mem_range.mpr (by rw[<- hlenσ,<- r1.len];exact hi'))
   rw[h1] at hpi
   rw[<- hC'] at hpi
   have hpi':some (some v)=(σ++List.replicate m none)[i]? := hpi
   rw[List.getElem?_append_left (by rw[<- r1.len];exact hi')] at hpi'
   exact hpi'.symm
theorem zhQ{tg iter elt:Expr}{ifs:List Expr}{scope:Scope}{pos:Pos}{N':List Str}{m:Nat}{g:DG}{ft:DT}{fe:De}(hc:X.calm=true)(hb:zfw X.N N' scope.names m=true)
  (hkind:scope.kind=.function) (hcell:Hce scope) (hfr:Hfr X scope)
  (hblk:Hbk X C N' scope tg ifs elt g ft fe)
  {pins:List (Addr×Obj)} {σ:L2.St} {s2:Shared} {cl:List (Str×Addr)} {RR:Value->Addr->Result->Shared->Prop} {E:Value->Shared->Prop}
  (hcl:∀ x c,cl.lookup x=some c->X.env.cells.lookup x=some c) (hcf:∀ y∈scope.names,y.2=.free->∃ c,cl.lookup y.1=some c)
  {it:Addr} {fp:List Addr} {tn:Nat->Heap->Prop} {J:It} {H2:Hp} (I2:L2.Inv X pins σ H2 s2) (T:zmA X.prog X.w X.K tg J fp it tn) (st2:tn 0 s2.heap) (f2:∀ b∈fp,zdt X pins H2 b)
  {ds zs:List Dt} {ρ1 ρf:Ev} {G1:Hp} {w1:Wn} (r1:Rel X.K C G1 w1 ρ1 σ H2) (it1:zlJ X.K J G1 ds) (hfi:zfQ ds=true) (ec:zbz g ft fe ds (ρ1++List.replicate m none)=.ok (zs,ρf))
  (fin:∀(D L:Addr)(s':Shared)(vs:List V)(G' H':Hp)(w':Wn),L2.Inv X pins σ H' s'->zmJ X pins H' L s'->zaN G1 H2 w1 G' H' w'->Rel X.K C G' w' (ρf.take ρ1.length) σ H'->H2 D=none->H' D=some (.lst vs)->G' D=none->w' D=none->zaw X.K G' zs vs->RR (.ref D) L (.ok .next) s') :
  wpAny (model X.prog X.w) X.A (newList []) (fun acc s₃=>wpAny (model X.prog X.w) X.A (newFunctionEnv scope X.env.globals cl [] X.env.qual none .none (some X.env)) (fun cenv s₄ =>
   codeAny (model X.prog X.w) X.A (.compStart (.ListComp elt [⟨tg,iter,ifs,0⟩] scope pos) 0 (.ref it) acc { cenv with scope:=relabel scope X.env }) (RR acc cenv.locals) s₄) E s₃) E s2 :=
 zn0 hc hb hkind hcell hfr hblk hcl hcf I2 T st2 f2 r1 (fun _=>True) trivial (fun _ _ _ _ _ _ _ _=>⟨trivial,fun _ _ _=>trivial⟩) (fun i ρ' G' w' σ' H' r _=>it1 i G' H' r.en.g r.gh) hfi ec fin
theorem zcC{tg iter elt:Expr}{ifs:List Expr}{scope:Scope}{pos:Pos}{N':List Str}{m:Nat}{fi:DA}{g:DG}{ft:DT}{fe:De}(hi:JI X C tg iter fi)(hc:X.calm=true)(hb:zfw X.N N' scope.names m=true)
  (hkind:scope.kind=.function) (hcell:Hce scope) (hfr:Hfr X scope) (hnames:Hnm scope)
  (hblk:Hbk X C N' scope tg ifs elt g ft fe)
  (hs:∀ x,foldedSetIterable iter X.env x=pure x:=by intro _;rfl):JN X C (.ListComp elt [⟨tg,iter,ifs,0⟩] scope pos) (za8 fi g ft fe m):=by
 intro pins s σ H Q I ⟨G,w,ρ,r,p⟩
 rw[eval_ListComp]
 obtain ⟨cl,hclos,hcl,hcf⟩:=zgq (scope:=scope) (env:=X.env) fun y hy hf=>I.ok.has y.1 (hfr y hy hf)
 refine wpAny_comprehension_free (use:=none) rfl hs hclos hkind hnames ?_
 refine thn (hi pins s σ H (fun J H2=>∃ ds ρ1 G1 w1 zs ρf,Rel X.K C G1 w1 ρ1 σ H2/\zlJ X.K J G1 ds/\zfQ ds=true/\zbz g ft fe ds (ρ1++List.replicate m none)=.ok (zs,ρf)/\kN X.K C σ Q G1 H2 w1 (zs,ρf.take ρ1.length)) I ?_) fun v s1 h1=>thn h1 fun itv s2 h2=>?_
 ·refine zsV (κ:=fun G H w=>kN X.K C σ Q G H w) zgh r p fun ds ρ1 J G1 H1 w1 r1 st1 it1 p1=>?_
  dsimp only at p1
  split at p1
  ·rename_i hfi
   split at p1
   ·rename_i z ez
    exact ⟨ds,ρ1,G1,w1,z.1,z.2,r1,it1,hfi,ez,p1⟩
   ·exact p1.elim
  ·exact p1.elim
 obtain ⟨it,fp,tn,J,H2,rfl,I2,T,st2,f2,ds,ρ1,G1,w1,zs,ρf,r1,it1,hfi,ec,kk⟩:=h2
 refine zhQ (RR:=fun acc C=>compPost (model X.prog X.w) X.A X.xe none (EP X pins σ Q) acc C) hc hb hkind hcell hfr hblk hcl hcf I2 T st2 f2 r1 it1 hfi ec fun D L s' vs G' H' w' I' lo st rel h0 h1 h2 h3 q=>?_
 obtain ⟨mm,hn⟩:=lo.ns
 refine ⟨mm,hn,fun h' hsb=>⟨.ref D,H',?_,rfl,kk D vs G' H' w' st rel h0 h1 h2 h3 q⟩⟩
 exact I'.turned (t':=s'.toks) (fun b o hb e=>(hsb.2 b hb).trans e) lo.fr lo.nl lo.nw lo.nc lo.np
theorem zjx{tg iter elt:Expr}{ifs:List Expr}{scope:Scope}{pos spos:Pos}{N':List Str}{m i:Nat}{x:Str}{px:Pos}{fi:DA}{g:DG}{ft:DT}{fe:De}{fs:List Dt×Ev->R (Fl×Ev)}(hi:JI X C tg iter fi)(hc:X.calm=true)(hb:zfw X.N N' scope.names m=true)
  (hkind:scope.kind=.function) (hcell:Hce scope) (hfr:Hfr X scope) (hnames:Hnm scope)
  (hblk:Hbk X C N' scope tg ifs elt g ft fe)
  (hN:X.N.Nodup) (hix:X.N[i]? = some x) (hx:Loc X.env.scope x) (hsw:swapsWith (.ListComp elt [⟨tg,iter,ifs,0⟩] scope pos) (some (.Name x px)) spos.line X.env=pure true) (hf:X.fn x=true\/X.env.scope.names.lookup x=some .local)
  (hfs:∀(D:zo2)(G1 H2 G' H':Hp)(w1 w':Wn)(σ:L2.St)(p:Addr)(zs:List Dt)(vs:List V)(ρf:Ev),zbJ C.ex (kS X.K C D G1 H2 w1) (fs (zs,ρf))->zaN G1 H2 w1 G' H' w'->Rel X.K C G' w' ρf σ H'->H2 p=none->H' p=some (.lst vs)->G' p=none->w' p=none->zaw X.K G' zs vs->C.H₀ p=none->D.nx (σ.set i (some (.ref p))) H')
  (hs:∀ x,foldedSetIterable iter X.env x=pure x:=by intro _;rfl):JS X C (.Assign [.Name x px] (.ListComp elt [⟨tg,iter,ifs,0⟩] scope pos) spos) (fun ρ=>(za8 fi g ft fe m ρ).bind fs):=by
 intro pins s σ H D I ⟨G,w,ρ,r,p⟩
 obtain ⟨cl,hclos,hcl,hcf⟩:=zgq (scope:=scope) (env:=X.env) fun y hy hf=>I.ok.has y.1 (hfr y hy hf)
 rw[exec_Assign_Name_used _ _ _ _ hsw]
 refine wpAny_bind (wpAny_standAt (wpAny_bind ?_))
 show wpAny _ X.A (do let _ <- comprehension (.ListComp elt [⟨tg,iter,ifs,0⟩] scope pos) scope X.env _ (newList []) false (eval iter X.env) (some (assign (.Name x px) X.env))) _ _ s
 refine wpAny_bind (wpAny_mono (wpAny_comprehension_free (use:=some (assign (.Name x px) X.env)) (Q:=fun _ s'=>SP X pins D .next s') rfl hs hclos hkind hnames ?_) (fun _ s' hq=>wpAny_pure (wpAny_pure hq)) fun _ _ e=>e)
 refine thn (hi pins s σ H (fun J H2=>∃ ds ρ1 G1 w1 zs ρf,Rel X.K C G1 w1 ρ1 σ H2/\zlJ X.K J G1 ds/\zfQ ds=true/\zbz g ft fe ds (ρ1++List.replicate m none)=.ok (zs,ρf)/\zbJ C.ex (kS X.K C D G1 H2 w1) (fs (zs,ρf.take ρ1.length))) I ?_) fun v s1 h1=>thn h1 fun itv s2 h2=>?_
 ·have p':zbJ C.ex (kS X.K C D G H w) ((fi ρ).bind fun a=>((if zfQ a.1=true then match zbz g ft fe a.1 (a.2++List.replicate m none) with
   |.ok z=>.ok (z.1,z.2.take a.2.length)
   |_=>.no
   else .no:R (List Dt×Ev))).bind fs):=by
   rw[<- R.bind_assoc]
   exact p
  refine zsV (κ:=fun G H w=>kS X.K C D G H w) zcX r p' fun ds ρ1 J G1 H1 w1 r1 st1 it1 p1=>?_
  dsimp only at p1
  split at p1
  ·rename_i hfi
   split at p1
   ·rename_i z ez
    exact ⟨ds,ρ1,G1,w1,z.1,z.2,r1,it1,hfi,ez,p1⟩
   ·exact False.elim p1
  ·exact False.elim p1
 obtain ⟨it,fp,tn,J,H2,rfl,I2,T,st2,f2,ds,ρ1,G1,w1,zs,ρf,r1,it1,hfi,ec,kk⟩:=h2
 refine zhQ (RR:=fun acc C=>compPost (model X.prog X.w) X.A X.xe (some (assign (.Name x px) X.env)) (fun _ s'=>SP X pins D .next s') acc C) hc hb hkind hcell hfr hblk hcl hcf I2 T st2 f2 r1 it1 hfi ec fun Da L s' vs G' H' w' I' lo st rel h0 h1 h2 h3 q=>?_
 show wpAny _ X.A (assign (.Name x px) X.env (.ref Da)) _ _ _
 refine wpAny_assign_Name (zh7 I' hN hix hx (v:=.ref Da) rfl (fun s'' I'' hch=>?_) hf)
 obtain ⟨mm,hn⟩:=lo.ns
 obtain ⟨a,sb,ha⟩:=hch
 have hLa:L≠a:=by
  rcases ha with z|z
  ·rw[z];exact lo.nl
  ·exact fun y=>lo.nc x a z y.symm
 refine ⟨mm,hn.sameBut sb hLa,fun h' hsb=>⟨σ.set i (some (.ref Da)),H',?_,hfs D G1 H2 G' H' w1 w' σ Da zs vs _ kk st rel h0 h1 h2 h3 q (r1.en.k Da h0)⟩⟩
 exact I''.turned (t':=s''.toks) (fun b o hb e=>(hsb.2 b hb).trans e) lo.fr lo.nl lo.nw lo.nc lo.np
theorem zgA{tg iter elt:Expr}{ifs:List Expr}{scope:Scope}{pos spos:Pos}{N':List Str}{m i:Nat}{x:Str}{px:Pos}{fi:DA}{g:DG}{ft:DT}{fe:De}(hN:X.N.Nodup)(hix:X.N[i]? = some x)(hx:Loc X.env.scope x)(hp:i∉C.pp)(hi:JI X C tg iter fi)(hc:X.calm=true)(hb:zfw X.N N' scope.names m=true)
  (hkind:scope.kind=.function) (hcell:Hce scope) (hfr:Hfr X scope) (hnames:Hnm scope)
  (hblk:Hbk X C N' scope tg ifs elt g ft fe)
  (hsw:swapsWith (.ListComp elt [⟨tg,iter,ifs,0⟩] scope pos) (some (.Name x px)) spos.line X.env=pure true:=by rfl) (hf:X.fn x=true\/X.env.scope.names.lookup x=some .local:=by first|exact .inl rfl|exact .inr rfl|assumption)
  (hs:∀ x,foldedSetIterable iter X.env x=pure x:=by intro _;rfl):JS X C (.Assign [.Name x px] (.ListComp elt [⟨tg,iter,ifs,0⟩] scope pos) spos) (zbT i (dFz (za8 fi g ft fe m))):=by
 have h:=zjx (fs:=fun a=>if i<a.2.length then .ok (.nx,a.2.set i (some (.val (.lst a.1)))) else .no) hi hc hb hkind hcell hfr hnames hblk hN hix hx hsw hf (fun D G1 H2 G' H' w1 w' σ p zs vs ρf po st rel h0 h1 h2 h3 q h4=>?_) hs
 ·refine PS.weak h fun D σ H t=>?_
  obtain ⟨G,w,ρ,r,p⟩:=t
  refine ⟨G,w,ρ,r,?_⟩
  unfold zbT dFz at p
  rw[R.bind_assoc] at p
  exact p
 ·by_cases hl:i < ρf.length
  ·simp only[hl,if_true] at po
   obtain ⟨r',s'⟩:=rel.know h1 h2 h3 H2 G1 w1 st h0 (.inl h4)
   have sg:zcf G' (upd G' p (.lst vs)):=fun b u e=>by rw[zad (zaf e h2)];exact e
   exact po _ _ _ _ s' (r'.setVal hl hp (by unfold Rep;exact ⟨p,vs,rfl,zal,q.same sg⟩))
  ·simp only[hl,if_false] at po;exact False.elim po
theorem zdH{tg iter elt:Expr}{ifs:List Expr}{scope:Scope}{pos spos:Pos}{N':List Str}{m i:Nat}{x:Str}{px:Pos}{fi:DA}{g:DG}{ft:DT}{fe:De}(hN:X.N.Nodup)(hix:X.N[i]? = some x)(hx:Loc X.env.scope x)(hp:i∉C.pp)(hi:JI X C tg iter fi)(hc:X.calm=true)(hb:zfw X.N N' scope.names m=true)
  (hkind:scope.kind=.function) (hcell:Hce scope) (hfr:Hfr X scope) (hnames:Hnm scope)
  (hblk:Hbk X C N' scope tg ifs elt g ft fe)
  (hsw:swapsWith (.ListComp elt [⟨tg,iter,ifs,0⟩] scope pos) (some (.Name x px)) spos.line X.env=pure true:=by rfl) (hf:X.fn x=true\/X.env.scope.names.lookup x=some .local:=by first|exact .inl rfl|exact .inr rfl|assumption)
  (hs:∀ x,foldedSetIterable iter X.env x=pure x:=by intro _;rfl):JS X C (.Assign [.Name x px] (.ListComp elt [⟨tg,iter,ifs,0⟩] scope pos) spos) (zcG i (za8 fi g ft fe m)):=by
 refine zjx (fs:=fun a=>if i<a.2.length then .ok (.nx,a.2.set i (some (.own a.1))) else .no) hi hc hb hkind hcell hfr hnames hblk hN hix hx hsw hf (fun D G1 H2 G' H' w1 w' σ p zs vs ρf po st rel h0 h1 h2 h3 q h4=>?_) hs
 by_cases hl:i < ρf.length
 ·simp only[hl,if_true] at po
  obtain ⟨r',s'⟩:=rel.setOwn hl hp h1 h2 h3 q st h0 h4
  exact po _ _ _ _ s' r'
 ·simp only[hl,if_false] at po;exact False.elim po
end
section
variable{X:Cx}{C:Cn}{a b c e:Expr}{fa fb fc:De}{pos:Pos}
theorem zkr{r r':R2}{g g':Dt->Dt->R Dt}{σ:L2.St}{H:Hp}{Q:VK}(h2:Op2 X.K r g)(he:zha g)(h2':Op2 X.K r' g')(he':zha g')(h:tE X.K C (zhw g g' fa fb fc) σ H Q):zoI r r' (tE X.K C fa) (tE X.K C fb) (tE X.K C fc) σ H Q:=by
 obtain ⟨G,w,ρ,rr,p⟩:=h
 refine zch (κ:=fun G H w=>kE X.K C σ Q G H w) zbt rr p fun d ρ1 v G1 H1 w1 r1 s1 q1 p1=>?_
 refine zch (κ:=fun G H w=>kE X.K C σ Q G H w) zbt r1 p1 fun d2 ρ2 v2 G2 H2 w2 r2 s2 q2 p2=>?_
 dsimp only at p2
 cases e:g d d2 with
 |ok z =>
  simp only[e,R.bind_ok] at p2
  refine h2 G2 H2 v v2 d d2 z _ r2.gh (q1.same s2.g) q2 e fun v3 G3 H3 gr q3=>?_
  have p3:=zbJ.step (κ:=fun G H w=>kE X.K C σ Q G H w) zbt gr.step (w1:=w2) p2
  have r3:=r2.grow gr
  cases z with
  |bl k =>
   refine ⟨k,zdw q3,?_⟩
   cases k with
   |false=>exact iteF (p3 _ G3 H3 w2 (.refl _ _ _) r3 (zc7 _))
   |true =>
    refine iteT ?_
    refine zch (κ:=fun G H w=>kE X.K C σ Q G H w) zbt r3 p3 fun d4 ρ4 v4 G4 H4 w4 r4 s4 q4 p4=>?_
    dsimp only at p4
    cases e':g' d2 d4 with
    |ok z' =>
     simp only[e',R.bind_ok] at p4
     exact h2' G4 H4 v2 v4 d2 d4 z' Q r4.gh ((q2.same gr.g).same s4.g) q4 e' fun v5 G5 H5 gr5 q5=>p4 v5 G5 H5 w4 gr5.step (r4.grow gr5) q5
    |er n=>exact absurd e' (he' _ _ _)
    |no=>simp only[e',R.bind_no] at p4;exact p4.elim
  |_=>exact False.elim p3
 |er n=>exact absurd e (he _ _ _)
 |no=>simp only[e,R.bind_no] at p2;exact p2.elim
theorem znj{op op':CmpOp}{r r':R2}{g g':Dt->Dt->R Dt}(ho:OpR X (compareOp op) r)(h2:Op2 X.K r g)(hn:zha g)(ho':OpR X (compareOp op') r')(h2':Op2 X.K r' g')(hn':zha g')(ha:JE X C a fa)(hb:JE X C b fb)(hc:JE X C c fc)
  (hm:lastMarks [op,op'] [b,c]=false:=by with_unfolding_all rfl):JE X C (.Compare a [op,op'] [b,c] pos) (zhw g g' fa fb fc):=PE.weak (zn9 ho ho' ha hb hc hm) fun σ H Q h=>zkr h2 hn h2' hn' h
def kO(K:W.Frag)(C:Cn)(σ:L2.St)(Q:Option Int->Hp->Prop)(G H:Hp)(w:Wn)(a:Option Int×Ev):Prop :=
 ∀ G' H' w',zaN G H w G' H' w'->Rel K C G' w' a.2 σ H'->Q a.1 H'
abbrev DO:=Ev->R (Option Int×Ev)
def tOd(K:W.Frag)(C:Cn)(f:DO):TO:=fun σ H Q=>∃ G w ρ,Rel K C G w ρ σ H/\zbJ C.ex (kO K C σ Q G H w) (f ρ)
abbrev JO(X:Cx)(C:Cn)(e:Option Expr)(f:DO):Prop:=PO X e (tOd X.K C f)
theorem PO.weak{e:Option Expr}{t t':TO}(h:PO X e t)(k:∀ σ H Q,t' σ H Q->t σ H Q):PO X e t':=fun pins s σ H Q I q=>h pins s σ H Q I (k σ H Q q)
def dO1(fa:De):DO:=fun ρ=>(fa ρ).bind fun a=>match a.1 with
 |.int i=>.ok (some i,a.2)
 |_=>.no
theorem zta{K:W.Frag}{σ:L2.St}{Q:Option Int->Hp->Prop}:Stp (fun G H w=>kO K C σ Q G H w):=fun _ _ _ _ _ _ _ s k G' H' w' s'=>k G' H' w' (s.trans s')
theorem zkR(h:JE X C a fa):JO X C (some a) (dO1 fa):=PO.weak (zqy h) fun σ H Q ⟨G,w,ρ,r,p⟩=>by
 refine zch (κ:=fun G H w=>kO X.K C σ Q G H w) zta r p fun d ρ1 v G1 H1 w1 r1 s1 q1 p1=>?_
 cases d with
 |int i=>exact ⟨i,zam q1,p1 G1 H1 w1 (.refl _ _ _) r1⟩
 |_=>exact p1.elim
theorem seqO{K:W.Frag}{σ:L2.St}{α:Type}{κ:zn7 α}(st:Stp κ){G H:Hp}{w:Wn}{ρ:Ev}{fa:DO}{g:Option Int×Ev->R α}{Q:Option Int->Hp->Prop}(r:Rel K C G w ρ σ H)(p:zbJ C.ex (κ G H w) ((fa ρ).bind g))
  (k:∀ o ρ1 G1 H1 w1,Rel K C G1 w1 ρ1 σ H1->zaN G H w G1 H1 w1->zbJ C.ex (κ G1 H1 w1) (g (o,ρ1))->Q o H1):tOd K C fa σ H Q:=by
 refine ⟨G,w,ρ,r,?_⟩
 cases e:fa ρ with
 |ok a =>
  rw[e] at p
  intro G' H' w' s' r'
  exact k a.1 a.2 G' H' w' r' s' (zbJ.step st s' p)
 |er n=>rw[e] at p;exact p
 |no=>rw[e] at p;exact p
def zq1{α:Type}(xs:List α)(lo hi:Option Int):List α:=(xs.drop (HT.sIx xs.length 0 lo)).take (HT.sIx xs.length xs.length hi-HT.sIx xs.length 0 lo)
theorem znH{K:W.Frag}{G:Hp}{ds:List Dt}{vs:List V}(h:zaw K G ds vs)(lo hi:Option Int):zaw K G (zq1 ds lo hi) (zpN vs lo hi):=by
 unfold zq1 zpN
 rw[<- h.length]
 exact (h.drop _).take _
def zqY(fa:De)(fl fh:DO):DN:=fun ρ=>(fa ρ).bind fun a=>(fl a.2).bind fun l=>(fh l.2).bind fun h=>match a.1 with
 |.lst ds=>.ok (zq1 ds l.1 h.1,h.2)
 |_=>.no
theorem zgR{K:W.Frag}{σ:L2.St}{G H:Hp}{w:Wn}{ρ:Ev}{p:Addr}(r:Rel K C G w ρ σ H)(hp:H p=none):w p=none:=by
 cases z:w p with
 |none=>rfl
 |some k=>exact absurd hp (r.wh p (by rw[z];simp))
theorem zrq{lo hi:Option Expr}{fl fh:DO}{p2:Pos}(ha:JE X C a fa)(hl:JO X C lo fl)(hh:JO X C hi fh):JN X C (.Subscript a (.Slice lo hi none p2) pos) (zqY fa fl fh) :=
 PE.weak (zn1 zpP ha hl hh) fun σ H Q ⟨G,w,ρ,r,p⟩=>by
  refine zch (κ:=fun G H w=>kN X.K C σ Q G H w) zgh r p fun d ρ1 v G1 H1 w1 r1 s1 q1 p1=>?_
  refine seqO (κ:=fun G H w=>kN X.K C σ Q G H w) zgh r1 p1 fun l ρ2 G2 H2 w2 r2 s2 p2=>?_
  refine seqO (κ:=fun G H w=>kN X.K C σ Q G H w) zgh r2 p2 fun h ρ3 G3 H3 w3 r3 s3 p3=>?_
  cases d with
  |lst ds =>
   obtain ⟨ad,vs,rfl,h1,h2⟩:=za7 (q1.same (s2.g.trans s3.g))
   refine ⟨ad,vs,rfl,SqL.of (r3.gh _ _ h1),fun p hp=>?_⟩
   have gr:zdE G3 H3 G3 (upd H3 p (.lst (zpN vs l h))):=.newH r3.gh hp
   exact p3 p _ G3 _ w3 gr.step (r3.grow gr) hp zal (r3.gh.free hp) (zgR r3 hp) (znH h2 l h)
  |_=>exact p3.elim
end
structure Dfn(nw:Bool)(P:Program)(w:World)(K:W.Frag)(mg:Str->Option Value)(base:Heap)(CX:CXT)(xv:Nat->Value)(k:Nat)(x:Str)(ks:List Bool)(F:FD):Prop where
 ex:∃(f:Addr)(fd:FuncData)(ps:List Str),zf1 P w K mg base CX k f fd ps (zn5 nw K xv ks F)/\mg x=some (.ref f)/\W.keepIn K (.ref f)=true/\zfB K fd ps []/\∀ bs,F bs≠.no->zbp bs=ks
theorem Dfn.mono{nw:Bool}{P:Program}{w:World}{K:W.Frag}{mg:Str->Option Value}{base:Heap}{CX:CXT}{xv:Nat->Value}{k k':Nat}{x:Str}{ks:List Bool}{F:FD}(D:Dfn nw P w K mg base CX xv k x ks F)(h:k<=k'):Dfn nw P w K mg base CX xv k' x ks F:=by
 obtain ⟨f,fd,ps,h1,h2⟩:=D.ex
 exact ⟨f,fd,ps,h1.mono h,h2⟩
section
variable{X:Cx}{C:Cn}{CX:CXT}{k k':Nat}{ks:List Bool}{Fd:FD}{x:Str}{p pos:Pos}{e:Expr}{es:List Expr}{far:DAr}
theorem zaO(D:Dfn false X.prog X.w X.K X.mg X.base CX C.xv k x ks Fd)(hr:zcg k' X.A)(hk:k<=k')(hx:zbW CX X (EXc C))(ha:JAr X C (e::es) far)(hg:Gl X x:=by rfl)(hdb:(x == ("__debug__" : Str))=false:=by decide)(he:starEach (e::es) X.env=(false,eval e X.env)::starEach es X.env:=by rfl)
  (hpl:(backTo pos (starEach es X.env)).any (·.1)=false:=by rfl):JE X C (.Call (.Name x p) (e::es) [] pos) (zaj Fd far):=by
 obtain ⟨f,fd,ps,h1,h2,h3,h4,h5⟩:=D.ex
 exact zqd h1 (hr.mono hk) hg h2 h3 h4 hx h5 ha hdb he hpl
end
section
variable{X:Cx}{C:Cn}{CX:CXT}{k k':Nat}{ks:List Bool}{Fd:FD}{x:Str}{p pos:Pos}{e:Expr}{es:List Expr}{far:DAr}
theorem zsY(D:Dfn true X.prog X.w X.K X.mg X.base CX C.xv k x ks Fd)(hr:zcg k' X.A)(hk:k<=k')(hx:zbW CX X (EXc C))(ha:JAr X C (e::es) far)(hg:Gl X x:=by rfl)(hdb:(x == ("__debug__" : Str))=false:=by decide)(he:starEach (e::es) X.env=(false,eval e X.env)::starEach es X.env:=by rfl)
  (hpl:(backTo pos (starEach es X.env)).any (·.1)=false:=by rfl):JN X C (.Call (.Name x p) (e::es) [] pos) (zeT Fd far):=by
 obtain ⟨f,fd,ps,h1,h2,h3,h4,h5⟩:=D.ex
 exact zpV h1 (hr.mono hk) hg h2 h3 h4 hx h5 ha hdb he hpl
end
section
variable{X:Cx}{C:Cn}{a b c e:Expr}{fa fb fc:De}{pos:Pos}
def zrH(fa fb:De):DN:=fun ρ=>(fa ρ).bind fun a=>(fb a.2).bind fun b=>match a.1,b.1 with
 |.lst x,.lst y=>if x.length+y.length<=16777216 then .ok (x++y,b.2) else .no
 |_,_=>.no
theorem zr4(ha:JE X C a fa)(hb:JE X C b fb):JN X C (.BinOp a .Add b pos) (zrH fa fb):=PE.weak (zrB zsp ha hb) fun σ H Q ⟨G,w,ρ,r,p⟩=>by
 refine zch (κ:=fun G H w=>kN X.K C σ Q G H w) zgh r p fun d ρ1 v G1 H1 w1 r1 s1 q1 p1=>?_
 refine zch (κ:=fun G H w=>kN X.K C σ Q G H w) zgh r1 p1 fun d2 ρ2 v2 G2 H2 w2 r2 s2 q2 p2=>?_
 dsimp only at p2
 split at p2
 ·rename_i x y
  split at p2
  ·rename_i hl
   obtain ⟨ad,vs,rfl,h1,h2⟩:=za7 (q1.same s2.g)
   obtain ⟨bd,us,rfl,h3,h4⟩:=za7 q2
   refine ⟨ad,bd,vs,us,rfl,rfl,r2.gh _ _ h1,r2.gh _ _ h3,by rw[<- h2.length,<- h4.length,zdF];exact hl,fun p hp=>?_⟩
   have gr:zdE G2 H2 G2 (upd H2 p (.lst (vs++us))):=.newH r2.gh hp
   exact p2 p _ G2 _ w2 gr.step (r2.grow gr) hp zal (r2.gh.free hp) (zgR r2 hp) (h2.append h4)
  ·exact p2.elim
 ·exact p2.elim
def zsP(ta:TA):TE:=fun σ H Q=>ta σ H fun vs H1=>∃ j:Int,vs=[.int j]/\∀ p,H1 p=none->Q (.ref p) (upd H1 p (.rng 0 j))
theorem zrv{p:Pos}{ta:TA}(hg:Gl X "range")(hm:X.mg "range"=none)(ha:PA X [e] ta)(hs:starEach [e] X.env=[(false,eval e X.env)]:=by rfl):PE X (.Call (.Name "range" p) [e] [] pos) (zsP ta):=by
 intro pins s σ H Q I h
 refine PyProof.Rows.Call_ (zei I hg hm PyProof.Rows.boot_range (PyProof.Rows.callWith_type1 (thn (ha pos pins s σ H _ I h) fun us s1 ⟨vs,H1,I1,r1,q1⟩=>?_) hs rfl))
 obtain ⟨j,e1,q⟩:=q1
 subst e1
 obtain ⟨u,rfl,t,rfl⟩:=ze5 r1
 exact call_range_1 ⟨.ref s1.heap.objs.size,_,I1.laid (o:=.rng 0 j) (fun b u e=>Heap.get?_push_of_some _ e) (Nat.le_refl _) ⟨_,_,_,Heap.get?_push_size _ rfl⟩,rfl,q _ (I1.hok.fresh (Nat.le_refl _))⟩
theorem zgv{lo:Int}:∀(n:Nat)(acc:List Value),acc.length=n->(∀(j:Nat) v,acc[j]? = some v->∃ t,v=Value.int (lo+j) t)->zaM ((List.range n).map fun k=>V.int (lo+(k:Nat))) acc
 |0,[],_,_=>.nil
 |0,_::_,h,_=>by simp at h
 |n+1,[],h,_=>by simp at h
 |n+1,v::r,h,hv=>by
  rw[List.range_succ_eq_map,List.map_cons,List.map_map]
  obtain ⟨t,ht⟩:=hv 0 v rfl
  refine .cons ⟨t,by simpa using ht⟩ ?_
  have:=zgv (lo:=lo+1) n r (by simpa using h) fun j v' e=>by
   obtain ⟨t',ht'⟩:=hv (j+1) v' (by simpa using e)
   refine ⟨t',ht'.trans ?_⟩
   congr 1
   omega
  have e:(fun k=>V.int (lo+1+(k:Nat)))=((fun k:Nat=>V.int (lo+(k:Nat))) ∘ Nat.succ):=by
   funext k
   show V.int _=V.int _
   congr 1
   simp only[Nat.succ_eq_add_one]
   omega
  rw[e] at this
  exact this
theorem zgO(hc:X.calm=true):zbP X (.type "list") (fun xs H Q=>∃(p:Addr)(j:Int),xs=[.ref p]/\H p=some (.rng 0 j)/\0<=j/\j<=16777216/\∀ l,H l=none->Q (.ref l) (upd H l (.lst ((List.range j.toNat).map fun k=>V.int (0+(k:Nat)))))):=by
 intro pins s σ H xs us Q I r h
 obtain ⟨p,j,rfl,hp,j0,j1,q⟩:=h
 obtain ⟨u,rfl,ru⟩:=ze5 r
 cases ru
 obtain ⟨t,u,v,e⟩:=(show zbw X.prog X.w H s.heap p (.rng 0 j) from I.hok p _ hp)
 refine call_list_range (n:=j.toNat) (I.ok.hd hc) e (small_one (by omega) (by omega) (by omega) (by omega)) (by rw[rangeSize_one];split <;> omega) (by omega) fun h' tk acc' c' hk hS hacc=>?_
 refine ⟨.ref s.heap.objs.size,_,I.laid (t':=tk) hk (Nat.le_refl _) (o:=.lst ((List.range j.toNat).map fun k=>V.int (0+(k:Nat)))) ⟨?_,acc'.toList,c',?_,by simpa using hS⟩,rfl,q _ (I.hok.fresh (Nat.le_refl _))⟩
 ·rw[List.length_map,List.length_range,zdF];omega
 ·refine zgv j.toNat acc'.toList (by rw[Array.length_toList];exact hacc.1) fun i v' ev=>?_
  obtain ⟨t',ht'⟩:=hacc.2 i v' (by simpa using ev)
  exact ⟨t',by rw[ht',Int.mul_one]⟩
def zka(fa:De):DN:=fun ρ=>(fa ρ).bind fun a=>match a.1 with
 |.int j=>if 0<=j/\j<=16777216 then .ok (zaL 0 j.toNat,a.2) else .no
 |_=>.no
theorem zgn{K:W.Frag}{G:Hp}{lo:Int}:∀(l:List Nat),zaw K G (l.map fun k=>.int (lo+(k:Nat))) (l.map fun k=>V.int (lo+(k:Nat)))
 |[]=>zaw.nil
 |k::r=>zaw.cons (zax _) (zgn r)
theorem zp0{p1 p2 pos2:Pos}(hc:X.calm=true)(hg:Gl X "list")(hm:X.mg "list"=none)(hg2:Gl X "range")(hm2:X.mg "range"=none)(ha:JE X C e fa)(hs:starEach [e] X.env=[(false,eval e X.env)]:=by rfl)
  (hs2:starEach [.Call (.Name "range" p2) [e] [] pos2] X.env=(false,eval (.Call (.Name "range" p2) [e] [] pos2) X.env)::starEach [] X.env:=by rfl) (hpl:(backTo pos (starEach [] X.env)).any (·.1)=false:=by rfl) :
  JN X C (.Call (.Name "list" p1) [.Call (.Name "range" p2) [e] [] pos2] [] pos) (zka fa) :=
 PE.weak (zfF (zgO hc) hg hm PyProof.Rows.boot_list (zbi (zrv hg2 hm2 (zai ha zaz (by rw[hs];rfl)) hs) zdi hs2) (by decide) (by decide) hs2 hpl) fun σ H Q ⟨G,w,ρ,r,p⟩=>by
  unfold zka at p
  refine ⟨G,w,ρ,r,?_⟩
  unfold dA dA0
  cases e:fa ρ with
  |ok x =>
   obtain ⟨d,ρ1⟩:=x
   rw[e] at p
   intro vs G1 H1 w1 s1 r1 q
   obtain ⟨v,t,rfl,q1,q2⟩:=q.cons_inv
   rw[q2.nil_inv]
   have p1:=zbJ.step (κ:=fun G H w=>kN X.K C σ Q G H w) zgh s1 p
   cases d with
   |int j =>
    refine ⟨j,by rw[zam q1],fun p hp=>?_⟩
    have p1:zbJ C.ex (kN X.K C σ Q G1 H1 w1) (if 0<=j/\j<=16777216 then .ok (zaL 0 j.toNat,ρ1) else .no):=p1
    by_cases hj:0<=j/\j<=16777216
    ·rw[if_pos hj] at p1
     refine ⟨p,j,rfl,zal,hj.1,hj.2,fun l hl=>?_⟩
     have gr:zdE G1 H1 G1 (upd H1 p (.rng 0 j)):=.newH r1.gh hp
     have r2:=r1.grow gr
     have gr2:zdE G1 (upd H1 p (.rng 0 j)) G1 (upd (upd H1 p (.rng 0 j)) l (.lst ((List.range j.toNat).map fun k=>V.int (0+(k:Nat))))):=.newH r2.gh hl
     have hl1:H1 l=none:=gr.h.free hl
     exact p1 l _ G1 _ w1 (gr.step.trans gr2.step) (r2.grow gr2) hl1 zal (r1.gh.free hl1) (zgR r1 hl1) (zgn _)
    ·rw[if_neg hj] at p1;exact p1.elim
   |_=>exact False.elim p1
  |er n=>rw[e] at p;exact p
  |no=>rw[e] at p;exact p
end
section
variable{X:Cx}{C:Cn}{a b c e:Expr}{fa fb fc:De}{pos:Pos}
def zpm(a:Int):List Int->List Int
 |[]=>[a]
 |b::r=>if a<=b then a::b::r else b::zpm a r
def zex:List Int->List Int
 |[]=>[]
 |a::r=>zpm a (zex r)
theorem zfL(a:Int):∀ l:List Int,(zpm a l).Perm (a::l)
 |[]=>.refl _
 |b::r=>by
  unfold zpm
  split
  ·exact .refl _
  ·exact ((zfL a r).cons b).trans (.swap a b r)
theorem zcx:∀ l:List Int,(zex l).Perm l
 |[]=>.refl _
 |a::r=>(zfL a _).trans ((zcx r).cons a)
theorem zj8(a:Int):∀ l:List Int,l.Pairwise (· <= ·)->(zpm a l).Pairwise (· <= ·)
 |[],_=>by simp[zpm]
 |b::r,h=>by
  unfold zpm
  rw[List.pairwise_cons] at h
  split
  ·rename_i z
   refine List.pairwise_cons.mpr ⟨fun x hx=>?_,List.pairwise_cons.mpr h⟩
   rcases List.mem_cons.mp hx with rfl|hx
   ·exact z
   ·exact Int.le_trans z (h.1 x hx)
  ·rename_i z
   refine List.pairwise_cons.mpr ⟨fun x hx=>?_,zj8 a r h.2⟩
   rcases List.mem_cons.mp ((zfL a r).mem_iff.mp hx) with rfl|hx
   ·omega
   ·exact h.1 x hx
theorem zeg:∀ l:List Int,(zex l).Pairwise (· <= ·)
 |[]=>.nil
 |a::r=>zj8 a _ (zeg r)
theorem ze4:∀{ns:List Int}{us:List Value},zaM (ns.map V.int) us->PyProof.Rows.IntsAre us ns
 |[],_,.nil=>.nil
 |n::ns,_,.cons ⟨t,h⟩ r=>by subst h;exact .cons n t (ze4 r)
theorem zdo:∀{ns:List Int}{us:List Value},PyProof.Rows.IntsAre us ns->zaM (ns.map V.int) us
 |_,_,.nil=>.nil
 |_,_,.cons n t h=>.cons ⟨t,rfl⟩ (zdo h)
theorem zk1:zbP X (.builtin "sorted") (fun xs H Q=>∃(p:Addr)(ns:List Int),xs=[.ref p]/\SqL X.K H p (ns.map V.int)/\ns.length<64/\∀ l,H l=none->Q (.ref l) (upd H l (.lst ((zex ns).map V.int)))):=by
 intro pins s σ H xs us Q I r h
 obtain ⟨p,ns,rfl,hq,hl,q⟩:=h
 obtain ⟨u,rfl,ru⟩:=ze5 r
 cases ru
 obtain ⟨its,rv,pl,hz⟩:=I.list hq
 have hlen:its.length=ns.length:=by rw[<- rv.length];simp
 refine PyProof.Rows.sorted_ints pl.isList (ze4 rv) (by omega) fun out ns' a1 a2 a3=>?_
 have e:ns'=zex ns:=W.lks_uniq (a2.trans (zcx ns).symm) a3 (zeg ns)
 subst e
 obtain ⟨c,hc⟩:=PyProof.Rows.sortedAll_at s.heap its out
 refine ⟨.ref (s.heap.objs.size+1),_,I.laid (t':=s.toks) (fun b o=>PyProof.Rows.sortedAll_old) (Nat.le_succ _) (o:=.lst ((zex ns).map V.int)) ⟨?_,out.toList,c,zdo a1,?_⟩,rfl,q _ (I.hok.fresh (Nat.le_succ _))⟩
 ·rw[List.length_map,(zcx ns).length_eq,zdF];omega
 ·simpa using hc
def zeO:List Dt->R (List Dt)
 |[.lst l]=>match zgg l with
  |some ns=>if ns.length<64 then .ok ((zex ns).map .int) else .no
  |none=>.no
 |_=>.no
theorem zh6{K:W.Frag}{G:Hp}:∀(ns:List Int),zaw K G (ns.map .int) (ns.map V.int)
 |[]=>zaw.nil
 |n::r=>zaw.cons (zax n) (zh6 r)
theorem zmH{K:W.Frag}:FnN K (fun xs H Q=>∃(p:Addr)(ns:List Int),xs=[.ref p]/\SqL K H p (ns.map V.int)/\ns.length<64/\∀ l,H l=none->Q (.ref l) (upd H l (.lst ((zex ns).map V.int)))) zeO:=fun G H vs ds z Q gh hr e k=>by
 unfold zeO at e
 split at e
 ·split at e
  ·rename_i ns en
   split at e
   ·rename_i hl
    obtain ⟨v,rfl,h1⟩:=zdL hr
    obtain ⟨a,us,rfl,h2,h3⟩:=za7 h1
    cases e
    rw[zgZ h3 en] at h2
    exact ⟨a,ns,rfl,SqL.of (gh _ _ h2),hl,fun l hl=>k l _ hl (zh6 _)⟩
   ·cases e
  ·cases e
 ·cases e
theorem znI:ziu zeO:=fun x n h=>by
 unfold zeO at h
 split at h
 ·split at h
  ·split at h <;> cases h
  ·cases h
 ·cases h
theorem zmK{x:Expr}{p:Pos}(hg:Gl X "sorted")(hm:X.mg "sorted"=none)(ha:JE X C x fa)(hs:starEach [x] X.env=(false,eval x X.env)::starEach [] X.env:=by rfl)(hpl:(backTo pos (starEach [] X.env)).any (·.1)=false:=by rfl) :
  JN X C (.Call (.Name "sorted" p) [x] [] pos) (ziT zeO (dA fa dA0)) :=
 znR zmH znI zk1 hg hm PyProof.Rows.boot_sorted (zai ha zaz hs) (by decide) (by decide) hs hpl
end
section
variable{prog:Program}{w:World}{A:Around}{E:Value->Shared->Prop}{s:Shared}
end
section
variable{X:Cx}{C:Cn}{a:Expr}{fa:De}{pos:Pos}
end
section
variable{prog:Program}{w:World}{A:Around}{E:Value->Shared->Prop}{s:Shared}
theorem bnd:type_of% @wpAny_bind:=@wpAny_bind
theorem zjZ{it t:Addr}{i:Nat}{its:Array Value}{x:Value}{Q:Value->Shared->Prop}(k1:s.heap.IsTupleIter it t i)(k2:s.heap.IsTuple t its)(kx:its[i]? = some x)
  (kQ:∀ h',h'.IsTupleIter it t (i+1)->Heap.SameBut it s.heap h'->Q x { s with heap:=h' }):wpAny (model prog w) A (Builtin.SmallTypes.nextOf (.ref it)) Q E s:=by
 obtain ⟨o,e1,e2,e3⟩:=id k1
 obtain ⟨o',e4,_,n',e5⟩:=k2
 unfold Builtin.SmallTypes.nextOf
 refine bnd (wpAny_callSpecial?_slot (name:=Str.ofString "__next__") k1.typeIs F.slot_tuple_iterator_next (wpAny_call_entry F.slot_tuple_iterator_next k1.typeIs F.entry_tuple_iterator_next ?_ (F.args_tuple_iterator_next_1 _)))
 show wpAny _ _ (field (.ref it) 0 >>= _) _ _ _
 refine bnd (wpAny_field e1 e3 (x:=.ref t) rfl ?_)
 show wpAny _ _ (if (Value.ref t == Value.none)=true then _ else _) _ _ _
 have nn:¬ ((Value.ref t == Value.none)=true):=Bool.false_ne_true
 rw[if_neg nn]
 show wpAny _ _ (field (.ref it) 1 >>= _) _ _ _
 refine bnd (wpAny_field e1 e3 (x:=.int i 0) rfl ?_)
 show wpAny _ _ (seqItems? (.ref t) >>= _) _ _ _
 refine bnd (wpAny_seqItems e4 e5 ?_)
 simp only[Int.toNat_natCast,kx]
 refine bnd (wpAny_setField e1 e3 (by simp) (wpAny_pure ⟨x,rfl,wpAny_pure (kQ _ ⟨_,Heap.get?_update_self _ e1 (Obj.isFreed_of_fields (Obj.data_mapFields e3 _)),(Obj.cls_mapFields ..).trans e2,?_⟩ (Heap.SameBut.update ..))⟩))
 rw[Obj.data_mapFields e3];simp[rawInt]
theorem zp6{it t:Addr}{i:Nat}{its:Array Value}{Q:Value->Shared->Prop}(hh:A.handled=none)(k1:s.heap.IsTupleIter it t i)(k2:s.heap.IsTuple t its)(kx:its[i]? = none)
  (kE:∀ h' e,Heap.ExtBut it s.heap h'->(∃ o,h'.get? e=some o/\o.cls=.type "StopIteration")->E (.ref e) { s with heap:=h' }):wpAny (model prog w) A (Builtin.SmallTypes.nextOf (.ref it)) Q E s:=by
 obtain ⟨o,e1,e2,e3⟩:=id k1
 obtain ⟨o',e4,_,n',e5⟩:=k2
 unfold Builtin.SmallTypes.nextOf
 refine bnd (wpAny_callSpecial?_slot (name:=Str.ofString "__next__") k1.typeIs F.slot_tuple_iterator_next (wpAny_call_entry F.slot_tuple_iterator_next k1.typeIs F.entry_tuple_iterator_next ?_ (F.args_tuple_iterator_next_1 _)))
 show wpAny _ _ (field (.ref it) 0 >>= _) _ _ _
 refine bnd (wpAny_field e1 e3 (x:=.ref t) rfl ?_)
 show wpAny _ _ (if (Value.ref t == Value.none)=true then _ else _) _ _ _
 have nn:¬ ((Value.ref t == Value.none)=true):=Bool.false_ne_true
 rw[if_neg nn]
 show wpAny _ _ (field (.ref it) 1 >>= _) _ _ _
 refine bnd (wpAny_field e1 e3 (x:=.int i 0) rfl ?_)
 show wpAny _ _ (seqItems? (.ref t) >>= _) _ _ _
 refine bnd (wpAny_seqItems e4 e5 ?_)
 simp only[Int.toNat_natCast,kx]
 refine bnd (wpAny_rule (wpAny_bind (wpAny_setField e1 e3 (by simp) ?_)))
 show wpAny _ _ (newExc (.type "StopIteration") [] >>= _) _ _ _
 refine bnd ?_
 simp only[newExc,newTuple]
 refine bnd (wpAny_newObj_type ?_ (by size_fits))
 refine (wpAny_bind (m:=firstArgMember _ _)) (wpAny_of_eq (a:=Value.none) (by first|rfl|(simp only[firstArgMember];rfl)) ?_)
 refine wpAny_newObj_type ?_ (by size_fits);simp only[raiseNew]
 refine bnd (wpAny_handled ?_)
 first|rw[show A.in1.handled=none from hh]|rw[hh]
 refine bnd (wpAny_pure (wpAny_throw ?_))
 exact kE _ _ (((Heap.SameBut.update ..).extBut.push _).push _) ⟨_,Heap.get?_push_size _ rfl,rfl⟩
structure Zp(h:Heap)(z TI TO i1 i2 l1 l2:Addr)(f0:Value)(k:Nat):Prop where
 z:IsZip h z TI TO f0
 ti:IsPair h TI (.ref i1) (.ref i2)
 to:∃ a b,IsPair h TO a b
 a1:h.IsTupleIter i1 l1 k
 a2:h.IsTupleIter i2 l2 k
structure ZpD(z TI TO i1 i2:Addr):Prop where
 d1:TI≠z
 d2:TO≠z
 d3:i1≠z
 d4:i2≠z
 d5:TI≠TO
 d6:TI≠i1
 d7:TI≠i2
 d8:TO≠i1
 d9:TO≠i2
 d0:i1≠i2
theorem Zp.keep{h h':Heap}{z TI TO i1 i2 l1 l2:Addr}{f0:Value}{k:Nat}(p:Zp h z TI TO i1 i2 l1 l2 f0 k)(e:∀ b∈[z,TI,TO,i1,i2],∀ o,h.get? b=some o->h'.get? b=some o):Zp h' z TI TO i1 i2 l1 l2 f0 k :=
 ⟨e z (by simp) _ p.z,e TI (by simp) _ p.ti,let ⟨a,b,q⟩:=p.to;⟨a,b,e TO (by simp) _ q⟩,p.a1.at fun o q=>e i1 (by simp) o q,p.a2.at fun o q=>e i2 (by simp) o q⟩
variable{z TI TO i1 i2 l1 l2:Addr}{k:Nat}{xs ys:Array Value}
theorem ziV{x y:Value}{Q:Value->Shared->Prop}(D:ZpD z TI TO i1 i2)(p:Zp s.heap z TI TO i1 i2 l1 l2 .none k)(q1:s.heap.IsTuple l1 xs)(q2:s.heap.IsTuple l2 ys)(n1:∀ b∈[z,TI,TO,i1,i2],b≠l1)(n2:∀ b∈[z,TI,TO,i1,i2],b≠l2)
  (hx:xs[k]? = some x) (hy:ys[k]? = some y)
  (hQ:∀ h',Zp h' z TI TO i1 i2 l1 l2 (rawInt s.heap.objs.size) (k+1)->h'.get? s.heap.objs.size=some { cls:=.type "tuple",data:=.seq #[x,y] }->(∀ c o,c≠z->c≠TO->c≠i1->c≠i2->s.heap.get? c=some o->h'.get? c=some o)->Q (.ref s.heap.objs.size) { s with heap:=h' }) :
  wpAny (model prog w) A (Builtin.«zip.__next__» ⟨[.ref z],[]⟩) (fun fin s'=>∃ v,fin=.done (.ret v)/\Q v s') E s:=by
 obtain ⟨pz,pti,⟨oa,ob,pto⟩,pa1,pa2⟩:=p
 show wpAny _ _ (field (.ref z) 2 >>= _) _ _ _
 refine bnd (wpAny_field pz rfl (x:=.bool false) rfl ?_)
 show wpAny _ _ (field (.ref z) 3 >>= _) _ _ _
 refine bnd (wpAny_field pz rfl (x:=.ref TI) rfl ?_)
 refine bnd (wpAny_seqItems pti rfl ?_)
 show wpAny _ _ (Builtin.SmallTypes.ownedTupleIsFree (.ref z) >>= _) _ _ _
 refine bnd ?_
 unfold Builtin.SmallTypes.ownedTupleIsFree
 refine bnd (wpAny_field pz rfl (x:=.none) rfl (wpAny_pure ?_))
 simp only[if_true]
 refine bnd (wpAny_rule ?_)
 refine bnd (wpAny_field pz rfl (x:=.ref TO) rfl ?_)
 refine bnd (wpAny_setField_rec pz (by simp) fun g1 pz1 sb1=>?_)
 have pz1:IsZip g1 z TI TO .ellipsis:=pz1
 refine bnd ?_
 simp only[List.zipIdx_cons,List.zipIdx_nil,List.forIn_cons,List.forIn_nil]
 refine bnd (wpAny_bind (wpAny_onRaise ?_))
 show wpAny _ _ (Builtin.SmallTypes.nextOf (.ref i1) >>= _) _ _ _
 refine bnd (zjZ (pa1.extBut sb1.extBut D.d3) (q1.extBut sb1.extBut (Ne.symm (n1 z (by simp)))) hx fun g2 pa1' sb2=>wpAny_pure ?_)
 have t2:IsPair g2 TO oa ob:=sb2.extBut _ _ D.d8 (sb1.extBut _ _ D.d2 pto)
 refine bnd (wpAny_seqItems t2 rfl ?_)
 refine bnd (wpAny_updateSeq_pair t2 fun g3 t3 sb3=>?_)
 have t3:IsPair g3 TO x ob:=t3
 refine bnd (wpAny_letGo (wpAny_pure ?_))
 refine bnd (wpAny_bind (wpAny_onRaise ?_))
 show wpAny _ _ (Builtin.SmallTypes.nextOf (.ref i2) >>= _) _ _ _
 refine bnd (zjZ (((pa2.extBut sb1.extBut D.d4).extBut sb2.extBut D.d0.symm).extBut sb3.extBut D.d9.symm)
  (((q2.extBut sb1.extBut (Ne.symm (n2 z (by simp)))).extBut sb2.extBut (Ne.symm (n2 i1 (by simp)))).extBut sb3.extBut (Ne.symm (n2 TO (by simp)))) hy fun g4 pa2' sb4=>wpAny_pure ?_)
 have t4:IsPair g4 TO x ob:=sb4.extBut _ _ D.d9 t3
 refine bnd (wpAny_seqItems t4 rfl ?_)
 refine bnd (wpAny_updateSeq_pair t4 fun g5 t5 sb5=>?_)
 have t5:IsPair g5 TO x y:=t5
 refine bnd (wpAny_letGo (wpAny_pure (wpAny_pure ?_)))
 refine bnd (wpAny_seqItems t5 rfl ?_)
 refine bnd (wpAny_newTuple ?_)
 have sz:g5.objs.size=s.heap.objs.size:=by rw[sb5.1,sb4.1,sb3.1,sb2.1,sb1.1]
 have z5:IsZip g5 z TI TO .ellipsis:=sb5.extBut _ _ D.d2.symm (sb4.extBut _ _ D.d4.symm (sb3.extBut _ _ D.d2.symm (sb2.extBut _ _ D.d3.symm pz1)))
 have k5:∀ c o,c≠z->c≠TO->c≠i1->c≠i2->s.heap.get? c=some o->g5.get? c=some o:=fun c o c1 c2 c3 c4 e =>
  sb5.extBut _ _ c2 (sb4.extBut _ _ c4 (sb3.extBut _ _ c2 (sb2.extBut _ _ c3 (sb1.extBut _ _ c1 e))))
 have p1:g5.IsTupleIter i1 l1 (k+1):=((pa1'.extBut sb3.extBut D.d8.symm).extBut sb4.extBut D.d0).extBut sb5.extBut D.d8.symm
 have p2:g5.IsTupleIter i2 l2 (k+1):=pa2'.extBut sb5.extBut D.d9.symm
 have ltz:z<g5.objs.size:=Heap.lt_size z5
 show wpAny _ _ (Builtin.SmallTypes.ownedTupleHandOut (.ref z) (.ref g5.objs.size) >>= _) _ _ _
 refine bnd ?_
 unfold Builtin.SmallTypes.ownedTupleHandOut
 have z6:IsZip (g5.push { cls:=.type "tuple",data:=.seq #[x,y] }) z TI TO .ellipsis:=Heap.get?_push_of_some _ z5
 refine bnd (wpAny_setField_rec z6 (by simp) fun g7 z7 sb7=>?_)
 have z7:IsZip g7 z TI TO (rawInt g5.objs.size):=z7
 refine wpAny_setField_rec z7 (by simp) fun g8 z8 sb8=>?_
 have z8:IsZip g8 z TI TO (rawInt g5.objs.size):=z8
 have up:∀ c o,c≠z->g5.get? c=some o->g8.get? c=some o:=fun c o c1 e=>sb8.extBut _ _ c1 (sb7.extBut _ _ c1 (Heap.get?_push_of_some _ e))
 have t8:g8.get? g5.objs.size=some { cls:=.type "tuple",data:=.seq #[x,y] }:=sb8.extBut _ _ (Nat.ne_of_gt ltz) (sb7.extBut _ _ (Nat.ne_of_gt ltz) (Heap.get?_push_size _ rfl))
 rw[sz] at z8 t8
 refine wpAny_pure ⟨_,rfl,?_⟩
 show Q (.ref g5.objs.size) _
 rw[sz]
 exact hQ g8 ⟨z8,up _ _ D.d1 (k5 _ _ D.d1 D.d5 D.d6 D.d7 pti),⟨x,y,up _ _ D.d2 t5⟩,p1.at fun o e=>up _ o D.d3 e,p2.at fun o e=>up _ o D.d4 e⟩ t8 fun c o c1 c2 c3 c4 e=>up c o c1 (k5 c o c1 c2 c3 c4 e)
theorem zki{Q:PySem.Fin->Shared->Prop}(hh:A.handled=none)(D:ZpD z TI TO i1 i2)(p:Zp s.heap z TI TO i1 i2 l1 l2 .none k)(q1:s.heap.IsTuple l1 xs)(n1:∀ b∈[z,TI,TO,i1,i2],b≠l1)
  (hx:xs[k]? = none)
  (hE:∀ h' e,(∀ c o,c≠z->c≠TO->c≠i1->c≠i2->s.heap.get? c=some o->h'.get? c=some o)->(∃ o,h'.get? e=some o/\o.cls=.type "StopIteration")->E (.ref e) { s with heap:=h' }) :
  wpAny (model prog w) A (Builtin.«zip.__next__» ⟨[.ref z],[]⟩) Q E s:=by
 obtain ⟨pz,pti,⟨oa,ob,pto⟩,pa1,pa2⟩:=p
 show wpAny _ _ (field (.ref z) 2 >>= _) _ _ _
 refine bnd (wpAny_field pz rfl (x:=.bool false) rfl ?_)
 show wpAny _ _ (field (.ref z) 3 >>= _) _ _ _
 refine bnd (wpAny_field pz rfl (x:=.ref TI) rfl ?_)
 refine bnd (wpAny_seqItems pti rfl ?_)
 show wpAny _ _ (Builtin.SmallTypes.ownedTupleIsFree (.ref z) >>= _) _ _ _
 refine bnd ?_
 unfold Builtin.SmallTypes.ownedTupleIsFree
 refine bnd (wpAny_field pz rfl (x:=.none) rfl (wpAny_pure ?_))
 simp only[if_true]
 refine bnd (wpAny_rule ?_)
 refine bnd (wpAny_field pz rfl (x:=.ref TO) rfl ?_)
 refine bnd (wpAny_setField_rec pz (by simp) fun g1 pz1 sb1=>?_)
 have pz1:IsZip g1 z TI TO .ellipsis:=pz1
 refine bnd ?_
 simp only[List.zipIdx_cons,List.zipIdx_nil,List.forIn_cons,List.forIn_nil]
 refine bnd (wpAny_bind (wpAny_onRaise ?_))
 show wpAny _ _ (Builtin.SmallTypes.nextOf (.ref i1) >>= _) _ _ _
 refine bnd (zp6 hh (pa1.extBut sb1.extBut D.d3) (q1.extBut sb1.extBut (Ne.symm (n1 z (by simp)))) hx fun g2 e sb2 he=>?_)
 obtain ⟨oe,e1,e2⟩:=he
 have z2:IsZip g2 z TI TO .ellipsis:=sb2 _ _ D.d3.symm pz1
 have ez:e≠z:=fun q=>by subst q;rw[z2] at e1;cases e1;simp at e2
 exact wpAny_setField_rec z2 (by simp) fun g3 _ sb3=>hE g3 e (fun c o c1 _ c3 _ q=>sb3.extBut _ _ c1 (sb2 _ _ c3 (sb1.extBut _ _ c1 q))) ⟨oe,sb3.extBut _ _ ez e1,e2⟩
end
section
variable{X:Cx}{pins:List (Addr×Obj)}{σ:L2.St}{H:Hp}{s:Shared}
theorem zpw{a b:Addr}{xs:List V}(I:L2.Inv X pins σ H s)(hf:zdt X pins H b)(hs:SqT X.K H a xs):b≠a:=by
 rintro rfl
 rcases hs with (h|⟨o,h⟩)|⟨o,its,n,h,_⟩
 ·rw[hf.1] at h;cases h
 ·rw[hf.1] at h;cases h
 ·have hb:=I.mod.kin b o h
  rcases hf.2.2.2.1 with z|z
  ·exact I.ok.noex b o hb z
  ·exact absurd (Nat.lt_of_lt_of_le (Heap.lt_size hb) (Nat.le_trans I.ok.bsz z)) (Nat.lt_irrefl _)
theorem zdO{fp:List Addr}{h':Heap}{o:HO}{a:Addr}{t':Nat}(I:L2.Inv X pins σ H s)(hf:∀ b∈fp,zdt X pins H b)(k:∀ b ob,b∉fp->s.heap.get? b=some ob->h'.get? b=some ob)(hp:s.heap.objs.size<=a)(ht:∀ b ob,s.heap.get? b=some ob->∃ ob',h'.get? b=some ob')
  (new:zbw X.prog X.w (upd H a o) h' a o):L2.Inv X pins σ (upd H a o) { s with heap:=h',toks:=t' }:=by
 have hn:=I.hok.fresh hp
 have nf:∀ b u,H b=some u->b∉fp:=fun b u e z=>by rw[(hf b z).1] at e;cases e
 refine I.call (g':=s.gens) (d':=s.drawn) (ch:=fp) ⟨fun b u q _ _ hx=>k b u hx q,fun b u q _ _ hx=>⟨u.slots,k b u hx q⟩,fun b u q n _=>?_,fun b u q hx=>⟨u,k b u hx q⟩,fun b xs q=>?_,fun b u xs q=>?_,fun b ps q=>⟨#[],?_⟩⟩ (fun b u e=>?_) I.bare
  fun b hb=>⟨(hf b hb).2.2.2.1,(hf b hb).2.1,(hf b hb).2.2.2.2.1,(hf b hb).2.2.2.2.2⟩
 ·rw[zad (Nat.ne_of_lt (Nat.lt_of_lt_of_le (Heap.lt_size q) hp))];exact n
 ·rw[zad (zaf q hn)];exact q
 ·rw[zad (zaf q hn)];exact q
 ·rw[zad (zaf q hn),q];simp
 ·by_cases hb:b=a
  ·subst hb;rw[zal] at e;cases e;exact new
  ·rw[zad hb] at e
   refine (I.hok b u e).stay (fun c v hc q=>k c v ?_ q) (fun c q=>by rw[zad (zaf q hn)];exact q) fun c xs q=>by rw[zad (zaf q hn)];exact q
   rcases hc with z|z
   ·rw[z];exact nf b u e
   ·exact nf c _ z
theorem zaY{fp:List Addr}{h':Heap}{t':Nat}(I:L2.Inv X pins σ H s)(hf:∀ b∈fp,zdt X pins H b)(k:∀ b ob,b∉fp->s.heap.get? b=some ob->h'.get? b=some ob):L2.Inv X pins σ H { s with heap:=h',toks:=t' }:=by
 have nf:∀ b u,H b=some u->b∉fp:=fun b u e z=>by rw[(hf b z).1] at e;cases e
 refine I.call (g':=s.gens) (d':=s.drawn) (ch:=fp) ⟨fun b u q _ _ hx=>k b u hx q,fun b u q _ _ hx=>⟨u.slots,k b u hx q⟩,fun b u q n _=>n,fun b u q hx=>⟨u,k b u hx q⟩,fun b xs q=>q,fun b u xs q=>q,fun b ps q=>⟨#[],by rw[q];simp⟩⟩ (fun b u e=>?_) I.bare
  fun b hb=>⟨(hf b hb).2.2.2.1,(hf b hb).2.1,(hf b hb).2.2.2.2.1,(hf b hb).2.2.2.2.2⟩
 refine (I.hok b u e).stay (fun c v hc q=>k c v ?_ q) (fun _ q=>q) fun _ _ q=>q
 rcases hc with z|z
 ·rw[z];exact nf b u e
 ·exact nf c _ z
end
def Itz(K:W.Frag)(a b:Addr):It :=
 ⟨fun i H=>∃ xs ys x y,SqT K H a xs/\SqT K H b ys/\xs[i]? = some x/\ys[i]? = some y,
   fun i H v H'=>∃ p x y,v=.ref p/\H p=none/\H'=upd H p (.tup [x,y])/\(∀ xs,SqT K H a xs->xs[i]? = some x)/\∀ ys,SqT K H b ys->ys[i]? = some y,
   fun i H=>∃ xs,SqT K H a xs/\xs.length<=i⟩
theorem zmO{P:Program}{w:World}{K:W.Frag}{elts:List Expr}{x1}{ps:Pos}{a b z TI TO i1 i2:Addr}(D:ZpD z TI TO i1 i2):zmA P w K (.Tuple elts x1 ps) (Itz K a b) [z,TI,TO,i1,i2] z (fun i h=>Zp h z TI TO i1 i2 a b .none i) where
 mem:=by simp
 obj:=fun i h st c hc=>by
  obtain ⟨s1,s2,⟨oa,ob,s3⟩,⟨o4,s4,_,d4⟩,⟨o5,s5,_,d5⟩⟩:=st
  simp only[List.mem_cons,List.not_mem_nil,or_false] at hc
  rcases hc with rfl|rfl|rfl|rfl|rfl
  ·exact ⟨_,s1,fun v q=>by cases q⟩
  ·exact ⟨_,s2,fun v q=>by cases q⟩
  ·exact ⟨_,s3,fun v q=>by cases q⟩
  ·exact ⟨_,s4,fun v q=>by rw[d4] at q;cases q⟩
  ·exact ⟨_,s5,fun v q=>by rw[d5] at q;cases q⟩
 keep:=fun i h h' st k=>st.keep k
 item:=by
  intro X hP hw hK hc i pins s σ H E I hf st hg
  subst hP hw hK
  obtain ⟨xs,ys,x,y,q1,q2,hx,hy⟩:=hg
  obtain ⟨its,rv,p,hz⟩:=I.tuple q1
  obtain ⟨jts,rw',p',hz'⟩:=I.tuple q2
  obtain ⟨u,hu,ru⟩:=rv.get hx
  obtain ⟨v,hv,rv'⟩:=rw'.get hy
  have hT:s.TypeIs (.ref z) "zip":=⟨_,st.z,rfl⟩
  unfold pyNext
  refine wpAny_bind (wpAny_attempt (wpAny_callSpecial?_slot (name:=Str.ofString "__next__") hT F.slot_zip_next (wpAny_call_entry F.slot_zip_next hT F.entry_zip_next
   (ziV (l1:=a) (l2:=b) (k:=i) (x:=u) (y:=v) D st (show s.heap.IsTuple a its.toArray from p) (show s.heap.IsTuple b jts.toArray from p') (fun c hc=>zpw I (hf c hc) q1) (fun c hc=>zpw I (hf c hc) q2) (by simpa using hu) (by simpa using hv) fun h' st' ht hk=>wpAny_pure ?_) (F.args_zip_next_1 _))))
  refine ⟨_,rfl,wpAny_letOwnedTupleGo_zip st'.z fun h2 hz2 sb=>?_⟩
  have hzp:∀ c∈[z,TI,TO,i1,i2],c≠s.heap.objs.size:=fun c hc q=>by
   obtain ⟨s1,s2,⟨oa,ob,s3⟩,⟨o4,s4,_⟩,⟨o5,s5,_⟩⟩:=st
   simp only[List.mem_cons,List.not_mem_nil,or_false] at hc
   subst q
   rcases hc with rfl|rfl|rfl|rfl|rfl
   ·exact absurd (Heap.lt_size s1) (Nat.lt_irrefl _)
   ·exact absurd (Heap.lt_size s2) (Nat.lt_irrefl _)
   ·exact absurd (Heap.lt_size s3) (Nat.lt_irrefl _)
   ·exact absurd (Heap.lt_size s4) (Nat.lt_irrefl _)
   ·exact absurd (Heap.lt_size s5) (Nat.lt_irrefl _)
  have st2:Zp h2 z TI TO i1 i2 a b .none (i+1):=by
   refine ⟨hz2,sb.extBut _ _ D.d1 st'.ti,?_,st'.a1.extBut sb.extBut D.d3,st'.a2.extBut sb.extBut D.d4⟩
   obtain ⟨oa,ob,q⟩:=st'.to
   exact ⟨oa,ob,sb.extBut _ _ D.d2 q⟩
  have hk2:∀ c ob,c∉[z,TI,TO,i1,i2]->s.heap.get? c=some ob->h2.get? c=some ob:=fun c ob nc e=>by
   simp only[List.mem_cons,List.not_mem_nil,or_false,not_or] at nc
   exact sb.extBut _ _ nc.1 (hk c ob nc.1 nc.2.2.1 nc.2.2.2.1 nc.2.2.2.2 e)
  have hth:∀ c ob,s.heap.get? c=some ob->∃ ob',h2.get? c=some ob':=fun c ob e=>by
   by_cases nc:c∈[z,TI,TO,i1,i2]
   ·obtain ⟨s1,s2,⟨oa,ob,s3⟩,⟨o4,s4,_⟩,⟨o5,s5,_⟩⟩:=st2
    simp only[List.mem_cons,List.not_mem_nil,or_false] at nc
    rcases nc with rfl|rfl|rfl|rfl|rfl
    ·exact ⟨_,s1⟩
    ·exact ⟨_,s2⟩
    ·exact ⟨_,s3⟩
    ·exact ⟨_,s4⟩
    ·exact ⟨_,s5⟩
   ·exact ⟨ob,hk2 c ob nc e⟩
  have hnew:h2.get? s.heap.objs.size=some { cls:=.type "tuple",data:=.seq #[u,v] }:=sb.extBut _ _ (Ne.symm (hzp z (by simp))) ht
  have IN:L2.Inv X pins σ (upd H s.heap.objs.size (.tup [x,y])) { s with heap:=h2 }:=zdO (s:=s) (t':=s.toks) (o:=.tup [x,y]) I hf hk2 (Nat.le_refl _) hth ⟨by show 2<=sizeLine;decide,[u,v],.cons ru (.cons rv' .nil),0,hnew⟩
  exact ⟨.ref s.heap.objs.size,_,IN,rfl,
   ⟨_,x,y,rfl,I.hok.fresh (Nat.le_refl _),rfl,fun zs q=>by rw[I.tuple_inj q q1];exact hx,fun zs q=>by rw[I.tuple_inj q q2];exact hy⟩,st2,fun c hc=>by rw[zad (hzp c hc)];exact (hf c hc).1⟩
 done:=by
  intro X hP hw hK hc i pins s σ H E I hf st hg
  subst hP hw hK
  obtain ⟨xs,q1,hx⟩:=hg
  obtain ⟨its,rv,p,hz⟩:=I.tuple q1
  have hl:=rv.length
  have hT:s.TypeIs (.ref z) "zip":=⟨_,st.z,rfl⟩
  unfold pyNext
  refine wpAny_bind (wpAny_attempt (wpAny_callSpecial?_slot (name:=Str.ofString "__next__") hT F.slot_zip_next (wpAny_call_entry F.slot_zip_next hT F.entry_zip_next
   (zki (l1:=a) (l2:=b) (k:=i) (xs:=its.toArray) (I.ok.hd hc) D st (show s.heap.IsTuple a its.toArray from p) (fun c hc=>zpw I (hf c hc) q1) (by simp;omega) fun h' e hk he=>?_) (F.args_zip_next_1 _))))
  obtain ⟨o,ho,hcl⟩:=he
  refine wpAny_bind (wpAny_isInstance (T:="StopIteration") (b:=true) ⟨o,ho,hcl⟩ isSubtype_stop (wpAny_pure ⟨rfl,?_⟩))
  refine zaY (t':=s.toks) I hf fun c ob nc e=>?_
  simp only[List.mem_cons,List.not_mem_nil,or_false,not_or] at nc
  exact hk c ob nc.1 nc.2.2.1 nc.2.2.2.1 nc.2.2.2.2 e
 self:=fun _ _ _ _ _ st h=>wpAny_pyIter_zip st.z h
section
variable{prog:Program}{w:World}{A:Around}{E:Value->Shared->Prop}{s:Shared}
abbrev zt1(h:Heap)(a:Addr):Heap:=h.push { cls:=.type "tuple_iterator",data:=.fields #[.ref a,.int 0 0] }
abbrev zt2(h:Heap)(a b:Addr):Heap:=(zt1 h a).push { cls:=.type "tuple_iterator",data:=.fields #[.ref b,.int 0 0] }
abbrev zt3(h:Heap)(a b:Addr):Heap:=(zt2 h a b).push { cls:=.type "tuple",data:=.seq #[.ref h.objs.size,.ref (zt1 h a).objs.size] }
abbrev zt4(h:Heap)(a b:Addr):Heap:=(zt3 h a b).push { cls:=.type "tuple",data:=.seq #[.none,.none] }
abbrev zt5(h:Heap)(a b:Addr):Heap:=(zt4 h a b).push { cls:=.type "zip",data:=.fields #[.none,.bool false,.bool false,.ref (zt2 h a b).objs.size,.ref (zt3 h a b).objs.size] }
theorem zrM(a b:Addr)(xs ys:Array Value):Meets (Builtin.«zip.__new__» ⟨[.type "zip",.ref a,.ref b],[]⟩) (fun _ R s=>s.heap.IsTuple a xs/\s.heap.IsTuple b ys/\R (.ok (.ret (.ref (zt4 s.heap a b).objs.size))) { s with heap:=zt5 s.heap a b }) :=
 .of_wp fun prog w A R s h=>by
  obtain ⟨hp,g,d,tk,os⟩:=s
  obtain ⟨k1,k2,h⟩:=h
  have hsub:=sub_zip
  have t1:Heap.IsTuple (Shared.heap ⟨hp,g,d,tk,os⟩) a xs:=k1
  have t2:Heap.IsTuple (Shared.heap ⟨hp.push { cls:=.type "tuple_iterator",data:=.fields #[.ref a,.int 0 0] },g,d,tk,os⟩) b ys:=Heap.IsTuple.push k2 _
  wp_walk using wpAny_pyIter_tuple t1,wpAny_pyIter_tuple t2
  exact ⟨_,rfl,h⟩
theorem zpd{a b:Addr}{xs ys:Array Value}{Q:Value->Shared->Prop}(k1:s.heap.IsTuple a xs)(k2:s.heap.IsTuple b ys)
  (h:∀ h',Zp h' (s.heap.objs.size+4) (s.heap.objs.size+2) (s.heap.objs.size+3) s.heap.objs.size (s.heap.objs.size+1) a b .none 0->(∀ c o,s.heap.get? c=some o->h'.get? c=some o)->Q (.ref (s.heap.objs.size+4)) { s with heap:=h' }) :
  wpAny (model prog w) A (call (.type "zip") [.ref a,.ref b]) Q E s:=by
 refine callType_new F.called_zip (by decide) (F.typeCall_zip_2 _ _) (F.newCall_zip_2 _ _) (fun obj=>F.args_object_init_3 obj _ _) F.entry_zip_new (zrM a b xs ys) ⟨k1,k2,?_⟩
 have e1:(zt1 s.heap a).objs.size=s.heap.objs.size+1:=Heap.size_push ..
 have e2:(zt2 s.heap a b).objs.size=s.heap.objs.size+2:=by rw[Heap.size_push,e1]
 have e3:(zt3 s.heap a b).objs.size=s.heap.objs.size+3:=by rw[Heap.size_push,e2]
 have e4:(zt4 s.heap a b).objs.size=s.heap.objs.size+4:=by rw[Heap.size_push,e3]
 have g5:(zt5 s.heap a b).get? (zt4 s.heap a b).objs.size=some _:=Heap.get?_push_size _ rfl
 have g4:(zt5 s.heap a b).get? (zt3 s.heap a b).objs.size=some _:=Heap.get?_push_of_some _ (Heap.get?_push_size _ rfl)
 have g3:(zt5 s.heap a b).get? (zt2 s.heap a b).objs.size=some _:=Heap.get?_push_of_some _ (Heap.get?_push_of_some _ (Heap.get?_push_size _ rfl))
 have g2:(zt5 s.heap a b).get? (zt1 s.heap a).objs.size=some _:=Heap.get?_push_of_some _ (Heap.get?_push_of_some _ (Heap.get?_push_of_some _ (Heap.get?_push_size _ rfl)))
 have g1:(zt5 s.heap a b).get? s.heap.objs.size=some _:=Heap.get?_push_of_some _ (Heap.get?_push_of_some _ (Heap.get?_push_of_some _ (Heap.get?_push_of_some _ (Heap.get?_push_size _ rfl))))
 show _/\_
 rw[e2,e3,e4] at g5
 rw[e1,e2] at g3
 rw[e3] at g4
 rw[e1] at g2
 rw[e4]
 exact ⟨⟨_,g5,rfl⟩,h _ ⟨g5,g3,⟨_,_,g4⟩,⟨_,g1,rfl,rfl⟩,⟨_,g2,rfl,rfl⟩⟩ fun c o q=>Heap.get?_push_of_some _ (Heap.get?_push_of_some _ (Heap.get?_push_of_some _ (Heap.get?_push_of_some _ (Heap.get?_push_of_some _ q))))⟩
end
theorem zrz(n:Nat):ZpD (n+4) (n+2) (n+3) n (n+1):=by
 constructor <;> (intro h;have h:(_:Nat)=(_:Nat):=h;omega)
theorem zr2{K:W.Frag}{G:Hp}{a b:Addr}{vs us:List V}{ds es:List Dt}(hs:SqT K G a vs)(ht:SqT K G b us)(q:zaw K G ds vs)(q':zaw K G es us)(hl:ds.length=es.length):zlJ K (Itz K a b) G ((ds.zip es).map fun z=>.tup [z.1,z.2]):=fun i G1 H s1 s2=>by
 have h1:=za5 s2 (za5 s1 hs)
 have h2:=za5 s2 (za5 s1 ht)
 refine ⟨fun d e=>?_,fun h=>⟨vs,h1,?_⟩⟩
 ·rw[List.getElem?_map] at e
  have hi:i<ds.length:=by
   by_cases hi:i<ds.length
   ·exact hi
   ·rw[List.getElem?_eq_none (by rw[List.length_zip];omega)] at e;cases e
  have z1:ds[i]? = some ds[i]:=by simp[hi]
  have z2:es[i]? = some (es[i]'(by omega)):=by simp[show i<es.length by omega]
  obtain ⟨v,e1,e2⟩:=q.get z1
  obtain ⟨u,e3,e4⟩:=q'.get z2
  have ed:d=.tup [ds[i],es[i]'(by omega)]:=by
   rw[(List.getElem?_zip_eq_some (z:=(ds[i],es[i]'(by omega)))).mpr ⟨z1,z2⟩] at e
   exact (Option.some.inj e).symm
  refine ⟨⟨vs,us,v,u,h1,h2,e1,e3⟩,fun x H' y=>?_⟩
  obtain ⟨p,x',y',rfl,hp,rfl,k1,k2⟩:=y
  have kx:=k1 vs h1
  have ky:=k2 us h2
  rw[e1] at kx;rw[e3] at ky
  cases kx;cases ky
  have gr:zdE G1 H (upd G1 p (.tup [v,u])) (upd H p (.tup [v,u])):=.new s2 hp
  refine ⟨_,gr,?_⟩
  rw[ed]
  unfold Rep
  exact ⟨p,[v,u],rfl,zhv.of zal,zaw.cons ((e2.same s1).same gr.g) (zaw.cons ((e4.same s1).same gr.g) zaw.nil)⟩
 ·rw[<- q.length]
  simpa [hl] using h
section
variable{X:Cx}{C:Cn}{elts:List Expr}{x1:Nat}{pt:Pos}{a b:Expr}{fa fb:De}{p pos:Pos}
end
section
variable{X:Cx}{pins:List (Addr×Obj)}{σ:L2.St}{H:Hp}{s:Shared}
theorem zrV{A':Around}{xe':Value->Shared->Prop}(I:L2.Inv X pins σ H s)(h1:A'.frames=X.A.frames)(h2:A'.handled=X.A.handled):L2.Inv { X with A:=A',xe:=xe' } pins σ H s :=
 ⟨⟨I.ok.mod,I.ok.kind,I.ok.glob,I.ok.blt,I.ok.above,I.ok.inj,I.ok.has,I.ok.cab,fun z=>h2.trans (I.ok.hd z),h1.trans I.ok.frames,I.ok.stk,I.ok.exf,I.ok.bs,I.ok.bsz,I.ok.noex,I.ok.exfs,I.ok.funs,I.ok.frf⟩,I.os,I.bare,I.base,I.loc,I.cell,I.free,I.freeC,I.pin,I.hok,I.len⟩
theorem zpk{A':Around}{xe':Value->Shared->Prop}(I:L2.Inv { X with A:=A',xe:=xe' } pins σ H s)(h1:A'.frames=X.A.frames)(h2:A'.handled=X.A.handled):L2.Inv X pins σ H s :=
 ⟨⟨I.ok.mod,I.ok.kind,I.ok.glob,I.ok.blt,I.ok.above,I.ok.inj,I.ok.has,I.ok.cab,fun z=>h2.symm.trans (I.ok.hd z),h1.symm.trans I.ok.frames,I.ok.stk,I.ok.exf,I.ok.bs,I.ok.bsz,I.ok.noex,I.ok.exfs,I.ok.funs,I.ok.frf⟩,I.os,I.bare,I.base,I.loc,I.cell,I.free,I.freeC,I.pin,I.hok,I.len⟩
end
end PV
end
section
namespace PV
open PySem PySem.Spec L2 PyProof.Rows
section
variable{X:Cx}{pins:List (Addr×Obj)}{σ:L2.St}{H:Hp}{s:Shared}
theorem zsC{kS:Addr}{o o':Obj}{zay:List (Addr×Obj)}{h':Heap}{t':Nat}(J:L2.Inv X (pins++(kS,o)::zay) σ H s)(hf:zdt X (pins++zay) H kS)(hs:∀ b ob,b≠kS->s.heap.get? b=some ob->h'.get? b=some ob)(ho:h'.get? kS=some o')(hd:∀ v,o'.data≠.cell v) :
  L2.Inv X (pins++(kS,o')::zay) σ H { s with heap:=h',toks:=t' }:=by
 have J1:L2.Inv X (pins++zay) σ H s:=J.pins_of fun p hp=>by
  refine J.pin p (List.mem_append_right _ ?_)
  rcases List.mem_append.mp hp with z|z
  ·exact List.mem_append_left _ z
  ·exact List.mem_append_right _ (List.mem_cons_of_mem _ z)
 have J2:L2.Inv X (pins++zay) σ H { s with heap:=h',toks:=t' }:=zaY (fp:=[kS]) J1 (fun b hb=>by rw[List.mem_singleton.mp hb];exact hf) fun b ob nb e=>hs b ob (fun z=>nb (by simp[z])) e
 refine J2.pins_of fun p hp=>?_
 rcases List.mem_append.mp hp with z|z
 ·exact J2.pin p (List.mem_append_right _ (List.mem_append_left _ z))
 ·rcases List.mem_cons.mp z with rfl|z
  ·exact ⟨ho,hf.1,hf.2.1,hf.2.2.1,hd⟩
  ·exact J2.pin p (List.mem_append_right _ (List.mem_append_right _ z))
theorem zrg{pins pins':List (Addr×Obj)}{H':Hp}{b:Addr}(h:zdt X pins H b)(hn:H' b=none)(hp:∀ p∈pins',p∈pins\/p.1≠b):zdt X pins' H' b :=
 ⟨hn,h.2.1,h.2.2.1,h.2.2.2.1,h.2.2.2.2.1,fun p q=>by
  rcases List.mem_append.mp q with z|z
  ·exact h.2.2.2.2.2 p (List.mem_append_left _ z)
  ·rcases hp p z with y|y
   ·exact h.2.2.2.2.2 p (List.mem_append_right _ y)
   ·exact y⟩
variable{kS a:Addr}{kz:List Int}{vs:List Value}{xs:List V}{Θ : Hp->Prop}{e1:Nat}{A:Around}{E:Value->Shared->Prop}{P:PySem.Fin->Shared->Prop}
abbrev lo(ys:Array Value)(n:Nat):Obj:=seqObj "list" ys n
end
section
variable{X:Cx}{pins:List (Addr×Obj)}{σ:L2.St}{H:Hp}{s:Shared}
end
theorem zoe{d:Dt}{bs:List B}:∀{ρ:Ev}{k:Nat},zen [.d d] bs k ρ = ρ
 |[],_=>rfl
 |o::r,k=>by
  show (match zbQ [.d d] k with|some j=>bs[j]?|none=>o)::zen [.d d] bs (k+1) r=_
  rw[zoe (ρ:=r)];rfl
section
variable{X:Cx}{C:Cn}{CX:CXT}{k k':Nat}{Fd:FD}{x:Str}{p pf kp pos:Pos}{a:Expr}{fa:De}
end
end PV
end
section
namespace PV
open PySem PySem.Spec L2
def zoi(K:W.Frag)(H0:Hp)(D:Addr)(G H:Hp)(w:Wn)(dss:List (List Dt))(as:List Addr):Prop :=
 (D::as).Nodup/\Paired (fun b ds=>H0 b=none/\G b=none/\w b=none/\∃ us,H b=some (.lst us)/\zaw K G ds us) as dss
theorem zoi.step{K:W.Frag}{H0 G H G' H':Hp}{w w':Wn}{D:Addr}{dss:List (List Dt)}{as:List Addr}(q:zoi K H0 D G H w dss as)(s:zaN G H w G' H' w'):zoi K H0 D G' H' w' dss as :=
 ⟨q.1,zd3 (fun b ds ⟨h1,h2,h3,us,h4,h5⟩=>by
  obtain ⟨k1,k2,k3⟩:=s.keep h2 h3 h4
  exact ⟨h1,k1,k2,us,k3,h5.same s.g⟩) q.2⟩
theorem zgo{α β:Type}{F:α->β->Prop}:∀{l:List α}{r:List β},Paired F l r->l.length=r.length
 |_,_,.nil=>rfl
 |_,_,.cons _ t=>by simp[zgo t]
theorem zfz{α β:Type}{F:α->β->Prop}{a:α}{b:β}(h:F a b):∀{l:List α}{r:List β},Paired F l r->Paired F (l++[a]) (r++[b])
 |_,_,.nil=>.cons h .nil
 |_,_,.cons x t=>.cons x (zfz h t)
theorem zoi.len{K:W.Frag}{H0 G H:Hp}{w:Wn}{D:Addr}{dss:List (List Dt)}{as:List Addr}(q:zoi K H0 D G H w dss as):as.length=dss.length:=zgo q.2
theorem zoi.snoc{K:W.Frag}{H0 G H:Hp}{w:Wn}{D p:Addr}{dss:List (List Dt)}{ds:List Dt}{us:List V}{as:List Addr}(q:zoi K H0 D G H w dss as)(nD:p≠D)(nA:p∉as)(h0:H0 p=none)(hg:G p=none)(hw:w p=none)(hp:H p=some (.lst us))(hr:zaw K G ds us):zoi K H0 D G H w (dss++[ds]) (as++[p]):=by
 refine ⟨?_,zfz ⟨h0,hg,hw,us,hp,hr⟩ q.2⟩
 have h:=q.1
 rw[List.nodup_cons] at h ⊢
 refine ⟨fun z=>?_,?_⟩
 ·rcases List.mem_append.mp z with z|z
  ·exact h.1 z
  ·exact nD (List.mem_singleton.mp z).symm
 ·rw[List.nodup_append]
  exact ⟨h.2,by simp,fun x hx y hy=>by rw[List.mem_singleton.mp hy];exact fun z=>nA (z ▸ hx)⟩
section
variable{X:Cx}{C:Cn}
end
section
variable{X:Cx}{C:Cn}{k:Expr}{fk:De}{pos ps py sp apos:Pos}{x y:Str}
end
theorem zrU:bootBuiltins "len"=some (.builtin "len"):=PySem.boot_len
theorem zsb:bootBuiltins "max"=some (.builtin "max"):=PyProof.Rows.boot_max
theorem zmk:bootBuiltins "min"=some (.builtin "min"):=PyProof.Rows.boot_min
theorem zrp:bootBuiltins "all"=some (.builtin "all"):=PyProof.Rows.boot_all
theorem zdb:bootBuiltins "isinstance"=some (.builtin "isinstance"):=PyProof.Rows.boot_isinstance
theorem zeu:bootBuiltins "tuple"=some (.type "tuple"):=by decide +kernel
theorem zfE:bootBuiltins "list"=some (.type "list"):=by decide +kernel
theorem zsh:bootBuiltins "int"=some (.type "int"):=by decide +kernel
theorem zjo:bootBuiltins "bool"=some (.type "bool"):=by decide +kernel
section
variable{X:Cx}{C:Cn}{a b e:Expr}{fa fb:De}{p pos:Pos}
theorem zfb(hm:X.mg "len"=none)(ha:JE X C e fa)(hg:Gl X "len":=by rfl)(hs:starEach [e] X.env=(false,eval e X.env)::starEach [] X.env:=by rfl)(hpl:(backTo pos (starEach [] X.env)).any (·.1)=false:=by rfl):JE X C (.Call (.Name "len" p) [e] [] pos) (dFn zbR (dA fa dA0)) :=
 zcI zqE zsd (zeS.or zhN) hg hm zrU (zai ha zaz hs) (by decide) (by decide) hs hpl
theorem zsm(hc:X.calm=true)(hm:X.mg "max"=none)(ha:JE X C a fa)(hb:JE X C b fb)(hg:Gl X "max":=by rfl)(hs:starEach [a,b] X.env=(false,eval a X.env)::starEach [b] X.env:=by rfl)(hs2:starEach [b] X.env=(false,eval b X.env)::starEach [] X.env:=by rfl)(hpl:(backTo pos (starEach [b] X.env)).any (·.1)=false:=by rfl):JE X C (.Call (.Name "max" p) [a,b] [] pos) (dFn zgT (dA fa (dA fb dA0))) :=
 zcI zql zpu (zlW hc) hg hm zsb (zai ha (zai hb zaz hs2) hs) (by decide) (by decide) hs hpl
theorem zso(hc:X.calm=true)(hm:X.mg "min"=none)(ha:JE X C a fa)(hb:JE X C b fb)(hg:Gl X "min":=by rfl)(hs:starEach [a,b] X.env=(false,eval a X.env)::starEach [b] X.env:=by rfl)(hs2:starEach [b] X.env=(false,eval b X.env)::starEach [] X.env:=by rfl)(hpl:(backTo pos (starEach [b] X.env)).any (·.1)=false:=by rfl):JE X C (.Call (.Name "min" p) [a,b] [] pos) (dFn zgG (dA fa (dA fb dA0))) :=
 zcI zqc zp3 (zmo hc) hg hm zmk (zai ha (zai hb zaz hs2) hs) (by decide) (by decide) hs hpl
theorem zoJ(hc:X.calm=true)(hm:X.mg "min"=none)(ha:JE X C e fa)(hg:Gl X "min":=by rfl)(hs:starEach [e] X.env=(false,eval e X.env)::starEach [] X.env:=by rfl)(hpl:(backTo pos (starEach [] X.env)).any (·.1)=false:=by rfl):JE X C (.Call (.Name "min" p) [e] [] pos) (dFn zfP (dA fa dA0)) :=
 zcI zqq zqe (zlf hc) hg hm zmk (zai ha zaz hs) (by decide) (by decide) hs hpl
theorem zmP(hc:X.calm=true)(hm:X.mg "all"=none)(ha:JE X C e fa)(hg:Gl X "all":=by rfl)(hs:starEach [e] X.env=(false,eval e X.env)::starEach [] X.env:=by rfl)(hpl:(backTo pos (starEach [] X.env)).any (·.1)=false:=by rfl):JE X C (.Call (.Name "all" p) [e] [] pos) (dFn zkI (dA fa dA0)) :=
 zcI zsc zrw (zm0 hc) hg hm zrp (zai ha zaz hs) (by decide) (by decide) hs hpl
theorem zhp(hm:X.mg "tuple"=none)(ha:JE X C e fa)(hg:Gl X "tuple":=by rfl)(hs:starEach [e] X.env=(false,eval e X.env)::starEach [] X.env:=by rfl)(hpl:(backTo pos (starEach [] X.env)).any (·.1)=false:=by rfl):JE X C (.Call (.Name "tuple" p) [e] [] pos) (dFn zck (dA fa dA0)) :=
 zl4 znB zmV zhl hg hm zeu (zai ha zaz hs) (by decide) (by decide) hs hpl
theorem zo9(hm:X.mg "list"=none)(ha:JE X C e fa)(hg:Gl X "list":=by rfl)(hs:starEach [e] X.env=(false,eval e X.env)::starEach [] X.env:=by rfl)(hpl:(backTo pos (starEach [] X.env)).any (·.1)=false:=by rfl):JN X C (.Call (.Name "list" p) [e] [] pos) (ziT zfX (dA fa dA0)) :=
 zmw zoU zqz zhY hg hm zfE (zai ha zaz hs) (by decide) (by decide) hs hpl
end
theorem znw{nw:Bool}{P:Program}{w:World}{K:W.Frag}{mg:Str->Option Value}{base:Heap}{CX:CXT}{xv:Nat->Value}{k:Nat}{x qual:Str}{st:Stmt}{f:Addr}{fd:FuncData}{ps:List Str}{ks:List Bool}(hl:ps.length=ks.length)(U:Fun K x qual st f fd)(hm:mg x=some (.ref f))(hb:zfB K fd ps []) :
  Dfn nw P w K mg base CX xv k x ks (fun _=>.no) :=
 ⟨f,fd,ps,⟨fun vs H Q E ⟨_,_,_,h,_⟩=>h.trans hl.symm,fun _ _ _ _ _ _ _ _ _ _ _ _ _ ⟨_,_,_,_,_,_,h⟩=>False.elim h⟩,hm,U.kp,hb,fun bs h=>absurd rfl h⟩
theorem zjf{k:Nat}{A:Around}(hr:zcg k A):A.units+64<cLine:=by have:=hr.un;omega
theorem zoy{k:Nat}{A:Around}(hr:zcg k A):A.units+65<cLine:=by have:=hr.un;omega
theorem zaG{names:List (Str×NameKind)}(h:(names.all fun y=>y.2 != .cell)=true):∀ y∈names,y.2≠.cell:=fun y hy z=>by
 rw[List.all_eq_true] at h
 have:=h y hy
 rw[z] at this;simp at this
theorem zbu{names:List (Str×NameKind)}(h:(names.all fun y=>y.2 != .local || (names.lookup y.1 == some .local))=true):∀ y∈names,y.2=.local->names.lookup y.1=some .local:=fun y hy z=>by
 rw[List.all_eq_true] at h
 have:=h y hy
 rw[z] at this;simpa using this
theorem zby{names:List (Str×NameKind)}{env:Env}(h:(names.all fun y=>y.2 != .free || (env.kindOf y.1 == some .cell || env.kindOf y.1 == some .free))=true):∀ y∈names,y.2=.free->env.kindOf y.1=some .cell\/env.kindOf y.1=some .free:=fun y hy z=>by
 rw[List.all_eq_true] at h
 have:=h y hy
 rw[z] at this;simpa using this
end PV
end
section
namespace PV
open PySem PySem.Spec L2 PyProof.Rows
theorem zoj{P:Program}{w:World}{H:Hp}{h h':Heap}(x:HOk P w H h)(k:∀ b u o,H b=some u->h.get? b=some o->h'.get? b=some o):HOk P w H h':=fun a o e =>
 (x a o e).stay (fun b u hb q=>by
  rcases hb with rfl|hb
  ·exact k _ _ _ e q
  ·exact k _ _ _ hb q) (fun _ z=>z) fun _ _ z=>z
theorem zrE{P:Program}{w:World}{H:Hp}{h:Heap}{a:Addr}{o:HO}(x:zbw P w H h a o):∃ u,h.get? a=some u:=by
 induction o with
 |lst xs=>obtain ⟨_,_,_,_,e⟩:=x;exact ⟨_,e⟩
 |tup xs=>obtain ⟨_,_,_,_,e⟩:=x;exact ⟨_,e⟩
 |dK kvs=>obtain ⟨_,_,_,_,_,_,_,e,_⟩:=x;exact ⟨_,e⟩
 |dT kvs=>obtain ⟨_,_,_,_,_,_,_,e,_⟩:=x;exact ⟨_,e⟩
 |set S n=>obtain ⟨_,_,_,_,e,_⟩:=x;exact ⟨_,e⟩
 |ins C dx fs=>obtain ⟨_,_,_,e,_⟩:=x;exact ⟨_,e⟩
 |own y=>exact x
 |xd fs=>obtain ⟨_,⟨_,_,_,e,_⟩,_⟩:=x;exact ⟨_,e⟩
 |met f y=>exact ⟨_,x⟩
 |rng lo hi=>obtain ⟨_,_,_,e⟩:=x;exact ⟨_,e⟩
 |frz ob u ih=>exact ⟨_,x.1⟩
 |tbl ps=>exact ⟨_,x⟩
 |ext φ => exact x.2.1
def CXf(P:Program)(w:World):CXT:=fun outer H s E e s' =>
 ∃(l:Addr)(cls a0:Value)(B:Heap)(H':Hp),e=.ref l/\s'.os=s.os/\AllBare s'.gens/\Un (frs outer) [] H H' s.heap s'.heap/\HOk P w H' s'.heap/\Heap.FlyingW B outer l cls a0 s'.heap /\
  (∀ b o,s.heap.get? b=some o->b∉frs outer->∃ u,B.get? b=some u)/\(∀ b u,H' b=some u->∃ o,B.get? b=some o)/\s.heap.get? l=none/\E cls none H'
def CXm:CXT:=fun _ H s E e s'=>∃(l:Addr)(cls:Value)(args:List Value)(h':Heap),e=.ref l/\s'={ s with heap:=h' }/\Heap.MadeExcOf s.heap h' l cls args/\E cls none H
def CXe(P:Program)(w:World):CXT:=fun outer H s E e s'=>CXf P w outer H s E e s'\/CXm outer H s E e s'
theorem CXf.imp{P:Program}{w:World}{outer:List Env}{H:Hp}{s s':Shared}{E E':XK}{e:Value}(h:CXf P w outer H s E e s')(k:∀ u a H',E u a H'->E' u a H'):CXf P w outer H s E' e s':=by
 obtain ⟨l,cls,a0,B,H',h1,h2,h3,h4,h5,h6,h7,h8,h9,h10⟩:=h
 exact ⟨l,cls,a0,B,H',h1,h2,h3,h4,h5,h6,h7,h8,h9,k _ _ _ h10⟩
theorem CXe.none{P:Program}{w:World}{outer:List Env}{H:Hp}{s s':Shared}{e:Value}(h:CXe P w outer H s (fun _ _ _=>False) e s'):False:=by
 rcases h with ⟨_,_,_,_,_,_,_,_,_,_,_,_,_,_,z⟩|⟨_,_,_,_,_,_,_,z⟩ <;> exact z
theorem zjW{env:Env}{outer:List Env}{L:Addr}(h:env.frame=some L):frs (env::outer)=L::frs outer:=by
 unfold frs;rw[List.filterMap_cons,h]
theorem zl9{P:Program}{w:World}{base:Heap}{A:Around}{env:Env}{outer:List Env}{s0 s1 s2:Shared}{H0 H1:Hp}{E E':XK}{e:Value}
  (hf:env.frame=some env.locals) (hfr:A.frames=some (env::outer)) (hL:s0.heap.objs.size<=env.locals) (os1:s1.os=s0.os) (bare1:AllBare s1.gens) (u01:Un (frs outer) [] H0 H1 s0.heap s1.heap) (frf:∀ b∈frs outer,H0 b=none)
  (fun1:s1.heap.FunFrames base (env::outer)) (hok1:HOk P w H1 s1.heap) (fr1:∀ b∈frs (env::outer),H1 b=none) (hx:CXe P w (env::outer) H1 s1 E' e s2) (hE:∀ u a H',E' u a H'->E u a H') {M:Model} {EE:Value->Shared->Prop} :
  wpAny M A (leaving env e) (fun _ s3=>CXf P w outer H0 s0 E e s3) EE s2:=by
 have inS:∀{b:Addr}{o:Obj},s0.heap.get? b=some o->b∉frs outer->b∉frs (env::outer):=fun {b o} e1 h1 h2=>by
  rw[zjW hf] at h2
  rcases List.mem_cons.mp h2 with z|z
  ·have:=Heap.lt_size e1
   rw[z] at this
   exact absurd (Nat.lt_of_lt_of_le this hL) (Nat.lt_irrefl _)
  ·exact h1 z
 have newS:∀{b:Addr},s1.heap.get? b=none->s0.heap.get? b=none:=fun {b} e1=>by
  cases q:s0.heap.get? b with
  |none=>rfl
  |some o=>obtain ⟨o',e2⟩:=u01.there b o q (by simp);rw[e1] at e2;cases e2
 have outS:∀{b:Addr},b∈frs outer->b∈frs (env::outer):=fun {b} h=>by rw[zjW hf];exact List.mem_cons_of_mem _ h
 rcases hx with ⟨l,cls,a0,B,H',rfl,os,bare,un,hok,fl,hb1,hb2,hnw,he⟩|⟨l,cls,args,h',rfl,rfl,hm,he⟩
 ·refine wpAny_leaves_onW (base:=B) hfr hf fl fun h3 fl3 up=>?_
  have at3:∀{b:Addr}{u:Obj},B.get? b=some u->s2.heap.get? b=some u/\h3.get? b=some u:=fun {b u} e=>⟨fl.1 b u e,fl3.1 b u e⟩
  have slot:∀ b o,s0.heap.get? b=some o->b∈frs outer->∃ sl,h3.get? b=some { o with slots:=sl }:=fun b o e1 hb=>by
   obtain ⟨sl1,e2⟩:=u01.slot b o e1 (frf b hb) hb (by simp)
   obtain ⟨sl2,e3⟩:=un.slot b _ e2 (u01.free b o e1 (frf b hb) (by simp)) (outS hb) (by simp)
   obtain ⟨_,o4,e4,d4⟩:=fl.2.2.1.mem (b:=b) (outS hb)
   rw[e3] at e4;cases e4
   obtain ⟨sl3,e5⟩:=up b _ e3 d4
   exact ⟨sl3,e5⟩
  have hb1':∀ b o,s0.heap.get? b=some o->b∉frs outer->∃ u,B.get? b=some u:=fun b o e1 hb=>by
   obtain ⟨o1,e2⟩:=u01.there b o e1 (by simp)
   exact hb1 b o1 e2 (inS e1 hb)
  refine ⟨l,cls,a0,B,H',rfl,os.trans os1,bare,⟨fun b o e1 n hb _=>?_,fun b o e1 n hb _=>slot b o e1 hb,fun b o e1 n _=>?_,fun b o e1 _=>?_,fun b xs q=>un.tups b xs (u01.tups b xs q),fun b o u q=>un.frzs b o u (u01.frzs b o u q),fun b ps q=>?_⟩,zoj hok fun b u o q1 q2=>?_,fl3,hb1',hb2,newS hnw,hE _ _ _ he⟩
  ·have e2:=u01.keep b o e1 n hb (by simp)
   have n2:=u01.free b o e1 n (by simp)
   have e3:=un.keep b o e2 n2 (inS e1 hb) (by simp)
   obtain ⟨u,hu⟩:=hb1' b o e1 hb
   obtain ⟨q1,q2⟩:=at3 hu
   rw[e3] at q1;cases q1;exact q2
  ·obtain ⟨o1,e2⟩:=u01.there b o e1 (by simp)
   exact un.free b o1 e2 (u01.free b o e1 n (by simp)) (by simp)
  ·by_cases hb:b∈frs outer
   ·obtain ⟨sl,e2⟩:=slot b o e1 hb;exact ⟨_,e2⟩
   ·obtain ⟨u,hu⟩:=hb1' b o e1 hb;exact ⟨u,(at3 hu).2⟩
  ·obtain ⟨m1,e1⟩:=u01.tbls b ps q
   obtain ⟨m2,e2⟩:=un.tbls b _ e1
   exact ⟨m1++m2,by rw[e2,Array.append_assoc]⟩
  ·obtain ⟨o',ho'⟩:=hb2 b u q1
   obtain ⟨z1,z2⟩:=at3 ho'
   rw[q2] at z1;cases z1;exact z2
 ·
  let fs:=frs (env::outer)
  have hin:∀ x∈env::outer,∀ a,x.frame=some a->a∈fs:=fun x hx a ha=>List.mem_filterMap.mpr ⟨x,hx,ha⟩
  refine wpAny_leaves_madeW (base:=W.hideAll s1.heap fs) (h:=s1.heap) hfr hf (fun b o q=>W.of_hideAll _ q) (W.funFrames_hide fun1 hin) hm fun h3 t fl3 _ _ up=>?_
  have at3:∀{b:Addr}{u:Obj},s1.heap.get? b=some u->b∉fs->h3.get? b=some u:=fun {b u} e n=>fl3.1 b u (W.hideAll_get _ e n)
  have slot:∀ b o,s0.heap.get? b=some o->b∈frs outer->∃ sl,h3.get? b=some { o with slots:=sl }:=fun b o e1 hb=>by
   obtain ⟨sl1,e2⟩:=u01.slot b o e1 (frf b hb) hb (by simp)
   obtain ⟨_,o4,e4,d4⟩:=fun1.mem (b:=b) (outS hb)
   rw[e2] at e4;cases e4
   obtain ⟨sl3,e5⟩:=up b _ (hm.keeps _ _ e2) d4
   exact ⟨sl3,e5⟩
  have hb1':∀ b o,s0.heap.get? b=some o->b∉frs outer->∃ u,(W.hideAll s1.heap fs).get? b=some u:=fun b o e1 hb=>by
   obtain ⟨o1,e2⟩:=u01.there b o e1 (by simp)
   exact ⟨o1,W.hideAll_get _ e2 (inS e1 hb)⟩
  have tr:∀ b u,H1 b=some u->b∉fs:=fun b u e z=>by rw[fr1 b z] at e;cases e
  refine ⟨l,cls,.ref t,W.hideAll s1.heap fs,H1,rfl,os1,bare1,⟨fun b o e1 n hb _=>at3 (u01.keep b o e1 n hb (by simp)) (inS e1 hb),fun b o e1 n hb _=>slot b o e1 hb,fun b o e1 n _=>u01.free b o e1 n (by simp),fun b o e1 _=>?_,u01.tups,u01.frzs,u01.tbls⟩,zoj hok1 fun b u o q1 q2=>at3 q2 (tr b u q1),fl3,hb1',fun b u q=>?_,newS hm.new,hE _ _ _ he⟩
  ·by_cases hb:b∈frs outer
   ·obtain ⟨sl,e2⟩:=slot b o e1 hb;exact ⟨_,e2⟩
   ·obtain ⟨u,hu⟩:=hb1' b o e1 hb;exact ⟨u,fl3.1 b u hu⟩
  ·obtain ⟨o,ho⟩:=zrE (hok1 b u q)
   exact ⟨o,W.hideAll_get _ ho (tr b u q)⟩
theorem za2{P:Program}{w:World}{K:W.Frag}{mg:Str->Option Value}{base:Heap}:zof (CXe P w) P w K mg base:=fun N qual scope f cdv A outer s H E E' hk hE pins σ H1 s1 e s2 I hx=>by
 have I':=I
 refine wpAny_mono (zl9 (base:=base) (s0:=s) (H0:=H) (E:=E) rfl I.ok.frames (Nat.le_refl _) I.os I.bare I.base I.ok.frf I.stack I.hok I.stkFree hx hE) (fun _ s3 h=>.inl h) fun _ _ h=>h
def zmx(n:Nat)(f:DA):DS:=fun ρ=>(f ρ).bind fun a=>if zfQ a.1=true then .er n else .no
structure Xcls(K:W.Frag)(C:Addr):Prop where
 ex:∃ bm N nm q bs hdct sn sub ab col dd k0 k1 k2 k3 k5,K.lookup C=some (excClassObj nm q C N bs bm hdct sn sub ab col dd k0 k1 k2 k3 k5 "ValueError.__new__")/\(∀ h:Heap,K.In h->∃ mN,h.Ns N mN/\mN "__init__"=none)/\(∀ h:Heap,K.In h->OwnTail h [.type "ValueError",.type "Exception",.type "BaseException",.type "object"] bm)
section
variable{X:Cx}{C:Cn}{x:Str}{Cc:Addr}{np cpos pos:Pos}{e:Expr}{es:List Expr}{fa:DA}{n:Nat}{P:Program}{w:World}
theorem zjR(hx:zbW (CXe P w) X (EXc C))(hc:X.calm=true)(hcl:Xcls X.K Cc)(hm:X.mg x=some (.ref Cc))(hxv:C.xv n=.ref Cc)(ha:JA X C (e::es) fa)(hg:Gl X x:=by rfl)(hd:(x == ("__debug__" : Str))=false:=by decide)
  (he:starEach (e::es) X.env=(false,eval e X.env)::starEach es X.env:=by rfl) (hpl:(backTo cpos (starEach es X.env)).any (·.1)=false:=by rfl):JS X C (.Raise (some (.Call (.Name x np) (e::es) [] cpos)) none pos) (zmx n fa):=by
 intro pins s σ H D I ⟨G,w1,ρ,r,p⟩
 obtain ⟨tl,N,nm,q,bs,hdct,sn,sub,ab,col,dd,k0,k1,k2,k3,k5,lk,hN,hT⟩:=hcl.ex
 obtain ⟨mN,hNs,hni⟩:=hN _ I.mod.kin
 refine wpAny_Raise_call_subT (C:=Cc) (nm:=nm) (q:=q) (N:=N) (bs:=bs) (bm:=tl) (hdct:=hdct) (sn:=sn) (sub:=sub) (ab:=ab) (col:=col) (dd:=dd) (k0:=k0) (k1:=k1) (k2:=k2) (k3:=k3) (k5:=k5)
  F.excBase_ValueError (mN:=mN) ((hT _ I.kIn).hasType F.excBase_ValueError.hasBase) (I.ok.hd hc) (by rw[he];show (false || (backTo cpos (starEach es X.env)).any (·.1))=false;rw[hpl];rfl) hni (zjp I hg hm ⟨rfl,?_⟩ hd)
 suffices hh:wpAny (model X.prog X.w) X.A (spliced (backTo cpos (starEach (e::es) X.env))) (fun vs s₂=>([]:List (Str×Value))=[]/\vs.length<=sizeLine/\s₂.heap.get? Cc=some (excClassObj nm q Cc N bs tl hdct sn sub ab col dd k0 k1 k2 k3 k5 "ValueError.__new__")/\s₂.heap.Ns N mN/\OwnTail s₂.heap [.type "ValueError",.type "Exception",.type "BaseException",.type "object"] tl /\
   ∀ h' a,Heap.MadeExcOf s₂.heap h' a (.ref Cc) vs->X.xe (.ref a) { s₂ with heap:=h' }) X.xe s by
  rw[he] at hh ⊢
  exact Calls.evalArgs_plain hh
 refine thn (ha cpos pins s σ H (fun vs H2=>vs.length<=sizeLine/\EXc C (.ref Cc) none H2) I ?_) fun us s2 ⟨vs,H2,I2,rv,hz,hE⟩=>⟨rfl,by rw[<- rv.length];exact hz,I2.kIn _ _ lk,hNs.keeps I2.bk,hT _ I2.kIn,fun h' a hm'=>?_⟩
 ·refine ⟨G,w1,ρ,r,?_⟩
  have p':zbJ C.ex (kS X.K C D G H w1) ((fa ρ).bind fun a=>if zfQ a.1=true then R.er n else .no):=p
  cases ef:fa ρ with
  |ok z =>
   rw[ef,R.bind_ok] at p'
   intro vs G' H' w' st rel q1
   by_cases hf:zfQ z.1=true
   ·rw[if_pos hf] at p'
    exact ⟨by rw[<- q1.length];exact zhk hf,rfl,n,hxv.symm,p',G',w',r.en.trans st⟩
   ·rw[if_neg hf] at p';exact p'.elim
  |er m=>rw[ef] at p';exact p'
  |no=>rw[ef] at p';exact p'.elim
 ·exact hx pins σ H2 s2 (.ref a) _ I2 (.inr ⟨a,.ref Cc,us,h',rfl,rfl,hm',hE⟩)
end
abbrev bmV:List Value:=[.type "ValueError",.type "Exception",.type "BaseException",.type "object"]
structure Xin(K:W.Frag)(D:Addr):Prop where
 exc:W.excIn K D bmV "ValueError.__new__"=true
 ga:W.findIn K (.ref D) "__getattribute__"=some (some (.builtin "BaseException.__getattribute__"))
 gh:W.findIn K (.ref D) "__getattr__"=some none
 gc:W.findIn K (.ref D) "__class__"=some (some (.builtin "object.__class__"))
 mb:W.subIn K (.ref D) (.type "BaseException")=some true
theorem zld{K:W.Frag}{C:Addr}(q:W.excIn K C bmV "ValueError.__new__"=true):∃ bm N nm qn bs hd sn sub ab col dd k0 k1 k2 k3 k5,
  K.lookup C=some (excClassObj nm qn C N bs bm hd sn sub ab col dd k0 k1 k2 k3 k5 "ValueError.__new__")/\W.tailIn K bmV bm=true/\W.nsOkIn K N=true/\W.nsIn K N "__init__"=some none:=by
 unfold W.excIn at q
 split at q
 ·rename_i dd cd sl lk
  split at q
  ·rename_i C2 bm k0 k1 k2 k3 mk k5 em es
   simp only[Bool.and_eq_true,beq_iff_eq,Bool.not_eq_true'] at q
   obtain ⟨⟨⟨⟨⟨e1,e2⟩,e3⟩,e4⟩,e5⟩,e6⟩:=q
   subst e1 e2
   obtain ⟨nm,bs,mro,ns,qn,hd,sn,sub,ab,col,del⟩:=cd
   obtain ⟨sll⟩:=sl
   dsimp only at em es e3 e5 e6
   subst em e3 es
   exact ⟨bm,ns,nm,qn,bs,hd,sn,sub,ab,col,dd,k0,k1,k2,k3,k5,lk,e4,e5,e6⟩
  ·cases q
 ·cases q
theorem Xin.cls{K:W.Frag}{C:Addr}(x:Xin K C):Xcls K C:=by
 obtain ⟨bm,N,nm,qn,bs,hd,sn,sub,ab,col,dd,k0,k1,k2,k3,k5,lk,e4,e5,e6⟩:=zld x.exc
 exact ⟨bm,N,nm,qn,bs,hd,sn,sub,ab,col,dd,k0,k1,k2,k3,k5,lk,fun h X=>⟨_,.of_isNs (W.isNs_of_in X e5),W.nsMap_none_of_in X e5 e6⟩,fun h X=>W.tail_of_in X e4⟩
section
variable{prog:Program}{w:World}{A:Around}{E:Value->Shared->Prop}{hh:Heap}{gg:Array GenState}{dr:Drawn}{tt:Nat}{os:OsState}{l C:Addr}{ob:Obj}{K:W.Frag}
end
section
variable{X:Cx}{C:Cn}{i:Nat}{Cc C2:Addr}{b:Bool}{x x2:Str}{p px p2 pos:Pos}
end
def ztr(XR:Cx)(N:List Str)(scope:Scope)(cl:List (Str×Addr))(qual:Str)(Fa:Addr)(cdv:Value)(s:Shared)(H:Hp)(E:XK):Cx where
 prog:=XR.prog
 w:=XR.w
 K:=XR.K
 mg:=XR.mg
 base:=XR.base
 A:=XR.A.deeper (W.envX qual scope s.heap.objs.size Fa cdv cl)
 N:=N
 s₀:=s
 H₀:=H
 env:=W.envX qual scope s.heap.objs.size Fa cdv cl
 outer:=XR.stack
 stack:=W.envX qual scope s.heap.objs.size Fa cdv cl::XR.stack
 ex:=[]
 fn:=fun _=>false
 calm:=true
 pn:=[]
 xe:=fun e s'=>wpAny (model XR.prog XR.w) (XR.A.deeper (W.envX qual scope s.heap.objs.size Fa cdv cl)) (leaving (W.envX qual scope s.heap.objs.size Fa cdv cl) e) (fun _ s''=>CXf XR.prog XR.w XR.stack H s E e s'') (fun _ _=>False) s'
def ztg(names:List (Str×NameKind)):Bool:=names.all fun y=>match y.2 with
 |.free=>true
 |.globalImplicit=>true
 |_=>false
structure zs2(N:List Str)(names:List (Str×NameKind))(cl:List (Str×Addr))(σ:L2.St)(H:Hp)(h:Heap):Prop where
 inj:∀ x y c,cl.lookup x=some c->cl.lookup y=some c->x=y
 has:∀ x,names.lookup x=some .free->∃ c,cl.lookup x=some c
 is:∀ x c,cl.lookup x=some c->(∃ v,h.IsCell c v)/\H c=none
 val:∀(i:Nat)(x:Str)(v:V),N[i]? = some x->σ[i]? = some (some v)->names.lookup x=some .free->∃ u c,zaF v u/\cl.lookup x=some c/\h.IsCell c (some u)
section
variable{XR:Cx}{pins:List (Addr×Obj)}{σR σ:L2.St}{H:Hp}{s:Shared}{N:List Str}{scope:Scope}{cl:List (Str×Addr)}{qual name:Str}{Fa c':Addr}{params:Arguments}{body:Expr}{pm ctv:Value}{E:XK}
end
def zp1(ρ:Ev):Ev:=ρ.map fun o=>match o with
 |some (.val d)=>some (.val d)
 |_=>none
section
variable{X:Cx}{pins:List (Addr×Obj)}{σ:L2.St}{H:Hp}{s:Shared}
end
def EL(Cc:Addr)(H:Hp):XK:=fun u _ H'=>u=.ref Cc/\zcf H H'
section
variable{X:Cx}{p1 p2 p3 p4 p5 p6 p7 p8 p9:Pos}{Cc Cs Fa:Addr}{H0:Hp}{iF ierr ie:Nat}{xF xerr xe xS:Str}
end
def fHO(a:Addr)(ob:Obj):HO:=.ext fun h=>h.get? a=some ob
structure zfG(X:Cx)(P:Addr):Prop where
 code:∃ c,X.env.code=.ref c/\W.CodeHd X.base c P
 blt:X.base.BuiltinsAt X.mg P
theorem zil{P:Program}{w:World}{H:Hp}{h:Heap}{a:Addr}{φ : Heap->Prop}{o:Obj}(h1:φ h)(h2:h.get? a=some o)(h3:∀ x y:Heap,φ x->(∀ o,x.get? a=some o->y.get? a=some o)->φ y):zbw P w H h a (.ext φ):=⟨h1,⟨o,h2⟩,h3⟩
theorem zi0{c:Addr}{q:Str}(x y:Heap)(h:x.CodeRec (.ref c) q)(k:∀ o,x.get? c=some o->y.get? c=some o):y.CodeRec (.ref c) q:=by
 obtain ⟨c',o,vs,t,e,h1,h2,h3⟩:=h
 cases e
 exact ⟨c,o,vs,t,rfl,k o h1,h2,h3⟩
structure zlP(P:Addr)(q:Str)(G H:Hp)(ps:Array Value):Prop where
 at_:H P=some (.tbl ps)
 tri:TriplesOk ps.toList
 cod:∀ pos cv,codeAmong pos ps.toList=some cv->∃ c,cv=.ref c/\G c=some (cHO c q)
section
variable{X:Cx}{pins:List (Addr×Obj)}{σ:L2.St}{H:Hp}{s:Shared}{P:Addr}{q:Str}{params:Arguments}{body:Expr}{scope:Scope}{pos:Pos}{cl:List (Str×Addr)}{ps:Array Value}{Q:VK}
theorem zrJ(LB:zfG X P)(I:L2.Inv X pins σ H s)(hdef:defaultsOf params X.env=([],[]))(hcl:closureFor scope X.env=pure cl)(T:zlP P (X.env.qual++"<lambda>") H H ps)
  (hA:∀ c Fa ctv,codeAmong pos ps.toList=none->H c=none->H Fa=none->c≠Fa->Q (.ref Fa) (upd (upd (upd H P (.tbl (ps++#[rawInt pos.line,rawInt pos.col,.ref c]))) c (cHO c (X.env.qual++"<lambda>"))) Fa (fHO Fa (W.kla_obj "<lambda>" (X.env.qual++"<lambda>") params body scope cl ((X.mg "__name__").getD .none) c ctv))))
  (hB:∀ c Fa ctv,codeAmong pos ps.toList=some (.ref c)->H Fa=none->Q (.ref Fa) (upd H Fa (fHO Fa (W.kla_obj "<lambda>" (X.env.qual++"<lambda>") params body scope cl ((X.mg "__name__").getD .none) c ctv)))) :
  wpAny (model X.prog X.w) X.A (eval (.Lambda params body scope pos) X.env) (EP X pins σ Q) X.xe s:=by
 obtain ⟨c0,hc0,C0⟩:=LB.code
 have C0':=C0.keeps I.bk
 have hg:=I.mod.glob.keeps I.bk
 have oP:s.heap.get? P=some (W.tabObj ps):=I.hok P _ T.at_
 have nP:∀ b o,X.base.get? b=some o->b≠P:=fun b o e z=>by
  have:=(I.bs b o e).2
  rw[z,T.at_] at this;cases this
 have hgP:mainGlobals≠P:=by
  obtain ⟨o,es,ep,e,_⟩:=I.mod.glob
  exact nP _ _ e
 have hbl:s.heap.BuiltinsAt X.mg P:=by
  obtain ⟨bm,o,b1,b2,b3,b4,b5,b6⟩:=LB.blt
  exact ⟨bm,o,b1,b2,b3,b4,I.bk _ _ b5,b6⟩
 refine W.kla_eval hdef ?_
 cases hk:codeAmong pos ps.toList with
 |none =>
  refine W.kla_makeFunction (mg:=X.mg) hcl I.ok.glob hg hc0 C0' oP T.tri hk hgP hbl fun c' ctv h' tk hx hge hlt hrec htb=>?_
  have hcn:H c'=none:=I.hok.fresh hge
  have hFn:H h'.objs.size=none:=I.hok.fresh (Nat.le_trans hge (Nat.le_of_lt hlt))
  have hne:c'≠h'.objs.size:=Nat.ne_of_lt hlt
  have cP:c'≠P:=fun z=>by rw[z,T.at_] at hcn;cases hcn
  have fP:h'.objs.size≠P:=fun z=>by rw[z,T.at_] at hFn;cases hFn
  have kp:∀ b o,b≠P->s.heap.get? b=some o->(h'.push (W.kla_obj "<lambda>" (X.env.qual++"<lambda>") params body scope cl ((X.mg "__name__").getD .none) c' ctv)).get? b=some o:=fun b o hb e=>Heap.get?_push_of_some _ (hx b o hb e)
  have hq:=hA c' h'.objs.size ctv hk hcn hFn hne
  refine ⟨.ref h'.objs.size,_,I.call' (s':={ s with heap:=h'.push (W.kla_obj "<lambda>" (X.env.qual++"<lambda>") params body scope cl ((X.mg "__name__").getD .none) c' ctv),toks:=tk }) (ch:=[]) rfl ⟨fun b o e n _ _=>?_,fun b o e n _ _=>?_,fun b o e n _=>?_,fun b o e _=>?_,fun b xs z=>?_,fun b o u z=>?_,fun b pz z=>?_⟩ (fun b u e=>?_) I.bare fun b hb=>absurd hb (by simp),rfl,hq⟩
  ·exact kp b o (fun z=>by rw[z,T.at_] at n;cases n) e
  ·exact ⟨o.slots,kp b o (fun z=>by rw[z,T.at_] at n;cases n) e⟩
  ·have l1:=Heap.lt_size e
   rw[zad (Nat.ne_of_lt (Nat.lt_trans (Nat.lt_of_lt_of_le l1 hge) hlt)),zad (Nat.ne_of_lt (Nat.lt_of_lt_of_le l1 hge)),zad (fun z=>by rw[z,T.at_] at n;cases n)]
   exact n
  ·by_cases hb:b=P
   ·subst hb;exact ⟨_,Heap.get?_push_of_some _ htb⟩
   ·exact ⟨o,kp b o hb e⟩
  ·rw[zad (zaf z hFn),zad (zaf z hcn),zad (fun y=>by rw[y,T.at_] at z;cases z)];exact z
  ·rw[zad (zaf z hFn),zad (zaf z hcn),zad (fun y=>by rw[y,T.at_] at z;cases z)];exact z
  ·by_cases hb:b=P
   ·subst hb
    rw[T.at_] at z;cases z
    exact ⟨_,by rw[zad (Ne.symm fP),zad (Ne.symm cP),zal]⟩
   ·exact ⟨#[],by rw[zad (zaf z hFn),zad (zaf z hcn),zad hb,z];simp⟩
  ·by_cases hbF:b=h'.objs.size
   ·rw[hbF,zal] at e;cases e
    rw[hbF]
    exact zil (Heap.get?_push_size _ rfl) (Heap.get?_push_size _ rfl) fun x y h k=>k _ h
   ·rw[zad hbF] at e
    by_cases hbc:b=c'
    ·rw[hbc,zal] at e;cases e
     rw[hbc]
     have hr:=hrec.push (W.kla_obj "<lambda>" (X.env.qual++"<lambda>") params body scope cl ((X.mg "__name__").getD .none) c' ctv)
     obtain ⟨c2,o2,_,_,e2,h2,_⟩:=id hr
     cases e2
     exact zil hr h2 zi0
    ·rw[zad hbc] at e
     by_cases hbP:b=P
     ·rw[hbP,zal] at e;cases e
      rw[hbP]
      exact Heap.get?_push_of_some _ htb
     ·rw[zad hbP] at e
      refine (I.hok b u e).stay (fun d o hd z=>?_) (fun d z=>?_) fun d xs z=>?_
      ·refine kp d o (fun y=>?_) z
       rcases hd with hd|hd
       ·exact hbP (hd.symm.trans y)
       ·rw[y,T.at_] at hd;cases hd
      ·rw[zad (zaf z hFn),zad (zaf z hcn),zad (fun y=>by rw[y,T.at_] at z;cases z)];exact z
      ·rw[zad (zaf z hFn),zad (zaf z hcn),zad (fun y=>by rw[y,T.at_] at z;cases z)];exact z
 |some cv =>
  obtain ⟨c,rfl,hcG⟩:=T.cod pos cv hk
  refine W.kla_makeFunctionHit (mg:=X.mg) hcl I.ok.glob hg hc0 C0' oP T.tri hk hbl fun ctv h' tk hkp hsz=>?_
  have hFn:H h'.objs.size=none:=I.hok.fresh hsz
  exact ⟨.ref h'.objs.size,_,I.laid (t':=tk) (fun b u e=>Heap.get?_push_of_some _ (hkp b u e)) hsz (zil (Heap.get?_push_size _ rfl) (Heap.get?_push_size _ rfl) fun x y h k=>k _ h),rfl,hB c h'.objs.size ctv hk hFn⟩
end
section
variable{X:Cx}{C:Cn}{p1 p2 p3 p4 p5 p6 p7 p8 p9:Pos}{Cc Cs Fa:Addr}{iF ierr ie:Nat}{xF xerr xe xS:Str}
end
theorem zhK{a b:Int}{t u:Tok}{c:Value}:∀{l:List Value},TriplesOk l->TriplesOk (l++[.int a t,.int b u,c]):=by
 intro l h
 fun_induction TriplesOk l with
 |case1=>simp[TriplesOk]
 |case2 x1 x2 x3 x4 x5 zay ih=>simpa [TriplesOk] using ih h
 |case3=>exact h.elim
theorem zko{p:Pos}{a b:Int}{t u:Tok}{c cv:Value}:∀{l:List Value},TriplesOk l->codeAmong p (l++[.int a t,.int b u,c])=some cv->codeAmong p l=some cv\/cv=c:=by
 intro l h e
 fun_induction TriplesOk l with
 |case1 =>
  simp only[List.nil_append,codeAmong] at e
  split at e
  ·exact .inr (Option.some.inj e).symm
  ·cases e
 |case2 x1 x2 x3 x4 x5 zay ih =>
  simp only[List.cons_append,codeAmong] at e ⊢
  split at e
  ·rename_i hh;rw[if_pos hh];exact .inl e
  ·rename_i hh;rw[if_neg hh];exact ih h e
 |case3=>exact h.elim
section
variable{K:W.Frag}{C:Cn}{G H:Hp}{w:Wn}{ρ:Ev}{σ:L2.St}{j:Nat}{q:Str}{P c Fa:Addr}{ps:Array Value}{a b:Int}{t u:Tok}{ob:Obj}
theorem Rel.lamA(r:Rel K C G w ρ σ H)(hj:ρ[j]? = some (some (.tab q)))(hσ:σ[j]? = some (some (.ref P)))(hw:w P=some j)(T:zlP P q G H ps)(hc:H c=none)(hF:H Fa=none)(hne:c≠Fa) :
  Rel K C (upd (upd G c (cHO c q)) Fa (fHO Fa ob)) w ρ σ (upd (upd (upd H P (.tbl (ps++#[.int a t,.int b u,.ref c]))) c (cHO c q)) Fa (fHO Fa ob)) /\
   zaN G H w (upd (upd G c (cHO c q)) Fa (fHO Fa ob)) (upd (upd (upd H P (.tbl (ps++#[.int a t,.int b u,.ref c]))) c (cHO c q)) Fa (fHO Fa ob)) w:=by
 have gf:∀{x:Addr},H x=none->G x=none:=fun {x} e=>r.gh.free e
 have cP:c≠P:=fun z=>by rw[z,T.at_] at hc;cases hc
 have fP:Fa≠P:=fun z=>by rw[z,T.at_] at hF;cases hF
 have gP:G P=none:=r.wg P (by rw[hw];simp)
 have sG:zcf G (upd (upd G c (cHO c q)) Fa (fHO Fa ob)):=fun x o e=>by rw[zad (zaf e (gf hF)),zad (zaf e (gf hc))];exact e
 have oth:∀{x:Addr}{o:HO},x≠P->H x=some o->upd (upd (upd H P (.tbl (ps++#[.int a t,.int b u,.ref c]))) c (cHO c q)) Fa (fHO Fa ob) x=some o:=fun {x o} hx e=>by
  rw[zad (zaf e hF),zad (zaf e hc),zad hx];exact e
 have dom:∀ x,upd (upd (upd H P (.tbl (ps++#[.int a t,.int b u,.ref c]))) c (cHO c q)) Fa (fHO Fa ob) x=none->H x=none:=fun x e=>by
  by_cases h1:x=Fa
  ·rw[h1,zal] at e;cases e
  ·rw[zad h1] at e
   by_cases h2:x=c
   ·rw[h2,zal] at e;cases e
   ·rw[zad h2] at e
    by_cases h3:x=P
    ·rw[h3,zal] at e;cases e
    ·rw[zad h3] at e;exact e
 have st:zaN G H w (upd (upd G c (cHO c q)) Fa (fHO Fa ob)) (upd (upd (upd H P (.tbl (ps++#[.int a t,.int b u,.ref c]))) c (cHO c q)) Fa (fHO Fa ob)) w:=by
  refine ⟨sG,fun x o e=>?_,fun x o e z=>oth (fun y=>by rw[y,hw] at z;cases z) e,fun x e=>.inl e,dom⟩
  by_cases h1:x=Fa
  ·rw[h1];exact .inr (.inl hF)
  ·rw[zad h1] at e
   by_cases h2:x=c
   ·rw[h2];exact .inr (.inl hc)
   ·rw[zad h2] at e;exact .inl (by rw[e];simp)
 refine ⟨⟨fun x o e=>?_,fun x e=>?_,fun x e z=>r.wh x e (dom x z),r.len,fun i bb e=>?_,r.en.trans st,r.pin⟩,st⟩
 ·by_cases h1:x=Fa
  ·rw[h1,zal] at e ⊢;exact e
  ·rw[zad h1] at e ⊢
   by_cases h2:x=c
   ·rw[h2,zal] at e ⊢;exact e
   ·rw[zad h2] at e ⊢
    rw[zad (fun y=>by rw[y,gP] at e;cases e)]
    exact r.gh x o e
 ·have:=r.wh x e
  rw[zad (fun y=>this (by rw[y];exact hF)),zad (fun y=>this (by rw[y];exact hc))]
  exact r.wg x e
 ·obtain ⟨v,e1,e2⟩:=r.sl i bb e
  by_cases hi:i=j
  ·subst hi
   rw[hj] at e;cases e
   rw[hσ] at e1;cases e1
   refine ⟨_,hσ,P,ps++#[.int a t,.int b u,.ref c],rfl,hw,?_,?_,fun p cv hcv=>?_⟩
   ·rw[zad (Ne.symm fP),zad (Ne.symm cP),zal]
   ·rw[Array.toList_append];exact zhK T.tri
   ·rw[Array.toList_append] at hcv
    rcases zko T.tri hcv with z|z
    ·obtain ⟨c2,q1,q2⟩:=T.cod p cv z
     exact ⟨c2,q1,sG _ _ q2⟩
    ·exact ⟨c,z,by rw[zad hne,zal]⟩
  ·refine ⟨v,e1,e2.grow sG fun x o z1 z2=>⟨oth (fun y=>?_) z2,z1⟩⟩
   rw[y,hw] at z1
   exact hi (Option.some.inj z1).symm
theorem Rel.lamB(r:Rel K C G w ρ σ H)(hF:H Fa=none):Rel K C (upd G Fa (fHO Fa ob)) w ρ σ (upd H Fa (fHO Fa ob))/\zaN G H w (upd G Fa (fHO Fa ob)) (upd H Fa (fHO Fa ob)) w :=
 let gr:zdE G H (upd G Fa (fHO Fa ob)) (upd H Fa (fHO Fa ob)):=.new r.gh hF
 ⟨r.grow gr,gr.step⟩
theorem zj5{bs:List B}:∀{ρ:Ev}{k:Nat},zen [] bs k ρ = ρ
 |[],_=>rfl
 |o::r,k=>by unfold zen;rw[zj5 (ρ:=r)];rfl
end
def zsD(C:Cn)(G H:Hp)(σ:L2.St):Cn:=⟨G,H,fun _=>none,[0],σ,fun _=>False,C.xv,true⟩
abbrev HB(X:Cx)(C:Cn)(xr:Str)(st:Stmt)(f:Addr)(NR:List Str)(k:Nat)(cls:Nat->Addr)(dB:Nat->Addr->DS):Prop:=∀(XR:Cx)(CR:Cn)(n:Nat)(Fa:Addr),n<8->(∃ cdv A outer s H E,XR=zit (CXe X.prog X.w) X.prog X.w X.K X.mg X.base NR xr (zag st) f cdv A outer s H E)->(∃ G H,CR=zsD C G H (start NR [.ref Fa]))->zcg (k+1) XR.A ->
   (∀ pins σ H s,L2.Inv XR pins σ H s->zcf CR.H₀ H->codeAny (model XR.prog XR.w) XR.A (.call (.ref Fa) ⟨[],[]⟩) (fun r s'=>∃ e,r=.error e/\CXf XR.prog XR.w XR.stack H s (EL (cls n) H) e s') s) ->
   (∀ pins σ H s,L2.Inv XR pins σ H s->zcf CR.H₀ H->W.FnAt Fa s.heap)->JSs XR CR (zb7 st) (dB n (cls n))
abbrev HD(m:Nat)(dB:Nat->Addr->DS):Prop:=∀ n C',n<8->∃ ρ',dB n C' (some .opq::List.replicate m none)=.ok (.rt (.lst [.int n]),ρ')
abbrev HL(X:Cx)(xv:Nat->Value)(k:Nat)(body:Expr)(scope:Scope)(fE:De):Prop:=∀(XL:Cx)(CL:Cn),(∃ XR cl Fa cdv s H E,XR.prog=X.prog/\XR.w=X.w/\XR.K=X.K/\XR.mg=X.mg/\XR.base=X.base/\XL=ztr XR X.N scope cl (X.env.qual++"<lambda>") Fa cdv s H E)->CL.xv=xv->zcg k XL.A->zbW (CXe X.prog X.w) XL (EXc CL)->JE XL CL body fE
abbrev HA(X:Cx)(params:Arguments)(body:Expr)(scope:Scope):Prop:=∀ cl pm cdv ctv,bindArgs (W.kla_fn "<lambda>" (X.env.qual++"<lambda>") params body scope cl pm cdv ctv) ⟨[],[]⟩=pure []
abbrev kLo(X:Cx)(params:Arguments)(body:Expr)(scope:Scope)(cl:List (Str×Addr))(c:Addr)(ctv:Value):Obj:=W.kla_obj "<lambda>" (X.env.qual++"<lambda>") params body scope cl ((X.mg "__name__").getD .none) c ctv
structure zrT(X:Cx)(xv:Nat->Value)(k:Nat)(params:Arguments)(body:Expr)(scope:Scope)(fE:De):Prop where
 hE:HL X xv k body scope fE
 hfr:Hfr X scope
 hbind:HA X params body scope
 hdef:defaultsOf params X.env=([],[]):=by rfl
 hk:scope.kind=.function:=by rfl
 ho:ztg scope.names=true:=by rfl
 hco:scope.isCoroutine=false:=by rfl
 hgen:scope.isGenerator=false:=by rfl
structure znz(X:Cx)(xv:Nat->Value)(k n:Nat)(ρ:Ev)(G:Hp)(Fa:Addr):Prop where
 ex:∃ params body scope cl c ctv fE,zrT X xv k params body scope fE/\(∀ x cc,cl.lookup x=some cc->X.env.cells.lookup x=some cc)/\(∀ y∈scope.names,y.2=.free->∃ c,cl.lookup y.1=some c) /\
  G Fa=some (fHO Fa (kLo X params body scope cl c ctv))/\G c=some (cHO c (X.env.qual++"<lambda>"))/\fE (zp1 ρ)=.er n
theorem znz.same{X:Cx}{xv:Nat->Value}{k n:Nat}{ρ:Ev}{G G':Hp}{Fa:Addr}(L:znz X xv k n ρ G Fa)(e:zcf G G'):znz X xv k n ρ G' Fa:=by
 obtain ⟨params,body,scope,cl,c,ctv,fE,h1,h2,h3,h4,h5,h6⟩:=L.ex
 exact ⟨params,body,scope,cl,c,ctv,fE,h1,h2,h3,e _ _ h4,e _ _ h5,h6⟩
def tLam(X:Cx)(P:Addr)(params:Arguments)(body:Expr)(scope:Scope)(lpos:Pos)(cl:List (Str×Addr)):TE:=fun σ H Q=>∃ ps:Array Value,zlP P (X.env.qual++"<lambda>") H H ps /\
 (∀ c Fa ctv,codeAmong lpos ps.toList=none->H c=none->H Fa=none->c≠Fa->Q (.ref Fa) (upd (upd (upd H P (.tbl (ps++#[rawInt lpos.line,rawInt lpos.col,.ref c]))) c (cHO c (X.env.qual++"<lambda>"))) Fa (fHO Fa (kLo X params body scope cl c ctv)))) /\
 ∀ c Fa ctv,codeAmong lpos ps.toList=some (.ref c)->H Fa=none->Q (.ref Fa) (upd H Fa (fHO Fa (kLo X params body scope cl c ctv)))
section
variable{X:Cx}{C:Cn}{P:Addr}{params:Arguments}{body:Expr}{scope:Scope}{lpos:Pos}{cl:List (Str×Addr)}
theorem zqK(LB:zfG X P)(hdef:defaultsOf params X.env=([],[]))(hcl:closureFor scope X.env=pure cl):PE X (.Lambda params body scope lpos) (tLam X P params body scope lpos cl):=fun pins s σ H Q I ⟨ps,T,hA,hB⟩=>zrJ LB I hdef hcl T hA hB
theorem zn2{G H:Hp}{w:Wn}{ρ:Ev}{σ:L2.St}{j:Nat}{Q:VK}(r:Rel X.K C G w ρ σ H)(hj:ρ[j]? = some (some (.tab (X.env.qual++"<lambda>"))))(hσj:σ[j]? = some (some (.ref P)))
  (k:∀ Fa c ctv G1 H1,Rel X.K C G1 w ρ σ H1->zaN G H w G1 H1 w->G1 Fa=some (fHO Fa (kLo X params body scope cl c ctv))->G1 c=some (cHO c (X.env.qual++"<lambda>"))->Q (.ref Fa) H1):tLam X P params body scope lpos cl σ H Q:=by
 obtain ⟨vP,eP1,P',ps,rfl,hwP,hHP,htri,hcod⟩:=r.sl j _ hj
 rw[hσj] at eP1
 obtain rfl:P=P':=by injection eP1 with e1;injection e1 with e2;injection e2
 have T:zlP P (X.env.qual++"<lambda>") G H ps:=⟨hHP,htri,hcod⟩
 have TH:zlP P (X.env.qual++"<lambda>") H H ps:=⟨hHP,htri,fun q cv z=>let ⟨c,z1,z2⟩:=hcod q cv z;⟨c,z1,r.gh _ _ z2⟩⟩
 refine ⟨ps,TH,fun c Fa ctv _ hc hF hne=>?_,fun c Fa ctv hk' hF=>?_⟩
 ·obtain ⟨rel1,st1⟩:=r.lamA (ob:=W.kla_obj "<lambda>" (X.env.qual++"<lambda>") params body scope cl ((X.mg "__name__").getD .none) c ctv) (a:=lpos.line) (b:=lpos.col) (t:=_) (u:=_) hj hσj hwP T hc hF hne
  exact k Fa c ctv _ _ rel1 st1 zal (by rw[zad hne,zal])
 ·obtain ⟨rel1,st1⟩:=r.lamB (ob:=W.kla_obj "<lambda>" (X.env.qual++"<lambda>") params body scope cl ((X.mg "__name__").getD .none) c ctv) hF
  obtain ⟨c2,e1,e2⟩:=hcod _ _ hk'
  cases e1
  have hcH:=r.gh _ _ e2
  exact k Fa c ctv _ _ rel1 st1 zal (by rw[zad (zaf hcH hF)];exact e2)
end
section
variable{X:Cx}{C CY:Cn}{f:Addr}{fd:FuncData}{st:Stmt}{xq xr:Str}{NR:List Str}{m k n:Nat}{dB:Nat->Addr->DS}
end
section
variable{X:Cx}{C:Cn}{P f:Addr}{fd:FuncData}{st:Stmt}{xq xr:Str}{NR:List Str}{m k j:Nat}{p pos lpos:Pos}{params:Arguments}{body:Expr}{scope:Scope}{fE:De}{dB:Nat->Addr->DS}
end
theorem zly{P:Program}{w:World}{K:W.Frag}{mg mb:Str->Option Value}{CX:CXT}{k:Nat}{fa a PT cL:Addr}{fd:FuncData}{x:Str}{sp:Sp}{s₁:Shared}{vs:List Value}{ns:List Int}
  (KX:K.In s₁.heap) (hns:s₁.heap.Ns mainGlobals mg) (hb:s₁.heap.Ns builtinsNs mb) (hbb:∀ x:Str,x≠"__name__"->mb x=bootBuiltins x) (hlim:s₁.heap.NoLimit) (hg:s₁.gens=#[])
  (ha:s₁.heap.get? a=some { cls:=.type "list",data:=.seq vs.toArray }) (hi:IntsAre vs ns) (hl:ns.length<=sizeLine) (hr:zcg k callerA)
  (hPT:s₁.heap.get? PT=some (W.tabObj #[])) (hnt:W.noTabs K=true) (hcode:W.codeHdIn K cL PT=true) (hbm:s₁.heap.BuiltinsAt mg PT)
  (F:∀ base:Heap,K.In base->base.Ns mainGlobals mg->base.BuiltinsAt mg PT->zf1 P w K mg base CX k fa fd [x] sp) (hbind:∀(s:Shared)(u:Value),BindsTo s fd ⟨[u],[]⟩ [(x,u)])
  (hsp:∀ H:Hp,H PT=some (.tbl #[])->SqL K H a (ns.map V.int)->sp [.ref a] H (fun v _=>v=.bl true) fun _ _ _=>False)
  (hCX:∀ H e s',CX [] H s₁ (fun _ _ _=>False) e s'->False) :
  codeAny (model P w) callerA (.call (.ref fa) ⟨[.ref a],[]⟩) (fun r s'=>r=.ok (.ret (.bool true))/\OldK s₁.heap s'.heap/\s'.os=s₁.os/\AllBare s'.gens) s₁:=by
 have rv:=zdo hi
 have lenV:=hi.length
 have aP:a≠PT:=fun z=>by
  rw[z,hPT] at ha
  have:=congrArg Obj.cls (Option.some.inj ha)
  cases this
 have kP:K.lookup PT=none:=by
  cases q:K.lookup PT with
  |none=>rfl
  |some o =>
   have e:=KX _ _ q
   rw[hPT] at e
   have h2:=List.all_eq_true.mp hnt (PT,o) (W.mem_of_lookupK q)
   cases e
   exact absurd (show false=true from h2) Bool.false_ne_true
 have core:∀ H:Hp,(∀ b,b≠PT->H b=none\/∃ o xs,H b=some (.frz o (.lst xs)))->H PT=some (.tbl #[])->SqL K H a (ns.map V.int)->HOk P w H s₁.heap->(∀ b,H b≠none->b=a\/b=PT)->(H a≠none->K.lookup a=none) ->
   codeAny (model P w) callerA (.call (.ref fa) ⟨[.ref a],[]⟩) (fun r s'=>r=.ok (.ret (.bool true))/\OldK s₁.heap s'.heap/\s'.os=s₁.os/\AllBare s'.gens) s₁:=by
  intro H hO hP hS hok hA hK
  have base_of:∀{b:Addr}{o:Obj},s₁.heap.get? b=some o->H b=none->(zmD s₁.heap H).get? b=some o:=fun e n=>zne e n
  have other:∀{b:Addr}{o:Obj},s₁.heap.get? b=some o->o.cls≠.type "list"->o.cls≠.none->H b=none:=fun {b o} e d1 d2=>by
   cases q:H b with
   |none=>rfl
   |some u =>
    rcases hA b (by rw[q];simp) with z|z
    ·rw[z,ha] at e;cases e;exact absurd rfl d1
    ·rw[z,hPT] at e;cases e;exact absurd rfl d2
  have noA:∀{b:Addr}{o:Obj}{es:Array DictEntry}{ep:Nat},s₁.heap.get? b=some o->o.data=.dict es ep->H b=none:=fun {b o es ep} e d=>by
   cases q:H b with
   |none=>rfl
   |some u =>
    rcases hA b (by rw[q];simp) with z|z
    ·rw[z,ha] at e;cases e;cases d
    ·rw[z,hPT] at e;cases e;cases d
  have nsK:∀{b:Addr}{m:Str->Option Value},s₁.heap.Ns b m->(zmD s₁.heap H).Ns b m:=fun {b m} ⟨o,es,ep,e,d,r⟩=>⟨o,es,ep,base_of e (noA e d),d,r⟩
  have hKb:K.In (zmD s₁.heap H):=fun b o e=>base_of (KX b o e) (by
   cases q:H b with
   |none=>rfl
   |some u =>
    rcases hA b (by rw[q];simp) with z|z
    ·subst z
     rw[hK (by rw[q];simp)] at e;cases e
    ·rw[z,kP] at e;cases e)
  have hM:Mod K mg (zmD s₁.heap H):=⟨hKb,nsK hns,⟨mb,nsK hb,hbb⟩,let ⟨mc,h1,h2⟩:=hlim;⟨mc,nsK h1,h2⟩⟩
  have hbm':(zmD s₁.heap H).BuiltinsAt mg PT:=by
   obtain ⟨bm,o,b1,b2,b3,b4,b5,b6,b7⟩:=hbm
   exact ⟨bm,o,b1,b2,b3,b4,base_of b5 (other b5 (by rw[b6];decide) (by rw[b6];intro z;cases z)),b6,b7⟩
  have e0:zo6 P w K mg (zmD s₁.heap H) callerA [] s₁ H:=⟨rfl,hM,fun b o e=>zpL e,Nat.le_of_eq (zkM _ _),trivial,fun b hb=>absurd (show b∈([]:List Addr) from hb) (by simp),hok,.of_eq hg⟩
  refine codeAny_mono ((F _ hKb (nsK hns) hbm').run callerA [] s₁ H ⟨[.ref a],[]⟩ [.ref a] [.ref a] _ _ hr e0 (hbind s₁ (.ref a)) (.cons rfl .nil) (hsp H hP hS)) fun r s' h=>?_
  cases r with
  |error e=>exact (hCX H e s' h).elim
  |ok fl =>
   cases fl with
   |next=>exact False.elim h
   |brk=>exact False.elim h
   |cont=>exact False.elim h
   |ret u =>
    obtain ⟨v,H',os,bare,un,hok',r',q⟩:=h
    have q':v=.bl true:=q
    subst q'
    obtain rfl:u=Value.bool true:=r'
    have kept:∀ b o,b≠PT->s₁.heap.get? b=some o->s'.heap.get? b=some o:=fun b o hb e=>by
     cases q:H b with
     |none=>exact un.keep b o e q (by intro z;exact absurd (show b∈([]:List Addr) from z) (by simp)) (by simp)
     |some u =>
      rcases hO b hb with z|⟨ob,xs,z⟩
      ·rw[q] at z;cases z
      ·have z2:=un.frzs b ob _ z
       obtain ⟨e1,_⟩:=hok b _ z
       obtain ⟨e2,_⟩:=hok' b _ z2
       rw[e] at e1;cases e1
       exact e2
    obtain ⟨more,hm⟩:=un.tbls PT #[] hP
    have hPT':s'.heap.get? PT=some (W.tabObj (#[]++more)):=hok' PT _ hm
    have tab:=(W.codeHd_of_K KX hcode).tab hPT
    refine ⟨rfl,⟨fun b o e=>?_,fun b o e=>?_⟩,os,bare⟩
    ·by_cases hb:b=PT
     ·subst hb
      rw[hPT] at e;cases e
      exact .inr (.inl ⟨tab.isCodeTable,rfl,#[],more,rfl,hPT'⟩)
     ·exact .inl (kept b o hb e)
    ·by_cases hb:b=PT
     ·subst hb;exact ⟨_,hPT'⟩
     ·exact ⟨o,kept b o hb e⟩
 cases hk:K.lookup a with
 |some o =>
  have e:=KX a o hk
  rw[ha] at e
  cases e
  refine core (fun b=>if b=PT then some (.tbl #[]) else none) (fun b hb=>.inl (if_neg hb)) (if_pos rfl) (.inr ⟨_,vs.toArray,_,hk,rfl,rfl,rfl,by rw[List.size_toArray,lenV];exact hl,by simpa using rv⟩) (fun b u z=>?_) (fun b z=>?_) fun z=>absurd (if_neg aP) z
  ·by_cases hb:b=PT
   ·have z':=(if_pos hb).symm.trans z
    cases z'
    subst hb
    exact hPT
   ·have z':=(if_neg hb).symm.trans z
    cases z'
  ·by_cases hb:b=PT
   ·exact .inr hb
   ·exact absurd (if_neg hb) z
 |none =>
  refine core (fun b=>if b=PT then some (.tbl #[]) else if b=a then some (.frz { cls:=.type "list",data:=.seq vs.toArray } (.lst (ns.map V.int))) else none) (fun b hb=>?_) (if_pos rfl) (.inl (.inr ⟨{ cls:=.type "list",data:=.seq vs.toArray },(if_neg aP).trans (if_pos rfl)⟩)) (fun b u z=>?_) (fun b z=>?_) fun _=>hk
  ·by_cases hba:b=a
   ·exact .inr ⟨_,_,(if_neg hb).trans (if_pos hba)⟩
   ·exact .inl ((if_neg hb).trans (if_neg hba))
  ·by_cases hb:b=PT
   ·have z':=(if_pos hb).symm.trans z
    cases z'
    subst hb
    exact hPT
   ·have z:=(if_neg hb).symm.trans z
    by_cases hba:b=a
    ·have z':=(if_pos hba).symm.trans z
     cases z'
     subst hba
     exact ⟨ha,by rw[List.length_map];exact hl,vs,_,rv,ha⟩
    ·have z':=(if_neg hba).symm.trans z
     cases z'
  ·by_cases hb:b=PT
   ·exact .inr hb
   ·by_cases hba:b=a
    ·exact .inl hba
    ·exact absurd ((if_neg hb).trans (if_neg hba)) z
theorem znm{l:W.OpenLaw}{n k:Nat}{q:Program}{loose:List Str}{XP:(Str->Option Value)->Heap->Prop}{YP:World->Heap->Prop}{d:DefRec}{K:Params->W.Frag}{CX:World->CXT}{sp:World->Sp}{x:Str}{PT:Addr}
  (hn:l.most=some n) (hn2:n<=sizeLine) (hdf:d.params.defaults=[]) (hr:zcg k callerA)
  (hY:∀(w:World)(h:Heap),YP w h->(K w.params).In h) (hYT:∀(w:World)(h:Heap),YP w h->h.get? PT=some (W.tabObj #[])) (hnt:∀ w:World,W.noTabs (K w.params)=true)
  (F:∀(w:World)(mg:Str->Option Value)(fa:Addr)(h:Heap),(K w.params).In h->h.Ns mainGlobals mg->mg d.name=some (.ref fa) ->
   ∃(fd:FuncData)(cL:Addr),(∀(s:Shared)(u:Value),BindsTo s fd ⟨[u],[]⟩ [(x,u)])/\W.codeHdIn (K w.params) cL PT=true /\
    ∀ base:Heap,(K w.params).In base->base.Ns mainGlobals mg->base.BuiltinsAt mg PT->zf1 l.prog w (K w.params) mg base (CX w) k fa fd [x] (sp w))
  (hsp:∀(w:World)(H:Hp)(a:Addr)(ns:List Int),ns.length<=n->H PT=some (.tbl #[])->SqL (K w.params) H a (ns.map V.int)->sp w [.ref a] H (fun v _=>v=.bl true) fun _ _ _=>False)
  (hCX:∀(w:World)(H:Hp)(s:Shared)(e:Value)(s':Shared),CX w [] H s (fun _ _ _=>False) e s'->False) :
  W.WalkO q loose XP YP l.row.toRowW d [] (fun f vs=>PySem.call f vs):=by
 refine Att.attach_call hn hdf fun w s₀ s₁ mg mb fa o pm cd doc a vs ns G Y ho hd hcd hmg hobj hints hlen hg=>?_
 have KX:=hY w _ Y
 have hPT:=hYT w _ Y
 obtain ⟨fd,cL,hb,hcode,hF⟩:=F w mg fa _ KX G.T.g hmg
 have hbm:s₁.heap.BuiltinsAt mg PT:=by
  obtain ⟨bm,ob,b1,b2,b3,b4,b5,b6⟩:=G.T.bmain
  refine ⟨bm,ob,b1,b2,fun z=>?_,fun z=>?_,b3,b4,b5,b6⟩
  ·obtain ⟨o',es,ep,e,hd',_⟩:=G.T.g
   rw[z,e] at b3;cases b3;rw[hd'] at b6;cases b6
  ·rw[z,hPT] at b3;cases b3;cases b4
 exact zly KX G.T.g G.T.b G.T.builtins G.T.nolimit hg hobj hints (Nat.le_trans hlen hn2) hr hPT (hnt w) hcode hbm hF hb (fun H hP hS=>hsp w H a ns hlen hP hS) fun H e s'=>hCX w H s₁ e s'
theorem zik{X:Cx}{pins:List (Addr×Obj)}{σ:L2.St}{H:Hp}{s:Shared}{j:Nat}{x:Str}{o:Option V}(I:L2.Inv X pins σ H s)(hj:X.N[j]? = some x)(hv:¬ Vis X.env.scope x):L2.Inv X pins (σ.set j o) H s:=by
 refine ⟨I.ok,I.os,I.bare,I.base,?_,I.cell,I.free,I.freeC,I.pin,I.hok,by simpa using I.len⟩
 obtain ⟨m,hn,hl⟩:=I.loc
 refine ⟨m,hn,fun i y v e1 e2 e3=>?_⟩
 by_cases hi:i=j
 ·subst hi
  rw[hj] at e1;cases e1
  exact absurd e3 hv
 ·rw[List.getElem?_set_ne (Ne.symm hi)] at e2
  exact hl i y v e1 e2 e3
def spT(K:W.Frag)(PT:Addr)(ok:List Int->Prop):Sp:=fun vs H Q _=>∃ a ns,vs=[.ref a]/\SqL K H a (ns.map V.int)/\H PT=some (.tbl #[])/\ok ns/\∀ H',Q (.bl true) H'
def zq5(m:Nat)(q:Str)(fb:DS)(ns:List Int):Prop:=∃ ρ',fb (some (.val (.scr ns))::(List.replicate m none++[some (.tab q)]))=.ok (.rt (.bl true),ρ')
theorem zmC{P:Program}{w:World}{X:Cx}{C:Cn}(h:∀ n,¬ C.ex n):zbW (CXe P w) X (EXc C):=fun _ _ _ _ _ _ _ hx=>by
 rcases hx with ⟨_,_,_,_,_,_,_,_,_,_,_,_,_,_,_,n,_,z,_⟩|⟨_,_,_,_,_,_,_,_,n,_,z,_⟩ <;> exact (h n z).elim
section
variable{X:Cx}{C:Cn}{a b:Expr}{fa fb:De}{pos:Pos}
def ze8:Dt->Dt->R Dt
 |.tup x,.tup y=>if x.length+y.length<=16777216 then .ok (.tup (x++y)) else .no
 |_,_=>.no
def zq9(K:W.Frag):R2:=fun x y H Q=>∃ a b xs ys,x=.ref a/\y=.ref b/\SqT K H a xs/\SqT K H b ys/\xs.length+ys.length<=sizeLine /\
 (xs=[]->Q (.ref b) H)/\(xs≠[]->ys=[]->Q (.ref a) H)/\(xs≠[]->ys≠[]->∀ p,H p=none->Q (.ref p) (upd H p (.tup (xs++ys))))
theorem znL{prog:Program}{w:World}{A:Around}{E:Value->Shared->Prop}{s:Shared}{t b:Addr}{ws:List Value}{Q:Value->Shared->Prop}(ht:IsTup s.heap t ([]:List Value).toArray)(hb:IsTup s.heap b ws.toArray)(h:Q (.ref b) s) :
  wpAny (model prog w) A (binaryOp .Add (.ref t) (.ref b)) Q E s:=by
 obtain ⟨⟨c1,d1,dt1,sl1⟩,e1,q1,n1,r1⟩:=id ht
 obtain ⟨⟨c2,d2,dt2,sl2⟩,e2,q2,n2,r2⟩:=id hb
 simp only at q1 r1 q2 r2
 subst q1 r1 q2 r2
 exact concat_meets ⟨_,e1,rfl⟩ ⟨_,e2,rfl⟩ noFill_tuple_add seq_tuple_add F.slot_tuple_add F.entry_tuple_add (F.args_tuple_add_2 _ _) (tuple_addW0 t b ([]:List Value).toArray ws.toArray n1 n2 d1 d2 sl1 sl2 rfl) ⟨e1,e2,h⟩
theorem zoX:OpR X (binaryOp .Add) (zq9 X.K):=by
 intro pins s σ H x y v u Q I rx ry h
 obtain ⟨a,b,xs,ys,rfl,rfl,ha,hb,hz,q0,q1,q2⟩:=h
 by_cases hx:xs=[]
 ·subst hx
  cases rx
  cases ry
  obtain ⟨its,r1,p1,_⟩:=I.tuple ha
  obtain ⟨its2,r2,p2,_⟩:=I.tuple hb
  obtain rfl:its=[]:=by cases r1;rfl
  exact znL p1 p2 ⟨.ref b,H,I,rfl,q0 rfl⟩
 ·exact zoT pins s σ H _ _ v u Q I rx ry ⟨a,b,xs,ys,rfl,rfl,ha,hb,hx,hz,q1 hx,q2 hx⟩
theorem zmG:Op2 X.K (zq9 X.K) ze8:=fun G H x y dx dy z Q sm hx hy e k=>by
 unfold ze8 at e
 split at e
 ·rename_i l l'
  split at e
  ·rename_i hl
   cases e
   obtain ⟨a,vs,rfl,h1,h2⟩:=zbh hx
   obtain ⟨b,us,rfl,h3,h4⟩:=zbh hy
   have nil_of:∀{m:List Dt}{ws:List V},zaw X.K G m ws->ws=[]->m=[]:=fun {m ws} r z=>by
    have:=r.length;rw[z] at this;exact List.length_eq_zero_iff.mp this
   refine ⟨a,b,vs,us,rfl,rfl,za5 sm h1,za5 sm h3,by rw[<- h2.length,<- h4.length,zdF];exact hl,fun z=>?_,fun _ z=>?_,fun _ _ p hp=>?_⟩
   ·rw[nil_of h2 z] at k;exact k _ G H (.refl sm) hy
   ·rw[nil_of h4 z,List.append_nil] at k;exact k _ G H (.refl sm) hx
   ·have gr:zdE G H (upd G p (.tup (vs++us))) (upd H p (.tup (vs++us))):=.new sm hp
    exact k _ _ _ gr (by unfold Rep;exact ⟨p,_,rfl,zhv.of zal,(h2.same gr.g).append (h4.same gr.g)⟩)
  ·cases e
 ·cases e
theorem zlm:zha ze8:=fun x y n h=>by
 unfold ze8 at h
 split at h
 ·split at h <;> cases h
 ·cases h
theorem zms(ha:JE X C a fa)(hb:JE X C b fb):JE X C (.BinOp a .Add b pos) (dOp ze8 fa fb):=ziG zoX zmG zlm ha hb
end
section
variable{X:Cx}{C:Cn}
theorem JE.eq{e:Expr}{f g:De}(h:JE X C e f)(q:f=g):JE X C e g:=q ▸ h
theorem JA.eq{e:List Expr}{f g:DA}(h:JA X C e f)(q:f=g):JA X C e g:=q ▸ h
end
section
variable{X:Cx}{C:Cn}{a b:Expr}{fa fb:De}{pos:Pos}
end
end PV
end
section
namespace PV
open PySem PySem.Spec L2
open AutoSeq1 (wpAny_loadPart')
section
variable{X:Cx}{C:Cn}{a b o e:Expr}{es:List Expr}{fa fb:De}{pos apos cpos:Pos}{name:Str}{id:String}{to:TE}{t:TA}{r:V->List V->Hp->VK->Prop}
end
section
variable{X:Cx}{C:Cn}{e1 e2:Expr}{fk fv:De}{pos ps apos:Pos}{x:Str}
def zpf:V->List V->Hp->VK->Prop:=fun x vs H Q=>∃ l xs k y,x=.ref l/\vs=[.int k,y]/\H l=some (.lst xs)/\0<=k/\k.toNat<=xs.length/\xs.length<sizeLine/\Q .non (upd H l (.lst (xs.take k.toNat++y::xs.drop k.toNat)))
theorem ziC{y1 y2:V}{us:List Value}(h:zaM [y1,y2] us):∃ u1 u2,us=[u1,u2]/\zaF y1 u1/\zaF y2 u2:=by
 cases h with
 |cons h1 t=>cases t with
  |cons h2 t2=>cases t2;exact ⟨_,_,rfl,h1,h2⟩
theorem zhS:∀(k:Nat){xs:List V}{us:List Value},zaM xs us->zaM (xs.take k) (us.take k)
 |0,_,_,_=>by simpa using Paired.nil
 |k+1,_,_,.nil=>by simpa using Paired.nil
 |k+1,_,_,.cons h t=>by simpa using Paired.cons h (zhS k t)
theorem zic:∀(k:Nat){xs:List V}{us:List Value},zaM xs us->zaM (xs.drop k) (us.drop k)
 |0,_,_,h=>by simpa using h
 |k+1,_,_,.nil=>by simpa using Paired.nil
 |k+1,_,_,.cons h t=>by simpa using zic k t
theorem zpb{k:Int}(h0:0<=k)(h:k.toNat<16777216):¬ (!Builtin.List.listFitsIndex k)=true:=by
 have:Builtin.List.listFitsIndex k=true:=fitsIndex_both (by omega) (by omega)
 rw[this];exact Bool.false_ne_true
theorem zoP(its:List Value)(k:Int)(u2:Value)(h0:0<=k)(hk:k.toNat<=its.length):(have m:=if k<0 then (k+(its.toArray.size:Int)).toNat else min k.toNat its.toArray.size;(its.toArray.extract 0 m).push u2++its.toArray.extract m)=(its.take k.toNat++u2::its.drop k.toNat).toArray:=by
 have e:(if k<0 then (k+(its.toArray.size:Int)).toNat else min k.toNat its.toArray.size)=k.toNat:=by
  rw[if_neg (by omega),List.size_toArray,Nat.min_eq_left hk]
 dsimp only
 rw[e]
 apply Array.ext'
 simp
 rw[List.take_of_length_le (by simp)]
theorem zlt:MtM X "list.insert" zpf:=by
 intro pins s σ H x vs v us Q I rx rv h
 obtain ⟨l,xs,k,y,rfl,rfl,hH,h0,hk,hz,q⟩:=h
 cases rx
 obtain ⟨u1,u2,rfl,⟨t,ru1⟩,ru2⟩:=ziC rv
 subst ru1
 obtain ⟨z,its,n,r,hl,e⟩:=I.lstM hH
 have hfit:=zpb h0 (show k.toNat<16777216 by rw[<- zdF];omega)
 have hsz0:its.toArray.size<=sizeLine:=by rw[List.size_toArray];omega
 refine call_meets F.slot_list_insert ⟨_,e,rfl⟩ F.entry_list_insert (F.args_list_insert_3 _ _ _) (AutoSeq1.list_insert_list_int_val_1 l its.toArray n k t u2 hfit hsz0) ⟨e,?_⟩
 refine ⟨.non,_,I.lset (its':=its.take k.toNat++u2::its.drop k.toNat) hH e (zoP its k u2 h0 (by omega)) ((zhS _ r).append (.cons ru2 (zic _ r))) ?_,rfl,q⟩
 rw[List.length_append,List.length_cons,List.length_take,List.length_drop]
 omega
def zkn(i:Nat)(fk fv:De):De:=fun ρ=>match ρ[i]? with
 |some (some (.own _))=>(fk ρ).bind fun k=>(fv k.2).bind fun v=>match v.2[i]?,k.1 with
  |some (some (.own ds)),.int n=>if 0<=n/\n<=ds.length/\ds.length<16777216 then .ok (.non,v.2.set i (some (.own (ds.take n.toNat++v.1::ds.drop n.toNat)))) else .no
  |_,_=>.no
 |_=>.no
theorem zqv(i:Nat)(hk:JE X C e1 fk)(hw:JE X C e2 fv)(hN:X.N[i]? = some x:=by rfl)(hv:Vis X.env.scope x:=by first|exact Or.inl rfl|exact Or.inr (Or.inl rfl)|exact Or.inr (Or.inr rfl))(hd:(x == ("__debug__" : Str))=false:=by decide)(hcd:(x == ("__classdict__" : Str))=false:=by decide)
  (hbase:attributeBase (.Name x ps) "insert" X.env (eval (.Name x ps) X.env)=eval (.Name x ps) X.env:=by rfl)
  (hfew:((backTo pos (starEach [e1,e2] X.env)).all (fun x=>!x.1) && (backToKw pos (keywordEach [] X.env)).all (fun x=>x.1.isSome) && decide ([e1,e2].length+([]:List Keyword).length+(if ([]:List Keyword).isEmpty then 0 else 1)<30))=true:=by rfl)
  (hline:(apos.endLine == pos.line)=true:=by rfl) (hs:starEach [e1,e2] X.env=(false,eval e1 X.env)::starEach [e2] X.env:=by rfl) (hs2:starEach [e2] X.env=(false,eval e2 X.env)::starEach [] X.env:=by rfl) (hplain:(backTo pos (starEach [e2] X.env)).any (·.1)=false:=by rfl) :
  JE X C (.Call (.Attribute (.Name x ps) "insert" apos) [e1,e2] [] pos) (zkn i fk fv) :=
 PE.weak (zng PySem.F.plainAttrs_list PySem.F.slot_list_insert PySem.F.type_list_insert zlt (zb1 hN hv hd hcd) (zbi hk (zbi hw zdi hs2) hs) hbase hfew hline hs hplain) fun σ H Q ⟨G,w,ρ,r,p⟩=>by
  unfold zkn at p
  split at p
  ·rename_i ds0 e0
   obtain ⟨a,vs,h1,h2,h3,h4⟩:=zc0 r e0
   refine ⟨.ref a,h1,.inl ⟨rfl,vs,SqL.of h3⟩,?_⟩
   refine zch (κ:=fun G H w=>kE X.K C σ Q G H w) zbt r p fun dk ρ1 v1 G1 H1 w1 r1 s1 q1 p1=>?_
   refine zch (κ:=fun G H w=>kE X.K C σ Q G H w) zbt r1 p1 fun dv ρ2 v2 G2 H2 w2 r2 s2 q2 p2=>?_
   dsimp only at p2
   split at p2
   ·rename_i ds n e2
    obtain ⟨a',vs',k1,k2,k3,k4⟩:=zc0 r2 e2
    rw[h1] at k1;cases k1
    split at p2
    ·rename_i hl
     obtain ⟨r',s'⟩:=r2.mutate e2 h1 k2 ((k4.take n.toNat).append (zaw.cons q2 (k4.drop n.toNat)))
     have hlen:=k4.length
     exact ⟨a,vs',n,v2,rfl,by rw[zam q1],k3,hl.1,by omega,by rw[<- hlen,zdF];exact hl.2.2,p2 _ _ _ _ s' r' (by unfold Rep;rfl)⟩
    ·exact p2.elim
   ·exact p2.elim
  ·exact p.elim
end
def Ite(K:W.Frag)(a:Addr):It :=
 ⟨fun i H=>∃ xs x,SqL K H a xs/\xs[i]? = some x,
   fun i H v H'=>∃ p x,v=.ref p/\H p=none/\H'=upd H p (.tup [.int (i:Nat),x])/\∀ xs,SqL K H a xs->xs[i]? = some x,
   fun i H=>∃ xs,SqL K H a xs/\xs.length<=i⟩
structure Ep(h:Heap)(e it l:Addr)(i:Nat):Prop where
 e:∃ old,IsEnum h e it i old
 a:h.IsListIter it l i
theorem Ep.keep{h h':Heap}{e it l:Addr}{i:Nat}(p:Ep h e it l i)(k:∀ b∈[e,it],∀ o,h.get? b=some o->h'.get? b=some o):Ep h' e it l i :=
 ⟨let ⟨old,q⟩:=p.e;⟨old,k e (by simp) _ q⟩,p.a.at fun o q=>k it (by simp) o q⟩
theorem zjE{X:Cx}{pins:List (Addr×Obj)}{σ:L2.St}{H:Hp}{s:Shared}{a b:Addr}{xs:List V}(I:L2.Inv X pins σ H s)(hf:zdt X pins H b)(hs:SqL X.K H a xs):b≠a:=by
 rintro rfl
 rcases hs with (h|⟨o,h⟩)|⟨o,its,n,h,_⟩
 ·rw[hf.1] at h;cases h
 ·rw[hf.1] at h;cases h
 ·have hb:=I.mod.kin b o h
  rcases hf.2.2.2.1 with z|z
  ·exact I.ok.noex b o hb z
  ·exact absurd (Nat.lt_of_lt_of_le (Heap.lt_size hb) (Nat.le_trans I.ok.bsz z)) (Nat.lt_irrefl _)
theorem zmm{P:Program}{w:World}{K:W.Frag}{elts:List Expr}{x1}{ps:Pos}{a e it:Addr}(hne:e≠it):zmA P w K (.Tuple elts x1 ps) (Ite K a) [e,it] e (fun i h=>Ep h e it a i) where
 mem:=by simp
 obj:=fun i h st c hc=>by
  obtain ⟨⟨old,s1⟩,⟨o4,s4,_,d4⟩⟩:=st
  simp only[List.mem_cons,List.not_mem_nil,or_false] at hc
  rcases hc with rfl|rfl
  ·exact ⟨_,s1,fun v q=>by cases q⟩
  ·exact ⟨_,s4,fun v q=>by rw[d4] at q;cases q⟩
 keep:=fun i h h' st k=>st.keep k
 item:=by
  intro X hP hw hK hc i pins s σ H E I hf st hg
  subst hP hw hK
  obtain ⟨xs,x,q1,hx⟩:=hg
  obtain ⟨its,rv,p,hz⟩:=I.list q1
  obtain ⟨u,hu,ru⟩:=rv.get hx
  obtain ⟨old,he⟩:=st.e
  refine wpAny_pyNext_enum_item he st.a p.isList (x:=u) (by simpa using hu) hne fun h' a1 a2 a3 a4 a5=>?_
  refine ⟨_,rfl,wpAny_letOwnedTupleGo_enum a1 fun h2 he2 sb=>?_⟩
  have hel:e<s.heap.objs.size:=Heap.lt_size he
  have hitl:it<s.heap.objs.size:=by obtain ⟨o,ho,_⟩:=st.a;exact Heap.lt_size ho
  have hzp:∀ c∈[e,it],c≠s.heap.objs.size:=fun c hc q=>by
   simp only[List.mem_cons,List.not_mem_nil,or_false] at hc
   rcases hc with rfl|rfl
   ·exact absurd (q ▸ hel) (Nat.lt_irrefl _)
   ·exact absurd (q ▸ hitl) (Nat.lt_irrefl _)
  have st2:Ep h2 e it a (i+1):=⟨⟨_,he2⟩,a2.extBut sb.extBut (Ne.symm hne)⟩
  have hk2:∀ c ob,c∉[e,it]->s.heap.get? c=some ob->h2.get? c=some ob:=fun c ob nc q=>by
   simp only[List.mem_cons,List.not_mem_nil,or_false,not_or] at nc
   exact sb.extBut _ _ nc.1 (a5 c ob nc.1 nc.2 q)
  have hth:∀ c ob,s.heap.get? c=some ob->∃ ob',h2.get? c=some ob':=fun c ob q=>by
   by_cases nc:c∈[e,it]
   ·simp only[List.mem_cons,List.not_mem_nil,or_false] at nc
    obtain ⟨⟨o1,s1⟩,⟨o4,s4,_⟩⟩:=st2
    rcases nc with rfl|rfl
    ·exact ⟨_,s1⟩
    ·exact ⟨_,s4⟩
   ·exact ⟨ob,hk2 c ob nc q⟩
  have hnew:h2.get? s.heap.objs.size=some { cls:=.type "tuple",data:=.seq #[.int i s.toks,u] }:=sb.extBut _ _ (Ne.symm (hzp e (by simp))) a3
  have IN:L2.Inv X pins σ (upd H s.heap.objs.size (.tup [.int (i:Nat),x])) { s with heap:=h2,toks:=s.toks+1 }:=zdO (s:=s) (t':=s.toks+1) (o:=.tup [.int (i:Nat),x]) I hf hk2 (Nat.le_refl _) hth ⟨by show 2<=sizeLine;decide,[.int i s.toks,u],.cons ⟨_,rfl⟩ (.cons ru .nil),0,hnew⟩
  exact ⟨.ref s.heap.objs.size,_,IN,rfl,
   ⟨_,x,rfl,I.hok.fresh (Nat.le_refl _),rfl,fun zs q=>by rw[I.list_inj q q1];exact hx⟩,st2,fun c hc=>by rw[zad (hzp c hc)];exact (hf c hc).1⟩
 done:=by
  intro X hP hw hK hc i pins s σ H E I hf st hg
  subst hP hw hK
  obtain ⟨xs,q1,hx⟩:=hg
  obtain ⟨its,rv,p,hz⟩:=I.list q1
  have hl:=rv.length
  obtain ⟨old,he⟩:=st.e
  refine wpAny_pyNext_enum_end (I.ok.hd hc) he st.a p.isList (by simp;omega) fun h' hk=>⟨rfl,?_⟩
  refine zaY (t':=s.toks) I hf fun c ob nc q=>?_
  simp only[List.mem_cons,List.not_mem_nil,or_false,not_or] at nc
  exact hk c ob nc.2 q
 self:=fun _ _ _ _ _ st h=>let ⟨_,he⟩:=st.e;wpAny_pyIter_enum he h
def zk4(l:List Dt):List Dt:=(List.range l.length).zip l |>.map fun z=>.tup [.int (z.1:Nat),z.2]
def zkS(fa:De):DA:=fun ρ=>(fa ρ).bind fun a=>match a.1 with
 |.lst l=>.ok (zk4 l,a.2)
 |_=>.no
theorem zqU{K:W.Frag}{G:Hp}{a:Addr}{vs:List V}{ds:List Dt}(hs:G a=some (.lst vs))(q:zaw K G ds vs):zlJ K (Ite K a) G (zk4 ds):=fun i G1 H s1 s2=>by
 have h1:SqL K H a vs:=SqL.of (s2 _ _ (s1 _ _ hs))
 refine ⟨fun d e=>?_,fun h=>⟨vs,h1,?_⟩⟩
 ·unfold zk4 at e
  rw[List.getElem?_map] at e
  have hi:i<ds.length:=by
   by_cases hi:i<ds.length
   ·exact hi
   ·rw[List.getElem?_eq_none (by rw[List.length_zip,List.length_range];omega)] at e;cases e
  have z1:(List.range ds.length)[i]? = some i:=by simp[hi]
  have z2:ds[i]? = some ds[i]:=by simp[hi]
  obtain ⟨v,e1,e2⟩:=q.get z2
  have ed:d=.tup [.int (i:Nat),ds[i]]:=by
   rw[(List.getElem?_zip_eq_some (z:=(i,ds[i]))).mpr ⟨z1,z2⟩] at e
   exact (Option.some.inj e).symm
  refine ⟨⟨vs,v,h1,e1⟩,fun x H' y=>?_⟩
  obtain ⟨p,x',rfl,hp,rfl,k1⟩:=y
  have kx:=k1 vs h1
  rw[e1] at kx
  cases kx
  have gr:zdE G1 H (upd G1 p (.tup [.int (i:Nat),v])) (upd H p (.tup [.int (i:Nat),v])):=.new s2 hp
  refine ⟨_,gr,?_⟩
  rw[ed]
  unfold Rep
  exact ⟨p,[.int (i:Nat),v],rfl,zhv.of zal,zaw.cons (zax _) (zaw.cons ((e2.same s1).same gr.g) zaw.nil)⟩
 ·rw[<- q.length]
  unfold zk4 at h
  simpa using h
section
variable{X:Cx}{C:Cn}{elts:List Expr}{x1:Nat}{pt:Pos}{a:Expr}{fa:De}{p pos:Pos}
theorem zp8(hg:Gl X "enumerate")(hm:X.mg "enumerate"=none)(ha:JE X C a fa)(hs:starEach [a] X.env=(false,eval a X.env)::starEach [] X.env:=by rfl)(hpl:(backTo pos (starEach [] X.env)).any (·.1)=false:=by rfl) :
  JI X C (.Tuple elts x1 pt) (.Call (.Name "enumerate" p) [a] [] pos) (zkS fa):=by
 intro pins s σ H R I ⟨G,w,ρ,r,pp⟩
 refine PyProof.Rows.Call_ (zei I hg hm PyProof.Rows.boot_enumerate (PyProof.Rows.callWith_type1 (thn (zai ha zaz hs pos pins s σ H (fun vs H1=>∃(l1:Addr)(xs:List V),vs=[.ref l1]/\SqL X.K H1 l1 xs/\R (Ite X.K l1) H1) I ?_) fun us s1 ⟨vs,H1,I1,r1,q1⟩=>?_) hs hpl))
 ·refine ⟨G,w,ρ,r,?_⟩
  unfold zkS at pp
  unfold dA dA0
  cases e:fa ρ with
  |ok x =>
   obtain ⟨d,ρ1⟩:=x
   rw[e] at pp
   simp only[PV.R.bind_ok] at pp ⊢
   intro vs G1 H1 w1 s1 r1 q
   obtain ⟨v,rfl,k1⟩:=zdL q
   cases d with
   |lst l =>
    obtain ⟨a1,xs,rfl,m1,m2⟩:=za7 k1
    exact ⟨a1,xs,rfl,SqL.of (r1.gh _ _ m1),pp _ G1 H1 w1 s1 r1 (zqU m1 m2)⟩
   |_=>exact False.elim pp
  |er n=>rw[e] at pp;exact pp
  |no=>rw[e] at pp;exact pp
 ·obtain ⟨l1,xs,rfl,k1,q⟩:=q1
  obtain ⟨u1,rfl,c1⟩:=ze5 r1
  cases c1
  obtain ⟨its,rv,p1,_⟩:=I1.list k1
  refine call_enumerate_list p1.isList fun h' he hit hz hk=>?_
  refine wpAny_pyIter_enum he ?_
  refine ⟨s1.heap.objs.size+1,[s1.heap.objs.size+1,s1.heap.objs.size],_,_,H1,rfl,I1.kept (t':=s1.toks) hk,zmm (by intro h;have h:(s1.heap.objs.size+1:Nat)=s1.heap.objs.size:=h;omega),⟨⟨_,he⟩,hit⟩,fun c hc=>?_,q⟩
  have hle:s1.heap.objs.size<=c:=by
   simp only[List.mem_cons,List.not_mem_nil,or_false] at hc
   rcases hc with rfl|rfl
   ·exact Nat.le_add_right ..
   ·exact Nat.le_refl _
  exact I1.fpOk hle (I1.hok.fresh hle)
end
end PV
end
section
namespace PV
open PySem PySem.Spec L2 PyProof.Rows
section
variable{X:Cx}{C:Cn}{a b:Expr}{fa fb:De}{pos:Pos}
end
section
variable{prog:Program}{w:World}{A:Around}{E:Value->Shared->Prop}{s:Shared}
end
section
variable{X:Cx}{C:Cn}{a b e:Expr}{fa fb:De}{pos:Pos}
end
section
variable{prog:Program}{w:World}{A:Around}{E:Value->Shared->Prop}{s:Shared}
end
section
variable{X:Cx}{C:Cn}{a b e:Expr}{fa fb:De}{pos:Pos}
end
def spH(PT:Addr)(sp:Sp):Sp:=fun vs H Q E=>sp (vs++[.ref PT]) H Q E
def dRT(j:Nat)(fr:DAr):DAr:=fun ρ=>(fr ρ).bind fun b=>.ok (b.1++[.s j],b.2)
theorem zeG{K:W.Frag}{G:Hp}{σ:L2.St}{i:Nat}{v:V}(hi:σ[i]? = some (some v)):∀{as:List Arg}{vs:List V},zbU K G σ as vs->zbU K G σ (as++[.s i]) (vs++[v])
 |[],vs,h=>by cases h;exact ⟨v,[],rfl,hi,rfl⟩
 |.d x::r,vs,⟨v0,t,e,h2,h3⟩=>by subst e;exact ⟨v0,t++[v],rfl,h2,zeG hi h3⟩
 |.s k::r,vs,⟨v0,t,e,h2,h3⟩=>by subst e;exact ⟨v0,t++[v],rfl,h2,zeG hi h3⟩
section
variable{X:Cx}{C:Cn}{CX:CXT}{k k':Nat}{ks:List Bool}{Fd:FD}{x:Str}{p pos:Pos}{e:Expr}{es:List Expr}{far:DAr}{j:Nat}{PT:Addr}
theorem zkb{σ:L2.St}{H:Hp}{Q:VK}(hpp:j∈C.pp)(hσ0:C.σ₀[j]? = some (some (.ref PT)))(h:tE X.K C (zaj Fd (dRT j far)) σ H Q)(hks:∀ bs,Fd bs≠.no->zbp bs=ks):znP (spH PT (zn5 false X.K C.xv ks Fd)) [] (EXc C) (tAr X.K C far) σ H Q:=by
 obtain ⟨G,w,ρ,r,p⟩:=h
 unfold zaj dRT at p
 rw[R.bind_assoc] at p
 simp only[R.bind_ok] at p
 refine zkU (κ:=fun G H w=>kE X.K C σ Q G H w) zbt r p fun as0 ρ1 vs0 G1 H1 w1 r1 s1 q0 p1=>?_
 rw[List.append_nil]
 have hσj:σ[j]? = some (some (.ref PT)):=by rw[r1.pin j hpp];exact hσ0
 have q1:=zeG hσj q0
 dsimp only at p1
 generalize as0++[Arg.s j]=as at p1 q1
 unfold spH
 generalize vs0++[V.ref PT]=vs at q1
 by_cases hu:uniq as=true
 ·simp only[hu,if_true] at p1
  cases er:zas ρ1 as with
  |ok bs =>
   rw[er,R.bind_ok] at p1
   have hk:zbp bs=ks:=by
    refine hks bs fun z=>?_
    rw[z] at p1;exact p1
   have hl:bs.length=vs.length:=zeq q1 er
   refine ⟨G1,wIn w1 as,bs,by rw[<- hk,<- hl];simp[zbp],hk,⟨r1.gh,fun b e=>r1.wg b fun z=>e (by unfold wIn;rw[z];rfl),fun b e=>r1.wh b fun z=>e (by unfold wIn;rw[z];rfl),hl,fun j b v e1 e2=>?_⟩,?_⟩
   ·have:=zf7 r1 (as:=as) (k:=0) (j:=j) (fun m i e=>by rw[Nat.zero_add];exact zhf hu e) q1 er e1 e2
    rw[Nat.zero_add] at this;exact this
   ·cases ef:Fd bs with
    |ok z =>
     rw[ef,R.bind_ok] at p1
     intro v G' H' w' s' pb q
     obtain ⟨r',st⟩:=r1.back hu q1 er hk s' pb
     exact p1 v G' H' _ st r' q
    |er n =>
     rw[ef] at p1
     intro G' H' w' s'
     refine ⟨rfl,n,rfl,p1,G',fun _=>none,r1.en.trans ⟨s'.g,fun b o e=>?_,fun b o e z=>s'.h b o e (by unfold wIn;rw[z];rfl),fun b e=>absurd rfl e,s'.k⟩⟩
     rcases s'.fr b o e with q|q|q
     ·exact .inl q
     ·exact .inr (.inl q)
     ·exact .inr (.inr fun z=>q (by unfold wIn;rw[z];rfl))
    |no=>rw[ef] at p1;exact p1.elim
  |er n=>exact absurd er zc8
  |no=>rw[er] at p1;exact p1.elim
 ·simp only[hu] at p1;exact p1.elim
structure zs7(P:Program)(w:World)(K:W.Frag)(mg:Str->Option Value)(base:Heap)(CX:CXT)(xv:Nat->Value)(k:Nat)(x:Str)(ks:List Bool)(PT:Addr)(F:FD):Prop where
 ex:∃(f:Addr)(fd:FuncData)(ps:List Str),zf1 P w K mg base CX k f fd ps (spH PT (zn5 false K xv ks F))/\mg x=some (.ref f)/\W.keepIn K (.ref f)=true/\zfB K fd ps []/\∀ bs,F bs≠.no->zbp bs=ks
theorem zrO(D:zs7 X.prog X.w X.K X.mg X.base CX C.xv k x ks PT Fd)(hr:zcg k' X.A)(hk:k<=k')(hx:zbW CX X (EXc C))(hpp:j∈C.pp)(hσ0:C.σ₀[j]? = some (some (.ref PT)))(ha:JAr X C (e::es) far)(hg:Gl X x:=by rfl)(hdb:(x == ("__debug__" : Str))=false:=by decide)(he:starEach (e::es) X.env=(false,eval e X.env)::starEach es X.env:=by rfl)
  (hpl:(backTo pos (starEach es X.env)).any (·.1)=false:=by rfl):JE X C (.Call (.Name x p) (e::es) [] pos) (zaj Fd (dRT j far)):=by
 obtain ⟨f,fd,ps,h1,h2,h3,h4,h5⟩:=D.ex
 exact PE.weak (ziz h1 (hr.mono hk) hg h2 h3 h4 .nil hx ha hdb he hpl) fun σ H Q h=>zkb hpp hσ0 h h5
end
theorem zlS{N:List Str}{vs:List V}{v:V}(h:vs.length<N.length):(L2.start N vs).set vs.length (some v)=L2.start N (vs++[v]):=by
 unfold L2.start
 obtain ⟨m,hm⟩ : ∃ m,N.length-vs.length=m+1:=⟨N.length-vs.length-1,by omega⟩
 rw[hm,List.replicate_succ,List.length_append,List.length_singleton,show N.length-(vs.length+1)=m by omega,List.map_append]
 rw[List.set_append_right _ _ (by simp)]
 simp
theorem znO{P:Program}{w:World}{K:W.Frag}{mg:Str->Option Value}{base:Heap}{xq qual xt:Str}{st:Stmt}{N ps:List Str}{xv:Nat->Value}{m k:Nat}{ks:List Bool}{fb:DS}{f PT cL:Addr}{fd:FuncData}(Fu:Fun K xq qual st f fd)(hcL:fd.code=.ref cL)(hch:W.codeHdIn K cL PT=true)
  (S:zav N ps (zag st)) (hl:ps.length=ks.length) (hm:N.length=(ks++[true]).length+m) (hj:N[ks.length]? = some xt) (hv:¬ Vis (zag st) xt) (hbm:base.BuiltinsAt mg PT) (hKb:K.In base)
  (hbody:∀(X:Cx)(C:Cn),(∃ cdv A outer s H E,X=zit (CXe P w) P w K mg base N qual (zag st) f cdv A outer s H E)->C.pp=za9 (ks++[true])->C.σ₀[ks.length]? = some (some (.ref PT))->C.xv=xv->C.nw=false->zcg k X.A->zbW (CXe P w) X (EXc C)->PassesOwn (model X.prog X.w) X.A X.env X.xe->zfG X PT->JSs X C (zb7 st) fb) :
  zf1 P w K mg base (CXe P w) (k+1) f fd ps (spH PT (zn5 false K xv (ks++[true]) (zaq false (ks++[true]) m fb))):=by
 obtain ⟨oc,od,kV,doc,pm,an,cdv,ct,osl,rfl,lk,hcd⟩:=Fu.ex
 obtain rfl:cdv=.ref cL:=hcL
 refine znl lk hcd S (fun vs H Q E ⟨_,_,_,h,_⟩=>by simp at h;omega) fun A outer s H vs0 Q E hr hsp=>?_
 obtain ⟨G,w0,bs,hv',hk,pr,hF⟩:=hsp
 have hlen0:vs0.length=ks.length:=by simpa using hv'
 have hNl:vs0.length<N.length:=by rw[hm,hlen0];simp;omega
 have hset:=zlS (N:=N) (vs:=vs0) (v:=V.ref PT) hNl
 rw[hlen0] at hset
 generalize hvs:vs0++[V.ref PT]=vs at hv' pr hF hset
 have hlast:vs[ks.length]? = some (.ref PT):=by rw[<- hvs,<- hlen0];simp
 generalize hks':ks++[true]=ks' at *
 let X:=zit (CXe P w) P w K mg base N qual (zag st) f (.ref cL) A outer s H E
 let C:Cn:=⟨G,H,w0,za9 ks',L2.start N vs,fun n=>zaq false ks' m fb bs=.er n,xv,false⟩
 have hE:∀ u a H',EXc C u a H'->E u a H':=fun u a H' ⟨ea,n,eu,en,G',w',s'⟩=>by
  subst ea;subst eu
  have en':zaq false ks' m fb bs=.er n:=en
  rw[en'] at hF
  exact hF G' H' w' s'
 have hσ:(L2.start N vs)[ks.length]? = some (some (.ref PT)):=by
  unfold L2.start
  rw[List.getElem?_append_left (by simpa using (List.getElem?_eq_some_iff.mp hlast).1),List.getElem?_map,hlast];rfl
 have hb:=hbody X C ⟨.ref cL,A,outer,s,H,E,rfl⟩ rfl hσ rfl rfl hr (za2 N qual (zag st) f (.ref cL) A outer s H E (EXc C) S.kind hE) PassesOwn.leaving ⟨⟨cL,rfl,W.codeHd_of_K hKb hch⟩,hbm⟩
 refine ⟨fun D σ H=>tS K C fb D (σ.set ks.length (some (.ref PT))) H,fun pins s' σ H' D I h=>hb pins s' _ H' D (zik I hj hv) h,?_⟩
 show tS K C fb _ ((L2.start N vs0).set ks.length (some (V.ref PT))) H
 rw[hset]
 refine ⟨G,w0,bs.map some++List.replicate m none,?_,?_⟩
 ·refine ⟨pr.gh,pr.wg,pr.wh,?_,fun i b e=>?_,.refl _ _ _,fun i _=>rfl⟩
  ·unfold L2.start
   simp only[List.length_append,List.length_map,List.length_replicate]
   have:=pr.len
   omega
  ·have hi:i<bs.length:=by
    by_cases hi:i<bs.length
    ·exact hi
    ·rw[List.getElem?_append_right (by simpa using hi),List.getElem?_replicate] at e
     split at e <;> cases e
   rw[List.getElem?_append_left (by simpa using hi),List.getElem?_map] at e
   have eb:bs[i]? = some b:=by
    cases q:bs[i]? with
    |none=>rw[q] at e;cases e
    |some z=>rw[q] at e;cases e;rfl
   have hiv:i<vs.length:=by rw[<- pr.len];exact hi
   refine ⟨vs[i],?_,pr.sl i b vs[i] eb (by simp[hiv])⟩
   unfold L2.start
   rw[List.getElem?_append_left (by simpa using hiv),List.getElem?_map]
   simp[hiv]
 ·have hF':match zaq false ks' m fb bs with
   |.ok a=>∀ v G' H' w',zaN G H w0 G' H' w'->zke K G' H' w' ks' a.2 vs->RtG false K H G' H' w' a.1 v->Q v H'
   |.er n=>∀ G' H' w',zaN G H w0 G' H' w'->E (xv n) none H'
   |.no=>False:=hF
  have er:zaq false ks' m fb bs=(fb (bs.map some++List.replicate m none)).bind fun a=>match a.1 with
   |.nx=>if false=true then .no else (zao ks' a.2).bind fun l=>.ok (.non,l)
   |.rt d=>(zao ks' a.2).bind fun l=>.ok (d,l)
   |_=>.no:=by unfold zaq;exact if_pos hk
  have back:∀{ρ':Ev}{l:List B}{σ':L2.St}{G' H':Hp}{w':Wn},zao ks' ρ'=.ok l->Rel K C G' w' ρ' σ' H'->zke K G' H' w' ks' l vs:=fun {ρ' l σ' G' H' w'} eb r'=>by
   refine ⟨r'.gh,r'.wg,r'.wh,fun j v e1 e2=>?_⟩
   obtain ⟨b,h1,h2⟩:=zcN eb e1
   obtain ⟨v',h3,h4⟩:=r'.sl j b h2
   have hj:j<ks'.length:=(List.getElem?_eq_some_iff.mp e1).1
   have hp:σ'[j]? = (L2.start N vs)[j]? := r'.pin j (by
    show j∈za9 ks'
    unfold za9
    rw[List.mem_filter]
    exact ⟨List.mem_range.mpr hj,by simp[e1]⟩)
   have hs:(L2.start N vs)[j]? = some (some v):=by
    unfold L2.start
    rw[List.getElem?_append_left (by simpa using (List.getElem?_eq_some_iff.mp e2).1),List.getElem?_map,e2];rfl
   rw[hp,hs] at h3;cases h3
   exact ⟨b,h1,h4⟩
  cases ef:fb (bs.map some++List.replicate m none) with
  |ok z =>
   obtain ⟨fl,ρ'⟩:=z
   rw[ef,R.bind_ok] at er
   cases fl with
   |nx =>
    intro σ' G' H' w' s' r'
    have er:zaq false ks' m fb bs=(zao ks' ρ').bind fun l=>.ok (.non,l):=er
    cases eb:zao ks' ρ' with
    |ok l =>
     rw[er] at hF';simp only[eb,R.bind_ok] at hF'
     exact hF' _ G' H' w' s' (back eb r') (by unfold RtG Rep;rfl)
    |er n=>exact absurd eb zbS
    |no =>
     have er':zaq false ks' m fb bs=.no:=by rw[er];show ((zao ks' ρ').bind _)=_;rw[eb];rfl
     rw[er'] at hF';exact hF'.elim
   |rt d =>
    intro v σ' G' H' w' s' r' q
    cases eb:zao ks' ρ' with
    |ok l =>
     rw[er] at hF';simp only[eb,R.bind_ok] at hF'
     exact hF' _ G' H' w' s' (back eb r') q
    |er n=>exact absurd eb zbS
    |no =>
     have er':zaq false ks' m fb bs=.no:=by rw[er];show ((zao ks' ρ').bind _)=_;rw[eb];rfl
     rw[er'] at hF';exact hF'.elim
   |bk=>rw[er] at hF';exact hF'.elim
   |ct=>rw[er] at hF';exact hF'.elim
  |er n =>
   show zaq false ks' m fb bs=.er n
   rw[er,ef];rfl
  |no=>rw[er,ef] at hF';exact hF'.elim
theorem zqn{P:Program}{w:World}{K:W.Frag}{mg:Str->Option Value}{base:Heap}{xq qual xs xt q:Str}{st:Stmt}{N:List Str}{xv:Nat->Value}{m k:Nat}{fb:DS}{f PT:Addr}{fd:FuncData}
  (Fu:Fun K xq qual st f fd) (S:zav N [xs] (zag st)) (hm:N.length=m+2) (hj:N[m+1]? = some xt) (hv:¬ Vis (zag st) xt)
  (hbody:∀(X:Cx)(C:Cn),(∃ cdv A outer s H E,X=zit (CXe P w) P w K mg base N qual (zag st) f cdv A outer s H E)->C.pp=[m+1]->C.σ₀[m+1]? = some (some (.ref PT))->C.xv=xv->C.nw=false->zcg k X.A->zbW (CXe P w) X (EXc C)->PassesOwn (model X.prog X.w) X.A X.env X.xe->JSs X C (zb7 st) fb) :
  zf1 P w K mg base (CXe P w) (k+1) f fd [xs] (spT K PT (zq5 m q fb)):=by
 obtain ⟨oc,od,kV,doc,pm,an,cdv,ct,osl,rfl,lk,hcd⟩:=Fu.ex
 refine znl lk hcd S (fun vs H Q E ⟨a,ns,h,_⟩=>by rw[h];rfl) fun A outer s H vs Q E hr hsp=>?_
 obtain ⟨a,ns,rfl,hS,hP,⟨ρ',hok⟩,hQ⟩:=hsp
 let X:=zit (CXe P w) P w K mg base N qual (zag st) f cdv A outer s H E
 let G:Hp:=fun b=>if b=PT then none else H b
 let w0:Wn:=fun b=>if b=PT then some (m+1) else none
 let σ1:L2.St:=(L2.start N [.ref a]).set (m+1) (some (.ref PT))
 let C:Cn:=⟨G,H,w0,[m+1],σ1,fun _=>False,xv,false⟩
 have lS:(L2.start N [V.ref a]).length=m+2:=by unfold L2.start;simp[hm]
 have hb:=hbody X C ⟨cdv,A,outer,s,H,E,rfl⟩ rfl (by show σ1[m+1]? = _;rw[List.getElem?_set_self (by rw[lS];omega)]) rfl rfl hr
  (za2 N qual (zag st) f cdv A outer s H E (EXc C) S.kind fun u b H' ⟨_,n,_,z,_⟩=>z.elim) PassesOwn.leaving
 refine ⟨fun D σ H=>tS K C fb D (σ.set (m+1) (some (.ref PT))) H,fun pins s' σ H' D I h=>hb pins s' _ H' D (zik I hj hv) h,G,w0,some (.val (.scr ns))::(List.replicate m none++[some (.tab q)]),?_,?_⟩
 ·have gP:G PT=none:=if_pos rfl
  have gO:∀{b:Addr},b≠PT->G b=H b:=fun h=>if_neg h
  have wP:w0 PT=some (m+1):=if_pos rfl
  have wO:∀ b,w0 b≠none->b=PT:=fun b e=>by
   by_cases hb:b=PT
   ·exact hb
   ·exact absurd (if_neg hb) e
  refine ⟨fun b o e=>?_,fun b e=>by rw[wO b e];exact gP,fun b e=>by rw[wO b e,hP];simp,by simp[lS],fun i b e=>?_,.refl _ _ _,fun i _=>rfl⟩
  ·by_cases hb:b=PT
   ·rw[hb,gP] at e;cases e
   ·rw[gO hb] at e;exact e
  ·cases i with
   |zero =>
    simp at e;subst e
    refine ⟨.ref a,?_,?_⟩
    ·rw[List.getElem?_set_ne (by omega)];unfold L2.start;simp
    ·show Rep K G (.scr ns) (.ref a)
     unfold Rep
     refine ⟨a,rfl,?_⟩
     rcases hS with (h|⟨o,h⟩)|h
     ·exact .inl (.inl ((gO fun z=>by rw[z,hP] at h;cases h).trans h))
     ·exact .inl (.inr ⟨o,(gO fun z=>by rw[z,hP] at h;cases h).trans h⟩)
     ·exact .inr h
   |succ i =>
    rw[List.getElem?_cons_succ] at e
    by_cases hi:i<m
    ·rw[List.getElem?_append_left (by simpa using hi),List.getElem?_replicate] at e
     split at e <;> cases e
    ·rw[List.getElem?_append_right (by simpa using hi)] at e
     simp only[List.length_replicate] at e
     have him:i=m:=by
      by_cases h:i-m=0
      ·omega
      ·obtain ⟨y,hy⟩:=Nat.exists_eq_succ_of_ne_zero h
       rw[hy] at e;simp at e
     subst him
     simp at e
     subst e
     refine ⟨.ref PT,by rw[List.getElem?_set_self (by rw[lS];omega)],PT,#[],rfl,wP,hP,trivial,fun pos cv z=>?_⟩
     simp[codeAmong] at z
 ·rw[hok]
  intro v σ' G' H' w' _ _ rt
  have:v=.bl true:=zdw (K:=K) (G:=G') rt
  subst this
  exact hQ H'
section
variable{X:Cx}{C:Cn}{a b e:Expr}{fa fb:De}{pos apos:Pos}{zay:List Expr}
end
end PV
end
section
namespace PV
open PySem PySem.Spec L2
structure ZpL(h:Heap)(z TI TO i1 i2 l1 l2:Addr)(f0:Value)(k:Nat):Prop where
 z:IsZip h z TI TO f0
 ti:IsPair h TI (.ref i1) (.ref i2)
 to:∃ a b,IsPair h TO a b
 a1:h.IsListIter i1 l1 k
 a2:h.IsListIter i2 l2 k
theorem ZpL.keep{h h':Heap}{z TI TO i1 i2 l1 l2:Addr}{f0:Value}{k:Nat}(p:ZpL h z TI TO i1 i2 l1 l2 f0 k)(e:∀ b∈[z,TI,TO,i1,i2],∀ o,h.get? b=some o->h'.get? b=some o):ZpL h' z TI TO i1 i2 l1 l2 f0 k :=
 ⟨e z (by simp) _ p.z,e TI (by simp) _ p.ti,let ⟨a,b,q⟩:=p.to;⟨a,b,e TO (by simp) _ q⟩,p.a1.at fun o q=>e i1 (by simp) o q,p.a2.at fun o q=>e i2 (by simp) o q⟩
theorem zjC{z TI TO i1 i2 l1 l2:Addr}(D:ZpD z TI TO i1 i2)(n1:∀ b∈[z,TI,TO,i1,i2],b≠l1)(n2:∀ b∈[z,TI,TO,i1,i2],b≠l2):ZipApart z TI TO i1 i2 l1 l2 :=
 ⟨D.d1,D.d2,D.d3,D.d4,D.d5,D.d6,D.d7,D.d8,D.d9,D.d0,(n1 z (by simp)).symm,(n1 TO (by simp)).symm,(n1 i1 (by simp)).symm,(n1 i2 (by simp)).symm,(n2 z (by simp)).symm,(n2 TO (by simp)).symm,(n2 i1 (by simp)).symm,(n2 i2 (by simp)).symm⟩
def Itl(K:W.Frag)(a b:Addr):It :=
 ⟨fun i H=>∃ xs ys x y,SqL K H a xs/\SqL K H b ys/\xs[i]? = some x/\ys[i]? = some y,
   fun i H v H'=>∃ p x y,v=.ref p/\H p=none/\H'=upd H p (.tup [x,y])/\(∀ xs,SqL K H a xs->xs[i]? = some x)/\∀ ys,SqL K H b ys->ys[i]? = some y,
   fun i H=>∃ xs ys,SqL K H a xs/\SqL K H b ys/\xs.length<=i⟩
theorem zlb{P:Program}{w:World}{K:W.Frag}{elts:List Expr}{x1}{ps:Pos}{a b z TI TO i1 i2:Addr}(D:ZpD z TI TO i1 i2):zmA P w K (.Tuple elts x1 ps) (Itl K a b) [z,TI,TO,i1,i2] z (fun i h=>ZpL h z TI TO i1 i2 a b .none i) where
 mem:=by simp
 obj:=fun i h st c hc=>by
  obtain ⟨s1,s2,⟨oa,ob,s3⟩,⟨o4,s4,_,d4⟩,⟨o5,s5,_,d5⟩⟩:=st
  simp only[List.mem_cons,List.not_mem_nil,or_false] at hc
  rcases hc with rfl|rfl|rfl|rfl|rfl
  ·exact ⟨_,s1,fun v q=>by cases q⟩
  ·exact ⟨_,s2,fun v q=>by cases q⟩
  ·exact ⟨_,s3,fun v q=>by cases q⟩
  ·exact ⟨_,s4,fun v q=>by rw[d4] at q;cases q⟩
  ·exact ⟨_,s5,fun v q=>by rw[d5] at q;cases q⟩
 keep:=fun i h h' st k=>st.keep k
 item:=by
  intro X hP hw hK hc i pins s σ H E I hf st hg
  subst hP hw hK
  obtain ⟨xs,ys,x,y,q1,q2,hx,hy⟩:=hg
  obtain ⟨its,rv,p,hz⟩:=I.list q1
  obtain ⟨jts,rw',p',hz'⟩:=I.list q2
  obtain ⟨u,hu,ru⟩:=rv.get hx
  obtain ⟨v,hv,rv'⟩:=rw'.get hy
  obtain ⟨oa0,ob0,hto⟩:=st.to
  have AP:=zjC D (fun c hc=>zjE I (hf c hc) q1) (fun c hc=>zjE I (hf c hc) q2)
  refine wpAny_pyNext_zip_item (x:=u) (y:=v) AP st.z st.ti hto st.a1 st.a2 p.isList p'.isList (by simpa using hu) (by simpa using hv) fun h' b1 b2 b3 b4 ht b6 hk=>?_
  refine ⟨_,rfl,wpAny_letOwnedTupleGo_zip b1 fun h2 hz2 sb=>?_⟩
  have hzp:∀ c∈[z,TI,TO,i1,i2],c≠s.heap.objs.size:=fun c hc q=>by
   obtain ⟨s1,s2,⟨oa,ob,s3⟩,⟨o4,s4,_⟩,⟨o5,s5,_⟩⟩:=st
   simp only[List.mem_cons,List.not_mem_nil,or_false] at hc
   subst q
   rcases hc with rfl|rfl|rfl|rfl|rfl
   ·exact absurd (Heap.lt_size s1) (Nat.lt_irrefl _)
   ·exact absurd (Heap.lt_size s2) (Nat.lt_irrefl _)
   ·exact absurd (Heap.lt_size s3) (Nat.lt_irrefl _)
   ·exact absurd (Heap.lt_size s4) (Nat.lt_irrefl _)
   ·exact absurd (Heap.lt_size s5) (Nat.lt_irrefl _)
  have st2:ZpL h2 z TI TO i1 i2 a b .none (i+1) :=
   ⟨hz2,sb.extBut _ _ D.d1 (hk TI _ D.d1 D.d5 D.d6 D.d7 st.ti),⟨_,_,sb.extBut _ _ D.d2 b2⟩,b3.extBut sb.extBut D.d3,b4.extBut sb.extBut D.d4⟩
  have hk2:∀ c ob,c∉[z,TI,TO,i1,i2]->s.heap.get? c=some ob->h2.get? c=some ob:=fun c ob nc e=>by
   simp only[List.mem_cons,List.not_mem_nil,or_false,not_or] at nc
   exact sb.extBut _ _ nc.1 (hk c ob nc.1 nc.2.2.1 nc.2.2.2.1 nc.2.2.2.2 e)
  have hth:∀ c ob,s.heap.get? c=some ob->∃ ob',h2.get? c=some ob':=fun c ob e=>by
   by_cases nc:c∈[z,TI,TO,i1,i2]
   ·obtain ⟨s1,s2,⟨oa,ob,s3⟩,⟨o4,s4,_⟩,⟨o5,s5,_⟩⟩:=st2
    simp only[List.mem_cons,List.not_mem_nil,or_false] at nc
    rcases nc with rfl|rfl|rfl|rfl|rfl
    ·exact ⟨_,s1⟩
    ·exact ⟨_,s2⟩
    ·exact ⟨_,s3⟩
    ·exact ⟨_,s4⟩
    ·exact ⟨_,s5⟩
   ·exact ⟨ob,hk2 c ob nc e⟩
  have hnew:h2.get? s.heap.objs.size=some { cls:=.type "tuple",data:=.seq #[u,v] }:=sb.extBut _ _ (Ne.symm (hzp z (by simp))) ht
  have IN:L2.Inv X pins σ (upd H s.heap.objs.size (.tup [x,y])) { s with heap:=h2 }:=zdO (s:=s) (t':=s.toks) (o:=.tup [x,y]) I hf hk2 (Nat.le_refl _) hth ⟨by show 2<=sizeLine;decide,[u,v],.cons ru (.cons rv' .nil),0,hnew⟩
  exact ⟨.ref s.heap.objs.size,_,IN,rfl,
   ⟨_,x,y,rfl,I.hok.fresh (Nat.le_refl _),rfl,fun zs q=>by rw[I.list_inj q q1];exact hx,fun zs q=>by rw[I.list_inj q q2];exact hy⟩,st2,fun c hc=>by rw[zad (hzp c hc)];exact (hf c hc).1⟩
 done:=by
  intro X hP hw hK hc i pins s σ H E I hf st hg
  subst hP hw hK
  obtain ⟨xs,ys,q1,q2,hx⟩:=hg
  obtain ⟨its,rv,p,hz⟩:=I.list q1
  obtain ⟨jts,rw',p',hz'⟩:=I.list q2
  have hl:=rv.length
  obtain ⟨oa0,ob0,hto⟩:=st.to
  have AP:=zjC D (fun c hc=>zjE I (hf c hc) q1) (fun c hc=>zjE I (hf c hc) q2)
  refine wpAny_pyNext_zip_end (I.ok.hd hc) AP st.z st.ti hto st.a1 st.a2 p.isList p'.isList (.inl (by simp;omega)) fun h' hk=>⟨rfl,?_⟩
  refine zaY (t':=s.toks) I hf fun c ob nc e=>?_
  simp only[List.mem_cons,List.not_mem_nil,or_false,not_or] at nc
  exact hk c ob nc.1 nc.2.2.1 nc.2.2.2.1 nc.2.2.2.2 e
 self:=fun _ _ _ _ _ st h=>wpAny_pyIter_zip st.z h
theorem zr0{K:W.Frag}{G:Hp}{a b:Addr}{vs us:List V}{ds es:List Dt}(hs:G a=some (.lst vs))(ht:G b=some (.lst us))(q:zaw K G ds vs)(q':zaw K G es us)(hl:ds.length=es.length):zlJ K (Itl K a b) G ((ds.zip es).map fun z=>.tup [z.1,z.2]):=fun i G1 H s1 s2=>by
 have h1:SqL K H a vs:=SqL.of (s2 _ _ (s1 _ _ hs))
 have h2:SqL K H b us:=SqL.of (s2 _ _ (s1 _ _ ht))
 refine ⟨fun d e=>?_,fun h=>⟨vs,us,h1,h2,?_⟩⟩
 ·rw[List.getElem?_map] at e
  have hi:i<ds.length:=by
   by_cases hi:i<ds.length
   ·exact hi
   ·rw[List.getElem?_eq_none (by rw[List.length_zip];omega)] at e;cases e
  have z1:ds[i]? = some ds[i]:=by simp[hi]
  have z2:es[i]? = some (es[i]'(by omega)):=by simp[show i<es.length by omega]
  obtain ⟨v,e1,e2⟩:=q.get z1
  obtain ⟨u,e3,e4⟩:=q'.get z2
  have ed:d=.tup [ds[i],es[i]'(by omega)]:=by
   rw[(List.getElem?_zip_eq_some (z:=(ds[i],es[i]'(by omega)))).mpr ⟨z1,z2⟩] at e
   exact (Option.some.inj e).symm
  refine ⟨⟨vs,us,v,u,h1,h2,e1,e3⟩,fun x H' y=>?_⟩
  obtain ⟨p,x',y',rfl,hp,rfl,k1,k2⟩:=y
  have kx:=k1 vs h1
  have ky:=k2 us h2
  rw[e1] at kx;rw[e3] at ky
  cases kx;cases ky
  have gr:zdE G1 H (upd G1 p (.tup [v,u])) (upd H p (.tup [v,u])):=.new s2 hp
  refine ⟨_,gr,?_⟩
  rw[ed]
  unfold Rep
  exact ⟨p,[v,u],rfl,zhv.of zal,zaw.cons ((e2.same s1).same gr.g) (zaw.cons ((e4.same s1).same gr.g) zaw.nil)⟩
 ·rw[<- q.length]
  simpa [hl] using h
def zmi(fa fb:De):DA:=fun ρ=>(fa ρ).bind fun a=>(fb a.2).bind fun b=>match a.1,b.1 with
 |.tup l,.tup r=>if l.length=r.length then .ok ((l.zip r).map fun z=>.tup [z.1,z.2],b.2) else .no
 |.lst l,.lst r=>if l.length=r.length then .ok ((l.zip r).map fun z=>.tup [z.1,z.2],b.2) else .no
 |_,_=>.no
section
variable{X:Cx}{C:Cn}{elts:List Expr}{x1:Nat}{pt:Pos}{a b:Expr}{fa fb:De}{p pos:Pos}
theorem zoQ(hg:Gl X "zip")(hm:X.mg "zip"=none)(ha:JE X C a fa)(hb:JE X C b fb)(hs:starEach [a,b] X.env=(false,eval a X.env)::starEach [b] X.env:=by rfl)(hs2:starEach [b] X.env=(false,eval b X.env)::starEach [] X.env:=by rfl)(hpl:(backTo pos (starEach [b] X.env)).any (·.1)=false:=by rfl) :
  JI X C (.Tuple elts x1 pt) (.Call (.Name "zip" p) [a,b] [] pos) (zmi fa fb):=by
 intro pins s σ H R I ⟨G,w,ρ,r,pp⟩
 refine PyProof.Rows.Call_ (zei I hg hm PyProof.Rows.boot_zip (PyProof.Rows.callWith_type1 (thn (zai ha (zai hb zaz hs2) hs pos pins s σ H (fun vs H1=>∃(l1 l2:Addr)(xs ys:List V),vs=[.ref l1,.ref l2]/\((SqT X.K H1 l1 xs/\SqT X.K H1 l2 ys/\R (Itz X.K l1 l2) H1)\/(SqL X.K H1 l1 xs/\SqL X.K H1 l2 ys/\R (Itl X.K l1 l2) H1))) I ?_) fun us s1 ⟨vs,H1,I1,r1,q1⟩=>?_) hs hpl))
 ·refine ⟨G,w,ρ,r,?_⟩
  unfold zmi at pp
  unfold dA dA0
  cases e:fa ρ with
  |ok x =>
   obtain ⟨d,ρ1⟩:=x
   rw[e] at pp
   simp only[PV.R.bind_ok] at pp ⊢
   cases e2:fb ρ1 with
   |ok y =>
    obtain ⟨d2,ρ2⟩:=y
    rw[e2] at pp
    simp only[PV.R.bind_ok] at pp ⊢
    intro vs G1 H1 w1 s1 r1 q
    obtain ⟨v,u,rfl,k1,k2⟩:=zpE q
    cases d with
    |tup l =>
     cases d2 with
     |tup l' =>
      dsimp only at pp
      by_cases hl:l.length=l'.length
      ·rw[if_pos hl] at pp
       obtain ⟨a1,xs,rfl,m1,m2⟩:=zbh k1
       obtain ⟨a2,ys,rfl,m3,m4⟩:=zbh k2
       exact ⟨a1,a2,xs,ys,rfl,.inl ⟨za5 r1.gh m1,za5 r1.gh m3,pp _ G1 H1 w1 s1 r1 (zr2 m1 m3 m2 m4 hl)⟩⟩
      ·rw[if_neg hl] at pp;exact pp.elim
     |_=>exact False.elim pp
    |lst l =>
     cases d2 with
     |lst l' =>
      dsimp only at pp
      by_cases hl:l.length=l'.length
      ·rw[if_pos hl] at pp
       obtain ⟨a1,xs,rfl,m1,m2⟩:=za7 k1
       obtain ⟨a2,ys,rfl,m3,m4⟩:=za7 k2
       exact ⟨a1,a2,xs,ys,rfl,.inr ⟨SqL.of (r1.gh _ _ m1),SqL.of (r1.gh _ _ m3),pp _ G1 H1 w1 s1 r1 (zr0 m1 m3 m2 m4 hl)⟩⟩
      ·rw[if_neg hl] at pp;exact pp.elim
     |_=>exact False.elim pp
    |_=>exact False.elim pp
   |er n=>rw[e2] at pp;exact pp
   |no=>rw[e2] at pp;exact pp
  |er n=>rw[e] at pp;exact pp
  |no=>rw[e] at pp;exact pp
 ·obtain ⟨l1,l2,xs,ys,rfl,q⟩:=q1
  obtain ⟨u1,u2,rfl,c1,c2⟩ : ∃ u1 u2,us=[u1,u2]/\zaF (.ref l1) u1/\zaF (.ref l2) u2:=by
   cases r1 with
   |cons h1 t=>cases t with
    |cons h2 t2=>cases t2;exact ⟨_,_,rfl,h1,h2⟩
  cases c1;cases c2
  have D:ZpD (s1.heap.objs.size+4) (s1.heap.objs.size+2) (s1.heap.objs.size+3) s1.heap.objs.size (s1.heap.objs.size+1):=zrz _
  have hfp:∀ c∈[s1.heap.objs.size+4,s1.heap.objs.size+2,s1.heap.objs.size+3,s1.heap.objs.size,s1.heap.objs.size+1],zdt X pins H1 c:=fun c hc=>by
   have hle:s1.heap.objs.size<=c:=by
    simp only[List.mem_cons,List.not_mem_nil,or_false] at hc
    rcases hc with rfl|rfl|rfl|rfl|rfl
    ·exact Nat.le_add_right ..
    ·exact Nat.le_add_right ..
    ·exact Nat.le_add_right ..
    ·exact Nat.le_refl _
    ·exact Nat.le_add_right ..
   exact I1.fpOk hle (I1.hok.fresh hle)
  rcases q with ⟨k1,k2,q⟩|⟨k1,k2,q⟩
  ·obtain ⟨its,rv,p1,_⟩:=I1.tuple k1
   obtain ⟨jts,rw',p2,_⟩:=I1.tuple k2
   refine zpd (show s1.heap.IsTuple l1 its.toArray from p1) (show s1.heap.IsTuple l2 jts.toArray from p2) fun h' zp hk=>?_
   refine wpAny_pyIter_zip zp.z ?_
   exact ⟨s1.heap.objs.size+4,[s1.heap.objs.size+4,s1.heap.objs.size+2,s1.heap.objs.size+3,s1.heap.objs.size,s1.heap.objs.size+1],_,_,H1,rfl,I1.kept (t':=s1.toks) hk,zmO D,zp,hfp,q⟩
  ·obtain ⟨its,rv,p1,_⟩:=I1.list k1
   obtain ⟨jts,rw',p2,_⟩:=I1.list k2
   refine call_zip_2 p1.isList p2.isList fun h' b1 b2 b3 b4 b5 b6 hk=>?_
   refine wpAny_pyIter_zip b1 ?_
   exact ⟨s1.heap.objs.size+4,[s1.heap.objs.size+4,s1.heap.objs.size+2,s1.heap.objs.size+3,s1.heap.objs.size,s1.heap.objs.size+1],_,_,H1,rfl,I1.kept (t':=s1.toks) hk,zlb D,⟨b1,b2,⟨_,_,b3⟩,b4,b5⟩,hfp,q⟩
end
end PV
end
section
namespace PV
open PySem PySem.Spec L2 PyProof.Rows
section
variable{X:Cx}{C:Cn}{pos:Pos}
end
section
variable{X:Cx}{C:Cn}{CX:CXT}{k k':Nat}{ks:List Bool}{Fd:FD}{x a b:Str}{p pos pa pb:Pos}
end
section
variable{X:Cx}{C:Cn}{a b:Expr}{fa fb:De}{pos:Pos}
end
end PV
end
section
end
section
namespace PV
open PySem PySem.Spec L2 PyProof.Rows
structure KeepO(i:Nat)(g:DG)(ft:DT)(fe:De):Prop where
 t:∀ d ρ ρ1 b ρ2,g d ρ=.ok ρ1->ft ρ1=.ok (b,ρ2)->ρ2[i]? = ρ[i]?
 e:∀ ρ y ρ1,fe ρ=.ok (y,ρ1)->ρ1[i]? = ρ[i]?
section
variable{X:Cx}{C:Cn}
end
section
variable{X:Cx}{C:Cn}{f:Addr}{fd:FuncData}{st:Stmt}{xq xr xc xl:Str}{NR:List Str}{m k n ci:Nat}{dB:Nat->Addr->DS}
end
structure CS(X:Cx)(C:Cn)(k n ci:Nat)(ρ:Ev)(G0 H0:Hp)(w:Wn)(l:Nat)(σ:L2.St)(H:Hp):Prop where
 ex:∃(p:Addr)(G1:Hp)(Fs:List Addr),Fs.length=l/\σ[ci]? = some (some (.ref p))/\Rel X.K C G1 w ρ σ H/\zaN G0 H0 w G1 H w/\H0 p=none/\C.H₀ p=none/\H p=some (.lst (Fs.map V.ref))/\G1 p=none/\w p=none/\∀ Fa∈Fs,znz X C.xv k n ρ G1 Fa
section
variable{X:Cx}{C:Cn}{P f:Addr}{fd:FuncData}{st:Stmt}{xq xr xc xl:Str}{NR N':List Str}{m k n ci j l:Nat}{dB:Nat->Addr->DS}{ρ:Ev}{G0 H0:Hp}{w:Wn}{scope:Scope}{p1 p2 p3 p4 p5 pos:Pos}
 (LB:zfG X P) (hjp:j∈C.pp) (hσ0:C.σ₀[j]? = some (some (.ref P))) (hip:ci∉C.pp)
include LB hjp hσ0 hip
variable(cls:Nat->Addr)(hxv:∀ n,n<8->C.xv n=.ref (cls n))(hfn:X.fn=fun _=>true)
 (Fu:Fun X.K xq xr st f fd) (S:zav NR ["call"] (zag st)) (hNR:NR.length=m+1) (hbi:zfB X.K fd ["call"] []) (hm:X.mg xr=some (.ref f)) (hr:zcg (k+2) X.A) (hu:X.A.units+64<cLine)
 (hB:∀(C:Cn),(∀ n,n<8->C.xv n=.ref (cls n))->HB X C xr st f NR k cls dB) (hden:HD m dB)
include hxv hfn Fu S hNR hbi hm hr hu hB hden
omit LB hjp hσ0 in
end
end PV
end
section
end
section
namespace PV
open PySem PySem.Spec L2 PyProof.Rows
section
variable{X:Cx}{C:Cn}{CX:CXT}{k k':Nat}{ks:List Bool}{Fd:FD}{x a:Str}{eb:Expr}{fb:De}{p pos pa:Pos}
end
section
variable{X:Cx}{C:Cn}{e e':Expr}{fa fb:De}{pos:Pos}
end
section
variable{X:Cx}{C:Cn}{a b e:Expr}{fa fb:De}{pos apos p2:Pos}{zay:List Expr}
end
section
variable{X:Cx}{C:Cn}{tg a b:Expr}{fa fb:De}{pos:Pos}
end
section
variable{X:Cx}{C:Cn}{pos ps py sp apos p1 p2 spos:Pos}{x y:Str}
end
section
variable{X:Cx}{C:Cn}{a b e:Expr}{fa fb:De}{pos ps:Pos}{x:Str}{ad:Addr}{D:List (Str×Str)}
end
def zdz:List (Int×Dt)->Int->Option Dt
 |[],_=>none
 |p::r,k=>if p.1=k then some p.2 else zdz r k
def zoa(l:List (Int×Dt))(k:Int)(d:Dt):List (Int×Dt) :=
 if (zdz l k).isSome=true then l.map (fun p=>if p.1=k then (p.1,d) else p) else l++[(k,d)]
abbrev PZ(K:W.Frag)(G:Hp):List (Int×Dt)->List (Key×V)->Prop:=Paired (fun (p:Int×Dt) (q:Key×V)=>q.1=.inl p.1/\Rep K G p.2 q.2)
theorem zeL{K:W.Frag}{G:Hp}{k:Int}:∀{l:List (Int×Dt)}{us:List (Key×V)},PZ K G l us->(∀ d,zdz l k=some d->∃ v,zj6 us (.inl k)=some v/\Rep K G d v)/\(zdz l k=none->zj6 us (.inl k)=none)
 |_,_,.nil=>⟨fun d h=>by simp[zdz] at h,fun _=>rfl⟩
 |p::l,q::us,.cons h t=>by
  obtain ⟨ih1,ih2⟩:=zeL (k:=k) t
  by_cases e:p.1=k
  ·have e':q.1=.inl k:=by rw[h.1,e]
   rw[zfk e']
   unfold zdz
   rw[if_pos e]
   exact ⟨fun d z=>by cases z;exact ⟨_,rfl,h.2⟩,fun z=>by cases z⟩
  ·have e':¬ q.1=.inl k:=by rw[h.1];intro z;cases z;exact e rfl
   rw[zfo e']
   unfold zdz
   rw[if_neg e]
   exact ⟨ih1,ih2⟩
theorem zgM{K:W.Frag}{G:Hp}{k:Int}{l:List (Int×Dt)}{us:List (Key×V)}(h:PZ K G l us):(zj6 us (.inl k)).isSome=(zdz l k).isSome:=by
 obtain ⟨h1,h2⟩:=zeL (k:=k) h
 cases e:zdz l k with
 |none=>rw[h2 e];rfl
 |some d=>obtain ⟨v,e1,_⟩:=h1 d e;rw[e1];rfl
theorem zo1{K:W.Frag}{G:Hp}{k:Int}{d:Dt}{v:V}(hd:Rep K G d v):∀{l:List (Int×Dt)}{us:List (Key×V)},PZ K G l us->PZ K G (l.map (fun p=>if p.1=k then (p.1,d) else p)) (us.map (fun kv=>if kv.1=(.inl k:Key) then (kv.1,v) else kv))
 |_,_,.nil=>.nil
 |p::l,q::us,.cons h t=>by
  refine .cons ?_ (zo1 hd t)
  by_cases e:p.1=k
  ·have e':q.1=.inl k:=by rw[h.1,e]
   dsimp only;rw[if_pos e,if_pos e'];exact ⟨h.1,hd⟩
  ·have e':¬ q.1=.inl k:=by rw[h.1];intro z;cases z;exact e rfl
   dsimp only;rw[if_neg e,if_neg e'];exact h
theorem zlD{K:W.Frag}{G:Hp}{k:Int}{d:Dt}{v:V}(hd:Rep K G d v):∀{l:List (Int×Dt)}{us:List (Key×V)},PZ K G l us->PZ K G (l++[(k,d)]) (us++[(.inl k,v)])
 |_,_,.nil=>.cons ⟨rfl,hd⟩ .nil
 |p::l,q::us,.cons h t=>.cons h (zlD hd t)
theorem zq8{K:W.Frag}{G:Hp}{k:Int}{d:Dt}{v:V}(hd:Rep K G d v){l:List (Int×Dt)}{us:List (Key×V)}(h:PZ K G l us):PZ K G (zoa l k d) (zig us (.inl k) v):=by
 unfold zoa zig
 rw[zgD,zgM h]
 split
 ·exact zo1 hd h
 ·exact zlD hd h
theorem zol{K:W.Frag}{G:Hp}:∀{l:List (Int×Dt)}{us:List (Key×V)},PZ K G l us->l.length=us.length
 |_,_,.nil=>rfl
 |_::_,_::_,.cons _ t=>by rw[List.length_cons,List.length_cons,zol t]
theorem zdg{K:W.Frag}{C:Cn}{σ:L2.St}{G H:Hp}{w:Wn}{ρ:Ev}{i:Nat}{ds:List (Int×Dt)}(r:Rel K C G w ρ σ H)(e:ρ[i]? = some (some (.dic ds))):∃ a us,σ[i]? = some (some (.ref a))/\w a=some i/\H a=some (.dK us)/\PZ K G ds us:=by
 obtain ⟨v,h1,a,us,rfl,h2,h3,h4⟩:=r.sl i _ e
 exact ⟨a,us,h1,h2,h3,h4⟩
theorem Rel.setDic{K:W.Frag}{C:Cn}{σ:L2.St}{G0 H0:Hp}{w0:Wn}{G H:Hp}{w:Wn}{ρ:Ev}{i:Nat}{ds:List (Int×Dt)}{p:Addr}{us:List (Key×V)}(r:Rel K C G w ρ σ H)(hi:i < ρ.length)(hpp:i∉C.pp)(hp:H p=some (.dK us))(hg:G p=none)(hw:w p=none)
  (q:PZ K G ds us) (s:zaN G0 H0 w0 G H w) (h0:H0 p=none) (en0:C.H₀ p=none) :
  Rel K C G (fun b=>if b=p then some i else w b) (ρ.set i (some (.dic ds))) (σ.set i (some (.ref p))) H/\zaN G0 H0 w0 G H (fun b=>if b=p then some i else w b):=by
 have s1:∀{G1 H1:Hp}{w1:Wn},zaN G1 H1 w1 G H w->H1 p=none->zaN G1 H1 w1 G H (fun b=>if b=p then some i else w b):=fun s z=>by
  refine ⟨s.g,s.fr,s.h,fun b e=>?_,s.k⟩
  by_cases hb:b=p
  ·subst hb;exact .inr z
  ·simp[hb] at e;exact s.w b e
 refine ⟨⟨r.gh,fun b e=>?_,fun b e=>?_,by simpa using r.len,fun j b e=>?_,s1 r.en en0,fun j hj=>?_⟩,s1 s h0⟩
 ·by_cases hb:b=p
  ·subst hb;exact hg
  ·simp[hb] at e;exact r.wg b e
 ·by_cases hb:b=p
  ·subst hb;rw[hp];simp
  ·simp[hb] at e;exact r.wh b e
 ·by_cases hj:j=i
  ·subst hj
   rw[List.getElem?_set_self hi] at e
   cases e
   exact ⟨_,List.getElem?_set_self (by rw[<- r.len];exact hi),p,us,rfl,by simp,hp,q⟩
  ·rw[List.getElem?_set_ne (Ne.symm hj)] at e
   obtain ⟨v',h1,h2⟩:=r.sl j b e
   refine ⟨v',by rw[List.getElem?_set_ne (Ne.symm hj)];exact h1,h2.grow (.refl _) fun a o e1 e2=>⟨e2,?_⟩⟩
   have:a≠p:=fun z=>by subst z;rw[hw] at e1;cases e1
   simp[this,e1]
 ·have:i≠j:=fun z=>hpp (z ▸ hj)
  rw[List.getElem?_set_ne this];exact r.pin j hj
theorem Rel.mutD{K:W.Frag}{C:Cn}{σ:L2.St}{G H:Hp}{w:Wn}{ρ:Ev}{i:Nat}{ds ds':List (Int×Dt)}{a:Addr}{us':List (Key×V)}(r:Rel K C G w ρ σ H)(hi:ρ[i]? = some (some (.dic ds)))(hv:σ[i]? = some (some (.ref a)))(hw:w a=some i)(h':PZ K G ds' us') :
  Rel K C G w (ρ.set i (some (.dic ds'))) σ (upd H a (.dK us'))/\zaN G H w G (upd H a (.dK us')) w:=by
 have ga:G a=none:=r.wg a (by rw[hw];simp)
 have st:zaN G H w G (upd H a (.dK us')) w:=by
  refine ⟨.refl _,fun b o e=>.inl (by rw[e];simp),fun b o e z=>?_,fun _ e=>.inl e,fun b e=>?_⟩
  ·have:b≠a:=fun q=>by subst q;rw[hw] at z;cases z
   rw[zad this];exact e
  ·by_cases hb:b=a
   ·subst hb;rw[zal] at e;cases e
   ·rw[zad hb] at e;exact e
 refine ⟨⟨fun b o e=>?_,r.wg,fun b e=>?_,by simpa using r.len,fun j b e=>?_,r.en.trans st,r.pin⟩,st⟩
 ·rw[zad (zaf e ga)];exact r.gh b o e
 ·by_cases hb:b=a
  ·subst hb;rw[zal];simp
  ·rw[zad hb];exact r.wh b e
 ·by_cases hj:j=i
  ·subst hj
   rw[List.getElem?_set_self (List.getElem?_eq_some_iff.mp hi).1] at e
   cases e
   exact ⟨_,hv,a,us',rfl,hw,zal,h'⟩
  ·rw[List.getElem?_set_ne (Ne.symm hj)] at e
   obtain ⟨v',h1,h2⟩:=r.sl j b e
   refine ⟨v',h1,h2.grow (.refl _) fun b' o e1 e2=>⟨?_,e1⟩⟩
   have:b'≠a:=fun z=>by subst z;rw[hw] at e1;exact hj (Option.some.inj e1).symm
   rw[zad this];exact e2
section
variable{X:Cx}{C:Cn}{pos ps sp apos spos pd:Pos}{x:Str}{k v:Expr}{fk fv:De}
def zkv(i:Nat)(fk fv:De):DS:=fun ρ=>(fk ρ).bind fun a=>(fv a.2).bind fun b=>match a.1 with
 |.int n=>if i<b.2.length then .ok (.nx,b.2.set i (some (.dic [(n,b.1)]))) else .no
 |_=>.no
theorem zlX{i:Nat}(hN:X.N.Nodup)(hix:X.N[i]? = some x)(hx:Loc X.env.scope x)(hp:i∉C.pp)(hk:JE X C k fk)(hv:JE X C v fv)(hsw:swapsWith (.Dict [some k] [v] pd) (some (.Name x ps)) spos.line X.env=pure false:=by rfl)
  (hf:X.fn x=true\/X.env.scope.names.lookup x=some .local:=by first|exact .inl rfl|exact .inr rfl|assumption):JS X C (.Assign [.Name x ps] (.Dict [some k] [v] pd) spos) (zkv i fk fv):=by
 refine PS.weak (zkL (i:=i) hN hix hx (zpD (znx hk hv zoW) rfl rfl (by simp) (by show 1<=15;decide)) hsw hf) fun D σ H ⟨G,w,ρ,r,p⟩=>?_
 unfold zkv at p
 unfold zsO zsf zg4
 intro a ha
 have g1:zdE G H G (upd H a (.dK [])):=.newH r.gh ha
 have r1:=r.grow g1
 have wa:w a=none:=zgR r ha
 have sc:Stp (fun (_ _:Hp) (_:Wn)=>kS X.K C D G H w):=fun _ _ _ _ _ _ _ _ k=>k
 refine zch (κ:=fun _ _ _=>kS X.K C D G H w) sc r1 p fun d ρ1 v1 G1 H1 w1 r2 s1 q1 p1=>?_
 refine zch (κ:=fun _ _ _=>kS X.K C D G H w) sc r2 p1 fun d2 ρ2 v2 G2 H2 w2 r3 s2 q2 p2=>?_
 dsimp only at p2
 split at p2
 case h_2=>exact p2.elim
 rename_i n
 split at p2
 case isFalse=>exact p2.elim
 rename_i hl
 have s12:=s1.trans s2
 have s0:=g1.step.trans s12
 have e2:H2 a=some (.dK []):=s12.h a _ zal wa
 have wa2:w2 a=none:=by
  cases z:w2 a with
  |none=>rfl
  |some m =>
   rcases s12.w a (by rw[z];simp) with q|q
   ·exact absurd wa q
   ·rw[zal] at q;cases q
 have ga2:G2 a=none:=by
  cases z:G2 a with
  |none=>rfl
  |some o =>
   rcases s12.fr a o z with q|q|q
   ·exact absurd (r.gh.free ha) q
   ·rw[zal] at q;cases q
   ·exact absurd wa q
 show zg4 [] σ H2 _
 unfold zg4
 refine ⟨e2,[(.inl n,v2)],?_,by show 1<=15;decide,?_⟩
 ·have:v1=.int n:=zam (K:=X.K) (G:=G1) q1
  subst this;rfl
 ·have st:∀{G' H':Hp}{w':Wn},zaN G' H' w' G2 H2 w2->H' a=none->zaN G' H' w' G2 (upd H2 a (.dK (zeR [] [(.inl n,v2)]))) w2:=fun s z=>by
   refine ⟨s.g,s.fr,fun b o e y=>?_,s.w,fun b e=>?_⟩
   ·rw[zad (zaf e z)];exact s.h b o e y
   ·by_cases hb:b=a
    ·subst hb;exact z
    ·rw[zad hb] at e;exact s.k b e
  have r4:Rel X.K C G2 w2 ρ2 σ (upd H2 a (.dK (zeR [] [(.inl n,v2)]))):=by
   refine ⟨fun b o e=>by rw[zad (zaf e ga2)];exact r3.gh b o e,r3.wg,fun b e=>?_,r3.len,fun j b e=>?_,st r3.en (r.en.k a ha),r3.pin⟩
   ·by_cases hb:b=a
    ·subst hb;rw[zal];simp
    ·rw[zad hb];exact r3.wh b e
   ·obtain ⟨v',h1,h2⟩:=r3.sl j b e
    refine ⟨v',h1,h2.grow (.refl _) fun b' o e1 e2=>⟨?_,e1⟩⟩
    have:b'≠a:=fun z=>by subst z;rw[wa2] at e1;cases e1
    rw[zad this];exact e2
  obtain ⟨r',s'⟩:=r4.setDic (i:=i) (ds:=[(n,d2)]) (us:=zeR [] [(.inl n,v2)]) hl hp zal ga2 wa2 (.cons ⟨rfl,q2⟩ .nil) (st s0 ha) ha (r.en.k a ha)
  exact p2 _ _ _ _ s' r'
def zgf(i:Nat)(fk:De):De:=fun ρ=>match ρ[i]? with
 |some (some (.dic _))=>(fk ρ).bind fun a=>match a.1,a.2[i]? with
  |.int n,some (some (.dic ds))=>match zdz ds n with
   |some d=>.ok (d,a.2)
   |none=>.no
  |_,_=>.no
 |_=>.no
theorem zl3{kk:Nat}(i:Nat)(hr:zcg kk X.A)(hk:JE X C k fk)(hN:X.N[i]? = some x:=by rfl)(hv:Vis X.env.scope x:=by first|exact Or.inl rfl|exact Or.inr (Or.inl rfl)|exact Or.inr (Or.inr rfl))
  (hd:(x == ("__debug__" : Str))=false:=by decide) (hcd:(x == ("__classdict__" : Str))=false:=by decide) (hs:zsx k:=by exact fun _ _=>rfl):JE X C (.Subscript (.Name x ps) k pos) (zgf i fk) :=
 PE.weak (zm9 (by have:=hr.un;omega) (zb1 hN hv hd hcd) hk hs) fun σ H Q ⟨G,w,ρ,r,p⟩=>by
  unfold zgf at p
  split at p
  case h_2=>exact p.elim
  rename_i ds0 e0
  obtain ⟨a,us0,h1,h2,h3,h4⟩:=zdg r e0
  refine ⟨.ref a,h1,?_⟩
  refine zch (κ:=fun G H w=>kE X.K C σ Q G H w) zbt r p fun d ρ1 v G1 H1 w1 r1 s1 q1 p1=>?_
  dsimp only at p1
  split at p1
  case h_2=>exact p1.elim
  rename_i n ds e1
  split at p1
  case h_2=>exact p1.elim
  rename_i d' ed
  obtain ⟨a',us,g1,g2,g3,g4⟩:=zdg r1 e1
  rw[h1] at g1;cases g1
  obtain ⟨v',ev,rv⟩:=(zeL g4).1 _ ed
  have:v=.int n:=zam (K:=X.K) (G:=G1) q1
  subst this
  exact ⟨a,v',rfl,by rw[<- ev];exact zgy.k (k:=.inl n) g3,p1 _ _ _ _ (.refl _ _ _) r1 rv⟩
def zlG(b:Bool)(i:Nat)(fk:De):DT:=fun ρ=>(fk ρ).bind fun a=>match a.1,a.2[i]? with
 |.int n,some (some (.dic ds))=>.ok (b == (zdz ds n).isSome,a.2)
 |_,_=>.no
theorem zrt{kk:Nat}(i:Nat)(hr:zcg kk X.A)(hk:JE X C k fk)(hN:X.N[i]? = some x:=by rfl)(hv:Vis X.env.scope x:=by first|exact Or.inl rfl|exact Or.inr (Or.inl rfl)|exact Or.inr (Or.inr rfl))
  (hd:(x == ("__debug__" : Str))=false:=by decide) (hcd:(x == ("__classdict__" : Str))=false:=by decide) (hm:behindInMarks .In (.Name x ps)=false:=by rfl):JT X C (.Compare k [.In] [.Name x ps] pos) (zlG true i fk) :=
 PT.weak (zjt (zrn (by have:=hr.un;omega) hk (zb1 hN hv hd hcd)) hm) fun σ H Q ⟨G,w,ρ,r,p⟩=>by
  unfold zlG at p
  refine zch (κ:=fun G H w=>kT X.K C σ Q G H w) zgH r p fun d ρ1 v G1 H1 w1 r1 s1 q1 p1=>?_
  dsimp only at p1
  split at p1
  case h_2=>exact p1.elim
  rename_i n ds e1
  obtain ⟨a,us,g1,g2,g3,g4⟩:=zdg r1 e1
  have:v=.int n:=zam (K:=X.K) (G:=G1) q1
  subst this
  refine ⟨.ref a,g1,a,_,rfl,zgy.k (k:=.inl n) g3,_,rfl,?_⟩
  rw[zgM g4]
  have:=p1 _ _ _ (.refl _ _ _) r1
  simpa using this
theorem zkY{kk:Nat}(i:Nat)(hr:zcg kk X.A)(hk:JE X C k fk)(hN:X.N[i]? = some x:=by rfl)(hv:Vis X.env.scope x:=by first|exact Or.inl rfl|exact Or.inr (Or.inl rfl)|exact Or.inr (Or.inr rfl))
  (hd:(x == ("__debug__" : Str))=false:=by decide) (hcd:(x == ("__classdict__" : Str))=false:=by decide) (hm:behindInMarks .NotIn (.Name x ps)=false:=by rfl):JT X C (.Compare k [.NotIn] [.Name x ps] pos) (zlG false i fk) :=
 PT.weak (zjt (zhA (by have:=hr.un;omega) hk (zb1 hN hv hd hcd)) hm) fun σ H Q ⟨G,w,ρ,r,p⟩=>by
  unfold zlG at p
  refine zch (κ:=fun G H w=>kT X.K C σ Q G H w) zgH r p fun d ρ1 v G1 H1 w1 r1 s1 q1 p1=>?_
  dsimp only at p1
  split at p1
  case h_2=>exact p1.elim
  rename_i n ds e1
  obtain ⟨a,us,g1,g2,g3,g4⟩:=zdg r1 e1
  have:v=.int n:=zam (K:=X.K) (G:=G1) q1
  subst this
  refine ⟨.ref a,g1,a,_,rfl,zgy.k (k:=.inl n) g3,_,rfl,?_⟩
  rw[zgM g4]
  have:=p1 _ _ _ (.refl _ _ _) r1
  simpa using this
def zhj(i:Nat)(fk fv:De):DS:=fun ρ=>(fv ρ).bind fun b=>match b.2[i]? with
 |some (some (.dic _))=>(fk b.2).bind fun a=>match a.1,a.2[i]? with
  |.int n,some (some (.dic ds))=>if ds.length<16777216 then .ok (.nx,a.2.set i (some (.dic (zoa ds n b.1)))) else .no
  |_,_=>.no
 |_=>.no
theorem zkW{kk:Nat}(i:Nat)(hr:zcg kk X.A)(hk:JE X C k fk)(hv:JE X C v fv)(hN:X.N[i]? = some x:=by rfl)(hvi:Vis X.env.scope x:=by first|exact Or.inl rfl|exact Or.inr (Or.inl rfl)|exact Or.inr (Or.inr rfl))
  (hsw:swapsWith v (some (.Subscript (.Name x ps) k pd)) spos.line X.env=pure false:=by rfl)
  (hd:(x == ("__debug__" : Str))=false:=by decide) (hcd:(x == ("__classdict__" : Str))=false:=by decide):JS X C (.Assign [.Subscript (.Name x ps) k pd] v spos) (zhj i fk fv) :=
 PS.weak (zoR (by have:=hr.un;omega) (zb1 hN hvi hd hcd) hk hv hsw) fun D σ H ⟨G,w,ρ,r,p⟩=>by
  unfold zhj at p
  refine zch (κ:=fun G H w=>kS X.K C D G H w) zcX r p fun d ρ1 v1 G1 H1 w1 r1 s1 q1 p1=>?_
  dsimp only at p1
  split at p1
  case h_2=>exact p1.elim
  rename_i ds0 e0
  obtain ⟨a,us0,h1,h2,h3,h4⟩:=zdg r1 e0
  refine ⟨.ref a,h1,?_⟩
  refine zch (κ:=fun G H w=>kS X.K C D G H w) zcX r1 p1 fun d2 ρ2 v2 G2 H2 w2 r2 s2 q2 p2=>?_
  dsimp only at p2
  split at p2
  case h_2=>exact p2.elim
  rename_i n ds e2
  split at p2
  case isFalse=>exact p2.elim
  rename_i hl
  obtain ⟨a',us,g1,g2,g3,g4⟩:=zdg r2 e2
  rw[h1] at g1;cases g1
  have:v2=.int n:=zam (K:=X.K) (G:=G2) q2
  subst this
  obtain ⟨r',s'⟩:=r2.mutD e2 h1 g2 (zq8 (k:=n) (q1.same s2.g) g4)
  exact ⟨a,_,rfl,zqD.k (k:=.inl n) (v:=v1) g3 (by rw[<- zol g4,zdF];exact hl),p2 _ _ _ _ s' r'⟩
def zkN(i:Nat)(fk:De):De:=fun ρ=>match ρ[i]? with
 |some (some (.dic _))=>(fk ρ).bind fun a=>match a.1,a.2[i]? with
  |.int n,some (some (.dic ds))=>.ok ((zdz ds n).getD .non,a.2)
  |_,_=>.no
 |_=>.no
theorem zmI{kk:Nat}(i:Nat)(hr:zcg kk X.A)(hk:JE X C k fk)(hN:X.N[i]? = some x:=by rfl)(hv:Vis X.env.scope x:=by first|exact Or.inl rfl|exact Or.inr (Or.inl rfl)|exact Or.inr (Or.inr rfl))
  (hd:(x == ("__debug__" : Str))=false:=by decide) (hcd:(x == ("__classdict__" : Str))=false:=by decide)
  (hbase:attributeBase (.Name x ps) "get" X.env (eval (.Name x ps) X.env)=eval (.Name x ps) X.env:=by rfl)
  (hfew:((backTo pos (starEach [k] X.env)).all (fun x=>!x.1) && (backToKw pos (keywordEach [] X.env)).all (fun x=>x.1.isSome) && decide (([k]:List Expr).length+([]:List Keyword).length+(if ([]:List Keyword).isEmpty then 0 else 1)<30))=true:=by rfl)
  (hline:(apos.endLine == pos.line)=true:=by rfl) (htr:backTo pos (starEach [k] X.env)=[(false,eval k X.env)]:=by rfl):JE X C (.Call (.Attribute (.Name x ps) "get" apos) [k] [] pos) (zkN i fk) :=
 PE.weak (zmR (by have:=hr.un;omega) (zb1 hN hv hd hcd) hk ⟨hbase,hfew,hline,htr⟩) fun σ H Q ⟨G,w,ρ,r,p⟩=>by
  unfold zkN at p
  split at p
  case h_2=>exact p.elim
  rename_i ds0 e0
  obtain ⟨a,us0,h1,h2,h3,h4⟩:=zdg r e0
  refine ⟨.ref a,h1,a,rfl,.inl ⟨us0,.inl h3⟩,?_⟩
  refine zch (κ:=fun G H w=>kE X.K C σ Q G H w) zbt r p fun d ρ1 v G1 H1 w1 r1 s1 q1 p1=>?_
  dsimp only at p1
  split at p1
  case h_2=>exact p1.elim
  rename_i n ds e1
  obtain ⟨a',us,g1,g2,g3,g4⟩:=zdg r1 e1
  rw[h1] at g1;cases g1
  have:v=.int n:=zam (K:=X.K) (G:=G1) q1
  subst this
  refine ⟨_,zgy.k (k:=.inl n) g3,p1 _ _ _ _ (.refl _ _ _) r1 ?_⟩
  cases ed:zdz ds n with
  |none=>rw[(zeL g4).2 ed];unfold Rep;rfl
  |some d'=>obtain ⟨v',ev,rv⟩:=(zeL g4).1 _ ed;rw[ev];exact rv
end
def ltL(f:Dt->Dt->Option Bool):List Dt->List Dt->Option Bool
 |[],[]=>some false
 |[],_::_=>some true
 |_::_,[]=>some false
 |x::xs,y::ys=>if (okN 60 x && okN 60 y)=true then (if eqD x y=true then ltL f xs ys else f x y) else none
def ltD:Nat->Dt->Dt->Option Bool
 |0,.int a,.int b=>some (decide (a<b))
 |0,_,_=>none
 |_+1,.int a,.int b=>some (decide (a<b))
 |n+1,.tup xs,.tup ys=>ltL (ltD n) xs ys
 |_+1,_,_=>none
def zqk(A:Around)(s:Shared)(u v:Value)(b:Bool):Prop:=∀(prog:Program)(w:World)(E:Value->Shared->Prop)(Q:Value->Shared->Prop),Q (.bool b) s->wpAny (model prog w) A (richCompare .Lt u v) Q E s
inductive zmE(A:Around)(s:Shared):List Value->List Value->Bool->Prop where
 |nil:zmE A s [] [] false
 |left {w:Value} {ws:List Value}:zmE A s [] (w::ws) true
 |right {v:Value} {vs:List Value}:zmE A s (v::vs) [] false
 |eq {v w:Value} {vs ws:List Value} {b:Bool} (h:SeqAt.EqAt A s v w true) (t:zmE A s vs ws b):zmE A s (v::vs) (w::ws) b
 |ne {v w:Value} {vs ws:List Value} {b:Bool} (h:SeqAt.EqAt A s v w false) (t:zqk A s v w b):zmE A s (v::vs) (w::ws) b
section
open PySem.SeqAt
open PySem.AutoSeq1 (wpAny_loadPart')
open PySem.MeetsSeq PySem.MeetsSeq2 PySem.MeetsSeq3
theorem ziP(l b:Addr)(items items2:Array Value)(n n2:Nat)(dd dd2:Option Addr)(sl sl2:Array (Option Value))(c:Bool) :
  Meets (Builtin.«tuple.__lt__» ⟨[.ref l,.ref b],[]⟩)
   (fun A R s=>s.heap.get? l=some { cls:=.type "tuple",dict:=dd,data:=.seq items n,slots:=sl }/\s.heap.get? b=some { cls:=.type "tuple",dict:=dd2,data:=.seq items2 n2,slots:=sl2 } /\
    zmE A.in1 s items.toList items2.toList c/\R (.ok (.ret (.bool c))) s) :=
 .of_wp fun prog w A R s h=>by
  obtain ⟨hp,g,d,tk,os⟩:=s;obtain ⟨hl,hb,hps,h⟩:=h
  have f2:=AutoSeq1.sub_tuple_tuple
  wp_walk using wpAny_loadPart' hl,wpAny_loadPart' hb,wpAny_forIn_list _ (fun zay b s'=>b.1=none/\s'=⟨hp,g,d,tk,os⟩/\∃(vs ws:List Value),zay=vs.zip ws /\
   zmE A.in1 ⟨hp,g,d,tk,os⟩ vs ws c/\vs.length+items2.size=ws.length+items.size) _
  case turn =>
   rintro ⟨y,x⟩ zay b s' ⟨hb',rfl,vs,ws,hz,hvi,hlen⟩
   cases hvi with
   |nil=>rw[List.zip_nil_left] at hz;cases hz
   |left=>rw[List.zip_nil_left] at hz;cases hz
   |right=>rw[List.zip_nil_right] at hz;cases hz
   |eq he ht =>
    rw[List.zip_cons_cons] at hz
    injection hz with hyx hrest
    injection hyx with hy hx
    subst hy hx
    simp only[List.length_cons] at hlen
    refine wpAny_bind (he prog w _ _ ?_)
    wp_walk
    exact ⟨rfl,rfl,_,_,hrest,ht,by omega⟩
   |ne he ht =>
    rw[List.zip_cons_cons] at hz
    injection hz with hyx hrest
    injection hyx with hy hx
    subst hy hx
    refine wpAny_bind (he prog w _ _ ?_)
    have hri:=ht prog w
    wp_walk using hri
    exact ⟨_,rfl,by simpa using h⟩
  case fin =>
   rintro ⟨b1,b2⟩ s' ⟨hb',rfl,vs,ws,hz,hvi,hlen⟩
   simp only at hb'
   subst hb'
   have hv:c=decide (items.size<items2.size):=by
    cases hvi with
    |nil =>
     simp only[List.length_nil] at hlen
     exact (decide_eq_false (by omega)).symm
    |left =>
     simp only[List.length_nil,List.length_cons] at hlen
     exact (decide_eq_true (by omega)).symm
    |right =>
     simp only[List.length_nil,List.length_cons] at hlen
     exact (decide_eq_false (by omega)).symm
    |eq he ht=>rw[List.zip_cons_cons] at hz;cases hz
    |ne he ht=>rw[List.zip_cons_cons] at hz;cases hz
   rw[hv] at h
   wp_walk
   exact ⟨_,rfl,by simpa [Builtin.Tuple.tupleCompareSizes] using h⟩
  case h =>
   exact ⟨rfl,rfl,items.toList,items2.toList,rfl,hps,by simp;omega⟩
end
theorem zmX{A:Around}{s:Shared}{l b:Addr}{items items2:Array Value}{c:Bool}(hl:IsTup s.heap l items)(hb:IsTup s.heap b items2)(hp:zmE A.in1 s items.toList items2.toList c)(hu:A.units<cLine):zqk A s (.ref l) (.ref b) c:=fun prog w E Q h=>by
 obtain ⟨⟨cls,dd,data,sl⟩,ho,hc,n,hd⟩:=id hl
 obtain ⟨⟨cls2,dd2,data2,sl2⟩,ho2,hc2,n2,hd2⟩:=id hb
 simp only at hc hd hc2 hd2
 subst hc hd hc2 hd2
 exact richCompare_meets_room (op:=.Lt) ⟨_,ho,rfl⟩ ⟨_,ho2,rfl⟩ PySem.F.slot_tuple_lt PySem.F.entry_tuple_lt (PySem.F.args_tuple_lt_2 _ _) (ziP l b items items2 n n2 dd dd2 sl sl2 c)
  ⟨ho,ho2,hp,show Value.bool c≠Value.notImplemented/\Q (.bool c) s from ⟨(fun x=>nomatch x),h⟩⟩ hu
section
variable{X:Cx}{pins:List (Addr×Obj)}{σ:L2.St}{H:Hp}{s:Shared}
theorem zlQ(I:L2.Inv X pins σ H s){A:Around}(hu:A.units+64<cLine){f:Dt->Dt->Option Bool}(hf:∀ dx dy x y u v b,Rep X.K H dx x->Rep X.K H dy y->zaF x u->zaF y v->f dx dy=some b->zqk A s u v b) :
  ∀{xs ys:List Dt}{vs ws:List V}{us zs:List Value}{b:Bool},zaw X.K H xs vs->zaw X.K H ys ws->zaM vs us->zaM ws zs->ltL f xs ys=some b->zmE A s us zs b
 |[],[],vs,ws,us,zs,b,h1,h2,r1,r2,e=>by
  rw[h1.nil_inv] at r1;rw[h2.nil_inv] at r2;cases r1;cases r2;cases e;exact .nil
 |[],y::ys,vs,ws,us,zs,b,h1,h2,r1,r2,e=>by
  obtain ⟨v,t,rfl,_,_⟩:=h2.cons_inv
  rw[h1.nil_inv] at r1;cases r1;cases r2;cases e;exact .left
 |x::xs,[],vs,ws,us,zs,b,h1,h2,r1,r2,e=>by
  obtain ⟨v,t,rfl,_,_⟩:=h1.cons_inv
  rw[h2.nil_inv] at r2;cases r1;cases r2;cases e;exact .right
 |x::xs,y::ys,vs,ws,us,zs,b,h1,h2,r1,r2,e=>by
  obtain ⟨v,t,rfl,q1,q2⟩:=h1.cons_inv
  obtain ⟨v',t',rfl,q1',q2'⟩:=h2.cons_inv
  cases r1 with
  |cons a1 a2 =>
   cases r2 with
   |cons b1 b2 =>
    unfold ltL at e
    split at e
    ·rename_i ok
     rw[Bool.and_eq_true] at ok
     have he:=zlc I (A:=A) (by omega) ok.1 ok.2 q1 q1' a1 b1
     split at e
     ·rename_i eqt
      rw[eqt] at he
      exact .eq he (zlQ I hu hf q2 q2' a2 b2 e)
     ·rename_i nef
      rw[Bool.not_eq_true] at nef
      rw[nef] at he
      exact .ne he (hf _ _ _ _ _ _ _ q1 q1' a1 b1 e)
    ·cases e
theorem zlO(I:L2.Inv X pins σ H s):∀(n:Nat){A:Around}(hu:A.units+n+64<cLine){dx dy:Dt}{x y:V}{u v:Value}{b:Bool},Rep X.K H dx x->Rep X.K H dy y->zaF x u->zaF y v->ltD n dx dy=some b->zqk A s u v b:=by
 have hint:∀{A:Around}{a c:Int}{x y:V}{u v:Value},Rep X.K H (.int a) x->Rep X.K H (.int c) y->zaF x u->zaF y v->zqk A s u v (decide (a<c)):=fun {A a c x y u v} h1 h2 r1 r2 prog w E Q h=>by
  have e1:x=.int a:=zam (K:=X.K) (G:=H) h1
  have e2:y=.int c:=zam (K:=X.K) (G:=H) h2
  subst e1 e2
  obtain ⟨t1,rfl⟩:=r1
  obtain ⟨t2,rfl⟩:=r2
  exact HT.rcLt_int A s a t1 c t2 prog w E Q h
 intro n
 induction n with
 |zero =>
  intro A hu dx dy x y u v b h1 h2 r1 r2 e
  cases dx <;> cases dy <;> first|(cases e;exact hint h1 h2 r1 r2)|(simp[ltD] at e;done)
 |succ n ih =>
  intro A hu dx dy x y u v b h1 h2 r1 r2 e
  cases dx <;> cases dy <;> first|(cases e;exact hint h1 h2 r1 r2)|(simp[ltD] at e;done)|skip
  rename_i xs ys
  unfold Rep at h1 h2
  obtain ⟨a,vs,rfl,s1,m1⟩:=h1
  obtain ⟨c,ws,rfl,s2,m2⟩:=h2
  cases r1;cases r2
  obtain ⟨us,rv1,p1,_⟩:=I.tuple s1.sq
  obtain ⟨zs,rv2,p2,_⟩:=I.tuple s2.sq
  refine zmX p1 p2 (zlQ I (A:=A.in1) (f:=ltD n) (by rw[zc9];omega) (fun dx dy x y u v b k1 k2 k3 k4 k5=>ih (by rw[zc9];omega) k1 k2 k3 k4 k5) m1 m2 (by simpa using rv1) (by simpa using rv2) e) (by omega)
end
def zbK(b:Dt×Dt):List (Dt×Dt)->Option Dt
 |[]=>some b.2
 |p::r=>match ltD 8 p.1 b.1 with
  |some true=>zbK p r
  |some false=>zbK b r
  |none=>none
def zkd(d:Dt):List (Dt×Dt)->Option Dt
 |[]=>some d
 |p::r=>zbK p r
theorem zgK{X:Cx}{pins:List (Addr×Obj)}{σ:L2.St}{H:Hp}{s:Shared}{S I:Addr}{oS oI:Obj}(J:L2.Inv X pins σ H s)(hS:s.heap.get? S=some oS/\H S=none/\S≠X.env.locals/\S∉X.fs/\∀ v,oS.data≠.cell v)(hI:s.heap.get? I=some oI/\H I=none/\I≠X.env.locals/\I∉X.fs/\∀ v,oI.data≠.cell v) :
  L2.Inv X (pins++[(S,oS),(I,oI)]) σ H s:=J.pins_of fun p hp=>by
 rcases List.mem_append.mp hp with z|z
 ·exact J.pin p (List.mem_append_right _ z)
 ·rcases List.mem_cons.mp z with rfl|z
  ·exact hS
  ·rw[List.mem_singleton.mp z];exact hI
section
variable{X:Cx}{C:Cn}{pins:List (Addr×Obj)}{σ:L2.St}{G1 H1:Hp}{w1:Wn}{ρ1:Ev}{l q S I:Addr}{xs:List V}{kd:List (Dt×Dt)}{dv:Value}{R:Result->Shared->Prop}
abbrev zqr(X:Cx)(C:Cn)(σ:L2.St)(G1 H1:Hp)(w1:Wn)(ρ1:Ev)(q:Addr)(kd:List (Dt×Dt)):Prop:=∀(k d:Dt)(xv:V)(u:Value),(k,d)∈kd->zaF xv u->∀(pins':List (Addr×Obj))(s':Shared)(H3 G3:Hp)(w3:Wn),L2.Inv X pins' σ H3 s'->zaN G1 H1 w1 G3 H3 w3->Rel X.K C G3 w3 ρ1 σ H3->Rep X.K G3 d xv ->
 wpAny (model X.prog X.w) X.A.in1 (call (.ref q) [u]) (fun r s2=>∃ kv H4 G4 w4,zaF kv r/\L2.Inv X pins' σ H4 s2/\zaN G3 H3 w3 G4 H4 w4/\Rel X.K C G4 w4 ρ1 σ H4/\Rep X.K G4 k kv) (fun _ _=>False) s'
theorem zfl(hr:X.A.handled=none)(hlI:l≠I){s':Shared}{H3 G3:Hp}{w3:Wn}{oS oI:Obj}{j:Nat}{d:Dt}{E:Value->Shared->Prop}{Q:Option Value->Shared->Prop}(fI:zdt X pins H1 I)(hSI:S≠I)(hl:G1 l=some (.lst xs))(hrep:zaw X.K G1 (kd.map (·.2)) xs)(hj:(kd.map (·.2))[j]? = some d)
  (J:L2.Inv X (pins++[(S,oS),(I,oI)]) σ H3 s') (st:zaN G1 H1 w1 G3 H3 w3) (rel:Rel X.K C G3 w3 ρ1 σ H3) (hit:s'.heap.IsListIter I l j)
  (k:∀ xv u oI' h' tk',Rep X.K G3 d xv->zaF xv u->L2.Inv X (pins++[(S,oS),(I,oI')]) σ H3 { s' with heap:=h',toks:=tk' }->h'.IsListIter I l (j+1)->Q (some u) { s' with heap:=h',toks:=tk' }) :
  wpAny (model X.prog X.w) X.A.in1 (pyNext (.ref I)) Q E s':=by
 have hH:H3 l=some (.lst xs):=rel.gh _ _ (st.g _ _ hl)
 obtain ⟨zz,its,n,rv,hle,eo⟩:=J.lstM hH
 have nS:=J.pin (S,oS) (by simp)
 have nI:=J.pin (I,oI) (by simp)
 have W:=Walks.list (prog:=X.prog) (w:=X.w) (A:=X.A.in1) hr I l hlI its.toArray
 obtain ⟨xv,hx1,hx2⟩:=hrep.get hj
 obtain ⟨u,hu1,hu2⟩:=rv.get hx1
 refine W.item j _ _ _ (by rw[List.size_toArray];exact (List.getElem?_eq_some_iff.mp hu1).1) ⟨hit,⟨_,eo,rfl,n,rfl⟩⟩ fun v h' tk' hP hst' hk'=>?_
 have hv:its[j]? = some v:=by simpa using hP
 rw[hu1] at hv;cases hv
 obtain ⟨oI',hoI',hoc,hod⟩:=id hst'.1
 have J0:L2.Inv X pins σ H3 s':=J.unpinned
 have fI3:zdt X pins H3 I:=zrg fI nI.2.1 fun p hp=>.inl hp
 have J1:L2.Inv X pins σ H3 { s' with heap:=h',toks:=tk' }:=zaY (fp:=[I]) J0 (fun b hb=>by rw[List.mem_singleton.mp hb];exact fI3) fun b ob nb e=>hk' b ob nb e
 exact k xv u oI' h' tk' (hx2.same st.g) hu2 (zgK J1 ⟨hk' S _ (by simpa using hSI) nS.1,nS.2⟩ ⟨hoI',nI.2.1,nI.2.2.1,nI.2.2.2.1,fun v z=>by rw[hod] at z;cases z⟩) hst'.1
theorem ziW(hr:X.A.handled=none)(hlI:l≠I){s':Shared}{H3 G3:Hp}{w3:Wn}{oS oI:Obj}{E:Value->Shared->Prop}{Q:Option Value->Shared->Prop}(fI:zdt X pins H1 I)(hSI:S≠I)(hl:G1 l=some (.lst xs))
  (J:L2.Inv X (pins++[(S,oS),(I,oI)]) σ H3 s') (st:zaN G1 H1 w1 G3 H3 w3) (rel:Rel X.K C G3 w3 ρ1 σ H3) (hit:s'.heap.IsListIter I l xs.length)
  (k:∀ h' tk',L2.Inv X (pins++[(S,oS)]) σ H3 { s' with heap:=h',toks:=tk' }->Q none { s' with heap:=h',toks:=tk' }) :
  wpAny (model X.prog X.w) X.A.in1 (pyNext (.ref I)) Q E s':=by
 have hH:H3 l=some (.lst xs):=rel.gh _ _ (st.g _ _ hl)
 obtain ⟨zz,its,n,rv,hle,eo⟩:=J.lstM hH
 have nS:=J.pin (S,oS) (by simp)
 have nI:=J.pin (I,oI) (by simp)
 have W:=Walks.list (prog:=X.prog) (w:=X.w) (A:=X.A.in1) hr I l hlI its.toArray
 have hlen:its.toArray.size=xs.length:=by rw[List.size_toArray,rv.length]
 refine W.done _ _ _ ⟨by rw[hlen];exact hit,⟨_,eo,rfl,n,rfl⟩⟩ fun h' tk' hk'=>k h' tk' ?_
 have J0:L2.Inv X (pins++[(S,oS)]) σ H3 s':=J.pins_of fun p hp=>J.pin p (by
  rcases List.mem_append.mp hp with z|z
  ·exact List.mem_append_right _ (List.mem_append_left _ z)
  ·rw[List.mem_singleton.mp z];simp)
 exact zaY (fp:=[I]) J0 (fun b hb=>by
  rw[List.mem_singleton.mp hb]
  exact zrg fI nI.2.1 fun p hp=>by
   rcases List.mem_append.mp hp with z|z
   ·exact .inl z
   ·rw[List.mem_singleton.mp z];exact .inr hSI) fun b ob nb e=>hk' b ob nb e
theorem zgN{s':Shared}{H3:Hp}{oI:Obj}{as bs:Array Value}{e:Nat}{E:Value->Shared->Prop}{Q:Unit->Shared->Prop}{A:Around}(ha:as.size<=2)(hb:bs.size<=2)(fS:zdt X pins H1 S)(hSI:S≠I)(J:L2.Inv X (pins++[(S,lo as e),(I,oI)]) σ H3 s')
  (k:∀ e' h',L2.Inv X (pins++[(S,lo bs e'),(I,oI)]) σ H3 { s' with heap:=h' }->(∀ b,b≠S->h'.get? b=s'.heap.get? b)->Q () { s' with heap:=h' }):wpAny (model X.prog X.w) A (updateSeq S fun _=>bs) Q E s':=by
 have nS:=J.pin (S,lo as e) (by simp)
 have nI:=J.pin (I,oI) (by simp)
 obtain ⟨c2,hc2⟩ : ∃ c2,(s'.heap.update S (Obj.mapSeq fun _=>bs)).get? S=some (lo bs c2):=⟨_,get?_update_seq nS.1 fun _=>bs⟩
 have s1:=Heap.SameBut.update s'.heap S (Obj.mapSeq fun _=>bs)
 refine wpAny_updateSeq (hz:=by show as.size<=sizeLine;rw[sizeLine_eq];omega) (_hz':=by show bs.size<=sizeLine+1;rw[sizeLine_eq];omega) nS.1 rfl (k c2 _ ?_ fun b hb=>s1.2 b hb)
 have fS3:zdt X (pins++[(I,oI)]) H3 S:=zrg fS nS.2.1 fun p hp=>by
  rcases List.mem_append.mp hp with z|z
  ·exact .inl z
  ·rw[List.mem_singleton.mp z];exact .inr (Ne.symm hSI)
 exact zsC (t':=s'.toks) (zay:=[(I,oI)]) J fS3 (fun b ob nb e=>(s1.2 b nb).trans e) hc2 fun v z=>by cases z
theorem znD(hu:X.A.units+200<cLine)(hr:X.A.handled=none)(hlI:l≠I)(hSI:S≠I)(fS:zdt X pins H1 S)(fI:zdt X pins H1 I)(hl:G1 l=some (.lst xs))(hrep:zaw X.K G1 (kd.map (·.2)) xs)(turn:zqr X C σ G1 H1 w1 ρ1 q kd){res:Dt}
  (hR:∀ v u s2 H4 G4 w4,L2.Inv X pins σ H4 s2->zaN G1 H1 w1 G4 H4 w4->Rel X.K C G4 w4 ρ1 σ H4->Rep X.K G4 res v->zaF v u->R (.ok (.ret u)) s2) :
  ∀(zay:List (Dt×Dt))(j:Nat)(b:Dt×Dt)(s':Shared)(H3 G3:Hp)(w3:Wn)(kv bv:V)(uk ub:Value)(e:Nat)(oI:Obj),kd.drop j=zay->zbK b zay=some res ->
   L2.Inv X (pins++[(S,lo #[ub,uk] e),(I,oI)]) σ H3 s'->zaN G1 H1 w1 G3 H3 w3->Rel X.K C G3 w3 ρ1 σ H3->Rep X.K G3 b.1 kv->zaF kv uk->Rep X.K G3 b.2 bv->zaF bv ub->s'.heap.IsListIter I l j->j<=kd.length ->
   codeAny (model X.prog X.w) X.A (.builtin "min.loop" ⟨[.ref I,.ref q,.ref S],[(Str.ofString "default",dv)]⟩) R s':=by
 have hname:(toString "min"++toString ".loop" : String)="min.loop":=by decide
 intro zay
 induction zay with
 |nil =>
  intro j b s' H3 G3 w3 kv bv uk ub e oI hd hm J st rel q1 r1 q2 r2 hit hj
  have hlen:j=xs.length:=by
   have h1:=List.drop_eq_nil_iff.mp hd
   have h2:=hrep.length
   rw[List.length_map] at h2
   omega
  have nS:=J.pin (S,lo #[ub,uk] e) (by simp)
  refine codeAny_builtin PySem.F.entry_min_loop ?_
  rw[Around.under_plainId PySem.F.plain_min_loop _]
  show wpAny _ X.A.in1 (seqItems? (.ref S) >>= _) _ _ _
  refine wpAny_bind (wpAny_seqItems nS.1 rfl ?_)
  show wpAny _ X.A.in1 (tryCatch (pyNext (.ref I)) _ >>= _) _ _ _
  refine wpAny_bind (wpAny_tryCatch (ziW hr hlI fI hSI hl J st rel (by rw[<- hlen];exact hit) fun h' tk' J1=>?_))
  have nS':=J1.pin (S,lo #[ub,uk] e) (by simp)
  have s1:=Heap.SameBut.update h' S (Obj.mapSeq fun _=>(#[]:Array Value))
  show wpAny _ X.A.in1 (updateSeq S (fun _=>#[]) >>= _) _ _ _
  refine wpAny_bind ?_
  refine wpAny_updateSeq nS'.1 rfl (wpAny_bind (wpAny_letGo (wpAny_pure ?_)))
  have eb:b.2=res:=by simpa [zbK] using hm
  refine hR bv ub _ H3 G3 w3 ?_ st rel (by rw[<- eb];exact q2) r2
  exact zaY (fp:=[S]) (t':=tk') J1.unpinned (fun b hb=>by rw[List.mem_singleton.mp hb];exact zrg fS nS'.2.1 fun p hp=>.inl hp) fun b ob nb e=>(s1.2 b (by simpa using nb)).trans e
 |cons p zay ih =>
  intro j b s' H3 G3 w3 kv bv uk ub e oI hd hm J st rel q1 r1 q2 r2 hit hj
  obtain ⟨pk,pd⟩:=p
  have hget:kd[j]? = some (pk,pd):=by
   have:=List.getElem?_drop (xs:=kd) (i:=j) (j:=0)
   rw[hd] at this
   simpa using this.symm
  have hjl:j<kd.length:=(List.getElem?_eq_some_iff.mp hget).1
  have nS:=J.pin (S,lo #[ub,uk] e) (by simp)
  refine codeAny_builtin PySem.F.entry_min_loop ?_
  rw[Around.under_plainId PySem.F.plain_min_loop _]
  show wpAny _ X.A.in1 (seqItems? (.ref S) >>= _) _ _ _
  refine wpAny_bind (wpAny_seqItems nS.1 rfl ?_)
  show wpAny _ X.A.in1 (tryCatch (pyNext (.ref I)) _ >>= _) _ _ _
  refine wpAny_bind (wpAny_tryCatch (zfl hr hlI fI hSI hl hrep (by rw[List.getElem?_map,hget];rfl) J st rel hit fun xv u oI' h' tk' hx hu' J1 hit1=>?_))
  show wpAny _ X.A.in1 (tryCatch (holding [u] (call (.ref q) [u])) _ >>= _) _ _ _
  refine wpAny_bind (wpAny_tryCatch (wpAny_holding (wpAny_mono (turn pk pd xv u (List.mem_of_getElem? hget) hu' _ _ H3 G3 w3 J1 st rel hx) (fun x s2 he=>?_) fun _ _ hF=>hF.elim)))
  obtain ⟨nkv,H4,G4,w4,rx,J2,st2,rel2,hk2⟩:=he
  have nS2:=J2.pin (S,lo #[ub,uk] e) (by simp)
  have nI2:=J2.pin (I,oI') (by simp)
  obtain ⟨oIx,hoI,hoc,hod⟩:=id hit1
  have eIx:oIx=oI':=by
   have:=(J1.pin (I,oI') (by simp)).1
   rw[this] at hoI;exact (Option.some.inj hoI).symm
  subst eIx
  have hit2:s2.heap.IsListIter I l (j+1):=⟨oIx,nI2.1,hoc,hod⟩
  have drop1:kd.drop (j+1)=zay:=by
   rw[<- List.drop_drop,hd];rfl
  unfold zbK at hm
  have q1':=q1.same st2.g
  have q2':=q2.same st2.g
  show wpAny _ X.A.in1 (tryCatch (holding [u,x] (richCompare .Lt x uk >>= _)) _ >>= _) _ _ _
  have lt:∀ c,ltD 8 pk b.1=some c->zqk X.A.in1 s2 x uk c:=fun c hc=>zlO J2 8 (by rw[zc9];omega) (hk2.same rel2.gh) (q1'.same rel2.gh) rx r1 hc
  cases hc:ltD 8 pk b.1 with
  |none=>rw[hc] at hm;cases hm
  |some c =>
   rw[hc] at hm
   refine wpAny_bind (wpAny_tryCatch (wpAny_holding (wpAny_bind (lt c hc _ _ _ _ ?_))))
   refine wpAny_bind (wpAny_holding (wpAny_truthy_bool ?_))
   refine wpAny_bind (wpAny_letGo (wpAny_pure ?_))
   cases c with
   |true =>
    simp only[if_true]
    refine wpAny_bind (zgN (by simp) (by simp) fS hSI J2 fun e' h3 J3 hk3=>wpAny_bind (wpAny_letGo ?_))
    rw[hname]
    refine wpAny_pure ⟨plainId_quiet PySem.F.plain_min_loop _,ih (j+1) (pk,pd) _ H4 G4 w4 nkv xv x u e' oIx drop1 hm J3 (st.trans st2) rel2 hk2 rx (hx.same st2.g) hu' ⟨oIx,?_,hoc,hod⟩ (by omega)⟩
    show h3.get? I=some oIx
    rw[hk3 I (Ne.symm hSI)];exact nI2.1
   |false =>
    simp only[Bool.false_eq_true,if_false]
    refine wpAny_bind (wpAny_letGo ?_)
    rw[hname]
    exact wpAny_pure ⟨plainId_quiet PySem.F.plain_min_loop _,ih (j+1) b _ H4 G4 w4 kv bv uk ub e oIx drop1 hm J2 (st.trans st2) rel2 q1' r1 q2' r2 hit2 (by omega)⟩
end
theorem zsv{CX:CXT}{P:Program}{w:World}{K:W.Frag}{mg:Str->Option Value}{base:Heap}{k:Nat}{Fa c:Addr}{name qual:Str}{params:Arguments}{body:Expr}{scope:Scope}{pm ctv:Value}
  {N ps:List Str} {A:Around} {outer:List Env} {s:Shared} {H:Hp} {args:Args} {us:List Value} {vs:List V} {Q:VK} {E:XK} (hF:s.heap.get? Fa=some (W.kla_obj name qual params body scope [] pm c ctv)) (hcd:s.heap.CodeRec (.ref c) qual) (S:zav N ps scope)
  (hr:zcg (k+1) A) (e0:zo6 P w K mg base A outer s H) (hb:BindsTo s (W.kla_fn name qual params body scope [] pm (.ref c) ctv) args (ps.zip us)) (r:zaM vs us) (hl:vs.length=ps.length)
  (hbody:∃ t,PE (zit CX P w K mg base N qual scope Fa (.ref c) A outer s H E) body t/\t (start N vs) H Q) :
  codeAny (model P w) A (.call (.ref Fa) args) (CR CX outer P w H s Q E) s:=by
 have nolim:s.heap.NoLimit:=e0.mod.nolimit.keeps fun b o e=>(e0.bs b o e).1
 have zbp:∀ y∈ps.zip us,scope.names.lookup y.1=some .local\/(scope.names.lookup y.1=some .cell/\((cellsFrom (s.heap.objs.size+1) scope.names []).lookup y.1).isSome=true):=fun ⟨n,v⟩ hy=>by
  rcases S.par n (List.of_mem_zip hy).1 with q|q
  ·exact .inl q
  ·exact .inr ⟨q,W.cellsFrom_some _ _ _ (.inl q)⟩
 have dp:A.depth<recursionLimit:=by have:=hr.dp;omega
 refine W.kla_callFunE dp hF rfl S.co S.gen rfl hcd (hb _ _ _ _ ?_)
 refine wpAny_newFunctionEnv_cells S.kind zbp fun env he s1 x=>?_
 subst he
 refine ⟨nolim.keeps x.toInCall.keep,W.kla_codeExpr ?_⟩
 obtain ⟨t,ht,hq⟩:=hbody
 have I:=zhO (CX:=CX) (K:=K) (mg:=mg) (base:=base) (E:=E) (qual:=qual) (f:=Fa) (cd:=.ref c) S hr.hd e0 hl r x
 refine wpAny_mono (ht [] s1 (start N vs) H _ I hq) (fun u s' hs=>?_) fun e s' hs=>hs
 obtain ⟨v,H',J,rv,q⟩:=hs
 exact ⟨v,H',J.os,J.bare,J.base,J.hok,rv,q⟩
def zeB(fE:De):List Dt->Option (List (Dt×Dt))
 |[]=>some []
 |d::r=>match fE [some (.val d)] with
  |.ok (k,_)=>(zeB fE r).map ((k,d)::·)
  |_=>none
theorem zhT{fE:De}:∀{ds:List Dt}{kd:List (Dt×Dt)},zeB fE ds=some kd->kd.map (·.2)=ds
 |[],kd,h=>by simp[zeB] at h;subst h;rfl
 |d::r,kd,h=>by
  unfold zeB at h
  split at h
  ·simp only[Option.map_eq_some_iff] at h
   obtain ⟨k',h1,rfl⟩:=h
   simp[zhT h1]
  ·cases h
theorem zhy{fE:De}:∀{ds:List Dt}{kd:List (Dt×Dt)},zeB fE ds=some kd->∀ k d,(k,d)∈kd->∃ ρ',fE [some (.val d)]=.ok (k,ρ')
 |[],kd,h,k,d,hm=>by simp[zeB] at h;subst h;simp at hm
 |d0::r,kd,h,k,d,hm=>by
  unfold zeB at h
  split at h
  ·rename_i k0 ρ0 e0
   simp only[Option.map_eq_some_iff] at h
   obtain ⟨k',h1,rfl⟩:=h
   rcases List.mem_cons.mp hm with z|z
   ·cases z;exact ⟨_,e0⟩
   ·exact zhy h1 k d z
  ·cases h
abbrev HL1(X:Cx)(xv:Nat->Value)(k:Nat)(x:Str)(body:Expr)(scope:Scope)(fE:De):Prop:=∀(XL:Cx)(CL:Cn),(∃ Fa cdv A outer s H E,XL=zit (CXe X.prog X.w) X.prog X.w X.K X.mg X.base [x] (X.env.qual++"<lambda>") scope Fa cdv A outer s H E)->CL.pp=[]->CL.xv=xv->CL.nw=false->zcg k XL.A->zbW (CXe X.prog X.w) XL (EXc CL)->JE XL CL body fE
section
variable{X:Cx}{C:Cn}{pins:List (Addr×Obj)}{σ:L2.St}{k:Nat}{x:Str}{params:Arguments}{body:Expr}{scope:Scope}{fE:De}
theorem znV(hE:HL1 X C.xv k x body scope fE)(S:zav [x] [x] scope)(hr:zcg (k+1) X.A.in1)(hb:∀ s pm c ctv u,BindsTo s (W.kla_fn "<lambda>" (X.env.qual++"<lambda>") params body scope [] pm (.ref c) ctv) ⟨[u],[]⟩ [(x,u)])
  {G1 H1:Hp} {w1:Wn} {ρ1:Ev} {Fa c:Addr} {ctv:Value} {kd:List (Dt×Dt)} {ds:List Dt} (gF:G1 Fa=some (fHO Fa (kLo X params body scope [] c ctv))) (gc:G1 c=some (cHO c (X.env.qual++"<lambda>"))) (hkd:zeB fE ds=some kd):zqr X C σ G1 H1 w1 ρ1 Fa kd:=by
 intro kk d xv u hm ru pins' s' H3 G3 w3 J st rel hx
 obtain ⟨ρ',hf⟩:=zhy hkd kk d hm
 have hHF:=rel.gh _ _ (st.g _ _ gF)
 have hHc:=rel.gh _ _ (st.g _ _ gc)
 have o1:zbw X.prog X.w H3 s'.heap Fa (fHO Fa _):=J.hok Fa _ hHF
 have o2:zbw X.prog X.w H3 s'.heap c (cHO c _):=J.hok c _ hHc
 have JA:L2.Inv { X with A:=X.A.in1,xe:=fun _ _=>False } pins' σ H3 s':=zrV J rfl rfl
 refine wpAny_call (codeAny_mono (zsv (CX:=CXe X.prog X.w) (k:=k) (E:=fun _ _ _=>False) (us:=[u]) (vs:=[xv]) (N:=[x]) (ps:=[x])
  (Q:=fun v H4=>∃ G4 w4,zaN G3 H3 w3 G4 H4 w4/\Rel X.K C G4 w4 ρ1 σ H4/\Rep X.K G4 kk v) o1.1 o2.1 S hr JA.env0 (hb _ _ _ _ _) (.cons ru .nil) rfl ?_) fun rr s2 hq=>?_)
 ·refine ⟨_,hE _ ⟨G3,H3,fun _=>none,[],start [x] [xv],fun _=>False,C.xv,false⟩ ⟨Fa,.ref c,X.A.in1,X.stack,s',H3,fun _ _ _=>False,rfl⟩ rfl rfl rfl (hr.deeper _) (za2 _ _ _ _ _ _ _ _ _ _ _ S.kind fun u a H' z=>z.2.elim fun n z=>z.2.1.elim),G3,fun _=>none,[some (.val d)],?_,?_⟩
  ·refine ⟨rel.gh,fun b e=>absurd rfl e,fun b e=>absurd rfl e,rfl,fun i b e=>?_,.refl _ _ _,fun i hi=>by simp at hi⟩
   cases i with
   |zero=>simp at e;subst e;exact ⟨xv,rfl,hx⟩
   |succ i=>simp at e
  ·rw[hf]
   intro v G4 H4 w4 st4 rel4 hv
   have win:wIn w3 []=fun _=>none:=by
    funext b;unfold wIn;cases w3 b <;> rfl
   obtain ⟨r2,st2⟩:=rel.back (as:=[]) (vs:=[]) (bs:=[]) (bs':=[]) (ks:=[]) rfl rfl rfl rfl (by rw[win];exact st4) ⟨rel4.gh,rel4.wg,rel4.wh,fun j' v' z=>by simp at z⟩
   rw[zj5] at r2
   exact ⟨G4,_,st2,r2,hv⟩
 ·cases rr with
  |error e=>exact (CXe.none hq).elim
  |ok fl =>
   cases fl with
   |ret ur =>
    obtain ⟨v,H4,I4,rv,G4,w4,st4,rel4,hv⟩:=JA.after hq
    exact ⟨v,H4,G4,w4,rv,zpk I4 rfl rfl,st4,rel4,hv⟩
   |next=>exact False.elim hq
   |brk=>exact False.elim hq
   |cont=>exact False.elim hq
end
theorem znM(a v d:Value):argsOk "min" ⟨[a],[(Str.ofString "key",v),(Str.ofString "default",d)]⟩:=by unfold argsOk;kernel_rfl
section
variable{X:Cx}{C:Cn}{pins:List (Addr×Obj)}{σ:L2.St}{G1 H1:Hp}{w1:Wn}{ρ1:Ev}{l q:Addr}{xs:List V}{kd:List (Dt×Dt)}{s:Shared}{Q:Value->Shared->Prop}{E:Value->Shared->Prop}
theorem zl5(hu:X.A.units+200<cLine)(hr:X.A.handled=none)(I:L2.Inv X pins σ H1 s)(rel:Rel X.K C G1 w1 ρ1 σ H1)(hl:G1 l=some (.lst xs))(hrep:zaw X.K G1 (kd.map (·.2)) xs)(turn:zqr X C σ G1 H1 w1 ρ1 q kd){res:Dt}(hres:zkd .non kd=some res)
  (hQ:∀ v u s2 H4 G4 w4,L2.Inv X pins σ H4 s2->zaN G1 H1 w1 G4 H4 w4->Rel X.K C G4 w4 ρ1 σ H4->Rep X.K G4 res v->zaF v u->Q u s2) :
  wpAny (model X.prog X.w) X.A (call (.builtin "min") [.ref l] [(Str.ofString "key",.ref q),(Str.ofString "default",.none)]) Q E s:=by
 have hname:(toString "min"++toString ".loop" : String)="min.loop":=by decide
 have hH:H1 l=some (.lst xs):=rel.gh _ _ hl
 obtain ⟨zz,its,n,rv,hle,eo⟩:=I.lstM hH
 have hls:s.heap.IsList l its.toArray:=⟨_,eo,rfl,n,rfl⟩
 refine kmk_tree PySem.F.kind_min PySem.F.plain_min PySem.F.entry_min (znM _ _ _) ?_
 show wpAny _ X.A.in1 (Builtin.Builtins.bindParams "min" ["key","default"] 0 ⟨[],[(Str.ofString "key",.ref q),(Str.ofString "default",.none)]⟩ >>= _) _ _ s
 refine wpAny_bind (wpAny_of_eq (show Builtin.Builtins.bindParams "min" ["key","default"] 0 ⟨[],[(Str.ofString "key",.ref q),(Str.ofString "default",.none)]⟩=pure [some (.ref q),some .none] from rfl) ?_)
 refine wpAny_bind (wpAny_pure ?_)
 refine wpAny_bind (wpAny_pyIter_list hls ?_)
 refine wpAny_bind (wpAny_newList ?_ (Nat.zero_le _))
 rw[hname]
 have z1:(s.heap.push { cls:=.type "list_iterator",data:=.fields #[.ref l,.int 0 0] }).objs.size=s.heap.objs.size+1:=size_push' ..
 have k1:∀ b o,s.heap.get? b=some o->((s.heap.push { cls:=.type "list_iterator",data:=.fields #[.ref l,.int 0 0] }).push (seqObj "list" #[] 0)).get? b=some o:=fun b o e=>Heap.get?_push_of_some _ (Heap.get?_push_of_some _ e)
 have gI:((s.heap.push { cls:=.type "list_iterator",data:=.fields #[.ref l,.int 0 0] }).push (seqObj "list" #[] 0)).get? s.heap.objs.size=some { cls:=.type "list_iterator",data:=.fields #[.ref l,.int 0 0] } :=
  Heap.get?_push_of_some _ (Heap.get?_push_size _ rfl)
 have gS:((s.heap.push { cls:=.type "list_iterator",data:=.fields #[.ref l,.int 0 0] }).push (seqObj "list" #[] 0)).get? (s.heap.objs.size+1)=some (seqObj "list" #[] 0):=by rw[<- z1];exact Heap.get?_push_size _ rfl
 rw[z1]
 generalize ((s.heap.push { cls:=.type "list_iterator",data:=.fields #[.ref l,.int 0 0] }).push (seqObj "list" #[] 0))=g at k1 gI gS
 have I0:L2.Inv X pins σ H1 { s with heap:=g }:=I.kept (t':=s.toks) k1
 have lI:s.heap.objs.size<=s.heap.objs.size:=Nat.le_refl _
 have lS:s.heap.objs.size<=s.heap.objs.size+1:=Nat.le_succ _
 have fI:zdt X pins H1 s.heap.objs.size:=I.fpOk lI (I.hok.fresh lI)
 have fS:zdt X pins H1 (s.heap.objs.size+1):=I.fpOk lS (I.hok.fresh lS)
 have hSI:s.heap.objs.size+1≠s.heap.objs.size:=Nat.succ_ne_self _
 have hlI:l≠s.heap.objs.size:=Nat.ne_of_lt (Heap.lt_size eo)
 have J:L2.Inv X (pins++[(s.heap.objs.size+1,lo #[] 0),(s.heap.objs.size,{ cls:=.type "list_iterator",data:=.fields #[.ref l,.int 0 0] })]) σ H1 { s with heap:=g } :=
  zgK I0 ⟨gS,fS.1,fS.2.1,fS.2.2.1,fun v z=>by cases z⟩ ⟨gI,fI.1,fI.2.1,fI.2.2.1,fun v z=>by cases z⟩
 refine wpAny_pure ⟨plainId_quiet PySem.F.plain_min_loop _,?_⟩
 refine codeAny_builtin PySem.F.entry_min_loop ?_
 rw[Around.under_plainId PySem.F.plain_min_loop _]
 show wpAny _ X.A.in1 (seqItems? (.ref _) >>= _) _ _ _
 refine wpAny_bind (wpAny_seqItems gS rfl ?_)
 show wpAny _ X.A.in1 (tryCatch (pyNext (.ref s.heap.objs.size)) _ >>= _) _ _ _
 have hit:g.IsListIter s.heap.objs.size l 0:=⟨_,gI,rfl,rfl⟩
 cases kd with
 |nil =>
  have hx0:xs=[]:=hrep.nil_inv
  refine wpAny_bind (wpAny_tryCatch (ziW hr hlI fI hSI hl J (.refl _ _ _) rel (by rw[hx0];exact hit) fun h' tk' J1=>?_))
  show wpAny _ X.A.in1 (rule _ >>= _) _ _ _
  refine wpAny_bind (wpAny_rule (wpAny_pure ?_))
  have:res=.non:=by simpa [zkd] using hres.symm
  subst this
  exact hQ .non .none _ H1 G1 w1 J1.unpinned (.refl _ _ _) rel (by unfold Rep;rfl) rfl
 |cons p zay =>
  obtain ⟨pk,pd⟩:=p
  refine wpAny_bind (wpAny_tryCatch (zfl hr hlI fI hSI hl hrep (d:=pd) rfl J (.refl _ _ _) rel hit fun xv u oI' h' tk' hx hu' J1 hit1=>?_))
  show wpAny _ X.A.in1 (tryCatch (holding [u] (call (.ref q) [u])) _ >>= _) _ _ _
  refine wpAny_bind (wpAny_tryCatch (wpAny_holding (wpAny_mono (turn pk pd xv u List.mem_cons_self hu' _ _ H1 G1 w1 J1 (.refl _ _ _) rel hx) (fun y s2 he=>?_) fun _ _ hF=>hF.elim)))
  obtain ⟨nkv,H4,G4,w4,rx,J2,st2,rel2,hk2⟩:=he
  have nI2:=J2.pin (s.heap.objs.size,oI') (by simp)
  obtain ⟨oIx,hoI,hoc,hod⟩:=id hit1
  have eIx:oIx=oI':=by
   have:=(J1.pin (s.heap.objs.size,oI') (by simp)).1
   rw[this] at hoI;exact (Option.some.inj hoI).symm
  subst eIx
  refine wpAny_bind (zgN (by simp) (by simp) fS hSI J2 fun e' h3 J3 hk3=>?_)
  rw[hname]
  refine wpAny_pure ⟨plainId_quiet PySem.F.plain_min_loop _,znD (R:=fun r s'=>match r with|.ok (.ret v)=>Q v s'|.ok _=>False|.error e=>E e s') hu hr hlI hSI fS fI hl hrep turn hQ zay 1 (pk,pd) _ H4 G4 w4 nkv xv y u e' oIx rfl hres J3 st2 rel2 hk2 rx (hx.same st2.g) hu' ⟨oIx,?_,hoc,hod⟩ (by simp)⟩
  show h3.get? s.heap.objs.size=some oIx
  rw[hk3 _ (Ne.symm hSI)];exact nI2.1
end
def znK(j:Nat)(q:Str)(fE fa:De):De:=fun ρ=>(fa ρ).bind fun a=>match a.1,a.2[j]? with
 |.lst ds,some (some (.tab q'))=>if q'=q then match zeB fE ds with
   |some kd=>match zkd .non kd with
    |some r=>.ok (r,a.2)
    |none=>.no
   |none=>.no
  else .no
 |_,_=>.no
section
variable{X:Cx}{C:Cn}{P:Addr}{j k:Nat}{x:Str}{params:Arguments}{body:Expr}{scope:Scope}{fE fa:De}{a:Expr}{p pos lpos kp kp2 cp:Pos}{cj:Nat}
theorem zpU(LB:zfG X P)(hpp:j∈C.pp)(hσ0:C.σ₀[j]? = some (some (.ref P)))(hr:zcg (k+2) X.A)(hE:HL1 X C.xv k x body scope fE)(S:zav [x] [x] scope)(hg:Gl X "min")(hm:X.mg "min"=none)(ha:JE X C a fa)
  (hb:∀ s pm c ctv u,BindsTo s (W.kla_fn "<lambda>" (X.env.qual++"<lambda>") params body scope [] pm (.ref c) ctv) ⟨[u],[]⟩ [(x,u)])
  (hcl:closureFor scope X.env=pure []:=by rfl) (hdef:defaultsOf params X.env=([],[]):=by rfl)
  (hs:starEach [a] X.env=(false,eval a X.env)::starEach [] X.env:=by rfl) (he:backTo pos (starEach [a] X.env)=(false,eval a X.env)::backTo pos (starEach [] X.env):=by rfl) (hplain:(backTo pos (starEach [a] X.env)).any (·.1)=false:=by rfl)
  (hall:(backToKw pos (keywordEach [⟨some "key",.Lambda params body scope lpos,kp⟩,⟨some "default",.Constant .none cj cp,kp2⟩] X.env)).all (·.1.isSome)=true:=by rfl) (hkw:(backToKw pos (keywordEach [⟨some "key",.Lambda params body scope lpos,kp⟩,⟨some "default",.Constant .none cj cp,kp2⟩] X.env)).any (·.1.isNone)=false:=by rfl)
  (hks:(backToKw pos (keywordEach [⟨some "key",.Lambda params body scope lpos,kp⟩,⟨some "default",.Constant .none cj cp,kp2⟩] X.env)).filterMap (·.1)=[Str.ofString "key",Str.ofString "default"]:=by rfl) :
  JE X C (.Call (.Name "min" p) [a] [⟨some "key",.Lambda params body scope lpos,kp⟩,⟨some "default",.Constant .none cj cp,kp2⟩] pos) (znK j (X.env.qual++"<lambda>") fE fa):=by
 intro pins s σ H Q I ⟨G,w,ρ,r,pp⟩
 refine wpAny_Call_Name_kw (zei I hg hm (by rfl) ?_)
 refine callWith_kw (thn (zai ha zaz hs pos pins s σ H (fun vs H1=>∃ G1 w1 ad xs kd ρ1 res,vs=[.ref ad]/\zaN G H w G1 H1 w1/\Rel X.K C G1 w1 ρ1 σ H1/\G1 ad=some (.lst xs)/\zaw X.K G1 (kd.map (·.2)) xs/\zeB fE (kd.map (·.2))=some kd/\zkd .non kd=some res/\ρ1[j]? = some (some (.tab (X.env.qual++"<lambda>")))/\kE X.K C σ Q G1 H1 w1 (res,ρ1)) I ?_) fun us s1 ⟨vs,H1,I1,r1,q1⟩=>?_) he hplain hall hkw
 ·refine ⟨G,w,ρ,r,?_⟩
  unfold znK at pp
  unfold dA dA0
  cases e:fa ρ with
  |ok z =>
   obtain ⟨d,ρ1⟩:=z
   rw[e] at pp
   intro vs G1 H1 w1 s1 r1 q
   obtain ⟨v,t,rfl,q1,q2⟩:=q.cons_inv
   rw[q2.nil_inv]
   have p1:=zbJ.step (κ:=fun G H w=>kE X.K C σ Q G H w) zbt s1 pp
   simp only[R.bind_ok] at p1
   split at p1
   ·rename_i ds q' ej
    split at p1
    ·rename_i hq
     subst hq
     split at p1
     ·rename_i kd ek
      split at p1
      ·rename_i res em
       obtain ⟨ad,zs,rfl,m1,m2⟩:=za7 q1
       have es:=zhT ek
       exact ⟨G1,w1,ad,zs,kd,ρ1,res,rfl,s1,r1,m1,by rw[es];exact m2,by rw[es];exact ek,em,ej,p1⟩
      ·exact False.elim p1
     ·exact False.elim p1
    ·exact False.elim p1
   ·exact False.elim p1
  |er n=>rw[e] at pp;exact pp
  |no=>rw[e] at pp;exact pp
 ·obtain ⟨G1,w1,ad,xs,kd,ρ1,res,rfl,st1,rel1,hG,hreps,ek,em,hj,kk⟩:=q1
  obtain ⟨u,rfl,ru⟩:=ze5 r1
  cases ru
  have hσj:σ[j]? = some (some (.ref P)):=by rw[rel1.pin j hpp];exact hσ0
  refine thn (zlq (nm:=some "key") (kpos:=kp) (zqK LB hdef hcl) (zlq (nm:=some "default") (kpos:=kp2) (zok (j:=cj) (pos:=cp)) zqW) pos pins s1 σ H1 (fun vs H2=>∃ Fa c ctv G2,vs=[.ref Fa,.non]/\Rel X.K C G2 w1 ρ1 σ H2/\zaN G1 H1 w1 G2 H2 w1/\G2 Fa=some (fHO Fa (kLo X params body scope [] c ctv))/\G2 c=some (cHO c (X.env.qual++"<lambda>"))) I1 ?_) fun ws s2 ⟨zs,H2,I2,r2,Fa,c,ctv,G2,e2,rel2,st2,gF,gc⟩=>?_
  ·exact zn2 rel1 hj hσj fun Fa c ctv G2 H2 a1 a2 a3 a4=>⟨Fa,c,ctv,G2,rfl,a1,a2,a3,a4⟩
  subst e2
  cases r2 with
  |cons b1 t1 =>
   cases t1 with
   |cons b2 t2 =>
    cases t2
    cases b1;cases b2
    rw[hks]
    show wpAny _ _ (call (.builtin "min") [.ref ad] [(Str.ofString "key",.ref Fa),(Str.ofString "default",.none)]) _ _ _
    refine zl5 (by have:=hr.un;omega) hr.hd I2 rel2 (st2.g _ _ hG) (hreps.same st2.g) (znV hE S (hr.in1.mono (by omega)) hb gF gc ek) em fun v u s3 H4 G4 w4 I4 st4 rel4 hv rv=>⟨v,H4,I4,rv,?_⟩
    exact kk v G4 H4 w4 (st2.trans st4) rel4 hv
end
end PV
end
section
namespace PV
open PySem PySem.Spec L2
section
variable{prog:Program}{w:World}{A:Around}{E:Value->Shared->Prop}{s:Shared}
structure ZpM(h:Heap)(z TI TO i1 i2 l1 l2:Addr)(f0:Value)(k:Nat):Prop where
 z:IsZip h z TI TO f0
 ti:IsPair h TI (.ref i1) (.ref i2)
 to:∃ a b,IsPair h TO a b
 a1:h.IsTupleIter i1 l1 k
 a2:h.IsListIter i2 l2 k
theorem ZpM.keep{h h':Heap}{z TI TO i1 i2 l1 l2:Addr}{f0:Value}{k:Nat}(p:ZpM h z TI TO i1 i2 l1 l2 f0 k)(e:∀ b∈[z,TI,TO,i1,i2],∀ o,h.get? b=some o->h'.get? b=some o):ZpM h' z TI TO i1 i2 l1 l2 f0 k :=
 ⟨e z (by simp) _ p.z,e TI (by simp) _ p.ti,let ⟨a,b,q⟩:=p.to;⟨a,b,e TO (by simp) _ q⟩,p.a1.at fun o q=>e i1 (by simp) o q,p.a2.at fun o q=>e i2 (by simp) o q⟩
variable{z TI TO i1 i2 l1 l2:Addr}{k:Nat}{xs ys:Array Value}
end
section
variable{prog:Program}{w:World}{A:Around}{E:Value->Shared->Prop}{s:Shared}
end
section
variable{X:Cx}{C:Cn}{elts:List Expr}{x1:Nat}{pt:Pos}{a b:Expr}{fa fb:De}{p pos:Pos}
end
open AutoSeq1 (wpAny_loadPart')
section
variable{prog:Program}{w:World}{A:Around}{E:Value->Shared->Prop}{s:Shared}
end
structure EpT(h:Heap)(e it l:Addr)(i:Nat):Prop where
 e:∃ old,IsEnum h e it i old
 a:h.IsTupleIter it l i
theorem EpT.keep{h h':Heap}{e it l:Addr}{i:Nat}(p:EpT h e it l i)(k:∀ b∈[e,it],∀ o,h.get? b=some o->h'.get? b=some o):EpT h' e it l i :=
 ⟨let ⟨old,q⟩:=p.e;⟨old,k e (by simp) _ q⟩,p.a.at fun o q=>k it (by simp) o q⟩
section
variable{X:Cx}{C:Cn}{elts:List Expr}{x1:Nat}{pt:Pos}{a:Expr}{fa:De}{p pos:Pos}
end
end PV
end
section
namespace PV
open PySem PySem.Spec L2 PyProof.Rows
section
variable{prog:Program}{w:World}{A:Around}{E:Value->Shared->Prop}{s:Shared}
end
section
variable{X:Cx}{C:Cn}{pos:Pos}
end
def zdx(ns:List Int):Bool:=decide (ns.length<=1000) && ns.all fun n=>decide (0<=n) && decide (n<=1000000)
theorem zhJ:∀(ns:List Int),(∀ n∈ns,0<=n/\n<=1000000)->0<=ns.sum/\ns.sum<=(ns.length:Int) * 1000000
 |[],_=>by simp
 |a::r,h=>by
  obtain ⟨h1,h2⟩:=zhJ r fun n hn=>h n (List.mem_cons_of_mem _ hn)
  obtain ⟨h3,h4⟩:=h a List.mem_cons_self
  rw[List.sum_cons,List.length_cons]
  push_cast
  omega
theorem zlM{ns:List Int}(h:zdx ns=true):∀ j,j<ns.length->InLong (ns.getD j 0)/\InLong ((ns.take (j+1)).sum):=fun j hj=>by
 unfold zdx at h
 rw[Bool.and_eq_true] at h
 have hl:=of_decide_eq_true h.1
 have ha:∀ n∈ns,0<=n/\n<=1000000:=fun n hn=>by
  have:=List.all_eq_true.mp h.2 n hn
  rw[Bool.and_eq_true] at this
  exact ⟨of_decide_eq_true this.1,of_decide_eq_true this.2⟩
 obtain ⟨b1,b2⟩:=zhJ (ns.take (j+1)) fun n hn=>ha n (List.mem_of_mem_take hn)
 have hg:ns.getD j 0∈ns:=by
  rw[List.getD_eq_getElem?_getD,List.getElem?_eq_getElem hj];exact List.getElem_mem _
 obtain ⟨c1,c2⟩:=ha _ hg
 have b3:((ns.take (j+1)).length:Int)<=1000:=by
  have:=List.length_take_le (j+1) ns
  have h2:(ns.take (j+1)).length<=ns.length:=List.length_take_le' ..
  omega
 unfold InLong
 constructor <;> constructor <;> omega
section
variable{X:Cx}
theorem zlB(hc:X.calm=true):zbP X (.builtin "sum") (fun xs H Q=>∃(p:Addr)(ns:List Int),xs=[.ref p]/\SqL X.K H p (ns.map V.int)/\zdx ns=true/\Q (.int ns.sum) H):=by
 intro pins s σ H xs us Q I r h
 obtain ⟨p,ns,rfl,hq,hne,q⟩:=h
 obtain ⟨u,rfl,ru⟩:=ze5 r
 cases ru
 obtain ⟨its,rv,pl,hz⟩:=I.list hq
 have hlt:p≠s.heap.objs.size:=by
  obtain ⟨o,n,e,_⟩:=id pl
  exact Nat.ne_of_lt (Heap.lt_size e)
 have hlen:its.length=ns.length:=by rw[<- rv.length];simp
 refine call_sum_walk (wpAny_pyIter_list pl.isList ?_)
 refine ⟨s.heap.objs.size,_,_,_,_,_,(fun i=>ns.getD i 0),rfl,Walks.list (A:=X.A.in1) (I.ok.hd hc) s.heap.objs.size p hlt its.toArray,⟨⟨_,Heap.get?_push_size _ rfl,rfl,rfl⟩,?_⟩,?_,(fun i v hP=>?_),(fun j hj=>?_),fun h' tk t' hk=>?_⟩
 ·obtain ⟨o,ho,hc',n,hd⟩:=pl.isList
  exact ⟨o,Heap.get?_push_of_some _ ho,hc',n,hd⟩
 ·intro b hb
  rw[Heap.size_push]
  obtain ⟨o,n,e,_⟩:=id pl
  rcases List.mem_cons.mp hb with rfl|hb
  ·exact Nat.lt_succ_self _
  ·simp at hb;subst hb;exact Nat.lt_succ_of_lt (Heap.lt_size e)
 ·obtain ⟨a,h1,h2⟩:=zet (f:=V.int) (g:=fun a u=>∃ t,u=Value.int a t) (fun a u z=>z) rv (i:=i) (u:=v) (by simpa using hP)
  show ∃ t,v=Value.int (ns.getD i 0) t
  rw[List.getD_eq_getElem?_getD,h1];exact h2
 ·rw[List.size_toArray,hlen] at hj
  have:=zlM hne j hj
  rw[preSum_getD]
  exact this
 ·rw[preSum_getD,List.size_toArray,hlen,List.take_length]
  refine ⟨.int ns.sum,H,I.kept (t':=tk) fun b o e=>hk b o (fun z=>?_) (Heap.get?_push_of_some _ e),⟨t',rfl⟩,q⟩
  simp at z;exact absurd (z ▸ Heap.lt_size e) (Nat.lt_irrefl _)
end
def zfY:List Dt->R Dt
 |[.lst l]=>match zgg l with
  |some ns=>if zdx ns=true then .ok (.int ns.sum) else .no
  |_=>.no
 |_=>.no
theorem zpY{K:W.Frag}:FnR K (fun xs H Q=>∃(p:Addr)(ns:List Int),xs=[.ref p]/\SqL K H p (ns.map V.int)/\zdx ns=true/\Q (.int ns.sum) H) zfY:=fun G H vs ds z Q gh hr e k=>by
 unfold zfY at e
 split at e
 ·split at e
  ·rename_i ns eb
   split at e
   ·rename_i hs
    obtain ⟨v,rfl,h1⟩:=zdL hr
    obtain ⟨ad,us,rfl,h2,h3⟩:=za7 h1
    cases e
    rw[zgZ h3 eb] at h2
    exact ⟨ad,_,rfl,SqL.of (gh _ _ h2),hs,k _ G H (.refl gh) (zax _)⟩
   ·cases e
  ·cases e
 ·cases e
theorem zqi:ziu zfY:=fun x n h=>by unfold zfY at h;split at h <;> first|cases h|(split at h <;> first|cases h|(split at h <;> cases h))
section
variable{X:Cx}{C:Cn}{e:Expr}{fa:De}{p pos:Pos}
theorem zr6:bootBuiltins "sum"=some (.builtin "sum"):=by decide +kernel
theorem zoA(hc:X.calm=true)(hm:X.mg "sum"=none)(ha:JE X C e fa)(hg:Gl X "sum":=by rfl)(hs:starEach [e] X.env=(false,eval e X.env)::starEach [] X.env:=by rfl)(hpl:(backTo pos (starEach [] X.env)).any (·.1)=false:=by rfl):JE X C (.Call (.Name "sum" p) [e] [] pos) (dFn zfY (dA fa dA0)) :=
 zcI zpY zqi (zlB hc) hg hm zr6 (zai ha zaz hs) (by decide) (by decide) hs hpl
end
abbrev DC:=Dt->Ev->R (Bool×Ev)
section
variable{X:Cx}{C:Cn}{pos:Pos}{op op':CmpOp}{ops:List CmpOp}{e:Expr}{r':Sem Value}{rs:List (Sem Value)}{g:Dt->Dt->R Dt}{r:R2}{fe:De}{f:DC}
end
def n2(i j:Int):Nat:=if i<j then ((j-i-1) / 2+1).toNat else 0
section
variable{X:Cx}{C:Cn}{tg e e':Expr}{fa fb:De}{p ps p3:Pos}{k3:Nat}
end
section
variable{X:Cx}{C:Cn}{a e:Expr}{fa fb:De}{p ps pos:Pos}
end
section
variable{prog:Program}{w:World}{A:Around}{E:Value->Shared->Prop}{s:Shared}
end
section
variable{X:Cx}{C:Cn}{a:Expr}{fa:De}{pos:Pos}
end
def zfd:Dt->Bool
 |.non=>true
 |_=>false
theorem zla{K:W.Frag}{G:Hp}:∀{d:Dt}{v:V},Rep K G d v->decide (v=V.non)=zfd d
 |.non,v,h=>by unfold Rep at h;subst h;rfl
 |.bl _,v,h=>by unfold Rep at h;subst h;rfl
 |.int _,v,h=>by unfold Rep at h;subst h;rfl
 |.str _,v,h=>by unfold Rep at h;subst h;rfl
 |.tup _,v,h=>by unfold Rep at h;obtain ⟨a,vs,rfl,_⟩:=h;rfl
 |.lst _,v,h=>by unfold Rep at h;obtain ⟨a,vs,rfl,_⟩:=h;rfl
 |.dct _,v,h=>by unfold Rep at h;obtain ⟨a,rfl,_⟩:=h;rfl
 |.scr _,v,h=>by unfold Rep at h;obtain ⟨a,rfl,_⟩:=h;rfl
def zrx(b:Bool)(fa:De):DT:=fun ρ=>(fa ρ).bind fun a=>.ok (b == zfd a.1,a.2)
section
variable{X:Cx}{C:Cn}{a:Expr}{fa:De}{pos pn:Pos}{j:Nat}
theorem zpq(ha:JE X C a fa):JT X C (.Compare a [.IsNot] [.Constant .none j pn] pos) (zrx false fa) :=
 PT.weak (zjt (zqg ha)) fun σ H Q ⟨G,w,ρ,r,p⟩=>by
  unfold zrx at p
  refine zch (κ:=fun G H w=>kT X.K C σ Q G H w) zgH r p fun d ρ1 v G1 H1 w1 r1 s1 q1 p1=>⟨_,rfl,?_⟩
  rw[zla q1]
  have:=p1 _ _ _ (.refl _ _ _) r1
  simpa using this
end
def zD(ks:List (Int×Int)):List (Int×Dt):=ks.map fun p=>(p.1,.int p.2)
theorem zpQ{K:W.Frag}{G:Hp}:∀ ks:List (Int×Int),PZ K G (zD ks) (ks.map fun p=>(.inl p.1,.int p.2))
 |[]=>.nil
 |p::r=>.cons ⟨rfl,by unfold Rep;rfl⟩ (zpQ r)
theorem zlw{K:W.Frag}{G:Hp}{ks:List (Int×Int)}{v:V}(h:Rep K G (.dct ks) v):∃ a,v=.ref a/\G a=some (.dK (ks.map fun p=>(.inl p.1,.int p.2))):=by unfold Rep at h;exact h
def zh1:List (Int×Dt)->Option (List (Int×Int))
 |[]=>some []
 | (k,.int i)::r=>(zh1 r).map fun t=>(k,i)::t
 |_::_=>none
theorem zjK:∀ ks:List (Int×Int),zh1 (zD ks)=some ks
 |[]=>rfl
 | (k,i)::r=>by
  show (zh1 (zD r)).map _=_
  rw[zjK r];rfl
theorem zjL{K:W.Frag}{G:Hp}:∀{ds:List (Int×Dt)}{us:List (Key×V)}{ks:List (Int×Int)},PZ K G ds us->zh1 ds=some ks->us=ks.map fun p=>(.inl p.1,.int p.2)
 |_,_,_,.nil,e=>by cases e;rfl
 | (k,d)::ds,q::us,ks,.cons h t,e=>by
  cases d with
  |int i =>
   simp only[zh1,Option.map_eq_some_iff] at e
   obtain ⟨t',e1,rfl⟩:=e
   obtain ⟨q1,q2⟩:=q
   obtain ⟨h1,h2⟩:=h
   have h1':q1=.inl k:=h1
   have h2':q2=.int i:=zam (K:=K) (G:=G) h2
   rw[zjL t e1,h1',h2'];rfl
  |_=>simp[zh1] at e
def zqw(i:Nat):De:=fun ρ=>match ρ[i]? with
 |some (some (.dic ds))=>match zh1 ds with
  |some ks=>.ok (.dct ks,ρ.set i (some (.val (.dct ks))))
  |none=>.no
 |_=>.no
def zfc(fa fk:De):De:=fun ρ=>(fa ρ).bind fun a=>(fk a.2).bind fun b=>match a.1,b.1 with
 |.dct ks,.int n=>match zdz (zD ks) n with
  |some d=>.ok (d,b.2)
  |none=>.no
 |_,_=>.no
def zsy(b:Bool)(fk fa:De):DT:=fun ρ=>(fk ρ).bind fun a=>(fa a.2).bind fun c=>match a.1,c.1 with
 |.int n,.dct ks=>.ok (b == (zdz (zD ks) n).isSome,c.2)
 |_,_=>.no
def zgm(i:Nat)(fk fv:De):De:=fun ρ=>match ρ[i]? with
 |some (some (.dic _))=>(fk ρ).bind fun a=>(fv a.2).bind fun b=>match a.1,b.2[i]? with
  |.int n,some (some (.dic ds))=>.ok ((zdz ds n).getD b.1,b.2)
  |_,_=>.no
 |_=>.no
section
variable{X:Cx}{C:Cn}{pos ps sp apos spos pd:Pos}{x:Str}{k v a:Expr}{fk fv fa:De}
theorem zqm(i:Nat)(hN:X.N[i]? = some x:=by rfl)(hv:Vis X.env.scope x:=by first|exact Or.inl rfl|exact Or.inr (Or.inl rfl)|exact Or.inr (Or.inr rfl))(hd:(x == ("__debug__" : Str))=false:=by decide)
  (hcd:(x == ("__classdict__" : Str))=false:=by decide):JE X C (.Name x pos) (zqw i):=(zb1 hN hv hd hcd).weak fun σ H Q ⟨G,w,ρ,r,p⟩=>by
 unfold zqw at p
 split at p
 ·rename_i ds e
  split at p
  ·rename_i ks ek
   obtain ⟨a,us,h1,h2,h3,h4⟩:=zdg r e
   have eu:=zjL h4 ek
   have hr:Rep X.K (fun b=>if b∈[a] then H b else G b) (.dct ks) (.ref a):=by
    unfold Rep
    exact ⟨a,rfl,by simp[h3,eu]⟩
   obtain ⟨r',s'⟩:=r.freeze [a] (fun b hb=>by simp at hb;subst hb;exact h2) e h1 hr
   exact ⟨_,h1,p _ _ _ _ s' r' hr⟩
  ·exact p.elim
 ·exact p.elim
theorem zmt{kk:Nat}(hr:zcg kk X.A)(ha:JE X C a fa)(hk:JE X C k fk)(hs:zsx k:=by exact fun _ _=>rfl):JE X C (.Subscript a k pos) (zfc fa fk) :=
 PE.weak (zm9 (by have:=hr.un;omega) ha hk hs) fun σ H Q ⟨G,w,ρ,r,p⟩=>by
  unfold zfc at p
  refine zch (κ:=fun G H w=>kE X.K C σ Q G H w) zbt r p fun d ρ1 v G1 H1 w1 r1 s1 q1 p1=>?_
  refine zch (κ:=fun G H w=>kE X.K C σ Q G H w) zbt r1 p1 fun d2 ρ2 v2 G2 H2 w2 r2 s2 q2 p2=>?_
  dsimp only at p2
  split at p2
  case h_2=>exact p2.elim
  rename_i ks n
  split at p2
  case h_2=>exact p2.elim
  rename_i d' ed
  obtain ⟨ad,rfl,hg⟩:=zlw (q1.same s2.g)
  have:v2=.int n:=zam (K:=X.K) (G:=G2) q2
  subst this
  obtain ⟨v',ev,rv⟩:=(zeL (zpQ (K:=X.K) (G:=G2) ks)).1 _ ed
  exact ⟨ad,v',rfl,by rw[<- ev];exact zgy.k (k:=.inl n) (r2.gh _ _ hg),p2 _ _ _ _ (.refl _ _ _) r2 rv⟩
theorem zl0{kk:Nat}(hr:zcg kk X.A)(hk:JE X C k fk)(ha:JE X C a fa)(hm:behindInMarks .NotIn a=false:=by rfl):JT X C (.Compare k [.NotIn] [a] pos) (zsy false fk fa) :=
 PT.weak (zjt (zhA (by have:=hr.un;omega) hk ha) hm) fun σ H Q ⟨G,w,ρ,r,p⟩=>by
  unfold zsy at p
  refine zch (κ:=fun G H w=>kT X.K C σ Q G H w) zgH r p fun d ρ1 v G1 H1 w1 r1 s1 q1 p1=>?_
  refine zch (κ:=fun G H w=>kT X.K C σ Q G H w) zgH r1 p1 fun d2 ρ2 v2 G2 H2 w2 r2 s2 q2 p2=>?_
  dsimp only at p2
  split at p2
  case h_2=>exact p2.elim
  rename_i n ks
  obtain ⟨ad,rfl,hg⟩:=zlw q2
  have:v=.int n:=zam (K:=X.K) (G:=G1) q1
  subst this
  refine ⟨ad,_,rfl,zgy.k (k:=.inl n) (r2.gh _ _ hg),_,rfl,?_⟩
  rw[zgM (zpQ (K:=X.K) (G:=G2) ks)]
  have:=p2 _ _ _ (.refl _ _ _) r2
  simpa using this
theorem znh{kk:Nat}(i:Nat)(hr:zcg kk X.A)(hk:JE X C k fk)(hw:JE X C v fv)(hN:X.N[i]? = some x:=by rfl)(hv:Vis X.env.scope x:=by first|exact Or.inl rfl|exact Or.inr (Or.inl rfl)|exact Or.inr (Or.inr rfl))
  (hd:(x == ("__debug__" : Str))=false:=by decide) (hcd:(x == ("__classdict__" : Str))=false:=by decide)
  (hbase:attributeBase (.Name x ps) "get" X.env (eval (.Name x ps) X.env)=eval (.Name x ps) X.env:=by rfl)
  (hfew:((backTo pos (starEach [k,v] X.env)).all (fun x=>!x.1) && (backToKw pos (keywordEach [] X.env)).all (fun x=>x.1.isSome) && decide (([k,v]:List Expr).length+([]:List Keyword).length+(if ([]:List Keyword).isEmpty then 0 else 1)<30))=true:=by rfl)
  (hline:(apos.endLine == pos.line)=true:=by rfl) (htr:backTo pos (starEach [k,v] X.env)=[(false,eval k X.env),(false,eval v X.env)]:=by rfl):JE X C (.Call (.Attribute (.Name x ps) "get" apos) [k,v] [] pos) (zgm i fk fv) :=
 PE.weak (znp (by have:=hr.un;omega) (zb1 hN hv hd hcd) hk hw ⟨hbase,hfew,hline,htr⟩) fun σ H Q ⟨G,w,ρ,r,p⟩=>by
  unfold zgm at p
  split at p
  case h_2=>exact p.elim
  rename_i ds0 e0
  obtain ⟨a,us0,h1,h2,h3,h4⟩:=zdg r e0
  refine ⟨.ref a,h1,a,rfl,.inl ⟨us0,.inl h3⟩,?_⟩
  refine zch (κ:=fun G H w=>kE X.K C σ Q G H w) zbt r p fun d ρ1 v G1 H1 w1 r1 s1 q1 p1=>?_
  refine zch (κ:=fun G H w=>kE X.K C σ Q G H w) zbt r1 p1 fun d2 ρ2 v2 G2 H2 w2 r2 s2 q2 p2=>?_
  dsimp only at p2
  split at p2
  case h_2=>exact p2.elim
  rename_i n ds e1
  obtain ⟨a',us,g1,g2,g3,g4⟩:=zdg r2 e1
  rw[h1] at g1;cases g1
  have:v=.int n:=zam (K:=X.K) (G:=G1) q1
  subst this
  refine ⟨_,zgy.k (k:=.inl n) g3,p2 _ _ _ _ (.refl _ _ _) r2 ?_⟩
  cases ed:zdz ds n with
  |none=>rw[(zeL g4).2 ed];exact q2
  |some d'=>obtain ⟨v',ev,rv⟩:=(zeL g4).1 _ ed;rw[ev];exact rv
end
def dd(ds:List Dt):List (Dt×Dt):=ds.map fun d=>(d,d)
theorem zru(ds:List Dt):(dd ds).map (·.2)=ds:=by unfold dd;rw[List.map_map];exact List.map_id ds
section
variable{X:Cx}{C:Cn}{pins:List (Addr×Obj)}{σ:L2.St}{G1 H1:Hp}{w1:Wn}{ρ1:Ev}{l S I:Addr}{xs:List V}{ds:List Dt}{R:Result->Shared->Prop}
theorem zlF(hu:X.A.units+200<cLine)(hr:X.A.handled=none)(hlI:l≠I)(hSI:S≠I)(fS:zdt X pins H1 S)(fI:zdt X pins H1 I)(hl:G1 l=some (.lst xs))(hrep:zaw X.K G1 ((dd ds).map (·.2)) xs)(rel:Rel X.K C G1 w1 ρ1 σ H1){res:Dt}
  (hR:∀ v u s2,L2.Inv X pins σ H1 s2->Rep X.K G1 res v->zaF v u->R (.ok (.ret u)) s2) :
  ∀(zay:List (Dt×Dt))(j:Nat)(b:Dt)(s':Shared)(bv:V)(ub:Value)(e:Nat)(oI:Obj),(dd ds).drop j=zay->zbK (b,b) zay=some res ->
   L2.Inv X (pins++[(S,lo #[ub,ub] e),(I,oI)]) σ H1 s'->Rep X.K G1 b bv->zaF bv ub->s'.heap.IsListIter I l j->j<=(dd ds).length ->
   codeAny (model X.prog X.w) X.A (.builtin "min.loop" ⟨[.ref I,.none,.ref S],[]⟩) R s':=by
 have hname:(toString "min"++toString ".loop" : String)="min.loop":=by decide
 have st:=zaN.refl G1 H1 w1
 intro zay
 induction zay with
 |nil =>
  intro j b s' bv ub e oI hd hm J q2 r2 hit hj
  have hlen:j=xs.length:=by
   have h1:=List.drop_eq_nil_iff.mp hd
   have h2:=hrep.length
   rw[List.length_map] at h2
   omega
  have nS:=J.pin (S,lo #[ub,ub] e) (by simp)
  refine codeAny_builtin PySem.F.entry_min_loop ?_
  rw[Around.under_plainId PySem.F.plain_min_loop _]
  show wpAny _ X.A.in1 (seqItems? (.ref S) >>= _) _ _ _
  refine wpAny_bind (wpAny_seqItems nS.1 rfl ?_)
  show wpAny _ X.A.in1 (tryCatch (pyNext (.ref I)) _ >>= _) _ _ _
  refine wpAny_bind (wpAny_tryCatch (ziW hr hlI fI hSI hl J st rel (by rw[<- hlen];exact hit) fun h' tk' J1=>?_))
  have nS':=J1.pin (S,lo #[ub,ub] e) (by simp)
  have s1:=Heap.SameBut.update h' S (Obj.mapSeq fun _=>(#[]:Array Value))
  show wpAny _ X.A.in1 (updateSeq S (fun _=>#[]) >>= _) _ _ _
  refine wpAny_bind ?_
  refine wpAny_updateSeq nS'.1 rfl (wpAny_bind (wpAny_letGo (wpAny_pure ?_)))
  have eb:b=res:=by simpa [zbK] using hm
  refine hR bv ub _ ?_ (by rw[<- eb];exact q2) r2
  exact zaY (fp:=[S]) (t':=tk') J1.unpinned (fun b hb=>by rw[List.mem_singleton.mp hb];exact zrg fS nS'.2.1 fun p hp=>.inl hp) fun b ob nb e=>(s1.2 b (by simpa using nb)).trans e
 |cons p zay ih =>
  intro j b s' bv ub e oI hd hm J q2 r2 hit hj
  obtain ⟨pk,pd⟩:=p
  have hget:(dd ds)[j]? = some (pk,pd):=by
   have:=List.getElem?_drop (xs:=dd ds) (i:=j) (j:=0)
   rw[hd] at this
   simpa using this.symm
  have hpp:pk=pd:=by
   have:=List.mem_of_getElem? hget
   unfold dd at this
   obtain ⟨d,_,e⟩:=List.mem_map.mp this
   cases e;rfl
  subst hpp
  have hjl:j<(dd ds).length:=(List.getElem?_eq_some_iff.mp hget).1
  have nS:=J.pin (S,lo #[ub,ub] e) (by simp)
  refine codeAny_builtin PySem.F.entry_min_loop ?_
  rw[Around.under_plainId PySem.F.plain_min_loop _]
  show wpAny _ X.A.in1 (seqItems? (.ref S) >>= _) _ _ _
  refine wpAny_bind (wpAny_seqItems nS.1 rfl ?_)
  show wpAny _ X.A.in1 (tryCatch (pyNext (.ref I)) _ >>= _) _ _ _
  refine wpAny_bind (wpAny_tryCatch (zfl hr hlI fI hSI hl hrep (by rw[List.getElem?_map,hget];rfl) J st rel hit fun xv u oI' h' tk' hx hu' J2 hit1=>?_))
  refine wpAny_bind (wpAny_pure ?_)
  have nI2:=J2.pin (I,oI') (by simp)
  obtain ⟨oIx,hoI,hoc,hod⟩:=id hit1
  have eIx:oIx=oI':=by
   have:=nI2.1
   rw[this] at hoI;exact (Option.some.inj hoI).symm
  subst eIx
  have drop1:(dd ds).drop (j+1)=zay:=by
   rw[<- List.drop_drop,hd];rfl
  unfold zbK at hm
  show wpAny _ X.A.in1 (tryCatch (holding [u,u] (richCompare .Lt u ub >>= _)) _ >>= _) _ _ _
  have lt:∀ c,ltD 8 pk b=some c->zqk X.A.in1 { s' with heap:=h',toks:=tk' } u ub c:=fun c hc=>zlO J2 8 (by rw[zc9];omega) (hx.same rel.gh) (q2.same rel.gh) hu' r2 hc
  cases hc:ltD 8 pk b with
  |none=>rw[hc] at hm;cases hm
  |some c =>
   rw[hc] at hm
   refine wpAny_bind (wpAny_tryCatch (wpAny_holding (wpAny_bind (lt c hc _ _ _ _ ?_))))
   refine wpAny_bind (wpAny_holding (wpAny_truthy_bool ?_))
   refine wpAny_bind (wpAny_letGo (wpAny_pure ?_))
   cases c with
   |true =>
    simp only[if_true]
    refine wpAny_bind (zgN (by simp) (by simp) fS hSI J2 fun e' h3 J3 hk3=>wpAny_bind (wpAny_letGo ?_))
    rw[hname]
    refine wpAny_pure ⟨plainId_quiet PySem.F.plain_min_loop _,ih (j+1) pk _ xv u e' oIx drop1 hm J3 hx hu' ⟨oIx,?_,hoc,hod⟩ (by omega)⟩
    show h3.get? I=some oIx
    rw[hk3 I (Ne.symm hSI)];exact nI2.1
   |false =>
    simp only[Bool.false_eq_true,if_false]
    refine wpAny_bind (wpAny_letGo ?_)
    rw[hname]
    exact wpAny_pure ⟨plainId_quiet PySem.F.plain_min_loop _,ih (j+1) b _ bv ub e oIx drop1 hm J2 q2 r2 hit1 (by omega)⟩
end
section
variable{X:Cx}{C:Cn}{pins:List (Addr×Obj)}{σ:L2.St}{G1 H1:Hp}{w1:Wn}{ρ1:Ev}{l:Addr}{xs:List V}{ds:List Dt}{d0:Dt}{s:Shared}{Q:Value->Shared->Prop}{E:Value->Shared->Prop}
theorem zlv(hu:X.A.units+200<cLine)(hr:X.A.handled=none)(I:L2.Inv X pins σ H1 s)(rel:Rel X.K C G1 w1 ρ1 σ H1)(hl:G1 l=some (.lst xs))(hrep:zaw X.K G1 (d0::ds) xs){res:Dt}(hres:zbK (d0,d0) (dd ds)=some res)
  (hQ:∀ v u s2,L2.Inv X pins σ H1 s2->Rep X.K G1 res v->zaF v u->Q u s2) :
  wpAny (model X.prog X.w) X.A (call (.builtin "min") [.ref l]) Q E s:=by
 have hname:(toString "min"++toString ".loop" : String)="min.loop":=by decide
 have hrep':zaw X.K G1 ((dd (d0::ds)).map (·.2)) xs:=by rw[zru];exact hrep
 have hH:H1 l=some (.lst xs):=rel.gh _ _ hl
 obtain ⟨zz,its,n,rv,hle,eo⟩:=I.lstM hH
 have hls:s.heap.IsList l its.toArray:=⟨_,eo,rfl,n,rfl⟩
 refine call_function_tree PySem.F.kind_min PySem.F.plain_min PySem.F.entry_min (PySem.F.args_min1 _) ?_
 show wpAny _ X.A.in1 (Builtin.Builtins.bindParams "min" ["key","default"] 0 ⟨[],[]⟩ >>= _) _ _ s
 refine wpAny_bind (wpAny_of_eq (show Builtin.Builtins.bindParams "min" ["key","default"] 0 ⟨[],[]⟩=pure [none,none] from rfl) ?_)
 refine wpAny_bind (wpAny_pure ?_)
 refine wpAny_bind (wpAny_pyIter_list hls ?_)
 refine wpAny_bind (wpAny_newList ?_ (Nat.zero_le _))
 rw[hname]
 have z1:(s.heap.push { cls:=.type "list_iterator",data:=.fields #[.ref l,.int 0 0] }).objs.size=s.heap.objs.size+1:=size_push' ..
 have k1:∀ b o,s.heap.get? b=some o->((s.heap.push { cls:=.type "list_iterator",data:=.fields #[.ref l,.int 0 0] }).push (seqObj "list" #[] 0)).get? b=some o:=fun b o e=>Heap.get?_push_of_some _ (Heap.get?_push_of_some _ e)
 have gI:((s.heap.push { cls:=.type "list_iterator",data:=.fields #[.ref l,.int 0 0] }).push (seqObj "list" #[] 0)).get? s.heap.objs.size=some { cls:=.type "list_iterator",data:=.fields #[.ref l,.int 0 0] } :=
  Heap.get?_push_of_some _ (Heap.get?_push_size _ rfl)
 have gS:((s.heap.push { cls:=.type "list_iterator",data:=.fields #[.ref l,.int 0 0] }).push (seqObj "list" #[] 0)).get? (s.heap.objs.size+1)=some (seqObj "list" #[] 0):=by rw[<- z1];exact Heap.get?_push_size _ rfl
 rw[z1]
 generalize ((s.heap.push { cls:=.type "list_iterator",data:=.fields #[.ref l,.int 0 0] }).push (seqObj "list" #[] 0))=g at k1 gI gS
 have I0:L2.Inv X pins σ H1 { s with heap:=g }:=I.kept (t':=s.toks) k1
 have lI:s.heap.objs.size<=s.heap.objs.size:=Nat.le_refl _
 have lS:s.heap.objs.size<=s.heap.objs.size+1:=Nat.le_succ _
 have fI:zdt X pins H1 s.heap.objs.size:=I.fpOk lI (I.hok.fresh lI)
 have fS:zdt X pins H1 (s.heap.objs.size+1):=I.fpOk lS (I.hok.fresh lS)
 have hSI:s.heap.objs.size+1≠s.heap.objs.size:=Nat.succ_ne_self _
 have hlI:l≠s.heap.objs.size:=Nat.ne_of_lt (Heap.lt_size eo)
 have J:L2.Inv X (pins++[(s.heap.objs.size+1,lo #[] 0),(s.heap.objs.size,{ cls:=.type "list_iterator",data:=.fields #[.ref l,.int 0 0] })]) σ H1 { s with heap:=g } :=
  zgK I0 ⟨gS,fS.1,fS.2.1,fS.2.2.1,fun v z=>by cases z⟩ ⟨gI,fI.1,fI.2.1,fI.2.2.1,fun v z=>by cases z⟩
 refine wpAny_pure ⟨plainId_quiet PySem.F.plain_min_loop _,?_⟩
 refine codeAny_builtin PySem.F.entry_min_loop ?_
 rw[Around.under_plainId PySem.F.plain_min_loop _]
 show wpAny _ X.A.in1 (seqItems? (.ref _) >>= _) _ _ _
 refine wpAny_bind (wpAny_seqItems gS rfl ?_)
 show wpAny _ X.A.in1 (tryCatch (pyNext (.ref s.heap.objs.size)) _ >>= _) _ _ _
 have hit:g.IsListIter s.heap.objs.size l 0:=⟨_,gI,rfl,rfl⟩
 refine wpAny_bind (wpAny_tryCatch (zfl hr hlI fI hSI hl hrep' (d:=d0) rfl J (.refl _ _ _) rel hit fun xv u oI' h' tk' hx hu' J2 hit1=>?_))
 refine wpAny_bind (wpAny_pure ?_)
 have nI2:=J2.pin (s.heap.objs.size,oI') (by simp)
 obtain ⟨oIx,hoI,hoc,hod⟩:=id hit1
 have eIx:oIx=oI':=by
  have:=nI2.1
  rw[this] at hoI;exact (Option.some.inj hoI).symm
 subst eIx
 refine wpAny_bind (zgN (by simp) (by simp) fS hSI J2 fun e' h3 J3 hk3=>?_)
 rw[hname]
 refine wpAny_pure ⟨plainId_quiet PySem.F.plain_min_loop _,zlF (ds:=d0::ds) (R:=fun r s'=>match r with|.ok (.ret v)=>Q v s'|.ok _=>False|.error e=>E e s') hu hr hlI hSI fS fI hl hrep' rel hQ (dd ds) 1 d0 _ xv u e' oIx rfl hres J3 hx hu' ⟨oIx,?_,hoc,hod⟩ (by simp[dd])⟩
 show h3.get? s.heap.objs.size=some oIx
 rw[hk3 _ (Ne.symm hSI)];exact nI2.1
end
def zgb:List Dt->R Dt
 |[.lst (d::ds)]=>match zbK (d,d) (dd ds) with
  |some r=>.ok r
  |none=>.no
 |_=>.no
theorem zm6{K:W.Frag}{G H:Hp}{σ:L2.St}(gh:zcf G H):Rel K ⟨G,H,fun _=>none,[],[],fun _=>False,fun _=>.none,false⟩ G (fun _=>none) (List.replicate σ.length none) σ H :=
 ⟨gh,fun _ e=>absurd rfl e,fun _ e=>absurd rfl e,by simp,fun i b e=>(by
  rw[List.getElem?_replicate] at e
  split at e <;> cases e),.refl _ _ _,fun _ h=>by cases h⟩
abbrev zrD(K:W.Frag):List V->Hp->VK->Prop:=fun xs H Q=>∃(G:Hp)(p:Addr)(vs:List V)(d:Dt)(ds:List Dt)(r:Dt),zcf G H/\xs=[.ref p]/\G p=some (.lst vs)/\zaw K G (d::ds) vs/\zbK (d,d) (dd ds)=some r/\∀ v,Rep K G r v->Q v H
section
variable{X:Cx}{C:Cn}{e:Expr}{fa:De}{p pos:Pos}
theorem zkq(hu:X.A.units+200<cLine)(hc:X.calm=true):zbP X (.builtin "min") (zrD X.K):=by
 intro pins s σ H xs us Q I r h
 obtain ⟨G,p,vs,d,ds,res,gh,rfl,hp,hrep,hm,hQ⟩:=h
 obtain ⟨u,rfl,ru⟩:=ze5 r
 cases ru
 exact zlv hu (I.ok.hd hc) I (zm6 gh) hp hrep hm fun v u s2 I2 hv rv=>⟨v,H,I2,rv,hQ v hv⟩
theorem zpZ{K:W.Frag}:FnR K (zrD K) zgb:=fun G H vs ds z Q gh hr e k=>by
 unfold zgb at e
 split at e
 ·split at e
  ·rename_i d l r em
   cases e
   obtain ⟨v,rfl,h1⟩:=zdL hr
   obtain ⟨a,ws,rfl,h2,h3⟩:=za7 h1
   exact ⟨G,a,ws,_,_,_,gh,rfl,h2,h3,em,fun v hv=>k v G H (.refl gh) hv⟩
  ·cases e
 ·cases e
theorem zoY:ziu zgb:=fun x n h=>by unfold zgb at h;split at h <;> first|cases h|(split at h <;> cases h)
theorem zkK{kk:Nat}(hr:zcg kk X.A)(hc:X.calm=true)(hm:X.mg "min"=none)(ha:JE X C e fa)(hg:Gl X "min":=by rfl)(hs:starEach [e] X.env=(false,eval e X.env)::starEach [] X.env:=by rfl)(hpl:(backTo pos (starEach [] X.env)).any (·.1)=false:=by rfl):JE X C (.Call (.Name "min" p) [e] [] pos) (dFn zgb (dA fa dA0)) :=
 zcI zpZ zoY (zkq (by have:=hr.un;omega) hc) hg hm zmk (zai ha zaz hs) (by decide) (by decide) hs hpl
end
end PV
end
section
namespace Lw
open PySem PySem.Spec L2 PV
def top(i:Nat):Stmt:=PySem.Challenge.pw_standtogether_k17_least_bars.main.body.getD i (.Pass ⟨0,0,0,0⟩)
def xvC(cls:Nat->Addr):Nat->Value:=fun n=>.ref (cls n)
abbrev zeN:Str:=((Str.ofString "least_bar")++".<locals>.")++"<lambda>"
abbrev Uf(K:W.Frag)(mg:Str->Option Value)(x:String)(i:Nat):Prop:=∃ f fd,Fun K (Str.ofString x) (Str.ofString x) (top i) f fd/\mg (Str.ofString x)=some (.ref f)
structure Tx(K:W.Frag)(mg:Str->Option Value)(cls:Nat->Addr):Prop where
 xc:∀ n,n<2->Xin K (cls n)
 xm0:mg (Str.ofString "NoGuests")=some (.ref (cls 0))
 xm1:mg (Str.ofString "NoParties")=some (.ref (cls 1))
 u_is_whole:Uf K mg "is_whole" 7
 u_check_guests:Uf K mg "check_guests" 8
 u_is_guest:Uf K mg "is_guest" 10
 u_are_guests:Uf K mg "are_guests" 11
 u_rises:Uf K mg "rises" 12
 u_is_party:Uf K mg "is_party" 13
 u_is_parties:Uf K mg "is_parties" 14
 u_check_parties:Uf K mg "check_parties" 9
 u_links:Uf K mg "links" 16
 u_legs:Uf K mg "legs" 17
 u_least_way:Uf K mg "least_way" 18
 u_bar_past:Uf K mg "bar_past" 19
 u_length_of:Uf K mg "length_of" 20
 u_least_bar:Uf K mg "least_bar" 21
 u__law_cell_at:Uf K mg "_law_cell_at" 23
 u__law_state:Uf K mg "_law_state" 24
 u__law_take:Uf K mg "_law_take" 25
 u__law_mixed_row:Uf K mg "_law_mixed_row" 26
 u__law_party:Uf K mg "_law_party" 27
 u__law_side:Uf K mg "_law_side" 28
 u__law_parties:Uf K mg "_law_parties" 29
 u__law_same:Uf K mg "_law_same" 30
 u__law_fars:Uf K mg "_law_fars" 31
 u__law_way:Uf K mg "_law_way" 32
 u__law_due:Uf K mg "_law_due" 33
 u_law:Uf K mg "law" 34
 b_all:mg (Str.ofString "all")=none
 b_bool:mg (Str.ofString "bool")=none
 b_enumerate:mg (Str.ofString "enumerate")=none
 b_int:mg (Str.ofString "int")=none
 b_isinstance:mg (Str.ofString "isinstance")=none
 b_len:mg (Str.ofString "len")=none
 b_list:mg (Str.ofString "list")=none
 b_max:mg (Str.ofString "max")=none
 b_min:mg (Str.ofString "min")=none
 b_range:mg (Str.ofString "range")=none
 b_sorted:mg (Str.ofString "sorted")=none
 b_sum:mg (Str.ofString "sum")=none
 b_tuple:mg (Str.ofString "tuple")=none
 b_zip:mg (Str.ofString "zip")=none
 g_MOST_GUESTS:∃ t,mg (Str.ofString "MOST_GUESTS")=some (.int 7 t)
 g_MOST_PARTIES:∃ t,mg (Str.ofString "MOST_PARTIES")=some (.int 8 t)
section
variable{P:Program}{w:World}{K:W.Frag}{mg:Str->Option Value}{base:Heap}{xv:Nat->Value}{cls:Nat->Addr}
abbrev zkw:List Str:=["thing"]
abbrev ze6:List Str:=["thing"]
theorem ziM:zav zkw ze6 (zag (top 7)):=⟨rfl,rfl,rfl,by decide +kernel,rfl,by decide +kernel,by decide +kernel⟩
def zgj:DS:=(zcl (zht (zfh "int" (zab 0)) (zsQ (zfh "bool" (zab 0)))))
def zb3:FD:=zaq false [false] 0 zgj
theorem zgs(T:Tx K mg cls):Dfn false P w K mg base (CXe P w) (xvC cls) 3 (Str.ofString "is_whole") [false] zb3:=by
  obtain ⟨f,fd,U,hm⟩:=T.u_is_whole
  refine ⟨f,fd,ze6,?_,hm,U.kp,U.binds (ps:=ze6) fun _ _ _ _ _ _ us hl=>match us,hl with|[_],_=>rfl,zau⟩
  refine zaA (k:=2) false za2 U ziM rfl rfl fun X C hX hpp hxv hnw hr hx hpo=>?_
  obtain ⟨cG,cH,cw,cpp,cσ,cex,cxv,cnw⟩:=C
  dsimp only at hpp hxv hnw
  subst hpp hxv hnw
  have hnw:(false:Bool)=false:=rfl
  obtain ⟨cdv,A,outer,s,H,E,rfl⟩:=hX
  exact (zak (by exact (zaC hnw (zeQ (zdD zpj rfl T.b_isinstance zdb rfl T.b_int zsh (zaa 0)) (zg1 (zrc (zdD zhm rfl T.b_isinstance zdb rfl T.b_bool zjo (zaa 0))))))))
abbrev zge:List Str:=["n"]
abbrev zcs:List Str:=["n"]
theorem zfC:zav zge zcs (zag (top 8)):=⟨rfl,rfl,rfl,by decide +kernel,rfl,by decide +kernel,by decide +kernel⟩
def zd9:DS:=(dIf (zkJ (zeF (dTB (zaj zb3 (dR (zab 0) dR0)))) (zkJ (dTB (dOp gLt (zab 0) (dC (.int 1)))) (dTB (dOp gGt (zab 0) (dC (.int 7)))))) (zmx 0 (dA (dC (.str (Str.ofString "the guests are no whole number from 1 to 7"))) dA0)) dNx)
def zaK:FD:=zaq false [false] 0 zd9
theorem zdA(T:Tx K mg cls):Dfn false P w K mg base (CXe P w) (xvC cls) 6 (Str.ofString "check_guests") [false] zaK:=by
  obtain ⟨f,fd,U,hm⟩:=T.u_check_guests
  refine ⟨f,fd,zcs,?_,hm,U.kp,U.binds (ps:=zcs) fun _ _ _ _ _ _ us hl=>match us,hl with|[_],_=>rfl,zau⟩
  refine zaA (k:=5) false za2 U zfC rfl rfl fun X C hX hpp hxv hnw hr hx hpo=>?_
  obtain ⟨cG,cH,cw,cpp,cσ,cex,cxv,cnw⟩:=C
  dsimp only at hpp hxv hnw
  subst hpp hxv hnw
  have hnw:(false:Bool)=false:=rfl
  obtain ⟨cdv,A,outer,s,H,E,rfl⟩:=hX
  exact (zak (by exact (zcP (JW.jt (zmf (zjI (zf8 (zaO (zgs T) hr (by omega) hx (zac (zaa 0) za0)))) (zmf (zob (zaa 0) zap) (zjP (znt (zaa 0) (zm7 rfl T.g_MOST_GUESTS.choose_spec)))))) (zak (by exact (zjR hx rfl (T.xc 0 (by decide)).cls T.xm0 rfl (zai zoE zaz)))) zaT)))
abbrev zkl:List Str:=["n","thing"]
abbrev ze3:List Str:=["n","thing"]
theorem ziS:zav zkl ze3 (zag (top 10)):=⟨rfl,rfl,rfl,by decide +kernel,rfl,by decide +kernel,by decide +kernel⟩
def zd0:DS:=(zcl (zht (zaj zb3 (dR (zab 1) dR0)) (zhw gLe gLt (dC (.int 0)) (zab 1) (zab 0))))
def zb8:FD:=zaq false [false,false] 0 zd0
theorem zkf(T:Tx K mg cls):Dfn false P w K mg base (CXe P w) (xvC cls) 6 (Str.ofString "is_guest") [false,false] zb8:=by
  obtain ⟨f,fd,U,hm⟩:=T.u_is_guest
  refine ⟨f,fd,ze3,?_,hm,U.kp,U.binds (ps:=ze3) fun _ _ _ _ _ _ us hl=>match us,hl with|[_,_],_=>rfl,zau⟩
  refine zaA (k:=5) false za2 U ziS rfl rfl fun X C hX hpp hxv hnw hr hx hpo=>?_
  obtain ⟨cG,cH,cw,cpp,cσ,cex,cxv,cnw⟩:=C
  dsimp only at hpp hxv hnw
  subst hpp hxv hnw
  have hnw:(false:Bool)=false:=rfl
  obtain ⟨cdv,A,outer,s,H,E,rfl⟩:=hX
  exact (zak (by exact (zaC hnw (zeQ (zaO (zgs T) hr (by omega) hx (zac (zaa 1) za0)) (zg1 (znj zti zec zcF zpc zec zcF zap (zaa 1) (zaa 0)))))))
abbrev zhH:List Str:=["n","thing"]
abbrev zcY:List Str:=["n","thing"]
theorem zhs:zav zhH zcY (zag (top 11)):=⟨rfl,rfl,rfl,by decide +kernel,rfl,by decide +kernel,by decide +kernel⟩
abbrev zc2:List Str:=["n","thing","part"]
theorem zfp:zc2.Nodup:=by decide +kernel
def zci:DS:=(zcl (zht (zfh "tuple" (zab 1)) (dFn zkI (dA (dFz (za8 (dIt (zab 1)) (za3 2) dTT (zaj zb8 (dR (zab 0) (dR (zab 2) dR0))) 1)) dA0))))
def zbD:FD:=zaq false [false,false] 0 zci
theorem zh3(T:Tx K mg cls):Dfn false P w K mg base (CXe P w) (xvC cls) 9 (Str.ofString "are_guests") [false,false] zbD:=by
  obtain ⟨f,fd,U,hm⟩:=T.u_are_guests
  refine ⟨f,fd,zcY,?_,hm,U.kp,U.binds (ps:=zcY) fun _ _ _ _ _ _ us hl=>match us,hl with|[_,_],_=>rfl,zau⟩
  refine zaA (k:=8) false za2 U zhs rfl rfl fun X C hX hpp hxv hnw hr hx hpo=>?_
  obtain ⟨cG,cH,cw,cpp,cσ,cex,cxv,cnw⟩:=C
  dsimp only at hpp hxv hnw
  subst hpp hxv hnw
  have hnw:(false:Bool)=false:=rfl
  obtain ⟨cdv,A,outer,s,H,E,rfl⟩:=hX
  exact (zak (by exact (zaC hnw (zeQ (zdD zev rfl T.b_isinstance zdb rfl T.b_tuple zeu (zaa 1)) (zg1 (zmP rfl T.b_all (zbf (zcC (zcz (zaa 1)) rfl (N':=zc2) (m:=1) (by kernel_rfl) rfl (zaG (by kernel_rfl)) (zby (by kernel_rfl)) (zbu (by kernel_rfl)) (fun cl L s H fp G H' w σ=>⟨(za6 (i:=2) zfp rfl (by first|exact Or.inl rfl|exact Or.inr rfl) (show 2∉List.range 2 by decide)),zcr,(zaO (zkf T) hr (by omega) (zmC fun _ z=>z) (zac (zaa 0) (zac (zaa 2) za0)))⟩)))))))))
abbrev zqu:List Str:=["numbers"]
abbrev zjg:List Str:=["numbers"]
theorem znY:zav zqu zjg (zag (top 12)):=⟨rfl,rfl,rfl,by decide +kernel,rfl,by decide +kernel,by decide +kernel⟩
abbrev zeU:List Str:=["numbers","k"]
theorem zkh:zeU.Nodup:=by decide +kernel
def zjk:DS:=(zcl (dFn zkI (dA (dFz (za8 (zbm (dOp zgd (dFn zbR (dA (zab 0) dA0)) (dC (.int 1)))) (za3 1) dTT (dOp gLt (dOp gIx (zab 0) (zab 1)) (dOp gIx (zab 0) (dOp zaB (zab 1) (dC (.int 1))))) 1)) dA0)))
def ziI:FD:=zaq false [false] 0 zjk
theorem zpG(T:Tx K mg cls):Dfn false P w K mg base (CXe P w) (xvC cls) 3 (Str.ofString "rises") [false] ziI:=by
  obtain ⟨f,fd,U,hm⟩:=T.u_rises
  refine ⟨f,fd,zjg,?_,hm,U.kp,U.binds (ps:=zjg) fun _ _ _ _ _ _ us hl=>match us,hl with|[_],_=>rfl,zau⟩
  refine zaA (k:=2) false za2 U znY rfl rfl fun X C hX hpp hxv hnw hr hx hpo=>?_
  obtain ⟨cG,cH,cw,cpp,cσ,cex,cxv,cnw⟩:=C
  dsimp only at hpp hxv hnw
  subst hpp hxv hnw
  have hnw:(false:Bool)=false:=rfl
  obtain ⟨cdv,A,outer,s,H,E,rfl⟩:=hX
  exact (zak (by exact (zaC hnw (zmP rfl T.b_all (zbf (zcC (zbj rfl T.b_range (zjy (zfb T.b_len (zaa 0)) zap)) rfl (N':=zeU) (m:=1) (by kernel_rfl) rfl (zaG (by kernel_rfl)) (zby (by kernel_rfl)) (zbu (by kernel_rfl)) (fun cl L s H fp G H' w σ=>⟨(za6 (i:=1) zkh rfl (by first|exact Or.inl rfl|exact Or.inr rfl) (show 1∉List.range 1 by decide)),zcr,(zsR (zeJ (zaa 0) (zaa 1)) (zeJ (zaa 0) (zbv (zaa 1) zap)))⟩)))))))
abbrev zkc:List Str:=["n","thing"]
abbrev zez:List Str:=["n","thing"]
theorem ziB:zav zkc zez (zag (top 13)):=⟨rfl,rfl,rfl,by decide +kernel,rfl,by decide +kernel,by decide +kernel⟩
def ze7:DS:=(zaP (dEx (zaj zaK (dR (zab 0) dR0))) (zcl (zht (zaj zbD (dR (zab 0) (dR (zab 1) dR0))) (zht (dOp gGt (dFn zbR (dA (zab 1) dA0)) (dC (.int 0))) (zaj ziI (dR (zab 1) dR0))))))
def zd2:FD:=zaq false [false,false] 0 ze7
theorem zkj(T:Tx K mg cls):Dfn false P w K mg base (CXe P w) (xvC cls) 12 (Str.ofString "is_party") [false,false] zd2:=by
  obtain ⟨f,fd,U,hm⟩:=T.u_is_party
  refine ⟨f,fd,zez,?_,hm,U.kp,U.binds (ps:=zez) fun _ _ _ _ _ _ us hl=>match us,hl with|[_,_],_=>rfl,zau⟩
  refine zaA (k:=11) false za2 U ziB rfl rfl fun X C hX hpp hxv hnw hr hx hpo=>?_
  obtain ⟨cG,cH,cw,cpp,cσ,cex,cxv,cnw⟩:=C
  dsimp only at hpp hxv hnw
  subst hpp hxv hnw
  have hnw:(false:Bool)=false:=rfl
  obtain ⟨cdv,A,outer,s,H,E,rfl⟩:=hX
  exact (zah (by exact (zdc (zaO (zdA T) hr (by omega) hx (zac (zaa 0) za0)))) (zak (by exact (zaC hnw (zeQ (zaO (zh3 T) hr (by omega) hx (zac (zaa 0) (zac (zaa 1) za0))) (zeQ (zsH (zfb T.b_len (zaa 1)) zap) (zg1 (zaO (zpG T) hr (by omega) hx (zac (zaa 1) za0)))))))))
abbrev zh2:List Str:=["n","thing"]
abbrev zdu:List Str:=["n","thing"]
theorem zgP:zav zh2 zdu (zag (top 14)):=⟨rfl,rfl,rfl,by decide +kernel,rfl,by decide +kernel,by decide +kernel⟩
abbrev zc3:List Str:=["n","thing","part"]
theorem zfx:zc3.Nodup:=by decide +kernel
def zdq:DS:=(zaP (dEx (zaj zaK (dR (zab 0) dR0))) (zaP (dIf (zkJ (zeF (dTB (zfh "list" (zab 1)))) (dTB (dOp gGt (dFn zbR (dA (zab 1) dA0)) (dC (.int 8))))) (zcl (dC (.bl false))) dNx) (zcl (dFn zkI (dA (dFz (za8 (dIt (zab 1)) (za3 2) dTT (zaj zd2 (dR (zab 0) (dR (zab 2) dR0))) 1)) dA0)))))
def zdp:FD:=zaq false [false,false] 0 zdq
theorem zie(T:Tx K mg cls):Dfn false P w K mg base (CXe P w) (xvC cls) 15 (Str.ofString "is_parties") [false,false] zdp:=by
  obtain ⟨f,fd,U,hm⟩:=T.u_is_parties
  refine ⟨f,fd,zdu,?_,hm,U.kp,U.binds (ps:=zdu) fun _ _ _ _ _ _ us hl=>match us,hl with|[_,_],_=>rfl,zau⟩
  refine zaA (k:=14) false za2 U zgP rfl rfl fun X C hX hpp hxv hnw hr hx hpo=>?_
  obtain ⟨cG,cH,cw,cpp,cσ,cex,cxv,cnw⟩:=C
  dsimp only at hpp hxv hnw
  subst hpp hxv hnw
  have hnw:(false:Bool)=false:=rfl
  obtain ⟨cdv,A,outer,s,H,E,rfl⟩:=hX
  exact (zah (by exact (zdc (zaO (zdA T) hr (by omega) hx (zac (zaa 0) za0)))) (zah (by exact (zcP (JW.jt (zmf (zjI (zf8 (zdD zfm rfl T.b_isinstance zdb rfl T.b_list zfE (zaa 1)))) (zjP (znt (zfb T.b_len (zaa 1)) (zm7 rfl T.g_MOST_PARTIES.choose_spec))))) (zak (by exact (zaC hnw zja))) zaT)) (zak (by exact (zaC hnw (zmP rfl T.b_all (zbf (zcC (zcz (zaa 1)) rfl (N':=zc3) (m:=1) (by kernel_rfl) rfl (zaG (by kernel_rfl)) (zby (by kernel_rfl)) (zbu (by kernel_rfl)) (fun cl L s H fp G H' w σ=>⟨(za6 (i:=2) zfx rfl (by first|exact Or.inl rfl|exact Or.inr rfl) (show 2∉List.range 2 by decide)),zcr,(zaO (zkj T) hr (by omega) (zmC fun _ z=>z) (zac (zaa 0) (zac (zaa 2) za0)))⟩)))))))))
abbrev zf0:List Str:=["n","thing"]
abbrev zbZ:List Str:=["n","thing"]
theorem zfe:zav zf0 zbZ (zag (top 9)):=⟨rfl,rfl,rfl,by decide +kernel,rfl,by decide +kernel,by decide +kernel⟩
def zcd:DS:=(dIf (zeF (dTB (zaj zdp (dR (zab 0) (dR (zab 1) dR0))))) (zmx 1 (dA (dC (.str (Str.ofString "these are no parties of so many guests"))) dA0)) dNx)
def zca:FD:=zaq false [false,false] 0 zcd
theorem zfq(T:Tx K mg cls):Dfn false P w K mg base (CXe P w) (xvC cls) 18 (Str.ofString "check_parties") [false,false] zca:=by
  obtain ⟨f,fd,U,hm⟩:=T.u_check_parties
  refine ⟨f,fd,zbZ,?_,hm,U.kp,U.binds (ps:=zbZ) fun _ _ _ _ _ _ us hl=>match us,hl with|[_,_],_=>rfl,zau⟩
  refine zaA (k:=17) false za2 U zfe rfl rfl fun X C hX hpp hxv hnw hr hx hpo=>?_
  obtain ⟨cG,cH,cw,cpp,cσ,cex,cxv,cnw⟩:=C
  dsimp only at hpp hxv hnw
  subst hpp hxv hnw
  have hnw:(false:Bool)=false:=rfl
  obtain ⟨cdv,A,outer,s,H,E,rfl⟩:=hX
  exact (zak (by exact (zcP (zjI (zf8 (zaO (zie T) hr (by omega) hx (zac (zaa 0) (zac (zaa 1) za0))))) (zak (by exact (zjR hx rfl (T.xc 1 (by decide)).cls T.xm1 rfl (zai zoE zaz)))) zaT)))
abbrev zpS:List Str:=["party","one","other","third"]
abbrev ziy:List Str:=["party","one","other","third"]
theorem zn8:zav zpS ziy (zag (top 16)):=⟨rfl,rfl,rfl,by decide +kernel,rfl,by decide +kernel,by decide +kernel⟩
def zi8:DS:=(zcl (zht (dOp (gIn false) (zab 1) (zab 0)) (zht (dOp (gIn false) (zab 2) (zab 0)) (dOp (gIn true) (zab 3) (zab 0)))))
def zfD:FD:=zaq false [false,false,false,false] 0 zi8
theorem zpr(T:Tx K mg cls):Dfn false P w K mg base (CXe P w) (xvC cls) 3 (Str.ofString "links") [false,false,false,false] zfD:=by
  obtain ⟨f,fd,U,hm⟩:=T.u_links
  refine ⟨f,fd,ziy,?_,hm,U.kp,U.binds (ps:=ziy) fun _ _ _ _ _ _ us hl=>match us,hl with|[_,_,_,_],_=>rfl,zau⟩
  refine zaA (k:=2) false za2 U zn8 rfl rfl fun X C hX hpp hxv hnw hr hx hpo=>?_
  obtain ⟨cG,cH,cw,cpp,cσ,cex,cxv,cnw⟩:=C
  dsimp only at hpp hxv hnw
  subst hpp hxv hnw
  have hnw:(false:Bool)=false:=rfl
  obtain ⟨cdv,A,outer,s,H,E,rfl⟩:=hX
  exact (zak (by exact (zaC hnw (zeQ (zr9 (zoy hr) (zaa 1) (zaa 0)) (zeQ (zr9 (zoy hr) (zaa 2) (zaa 0)) (zg1 (znr (zoy hr) (zaa 3) (zaa 0))))))))
abbrev zrY:List Str:=["a","b","c"]
abbrev zlu:List Str:=["a","b","c"]
theorem zqf:zav zrY zlu (zag (top 17)):=⟨rfl,rfl,rfl,by decide +kernel,rfl,by decide +kernel,by decide +kernel⟩
def zl1:DS:=(zcl (dFz (zd5 (dA (zdC (dA (zab 0) (dA (zab 1) (dA (zab 2) dA0)))) (dA (zdC (dA (zab 0) (dA (zab 2) (dA (zab 1) dA0)))) (dA (zdC (dA (zab 1) (dA (zab 2) (dA (zab 0) dA0)))) dA0))))))
def zif:FD:=zaq false [false,false,false] 0 zl1
theorem zrA(T:Tx K mg cls):Dfn false P w K mg base (CXe P w) (xvC cls) 3 (Str.ofString "legs") [false,false,false] zif:=by
  obtain ⟨f,fd,U,hm⟩:=T.u_legs
  refine ⟨f,fd,zlu,?_,hm,U.kp,U.binds (ps:=zlu) fun _ _ _ _ _ _ us hl=>match us,hl with|[_,_,_],_=>rfl,zau⟩
  refine zaA (k:=2) false za2 U zqf rfl rfl fun X C hX hpp hxv hnw hr hx hpo=>?_
  obtain ⟨cG,cH,cw,cpp,cσ,cex,cxv,cnw⟩:=C
  dsimp only at hpp hxv hnw
  subst hpp hxv hnw
  have hnw:(false:Bool)=false:=rfl
  obtain ⟨cdv,A,outer,s,H,E,rfl⟩:=hX
  exact (zak (by exact (zaC hnw (zbf (zcj (zai (zc6 (zai (zaa 0) (zai (zaa 1) (zai (zaa 2) zaz)))) (zai (zc6 (zai (zaa 0) (zai (zaa 2) (zai (zaa 1) zaz)))) (zai (zc6 (zai (zaa 1) (zai (zaa 2) (zai (zaa 0) zaz)))) zaz))))))))
abbrev ziw:List Str:=["parties","one","other","third","found","waiting","guest","number","party","mate"]
abbrev zdI:List Str:=["parties","one","other","third"]
theorem zbs:zav ziw zdI (zag (top 18)):=⟨rfl,rfl,rfl,by decide +kernel,rfl,by decide +kernel,by decide +kernel⟩
def zdQ:DS:=(zaP (zkv 4 (zab 1) (zdC (dA (zab 1) dA0))) (zaP (zcG 5 (zd5 (dA (zab 1) dA0))) (zaP (zbg (dTB (dOp gGt (zcW 5) (dC (.int 0)))) (zaP (zbT 6 (zej 5 (dC (.int 0)))) (zcD (zkS (zab 0)) (zeY 7 8) (zcD (dIt (zab 8)) (za3 9) (dIf (zd7 (zlG false 4 (zab 9)) (dTB (zaj zfD (dR (zab 8) (dR (zab 6) (dR (zab 9) (dR (zab 3) dR0))))))) (zaP (zhj 4 (zab 9) (dOp ze8 (zgf 4 (zab 6)) (zdC (dA (zab 7) (dA (zab 9) dA0))))) (dEx (zfg 5 (zab 9)))) dNx)))) 10) (zcl (zkN 4 (zab 2))))))
def zba:FD:=zaq false [false,false,false,false] 6 zdQ
theorem ziv(T:Tx K mg cls):Dfn false P w K mg base (CXe P w) (xvC cls) 6 (Str.ofString "least_way") [false,false,false,false] zba:=by
  obtain ⟨f,fd,U,hm⟩:=T.u_least_way
  refine ⟨f,fd,zdI,?_,hm,U.kp,U.binds (ps:=zdI) fun _ _ _ _ _ _ us hl=>match us,hl with|[_,_,_,_],_=>rfl,zau⟩
  refine zaA (k:=5) false za2 U zbs rfl rfl fun X C hX hpp hxv hnw hr hx hpo=>?_
  obtain ⟨cG,cH,cw,cpp,cσ,cex,cxv,cnw⟩:=C
  dsimp only at hpp hxv hnw
  subst hpp hxv hnw
  have hnw:(false:Bool)=false:=rfl
  obtain ⟨cdv,A,outer,s,H,E,rfl⟩:=hX
  exact (zah (by exact (zlX (i:=4) zbs.nd rfl (by first|exact Or.inl rfl|exact Or.inr rfl) (show 4∉za9 [false,false,false,false] by decide) (zaa 1) (zc6 (zai (zaa 1) zaz)))) (zah (by exact (zeA (i:=5) zbs.nd rfl (by first|exact Or.inl rfl|exact Or.inr rfl) (show 5∉za9 [false,false,false,false] by decide) (zcj (zai (zaa 1) zaz)))) (zah (by exact (zgS 10 hpo (znt (zgL 5 rfl T.b_len) zap) (zah (by exact (zb0 (i:=6) zbs.nd rfl (by first|exact Or.inl rfl|exact Or.inr rfl) (show 6∉za9 [false,false,false,false] by decide) (zjY 5 zap))) (zak (by exact (zcy hpo rfl (zp8 rfl T.b_enumerate (zaa 0)) (zmp (i:=7) (j:=8) rfl zbs.nd rfl rfl (by first|exact Or.inl rfl|exact Or.inr rfl) (by first|exact Or.inl rfl|exact Or.inr rfl) (show 7∉za9 [false,false,false,false] by decide) (show 8∉za9 [false,false,false,false] by decide)) (zak (by exact (zcy hpo rfl (zcz (zaa 8)) (za6 (i:=9) zbs.nd rfl (by first|exact Or.inl rfl|exact Or.inr rfl) (show 9∉za9 [false,false,false,false] by decide)) (zak (by exact (zcP (JW.jt (zhU (zkY 4 hr (zaa 9)) (zft (zf8 (zaO (zpr T) hr (by omega) hx (zac (zaa 8) (zac (zaa 6) (zac (zaa 9) (zac (zaa 3) za0))))))))) (zah (by exact (zkW 4 hr (zaa 9) (zms (zl3 4 hr (zaa 6)) (zc6 (zai (zaa 7) (zai (zaa 9) zaz)))))) (zak (by exact (zdc (zji 5 (zaa 9)))))) zaT)))))))))))) (zak (by exact (zaC hnw (zmI 4 hr (zaa 2))))))))
abbrev zkm:List Str:=["parties","a","b","c","ways"]
abbrev zeD:List Str:=["parties","a","b","c"]
theorem zf2:zav zkm zeD (zag (top 19)):=⟨rfl,rfl,rfl,by decide +kernel,rfl,by decide +kernel,by decide +kernel⟩
abbrev zdn:List Str:=["parties","a","b","c","ways","leg"]
theorem zhq:zdn.Nodup:=by decide +kernel
def zeK:DS:=(zaP (zbT 4 (dFz (za8 (dIt (zaj zif (dR (zab 1) (dR (zab 2) (dR (zab 3) dR0))))) (za3 5) dTT (zaj zba (dR (zab 0) (dR (dOp gIx (zab 5) (dC (.int 0))) (dR (dOp gIx (zab 5) (dC (.int 1))) (dR (dOp gIx (zab 5) (dC (.int 2))) dR0))))) 1))) (zcl (zpt (dTB (dOp (gIn false) (dC .non) (zab 4))) (dC .non) (zdC (dA (zab 1) (dA (zab 2) (dA (zab 3) (dA (dFn zck (dA (zab 4) dA0)) dA0))))))))
def zcB:FD:=zaq false [false,false,false,false] 1 zeK
theorem zk3(T:Tx K mg cls):Dfn false P w K mg base (CXe P w) (xvC cls) 9 (Str.ofString "bar_past") [false,false,false,false] zcB:=by
  obtain ⟨f,fd,U,hm⟩:=T.u_bar_past
  refine ⟨f,fd,zeD,?_,hm,U.kp,U.binds (ps:=zeD) fun _ _ _ _ _ _ us hl=>match us,hl with|[_,_,_,_],_=>rfl,zau⟩
  refine zaA (k:=8) false za2 U zf2 rfl rfl fun X C hX hpp hxv hnw hr hx hpo=>?_
  obtain ⟨cG,cH,cw,cpp,cσ,cex,cxv,cnw⟩:=C
  dsimp only at hpp hxv hnw
  subst hpp hxv hnw
  have hnw:(false:Bool)=false:=rfl
  obtain ⟨cdv,A,outer,s,H,E,rfl⟩:=hX
  exact (zah (by exact (zgA (i:=4) zf2.nd rfl (by first|exact Or.inl rfl|exact Or.inr rfl) (show 4∉za9 [false,false,false,false] by decide) (zcz (zaO (zrA T) hr (by omega) hx (zac (zaa 1) (zac (zaa 2) (zac (zaa 3) za0))))) rfl (N':=zdn) (m:=1) (by kernel_rfl) rfl (zaG (by kernel_rfl)) (zby (by kernel_rfl)) (zbu (by kernel_rfl)) (fun cl L s H fp G H' w σ=>⟨(za6 (i:=5) zhq rfl (by first|exact Or.inl rfl|exact Or.inr rfl) (show 5∉List.range 5 by decide)),zcr,(zaO (ziv T) hr (by omega) (zmC fun _ z=>z) (zac (zaa 0) (zac (zeJ (zaa 5) zap) (zac (zeJ (zaa 5) zap) (zac (zeJ (zaa 5) zap) za0)))))⟩))) (zak (by exact (zaC hnw (zo4 (zsn (zoy hr) zhB (zaa 4)) zhB (zc6 (zai (zaa 1) (zai (zaa 2) (zai (zaa 3) (zai (zhp T.b_tuple (zaa 4)) zaz))))))))))
abbrev ziJ:List Str:=["bar"]
abbrev zdR:List Str:=["bar"]
theorem zhx:zav ziJ zdR (zag (top 20)):=⟨rfl,rfl,rfl,by decide +kernel,rfl,by decide +kernel,by decide +kernel⟩
abbrev zcS:List Str:=["bar","way"]
theorem zfU:zcS.Nodup:=by decide +kernel
def zdS:DS:=(zcl (dFn zfY (dA (dFz (za8 (dIt (dOp gIx (zab 0) (dC (.int 3)))) (za3 1) dTT (dFn zbR (dA (zab 1) dA0)) 1)) dA0)))
def zbX:FD:=zaq false [false] 0 zdS
theorem ziX(T:Tx K mg cls):Dfn false P w K mg base (CXe P w) (xvC cls) 3 (Str.ofString "length_of") [false] zbX:=by
  obtain ⟨f,fd,U,hm⟩:=T.u_length_of
  refine ⟨f,fd,zdR,?_,hm,U.kp,U.binds (ps:=zdR) fun _ _ _ _ _ _ us hl=>match us,hl with|[_],_=>rfl,zau⟩
  refine zaA (k:=2) false za2 U zhx rfl rfl fun X C hX hpp hxv hnw hr hx hpo=>?_
  obtain ⟨cG,cH,cw,cpp,cσ,cex,cxv,cnw⟩:=C
  dsimp only at hpp hxv hnw
  subst hpp hxv hnw
  have hnw:(false:Bool)=false:=rfl
  obtain ⟨cdv,A,outer,s,H,E,rfl⟩:=hX
  exact (zak (by exact (zaC hnw (zoA rfl T.b_sum (zbf (zcC (zcz (zeJ (zaa 0) zap)) rfl (N':=zcS) (m:=1) (by kernel_rfl) rfl (zaG (by kernel_rfl)) (zby (by kernel_rfl)) (zbu (by kernel_rfl)) (fun cl L s H fp G H' w σ=>⟨(za6 (i:=1) zfU rfl (by first|exact Or.inl rfl|exact Or.inr rfl) (show 1∉List.range 1 by decide)),zcr,(zfb T.b_len (zaa 1))⟩)))))))
abbrev ziH:List Str:=["n","parties","<tab>","bars","c","b"]
abbrev zeb:List Str:=["n","parties"]
theorem zbI:zav ziH zeb (zag (top 21)):=⟨rfl,rfl,rfl,by decide +kernel,rfl,by decide +kernel,by decide +kernel⟩
abbrev zcV:List Str:=["n","parties","<tab>","bars","c","b","a"]
theorem zfT:zcV.Nodup:=by decide +kernel
abbrev zcU:List Str:=["n","parties","<tab>","bars","c","b","bar"]
theorem zfZ:zcU.Nodup:=by decide +kernel
def zdW:DS:=(zaP (dEx (zaj zca (dR (zab 0) (dR (zab 1) dR0)))) (zaP (zcG 3 (zd5 dA0)) (zaP (zcD (zbm (zab 0)) (za3 4) (zcD (zbm (zab 4)) (za3 5) (dEx (zkA 3 (dFz (za8 (zbm (zab 5)) (za3 6) dTT (zaj zcB (dR (zab 1) (dR (zab 6) (dR (zab 5) (dR (zab 4) dR0))))) 1)))))) (zaP (zcG 3 (za8 (dIt (zis 3)) (za3 6) (zrx false (zab 6)) (zab 6) 1)) (zcl (znK 2 zeN (zdC (dA (zaj zbX (dR (zab 0) dR0)) (dA (zab 0) dA0))) (zis 3)))))))
def zbb:FD:=zaq false ([false,false]++[true]) 3 zdW
theorem ziN(T:Tx K mg cls){f PT cL:Addr}{fd:FuncData}(U:Fun K (Str.ofString "least_bar") (Str.ofString "least_bar") (top 21) f fd)(hmx:mg (Str.ofString "least_bar")=some (.ref f))(hcL:fd.code=.ref cL)(hch:W.codeHdIn K cL PT=true)(hbm:base.BuiltinsAt mg PT)(hKb:K.In base):zs7 P w K mg base (CXe P w) (xvC cls) 21 (Str.ofString "least_bar") ([false,false]++[true]) PT zbb:=by
  refine ⟨f,fd,zeb,?_,hmx,U.kp,U.binds (ps:=zeb) fun _ _ _ _ _ _ us hl=>match us,hl with|[_,_],_=>rfl,zau⟩
  refine znO (k:=20) (ks:=[false,false]) (m:=3) (xt:="<tab>") U hcL hch zbI rfl rfl rfl (by unfold Vis;decide +kernel) hbm hKb fun X C hX hpp hσ0 hxv hnw hr hx hpo hLB=>?_
  obtain ⟨cdv,A,outer,s,H,E,rfl⟩:=hX
  obtain ⟨cG,cH,cw,cpp,cσ,cex,cxv,cnw⟩:=C
  dsimp only at hpp hσ0 hxv hnw
  subst hpp hxv hnw
  have hnw:(false:Bool)=false:=rfl
  exact (zah (by exact (zdc (zaO (zfq T) hr (by omega) hx (zac (zaa 0) (zac (zaa 1) za0))))) (zah (by exact (zeA (i:=3) zbI.nd rfl (by first|exact Or.inl rfl|exact Or.inr rfl) (show 3∉za9 ([false,false]++[true]) by decide) (zcj zaz))) (zah (by exact (zcy hpo rfl (zbj rfl T.b_range (zaa 0)) (za6 (i:=4) zbI.nd rfl (by first|exact Or.inl rfl|exact Or.inr rfl) (show 4∉za9 ([false,false]++[true]) by decide)) (zak (by exact (zcy hpo rfl (zbj rfl T.b_range (zaa 4)) (za6 (i:=5) zbI.nd rfl (by first|exact Or.inl rfl|exact Or.inr rfl) (show 5∉za9 ([false,false]++[true]) by decide)) (zak (by exact (zdc (zpg 3 (zbf (zcC (zbj rfl T.b_range (zaa 5)) rfl (N':=zcV) (m:=1) (by kernel_rfl) rfl (zaG (by kernel_rfl)) (zby (by kernel_rfl)) (zbu (by kernel_rfl)) (fun cl L s H fp G H' w σ=>⟨(za6 (i:=6) zfT rfl (by first|exact Or.inl rfl|exact Or.inr rfl) (show 6∉List.range 6 by decide)),zcr,(zaO (zk3 T) hr (by omega) (zmC fun _ z=>z) (zac (zaa 1) (zac (zaa 6) (zac (zaa 5) (zac (zaa 4) za0)))))⟩)))))))))))) (zah (by exact (zdH (i:=3) zbI.nd rfl (by first|exact Or.inl rfl|exact Or.inr rfl) (show 3∉za9 ([false,false]++[true]) by decide) (zcz (zg2 3)) rfl (N':=zcU) (m:=1) (by kernel_rfl) rfl (zaG (by kernel_rfl)) (zby (by kernel_rfl)) (zbu (by kernel_rfl)) (fun cl L s H fp G H' w σ=>⟨(za6 (i:=6) zfZ rfl (by first|exact Or.inl rfl|exact Or.inr rfl) (show 6∉List.range 6 by decide)),(zhi (zpq (zaa 6))),(zaa 6)⟩))) (zak (by exact (zaC hnw (zpU (k:=3) (x:="bar") hLB (show 2∈za9 ([false,false]++[true]) by decide) hσ0 (hr.mono (by omega)) (fun XL CL hXL hpp hcv hnw hr hx=>by
   obtain ⟨Fa,cdv,A,outer,s,H,E,rfl⟩:=hXL
   obtain ⟨cG,cH,cw,cpp,cσ,cex,cxv,cnw⟩:=CL
   dsimp only at hpp hcv hnw
   subst hpp hcv hnw
   exact (zc6 (zai (zaO (ziX T) hr (by omega) hx (zac (zaa 0) za0)) (zai (zaa 0) zaz)))) ⟨rfl,rfl,rfl,by decide +kernel,rfl,by decide +kernel,by decide +kernel⟩ rfl T.b_min (zg2 3) (fun _ _ _ _ _=>.of_eq rfl)))))))))
abbrev zfR:List Str:=["script","k"]
abbrev zcq:List Str:=["script","k"]
theorem zfI:zav zfR zcq (zag (top 23)):=⟨rfl,rfl,rfl,by decide +kernel,rfl,by decide +kernel,by decide +kernel⟩
def zbl:DS:=(zaP (dIf (dTB (dOp gLt (zab 1) (dFn zbR (dA (zab 0) dA0)))) (zcl (dOp gIx (zab 0) (zab 1))) dNx) (zcl (dC (.int 0))))
def zbA:FD:=zaq false [false,false] 0 zbl
theorem zgi(T:Tx K mg cls):Dfn false P w K mg base (CXe P w) (xvC cls) 3 (Str.ofString "_law_cell_at") [false,false] zbA:=by
  obtain ⟨f,fd,U,hm⟩:=T.u__law_cell_at
  refine ⟨f,fd,zcq,?_,hm,U.kp,U.binds (ps:=zcq) fun _ _ _ _ _ _ us hl=>match us,hl with|[_,_],_=>rfl,zau⟩
  refine zaA (k:=2) false za2 U zfI rfl rfl fun X C hX hpp hxv hnw hr hx hpo=>?_
  obtain ⟨cG,cH,cw,cpp,cσ,cex,cxv,cnw⟩:=C
  dsimp only at hpp hxv hnw
  subst hpp hxv hnw
  have hnw:(false:Bool)=false:=rfl
  obtain ⟨cdv,A,outer,s,H,E,rfl⟩:=hX
  exact (zah (by exact (zcP (zob (zaa 1) (zfb T.b_len (zaa 0))) (zak (by exact (zaC hnw (zeJ (zaa 0) (zaa 1))))) zaT)) (zak (by exact (zaC hnw zap))))
abbrev zhE:List Str:=["script","k","cell"]
abbrev zdh:List Str:=["script","k"]
theorem zem:zav zhE zdh (zag (top 24)):=⟨rfl,rfl,rfl,by decide +kernel,rfl,by decide +kernel,by decide +kernel⟩
def zbH:DS:=(zaP (zbT 2 (zaj zbA (dR (zab 0) (dR (zab 1) dR0)))) (zaP (dIf (dTB (dOp gGe (zab 2) (dOp zna (dC (.int 10)) (dC (.int 18))))) (zlV (zd5 (dA (dOp zgd (zab 2) (dOp zna (dC (.int 10)) (dC (.int 18)))) (dA (dC (.bl true)) dA0)))) dNx) (zlV (zd5 (dA (dOp zkD (zab 2) (dC (.int 2147483647))) (dA (dC (.bl false)) dA0))))))
def zbE:FD:=zaq true [false,false] 1 zbH
theorem zio(T:Tx K mg cls):Dfn true P w K mg base (CXe P w) (xvC cls) 6 (Str.ofString "_law_state") [false,false] zbE:=by
  obtain ⟨f,fd,U,hm⟩:=T.u__law_state
  refine ⟨f,fd,zdh,?_,hm,U.kp,U.binds (ps:=zdh) fun _ _ _ _ _ _ us hl=>match us,hl with|[_,_],_=>rfl,zau⟩
  refine zaA (k:=5) true za2 U zem rfl rfl fun X C hX hpp hxv hnw hr hx hpo=>?_
  obtain ⟨cG,cH,cw,cpp,cσ,cex,cxv,cnw⟩:=C
  dsimp only at hpp hxv hnw
  subst hpp hxv hnw
  have hnw:(true:Bool)=true:=rfl
  obtain ⟨cdv,A,outer,s,H,E,rfl⟩:=hX
  exact (zah (by exact (zb0 (i:=2) zem.nd rfl (by first|exact Or.inl rfl|exact Or.inr rfl) (show 2∉za9 [false,false] by decide) (zaO (zgi T) hr (by omega) hx (zac (zaa 0) (zac (zaa 1) za0))))) (zah (by exact (zcP (zsL (zaa 2) (zoC zap zap)) (zak (by exact (zme hnw (zcj (zai (zjy (zaa 2) (zoC zap zap)) (zai zja zaz)))))) zaT)) (zak (by exact (zme hnw (zcj (zai (zgr (zaa 2) zap) (zai zja zaz))))))))
abbrev ziF:List Str:=["state","many","found","stirred"]
abbrev zdG:List Str:=["state","many"]
theorem zcm:zav ziF zdG (zag (top 25)):=⟨rfl,rfl,rfl,by decide +kernel,rfl,by decide +kernel,by decide +kernel⟩
def zed:DS:=(zaP (dIf (dTB (zlh 0 (dC (.int 1)))) (zaP (zbT 2 (dOp zkD (zlh 0 (dC (.int 0))) (zab 1))) (zaP (zkZ 0 (dOp zmW (zlh 0 (dC (.int 0))) (zab 1)) (dC (.int 0))) (zcl (zab 2)))) dNx) (zaP (zkZ 0 (dOp zkD (dOp zaB (dOp zmc (zlh 0 (dC (.int 0))) (dC (.int 48271))) (dC (.int 29))) (dC (.int 2147483647))) (dC (.int 0))) (zaP (zbT 3 (dOp zkD (dOp zaB (dOp zaB (dOp zmc (zlh 0 (dC (.int 0))) (zlh 0 (dC (.int 0)))) (dOp zmc (dC (.int 39373)) (zlh 0 (dC (.int 0))))) (dC (.int 7))) (dC (.int 2147483629)))) (zaP (zbT 3 (dOp zkD (dOp zaB (dOp zmc (zab 3) (zab 3)) (dOp zmc (dC (.int 16807)) (zab 3))) (dC (.int 2147483587)))) (zcl (dOp zkD (dOp zmW (zab 3) (dC (.int 8))) (zab 1)))))))
def zae:FD:=zaq false [true,false] 2 zed
theorem zaI(T:Tx K mg cls):Dfn false P w K mg base (CXe P w) (xvC cls) 3 (Str.ofString "_law_take") [true,false] zae:=by
  obtain ⟨f,fd,U,hm⟩:=T.u__law_take
  refine ⟨f,fd,zdG,?_,hm,U.kp,U.binds (ps:=zdG) fun _ _ _ _ _ _ us hl=>match us,hl with|[_,_],_=>rfl,zau⟩
  refine zaA (k:=2) false za2 U zcm rfl rfl fun X C hX hpp hxv hnw hr hx hpo=>?_
  obtain ⟨cG,cH,cw,cpp,cσ,cex,cxv,cnw⟩:=C
  dsimp only at hpp hxv hnw
  subst hpp hxv hnw
  have hnw:(false:Bool)=false:=rfl
  obtain ⟨cdv,A,outer,s,H,E,rfl⟩:=hX
  exact (zah (by exact (zcP (zf8 (zfA 0 (hb:=zap))) (zah (by exact (zb0 (i:=2) zcm.nd rfl (by first|exact Or.inl rfl|exact Or.inr rfl) (show 2∉za9 [true,false] by decide) (zgr (zfA 0 (hb:=zap)) (zaa 1)))) (zah (by exact (zm8 0 (zo7 (zfA 0 (hb:=zap)) (zaa 1)) zap)) (zak (by exact (zaC hnw (zaa 2)))))) zaT)) (zah (by exact (zm8 0 (zgr (zbv (zh8 (zfA 0 (hb:=zap)) zap) zap) zap) zap)) (zah (by exact (zb0 (i:=3) zcm.nd rfl (by first|exact Or.inl rfl|exact Or.inr rfl) (show 3∉za9 [true,false] by decide) (zgr (zbv (zbv (zh8 (zfA 0 (hb:=zap)) (zfA 0 (hb:=zap))) (zh8 zap (zfA 0 (hb:=zap)))) zap) zap))) (zah (by exact (zb0 (i:=3) zcm.nd rfl (by first|exact Or.inl rfl|exact Or.inr rfl) (show 3∉za9 [true,false] by decide) (zgr (zbv (zh8 (zaa 3) (zaa 3)) (zh8 zap (zaa 3))) zap))) (zak (by exact (zaC hnw (zgr (zo7 (zaa 3) zap) (zaa 1)))))))))
abbrev zff:List Str:=["state","things","left","found"]
abbrev zbN:List Str:=["state","things"]
theorem zb4:zav zff zbN (zag (top 26)):=⟨rfl,rfl,rfl,by decide +kernel,rfl,by decide +kernel,by decide +kernel⟩
def zbM:DS:=(zaP (zcG 2 (ziT zfX (dA (zab 1) dA0))) (zaP (zcG 3 (zd5 dA0)) (zaP (zbg (dTB (zmB true 2 (dFz (zd5 dA0)))) (dEx (zfg 3 (zej 2 (zaj zae (dRO 0 (dR (zcW 2) dR0)))))) 10) (zcl (zis 3)))))
def zaV:FD:=zaq false [true,false] 2 zbM
theorem zfa(T:Tx K mg cls):Dfn false P w K mg base (CXe P w) (xvC cls) 6 (Str.ofString "_law_mixed_row") [true,false] zaV:=by
  obtain ⟨f,fd,U,hm⟩:=T.u__law_mixed_row
  refine ⟨f,fd,zbN,?_,hm,U.kp,U.binds (ps:=zbN) fun _ _ _ _ _ _ us hl=>match us,hl with|[_,_],_=>rfl,zau⟩
  refine zaA (k:=5) false za2 U zb4 rfl rfl fun X C hX hpp hxv hnw hr hx hpo=>?_
  obtain ⟨cG,cH,cw,cpp,cσ,cex,cxv,cnw⟩:=C
  dsimp only at hpp hxv hnw
  subst hpp hxv hnw
  have hnw:(false:Bool)=false:=rfl
  obtain ⟨cdv,A,outer,s,H,E,rfl⟩:=hX
  exact (zah (by exact (zeA (i:=2) zb4.nd rfl (by first|exact Or.inl rfl|exact Or.inr rfl) (show 2∉za9 [true,false] by decide) (zo9 T.b_list (zaa 1)))) (zah (by exact (zeA (i:=3) zb4.nd rfl (by first|exact Or.inl rfl|exact Or.inr rfl) (show 3∉za9 [true,false] by decide) (zcj zaz))) (zah (by exact (zgS 10 hpo (zon 2 (zjf hr) (zbf (zcj zaz))) (zak (by exact (zdc (zji 3 (zjY 2 (zaO (zaI T) hr (by omega) hx (zbF 0 (zac (zgL 2 rfl T.b_len) za0)))))))))) (zak (by exact (zaC hnw (zg2 3)))))))
abbrev zih:List Str:=["state","n","found"]
abbrev zdr:List Str:=["state","n"]
theorem zek:zav zih zdr (zag (top 27)):=⟨rfl,rfl,rfl,by decide +kernel,rfl,by decide +kernel,by decide +kernel⟩
abbrev zc4:List Str:=["state","n","found","guest"]
theorem zfy:zc4.Nodup:=by decide +kernel
def zbG:DS:=(zaP (zbT 2 (dFn zck (dA (dFz (za8 (zbm (zab 1)) (za3 3) (dTB (dOp (gEq false) (zaj zae (dRO 0 (dR (dC (.int 2)) dR0))) (dC (.int 1)))) (zab 3) 1)) dA0))) (zaP (dIf (dTB (dOp (gEq false) (zab 2) (zdC dA0))) (zcl (zdC (dA (zaj zae (dRO 0 (dR (zab 1) dR0))) dA0))) dNx) (zcl (zab 2))))
def zaQ:FD:=zaq false [true,false] 1 zbG
theorem zeP(T:Tx K mg cls):Dfn false P w K mg base (CXe P w) (xvC cls) 6 (Str.ofString "_law_party") [true,false] zaQ:=by
  obtain ⟨f,fd,U,hm⟩:=T.u__law_party
  refine ⟨f,fd,zdr,?_,hm,U.kp,U.binds (ps:=zdr) fun _ _ _ _ _ _ us hl=>match us,hl with|[_,_],_=>rfl,zau⟩
  refine zaA (k:=5) false za2 U zek rfl rfl fun X C hX hpp hxv hnw hr hx hpo=>?_
  obtain ⟨cG,cH,cw,cpp,cσ,cex,cxv,cnw⟩:=C
  dsimp only at hpp hxv hnw
  subst hpp hxv hnw
  have hnw:(false:Bool)=false:=rfl
  obtain ⟨cdv,A,outer,s,H,E,rfl⟩:=hX
  exact (zah (by exact (zb0 (i:=2) zek.nd rfl (by first|exact Or.inl rfl|exact Or.inr rfl) (show 2∉za9 [true,false] by decide) (zhp T.b_tuple (zbf (zcC (zbj rfl T.b_range (zaa 1)) rfl (N':=zc4) (m:=1) (by kernel_rfl) rfl (zaG (by kernel_rfl)) (zby (by kernel_rfl)) (zbu (by kernel_rfl)) (fun cl L s H fp G H' w σ=>⟨(za6 (i:=3) zfy rfl (by first|exact Or.inl rfl|exact Or.inr rfl) (show 3∉List.range 3 by decide)),(zhi (znC (zjf hr) (zaO (zaI T) hr (by omega) (zmC fun _ z=>z) (zbF 0 (zac zap za0))) zap)),(zaa 3)⟩)))))) (zah (by exact (zcP (znC (zjf hr) (zaa 2) (zc6 zaz)) (zak (by exact (zaC hnw (zc6 (zai (zaO (zaI T) hr (by omega) hx (zbF 0 (zac (zaa 1) za0))) zaz))))) zaT)) (zak (by exact (zaC hnw (zaa 2))))))
abbrev zi2:List Str:=["state","row","first"]
abbrev zea:List Str:=["state","row"]
theorem zeM:zav zi2 zea (zag (top 28)):=⟨rfl,rfl,rfl,by decide +kernel,rfl,by decide +kernel,by decide +kernel⟩
def zdY:DS:=(zaP (zbT 2 (zaj zae (dRO 0 (dR (dFn zbR (dA (zab 1) dA0)) dR0)))) (zcl (dFn zck (dA (dFz (ziT zeO (dA (dFz (zqY (zab 1) (dO1 (zab 2)) (dO1 (dOp zaB (dOp zaB (zab 2) (dC (.int 1))) (zaj zae (dRO 0 (dR (dOp zgd (dFn zbR (dA (zab 1) dA0)) (zab 2)) dR0))))))) dA0))) dA0))))
def zaU:FD:=zaq false [true,false] 1 zdY
theorem zfH(T:Tx K mg cls):Dfn false P w K mg base (CXe P w) (xvC cls) 6 (Str.ofString "_law_side") [true,false] zaU:=by
  obtain ⟨f,fd,U,hm⟩:=T.u__law_side
  refine ⟨f,fd,zea,?_,hm,U.kp,U.binds (ps:=zea) fun _ _ _ _ _ _ us hl=>match us,hl with|[_,_],_=>rfl,zau⟩
  refine zaA (k:=5) false za2 U zeM rfl rfl fun X C hX hpp hxv hnw hr hx hpo=>?_
  obtain ⟨cG,cH,cw,cpp,cσ,cex,cxv,cnw⟩:=C
  dsimp only at hpp hxv hnw
  subst hpp hxv hnw
  have hnw:(false:Bool)=false:=rfl
  obtain ⟨cdv,A,outer,s,H,E,rfl⟩:=hX
  exact (zah (by exact (zb0 (i:=2) zeM.nd rfl (by first|exact Or.inl rfl|exact Or.inr rfl) (show 2∉za9 [true,false] by decide) (zaO (zaI T) hr (by omega) hx (zbF 0 (zac (zfb T.b_len (zaa 1)) za0))))) (zak (by exact (zaC hnw (zhp T.b_tuple (zbf (zmK rfl T.b_sorted (zbf (zrq (zaa 1) (zkR (zaa 2)) (zkR (zbv (zbv (zaa 2) zap) (zaO (zaI T) hr (by omega) hx (zbF 0 (zac (zjy (zfb T.b_len (zaa 1)) (zaa 2)) za0))))))))))))))
abbrev zfV:List Str:=["state","n","most","row","way","found"]
abbrev zcw:List Str:=["state","n","most"]
theorem zaX:zav zfV zcw (zag (top 29)):=⟨rfl,rfl,rfl,by decide +kernel,rfl,by decide +kernel,by decide +kernel⟩
abbrev zbV:List Str:=["state","n","most","row","way","found","turn"]
theorem zeE:zbV.Nodup:=by decide +kernel
abbrev zcc:List Str:=["state","n","most","row","way","found","party"]
theorem ze2:zcc.Nodup:=by decide +kernel
def zco:DS:=(zaP (zbT 3 (zaj zaV (dRO 0 (dR (dFz (zka (zab 1))) dR0)))) (zaP (zbT 4 (zaj zae (dRO 0 (dR (dC (.int 4)) dR0)))) (zaP (zcG 5 (za8 (zbm (zaj zae (dRO 0 (dR (dOp zaB (zab 2) (dC (.int 1))) dR0)))) (za3 6) dTT (zaj zaU (dRO 0 (dR (zab 3) dR0))) 1)) (zaP (dIf (zd7 (dTB (dOp (gEq false) (zab 4) (dC (.int 1)))) (dTB (dOp gLt (zcW 5) (zab 2)))) (dEx (zkn 5 (zaj zae (dRO 0 (dR (dOp zaB (zcW 5) (dC (.int 1))) dR0))) (zaj zaQ (dRO 0 (dR (zab 1) dR0))))) dNx) (zaP (dIf (dTB (dOp gGt (zab 4) (dC (.int 1)))) (zcG 5 (za8 (dIt (zis 5)) (za3 6) dTT (dOp gIx (dFz (zd5 (dA (zaj zaU (dRO 0 (dR (zab 3) dR0))) (dA (zaj zaQ (dRO 0 (dR (zab 1) dR0))) dA0)))) (zaj zae (dRO 0 (dR (dC (.int 2)) dR0)))) 1)) dNx) (zcl (zis 5)))))))
def zaD:FD:=zaq false [true,false,false] 3 zco
theorem zdB(T:Tx K mg cls):Dfn false P w K mg base (CXe P w) (xvC cls) 9 (Str.ofString "_law_parties") [true,false,false] zaD:=by
  obtain ⟨f,fd,U,hm⟩:=T.u__law_parties
  refine ⟨f,fd,zcw,?_,hm,U.kp,U.binds (ps:=zcw) fun _ _ _ _ _ _ us hl=>match us,hl with|[_,_,_],_=>rfl,zau⟩
  refine zaA (k:=8) false za2 U zaX rfl rfl fun X C hX hpp hxv hnw hr hx hpo=>?_
  obtain ⟨cG,cH,cw,cpp,cσ,cex,cxv,cnw⟩:=C
  dsimp only at hpp hxv hnw
  subst hpp hxv hnw
  have hnw:(false:Bool)=false:=rfl
  obtain ⟨cdv,A,outer,s,H,E,rfl⟩:=hX
  exact (zah (by exact (zb0 (i:=3) zaX.nd rfl (by first|exact Or.inl rfl|exact Or.inr rfl) (show 3∉za9 [true,false,false] by decide) (zaO (zfa T) hr (by omega) hx (zbF 0 (zac (zbf (zp0 rfl rfl T.b_list rfl T.b_range (zaa 1))) za0))))) (zah (by exact (zb0 (i:=4) zaX.nd rfl (by first|exact Or.inl rfl|exact Or.inr rfl) (show 4∉za9 [true,false,false] by decide) (zaO (zaI T) hr (by omega) hx (zbF 0 (zac zap za0))))) (zah (by exact (zdH (i:=5) zaX.nd rfl (by first|exact Or.inl rfl|exact Or.inr rfl) (show 5∉za9 [true,false,false] by decide) (zbj rfl T.b_range (zaO (zaI T) hr (by omega) hx (zbF 0 (zac (zbv (zaa 2) zap) za0)))) rfl (N':=zbV) (m:=1) (by kernel_rfl) rfl (zaG (by kernel_rfl)) (zby (by kernel_rfl)) (zbu (by kernel_rfl)) (fun cl L s H fp G H' w σ=>⟨(za6 (i:=6) zeE rfl (by first|exact Or.inl rfl|exact Or.inr rfl) (show 6∉List.range 6 by decide)),zcr,(zaO (zfH T) hr (by omega) (zmC fun _ z=>z) (zbF 0 (zac (zaa 3) za0)))⟩))) (zah (by exact (zcP (JW.jt (zhU (znC (zjf hr) (zaa 4) zap) (zft (zob (zgL 5 rfl T.b_len) (zaa 2))))) (zak (by exact (zdc (zqv 5 (zaO (zaI T) hr (by omega) hx (zbF 0 (zac (zbv (zgL 5 rfl T.b_len) zap) za0))) (zaO (zeP T) hr (by omega) hx (zbF 0 (zac (zaa 1) za0))))))) zaT)) (zah (by exact (zcP (znt (zaa 4) zap) (zak (by exact (zdH (i:=5) zaX.nd rfl (by first|exact Or.inl rfl|exact Or.inr rfl) (show 5∉za9 [true,false,false] by decide) (zcz (zg2 5)) rfl (N':=zcc) (m:=1) (by kernel_rfl) rfl (zaG (by kernel_rfl)) (zby (by kernel_rfl)) (zbu (by kernel_rfl)) (fun cl L s H fp G H' w σ=>⟨(za6 (i:=6) ze2 rfl (by first|exact Or.inl rfl|exact Or.inr rfl) (show 6∉List.range 6 by decide)),zcr,(zeJ (zbf (zcj (zai (zaO (zfH T) hr (by omega) (zmC fun _ z=>z) (zbF 0 (zac (zaa 3) za0))) (zai (zaO (zeP T) hr (by omega) (zmC fun _ z=>z) (zbF 0 (zac (zaa 1) za0))) zaz)))) (zaO (zaI T) hr (by omega) (zmC fun _ z=>z) (zbF 0 (zac zap za0))))⟩)))) zaT)) (zak (by exact (zaC hnw (zg2 5)))))))))
abbrev zje:List Str:=["found","due"]
abbrev zcE:List Str:=["found","due"]
theorem zhD:zav zje zcE (zag (top 30)):=⟨rfl,rfl,rfl,by decide +kernel,rfl,by decide +kernel,by decide +kernel⟩
abbrev zcQ:List Str:=["found","due","one","other"]
theorem zfW:zcQ.Nodup:=by decide +kernel
def zcb(F_self:FD):DS:=(zaP (dIf (dTB (zpe "tuple" "list" (zab 1))) (zaP (dIf (zkJ (dTB (dOp (gEq true) (zfh "tuple" (zab 0)) (zfh "tuple" (zab 1)))) (dTB (dOp (gEq true) (zfh "list" (zab 0)) (zfh "list" (zab 1))))) (zcl (dC (.bl false))) dNx) (zaP (dIf (dTB (dOp (gEq true) (dFn zbR (dA (zab 0) dA0)) (dFn zbR (dA (zab 1) dA0)))) (zcl (dC (.bl false))) dNx) (zcl (dFn zkI (dA (dFz (za8 (zmi (zab 0) (zab 1)) (zeY 2 3) dTT (zaj F_self (dR (zab 2) (dR (zab 3) dR0))) 2)) dA0))))) dNx) (zcl (zht (dOp (gEq false) (zab 0) (zab 1)) (dOp (gEq false) (zfh "bool" (zab 0)) (zfh "bool" (zab 1))))))
def za1:Nat->FD
 |0=>fun _=>.no
 |n+1=>zaq false [false,false] 0 (zcb (za1 n))
theorem zf9(T:Tx K mg cls):∀ n,Dfn false P w K mg base (CXe P w) (xvC cls) (n+2) (Str.ofString "_law_same") [false,false] (za1 n)
 |0=>by
  obtain ⟨f,fd,U,hm⟩:=T.u__law_same
  exact znw rfl U hm (U.binds (ps:=zcE) fun _ _ _ _ _ _ us hl=>match us,hl with|[_,_],_=>rfl)
 |n+1=>by
  have DS:=zf9 T n
  obtain ⟨f,fd,U,hm⟩:=T.u__law_same
  refine ⟨f,fd,zcE,?_,hm,U.kp,U.binds (ps:=zcE) fun _ _ _ _ _ _ us hl=>match us,hl with|[_,_],_=>rfl,zau⟩
  refine zf1.mono (j:=(n+2)+1) ?_ (by omega)
  refine zaA (k:=n+2) false za2 U zhD rfl rfl fun X C hX hpp hxv hnw hr hx hpo=>?_
  obtain ⟨cG,cH,cw,cpp,cσ,cex,cxv,cnw⟩:=C
  dsimp only at hpp hxv hnw
  subst hpp hxv hnw
  have hnw:(false:Bool)=false:=rfl
  obtain ⟨cdv,A,outer,s,H,E,rfl⟩:=hX
  exact (zah (by exact (zcP (zf8 (zp4 zev zfm rfl T.b_isinstance zdb rfl T.b_tuple zeu rfl T.b_list zfE (zaa 1))) (zah (by exact (zcP (JW.jt (zmf (zjm (zjf hr) (zdD zev rfl T.b_isinstance zdb rfl T.b_tuple zeu (zaa 0)) (zdD zev rfl T.b_isinstance zdb rfl T.b_tuple zeu (zaa 1))) (zjP (zjm (zjf hr) (zdD zfm rfl T.b_isinstance zdb rfl T.b_list zfE (zaa 0)) (zdD zfm rfl T.b_isinstance zdb rfl T.b_list zfE (zaa 1)))))) (zak (by exact (zaC hnw zja))) zaT)) (zah (by exact (zcP (zjm (zjf hr) (zfb T.b_len (zaa 0)) (zfb T.b_len (zaa 1))) (zak (by exact (zaC hnw zja))) zaT)) (zak (by exact (zaC hnw (zmP rfl T.b_all (zbf (zcC (zoQ rfl T.b_zip (zaa 0) (zaa 1)) rfl (N':=zcQ) (m:=2) (by kernel_rfl) rfl (zaG (by kernel_rfl)) (zby (by kernel_rfl)) (zbu (by kernel_rfl)) (fun cl L s H fp G H' w σ=>⟨(zmp (i:=2) (j:=3) rfl zfW rfl rfl (by first|exact Or.inl rfl|exact Or.inr rfl) (by first|exact Or.inl rfl|exact Or.inr rfl) (show 2∉List.range 2 by decide) (show 3∉List.range 2 by decide)),zcr,(zaO DS hr (Nat.le_refl _) (zmC fun _ z=>z) (zac (zaa 2) (zac (zaa 3) za0)))⟩))))))))) zaT)) (zak (by exact (zaC hnw (zeQ (zqZ (zjf hr) (zaa 0) (zaa 1)) (zg1 (zqZ (zjf hr) (zdD zhm rfl T.b_isinstance zdb rfl T.b_bool zjo (zaa 0)) (zdD zhm rfl T.b_isinstance zdb rfl T.b_bool zjo (zaa 1)))))))))
abbrev ziQ:List Str:=["n","parties","end","third","far","turn","party","guest","near"]
abbrev zdZ:List Str:=["n","parties","end","third"]
theorem zbq:zav ziQ zdZ (zag (top 31)):=⟨rfl,rfl,rfl,by decide +kernel,rfl,by decide +kernel,by decide +kernel⟩
abbrev zcR:List Str:=["n","parties","end","third","far","turn","party","guest","near","other"]
theorem zfS:zcR.Nodup:=by decide +kernel
def zdU:DS:=(zaP (zkv 4 (zab 2) (dC (.int 0))) (zaP (zcD (zbm (zab 0)) (za3 5) (zcD (dIt (zab 1)) (za3 6) (dIf (dTB (dOp (gIn true) (zab 3) (zab 6))) (zcD (dIt (zab 6)) (za3 7) (zaP (zbT 8 (dFz (za8 (dIt (zab 6)) (za3 9) (zd7 (zlG true 4 (zab 9)) (dTB (dOp (gEq true) (zab 9) (zab 7)))) (dOp zaB (zgf 4 (zab 9)) (dC (.int 1))) 1))) (dIf (zd7 (dTB (dOp (gEq true) (zab 8) (dFz (zd5 dA0)))) (dTB (dOp gLt (dFn zfP (dA (zab 8) dA0)) (zgm 4 (zab 7) (dOp zaB (zab 0) (dC (.int 1))))))) (zhj 4 (zab 7) (dFn zfP (dA (zab 8) dA0))) dNx))) dNx))) (zcl (zqw 4))))
def zcL:FD:=zaq false [false,false,false,false] 5 zdU
theorem zix(T:Tx K mg cls):Dfn false P w K mg base (CXe P w) (xvC cls) 3 (Str.ofString "_law_fars") [false,false,false,false] zcL:=by
  obtain ⟨f,fd,U,hm⟩:=T.u__law_fars
  refine ⟨f,fd,zdZ,?_,hm,U.kp,U.binds (ps:=zdZ) fun _ _ _ _ _ _ us hl=>match us,hl with|[_,_,_,_],_=>rfl,zau⟩
  refine zaA (k:=2) false za2 U zbq rfl rfl fun X C hX hpp hxv hnw hr hx hpo=>?_
  obtain ⟨cG,cH,cw,cpp,cσ,cex,cxv,cnw⟩:=C
  dsimp only at hpp hxv hnw
  subst hpp hxv hnw
  have hnw:(false:Bool)=false:=rfl
  obtain ⟨cdv,A,outer,s,H,E,rfl⟩:=hX
  exact (zah (by exact (zlX (i:=4) zbq.nd rfl (by first|exact Or.inl rfl|exact Or.inr rfl) (show 4∉za9 [false,false,false,false] by decide) (zaa 2) zap)) (zah (by exact (zcy hpo rfl (zbj rfl T.b_range (zaa 0)) (za6 (i:=5) zbq.nd rfl (by first|exact Or.inl rfl|exact Or.inr rfl) (show 5∉za9 [false,false,false,false] by decide)) (zak (by exact (zcy hpo rfl (zcz (zaa 1)) (za6 (i:=6) zbq.nd rfl (by first|exact Or.inl rfl|exact Or.inr rfl) (show 6∉za9 [false,false,false,false] by decide)) (zak (by exact (zcP (zhb (zoy hr) (zaa 3) (zaa 6)) (zak (by exact (zcy hpo rfl (zcz (zaa 6)) (za6 (i:=7) zbq.nd rfl (by first|exact Or.inl rfl|exact Or.inr rfl) (show 7∉za9 [false,false,false,false] by decide)) (zah (by exact (zgA (i:=8) zbq.nd rfl (by first|exact Or.inl rfl|exact Or.inr rfl) (show 8∉za9 [false,false,false,false] by decide) (zcz (zaa 6)) rfl (N':=zcR) (m:=1) (by kernel_rfl) rfl (zaG (by kernel_rfl)) (zby (by kernel_rfl)) (zbu (by kernel_rfl)) (fun cl L s H fp G H' w σ=>⟨(za6 (i:=9) zfS rfl (by first|exact Or.inl rfl|exact Or.inr rfl) (show 9∉List.range 9 by decide)),(zhi (JW.jt (zhU (zrt 4 hr (zaa 9)) (zft (zjm (zjf hr) (zaa 9) (zaa 7)))))),(zbv (zl3 4 hr (zaa 9)) zap)⟩))) (zak (by exact (zcP (JW.jt (zhU (zjm (zjf hr) (zaa 8) (zbf (zcj zaz))) (zft (zob (zoJ rfl T.b_min (zaa 8)) (znh 4 hr (zaa 7) (zbv (zaa 0) zap)))))) (zak (by exact (zkW 4 hr (zaa 7) (zoJ rfl T.b_min (zaa 8))))) zaT))))))) zaT)))))))) (zak (by exact (zaC hnw (zqm 4))))))
abbrev zk9:List Str:=["n","parties","one","other","third","far","way","some","number","party"]
abbrev ze0:List Str:=["n","parties","one","other","third"]
theorem zaZ:zav zk9 ze0 (zag (top 32)):=⟨rfl,rfl,rfl,by decide +kernel,rfl,by decide +kernel,by decide +kernel⟩
abbrev zds:List Str:=["n","parties","one","other","third","far","way","some","number","party","guest"]
theorem zhn:zds.Nodup:=by decide +kernel
def zc1:DS:=(zaP (zbT 5 (zaj zcL (dR (zab 0) (dR (zab 1) (dR (zab 3) (dR (zab 4) dR0)))))) (zaP (dIf (zsy false (zab 2) (zab 5)) (zcl (dC .non)) dNx) (zaP (zbT 6 (zdC (dA (zab 2) dA0))) (zaP (zbg (dTB (dOp (gEq true) (dOp gIx (zab 6) (zkH (dC (.int 1)))) (zab 3))) (zaP (zbT 7 (dFz (zd5 dA0))) (zaP (zcD (zbm (dFn zbR (dA (zab 1) dA0))) (za3 8) (zaP (zbT 9 (dOp gIx (zab 1) (zab 8))) (dIf (zd7 (dTB (dOp (gIn false) (dOp gIx (zab 6) (zkH (dC (.int 1)))) (zab 9))) (dTB (dOp (gIn true) (zab 4) (zab 9)))) (zbT 7 (dFz (zrH (zab 7) (dFz (za8 (dIt (zab 9)) (za3 10) (dTB (dOp (gEq false) (zfc (zab 5) (zab 10)) (dOp zgd (zfc (zab 5) (dOp gIx (zab 6) (zkH (dC (.int 1))))) (dC (.int 1))))) (zdC (dA (zab 8) (dA (zab 10) dA0))) 1))))) dNx))) (zbT 6 (dOp ze8 (zab 6) (dFn zgb (dA (zab 7) dA0)))))) 10) (zcl (zab 6))))))
def zbe:FD:=zaq false [false,false,false,false,false] 5 zc1
theorem zeC(T:Tx K mg cls):Dfn false P w K mg base (CXe P w) (xvC cls) 6 (Str.ofString "_law_way") [false,false,false,false,false] zbe:=by
  obtain ⟨f,fd,U,hm⟩:=T.u__law_way
  refine ⟨f,fd,ze0,?_,hm,U.kp,U.binds (ps:=ze0) fun _ _ _ _ _ _ us hl=>match us,hl with|[_,_,_,_,_],_=>rfl,zau⟩
  refine zaA (k:=5) false za2 U zaZ rfl rfl fun X C hX hpp hxv hnw hr hx hpo=>?_
  obtain ⟨cG,cH,cw,cpp,cσ,cex,cxv,cnw⟩:=C
  dsimp only at hpp hxv hnw
  subst hpp hxv hnw
  have hnw:(false:Bool)=false:=rfl
  obtain ⟨cdv,A,outer,s,H,E,rfl⟩:=hX
  exact (zah (by exact (zb0 (i:=5) zaZ.nd rfl (by first|exact Or.inl rfl|exact Or.inr rfl) (show 5∉za9 [false,false,false,false,false] by decide) (zaO (zix T) hr (by omega) hx (zac (zaa 0) (zac (zaa 1) (zac (zaa 3) (zac (zaa 4) za0))))))) (zah (by exact (zcP (zl0 hr (zaa 2) (zaa 5)) (zak (by exact (zaC hnw zhB))) zaT)) (zah (by exact (zb0 (i:=6) zaZ.nd rfl (by first|exact Or.inl rfl|exact Or.inr rfl) (show 6∉za9 [false,false,false,false,false] by decide) (zc6 (zai (zaa 2) zaz)))) (zah (by exact (zgS 10 hpo (zjm (zjf hr) (zeJ (zaa 6) (zlx zap)) (zaa 3)) (zah (by exact (zb0 (i:=7) zaZ.nd rfl (by first|exact Or.inl rfl|exact Or.inr rfl) (show 7∉za9 [false,false,false,false,false] by decide) (zbf (zcj zaz)))) (zah (by exact (zcy hpo rfl (zbj rfl T.b_range (zfb T.b_len (zaa 1))) (za6 (i:=8) zaZ.nd rfl (by first|exact Or.inl rfl|exact Or.inr rfl) (show 8∉za9 [false,false,false,false,false] by decide)) (zah (by exact (zb0 (i:=9) zaZ.nd rfl (by first|exact Or.inl rfl|exact Or.inr rfl) (show 9∉za9 [false,false,false,false,false] by decide) (zeJ (zaa 1) (zaa 8)))) (zak (by exact (zcP (JW.jt (zhU (zsn (zoy hr) (zeJ (zaa 6) (zlx zap)) (zaa 9)) (zft (zhb (zoy hr) (zaa 4) (zaa 9))))) (zak (by exact (zb0 (i:=7) zaZ.nd rfl (by first|exact Or.inl rfl|exact Or.inr rfl) (show 7∉za9 [false,false,false,false,false] by decide) (zbf (by refine zr4 (zaa 7) ?_;exact (zbf (zcC (zcz (zaa 9)) rfl (N':=zds) (m:=1) (by kernel_rfl) rfl (zaG (by kernel_rfl)) (zby (by kernel_rfl)) (zbu (by kernel_rfl)) (fun cl L s H fp G H' w σ=>⟨(za6 (i:=10) zhn rfl (by first|exact Or.inl rfl|exact Or.inr rfl) (show 10∉List.range 10 by decide)),(zhi (znC (zjf hr) (zmt hr (zaa 5) (zaa 10)) (zjy (zmt hr (zaa 5) (zeJ (zaa 6) (zlx zap))) zap))),(zc6 (zai (zaa 8) (zai (zaa 10) zaz)))⟩)))))))) zaT)))))) (zak (by exact (zb0 (i:=6) zaZ.nd rfl (by first|exact Or.inl rfl|exact Or.inr rfl) (show 6∉za9 [false,false,false,false,false] by decide) (zms (zaa 6) (zkK hr rfl T.b_min (zaa 7)))))))))) (zak (by exact (zaC hnw (zaa 6))))))))
abbrev zks:List Str:=["n","parties","found","a","b","c","ways"]
abbrev zeI:List Str:=["n","parties"]
theorem zb6:zav zks zeI (zag (top 33)):=⟨rfl,rfl,rfl,by decide +kernel,rfl,by decide +kernel,by decide +kernel⟩
abbrev zcZ:List Str:=["n","parties","found","a","b","c","ways","way"]
theorem zho:zcZ.Nodup:=by decide +kernel
def zeH:DS:=(zaP (zcG 2 (zd5 dA0)) (zaP (zcD (zbm (zab 0)) (za3 3) (zcD (zdJ (dOp zaB (zab 3) (dC (.int 1))) (zab 0)) (za3 4) (zcD (zdJ (dOp zaB (zab 4) (dC (.int 1))) (zab 0)) (za3 5) (zaP (zbT 6 (dFz (zd5 (dA (zaj zbe (dR (zab 0) (dR (zab 1) (dR (zab 3) (dR (zab 4) (dR (zab 5) dR0)))))) (dA (zaj zbe (dR (zab 0) (dR (zab 1) (dR (zab 3) (dR (zab 5) (dR (zab 4) dR0)))))) (dA (zaj zbe (dR (zab 0) (dR (zab 1) (dR (zab 4) (dR (zab 5) (dR (zab 3) dR0)))))) dA0)))))) (dIf (dTB (dOp (gIn true) (dC .non) (zab 6))) (dEx (zfg 2 (zdC (dA (dFn zfY (dA (dFz (za8 (dIt (zab 6)) (za3 7) dTT (dFn zbR (dA (zab 7) dA0)) 1)) dA0)) (dA (zdC (dA (zab 3) (dA (zab 4) (dA (zab 5) (dA (dFn zck (dA (zab 6) dA0)) dA0))))) dA0))))) dNx))))) (zcl (zpt (dTB (zmB true 2 (dFz (zd5 dA0)))) (dOp gIx (dFn zgb (dA (zis 2) dA0)) (dC (.int 1))) (dC .non)))))
def zbr:FD:=zaq false [false,false] 5 zeH
theorem zkg(T:Tx K mg cls):Dfn false P w K mg base (CXe P w) (xvC cls) 9 (Str.ofString "_law_due") [false,false] zbr:=by
  obtain ⟨f,fd,U,hm⟩:=T.u__law_due
  refine ⟨f,fd,zeI,?_,hm,U.kp,U.binds (ps:=zeI) fun _ _ _ _ _ _ us hl=>match us,hl with|[_,_],_=>rfl,zau⟩
  refine zaA (k:=8) false za2 U zb6 rfl rfl fun X C hX hpp hxv hnw hr hx hpo=>?_
  obtain ⟨cG,cH,cw,cpp,cσ,cex,cxv,cnw⟩:=C
  dsimp only at hpp hxv hnw
  subst hpp hxv hnw
  have hnw:(false:Bool)=false:=rfl
  obtain ⟨cdv,A,outer,s,H,E,rfl⟩:=hX
  exact (zah (by exact (zeA (i:=2) zb6.nd rfl (by first|exact Or.inl rfl|exact Or.inr rfl) (show 2∉za9 [false,false] by decide) (zcj zaz))) (zah (by exact (zcy hpo rfl (zbj rfl T.b_range (zaa 0)) (za6 (i:=3) zb6.nd rfl (by first|exact Or.inl rfl|exact Or.inr rfl) (show 3∉za9 [false,false] by decide)) (zak (by exact (zcy hpo rfl (zhu rfl T.b_range (zbv (zaa 3) zap) (zaa 0)) (za6 (i:=4) zb6.nd rfl (by first|exact Or.inl rfl|exact Or.inr rfl) (show 4∉za9 [false,false] by decide)) (zak (by exact (zcy hpo rfl (zhu rfl T.b_range (zbv (zaa 4) zap) (zaa 0)) (za6 (i:=5) zb6.nd rfl (by first|exact Or.inl rfl|exact Or.inr rfl) (show 5∉za9 [false,false] by decide)) (zah (by exact (zb0 (i:=6) zb6.nd rfl (by first|exact Or.inl rfl|exact Or.inr rfl) (show 6∉za9 [false,false] by decide) (zbf (zcj (zai (zaO (zeC T) hr (by omega) hx (zac (zaa 0) (zac (zaa 1) (zac (zaa 3) (zac (zaa 4) (zac (zaa 5) za0)))))) (zai (zaO (zeC T) hr (by omega) hx (zac (zaa 0) (zac (zaa 1) (zac (zaa 3) (zac (zaa 5) (zac (zaa 4) za0)))))) (zai (zaO (zeC T) hr (by omega) hx (zac (zaa 0) (zac (zaa 1) (zac (zaa 4) (zac (zaa 5) (zac (zaa 3) za0)))))) zaz))))))) (zak (by exact (zcP (zhb (zoy hr) zhB (zaa 6)) (zak (by exact (zdc (zji 2 (zc6 (zai (zoA rfl T.b_sum (zbf (zcC (zcz (zaa 6)) rfl (N':=zcZ) (m:=1) (by kernel_rfl) rfl (zaG (by kernel_rfl)) (zby (by kernel_rfl)) (zbu (by kernel_rfl)) (fun cl L s H fp G H' w σ=>⟨(za6 (i:=7) zho rfl (by first|exact Or.inl rfl|exact Or.inr rfl) (show 7∉List.range 7 by decide)),zcr,(zfb T.b_len (zaa 7))⟩)))) (zai (zc6 (zai (zaa 3) (zai (zaa 4) (zai (zaa 5) (zai (zhp T.b_tuple (zaa 6)) zaz))))) zaz))))))) zaT)))))))))))) (zak (by exact (zaC hnw (zo4 (zon 2 (zjf hr) (zbf (zcj zaz))) (zeJ (zkK hr rfl T.b_min (zg2 2)) zap) zhB))))))
abbrev ztk:List Str:=["script","k","state","n","parties","kept","<tab>"]
abbrev zrs:List Str:=["script"]
theorem zgB:zav ztk zrs (zag (top 34)):=⟨rfl,rfl,rfl,by decide +kernel,rfl,by decide +kernel,by decide +kernel⟩
def zjd:DS:=(zaP (zcD (zbm (dFn zgT (dA (dC (.int 1)) (dA (dFn zgG (dA (dFn zbR (dA (zab 0) dA0)) (dA (dC (.int 5)) dA0))) dA0)))) (za3 1) (zaP (zcG 2 (zeT zbE (dR (zab 0) (dR (zab 1) dR0)))) (zaP (zbT 3 (dOp zaB (dC (.int 1)) (zaj zae (dRO 2 (dR (dC (.int 7)) dR0))))) (zcD (dIt (dFz (zd5 (dA (zaj zaD (dRO 2 (dR (zab 3) (dR (dC (.int 8)) dR0)))) (dA (zaj zaD (dRO 2 (dR (zab 3) (dR (dC (.int 6)) dR0)))) dA0))))) (za3 4) (zaP (zbT 5 (dFz (ziT zfX (dA (zab 4) dA0)))) (dIf (zkJ (zeF (dTB (zaj (za1 6) (dR (zaj zbb (dRT 6 (dR (zab 3) (dR (zab 5) dR0)))) (dR (zaj zbr (dR (zab 3) (dR (zab 4) dR0))) dR0))))) (dTB (dOp (gEq true) (zab 5) (zab 4)))) (zcl (dC (.bl false))) dNx)))))) (zcl (dC (.bl true))))
theorem zsB(T:Tx K mg cls){f PT:Addr}{fd:FuncData}(U:Fun K "law" "law" (top 34) f fd)(DT:zs7 P w K mg base (CXe P w) (xvC cls) 21 (Str.ofString "least_bar") ([false,false]++[true]) PT zbb):zf1 P w K mg base (CXe P w) 24 f fd zrs (spT K PT (zq5 5 zeN zjd)):=by
  refine zqn (k:=23) (m:=5) (xt:="<tab>") (xv:=xvC cls) U zgB rfl rfl (by unfold Vis;decide +kernel) fun X C hX hpp hσ0 hxv hnw hr hx hpo=>?_
  obtain ⟨cdv,A,outer,s,H,E,rfl⟩:=hX
  obtain ⟨cG,cH,cw,cpp,cσ,cex,cxv,cnw⟩:=C
  dsimp only at hpp hσ0 hxv hnw
  subst hpp hxv hnw
  have hnw:(false:Bool)=false:=rfl
  exact (zah (by exact (zcy hpo rfl (zbj rfl T.b_range (zsm rfl T.b_max zap (zso rfl T.b_min (zfb T.b_len (zaa 0)) zap))) (za6 (i:=1) zgB.nd rfl (by first|exact Or.inl rfl|exact Or.inr rfl) (show 1∉([6]:List Nat) by decide)) (zah (by exact (zeA (i:=2) zgB.nd rfl (by first|exact Or.inl rfl|exact Or.inr rfl) (show 2∉([6]:List Nat) by decide) (zsY (zio T) hr (by omega) hx (zac (zaa 0) (zac (zaa 1) za0))))) (zah (by exact (zb0 (i:=3) zgB.nd rfl (by first|exact Or.inl rfl|exact Or.inr rfl) (show 3∉([6]:List Nat) by decide) (zbv zap (zaO (zaI T) hr (by omega) hx (zbF 2 (zac zap za0)))))) (zak (by exact (zcy hpo rfl (zcz (zbf (zcj (zai (zaO (zdB T) hr (by omega) hx (zbF 2 (zac (zaa 3) (zac zap za0)))) (zai (zaO (zdB T) hr (by omega) hx (zbF 2 (zac (zaa 3) (zac zap za0)))) zaz))))) (za6 (i:=4) zgB.nd rfl (by first|exact Or.inl rfl|exact Or.inr rfl) (show 4∉([6]:List Nat) by decide)) (zah (by exact (zb0 (i:=5) zgB.nd rfl (by first|exact Or.inl rfl|exact Or.inr rfl) (show 5∉([6]:List Nat) by decide) (zbf (zo9 T.b_list (zaa 4))))) (zak (by exact (zcP (JW.jt (zmf (zjI (zf8 (zaO (zf9 T 6) hr (by omega) hx (zac (zrO DT hr (by omega) hx (show 6∈([6]:List Nat) by decide) hσ0 (zac (zaa 3) (zac (zaa 5) za0))) (zac (zaO (zkg T) hr (by omega) hx (zac (zaa 3) (zac (zaa 4) za0))) za0))))) (zjP (zjm (zjf hr) (zaa 5) (zaa 4))))) (zak (by exact (zaC hnw zja))) zaT))))))))))) (zak (by exact (zaC hnw zja))))
end
theorem zi4{x y:Dt}{bs:List B}:∀{ρ:Ev}{k:Nat},zen [.d x,.d y] bs k ρ = ρ
 |[],_=>rfl
 |o::r,k=>by
  show (match zbQ [.d x,.d y] k with|some j=>bs[j]?|none=>o)::zen [.d x,.d y] bs (k+1) r=_
  rw[zi4 (ρ:=r)];rfl
theorem zmq{F:FD}{fa:De}{ρ ρ':Ev}{d y:Dt}{l:List B}(h:fa ρ=.ok (d,ρ'))(hF:F [.val d]=.ok (y,l)):zaj F (dR fa dR0) ρ=.ok (y,ρ'):=by
 unfold zaj dR dR0
 rw[h]
 simp only[R.bind_ok,uniq,zaE,if_true,zas,hF]
 rw[zoe]
theorem zk5{F:FD}{fa fb:De}{ρ ρ' ρ'':Ev}{d e y:Dt}{l:List B}(h:fa ρ=.ok (d,ρ'))(h2:fb ρ'=.ok (e,ρ''))(hF:F [.val d,.val e]=.ok (y,l)):zaj F (dR fa (dR fb dR0)) ρ=.ok (y,ρ''):=by
 unfold zaj dR dR0
 rw[h]
 simp only[R.bind_ok,h2,uniq,zaE,if_true,zas,hF]
 rw[zi4]
theorem ziO{i k:Nat}{d:Dt}:zbQ [.s i,.d d] k=if i=k then some 0 else none:=by
 unfold zbQ zbx
 split <;> rfl
theorem zor{i:Nat}{d:Dt}{b:B}{bs:List B}:∀{ρ:Ev}{k:Nat},k<=i->zen [.s i,.d d] (b::bs) k ρ = ρ.set (i-k) (some b)
 |[],k,_=>by simp[zen]
 |o::r,k,h=>by
  unfold zen
  rw[ziO]
  by_cases e:i=k
  ·subst e
   simp only[if_true,Nat.sub_self,List.set_cons_zero]
   have:∀(r:Ev)(m:Nat),i<m->zen [.s i,.d d] (b::bs) m r=r:=by
    intro r
    induction r with
    |nil=>intro m _;rfl
    |cons o r ih =>
     intro m hm
     unfold zen
     rw[ziO,if_neg (by omega),ih (m+1) (by omega)]
   rw[this r (i+1) (by omega)];rfl
  ·rw[if_neg e,zor (k:=k+1) (by omega)]
   have:i-k=(i-(k+1))+1:=by omega
   rw[this,List.set_cons_succ]
theorem zkt{F:FD}{fb:De}{i:Nat}{ρ:Ev}{d y:Dt}{st st':List Dt}{l:List B}(hi:ρ[i]? = some (some (.own st)))(h:fb ρ=.ok (d,ρ))(hF:F [.own st,.val d]=.ok (y,.own st'::l)):zaj F (dRO i (dR fb dR0)) ρ=.ok (y,ρ.set i (some (.own st'))):=by
 have u:uniq [.s i,.d d]=true:=by
  unfold uniq zaE
  rw[ziO]
  simp[zaE]
 unfold zaj dRO dR dR0
 simp only[hi,h,R.bind_ok,u,if_true,zas,zj9,hF]
 rw[zor (Nat.zero_le _)]
 rfl
theorem zat{nw:Bool}{ks:List Bool}{m:Nat}{body:DS}{bs:List B}{d:Dt}{ρ':Ev}{l:List B}(hk:zbp bs=ks)(hb:body (bs.map some++List.replicate m none)=.ok (.rt d,ρ'))(hl:zao ks ρ'=.ok l):zaq nw ks m body bs=.ok (d,l):=by
 unfold zaq
 rw[if_pos hk,hb]
 simp only[R.bind_ok,hl]
theorem zlo{ks:List Bool}{m:Nat}{body:DS}{bs:List B}{ρ':Ev}{l:List B}(hk:zbp bs=ks)(hb:body (bs.map some++List.replicate m none)=.ok (.nx,ρ'))(hl:zao ks ρ'=.ok l):zaq false ks m body bs=.ok (.non,l):=by
 unfold zaq
 rw[if_pos hk,hb]
 simp only[R.bind_ok,hl]
 rfl
def St(st:List Dt):Prop:=∃ s b,st=[.int s,.bl b]
theorem zbn{st:List Dt}{m:Int}(h:St st)(h0:0<m)(h1:m<1073741824):∃(v:Int)(st':List Dt),zae [.own st,.val (.int m)]=.ok (.int v,[.own st',.val .non])/\St st'/\0<=v/\v<m:=by
 obtain ⟨s,b,rfl⟩:=h
 cases b with
 |true =>
  refine ⟨s % m,[.int (s / m),.bl true],?_,⟨_,_,rfl⟩,Int.emod_nonneg _ (by omega),Int.emod_lt_of_pos _ h0⟩
  unfold zae zaq zed
  simp[zbp,zj9,zaP,dIf,dTB,zlh,dC,atI,ixN,zbT,dOp,zkD,zab,zkZ,zmW,zcl,zao,h0,h1]
 |false =>
  have e1:∃ a,(s * 48271+29) % 2147483647=a/\0<=a/\a<2147483647:=⟨_,rfl,Int.emod_nonneg _ (by decide),Int.emod_lt_of_pos _ (by decide)⟩
  obtain ⟨a,ea,a0,a1⟩:=e1
  have e2:∃ c,(a * a+39373 * a+7) % 2147483629=c/\0<=c/\c<2147483629:=⟨_,rfl,Int.emod_nonneg _ (by decide),Int.emod_lt_of_pos _ (by decide)⟩
  obtain ⟨c,ec,c0,c1⟩:=e2
  have sa:zbY a=true:=by unfold zbY;simp;omega
  have sc:zbY c=true:=by unfold zbY;simp;omega
  have s1:zbY 48271=true:=by decide
  have s2:zbY 39373=true:=by decide
  have s3:zbY 16807=true:=by decide
  refine ⟨(c * c+16807 * c) % 2147483587 / 8 % m,[.int a,.bl false],?_,⟨_,_,rfl⟩,Int.emod_nonneg _ (by omega),Int.emod_lt_of_pos _ h0⟩
  unfold zae zaq zed
  simp[zbp,zj9,zaP,dIf,dTB,zlh,dC,atI,ixN,zbT,dOp,zkD,zmc,zaB,zab,zkZ,zmW,zcl,dNx,zao,h0,h1,ea,ec,sa,sc,s1,s2,s3]
theorem zhg:∀(n:Nat)(d:Dt),okN n d=true->okN (n+1) d=true
 |_,.non,_=>by simp[okN]
 |_,.bl _,_=>by simp[okN]
 |_,.int _,_=>by simp[okN]
 |n,.str x,h=>by cases n <;> simpa [okN] using h
 |0,.tup l,h=>by simp[okN] at h
 |0,.lst l,h=>by simp[okN] at h
 |n+1,.tup l,h=>by
  simp only[okN,List.all_eq_true] at h ⊢
  exact fun d hd=>zhg n d (h d hd)
 |n+1,.lst l,h=>by
  simp only[okN,List.all_eq_true] at h ⊢
  exact fun d hd=>zhg n d (h d hd)
 |n,.dct _,h=>by cases n <;> simp[okN] at h
 |n,.scr _,h=>by cases n <;> simp[okN] at h
theorem zgp{n m:Nat}{d:Dt}(h:okN n d=true)(hl:n<=m):okN m d=true:=by
 induction hl with
 |refl=>exact h
 |step _ ih=>exact zhg _ _ ih
theorem zjn{n:Nat}{v:Int}(h0:0<=v)(h1:v<n):ixN n v=some v.toNat:=by
 unfold ixN
 rw[if_pos h0,if_pos h1]
theorem zgt{α:Type}:∀{l:List α}{j:Nat}{d:α},l[j]? = some d->(d::l.eraseIdx j).Perm l
 |[],_,_,h=>by simp at h
 |a::l,0,d,h=>by simp at h;subst h;exact .refl _
 |a::l,j+1,d,h=>by
  have:=zgt (l:=l) (j:=j) (d:=d) (by simpa using h)
  exact (List.Perm.swap a d _).trans (this.cons a)
theorem zcT{neg:Bool}{x y:Dt}(h1:okN 60 x=true)(h2:okN 60 y=true):gEq neg x y=.ok (.bl (if neg then !eqD x y else eqD x y)):=by
 unfold gEq
 rw[h1,h2];rfl
theorem zde{d:Dt}{l:List Dt}:eqD (.lst (d::l)) (.lst [])=false:=by rw[eqD];simp[zdP]
theorem zdX:eqD (.lst []) (.lst [])=true:=by rw[eqD,zdP]
theorem zss{st found l:List Dt}{o:Option B}{b:Bool}(h:okN 60 (.lst l)=true)(e:(!eqD (.lst l) (.lst []))=b):dTB (zmB true 2 (dFz (zd5 dA0))) [some (.own st),o,some (.own l),some (.own found)]=.ok (b,[some (.own st),o,some (.own l),some (.own found)]):=by
 show (((gEq true (.lst l) (.lst [])).bind fun z=>.ok (z,[some (.own st),o,some (.own l),some (.own found)])).bind fun (a:Dt×Ev)=>match a.1 with|.bl b=>.ok (b,a.2)|_=>.no)=_
 rw[zcT h rfl]
 simp only[if_true,e]
 rfl
theorem zgu{things:Option B}:∀(n:Nat)(left found:List Dt)(st:List Dt),left.length<n->left.length+found.length<=1000->(∀ d∈left,okN 59 d=true)->St st->∃ st' p,St st'/\p.Perm left /\
  zbg (dTB (zmB true 2 (dFz (zd5 dA0)))) (dEx (zfg 3 (zej 2 (zaj zae (dRO 0 (dR (zcW 2) dR0)))))) n [some (.own st),things,some (.own left),some (.own found)]=.ok (.nx,[some (.own st'),things,some (.own []),some (.own (found++p))])
 |0,left,found,st,h,_,_,_=>absurd h (Nat.not_lt_zero _)
 |n+1,[],found,st,h,hl,hk,hs=>by
  refine ⟨st,[],hs,.refl _,?_⟩
  unfold zbg
  rw[zss (b:=false) rfl (by rw[zdX];rfl)]
  simp
 |n+1,d::left,found,st,h,hl,hk,hs=>by
  obtain ⟨v,st1,e,hs1,v0,v1⟩:=zbn (m:=((d::left).length:Nat)) hs (by simp only[List.length_cons];omega) (by simp only[List.length_cons] at hl ⊢;omega)
  have hv:v.toNat<(d::left).length:=by omega
  have hget:(d::left)[v.toNat]? = some (d::left)[v.toNat]:=by simp[hv]
  have hel:=zgt hget
  have hlen:((d::left).eraseIdx v.toNat).length=left.length:=by
   have:=hel.length_eq
   simp only[List.length_cons] at this
   omega
  obtain ⟨st',p,hs',hp,hw⟩:=zgu (things:=things) n ((d::left).eraseIdx v.toNat) (found++[(d::left)[v.toNat]]) st1 (by simp only[List.length_cons] at h;omega) (by simp only[List.length_append,List.length_cons,List.length_nil] at hl ⊢;omega)
   (fun x hx=>hk x (hel.mem_iff.mp (List.mem_cons_of_mem _ hx))) hs1
  refine ⟨st',(d::left)[v.toNat]::p,hs',((hp.cons _).trans hel),?_⟩
  have hall:((d::left).all (okN 59))=true:=List.all_eq_true.mpr hk
  have ec:zaj zae (dRO 0 (dR (zcW 2) dR0)) [some (.own st),things,some (.own (d::left)),some (.own found)]=.ok (.int v,[some (.own st1),things,some (.own (d::left)),some (.own found)]):=zkt (ρ:=[some (.own st),things,some (.own (d::left)),some (.own found)]) rfl rfl e
  have hm:zcv v=true:=by unfold zcv;simp;simp only[List.length_cons] at hl v1;omega
  unfold zbg
  have t1:=zss (st:=st) (found:=found) (l:=d::left) (o:=things) (b:=true) (show okN 60 (.lst (d::left))=true from hall) (by rw[zde];rfl)
  rw[t1]
  simp only[R.bind_ok,if_true]
  have t2:dEx (zfg 3 (zej 2 (zaj zae (dRO 0 (dR (zcW 2) dR0))))) [some (.own st),things,some (.own (d::left)),some (.own found)]=.ok (.nx,[some (.own st1),things,some (.own ((d::left).eraseIdx v.toNat)),some (.own (found++[(d::left)[v.toNat]]))]):=by
   have hpop:ziY (d::left) v=some ((d::left)[v.toNat],(d::left).eraseIdx v.toNat):=by
    unfold ziY
    rw[if_pos hm,zjn v0 v1]
    simp only[hget]
   unfold dEx zfg zej
   simp only[List.getElem?_cons_succ,List.getElem?_cons_zero,ec,R.bind_ok,hpop,List.set_cons_succ,List.set_cons_zero]
   rw[if_pos (by omega)]
   rfl
  rw[t2]
  simp only[R.bind_ok]
  rw[hw]
  simp
theorem zkB{l:List Dt}{st:List Dt}(hs:St st)(hl:l.length<10)(hk:∀ d∈l,okN 59 d=true):∃ st' p,St st'/\p.Perm l/\zaV [.own st,.val (.lst l)]=.ok (.lst p,[.own st',.val .non]):=by
 obtain ⟨st',p,hs',hp,hw⟩:=zgu (things:=some (.val (.lst l))) 10 l [] st hl (by simp;omega) hk hs
 refine ⟨st',p,hs',hp,?_⟩
 have hd:zbM [some (.own st),some (.val (.lst l)),none,none]=.ok (.rt (.lst p),[some (.own st'),some (.val (.lst l)),some (.own []),some (.val (.lst p))]):=by
  unfold zbM
  have e1:zcG 2 (ziT zfX (dA (zab 1) dA0)) [some (.own st),some (.val (.lst l)),none,none]=.ok (.nx,[some (.own st),some (.val (.lst l)),some (.own l),none]):=rfl
  have e2:zcG 3 (zd5 dA0) [some (.own st),some (.val (.lst l)),some (.own l),none]=.ok (.nx,[some (.own st),some (.val (.lst l)),some (.own l),some (.own [])]):=rfl
  unfold zaP
  rw[e1]
  simp only[R.bind_ok]
  rw[e2]
  simp only[R.bind_ok]
  rw[hw]
  rfl
 exact zat rfl hd rfl
theorem zar{g:Dt->Dt->R Dt}{fa fb:De}{ρ ρ1 ρ2:Ev}{d e z:Dt}(h1:fa ρ=.ok (d,ρ1))(h2:fb ρ1=.ok (e,ρ2))(h3:g d e=.ok z):dOp g fa fb ρ=.ok (z,ρ2):=by
 unfold dOp
 rw[h1]
 simp only[R.bind_ok,h2,h3]
theorem zaH{f:De}{ρ ρ1:Ev}{b:Bool}(h:f ρ=.ok (.bl b,ρ1)):dTB f ρ=.ok (b,ρ1):=by
 unfold dTB
 rw[h];rfl
theorem zel{c:DT}{f g:DS}{ρ ρ1:Ev}(h:c ρ=.ok (true,ρ1)):dIf c f g ρ=f ρ1:=by
 unfold dIf
 rw[h];rfl
theorem zct{c:DT}{f g:DS}{ρ ρ1:Ev}(h:c ρ=.ok (false,ρ1)):dIf c f g ρ=g ρ1:=by
 unfold dIf
 rw[h];rfl
theorem zan{f g:DS}{ρ ρ1:Ev}(h:f ρ=.ok (.nx,ρ1)):zaP f g ρ=g ρ1:=by
 unfold zaP
 rw[h];rfl
theorem zdM{f g:DS}{ρ ρ1:Ev}{d:Dt}(h:f ρ=.ok (.rt d,ρ1)):zaP f g ρ=.ok (.rt d,ρ1):=by
 unfold zaP
 rw[h];rfl
theorem zaW{f:De}{ρ ρ1:Ev}{d:Dt}(h:f ρ=.ok (d,ρ1)):zcl f ρ=.ok (.rt d,ρ1):=by
 unfold zcl
 rw[h];rfl
theorem zbc{f:De}{i:Nat}{ρ ρ1:Ev}{d:Dt}(h:f ρ=.ok (d,ρ1))(hi:i < ρ1.length):zbT i f ρ=.ok (.nx,ρ1.set i (some (.val d))):=by
 unfold zbT
 rw[h]
 simp only[R.bind_ok,hi,if_true]
theorem zcH{f:DN}{i:Nat}{ρ ρ1:Ev}{d:List Dt}(h:f ρ=.ok (d,ρ1))(hi:i < ρ1.length):zcG i f ρ=.ok (.nx,ρ1.set i (some (.own d))):=by
 unfold zcG
 rw[h]
 simp only[R.bind_ok,hi,if_true]
theorem zbd{f:DN}{ρ ρ1:Ev}{d:List Dt}(h:f ρ=.ok (d,ρ1)):dFz f ρ=.ok (.lst d,ρ1):=by
 unfold dFz
 rw[h];rfl
theorem zg0{f:De}{ρ ρ1:Ev}{d:Dt}(h:f ρ=.ok (d,ρ1)):dEx f ρ=.ok (.nx,ρ1):=by
 unfold dEx
 rw[h];rfl
theorem zbk{g:List Dt->R Dt}{f:De}{ρ ρ1:Ev}{d z:Dt}(h:f ρ=.ok (d,ρ1))(hg:g [d]=.ok z):dFn g (dA f dA0) ρ=.ok (z,ρ1):=by
 unfold dFn dA dA0
 rw[h]
 simp only[R.bind_ok,hg]
theorem zjB{f g:DT}{ρ ρ1:Ev}(h:f ρ=.ok (false,ρ1)):zkJ f g ρ=g ρ1:=by
 unfold zkJ
 rw[h];rfl
theorem zrS{f g:DT}{ρ ρ1:Ev}(h:f ρ=.ok (true,ρ1)):zkJ f g ρ=.ok (true,ρ1):=by
 unfold zkJ
 rw[h];rfl
theorem zcM{f g:DT}{ρ ρ1:Ev}(h:f ρ=.ok (true,ρ1)):zd7 f g ρ=g ρ1:=by
 unfold zd7
 rw[h];rfl
theorem zfr{f g:DT}{ρ ρ1:Ev}(h:f ρ=.ok (false,ρ1)):zd7 f g ρ=.ok (false,ρ1):=by
 unfold zd7
 rw[h];rfl
theorem zjr{f:DT}{ρ ρ1:Ev}{b:Bool}(h:f ρ=.ok (b,ρ1)):zeF f ρ=.ok (!b,ρ1):=by
 unfold zeF
 rw[h];rfl
theorem zpT{ρ0:Ev}{o:Option B}{d:Dt}:za3 ρ0.length d (ρ0++[o])=.ok (ρ0++[some (.val d)]):=by
 unfold za3
 rw[if_pos (by simp)]
 simp
theorem zhF{α:Type}{u f:α->Dt}{fe:De}{ρ0:Ev}:∀{l:List α}{o:Option B},(∀ a∈l,fe (ρ0++[some (.val (u a))])=.ok (f a,ρ0++[some (.val (u a))]))->∃ o',zbz (za3 ρ0.length) dTT fe (l.map u) (ρ0++[o])=.ok (l.map f,ρ0++[o'])
 |[],o,_=>⟨o,rfl⟩
 |a::l,o,h=>by
  obtain ⟨o',e⟩:=zhF (l:=l) (o:=some (.val (u a))) fun b hb=>h b (by simp[hb])
  refine ⟨o',?_⟩
  rw[List.map_cons,zbz,zpT]
  simp only[R.bind_ok,dTT,if_true]
  rw[h a (by simp)]
  simp only[R.bind_ok]
  rw[e]
  rfl
theorem zb2{α:Type}{u f:α->Dt}{fe:De}{ρ0:Ev}{fi:DA}{l:List α}{ds:List Dt}(hi:fi ρ0=.ok (ds,ρ0))(hd:ds=l.map u)(hl:l.length<=1000)(h:∀ a∈l,fe (ρ0++[some (.val (u a))])=.ok (f a,ρ0++[some (.val (u a))])){j:Nat}(hj:j = ρ0.length) :
  za8 fi (za3 j) dTT fe 1 ρ0=.ok (l.map f,ρ0):=by
 subst hd;subst hj
 obtain ⟨o',e⟩:=zhF (o:=none) h
 unfold za8
 rw[hi]
 simp only[R.bind_ok]
 rw[if_pos (by unfold zfQ;simp;omega)]
 show (match zbz (za3 ρ0.length) dTT fe (l.map u) (ρ0++[none]) with|.ok z=>R.ok (z.1,z.2.take ρ0.length)|_=>.no)=_
 rw[e]
 simp
theorem eqI{a b:Int}:eqD (.int a) (.int b)=(a == b):=by rw[eqD]
theorem zgU{x:Option B}{zay:Ev}{o:Option B}{d:Dt}:za3 (zay.length+1) d (x::(zay++[o]))=.ok (x::(zay++[some (.val d)])):=by
 unfold za3
 rw[if_pos (by simp)]
 simp
theorem zmv{α β:Type}{Rl:α->β->Prop}{u:α->Dt}{v:β->Dt}{fe:De}{zay:Ev}:∀{l:List α}{st:List Dt}{o:Option B},
  (∀ a∈l,∀ st,St st->∃ y st',St st'/\Rl a y/\fe (some (.own st)::(zay++[some (.val (u a))]))=.ok (v y,some (.own st')::(zay++[some (.val (u a))])))->St st ->
  ∃ ys st' o',St st'/\Paired Rl l ys/\zbz (za3 (zay.length+1)) dTT fe (l.map u) (some (.own st)::(zay++[o]))=.ok (ys.map v,some (.own st')::(zay++[o']))
 |[],st,o,_,hs=>⟨[],st,o,hs,.nil,rfl⟩
 |a::l,st,o,h,hs=>by
  obtain ⟨y,st1,hs1,hr,e1⟩:=h a (by simp) st hs
  obtain ⟨ys,st',o',hs',hp,e⟩:=zmv (l:=l) (st:=st1) (o:=some (.val (u a))) (fun b hb=>h b (List.mem_cons_of_mem _ hb)) hs1
  refine ⟨y::ys,st',o',hs',.cons hr hp,?_⟩
  rw[List.map_cons,zbz,zgU]
  simp only[R.bind_ok,dTT,if_true]
  rw[e1]
  simp only[R.bind_ok]
  rw[e]
  rfl
theorem zjA{α β:Type}{Rl:α->β->Prop}{u:α->Dt}{v:β->Dt}{fe:De}{zay:Ev}{fi:DA}{ρ:Ev}{l:List α}{ds:List Dt}{st:List Dt}{j:Nat}(hi:fi ρ=.ok (ds,some (.own st)::zay))(hd:ds=l.map u)(hl:l.length<=1000)(hj:j=zay.length+1)
  (h:∀ a∈l,∀ st,St st->∃ y st',St st'/\Rl a y/\fe (some (.own st)::(zay++[some (.val (u a))]))=.ok (v y,some (.own st')::(zay++[some (.val (u a))]))) (hs:St st) :
  ∃ ys st',St st'/\Paired Rl l ys/\za8 fi (za3 j) dTT fe 1 ρ=.ok (ys.map v,some (.own st')::zay):=by
 subst hd;subst hj
 obtain ⟨ys,st',o',hs',hp,e⟩:=zmv (o:=none) h hs
 refine ⟨ys,st',hs',hp,?_⟩
 unfold za8
 rw[hi]
 simp only[R.bind_ok]
 rw[if_pos (by unfold zfQ;simp only[List.length_map,decide_eq_true_eq];omega)]
 show (match zbz (za3 (zay.length+1)) dTT fe (l.map u) (some (.own st)::(zay++[none])) with|.ok z=>R.ok (z.1,z.2.take (zay.length+1))|_=>.no)=_
 rw[e]
 simp
theorem zcn{α β:Type}{F:α->β->Prop}:∀{l:List α}{r:List β},Paired F l r->l.length=r.length
 |_,_,.nil=>rfl
 |_,_,.cons _ t=>by simp[zcn t]
theorem zhP{p:List Dt}{l:List Int}(h:p.Perm (l.map .int)):∃ q:List Int,q.Perm l/\p=q.map .int:=by
 refine ⟨p.map fun d=>match d with|.int i=>i|_=>0,?_,?_⟩
 ·have:=h.map fun d=>match d with|.int i=>i|_=>0
  rw[List.map_map] at this
  have e:((fun d=>match d with|.int i=>i|_=>0) ∘ Dt.int)=(id:Int->Int):=rfl
  rw[e,List.map_id] at this
  exact this
 ·rw[List.map_map]
  conv=>lhs;rw[<- List.map_id p]
  refine List.map_congr_left fun d hd=>?_
  obtain ⟨i,_,rfl⟩:=List.mem_map.mp (h.mem_iff.mp hd)
  rfl
def isW:Dt->Bool
 |.int _=>true
 |_=>false
theorem zgx(d:Dt):zb3 [.val d]=.ok (.bl (isW d),[.val .non]):=by
 cases d <;> simp[zb3,zaq,zgj,zbp,zj9,zcl,zht,zfh,zab,zsQ,zg6,tyD,zao,isW]
theorem zjG{n:Int}(h1:1<=n)(h7:n<=7):zaK [.val (.int n)]=.ok (.non,[.val .non]):=by
 have e:zaj zb3 (dR (zab 0) dR0) [some (.val (.int n))]=.ok (.bl true,[some (.val (.int n))]):=zmq (ρ':=[some (.val (.int n))]) rfl (zgx _)
 have a1:decide (n<1)=false:=by simp;omega
 have a2:decide (7<n)=false:=by simp;omega
 simp[zaK,zaq,zd9,zbp,zj9,dIf,zkJ,zeF,dTB,e,dOp,zab,dC,zl2,a1,a2,dNx,zao]
def isG(n:Int):Dt->Bool
 |.int i=>decide (0<=i) && decide (i<n)
 |_=>false
theorem zk6(n:Int)(d:Dt):zb8 [.val (.int n),.val d]=.ok (.bl (isG n d),[.val .non,.val .non]):=by
 have e:zaj zb3 (dR (zab 1) dR0) [some (.val (.int n)),some (.val d)]=.ok (.bl (isW d),[some (.val (.int n)),some (.val d)]):=zmq (ρ':=[some (.val (.int n)),some (.val d)]) rfl (zgx _)
 cases d with
 |int i =>
  by_cases h:0<=i
  ·simp[zb8,zaq,zd0,zbp,zj9,zcl,zht,e,isW,zhw,dC,zab,zl2,h,isG,zao]
  ·simp[zb8,zaq,zd0,zbp,zj9,zcl,zht,e,isW,zhw,dC,zab,zl2,h,isG,zao]
 |_=>simp[zb8,zaq,zd0,zbp,zj9,zcl,zht,e,isW,isG,zao]
theorem zq0{neg:Bool}{i j:Int}:gEq neg (.int i) (.int j)=.ok (.bl (if neg then !(i == j) else (i == j))):=by
 rw[zcT rfl rfl,eqI]
theorem zod{ρ0:Ev}{o:Option B}{d:Dt}:za3 ρ0.length d (ρ0++[o])=.ok (ρ0++[some (.val d)]):=by
 unfold za3
 rw[if_pos (by simp)]
 simp
theorem zeX{p:Dt->Bool}{f:Dt->Dt}{ft:DT}{fe:De}{ρ0:Ev}:∀{l:List Dt}{o:Option B},(∀ d∈l,ft (ρ0++[some (.val d)])=.ok (p d,ρ0++[some (.val d)]))->(∀ d∈l,p d=true->fe (ρ0++[some (.val d)])=.ok (f d,ρ0++[some (.val d)]))->∃ o',zbz (za3 ρ0.length) ft fe l (ρ0++[o])=.ok ((l.filter p).map f,ρ0++[o'])
 |[],o,_,_=>⟨o,rfl⟩
 |d::l,o,h,h2=>by
  obtain ⟨o',e⟩:=zeX (l:=l) (o:=some (.val d)) (fun b hb=>h b (List.mem_cons_of_mem _ hb)) (fun b hb=>h2 b (List.mem_cons_of_mem _ hb))
  refine ⟨o',?_⟩
  rw[zbz,zod]
  simp only[R.bind_ok]
  rw[h d (by simp)]
  simp only[R.bind_ok]
  cases hp:p d with
  |true =>
   simp only[if_true]
   rw[h2 d (by simp) hp]
   simp only[R.bind_ok]
   rw[e]
   simp[List.filter_cons,hp]
  |false =>
   simp only[Bool.false_eq_true,if_false]
   rw[e]
   simp[List.filter_cons,hp]
theorem zdd{p:Dt->Bool}{f:Dt->Dt}{ft:DT}{fe:De}{ρ0:Ev}{fi:DA}{l:List Dt}{j:Nat}(hi:fi ρ0=.ok (l,ρ0))(hj:j = ρ0.length)(hl:l.length<=16777216)(h:∀ d∈l,ft (ρ0++[some (.val d)])=.ok (p d,ρ0++[some (.val d)]))(h2:∀ d∈l,p d=true->fe (ρ0++[some (.val d)])=.ok (f d,ρ0++[some (.val d)])) :
  za8 fi (za3 j) ft fe 1 ρ0=.ok ((l.filter p).map f,ρ0):=by
 subst hj
 obtain ⟨o',e⟩:=zeX (o:=none) h h2
 unfold za8
 rw[hi]
 simp only[R.bind_ok]
 rw[if_pos (by unfold zfQ;simpa using hl)]
 show (match zbz (za3 ρ0.length) ft fe l (ρ0++[none]) with|.ok z=>R.ok (z.1,z.2.take ρ0.length)|_=>.no)=_
 rw[e]
 simp
theorem zjS:∀ a b:List Int,zdP (a.map .int) (b.map .int)=(a == b)
 |[],[]=>by rw[List.map_nil,zdP];rfl
 |[],b::r=>by rw[List.map_nil,List.map_cons,zdP];rfl;all_goals (intros;simp at *)
 |a::r,[]=>by rw[List.map_nil,List.map_cons,zdP];rfl;all_goals (intros;simp at *)
 |a::r,b::q=>by rw[List.map_cons,List.map_cons,zdP,eqI,zjS r q];rfl
theorem zmL(l:List Int)(n:Nat):okN (n+1) (.lst (l.map .int))=true:=by
 simp[okN]
def zbO(n:Nat):List Int:=(List.range n).map fun (k:Nat)=>(k:Int)
theorem zjJ(n:Nat):zaL 0 n=(zbO n).map .int:=by
 unfold zaL zbO
 rw[List.map_map]
 refine List.map_congr_left fun k _=>?_
 simp
theorem zlY(i:Int):∀ l:List Int,inD (.int i) (l.map .int)=decide (i∈l)
 |[]=>by simp[inD]
 |a::r=>by
  have:=zlY i r
  unfold inD at this ⊢
  rw[List.map_cons,List.any_cons,this,eqI]
  by_cases h:a=i
  ·subst h;simp
  ·have h':¬ i=a:=fun z=>h z.symm
   by_cases h2:i∈r <;> simp[h,h',h2]
theorem zgk{n:Nat}{x:Int}:x∈zbO n ↔ 0<=x/\x<n:=by
 unfold zbO
 rw[List.mem_map]
 constructor
 ·rintro ⟨k,hk,rfl⟩
  have:=List.mem_range.mp hk
  omega
 ·rintro ⟨h0,h1⟩
  exact ⟨x.toNat,List.mem_range.mpr (by omega),by omega⟩
theorem zg7(n:Nat):(zbO n).length=n:=by unfold zbO;simp
theorem zhW(n:Nat):(zbO n).Nodup:=by
 unfold zbO
 unfold List.Nodup
 rw[List.pairwise_map]
 refine List.Pairwise.imp (R:=fun a b=>a<b) (fun {a b} h=>by omega) List.pairwise_lt_range
theorem zgQ{α:Type}{l:List α}{v:Int}(h0:0<=v)(h1:v<l.length):atI l v=l[v.toNat]? := by
 unfold atI
 rw[zjn h0 h1];rfl
theorem zls{l:List Dt}{v:Int}{d:Dt}(h0:0<=v)(h1:v<l.length)(hd:l[v.toNat]? = some d):gIx (.tup l) (.int v)=.ok d:=by
 unfold gIx
 simp only[zgQ h0 h1,hd]
theorem zpy{l:List Dt}{v:Int}{d:Dt}(h0:0<=v)(h1:v<l.length)(hd:l[v.toNat]? = some d):gIx (.lst l) (.int v)=.ok d:=by
 unfold gIx
 simp only[zgQ h0 h1,hd]
theorem zow{F:FD}{fb fc:De}{i:Nat}{ρ:Ev}{d d2 y:Dt}{st st':List Dt}{l:List B}(hi:ρ[i]? = some (some (.own st)))(h:fb ρ=.ok (d,ρ))(h2:fc ρ=.ok (d2,ρ))(hF:F [.own st,.val d,.val d2]=.ok (y,.own st'::l)):zaj F (dRO i (dR fb (dR fc dR0))) ρ=.ok (y,ρ.set i (some (.own st'))):=by
 have hp:∀ k,zbQ [.s i,.d d,.d d2] k=if i=k then some 0 else none:=by
  intro k
  unfold zbQ zbx
  split <;> rfl
 have u:uniq [.s i,.d d,.d d2]=true:=by
  unfold uniq zaE
  rw[hp]
  simp[zaE]
 have hput:∀(ρ:Ev)(k:Nat)(b:B)(bs:List B),k<=i->zen [.s i,.d d,.d d2] (b::bs) k ρ = ρ.set (i-k) (some b):=by
  intro ρ
  induction ρ with
  |nil=>intro k b bs _;simp[zen]
  |cons o r ih =>
   intro k b bs h
   unfold zen
   rw[hp]
   by_cases e:i=k
   ·subst e
    simp only[if_true,Nat.sub_self,List.set_cons_zero]
    have:∀(r:Ev)(m:Nat),i<m->zen [.s i,.d d,.d d2] (b::bs) m r=r:=by
     intro r
     induction r with
     |nil=>intro m _;rfl
     |cons o r ih =>
      intro m hm
      unfold zen
      rw[hp,if_neg (by omega),ih (m+1) (by omega)]
    rw[this r (i+1) (by omega)];rfl
   ·rw[if_neg e,ih (k+1) b bs (by omega)]
    have:i-k=(i-(k+1))+1:=by omega
    rw[this,List.set_cons_succ]
 unfold zaj dRO dR dR0
 simp only[hi,h,h2,R.bind_ok,u,if_true,zas,zj9,hF]
 rw[hput _ _ _ _ (Nat.zero_le _)]
 rfl
theorem zcu{fa:De}{fr:DA}{ρ ρ1 ρ2:Ev}{d:Dt}{ds:List Dt}(h1:fa ρ=.ok (d,ρ1))(h2:fr ρ1=.ok (ds,ρ2)):dA fa fr ρ=.ok (d::ds,ρ2):=by
 unfold dA
 rw[h1];simp only[R.bind_ok]
 rw[h2];rfl
theorem zcp{f:DA}{ρ ρ1:Ev}{ds:List Dt}(h:f ρ=.ok (ds,ρ1))(hl:ds.length<=16777216):zd5 f ρ=.ok (ds,ρ1):=by
 unfold zd5
 rw[h];simp only[R.bind_ok]
 rw[if_pos (by unfold zfQ;simpa using hl)]
theorem zbL{f:DA}{ρ ρ1:Ev}{ds:List Dt}(h:f ρ=.ok (ds,ρ1))(hl:ds.length<=16777216):zdC f ρ=.ok (.tup ds,ρ1):=by
 unfold zdC
 rw[h];simp only[R.bind_ok]
 rw[if_pos (by unfold zfQ;simpa using hl)]
theorem zmg{ns:List Int}{k:Nat}:∃ c:Int,zbA [.val (.scr ns),.val (.int k)]=.ok (.int c,[.val .non,.val .non]):=by
 have e0:dTB (dOp gLt (zab 1) (dFn zbR (dA (zab 0) dA0))) [some (.val (.scr ns)),some (.val (.int k))]=.ok (decide ((k:Int)<ns.length),[some (.val (.scr ns)),some (.val (.int k))]):=zaH (zar (d:=.int k) (e:=.int ns.length) rfl rfl rfl)
 by_cases h:k<ns.length
 ·refine ⟨ns[k],zat (ρ':=[some (.val (.scr ns)),some (.val (.int k))]) rfl ?_ rfl⟩
  show zbl [some (.val (.scr ns)),some (.val (.int k))]=_
  unfold zbl
  refine zdM ?_
  rw[zel (by rw[e0,decide_eq_true (by omega)])]
  refine zaW (zar (d:=.scr ns) (e:=.int k) rfl rfl ?_)
  unfold gIx
  simp only[zgQ (l:=ns) (v:=(k:Int)) (by omega) (by omega),Int.toNat_natCast,List.getElem?_eq_getElem h]
 ·refine ⟨0,zat (ρ':=[some (.val (.scr ns)),some (.val (.int k))]) rfl ?_ rfl⟩
  show zbl [some (.val (.scr ns)),some (.val (.int k))]=_
  unfold zbl
  rw[zan (ρ1:=[some (.val (.scr ns)),some (.val (.int k))]) (by rw[zct (by rw[e0,decide_eq_false (by omega)])];rfl)]
  rfl
theorem zky{ns:List Int}{k:Nat}:∃ st,St st/\zbE [.val (.scr ns),.val (.int k)]=.ok (.lst st,[.val .non,.val .non]):=by
 obtain ⟨c,hc⟩:=zmg (ns:=ns) (k:=k)
 have e1:zbT 2 (zaj zbA (dR (zab 0) (dR (zab 1) dR0))) [some (.val (.scr ns)),some (.val (.int k)),none]=.ok (.nx,[some (.val (.scr ns)),some (.val (.int k)),some (.val (.int c))]):=zbc (zk5 (ρ':=[some (.val (.scr ns)),some (.val (.int k)),none]) (ρ'':=[some (.val (.scr ns)),some (.val (.int k)),none]) rfl rfl hc) (by simp)
 have ep:dOp zna (dC (.int 10)) (dC (.int 18)) [some (.val (.scr ns)),some (.val (.int k)),some (.val (.int c))]=.ok (.int 1000000000000000000,[some (.val (.scr ns)),some (.val (.int k)),some (.val (.int c))]):=by
  refine zar rfl rfl ?_
  show (if 0<=(18:Int)/\(18:Int)<=1000/\(10:Int).natAbs<18446744073709551616 then R.ok (Dt.int ((10:Int) ^ (18:Int).toNat)) else R.no)=_
  rw[if_pos (by decide)]
  rfl
 have e2:dTB (dOp gGe (zab 2) (dOp zna (dC (.int 10)) (dC (.int 18)))) [some (.val (.scr ns)),some (.val (.int k)),some (.val (.int c))]=.ok (decide ((1000000000000000000:Int)<=c),[some (.val (.scr ns)),some (.val (.int k)),some (.val (.int c))]):=zaH (zar (d:=.int c) rfl ep rfl)
 by_cases h:(1000000000000000000:Int)<=c
 ·refine ⟨[.int (c-1000000000000000000),.bl true],⟨_,_,rfl⟩,zat (ρ':=[some (.val (.scr ns)),some (.val (.int k)),some (.val (.int c))]) rfl ?_ rfl⟩
  show zbH [some (.val (.scr ns)),some (.val (.int k)),none]=_
  unfold zbH
  rw[zan e1]
  refine zdM ?_
  rw[zel (by rw[e2,decide_eq_true h])]
  unfold zlV zd5
  rw[dA,zar (d:=.int c) (z:=.int (c-1000000000000000000)) rfl ep rfl]
  rfl
 ·refine ⟨[.int (c % 2147483647),.bl false],⟨_,_,rfl⟩,zat (ρ':=[some (.val (.scr ns)),some (.val (.int k)),some (.val (.int c))]) rfl ?_ rfl⟩
  show zbH [some (.val (.scr ns)),some (.val (.int k)),none]=_
  unfold zbH
  rw[zan e1,zan (ρ1:=[some (.val (.scr ns)),some (.val (.int k)),some (.val (.int c))]) (by rw[zct (by rw[e2,decide_eq_false h])];rfl)]
  unfold zlV zd5
  rw[dA,zar (d:=.int c) (z:=.int (c % 2147483647)) rfl rfl rfl]
  rfl
theorem zsl{F:FD}{fa fb:De}{ρ ρ' ρ'':Ev}{d e:Dt}{y:List Dt}{l:List B}(h:fa ρ=.ok (d,ρ'))(h2:fb ρ'=.ok (e,ρ''))(hF:F [.val d,.val e]=.ok (.lst y,l)):zeT F (dR fa (dR fb dR0)) ρ=.ok (y,ρ''):=by
 unfold zeT dR dR0
 rw[h]
 simp only[R.bind_ok,h2,uniq,zaE,if_true,zas,hF]
 rw[zi4]
theorem zjs{g:DG}{body:DS}{I:Ev->Prop}:∀{ds:List Dt}{ρ:Ev},(∀ d∈ds,∀ ρ,I ρ->∃ ρ1 ρ2,g d ρ=.ok ρ1/\body ρ1=.ok (.nx,ρ2)/\I ρ2)->I ρ->∃ ρ',I ρ'/\zl8 g body ds ρ=.ok (.nx,ρ')
 |[],ρ,_,h=>⟨ρ,h,rfl⟩
 |d::ds,ρ,hb,h=>by
  obtain ⟨ρ1,ρ2,e1,e2,h2⟩:=hb d (by simp) ρ h
  obtain ⟨ρ',h',e⟩:=zjs (ds:=ds) (ρ:=ρ2) (fun c hc=>hb c (List.mem_cons_of_mem _ hc)) h2
  refine ⟨ρ',h',?_⟩
  rw[zl8,e1]
  simp only[R.bind_ok]
  rw[e2]
  exact e
def tz(p:List Int):Dt:=.tup (p.map .int)
theorem zeV(l:List Int)(n:Nat):(l.map Dt.int).all (okN n)=true:=by
 rw[List.all_eq_true]
 intro d hd
 obtain ⟨i,_,rfl⟩:=List.mem_map.mp hd
 cases n <;> rfl
theorem zpB{α:Type}{l:List α}{f m:Nat}(h:f<=l.length):zq1 l (some (f:Int)) (some ((f:Int)+m))=(l.drop f).take m:=by
 unfold zq1
 rw[show (f:Int)+m=((f+m:Nat):Int) from rfl,HT.sIx_nat,HT.sIx_nat,Nat.min_eq_left h]
 by_cases z:f+m<=l.length
 ·rw[Nat.min_eq_left z,show f+m-f=m by omega]
 ·rw[Nat.min_eq_right (by omega),List.take_of_length_le (by simp),List.take_of_length_le (by simp;omega)]
theorem zfM{m:Nat}(hm:m<=1000):zcv (m:Int)=true:=by
 unfold zcv
 rw[Bool.and_eq_true,decide_eq_true_eq,decide_eq_true_eq]
 omega
def Pty(n:Nat)(p:List Int):Prop:=p≠[]/\p.Pairwise (· < ·)/\∀ x∈p,0<=x/\x<n
theorem zj1{ft:DT}{zay:Ev}:∀{l:List Dt}{st:List Dt}{o:Option B},(∀ d∈l,∀ st,St st->∃ b st',St st'/\ft (some (.own st)::(zay++[some (.val d)]))=.ok (b,some (.own st')::(zay++[some (.val d)])))->St st ->
  ∃ ys st' o',St st'/\ys.Sublist l/\zbz (za3 (zay.length+1)) ft (zab (zay.length+1)) l (some (.own st)::(zay++[o]))=.ok (ys,some (.own st')::(zay++[o']))
 |[],st,o,_,hs=>⟨[],st,o,hs,.slnil,rfl⟩
 |d::l,st,o,h,hs=>by
  obtain ⟨b,st1,hs1,e1⟩:=h d (by simp) st hs
  obtain ⟨ys,st',o',hs',hp,e⟩:=zj1 (l:=l) (st:=st1) (o:=some (.val d)) (fun b hb=>h b (List.mem_cons_of_mem _ hb)) hs1
  have hv:zab (zay.length+1) (some (.own st1)::(zay++[some (.val d)]))=.ok (d,some (.own st1)::(zay++[some (.val d)])):=by
   simp[zab]
  cases b with
  |true =>
   refine ⟨d::ys,st',o',hs',hp.cons_cons d,?_⟩
   rw[zbz,zgU]
   simp only[R.bind_ok]
   rw[e1]
   simp only[R.bind_ok,if_true]
   rw[hv]
   simp only[R.bind_ok]
   rw[e]
   rfl
  |false =>
   refine ⟨ys,st',o',hs',hp.cons d,?_⟩
   rw[zbz,zgU]
   simp only[R.bind_ok]
   rw[e1]
   simp only[R.bind_ok,Bool.false_eq_true,if_false]
   exact e
theorem zlU(n:Nat):(zbO n).Pairwise (· < ·):=by
 unfold zbO
 rw[List.pairwise_map]
 refine List.Pairwise.imp (R:=fun a b=>a<b) (fun {a b} h=>by omega) List.pairwise_lt_range
theorem zim{zay:Ev}{st:List Dt}{fb:De}{m:Int}{v:Int}{st':List Dt}(e:zae [.own st,.val (.int m)]=.ok (.int v,[.own st',.val .non]))(h:fb (some (.own st)::zay)=.ok (.int m,some (.own st)::zay)):zaj zae (dRO 0 (dR fb dR0)) (some (.own st)::zay)=.ok (.int v,some (.own st')::zay) :=
 zkt (ρ:=some (.own st)::zay) rfl h e
theorem zoL{α:Type}{l:List α}(h:l.length<=1000):zfQ l=true:=by
 unfold zfQ
 rw[decide_eq_true_eq]
 omega
def ztb(j:Int)(ρ:Ev):R (List Dt×Ev):=if zcv j=true then .ok (zaL 0 j.toNat,ρ) else .no
theorem zl7{j:Int}{ρ:Ev}(h:zcv j=true):ztb j ρ=.ok (zaL 0 j.toNat,ρ):=if_pos h
theorem zog{fa:De}{ρ ρ1:Ev}{j:Int}(h:fa ρ=.ok (.int j,ρ1)):zbm fa ρ=ztb j ρ1:=by
 unfold zbm ztb
 rw[h]
 rfl
theorem zcK{fa:De}{ρ ρ1:Ev}{j:Nat}(h:fa ρ=.ok (.int j,ρ1))(hj:j<=1000):zbm fa ρ=.ok (zaL 0 j,ρ1):=by
 rw[zog h,zl7 (zfM hj),Int.toNat_natCast]
theorem zkp{n:Nat}{st:List Dt}(h1:1<=n)(h7:n<=7)(hs:St st):∃ p st',St st'/\Pty n p/\zaQ [.own st,.val (.int n)]=.ok (tz p,[.own st',.val .non]):=by
 obtain ⟨ys,st1,o',hs1,hsub,e⟩:=zj1 (ft:=dTB (dOp (gEq false) (zaj zae (dRO 0 (dR (dC (.int 2)) dR0))) (dC (.int 1)))) (zay:=[some (.val (.int n)),none]) (l:=zaL 0 n) (st:=st) (o:=none) (fun d _ st hs=>by
  obtain ⟨v,st',e,hs',v0,v1⟩:=zbn (m:=2) hs (by decide) (by decide)
  exact ⟨v == 1,st',hs',zaH (zar (zim e rfl) rfl (by rw[zq0];rfl))⟩) hs
 rw[zjJ] at hsub
 obtain ⟨zs,hz,rfl⟩:=List.sublist_map_iff.mp hsub
 let ρ0:Ev:=[some (.own st),some (.val (.int n)),none]
 have hc:za8 (zbm (zab 1)) (za3 3) (dTB (dOp (gEq false) (zaj zae (dRO 0 (dR (dC (.int 2)) dR0))) (dC (.int 1)))) (zab 3) 1 ρ0=.ok (zs.map .int,[some (.own st1),some (.val (.int n)),none]):=by
  unfold za8
  rw[show zbm (zab 1) ρ0=.ok (zaL 0 n,ρ0) from zcK (j:=n) rfl (by omega)]
  simp only[R.bind_ok]
  rw[if_pos (zoL (by unfold zaL;rw[List.length_map,List.length_range];omega))]
  show (match zbz (za3 3) _ (zab 3) (zaL 0 n) [some (.own st),some (.val (.int n)),none,none] with|.ok z=>R.ok (z.1,z.2.take 3)|_=>.no)=_
  have e':zbz (za3 3) (dTB (dOp (gEq false) (zaj zae (dRO 0 (dR (dC (.int 2)) dR0))) (dC (.int 1)))) (zab 3) (zaL 0 n) [some (.own st),some (.val (.int n)),none,none]=_:=e
  rw[e']
  rfl
 have e1:zbT 2 (dFn zck (dA (dFz (za8 (zbm (zab 1)) (za3 3) (dTB (dOp (gEq false) (zaj zae (dRO 0 (dR (dC (.int 2)) dR0))) (dC (.int 1)))) (zab 3) 1)) dA0)) ρ0=.ok (.nx,[some (.own st1),some (.val (.int n)),some (.val (tz zs))]) :=
  zbc (i:=2) (zbk (zbd hc) rfl) (by simp)
 have hpw:zs.Pairwise (· < ·):=(zlU n).sublist hz
 have hin:∀ x∈zs,0<=x/\x<n:=fun x hx=>zgk.mp (hz.subset hx)
 cases zs with
 |nil =>
  obtain ⟨v,st2,e2,hs2,v0,v1⟩:=zbn (m:=(n:Nat)) hs1 (by omega) (by omega)
  refine ⟨[v],st2,hs2,⟨by simp,by simp,fun x hx=>(by have:x=v:=(by simpa using hx);omega)⟩,zat (ρ':=[some (.own st2),some (.val (.int n)),some (.val (tz []))]) rfl ?_ rfl⟩
  show zbG ρ0=_
  unfold zbG
  rw[zan e1]
  refine zdM ?_
  have hc:dTB (dOp (gEq false) (zab 2) (zdC dA0)) [some (.own st1),some (.val (.int n)),some (.val (tz []))]=.ok (true,[some (.own st1),some (.val (.int n)),some (.val (tz []))]):=by
   refine zaH (zar (d:=tz []) (e:=.tup []) (ρ1:=[some (.own st1),some (.val (.int n)),some (.val (tz []))]) rfl rfl ?_)
   rw[zcT rfl rfl]
   show R.ok (Dt.bl (eqD (.tup []) (.tup [])))=_
   rw[eqD,zdP]
  rw[zel hc]
  exact zaW (zbL (zcu (zim e2 rfl) rfl) (by simp))
 |cons a r =>
  refine ⟨a::r,st1,hs1,⟨by simp,hpw,hin⟩,zat (ρ':=[some (.own st1),some (.val (.int n)),some (.val (tz (a::r)))]) rfl ?_ rfl⟩
  show zbG ρ0=_
  unfold zbG
  rw[zan e1]
  have hc:dTB (dOp (gEq false) (zab 2) (zdC dA0)) [some (.own st1),some (.val (.int n)),some (.val (tz (a::r)))]=.ok (false,[some (.own st1),some (.val (.int n)),some (.val (tz (a::r)))]):=by
   refine zaH (zar (d:=tz (a::r)) (e:=.tup []) (ρ1:=[some (.own st1),some (.val (.int n)),some (.val (tz (a::r)))]) rfl rfl ?_)
   rw[zcT (by show okN 60 (.tup ((a::r).map .int))=true;simp[okN]) rfl]
   show R.ok (Dt.bl (eqD (.tup ((a::r).map .int)) (.tup [])))=_
   rw[eqD,List.map_cons,zdP]
   all_goals (intros;simp at *)
  rw[zan (ρ1:=[some (.own st1),some (.val (.int n)),some (.val (tz (a::r)))]) (by rw[zct hc];rfl)]
  rfl
theorem zlp{n:Nat}{st:List Dt}{row:List Int}(h1:1<=n)(h7:n<=7)(hr:row.Perm (zbO n))(hs:St st):∃ p st',St st'/\Pty n p/\zaU [.own st,.val (.lst (row.map .int))]=.ok (tz p,[.own st',.val .non]):=by
 have hlen:row.length=n:=by rw[hr.length_eq,zg7]
 obtain ⟨v,st1,e1,hs1,v0,v1⟩:=zbn (m:=(n:Nat)) hs (by omega) (by omega)
 obtain ⟨f,hf⟩ : ∃ f:Nat,v=f:=⟨v.toNat,by omega⟩
 subst hf
 obtain ⟨w,st2,e2,hs2,w0,w1⟩:=zbn (m:=(n:Nat)-(f:Nat)) hs1 (by omega) (by omega)
 obtain ⟨m,hm⟩ : ∃ m:Nat,w=m:=⟨w.toNat,by omega⟩
 subst hm
 let q:=(row.drop f).take (1+m)
 have hqs:q.Sublist row:=(List.take_sublist _ _).trans (List.drop_sublist _ _)
 have hqne:q≠[]:=by
  intro z
  have:q.length=0:=by rw[z];rfl
  simp only[q,List.length_take,List.length_drop] at this
  omega
 have hql:q.length<=7:=by have:=hqs.length_le;omega
 have hnd:q.Nodup:=(hr.nodup_iff.mpr (zhW n)).sublist hqs
 have hsp:=zcx q
 have hlt:(zex q).Pairwise (· < ·):=by
  have h1:=zeg q
  have h2:(zex q).Nodup:=hsp.nodup_iff.mpr hnd
  exact List.Pairwise.imp₂ (fun a b hab hne=>by omega) h1 h2
 refine ⟨zex q,st2,hs2,⟨fun z=>hqne (by rw[z] at hsp;exact hsp.symm.eq_nil),hlt,fun x hx=>zgk.mp (hr.mem_iff.mp (hqs.subset (hsp.mem_iff.mp hx)))⟩,?_⟩
 let L:Option B:=some (.val (.lst (row.map .int)))
 have x1:zbT 2 (zaj zae (dRO 0 (dR (dFn zbR (dA (zab 1) dA0)) dR0))) [some (.own st),L,none]=.ok (.nx,[some (.own st1),L,some (.val (.int f))]):=by
  refine zbc (i:=2) (ρ1:=[some (.own st1),L,none]) (zim e1 ?_) (by simp)
  refine zbk (d:=.lst (row.map .int)) rfl ?_
  rw[zbR,List.length_map,hlen]
 refine zat (ρ':=[some (.own st2),L,some (.val (.int f))]) rfl ?_ rfl
 show zdY [some (.own st),L,none]=_
 unfold zdY
 rw[zan x1]
 have hi:dOp zaB (dOp zaB (zab 2) (dC (.int 1))) (zaj zae (dRO 0 (dR (dOp zgd (dFn zbR (dA (zab 1) dA0)) (zab 2)) dR0))) [some (.own st1),L,some (.val (.int f))]=.ok (.int ((f:Int)+((1+m:Nat):Int)),[some (.own st2),L,some (.val (.int f))]):=by
  refine zar (d:=.int ((f:Int)+1)) (ρ1:=[some (.own st1),L,some (.val (.int f))]) rfl (zim e2 ?_) (e:=.int m) ?_
  ·refine zar (d:=.int n) (e:=.int f) (ρ1:=[some (.own st1),L,some (.val (.int f))]) (zbk (d:=.lst (row.map .int)) rfl ?_) rfl rfl
   rw[zbR,List.length_map,hlen]
  ·show R.ok (Dt.int ((f:Int)+1+m))=_
   congr 2
   omega
 have ecut:dFz (zqY (zab 1) (dO1 (zab 2)) (dO1 (dOp zaB (dOp zaB (zab 2) (dC (.int 1))) (zaj zae (dRO 0 (dR (dOp zgd (dFn zbR (dA (zab 1) dA0)) (zab 2)) dR0)))))) [some (.own st1),L,some (.val (.int f))]=.ok (.lst (q.map .int),[some (.own st2),L,some (.val (.int f))]):=by
  refine zbd ?_
  unfold zqY
  show ((dO1 (dOp zaB (dOp zaB (zab 2) (dC (.int 1))) (zaj zae (dRO 0 (dR (dOp zgd (dFn zbR (dA (zab 1) dA0)) (zab 2)) dR0)))) [some (.own st1),L,some (.val (.int f))]).bind fun h=>R.ok (zq1 (row.map Dt.int) (some (f:Int)) h.1,h.2))=_
  unfold dO1
  rw[hi]
  simp only[R.bind_ok]
  rw[zpB (by simp;omega),List.map_take,List.map_drop]
 have esort:dFz (ziT zeO (dA (dFz (zqY (zab 1) (dO1 (zab 2)) (dO1 (dOp zaB (dOp zaB (zab 2) (dC (.int 1))) (zaj zae (dRO 0 (dR (dOp zgd (dFn zbR (dA (zab 1) dA0)) (zab 2)) dR0))))))) dA0)) [some (.own st1),L,some (.val (.int f))]=.ok (.lst ((zex q).map .int),[some (.own st2),L,some (.val (.int f))]):=by
  refine zbd ?_
  unfold ziT
  rw[zcu ecut rfl]
  simp only[R.bind_ok]
  unfold zeO
  simp only[zg3]
  rw[if_pos (by omega)]
  rfl
 exact zaW (zbk esort rfl)
def zdk(n:Nat)(ps:List (List Int)):Prop:=∀ p∈ps,Pty n p
def lp(ps:List (List Int)):List Dt:=ps.map tz
theorem ze1{α β:Type}{P:β->Prop}:∀{l:List α}{r:List β},Paired (fun _ y=>P y) l r->∀ y∈r,P y
 |_,_,.nil=>by simp
 |_,_,.cons h t=>by
  intro y hy
  rcases List.mem_cons.mp hy with rfl|hy
  ·exact h
  ·exact ze1 t y hy
theorem znE{n:Nat}{st:List Dt}(h7:n<=7)(hs:St st):∃(row:List Int)(st':List Dt),St st'/\row.Perm (zbO n)/\zaV [.own st,.val (.lst ((zbO n).map .int))]=.ok (.lst (row.map .int),[.own st',.val .non]):=by
 obtain ⟨st',p,hs',hp,e⟩:=zkB (l:=(zbO n).map .int) hs (by rw[List.length_map,zg7];omega) (fun d hd=>by
  obtain ⟨i,_,rfl⟩:=List.mem_map.mp hd
  rfl)
 obtain ⟨q,hq,rfl⟩:=zhP hp
 exact ⟨q,st',hs',hq,e⟩
theorem zph{fa:De}{ρ ρ1:Ev}{n:Nat}(h:fa ρ=.ok (.int n,ρ1))(hn:n<=1000):zka fa ρ=.ok ((zbO n).map .int,ρ1):=by
 have hc:(0:Int)<=n/\(n:Int)<=16777216:=by omega
 unfold zka
 rw[h]
 show (if 0<=(n:Int)/\(n:Int)<=16777216 then R.ok (zaL 0 (n:Int).toNat,ρ1) else .no)=_
 rw[if_pos hc,Int.toNat_natCast,zjJ]
theorem zrf{n:Nat}{row:List Int}{st:List Dt}{o1 o2:Option B}{zay:Ev}(h1:1<=n)(h7:n<=7)(hr:row.Perm (zbO n))(hs:St st):∃ p st',St st'/\Pty n p/\zaj zaU (dRO 0 (dR (zab 3) dR0)) (some (.own st)::o1::o2::some (.val (.lst (row.map .int)))::zay)=.ok (tz p,some (.own st')::o1::o2::some (.val (.lst (row.map .int)))::zay):=by
 obtain ⟨p,st',hs',hp,e⟩:=zlp (st:=st) h1 h7 hr hs
 exact ⟨p,st',hs',hp,zkt (ρ:=some (.own st)::o1::o2::some (.val (.lst (row.map .int)))::zay) rfl rfl e⟩
theorem zoK{n:Nat}{st:List Dt}{zay:Ev}(h1:1<=n)(h7:n<=7)(hs:St st):∃ p st',St st'/\Pty n p/\zaj zaQ (dRO 0 (dR (zab 1) dR0)) (some (.own st)::some (.val (.int n))::zay)=.ok (tz p,some (.own st')::some (.val (.int n))::zay):=by
 obtain ⟨p,st',hs',hp,e⟩:=zkp (st:=st) h1 h7 hs
 exact ⟨p,st',hs',hp,zkt (ρ:=some (.own st)::some (.val (.int n))::zay) rfl rfl e⟩
theorem zrd{i:Nat}{fk fv:De}{ρ ρ1 ρ2:Ev}{l0 ds:List Dt}{k:Nat}{v:Dt}(h0:ρ[i]? = some (some (.own l0)))(h1:fk ρ=.ok (.int k,ρ1))(h2:fv ρ1=.ok (v,ρ2))(h3:ρ2[i]? = some (some (.own ds)))(hk:k<=ds.length)(hl:ds.length<=1000) :
  zkn i fk fv ρ=.ok (.non,ρ2.set i (some (.own (ds.take k++v::ds.drop k)))):=by
 have hc:(0:Int)<=k/\(k:Int)<=ds.length/\ds.length<16777216:=by omega
 unfold zkn
 rw[h0]
 simp only[h1,R.bind_ok,h2,h3]
 rw[if_pos hc,Int.toNat_natCast]
theorem zeW{n mo:Nat}{st:List Dt}(hmo:mo<=8)(h1:1<=n)(h7:n<=7)(hs:St st):∃ ps st',St st'/\zdk n ps/\ps.length<=mo/\zaD [.own st,.val (.int n),.val (.int mo)]=.ok (.lst (lp ps),[.own st',.val .non,.val .non]):=by
 obtain ⟨row,st1,hs1,hr,er⟩:=znE (n:=n) h7 hs
 obtain ⟨way,st2,ew,hs2,w0,w1⟩:=zbn (m:=4) hs1 (by decide) (by decide)
 obtain ⟨c,st3,ec,hs3,c0,c1⟩:=zbn (m:=(mo:Int)+1) hs2 (by omega) (by omega)
 let N:Option B:=some (.val (.int n))
 let M:Option B:=some (.val (.int mo))
 let L:Option B:=some (.val (.lst (row.map .int)))
 let W:Option B:=some (.val (.int way))
 have x1:zbT 3 (zaj zaV (dRO 0 (dR (dFz (zka (zab 1))) dR0))) [some (.own st),N,M,none,none,none]=.ok (.nx,[some (.own st1),N,M,L,none,none]) :=
  zbc (i:=3) (zkt (ρ:=[some (.own st),N,M,none,none,none]) rfl (zbd (zph rfl (by omega))) er) (by simp)
 have x2:zbT 4 (zaj zae (dRO 0 (dR (dC (.int 4)) dR0))) [some (.own st1),N,M,L,none,none]=.ok (.nx,[some (.own st2),N,M,L,W,none]) :=
  zbc (i:=4) (zim ew rfl) (by simp)
 obtain ⟨cn,hcn⟩ : ∃ cn:Nat,c=cn:=⟨c.toNat,by omega⟩
 subst hcn
 obtain ⟨ps,st4,hs4,hp4,e4⟩:=zjA (α:=Nat) (β:=List Int) (Rl:=fun _ p=>Pty n p) (u:=fun k=>.int (0+(k:Nat))) (v:=tz) (fe:=zaj zaU (dRO 0 (dR (zab 3) dR0))) (zay:=[N,M,L,W,none]) (fi:=zbm (zaj zae (dRO 0 (dR (dOp zaB (zab 2) (dC (.int 1))) dR0)))) (ρ:=[some (.own st2),N,M,L,W,none]) (l:=List.range cn) (ds:=zaL 0 cn) (st:=st3) (j:=6)
  (zcK (zim ec rfl) (by omega)) rfl (by rw[List.length_range];omega) rfl (fun a _ st hs=>by
   obtain ⟨p,st',hs',hp,e⟩:=zrf (o1:=N) (o2:=M) (zay:=[W,none,some (.val (.int (0+(a:Nat))))]) h1 h7 hr hs
   exact ⟨p,st',hs',hp,e⟩) hs3
 have hps4:zdk n ps:=ze1 hp4
 have hl4:ps.length<=mo:=by have:=zcn hp4;rw[List.length_range] at this;omega
 have x3:zcG 5 (za8 (zbm (zaj zae (dRO 0 (dR (dOp zaB (zab 2) (dC (.int 1))) dR0)))) (za3 6) dTT (zaj zaU (dRO 0 (dR (zab 3) dR0))) 1) [some (.own st2),N,M,L,W,none]=.ok (.nx,[some (.own st4),N,M,L,W,some (.own (lp ps))]):=zcH (i:=5) e4 (by simp)
 have hlp:∀ ps:List (List Int),(lp ps).length=ps.length:=fun ps=>by unfold lp;simp
 obtain ⟨ps5,st5,hs5,hps5,hl5,x4⟩ : ∃ ps5 st5,St st5/\zdk n ps5/\ps5.length<=mo/\dIf (zd7 (dTB (dOp (gEq false) (zab 4) (dC (.int 1)))) (dTB (dOp gLt (zcW 5) (zab 2)))) (dEx (zkn 5 (zaj zae (dRO 0 (dR (dOp zaB (zcW 5) (dC (.int 1))) dR0))) (zaj zaQ (dRO 0 (dR (zab 1) dR0))))) dNx [some (.own st4),N,M,L,W,some (.own (lp ps))]=.ok (.nx,[some (.own st5),N,M,L,W,some (.own (lp ps5))]):=by
  have t1:dTB (dOp (gEq false) (zab 4) (dC (.int 1))) [some (.own st4),N,M,L,W,some (.own (lp ps))]=.ok (way == 1,[some (.own st4),N,M,L,W,some (.own (lp ps))]):=zaH (zar (d:=.int way) rfl rfl (by rw[zq0];rfl))
  cases hw:(way == 1) with
  |false =>
   rw[hw] at t1
   exact ⟨ps,st4,hs4,hps4,hl4,by rw[zct (zfr t1)];rfl⟩
  |true =>
   rw[hw] at t1
   have t2:dTB (dOp gLt (zcW 5) (zab 2)) [some (.own st4),N,M,L,W,some (.own (lp ps))]=.ok (decide ((ps.length:Int)<mo),[some (.own st4),N,M,L,W,some (.own (lp ps))]):=by
    refine zaH (zar (d:=.int ps.length) (e:=.int mo) (ρ1:=[some (.own st4),N,M,L,W,some (.own (lp ps))]) ?_ rfl rfl)
    simp[zcW,hlp]
   by_cases hlt:(ps.length:Int)<mo
   ·rw[decide_eq_true hlt] at t2
    obtain ⟨v,st5,e5,hs5,v0,v1⟩:=zbn (m:=(ps.length:Int)+1) hs4 (by omega) (by omega)
    obtain ⟨k,hk⟩ : ∃ k:Nat,v=k:=⟨v.toNat,by omega⟩
    subst hk
    obtain ⟨p,st6,hs6,hp6,e6⟩:=zoK (zay:=[M,L,W,some (.own (lp ps))]) h1 h7 hs5
    refine ⟨ps.take k++p::ps.drop k,st6,hs6,?_,by simp;omega,?_⟩
    ·intro q hq
     rcases List.mem_append.mp hq with h|h
     ·exact hps4 q (List.mem_of_mem_take h)
     ·rcases List.mem_cons.mp h with rfl|h
      ·exact hp6
      ·exact hps4 q (List.mem_of_mem_drop h)
    ·rw[zel (by rw[zcM t1];exact t2)]
     have el:dOp zaB (zcW 5) (dC (.int 1)) [some (.own st4),N,M,L,W,some (.own (lp ps))]=.ok (.int ((ps.length:Int)+1),[some (.own st4),N,M,L,W,some (.own (lp ps))]):=by
      refine zar (d:=.int ps.length) (e:=.int 1) (ρ1:=[some (.own st4),N,M,L,W,some (.own (lp ps))]) ?_ rfl rfl
      simp[zcW,hlp]
     refine zg0 (d:=.non) ?_
     have:=zrd (i:=5) (ρ:=[some (.own st4),N,M,L,W,some (.own (lp ps))]) (l0:=lp ps) (ds:=lp ps) rfl (zim e5 el) e6 rfl (by rw[hlp];omega) (by rw[hlp];omega)
     have hmap:lp (ps.take k++p::ps.drop k)=(lp ps).take k++tz p::(lp ps).drop k:=by
      unfold lp
      rw[List.map_append,List.map_cons,List.map_take,List.map_drop]
     rw[hmap]
     exact this
   ·rw[decide_eq_false hlt] at t2
    exact ⟨ps,st4,hs4,hps4,hl4,by rw[zct (by rw[zcM t1];exact t2)];rfl⟩
 obtain ⟨ps6,st6,hs6,hps6,hl6,x5⟩ : ∃ ps6 st6,St st6/\zdk n ps6/\ps6.length<=mo/\dIf (dTB (dOp gGt (zab 4) (dC (.int 1)))) (zcG 5 (za8 (dIt (zis 5)) (za3 6) dTT (dOp gIx (dFz (zd5 (dA (zaj zaU (dRO 0 (dR (zab 3) dR0))) (dA (zaj zaQ (dRO 0 (dR (zab 1) dR0))) dA0)))) (zaj zae (dRO 0 (dR (dC (.int 2)) dR0)))) 1)) dNx [some (.own st5),N,M,L,W,some (.own (lp ps5))]=.ok (.nx,[some (.own st6),N,M,L,W,some (.own (lp ps6))]):=by
  have t1:dTB (dOp gGt (zab 4) (dC (.int 1))) [some (.own st5),N,M,L,W,some (.own (lp ps5))]=.ok (decide (1<way),[some (.own st5),N,M,L,W,some (.own (lp ps5))]):=zaH (zar (d:=.int way) rfl rfl rfl)
  by_cases hw:1<way
  ·rw[decide_eq_true hw] at t1
   obtain ⟨qs,st6,hs6,hp6,e6⟩:=zjA (α:=List Int) (β:=List Int) (Rl:=fun _ p=>Pty n p) (u:=tz) (v:=tz) (fe:=dOp gIx (dFz (zd5 (dA (zaj zaU (dRO 0 (dR (zab 3) dR0))) (dA (zaj zaQ (dRO 0 (dR (zab 1) dR0))) dA0)))) (zaj zae (dRO 0 (dR (dC (.int 2)) dR0)))) (zay:=[N,M,L,W,some (.val (.lst (lp ps5)))]) (fi:=dIt (zis 5)) (ρ:=[some (.own st5),N,M,L,W,some (.own (lp ps5))]) (l:=ps5) (ds:=lp ps5) (st:=st5) (j:=6)
    rfl rfl (by omega) rfl (fun a _ st hs=>by
     obtain ⟨p,sta,hsa,hpa,ea⟩:=zrf (o1:=N) (o2:=M) (zay:=[W,some (.val (.lst (lp ps5))),some (.val (tz a))]) h1 h7 hr hs
     obtain ⟨q,stb,hsb,hpb,eb⟩:=zoK (zay:=[M,L,W,some (.val (.lst (lp ps5))),some (.val (tz a))]) h1 h7 hsa
     obtain ⟨v,stc,ec,hsc,v0,v1⟩:=zbn (m:=2) hsb (by decide) (by decide)
     have hlst:=zbd (zcp (ds:=[tz p,tz q]) (zcu ea (zcu (fr:=dA0) eb rfl)) (by simp))
     have htk:=zim (zay:=[N,M,L,W,some (.val (.lst (lp ps5))),some (.val (tz a))]) (fb:=dC (.int 2)) ec rfl
     rcases (by omega:v=0\/v=1) with rfl|rfl
     ·exact ⟨p,stc,hsc,hpa,zar hlst htk rfl⟩
     ·exact ⟨q,stc,hsc,hpb,zar hlst htk rfl⟩) hs5
   refine ⟨qs,st6,hs6,ze1 hp6,by have:=zcn hp6;omega,?_⟩
   rw[zel t1]
   exact zcH (i:=5) e6 (by simp)
  ·rw[decide_eq_false hw] at t1
   exact ⟨ps5,st5,hs5,hps5,hl5,by rw[zct t1];rfl⟩
 refine ⟨ps6,st6,hs6,hps6,hl6,zat (ρ':=[some (.own st6),N,M,L,W,some (.val (.lst (lp ps6)))]) rfl ?_ rfl⟩
 show zco [some (.own st),N,M,none,none,none]=_
 unfold zco
 rw[zan x1,zan x2,zan x3,zan x4,zan x5]
 rfl
theorem zjU{α:Type}(f:α->Bool):∀ l:List α,zd4 (l.map fun d=>.bl (f d))=some (l.map f)
 |[]=>rfl
 |a::r=>by rw[List.map_cons,zd4,zjU f r];rfl
theorem zlZ{α:Type}(f:α->Bool)(l:List α):zkI [.lst (l.map fun d=>.bl (f d))]=.ok (.bl (l.all f)):=by
 unfold zkI
 simp only[zjU]
 rw[List.all_map]
 rfl
theorem zi6:∀ l:List Int,l.Pairwise (· < ·) ↔ ∀ k (h:k+1<l.length),l[k]<l[k+1]
 |[]=>by simp
 |[a]=>by simp
 |a::b::r=>by
  rw[List.pairwise_cons,zi6 (b::r)]
  constructor
  ·rintro ⟨h1,h2⟩ k hk
   cases k with
   |zero=>exact h1 b (by simp)
   |succ k=>exact h2 k (by simpa using hk)
  ·intro h
   have h2:∀ k (hk:k+1<(b::r).length),(b::r)[k]<(b::r)[k+1]:=fun k hk=>h (k+1) (by simpa using hk)
   refine ⟨fun x hx=>?_,h2⟩
   have hab:a<b:=h 0 (by simp)
   have:=(zi6 (b::r)).mpr h2
   rw[List.pairwise_cons] at this
   rcases List.mem_cons.mp hx with rfl|hx
   ·exact hab
   ·have:=this.1 x hx;omega
theorem zkC(p:List Int)(hl:p.length<=1000):ziI [.val (tz p)]=.ok (.bl (decide (p.Pairwise (· < ·))),[.val .non]):=by
 let ρ0:Ev:=[some (.val (tz p))]
 have elen:dFn zbR (dA (zab 0) dA0) ρ0=.ok (.int p.length,ρ0):=zbk (d:=tz p) rfl (by simp[tz,zbR])
 obtain ⟨m,hm,em⟩ : ∃ m:Nat,m=p.length-1/\zbm (dOp zgd (dFn zbR (dA (zab 0) dA0)) (dC (.int 1))) ρ0=.ok (zaL 0 m,ρ0):=by
  refine ⟨p.length-1,rfl,?_⟩
  have es:dOp zgd (dFn zbR (dA (zab 0) dA0)) (dC (.int 1)) ρ0=.ok (.int ((p.length:Int)-1),ρ0):=zar elen rfl rfl
  cases p with
  |nil=>rfl
  |cons a r =>
   have e':((a::r).length:Int)-1=((r.length:Nat):Int):=by simp
   rw[e'] at es
   rw[zcK es (by simp at hl;omega)]
   rfl
 let f:Nat->Bool:=fun k=>decide (p.getD k 0<p.getD (k+1) 0)
 have hc:za8 (zbm (dOp zgd (dFn zbR (dA (zab 0) dA0)) (dC (.int 1)))) (za3 1) dTT (dOp gLt (dOp gIx (zab 0) (zab 1)) (dOp gIx (zab 0) (dOp zaB (zab 1) (dC (.int 1))))) 1 ρ0=.ok ((List.range m).map fun k=>.bl (f k),ρ0):=by
  refine zb2 (l:=List.range m) (u:=fun k=>.int (0+(k:Nat))) (f:=fun k=>.bl (f k)) (ds:=zaL 0 m) em rfl (by rw[List.length_range];omega) (fun k hk=>?_) rfl
  have hkm:=List.mem_range.mp hk
  show dOp gLt (dOp gIx (zab 0) (zab 1)) (dOp gIx (zab 0) (dOp zaB (zab 1) (dC (.int 1)))) [some (.val (tz p)),some (.val (.int (0+(k:Nat))))]=_
  have hk1:k<p.length:=by omega
  have hk2:k+1<p.length:=by omega
  have g1:gIx (tz p) (.int (0+(k:Nat)))=.ok (.int (p.getD k 0)):=by
   refine zls (by omega) (by simp;omega) ?_
   rw[show (0+((k:Nat):Int)).toNat=k by omega,List.getElem?_map,List.getElem?_eq_getElem hk1,List.getD_eq_getElem?_getD,List.getElem?_eq_getElem hk1]
   rfl
  have g2:gIx (tz p) (.int (0+(k:Nat)+1))=.ok (.int (p.getD (k+1) 0)):=by
   refine zls (by omega) (by simp;omega) ?_
   rw[show (0+((k:Nat):Int)+1).toNat=k+1 by omega,List.getElem?_map,List.getElem?_eq_getElem hk2,List.getD_eq_getElem?_getD,List.getElem?_eq_getElem hk2]
   rfl
  exact zar (zar rfl rfl g1) (zar rfl (zar rfl rfl rfl) g2) rfl
 refine zat (ρ':=ρ0) rfl ?_ rfl
 show zjk ρ0=_
 unfold zjk
 refine zaW (zbk (zbd hc) ?_)
 rw[zlZ]
 congr 2
 rw[Bool.eq_iff_iff,List.all_eq_true,decide_eq_true_eq,zi6]
 constructor
 ·intro h k hk
  have:=h k (List.mem_range.mpr (by omega))
  simp only[f,decide_eq_true_eq,List.getD_eq_getElem?_getD,List.getElem?_eq_getElem hk,List.getElem?_eq_getElem (show k<p.length by omega),Option.getD_some] at this
  exact this
 ·intro h k hk
  have hkm:=List.mem_range.mp hk
  have hk2:k+1<p.length:=by omega
  have:=h k hk2
  simp only[f,decide_eq_true_eq,List.getD_eq_getElem?_getD,List.getElem?_eq_getElem hk2,List.getElem?_eq_getElem (show k<p.length by omega),Option.getD_some]
  exact this
theorem znb(n:Int)(d:Dt)(hl:∀ l,d=.tup l->l.length<=1000):zbD [.val (.int n),.val d]=.ok (.bl (match d with|.tup l=>l.all (isG n)|_=>false),[.val .non,.val .non]):=by
 cases d with
 |tup l =>
  let ρ0:Ev:=[some (.val (.int n)),some (.val (.tup l))]
  have hc:za8 (dIt (zab 1)) (za3 2) dTT (zaj zb8 (dR (zab 0) (dR (zab 2) dR0))) 1 ρ0=.ok (l.map fun x=>.bl (isG n x),ρ0):=by
   refine zb2 (l:=l) (u:=id) (f:=fun x=>.bl (isG n x)) (ds:=l) rfl (by rw[List.map_id]) (hl l rfl) (fun x hx=>?_) rfl
   exact zk5 (ρ':=[some (.val (.int n)),some (.val (.tup l)),some (.val x)]) (ρ'':=[some (.val (.int n)),some (.val (.tup l)),some (.val x)]) rfl rfl (zk6 n x)
  refine zat (ρ':=ρ0) rfl ?_ rfl
  show zci ρ0=_
  unfold zci
  refine zaW ?_
  unfold zht
  have e1:zfh "tuple" (zab 1) ρ0=.ok (.bl true,ρ0):=by simp[zfh,zab,ρ0,zg6,tyD]
  rw[e1]
  simp only[R.bind_ok]
  exact zbk (zbd hc) (zlZ _ _)
 |_=>simp[zbD,zaq,zci,zbp,zj9,zcl,zht,zfh,zab,zg6,tyD,zao]
theorem zjD{n:Int}:∀{l:List Dt},l.all (isG n)=true->∃ zs:List Int,l=zs.map .int/\∀ x∈zs,0<=x/\x<n
 |[],_=>⟨[],rfl,by simp⟩
 |d::r,h=>by
  rw[List.all_cons,Bool.and_eq_true] at h
  obtain ⟨zs,rfl,hz⟩:=zjD h.2
  have h1:=h.1
  unfold isG at h1
  split at h1
  ·rename_i i
   simp only[Bool.and_eq_true,decide_eq_true_eq] at h1
   exact ⟨i::zs,rfl,fun x hx=>by
    rcases List.mem_cons.mp hx with rfl|hx
    ·exact h1
    ·exact hz x hx⟩
  ·cases h1
def zkG(n:Int):Dt->Bool
 |.tup l=>l.all (isG n) && (match zgg l with|some zs=>decide (0<zs.length) && decide (zs.Pairwise (· < ·))|none=>false)
 |_=>false
theorem zh0{n:Nat}(h1:1<=n)(h7:n<=7)(d:Dt)(hl:∀ l,d=.tup l->l.length<=1000):zd2 [.val (.int n),.val d]=.ok (.bl (zkG n d),[.val .non,.val .non]):=by
 let ρ0:Ev:=[some (.val (.int n)),some (.val d)]
 have ec:dEx (zaj zaK (dR (zab 0) dR0)) ρ0=.ok (.nx,ρ0):=zg0 (zmq (ρ':=ρ0) rfl (zjG (by omega) (by omega)))
 refine zat (ρ':=ρ0) rfl ?_ rfl
 show ze7 ρ0=_
 unfold ze7
 rw[zan ec]
 refine zaW ?_
 have ea:zaj zbD (dR (zab 0) (dR (zab 1) dR0)) ρ0=.ok (.bl (match d with|.tup l=>l.all (isG n)|_=>false),ρ0):=zk5 (ρ':=ρ0) (ρ'':=ρ0) rfl rfl (znb n d hl)
 unfold zht
 rw[ea]
 simp only[R.bind_ok]
 cases d with
 |tup l =>
  cases ha:l.all (isG n) with
  |false =>
   simp only[ha]
   show R.ok (Dt.bl false,ρ0)=R.ok (Dt.bl (zkG n (.tup l)),ρ0)
   have:zkG n (.tup l)=false:=by
    show (l.all (isG n) && _)=false
    rw[ha];rfl
   rw[this]
  |true =>
   obtain ⟨zs,rfl,hz⟩:=zjD ha
   simp only[ha]
   have hpt:zkG n (.tup (zs.map .int))=(decide (0<zs.length) && decide (zs.Pairwise (· < ·))):=by
    show ((zs.map Dt.int).all (isG n) && (match zgg (zs.map Dt.int) with|some zs=>decide (0<zs.length) && decide (zs.Pairwise (· < ·))|none=>false))=_
    rw[ha,zg3]
    rfl
   rw[hpt]
   have hlz:zs.length<=1000:=by have:=hl _ rfl;simpa using this
   have e2:dOp gGt (dFn zbR (dA (zab 1) dA0)) (dC (.int 0)) ρ0=.ok (.bl (decide (0<zs.length)),ρ0):=by
    refine zar (d:=.int zs.length) (e:=.int 0) (ρ1:=ρ0) (zbk (d:=.tup (zs.map .int)) rfl (by simp[zbR])) rfl ?_
    show R.ok (Dt.bl (decide ((0:Int)<(zs.length:Nat))))=_
    congr 2
    by_cases h:0<zs.length
    ·rw[decide_eq_true h,decide_eq_true (by omega)]
    ·rw[decide_eq_false h,decide_eq_false (by omega)]
   rw[e2]
   simp only[R.bind_ok]
   cases hp:decide (0<zs.length) with
   |false=>simp
   |true =>
    simp only[Bool.true_and]
    exact zmq (ρ':=ρ0) rfl (zkC zs hlz)
 |_=>rfl
theorem zoV{n:Nat}{p:List Int}(h:Pty n p):zkG n (tz p)=true:=by
 obtain ⟨h1,h2,h3⟩:=h
 unfold zkG tz
 simp only[zg3,Bool.and_eq_true,decide_eq_true_eq,List.all_eq_true]
 refine ⟨fun d hd=>?_,List.length_pos_iff.mpr h1,h2⟩
 obtain ⟨i,hi,rfl⟩:=List.mem_map.mp hd
 have:=h3 i hi
 unfold isG
 simp only[Bool.and_eq_true,decide_eq_true_eq]
 exact this
def zlN(n:Int):Dt->Bool
 |.lst l=>decide (l.length<=8) && l.all (zkG n)
 |_=>false
def Lens:Dt->Prop
 |.lst l=>∀ d∈l,∀ t,d=.tup t->t.length<=1000
 |.scr _=>False
 |_=>True
theorem zga{n:Nat}(h1:1<=n)(h7:n<=7)(d:Dt)(hl:Lens d):zdp [.val (.int n),.val d]=.ok (.bl (zlN n d),[.val .non,.val .non]):=by
 let ρ0:Ev:=[some (.val (.int n)),some (.val d)]
 have ec:dEx (zaj zaK (dR (zab 0) dR0)) ρ0=.ok (.nx,ρ0):=zg0 (zmq (ρ':=ρ0) rfl (zjG (by omega) (by omega)))
 refine zat (ρ':=ρ0) rfl ?_ rfl
 show zdq ρ0=_
 unfold zdq
 rw[zan ec]
 cases d with
 |lst l =>
  have t1:zeF (dTB (zfh "list" (zab 1))) ρ0=.ok (false,ρ0):=by simp[zeF,dTB,zfh,zab,ρ0,zg6,tyD]
  have t2:dTB (dOp gGt (dFn zbR (dA (zab 1) dA0)) (dC (.int 8))) ρ0=.ok (decide (8<l.length),ρ0):=by
   refine zaH (zar (d:=.int l.length) (e:=.int 8) (ρ1:=ρ0) (zbk (d:=.lst l) rfl rfl) rfl ?_)
   show R.ok (Dt.bl (decide ((8:Int)<(l.length:Nat))))=_
   congr 2
   by_cases h:8<l.length
   ·rw[decide_eq_true h,decide_eq_true (by omega)]
   ·rw[decide_eq_false h,decide_eq_false (by omega)]
  by_cases h8:l.length<=8
  ·rw[decide_eq_false (by omega)] at t2
   rw[zan (ρ1:=ρ0) (by rw[zct (by rw[zjB t1];exact t2)];rfl)]
   have hc:za8 (dIt (zab 1)) (za3 2) dTT (zaj zd2 (dR (zab 0) (dR (zab 2) dR0))) 1 ρ0=.ok (l.map fun x=>.bl (zkG n x),ρ0):=by
    refine zb2 (l:=l) (u:=id) (f:=fun x=>.bl (zkG n x)) (ds:=l) rfl (by rw[List.map_id]) (by omega) (fun x hx=>?_) rfl
    exact zk5 (ρ':=[some (.val (.int n)),some (.val (.lst l)),some (.val x)]) (ρ'':=[some (.val (.int n)),some (.val (.lst l)),some (.val x)]) rfl rfl (zh0 h1 h7 x (hl x hx))
   refine zaW (zbk (zbd hc) ?_)
   rw[zlZ]
   have:zlN n (.lst l)=l.all (zkG n):=by
    show (decide (l.length<=8) && l.all (zkG n))=_
    rw[decide_eq_true h8,Bool.true_and]
   rw[this]
  ·rw[decide_eq_true (by omega)] at t2
   rw[zdM (ρ1:=ρ0) (d:=.bl false) (by rw[zel (by rw[zjB t1];exact t2)];rfl)]
   have:zlN n (.lst l)=false:=by
    show (decide (l.length<=8) && l.all (zkG n))=_
    rw[decide_eq_false h8,Bool.false_and]
   rw[this]
 |scr _=>exact hl.elim
 |_ =>
  rw[zdM (ρ1:=ρ0) (d:=.bl false)]
  ·rfl
  ·rw[zel (ρ1:=ρ0) (zrS (by simp[zeF,dTB,zfh,zab,ρ0,zg6,tyD]))];rfl
end Lw
end
section
namespace Bf
def lx:List Int->List Int->Prop
 |x::xs,y::ys=>x<y\/(x=y/\lx xs ys)
 |_,_=>False
theorem zhX:∀{u v a b:List Int},lx u v->lx (u++a) (v++b)
 |_::_,_::_,_,_,.inl h=>.inl h
 |_::_,_::_,_,_,.inr ⟨h1,h2⟩=>.inr ⟨h1,zhX h2⟩
theorem zoB:∀{u a b:List Int},lx a b->lx (u++a) (u++b)
 |[],_,_,h=>h
 |_::_,_,_,h=>.inr ⟨rfl,zoB h⟩
theorem zgw:∀{u v:List Int},lx u v->¬ lx v u
 |x::xs,y::ys,h,h'=>by
  rcases h with h|⟨h1,h2⟩ <;> rcases h' with h'|⟨h3,h4⟩
  ·omega
  ·omega
  ·omega
  ·exact zgw h2 h4
 |[],_,h,_=>h
 |_::_,[],h,_=>h
theorem zqO:∀{u v w:List Int},lx u v->lx v w->lx u w
 |x::xs,y::ys,z::zs,h,h'=>by
  rcases h with h|⟨h1,h2⟩ <;> rcases h' with h'|⟨h3,h4⟩
  ·exact .inl (by omega)
  ·exact .inl (by omega)
  ·exact .inl (by omega)
  ·exact .inr ⟨by omega,zqO h2 h4⟩
 |[],_,_,h,_=>h.elim
 |_::_,[],_,h,_=>h.elim
 |_::_,_::_,[],_,h=>h.elim
theorem zij:∀{u v:List Int},u.length=v.length->lx u v\/u=v\/lx v u
 |[],[],_=>.inr (.inl rfl)
 |x::xs,y::ys,h=>by
  rcases Int.lt_trichotomy x y with z|z|z
  ·exact .inl (.inl z)
  ·subst z
   rcases zij (u:=xs) (v:=ys) (by simpa using h) with z|z|z
   ·exact .inl (.inr ⟨rfl,z⟩)
   ·exact .inr (.inl (by rw[z]))
   ·exact .inr (.inr (.inr ⟨rfl,z⟩))
  ·exact .inr (.inr (.inl z))
inductive Way(ps:List (List Int))(t one:Int):Nat->List Int->Int->Prop
 |one:Way ps t one 0 [one] one
 |step {k:Nat} {w:List Int} {x:Int} (num:Nat) (q:List Int) (m:Int) (h:Way ps t one k w x) (hq:ps[num]? = some q) (hx:x∈q) (hm:m∈q) (ht:t∉q):Way ps t one (k+1) (w++[(num:Int),m]) m
variable{ps:List (List Int)}{t one:Int}
theorem Way.len{k:Nat}{w:List Int}{x:Int}(h:Way ps t one k w x):w.length=2 * k+1:=by
 induction h with
 |one=>rfl
 |step num q m h hq hx hm ht ih=>rw[List.length_append,ih];simp;omega
theorem Way.last{k:Nat}{w:List Int}{x:Int}(h:Way ps t one k w x):w.getLast? = some x:=by
 cases h with
 |one=>rfl
 |step num q m h hq hx hm ht=>simp
structure Least(ps:List (List Int))(t one:Int)(k:Nat)(w:List Int)(x:Int):Prop where
 way:Way ps t one k w x
 mn:∀ j w',Way ps t one j w' x->k<=j
 low:∀ w',Way ps t one k w' x->¬ lx w' w
theorem Least.uniq{k k':Nat}{w w':List Int}{x:Int}(a:Least ps t one k w x)(b:Least ps t one k' w' x):w=w':=by
 have e:k=k':=Nat.le_antisymm (a.mn _ _ b.way) (b.mn _ _ a.way)
 subst e
 rcases zij (u:=w) (v:=w') (by rw[a.way.len,b.way.len]) with z|z|z
 ·exact absurd z (b.low _ a.way)
 ·exact z
 ·exact absurd z (a.low _ b.way)
abbrev FS:=List (Int×List Int)
def ent(e f:Int×List Int):Prop:=e.2.length<f.2.length\/(e.2.length=f.2.length/\lx e.2 f.2)
theorem zqb{α:Type}{R:α->α->Prop}{l:List α}(h:l.Pairwise R){i j:Nat}{a b:α}(hij:i<j)(ha:l[i]? = some a)(hb:l[j]? = some b):R a b:=by
 obtain ⟨hi,rfl⟩:=List.getElem?_eq_some_iff.mp ha
 obtain ⟨hj,rfl⟩:=List.getElem?_eq_some_iff.mp hb
 exact List.pairwise_iff_getElem.mp h i j hi hj hij
structure Out(ps:List (List Int))(t one:Int)(c:Nat)(fs:FS):Prop where
 st:(one,[one])∈fs
 least:∀ e∈fs,∃ k,Least ps t one k e.2 e.1
 srt:fs.Pairwise ent
 done:∀ i e,i<c->fs[i]? = some e->∀(a:Nat) q,ps[a]? = some q->e.1∈q->t∉q->∀ y∈q,y∈fs.map (·.1)
 par:∀ e∈fs,e.2.length=1\/∃ i f s,i<c/\fs[i]? = some f/\s.length=2/\e.2=f.2++s
structure In(ps:List (List Int))(t one:Int)(c:Nat)(u:Int)(wu:List Int)(num:Nat)(pre:List Int)(fs:FS):Prop where
 cur:fs[c]? = some (u,wu)
 st:(one,[one])∈fs
 least:∀ e∈fs,∃ k,Least ps t one k e.2 e.1
 srt:fs.Pairwise ent
 done:∀ i e,i<c->fs[i]? = some e->∀(a:Nat) q,ps[a]? = some q->e.1∈q->t∉q->∀ y∈q,y∈fs.map (·.1)
 par:∀ e∈fs,e.2.length=1\/(∃ i f s,i<c/\fs[i]? = some f/\s.length=2/\e.2=f.2++s)\/∃(a:Nat)(y:Int),e.2=wu++[(a:Int),y]/\(a<num\/(a=num/\y∈pre))
 scan:∀(a:Nat) q,ps[a]? = some q->u∈q->t∉q->(a<num->∀ y∈q,y∈fs.map (·.1))/\(a=num->∀ y∈pre,y∈fs.map (·.1))
theorem Out.start:Out ps t one 0 [(one,[one])]:=by
 refine ⟨by simp,fun e he=>?_,by simp,fun i e h=>by omega,fun e he=>?_⟩
 ·rw[List.mem_singleton.mp he]
  refine ⟨0,.one,fun j _ _=>Nat.zero_le _,fun w' h=>?_⟩
  cases h
  intro z
  exact zgw z z
 ·rw[List.mem_singleton.mp he];exact .inl rfl
theorem Out.pop{c:Nat}{fs:FS}{u:Int}{wu:List Int}(h:Out ps t one c fs)(hc:fs[c]? = some (u,wu)):In ps t one c u wu 0 [] fs :=
 ⟨hc,h.st,h.least,h.srt,h.done,fun e he=>(h.par e he).elim .inl fun z=>.inr (.inl z),fun a q _ _ _=>⟨fun z=>by omega,fun _ y hy=>by cases hy⟩⟩
theorem In.party{c:Nat}{u:Int}{wu:List Int}{num:Nat}{q:List Int}{fs:FS}(h:In ps t one c u wu num q fs)(hq:ps[num]? = some q):In ps t one c u wu (num+1) [] fs:=by
 refine ⟨h.cur,h.st,h.least,h.srt,h.done,fun e he=>?_,fun a q' e1 e2 e3=>⟨fun z y hy=>?_,fun _ y hy=>by cases hy⟩⟩
 ·rcases h.par e he with z|z|⟨a,y,z1,z2⟩
  ·exact .inl z
  ·exact .inr (.inl z)
  ·refine .inr (.inr ⟨a,y,z1,.inl ?_⟩)
   rcases z2 with z|⟨z,_⟩ <;> omega
 ·obtain ⟨s1,s2⟩:=h.scan a q' e1 e2 e3
  by_cases ha:a<num
  ·exact s1 ha y hy
  ·have:a=num:=by omega
   subst this
   rw[hq] at e1
   cases e1
   exact s2 rfl y hy
theorem In.out{c:Nat}{u:Int}{wu:List Int}{fs:FS}(h:In ps t one c u wu ps.length [] fs):Out ps t one (c+1) fs:=by
 refine ⟨h.st,h.least,h.srt,fun i e hi he a q e1 e2 e3 y hy=>?_,fun e he=>?_⟩
 ·by_cases hc:i<c
  ·exact h.done i e hc he a q e1 e2 e3 y hy
  ·have:i=c:=by omega
   subst this
   rw[h.cur] at he
   cases he
   exact (h.scan a q e1 e2 e3).1 (List.getElem?_eq_some_iff.mp e1).1 y hy
 ·rcases h.par e he with z|⟨i,f,s,z1,z2,z3⟩|⟨a,y,z1,z2⟩
  ·exact .inl z
  ·exact .inr ⟨i,f,s,by omega,z2,z3⟩
  ·exact .inr ⟨c,_,[(a:Int),y],by omega,h.cur,rfl,z1⟩
theorem zjh{fs:FS}{x:Int}(h:x∈fs.map (·.1)):∃(i:Nat)(w:List Int),fs[i]? = some (x,w):=by
 obtain ⟨e,he,rfl⟩:=List.mem_map.mp h
 obtain ⟨i,hi⟩:=List.getElem?_of_mem he
 exact ⟨i,e.2,hi⟩
theorem In.cmp{c:Nat}{u:Int}{wu:List Int}{num:Nat}{pre:List Int}{fs:FS}(h:In ps t one c u wu num pre fs){j:Nat}{w:List Int}{y:Int}(hw:Way ps t one j w y):2 * j+1<=wu.length->y∈fs.map (·.1):=by
 induction hw with
 |one=>exact fun _=>List.mem_map.mpr ⟨_,h.st,rfl⟩
 |@step k w x a q m hw hq hx hm ht ih =>
  intro hl
  obtain ⟨i,wx,hi⟩:=zjh (ih (by omega))
  obtain ⟨kx,L⟩:=h.least _ (List.mem_of_getElem? hi)
  have l1:=L.mn _ _ hw
  have l2:=L.way.len
  dsimp only at l1 l2
  have hic:i<c:=by
   rcases Nat.lt_trichotomy i c with z|z|z
   ·exact z
   ·subst z
    rw[h.cur] at hi
    cases hi
    omega
   ·rcases zqb h.srt z h.cur hi with y|⟨y,_⟩ <;> dsimp only at y <;> omega
  exact h.done i _ hic hi a q hq hx ht m hm
theorem In.skip{c:Nat}{u:Int}{wu:List Int}{num:Nat}{pre zay q:List Int}{m:Int}{fs:FS}(h:In ps t one c u wu num pre fs)(hq:ps[num]? = some q)(e:m∈fs.map (·.1)\/u∉q\/t∈q):In ps t one c u wu num (pre++[m]) fs:=by
 refine ⟨h.cur,h.st,h.least,h.srt,h.done,fun e he=>?_,fun a q' e1 e2 e3=>⟨(h.scan a q' e1 e2 e3).1,fun z y hy=>?_⟩⟩
 ·rcases h.par e he with z|z|⟨a,y,z1,z2⟩
  ·exact .inl z
  ·exact .inr (.inl z)
  ·exact .inr (.inr ⟨a,y,z1,z2.imp id fun ⟨p1,p2⟩=>⟨p1,List.mem_append_left _ p2⟩⟩)
 ·rcases List.mem_append.mp hy with z'|z'
  ·exact (h.scan a q' e1 e2 e3).2 z y z'
  ·rw[List.mem_singleton.mp z']
   subst z
   rw[hq] at e1
   cases e1
   rcases e with e|e|e
   ·exact e
   ·exact absurd e2 e
   ·exact absurd e e3
theorem In.add{c:Nat}{u:Int}{wu:List Int}{num:Nat}{pre zay q:List Int}{m:Int}{fs:FS}(h:In ps t one c u wu num pre fs)(hq:ps[num]? = some q)(eq:q=pre++m::zay)(rise:q.Pairwise (· < ·))(hm:m∉fs.map (·.1))(hu:u∈q)(ht:t∉q) :
  In ps t one c u wu num (pre++[m]) (fs++[(m,wu++[(num:Int),m])]):=by
 have hmq:m∈q:=by rw[eq];simp
 have hpre:∀ y∈pre,y<m:=fun y hy=>by
  rw[eq] at rise
  exact (List.pairwise_append.mp rise).2.2 y hy m (by simp)
 obtain ⟨ku,Lu⟩:=h.least _ (List.mem_of_getElem? h.cur)
 dsimp only at Lu
 have lu:=Lu.way.len
 have hcl:c<fs.length:=(List.getElem?_eq_some_iff.mp h.cur).1
 have key:∀ y,y∈fs.map (·.1)->y∈(fs++[(m,wu++[(num:Int),m])]).map (·.1):=fun y hy=>by rw[List.map_append];exact List.mem_append_left _ hy
 have old:∀ i,i<=c->(fs++[(m,wu++[(num:Int),m])])[i]? = fs[i]? := fun i hi=>List.getElem?_append_left (by omega)
 have doneK:∀ i e,i<c->fs[i]? = some e->∀(a:Nat) q,ps[a]? = some q->e.1∈q->t∉q->m∉q:=fun i e hi he a q' e1 e2 e3 hmm=>hm (h.done i e hi he a q' e1 e2 e3 m hmm)
 refine ⟨by rw[old c (Nat.le_refl _)];exact h.cur,List.mem_append_left _ h.st,fun e he=>?_,?_,fun i e hi he a q' e1 e2 e3 y hy=>?_,fun e he=>?_,fun a q' e1 e2 e3=>⟨fun z y hy=>key y ((h.scan a q' e1 e2 e3).1 z y hy),fun z y hy=>?_⟩⟩
 ·rcases List.mem_append.mp he with z|z
  ·exact h.least e z
  ·rw[List.mem_singleton.mp z]
   refine ⟨ku+1,.step num q m Lu.way hq hu hmq ht,fun j w' hw=>?_,fun w' hw=>?_⟩
   ·apply Classical.byContradiction
    intro z
    exact hm (h.cmp hw (by omega))
   ·cases hw with
    |@step _ w'' x a q' _ hw hq' hx hm' ht' =>
     have lw:=hw.len
     obtain ⟨i,wx,hi⟩:=zjh (h.cmp hw (by omega))
     obtain ⟨kx,L⟩:=h.least _ (List.mem_of_getElem? hi)
     dsimp only at L
     have lx':=L.way.len
     have l1:=L.mn _ _ hw
     have nd:¬ i<c:=fun z=>doneK i _ z hi a q' hq' hx ht' hm'
     intro bad
     by_cases hic:i=c
     ·subst hic
      rw[h.cur] at hi
      cases hi
      have:kx=ku:=by omega
      subst this
      rcases zij (u:=w'') (v:=wu) (by omega) with z|z|z
      ·exact L.low _ hw z
      ·subst z
       have ha:¬ a<num:=fun z=>hm ((h.scan a q' hq' hx ht').1 z m hm')
       have:∀{p s:List Int}{x y:Int},lx (p++[x,m]) (p++[y,m])->x<y:=fun {p s x y}=>by
        induction p with
        |nil =>
         intro z
         rcases z with z|⟨_,z|⟨_,z⟩⟩
         ·exact z
         ·omega
         ·exact z.elim
        |cons b p ih =>
         intro z
         rcases z with z|⟨_,z⟩
         ·omega
         ·exact ih z
       have:=this (s:=[]) bad
       omega
      ·exact zgw bad (zhX z)
     ·have hic':c<i:=by omega
      rcases zqb h.srt hic' h.cur hi with y|⟨y1,y2⟩
      ·dsimp only at y;omega
      ·dsimp only at y1 y2
       have ek:kx=ku:=by omega
       subst ek
       have hw2:lx wu w'':=by
        rcases zij (u:=w'') (v:=wx) (by omega) with z|z|z
        ·exact absurd z (L.low _ hw)
        ·rw[z];exact y2
        ·exact zqO y2 z
       exact zgw bad (zhX hw2)
 ·rw[List.pairwise_append]
  refine ⟨h.srt,by simp,fun e he f hf=>?_⟩
  rw[List.mem_singleton.mp hf]
  unfold ent
  rw[List.length_append,lu]
  rcases h.par e he with z|⟨i,f,s,z1,z2,z3,z4⟩|⟨a,y,z1,z2⟩
  ·left;rw[z];simp
  ·rw[z4,List.length_append,z3]
   rcases zqb h.srt z1 z2 h.cur with y|⟨y1,y2⟩
   ·dsimp only at y
    left;simp;omega
   ·dsimp only at y1 y2
    right
    exact ⟨by simp;omega,zhX y2⟩
  ·right
   rw[z1]
   refine ⟨by simp;omega,zoB ?_⟩
   rcases z2 with z|⟨z,z'⟩
   ·exact .inl (by omega)
   ·exact .inr ⟨by omega,.inl (hpre y z')⟩
 ·rw[old i (by omega)] at he
  exact key y (h.done i e hi he a q' e1 e2 e3 y hy)
 ·rcases List.mem_append.mp he with z|z
  ·rcases h.par e z with z|⟨i,f,s,z1,z2,z3⟩|⟨a,y,z1,z2⟩
   ·exact .inl z
   ·exact .inr (.inl ⟨i,f,s,z1,by rw[old i (by omega)];exact z2,z3⟩)
   ·exact .inr (.inr ⟨a,y,z1,z2.imp id fun ⟨p1,p2⟩=>⟨p1,List.mem_append_left _ p2⟩⟩)
  ·rw[List.mem_singleton.mp z]
   exact .inr (.inr ⟨num,m,rfl,.inr ⟨rfl,by simp⟩⟩)
 ·rcases List.mem_append.mp hy with z'|z'
  ·exact key y ((h.scan a q' e1 e2 e3).2 z y z')
  ·rw[List.mem_singleton.mp z',List.map_append];simp
theorem Out.all{fs:FS}(h:Out ps t one fs.length fs){j:Nat}{w:List Int}{y:Int}(hw:Way ps t one j w y):y∈fs.map (·.1):=by
 induction hw with
 |one=>exact List.mem_map.mpr ⟨_,h.st,rfl⟩
 |@step k w x a q m hw hq hx hm ht ih =>
  obtain ⟨i,wx,hi⟩:=zjh ih
  exact h.done i _ (List.getElem?_eq_some_iff.mp hi).1 hi a q hq hx ht m hm
end Bf
end
section
namespace Bf
inductive Rc(ps:List (List Int))(t en:Int):Nat->Int->Prop
 |en:Rc ps t en 0 en
 |step {k:Nat} {x:Int} (a:Nat) (q:List Int) (y:Int) (h:Rc ps t en k x) (hq:ps[a]? = some q) (hx:x∈q) (hy:y∈q) (ht:t∉q):Rc ps t en (k+1) y
def Ds(ps:List (List Int))(t en:Int)(j:Nat)(x:Int):Prop:=Rc ps t en j x/\∀ i,Rc ps t en i x->j<=i
variable{ps:List (List Int)}{t one en:Int}{n:Nat}
theorem Ds.of:∀(j:Nat){x:Int},Rc ps t en j x->∃ i,i<=j/\Ds ps t en i x:=by
 intro j
 induction j using Nat.strongRecOn with
 |ind j ih =>
  intro x h
  by_cases z:∃ i,i<j/\Rc ps t en i x
  ·obtain ⟨i,hi,hr⟩:=z
   obtain ⟨i',h1,h2⟩:=ih i hi hr
   exact ⟨i',by omega,h2⟩
  ·exact ⟨j,Nat.le_refl _,h,fun i hi=>by
    apply Classical.byContradiction
    intro y
    exact z ⟨i,by omega,hi⟩⟩
theorem Ds.uniq{i j:Nat}{x:Int}(a:Ds ps t en i x)(b:Ds ps t en j x):i=j:=Nat.le_antisymm (a.2 _ b.1) (b.2 _ a.1)
theorem Ds.zero{x:Int}(a:Ds ps t en 0 x):x=en:=by
 have h:=a.1
 cases h
 rfl
theorem Ds.prev{j:Nat}{x:Int}(h:Ds ps t en (j+1) x):∃(a:Nat)(q:List Int)(z:Int),ps[a]? = some q/\z∈q/\x∈q/\t∉q/\Ds ps t en j z:=by
 have h1:=h.1
 cases h1 with
 |@step _ z a q _ hr hq hx hy ht =>
  refine ⟨a,q,z,hq,hx,hy,ht,hr,fun i hi=>?_⟩
  have:=h.2 _ (.step a q x hi hq hx hy ht)
  omega
theorem Rc.rg(hp:∀ q∈ps,∀ x∈q,0<=x/\x<(n:Int))(he:0<=en/\en<(n:Int)){j:Nat}{x:Int}(h:Rc ps t en j x):0<=x/\x<(n:Int):=by
 cases h with
 |en=>exact he
 |step a q y h hq hx hy ht=>exact hp q (List.mem_of_getElem? hq) x hy
theorem Ds.line(hp:∀ q∈ps,∀ x∈q,0<=x/\x<(n:Int))(he:0<=en/\en<(n:Int)):∀(j:Nat){x:Int},Ds ps t en j x->∃ l:List Int,l.length=j+1/\l.Nodup/\∀ y∈l,(0<=y/\y<(n:Int))/\∃ i,i<=j/\Ds ps t en i y
 |0,x,h=>⟨[x],rfl,by simp,fun y hy=>by rw[List.mem_singleton.mp hy];exact ⟨h.1.rg hp he,0,Nat.le_refl _,h⟩⟩
 |j+1,x,h=>by
  obtain ⟨a,q,z,_,_,_,_,hz⟩:=h.prev
  obtain ⟨l,h1,h2,h3⟩:=Ds.line hp he j hz
  refine ⟨x::l,by simp[h1],List.nodup_cons.mpr ⟨fun hx=>?_,h2⟩,fun y hy=>?_⟩
  ·obtain ⟨_,i,hi,hd⟩:=h3 x hx
   have:=hd.uniq h
   omega
  ·rcases List.mem_cons.mp hy with rfl|hy
   ·exact ⟨h.1.rg hp he,j+1,Nat.le_refl _,h⟩
   ·obtain ⟨g1,i,g2,g3⟩:=h3 y hy
    exact ⟨g1,i,by omega,g3⟩
theorem way_rc{k:Nat}{w:List Int}{x:Int}(h:Way ps t one k w x):∀{i:Nat},Rc ps t en i x->Rc ps t en (i+k) one:=by
 induction h with
 |one=>exact fun h=>h
 |@step k w x a q m hw hq hx hm ht ih =>
  intro i hi
  have:=ih (.step a q x hi hq hm hx ht)
  rwa [show i+(k+1)=i+1+k by omega]
structure Gr(ps:List (List Int))(t one en:Int)(D k i:Nat)(w:List Int)(x:Int):Prop where
 way:Way ps t one k w x
 ds:Ds ps t en i x
 sum:k+i=D
 low:∀ w' x',Way ps t one k w' x'->Ds ps t en i x'->¬ lx w' w
theorem Gr.start{D:Nat}(h:Ds ps t en D one):Gr ps t one en D 0 D [one] one:=by
 refine ⟨.one,h,by omega,fun w' x' hw _ z=>?_⟩
 cases hw
 exact zgw z z
theorem Gr.step{D k i:Nat}{w:List Int}{x:Int}(hD:Ds ps t en D one)(h:Gr ps t one en D k (i+1) w x){num:Nat}{q:List Int}{g:Int}(hq:ps[num]? = some q)(hx:x∈q)(hg:g∈q)(ht:t∉q)(hd:Ds ps t en i g)
  (hlow:∀(a:Nat) q' b,ps[a]? = some q'->x∈q'->t∉q'->b∈q'->Ds ps t en i b->¬ lx [(a:Int),b] [(num:Int),g]):Gr ps t one en D (k+1) i (w++[(num:Int),g]) g:=by
 refine ⟨.step num q g h.way hq hx hg ht,hd,by have:=h.sum;omega,fun w' x' hw hd' bad=>?_⟩
 cases hw with
 |@step _ u y a q' _ hw hq' hy hm' ht' =>
  have r1:Rc ps t en (i+1) y:=.step a q' y hd'.1 hq' hm' hy ht'
  obtain ⟨i',l1,d1⟩:=Ds.of _ r1
  have l2:=hD.2 _ (way_rc hw d1.1)
  have s:=h.sum
  have e:i'=i+1:=by omega
  subst e
  have n1:=h.low _ _ hw d1
  have le:u.length=w.length:=by rw[hw.len,h.way.len]
  rcases zij (u:=u) (v:=w) le with z|z|z
  ·exact n1 z
  ·subst z
   have ex:y=x:=by
    have a1:=hw.last
    rw[h.way.last] at a1
    exact (Option.some.inj a1).symm
   subst ex
   have:∀{p a b:List Int},lx (p++a) (p++b)->lx a b:=fun {p a b}=>by
    induction p with
    |nil=>exact fun z=>z
    |cons c p ih =>
     intro z
     rcases z with z|⟨_,z⟩
     ·omega
     ·exact ih z
   exact hlow a q' x' hq' hy ht' hm' hd' (this bad)
  ·exact zgw bad (zhX z)
theorem Gr.least{D k:Nat}{w:List Int}{x:Int}(hD:Ds ps t en D one)(h:Gr ps t one en D k 0 w x):Least ps t one k w en:=by
 have ex:=h.ds.zero
 subst ex
 refine ⟨h.way,fun j w' hw=>?_,fun w' hw=>h.low w' x hw h.ds⟩
 have:=hD.2 _ (way_rc hw (.en))
 have:=h.sum
 omega
def lk:List (Int×Int)->Int->Option Int
 |[],_=>none
 |p::r,k=>if p.1=k then some p.2 else lk r k
def pt(l:List (Int×Int))(k d:Int):List (Int×Int):=if (lk l k).isSome=true then l.map (fun p=>if p.1=k then (p.1,d) else p) else l++[(k,d)]
theorem zoq{d k:Int}:∀{l:List (Int×Int)}(x:Int),lk (l.map fun p=>if p.1=k then (p.1,d) else p) x=if x=k then (lk l x).map (fun _=>d) else lk l x
 |[],x=>by simp[lk]
 |p::r,x=>by
  rw[List.map_cons]
  have ih:=zoq (d:=d) (k:=k) (l:=r) x
  by_cases e:p.1=k
  ·rw[if_pos e]
   unfold lk
   dsimp only
   by_cases e2:p.1=x
   ·rw[if_pos e2,if_pos e2,if_pos (by omega)];rfl
   ·rw[if_neg e2,if_neg e2,ih]
  ·rw[if_neg e]
   unfold lk
   by_cases e2:p.1=x
   ·rw[if_pos e2,if_pos e2,if_neg (by omega)]
   ·rw[if_neg e2,if_neg e2,ih]
theorem zmu{d k:Int}:∀{l:List (Int×Int)}(x:Int),lk l k=none->lk (l++[(k,d)]) x=if x=k then some d else lk l x
 |[],x,_=>by
  show (if k=x then some d else none)=_
  by_cases e:k=x
  ·rw[if_pos e,if_pos e.symm]
  ·rw[if_neg e,if_neg (fun z=>e z.symm)];rfl
 |p::r,x,h=>by
  unfold lk at h
  split at h
  ·cases h
  rename_i hk
  have ih:=zmu (d:=d) (l:=r) x h
  show (if p.1=x then some p.2 else lk (r++[(k,d)]) x)=_
  by_cases e:p.1=x
  ·rw[if_pos e,if_neg (by omega)]
   unfold lk
   rw[if_pos e]
  ·rw[if_neg e,ih]
   by_cases e2:x=k
   ·rw[if_pos e2,if_pos e2]
   ·rw[if_neg e2,if_neg e2]
    rw[show lk (p::r) x=lk r x from by show (if p.1=x then _ else _)=_;rw[if_neg e]]
theorem zmY{l:List (Int×Int)}{k d:Int}(x:Int):lk (pt l k d) x=if x=k then some d else lk l x:=by
 unfold pt
 split
 ·rename_i h
  rw[zoq]
  by_cases e:x=k
  ·subst e
   rw[if_pos rfl,if_pos rfl]
   cases h':lk l x with
   |none=>rw[h'] at h;cases h
   |some y=>rfl
  ·rw[if_neg e,if_neg e]
 ·rename_i h
  rw[zmu]
  cases h':lk l k with
  |none=>rfl
  |some y=>rw[h'] at h;exact absurd rfl h
structure Bi(ps:List (List Int))(t en:Int)(n k:Nat)(ks:List (Int×Int)):Prop where
 snd:∀ x d,lk ks x=some d->∃ j:Nat,d=j/\j<=n/\Rc ps t en j x
 z0:lk ks en=some 0
 cmp:∀ j x,j<=k->Rc ps t en j x->∃ d,lk ks x=some d/\d<=j
def Nr(q:List Int)(g:Int)(ks:List (Int×Int))(mn:Int):Prop:=(∃ o∈q,o≠g/\∃ d,lk ks o=some d/\mn=d+1)/\∀ o∈q,o≠g->∀ d,lk ks o=some d->mn<=d+1
def Stp(n:Nat)(q:List Int)(g:Int)(ks ks':List (Int×Int)):Prop :=
 (∃ mn,Nr q g ks mn/\mn<(lk ks g).getD ((n:Int)+1)/\ks'=pt ks g mn)\/(ks'=ks/\((∀ o∈q,o≠g->lk ks o=none)\/∃ mn,Nr q g ks mn/\¬ mn<(lk ks g).getD ((n:Int)+1)))
def zoD(ks ks':List (Int×Int)):Prop:=∀ x d,lk ks x=some d->∃ d',d'<=d/\lk ks' x=some d'
theorem zoD.refl(ks:List (Int×Int)):zoD ks ks:=fun x d h=>⟨d,Int.le_refl _,h⟩
theorem zoD.trans{a b c:List (Int×Int)}(h:zoD a b)(h':zoD b c):zoD a c:=fun x d e=>by
 obtain ⟨d1,l1,e1⟩:=h x d e
 obtain ⟨d2,l2,e2⟩:=h' x d1 e1
 exact ⟨d2,by omega,e2⟩
theorem Bi.step{k:Nat}{ks ks':List (Int×Int)}{q:List Int}{g:Int}{a:Nat}(h:Bi ps t en n k ks)(hk:k+1<=n)(hq:ps[a]? = some q)(ht:t∉q)(hg:g∈q)(s:Stp n q g ks ks') :
  Bi ps t en n k ks'/\zoD ks ks'/\∀ z∈q,Rc ps t en k z->∃ d,lk ks' g=some d/\d<=k+1:=by
 rcases s with ⟨mn,⟨⟨o,ho,hne,d,ed,em⟩,hmin⟩,hlt,rfl⟩|⟨rfl,hn⟩
 ·obtain ⟨j,dj,_,rj⟩:=h.snd o d ed
  have mono:zoD ks (pt ks g mn):=fun x d' e=>by
   rw[zmY]
   by_cases z:x=g
   ·subst z
    rw[e] at hlt
    exact ⟨mn,by have:mn<d':=hlt;omega,if_pos rfl⟩
   ·exact ⟨d',Int.le_refl _,by rw[if_neg z];exact e⟩
  have hup:mn<=n:=by
   cases e:lk ks g with
   |none=>rw[e] at hlt;have:mn<(n:Int)+1:=hlt;omega
   |some d' =>
    rw[e] at hlt
    have h1:mn<d':=hlt
    obtain ⟨j',h2,h3,_⟩:=h.snd g d' e
    omega
  refine ⟨⟨fun x d' e=>?_,?_,fun j' x hj hx=>?_⟩,mono,fun z hz hr=>?_⟩
  ·rw[zmY] at e
   by_cases z:x=g
   ·rw[if_pos z] at e
    cases e
    subst z
    exact ⟨j+1,by omega,by omega,.step a q x rj hq ho hg ht⟩
   ·rw[if_neg z] at e
    exact h.snd x d' e
  ·rw[zmY]
   by_cases z:en=g
   ·subst z
    rw[h.z0] at hlt
    have:mn<0:=hlt
    omega
   ·rw[if_neg z];exact h.z0
  ·obtain ⟨d',e1,e2⟩:=h.cmp j' x hj hx
   obtain ⟨d2,l2,e3⟩:=mono x d' e1
   exact ⟨d2,e3,by omega⟩
  ·obtain ⟨d',e1,e2⟩:=h.cmp k z (Nat.le_refl _) hr
   by_cases zg:z=g
   ·subst zg
    obtain ⟨d2,l2,e3⟩:=mono z d' e1
    exact ⟨d2,e3,by omega⟩
   ·have:=hmin z hz zg d' e1
    exact ⟨mn,by rw[zmY,if_pos rfl],by omega⟩
 ·refine ⟨h,.refl _,fun z hz hr=>?_⟩
  obtain ⟨d',e1,e2⟩:=h.cmp k z (Nat.le_refl _) hr
  by_cases zg:z=g
  ·subst zg;exact ⟨d',e1,by omega⟩
  ·rcases hn with hn|⟨mn,⟨_,hmin⟩,hlt⟩
   ·rw[hn z hz zg] at e1;cases e1
   ·have:=hmin z hz zg d' e1
    cases e:lk ks' g with
    |none=>rw[e] at hlt;have:¬ mn<(n:Int)+1:=hlt;omega
    |some d2=>rw[e] at hlt;have:¬ mn<d2:=hlt;exact ⟨d2,rfl,by omega⟩
structure Rd(ps:List (List Int))(t en:Int)(n k a:Nat)(pre:List Int)(ks:List (Int×Int)):Prop where
 bi:Bi ps t en n k ks
 sc:∀(b:Nat) q,ps[b]? = some q->t∉q->∀ x z,z∈q->Rc ps t en k z->(b<a/\x∈q\/b=a/\x∈pre)->∃ d,lk ks x=some d/\d<=k+1
theorem Rd.start{k:Nat}{ks:List (Int×Int)}(h:Bi ps t en n k ks):Rd ps t en n k 0 [] ks:=⟨h,fun b q _ _ x z _ _ e=>by
 rcases e with ⟨e,_⟩|⟨_,e⟩
 ·omega
 ·cases e⟩
theorem Rd.guest{k a:Nat}{pre q:List Int}{g:Int}{ks ks':List (Int×Int)}(h:Rd ps t en n k a pre ks)(hk:k+1<=n)(hq:ps[a]? = some q)(ht:t∉q)(hg:g∈q)(s:Stp n q g ks ks'):Rd ps t en n k a (pre++[g]) ks':=by
 obtain ⟨b1,b2,b3⟩:=h.bi.step hk hq ht hg s
 refine ⟨b1,fun b q' e1 e2 x z hz hr hc=>?_⟩
 have old:(b<a/\x∈q'\/b=a/\x∈pre)->∃ d,lk ks' x=some d/\d<=k+1:=fun y=>by
  obtain ⟨d,l1,l2⟩:=h.sc b q' e1 e2 x z hz hr y
  obtain ⟨d',l3,l4⟩:=b2 x d l1
  exact ⟨d',l4,by omega⟩
 rcases hc with hc|⟨rfl,hc⟩
 ·exact old (.inl hc)
 ·rcases List.mem_append.mp hc with y|y
  ·exact old (.inr ⟨rfl,y⟩)
  ·rw[List.mem_singleton.mp y]
   rw[hq] at e1
   cases e1
   exact b3 z hz hr
theorem Rd.party{k a:Nat}{q:List Int}{ks:List (Int×Int)}(h:Rd ps t en n k a q ks)(hq:ps[a]? = some q):Rd ps t en n k (a+1) [] ks:=by
 refine ⟨h.bi,fun b q' e1 e2 x z hz hr hc=>?_⟩
 rcases hc with ⟨hb,hx⟩|⟨_,hc⟩
 ·by_cases y:b<a
  ·exact h.sc b q' e1 e2 x z hz hr (.inl ⟨y,hx⟩)
  ·have:b=a:=by omega
   subst this
   rw[hq] at e1
   cases e1
   exact h.sc b q hq e2 x z hz hr (.inr ⟨rfl,hx⟩)
 ·cases hc
theorem Rd.past{k a:Nat}{q:List Int}{ks:List (Int×Int)}(h:Rd ps t en n k a [] ks)(hq:ps[a]? = some q)(ht:t∈q):Rd ps t en n k (a+1) [] ks:=by
 refine ⟨h.bi,fun b q' e1 e2 x z hz hr hc=>?_⟩
 rcases hc with ⟨hb,hx⟩|⟨_,hc⟩
 ·by_cases y:b<a
  ·exact h.sc b q' e1 e2 x z hz hr (.inl ⟨y,hx⟩)
  ·have:b=a:=by omega
   subst this
   rw[hq] at e1
   cases e1
   exact absurd ht e2
 ·cases hc
theorem Rd.out{k:Nat}{ks:List (Int×Int)}(h:Rd ps t en n k ps.length [] ks):Bi ps t en n (k+1) ks:=by
 refine ⟨h.bi.snd,h.bi.z0,fun j x hj hx=>?_⟩
 by_cases z:j<=k
 ·exact h.bi.cmp j x z hx
 ·have:j=k+1:=by omega
  subst this
  cases hx with
  |@step _ z a q _ hr hq hz hy ht =>
   obtain ⟨d,e1,e2⟩:=h.sc a q hq ht x z hz hr (.inl ⟨(List.getElem?_eq_some_iff.mp hq).1,hy⟩)
   exact ⟨d,e1,by omega⟩
theorem Bi.start:Bi ps t en n 0 [(en,0)]:=by
 have e0:lk [(en,0)] en=some 0:=if_pos rfl
 refine ⟨fun x d h=>?_,e0,fun j x hj hx=>?_⟩
 ·unfold lk at h
  split at h
  ·rename_i e
   cases h
   dsimp only at e
   subst e
   exact ⟨0,rfl,Nat.zero_le _,.en⟩
  ·cases h
 ·have:j=0:=by omega
  subst this
  cases hx
  exact ⟨0,e0,by omega⟩
theorem Bi.far{ks:List (Int×Int)}(h:Bi ps t en n n ks)(hp:∀ q∈ps,∀ x∈q,0<=x/\x<(n:Int))(he:0<=en/\en<(n:Int))(hN:∀ l:List Int,l.Nodup->(∀ x∈l,0<=x/\x<(n:Int))->l.length<=n)(x:Int) :
  (∀ j:Nat,Ds ps t en j x->lk ks x=some (j:Int)/\j<n)/\(∀ d,lk ks x=some d->∃ j:Nat,d=j/\Ds ps t en j x):=by
 have f1:∀ j:Nat,Ds ps t en j x->lk ks x=some (j:Int)/\j<n:=fun j hj=>by
  obtain ⟨l,l1,l2,l3⟩:=hj.line hp he
  have:=hN l l2 fun y hy=>(l3 y hy).1
  obtain ⟨d,e1,e2⟩:=h.cmp j x (by omega) hj.1
  obtain ⟨i,e3,_,e4⟩:=h.snd x d e1
  have:=hj.2 i e4
  exact ⟨by rw[e1];congr 1;omega,by omega⟩
 refine ⟨f1,fun d hd=>?_⟩
 obtain ⟨i,e3,_,e4⟩:=h.snd x d hd
 obtain ⟨j,_,hj⟩:=Ds.of i e4
 have:=(f1 j hj).1
 rw[hd] at this
 exact ⟨j,Option.some.inj this,hj⟩
end Bf
end
section
namespace Lw
open PySem PySem.Spec L2 PV
abbrev pd(ps:List (List Int)):Dt:=.lst (lp ps)
theorem zq4(a:Int)(q:List Int)(neg:Bool):gIn neg (.int a) (tz q)=.ok (.bl (if neg then !decide (a∈q) else decide (a∈q))):=by
 unfold gIn tz
 simp only[zeV]
 simp[okN,zlY]
theorem zkk(q:List Int)(a b c:Int):zfD [.val (tz q),.val (.int a),.val (.int b),.val (.int c)]=.ok (.bl (decide (a∈q) && (decide (b∈q) && decide (c∉q))),[.val .non,.val .non,.val .non,.val .non]):=by
 let ρ:Ev:=[some (.val (tz q)),some (.val (.int a)),some (.val (.int b)),some (.val (.int c))]
 refine zat (ρ':=ρ) rfl ?_ rfl
 show zi8 ρ=_
 unfold zi8
 refine zaW ?_
 have e1:dOp (gIn false) (zab 1) (zab 0) ρ=.ok (.bl (decide (a∈q)),ρ):=zar rfl rfl (by rw[zq4];rfl)
 have e2:dOp (gIn false) (zab 2) (zab 0) ρ=.ok (.bl (decide (b∈q)),ρ):=zar rfl rfl (by rw[zq4];rfl)
 have e3:dOp (gIn true) (zab 3) (zab 0) ρ=.ok (.bl (decide (c∉q)),ρ):=zar rfl rfl (by rw[zq4];simp)
 unfold zht
 rw[e1]
 simp only[R.bind_ok]
 cases decide (a∈q)
 ·rfl
 ·simp only[e2,R.bind_ok,Bool.true_and]
  cases decide (b∈q)
  ·rfl
  ·simpa using e3
theorem zj2{α:Type}{l:List α}{x:α}(h:l[l.length-1]? = some x):atI l (-1)=some x:=by
 have hl:0<l.length:=by
  have:=(List.getElem?_eq_some_iff.mp h).1
  omega
 unfold atI
 have:ixN l.length (-1)=some (l.length-1):=by
  unfold ixN
  simp
  omega
 rw[this]
 simpa using h
theorem zmT{l:List Dt}{d:Dt}(h:l[l.length-1]? = some d):gIx (.tup l) (.int (-1))=.ok d:=by
 show (match atI l (-1) with|some d=>R.ok d|none=>.no)=_
 rw[zj2 h]
theorem znq{ps:List (List Int)}{p:Int}(h0:0<=p)(h1:p<ps.length):gIx (pd ps) (.int p)=.ok (tz (ps.getD p.toNat [])):=by
 have hq:p.toNat<ps.length:=by omega
 refine zpy h0 (by simp[lp];exact h1) ?_
 unfold lp
 rw[List.getElem?_map,List.getElem?_eq_getElem hq,List.getD_eq_getElem?_getD,List.getElem?_eq_getElem hq]
 rfl
theorem znX{α:Type}(f:α->Dt)(l:List α):zk4 (l.map f)=((List.range l.length).zip l).map fun z=>.tup [.int (z.1:Nat),f z.2]:=by
 unfold zk4
 rw[List.length_map,List.zip_map_right,List.map_map]
 rfl
theorem zhM{k:Nat}:∀{xs:List Dt}{j:Nat},zbx k j (xs.map Arg.d)=none
 |[],_=>rfl
 |x::xs,j=>by rw[List.map_cons];unfold zbx;exact zhM
theorem zkV{xs:List Dt}{bs:List B}:∀{ρ:Ev}{k:Nat},zen (xs.map Arg.d) bs k ρ = ρ
 |[],_=>rfl
 |o::r,k=>by
  show (match zbQ (xs.map Arg.d) k with|some j=>bs[j]?|none=>o)::zen (xs.map Arg.d) bs (k+1) r=_
  rw[zkV (ρ:=r)]
  unfold zbQ
  rw[zhM]
theorem zgC{ρ:Ev}:∀{xs:List Dt},zas ρ (xs.map Arg.d)=.ok (xs.map B.val)
 |[]=>rfl
 |x::xs=>by rw[List.map_cons];unfold zas;rw[zgC];rfl
theorem zfO{as:List PV.Arg}:∀{xs:List Dt}{j:Nat},zaE as j (xs.map Arg.d)=true
 |[],_=>rfl
 |x::xs,j=>by rw[List.map_cons];unfold zaE;exact zfO
theorem zc5{ρ:Ev}:dR0 ρ=.ok (([]:List Dt).map Arg.d,ρ):=rfl
theorem zaJ{fa:De}{fr:DAr}{ρ ρ1 ρ2:Ev}{d:Dt}{xs:List Dt}(h1:fa ρ=.ok (d,ρ1))(h2:fr ρ1=.ok (xs.map Arg.d,ρ2)):dR fa fr ρ=.ok ((d::xs).map Arg.d,ρ2):=by
 unfold dR;rw[h1];simp only[R.bind_ok];rw[h2];rfl
theorem zeZ{F:FD}{fr:DAr}{ρ ρ1:Ev}{xs:List Dt}{y:Dt}{l:List B}(h:fr ρ=.ok (xs.map Arg.d,ρ1))(hF:F (xs.map B.val)=.ok (y,l)):zaj F fr ρ=.ok (y,ρ1):=by
 unfold zaj
 rw[h]
 simp only[R.bind_ok]
 rw[if_pos (show uniq (xs.map Arg.d)=true from zfO),zgC]
 simp only[R.bind_ok]
 rw[hF]
 simp only[R.bind_ok]
 rw[zkV]
theorem zi1{n:Int}:∀{p:List Int}{lo:Int},p.Pairwise (· < ·)->(∀ x∈p,lo<=x/\x<n)->p.length<=(n-lo).toNat
 |[],_,_,_=>Nat.zero_le _
 |x::r,lo,hp,h=>by
  rw[List.pairwise_cons] at hp
  have h1:=h x (by simp)
  have ih:=zi1 (p:=r) (lo:=x+1) hp.2 fun y hy=>⟨by have:=hp.1 y hy;omega,(h y (by simp[hy])).2⟩
  rw[List.length_cons]
  omega
def pr(p:Int×Int):Dt:=.tup [.int p.1,.int p.2]
theorem zoM{x y:List Dt}(h:x.length+y.length<=16777216):ze8 (.tup x) (.tup y)=.ok (.tup (x++y)):=if_pos h
theorem zqB(w:List Int)(p:Int×Int)(h:w.length<=1000):ze8 (tz w) (pr p)=.ok (tz (w++[p.1,p.2])):=by
 unfold tz pr
 rw[zoM (by rw[List.length_map];simp;omega)]
 simp
theorem zbo{fi:DA}{g:DG}{b:DS}{ρ ρ1:Ev}{ds:List Dt}(h:fi ρ=.ok (ds,ρ1)):zcD fi g b ρ=zl8 g b ds ρ1:=by
 unfold zcD;rw[h];rfl
def brD(a b c:Int)(u v w:List Int):Dt:=.tup [.int a,.int b,.int c,.tup [tz u,tz v,tz w]]
def Br(d:Dt):Prop:=∃ a b c u v w,d=brD a b c u v w/\(u≠[]/\u.length<=20)/\(v≠[]/\v.length<=20)/\(w≠[]/\w.length<=20)
theorem zox{i:Nat}{fa:De}{ρ ρ1:Ev}{l0 l:List Dt}{d:Dt}(h0:ρ[i]? = some (some (.own l0)))(h1:fa ρ=.ok (d,ρ1))(h2:ρ1[i]? = some (some (.own l)))(hl:l.length<=1000):dEx (zfg i fa) ρ=.ok (.nx,ρ1.set i (some (.own (l++[d])))):=by
 refine zg0 (d:=.non) ?_
 unfold zfg
 rw[h0]
 simp only
 rw[h1]
 simp only[R.bind_ok]
 rw[h2]
 simp only
 rw[if_pos (by omega)]
theorem zoZ{i:Nat}{ρ:Ev}{l:List Dt}(h:ρ[i]? = some (some (.own l))):zis i ρ=.ok (.lst l,ρ.set i (some (.val (.lst l)))):=by
 unfold zis;rw[h]
theorem zr7{fa fb:De}{ρ ρ1 ρ2:Ev}{x y:List Dt}(h1:fa ρ=.ok (.lst x,ρ1))(h2:fb ρ1=.ok (.lst y,ρ2))(hl:x.length+y.length<=1000):zrH fa fb ρ=.ok (x++y,ρ2):=by
 unfold zrH
 rw[h1]
 simp only[R.bind_ok]
 rw[h2]
 simp only[R.bind_ok]
 rw[if_pos (by omega)]
theorem zpK{g:List Dt->R (List Dt)}{f:De}{ρ ρ1:Ev}{d:Dt}{z:List Dt}(h:f ρ=.ok (d,ρ1))(hg:g [d]=.ok z):ziT g (dA f dA0) ρ=.ok (z,ρ1):=by
 unfold ziT
 rw[zcu h rfl]
 simp only[R.bind_ok]
 rw[hg]
 rfl
theorem dAz{fa:De}{ρ:Ev}{d:Dt}(h:fa ρ=.ok (d,ρ)):dA fa dA0 ρ=.ok ([d],ρ):=zcu h rfl
theorem dAc{fa:De}{fr:DA}{ρ:Ev}{d:Dt}{ds:List Dt}(h1:fa ρ=.ok (d,ρ))(h2:fr ρ=.ok (ds,ρ)):dA fa fr ρ=.ok (d::ds,ρ):=zcu h1 h2
def fsD(fs:List (Int×List Int)):List (Int×Dt):=fs.map fun p=>(p.1,tz p.2)
theorem zew:∀{fs:List (Int×List Int)}{k:Int},k∉fs.map (·.1)->zdz (fsD fs) k=none
 |[],_,_=>rfl
 |p::fs,k,h=>by
  rw[List.map_cons,List.mem_cons,not_or] at h
  show (if p.1=k then some (tz p.2) else zdz (fsD fs) k)=none
  rw[if_neg (fun z=>h.1 z.symm)]
  exact zew h.2
theorem zf3:∀{fs:List (Int×List Int)}{k:Int},k∈fs.map (·.1)->∃ w,(k,w)∈fs/\zdz (fsD fs) k=some (tz w)
 |[],_,h=>by simp at h
 |p::fs,k,h=>by
  by_cases e:p.1=k
  ·refine ⟨p.2,by rw[<- e];simp,?_⟩
   show (if p.1=k then some (tz p.2) else zdz (fsD fs) k)=_
   rw[if_pos e]
  ·rw[List.map_cons,List.mem_cons] at h
   obtain ⟨w,h1,h2⟩:=zf3 (h.resolve_left fun z=>e z.symm)
   refine ⟨w,List.mem_cons_of_mem _ h1,?_⟩
   show (if p.1=k then some (tz p.2) else zdz (fsD fs) k)=_
   rw[if_neg e];exact h2
theorem zmM{fs:List (Int×List Int)}{k:Int}{w:List Int}(h:k∉fs.map (·.1)):zoa (fsD fs) k (tz w)=fsD (fs++[(k,w)]):=by
 unfold zoa
 rw[zew h]
 simp[fsD]
structure Fo(n:Nat)(fs:List (Int×List Int)):Prop where
 nd:(fs.map (·.1)).Nodup
 rg:∀ k:Int,k∈fs.map (·.1)->0<=k/\k<(n:Int)
 ws:∀ p∈fs,p.2≠[]/\p.2.length+1<=2 * fs.length
theorem zfi{n:Nat}{l:List Int}(h:l.Nodup)(hr:∀ x∈l,0<=x/\x<n):l.length<=n:=by
 have hsp:=zcx l
 have hlt:(zex l).Pairwise (· < ·):=List.Pairwise.imp₂ (fun a b hab hne=>by omega) (zeg l) (hsp.nodup_iff.mpr h)
 have:=zi1 (lo:=0) (n:=(n:Int)) hlt fun x hx=>hr x (hsp.mem_iff.mp hx)
 rw[hsp.length_eq] at this
 omega
theorem Fo.le{n:Nat}{fs:List (Int×List Int)}(F:Fo n fs):fs.length<=n:=by
 have:=zfi F.nd F.rg
 simpa using this
theorem Fo.add{n:Nat}{fs:List (Int×List Int)}(F:Fo n fs){k:Int}{w:List Int}(hk:k∉fs.map (·.1))(hr:0<=k/\k<n)(hw:w≠[]/\w.length+1<=2 * (fs.length+1)):Fo n (fs++[(k,w)]):=by
 refine ⟨?_,fun x hx=>?_,fun p hp=>?_⟩
 ·rw[List.map_append,List.nodup_append]
  refine ⟨F.nd,by simp,fun x hx y hy=>?_⟩
  simp at hy
  subst hy
  intro z;subst z;exact hk hx
 ·rw[List.map_append,List.mem_append] at hx
  rcases hx with z|z
  ·exact F.rg x z
  ·simp at z;subst z;exact hr
 ·rw[List.length_append,List.length_singleton]
  rcases List.mem_append.mp hp with z|z
  ·obtain ⟨a,b⟩:=F.ws p z
   exact ⟨a,by omega⟩
  ·rw[List.mem_singleton.mp z];exact hw
abbrev wA(ps:List (List Int))(one other third:Int)(fs:List (Int×List Int))(zs:List Int)(o6 o7 o8 o9:Option B):Ev:=[some (.val (pd ps)),some (.val (.int one)),some (.val (.int other)),some (.val (.int third)),some (.dic (fsD fs)),some (.own (zs.map .int)),o6,o7,o8,o9]
abbrev zd1:DS:=dIf (zd7 (zlG false 4 (zab 9)) (dTB (zaj zfD (dR (zab 8) (dR (zab 6) (dR (zab 9) (dR (zab 3) dR0))))))) (zaP (zhj 4 (zab 9) (dOp ze8 (zgf 4 (zab 6)) (zdC (dA (zab 7) (dA (zab 9) dA0))))) (dEx (zfg 5 (zab 9)))) dNx
abbrev zoz:DS:=zaP (zbT 6 (zej 5 (dC (.int 0)))) (zcD (zkS (zab 0)) (zeY 7 8) (zcD (dIt (zab 8)) (za3 9) zd1))
def NW(d:Dt):Prop:=d=.non\/∃ w:List Int,d=tz w/\w≠[]/\w.length<=20
theorem zoh(w:List Int)(k:Nat):okN (k+1) (tz w)=true:=by
 simp[tz,okN,zeV]
theorem zll{d:Dt}(h:NW d):okN 59 d=true:=by
 rcases h with rfl|⟨w,rfl,_⟩
 ·rfl
 ·exact zoh w 58
def NB(d:Dt):Prop:=d=.non\/Br d
def brL(d:Dt):Int:=match d with
 |.tup [_,_,_,.tup [.tup u,.tup v,.tup w]]=>(u.length:Int)+((v.length:Int)+(w.length:Int))
 |_=>0
theorem zmF{d:Dt}(h:Br d):zbX [.val d]=.ok (.int (brL d),[.val .non]):=by
 obtain ⟨a,b,c,u,v,w,rfl,hu,hv,hw⟩:=h
 let ρ:Ev:=[some (.val (brD a b c u v w))]
 refine zat (ρ':=ρ) rfl ?_ rfl
 show zdS ρ=_
 unfold zdS
 have hC:za8 (dIt (dOp gIx (zab 0) (dC (.int 3)))) (za3 1) dTT (dFn zbR (dA (zab 1) dA0)) 1 ρ=.ok ([u,v,w].map fun q=>.int (q.length:Int),ρ):=by
  refine zb2 (l:=[u,v,w]) (u:=tz) (f:=fun q=>.int (q.length:Int)) (ds:=[tz u,tz v,tz w]) rfl rfl (by simp) (fun q hq=>?_) rfl
  exact zbk (d:=tz q) rfl (by simp[tz,zbR])
 refine zaW (zbk (zbd hC) ?_)
 have e:([u,v,w].map fun q=>Dt.int (q.length:Int))=([(u.length:Int),(v.length:Int),(w.length:Int)]).map Dt.int:=rfl
 rw[e]
 show (match zgg (([(u.length:Int),(v.length:Int),(w.length:Int)]).map Dt.int) with|some ns=>if zdx ns=true then R.ok (Dt.int ns.sum) else .no|_=>.no)=_
 rw[zg3]
 simp only
 have hs:zdx [(u.length:Int),(v.length:Int),(w.length:Int)]=true:=by
  unfold zdx
  simp only[List.length_cons,List.length_nil,List.all_cons,List.all_nil,Bool.and_true,Bool.and_eq_true,decide_eq_true_eq]
  omega
 rw[if_pos hs]
 congr 2
 simp[brL,brD,tz,List.sum_cons]
theorem ltI(a b:Int)(k:Nat):ltD k (.int a) (.int b)=some (decide (a<b)):=by cases k <;> rfl
def zce(d:Dt):Dt:=.tup [.int (brL d),d]
theorem zjQ:∀(ds:List Dt),(∀ e∈ds,Br e)->zeB (zdC (dA (zaj zbX (dR (zab 0) dR0)) (dA (zab 0) dA0))) ds=some (ds.map fun e=>(zce e,e))
 |[],_=>rfl
 |d::ds,h=>by
  unfold zeB
  rw[zbL (ds:=[.int (brL d),d]) (ρ1:=[some (.val d)]) (dAc (zeZ (xs:=[d]) (zaJ rfl zc5) (zmF (h d List.mem_cons_self))) (dAz rfl)) (by simp)]
  simp only
  rw[zjQ ds fun e he=>h e (List.mem_cons_of_mem _ he)]
  rfl
theorem zil{i:Nat}{fa:De}{ρ ρ1:Ev}{l0 l m:List Dt}(h0:ρ[i]? = some (some (.own l0)))(h1:fa ρ=.ok (.lst m,ρ1))(h2:ρ1[i]? = some (some (.own l)))(hl:l.length+m.length<=1000):dEx (zkA i fa) ρ=.ok (.nx,ρ1.set i (some (.own (l++m)))):=by
 refine zg0 (d:=.non) ?_
 unfold zkA
 rw[h0]
 simp only
 rw[h1]
 simp only[R.bind_ok]
 rw[h2]
 simp only[zos]
 rw[if_pos (by omega)]
theorem zlR{fi:DA}{g:DG}{ft:DT}{fe:De}{m:Nat}{ρ ρ1:Ev}{l:List Dt}(h:fi ρ=.ok (l,ρ1)):za8 fi g ft fe m ρ=za8 (fun ρ=>.ok (l,ρ)) g ft fe m ρ1:=by
 unfold za8;rw[h]
theorem zs9{F:FD}{fr:DAr}{ρ ρ1:Ev}{xs:List Dt}{j:Nat}{q:Str}{y:Dt}{l:List B}(h:fr ρ=.ok (xs.map Arg.d,ρ1))(hj:ρ1[j]? = some (some (.tab q)))(hF:F (xs.map B.val++[.tab q])=.ok (y,l))(hl:l[xs.length]? = some (.tab q)):zaj F (dRT j fr) ρ=.ok (y,ρ1):=by
 have pf:∀{xs:List Dt}{i k:Nat},zbx i k (xs.map Arg.d++[.s j])=if j=i then some (k+xs.length) else none:=by
  intro xs
  induction xs with
  |nil=>intro i k;show (if j=i then some k else zbx i (k+1) [])=_;split <;> rfl
  |cons x xs ih =>
   intro i k
   show zbx i (k+1) (xs.map Arg.d++[.s j])=_
   rw[ih,List.length_cons]
   split
   ·congr 1;omega
   ·rfl
 have uf:∀{as:List PV.Arg}{xs:List Dt}{k:Nat},zaE as k (xs.map Arg.d++[.s j])=(zbQ as j == some (k+xs.length)):=by
  intro as xs
  induction xs with
  |nil=>intro k;show ((zbQ as j == some k) && true)=_;simp
  |cons x xs ih =>
   intro k
   show zaE as (k+1) (xs.map Arg.d++[.s j])=_
   rw[ih,List.length_cons,show k+1+xs.length=k+(xs.length+1) by omega]
 have rs:∀{xs:List Dt},zas ρ1 (xs.map Arg.d++[.s j])=.ok (xs.map B.val++[.tab q]):=by
  intro xs
  induction xs with
  |nil =>
   show (match ρ1[j]? with|some (some b)=>if zj9 b=true then (R.ok []).bind fun bs=>.ok (b::bs) else .no|_=>.no)=_
   rw[hj];rfl
  |cons x xs ih =>
   show (zas ρ1 (xs.map Arg.d++[.s j])).bind _=_
   rw[ih];rfl
 unfold zaj dRT
 rw[h]
 simp only[R.bind_ok]
 have hu:uniq (xs.map Arg.d++[.s j])=true:=by
  unfold uniq
  rw[uf]
  unfold zbQ
  rw[pf]
  simp
 rw[if_pos hu,rs]
 simp only[R.bind_ok]
 rw[hF]
 simp only[R.bind_ok]
 have:zen (xs.map Arg.d++[.s j]) l 0 ρ1 = ρ1:=by
  apply List.ext_getElem?
  intro i
  rw[zgI]
  unfold zbQ
  rw[pf,Nat.zero_add]
  cases e:ρ1[i]? with
  |none=>rfl
  |some o =>
   simp only[Option.map_some,Option.some.injEq]
   split
   ·rename_i k hk
    split at hk
    ·rename_i hji
     subst hji
     cases hk
     rw[Nat.zero_add,hl]
     rw[hj] at e;cases e;rfl
    ·cases hk
   ·rfl
 rw[this]
theorem zb5{α:Type}{u:α->Dt}{g:DG}{body:DS}{I:List α->Ev->Prop}:∀(zay pre:List α)(ρ:Ev),(∀ p d r,pre++zay=p++d::r->∀ ρ,I p ρ->∃ ρ1 ρ2,g (u d) ρ=.ok ρ1/\body ρ1=.ok (.nx,ρ2)/\I (p++[d]) ρ2)->I pre ρ ->
  ∃ ρ',zl8 g body (zay.map u) ρ=.ok (.nx,ρ')/\I (pre++zay) ρ'
 |[],pre,ρ,_,h=>⟨ρ,rfl,by rw[List.append_nil];exact h⟩
 |d::zay,pre,ρ,hs,h=>by
  obtain ⟨ρ1,ρ2,e1,e2,h2⟩:=hs pre d zay rfl ρ h
  obtain ⟨ρ',e',h'⟩:=zb5 zay (pre++[d]) ρ2 (fun p d' r e=>hs p d' r (by rw[<- e];simp)) h2
  refine ⟨ρ',?_,by simpa using h'⟩
  rw[List.map_cons]
  unfold zl8
  rw[e1]
  simp only[R.bind_ok]
  rw[e2]
  simp only[R.bind_ok]
  exact e'
theorem zjF:∀{fs:List (Int×List Int)}{k:Int}{w:List Int},(fs.map (·.1)).Nodup->(k,w)∈fs->zdz (fsD fs) k=some (tz w)
 |p::fs,k,w,hn,h=>by
  rw[List.map_cons,List.nodup_cons] at hn
  show (if p.1=k then some (tz p.2) else zdz (fsD fs) k)=_
  rcases List.mem_cons.mp h with e|e
  ·subst e;rw[if_pos rfl]
  ·rw[if_neg (fun z=>hn.1 (by rw[z];exact List.mem_map.mpr ⟨_,e,rfl⟩))]
   exact zjF hn.2 e
def Jn(n:Nat)(ps:List (List Int))(one third:Int)(c:Nat)(u:Int)(wu:List Int)(num:Nat)(pre:List Int)(fs:List (Int×List Int))(zs:List Int):Prop:=Fo n fs/\zs=(fs.map (·.1)).drop (c+1)/\Bf.In ps third one c u wu num pre fs
theorem zpx{n:Nat}{ps:List (List Int)}(h7:n<=7){one other third guest:Int}{c:Nat}{wu:List Int}{fs:List (Int×List Int)}{zs:List Int}{num:Nat}{pre zay q:List Int}{m:Int}(hq:Pty n q)(hn:ps[num]? = some q)(eq:q=pre++m::zay)(h:Jn n ps one third c guest wu num pre fs zs) :
  ∃ fs' zs',Jn n ps one third c guest wu num (pre++[m]) fs' zs'/\zd1 (wA ps one other third fs zs (some (.val (.int guest))) (some (.val (.int num))) (some (.val (tz q))) (some (.val (.int m))))=.ok (.nx,wA ps one other third fs' zs' (some (.val (.int guest))) (some (.val (.int num))) (some (.val (tz q))) (some (.val (.int m)))):=by
 obtain ⟨F,hz,hI⟩:=h
 have hm:m∈q:=by rw[eq];simp
 let ρ:Ev:=wA ps one other third fs zs (some (.val (.int guest))) (some (.val (.int num))) (some (.val (tz q))) (some (.val (.int m)))
 have t1:zlG false 4 (zab 9) ρ=.ok (false == (zdz (fsD fs) m).isSome,ρ):=rfl
 have t2:dTB (zaj zfD (dR (zab 8) (dR (zab 6) (dR (zab 9) (dR (zab 3) dR0))))) ρ=.ok (decide (guest∈q) && (decide (m∈q) && decide (third∉q)),ρ):=zaH (zeZ (xs:=[tz q,.int guest,.int m,.int third]) (zaJ rfl (zaJ rfl (zaJ rfl (zaJ rfl zc5)))) (zkk _ _ _ _))
 by_cases hin:m∈fs.map (·.1)
 ·obtain ⟨w,_,e⟩:=zf3 hin
  rw[e] at t1
  exact ⟨fs,zs,⟨F,hz,hI.skip (zay:=[]) hn (.inl hin)⟩,by show dIf _ _ _ ρ=_;rw[zct (zfr t1)];rfl⟩
 ·rw[zew hin] at t1
  by_cases hl:(decide (guest∈q) && (decide (m∈q) && decide (third∉q)))=true
  ·rw[hl] at t2
   simp only[Bool.and_eq_true,decide_eq_true_eq] at hl
   obtain ⟨l1,_,l3⟩:=hl
   have hw:(guest,wu)∈fs:=List.mem_of_getElem? hI.cur
   have eg:=zjF F.nd hw
   obtain ⟨w0,w1⟩:=F.ws _ hw
   dsimp only at w0 w1
   have hle:=F.le
   have hcl:c<fs.length:=(List.getElem?_eq_some_iff.mp hI.cur).1
   have F':=F.add hin (hq.2.2 m hm) (w:=wu++[(num:Int),m]) ⟨by simp,by simp;omega⟩
   have hzl:zs.length<=7:=by rw[hz,List.length_drop,List.length_map];omega
   let ρ2:Ev:=wA ps one other third (fs++[(m,wu++[(num:Int),m])]) zs (some (.val (.int guest))) (some (.val (.int num))) (some (.val (tz q))) (some (.val (.int m)))
   have e1:zgf 4 (zab 6) ρ=.ok (tz wu,ρ):=by
    show (match zdz (fsD fs) guest with|some d=>R.ok (d,ρ)|none=>.no)=_
    rw[eg]
   have e2:dOp ze8 (zgf 4 (zab 6)) (zdC (dA (zab 7) (dA (zab 9) dA0))) ρ=.ok (tz (wu++[(num:Int),m]),ρ):=zar e1 (zbL (ds:=[.int num,.int m]) (dAc rfl (dAz rfl)) (by simp)) (zqB wu ((num:Int),m) (by omega))
   have e3:zhj 4 (zab 9) (dOp ze8 (zgf 4 (zab 6)) (zdC (dA (zab 7) (dA (zab 9) dA0)))) ρ=.ok (.nx,ρ2):=by
    unfold zhj
    rw[e2]
    show (if (fsD fs).length<16777216 then R.ok (Fl.nx,ρ.set 4 (some (.dic (zoa (fsD fs) m (tz (wu++[(num:Int),m])))))) else .no)=_
    rw[if_pos (by simp[fsD];omega),zmM hin]
    rfl
   refine ⟨fs++[(m,wu++[(num:Int),m])],zs++[m],⟨F',?_,hI.add hn eq hq.2.1 hin l1 l3⟩,?_⟩
   ·rw[hz,List.map_append,List.drop_append_of_le_length (by rw[List.length_map];omega)];rfl
   ·show dIf _ _ _ ρ=_
    rw[zel ((zcM t1).trans t2),zan e3,zox (i:=5) (l0:=zs.map .int) (l:=zs.map .int) (d:=.int m) (ρ1:=ρ2) rfl rfl rfl (by rw[List.length_map];omega)]
    simp[ρ2,wA]
  ·have hl':guest∉q\/third∈q:=by
    by_cases g1:guest∈q
    ·by_cases g2:third∈q
     ·exact .inr g2
     ·exact absurd (by simp[g1,hm,g2]) hl
    ·exact .inl g1
   rw[Bool.not_eq_true] at hl
   rw[hl] at t2
   exact ⟨fs,zs,⟨F,hz,hI.skip (zay:=[]) hn (.inr hl')⟩,by show dIf _ _ _ ρ=_;rw[zct ((zcM t1).trans t2)];rfl⟩
theorem znZ{n:Nat}{ps:List (List Int)}(h7:n<=7){one other third guest:Int}{c:Nat}{wu:List Int}{fs:List (Int×List Int)}{zs:List Int}{num:Nat}{q:List Int}(hq:Pty n q)(hn:ps[num]? = some q)(h:Jn n ps one third c guest wu num [] fs zs){o9:Option B} :
  ∃ fs' zs' o9',Jn n ps one third c guest wu (num+1) [] fs' zs'/\zcD (dIt (zab 8)) (za3 9) zd1 (wA ps one other third fs zs (some (.val (.int guest))) (some (.val (.int num))) (some (.val (tz q))) o9)=.ok (.nx,wA ps one other third fs' zs' (some (.val (.int guest))) (some (.val (.int num))) (some (.val (tz q))) o9'):=by
 let I:List Int->Ev->Prop:=fun pre ρ=>∃ fs zs o9,Jn n ps one third c guest wu num pre fs zs/\ρ=wA ps one other third fs zs (some (.val (.int guest))) (some (.val (.int num))) (some (.val (tz q))) o9
 obtain ⟨ρ',e,fs',zs',o9',hL,rfl⟩:=zb5 (u:=Dt.int) (g:=za3 9) (body:=zd1) (I:=I) q [] (wA ps one other third fs zs (some (.val (.int guest))) (some (.val (.int num))) (some (.val (tz q))) o9) (fun pre m zay e ρ ⟨fs,zs,o9,hL,eρ⟩=>by
  subst eρ
  obtain ⟨fs',zs',hL',e'⟩:=zpx (other:=other) h7 hq hn e hL
  exact ⟨_,_,by simp[za3,wA],e',fs',zs',_,hL',rfl⟩) ⟨fs,zs,o9,h,rfl⟩
 exact ⟨fs',zs',o9',⟨hL.1,hL.2.1,hL.2.2.party hn⟩,(zbo rfl).trans e⟩
theorem zst{ps:List (List Int)}{p r:List (Nat×List Int)}{d:Nat×List Int}(e:(List.range ps.length).zip ps=p++d::r):d.1=p.length/\ps[p.length]? = some d.2:=by
 have h:((List.range ps.length).zip ps)[p.length]? = some d:=by rw[e];simp
 rw[List.getElem?_zip_eq_some] at h
 obtain ⟨h1,h2⟩:=h
 have h3:=(List.getElem?_eq_some_iff.mp h1)
 obtain ⟨h4,h5⟩:=h3
 rw[List.getElem_range] at h5
 exact ⟨h5.symm,h2⟩
theorem zk7{n:Nat}{ps:List (List Int)}(h7:n<=7)(hp:zdk n ps){one other third guest:Int}{c:Nat}{wu:List Int}{fs:List (Int×List Int)}{zs:List Int}(h:Jn n ps one third c guest wu 0 [] fs zs){o7 o8 o9:Option B} :
  ∃ fs' zs' o7' o8' o9',Jn n ps one third c guest wu ps.length [] fs' zs'/\zcD (zkS (zab 0)) (zeY 7 8) (zcD (dIt (zab 8)) (za3 9) zd1) (wA ps one other third fs zs (some (.val (.int guest))) o7 o8 o9)=.ok (.nx,wA ps one other third fs' zs' (some (.val (.int guest))) o7' o8' o9'):=by
 let I:List (Nat×List Int)->Ev->Prop:=fun pre ρ=>∃ fs zs o7 o8 o9,Jn n ps one third c guest wu pre.length [] fs zs/\ρ=wA ps one other third fs zs (some (.val (.int guest))) o7 o8 o9
 obtain ⟨ρ',e,fs',zs',o7',o8',o9',hL,rfl⟩:=zb5 (u:=fun z:Nat×List Int=>Dt.tup [.int (z.1:Nat),tz z.2]) (g:=zeY 7 8) (body:=zcD (dIt (zab 8)) (za3 9) zd1) (I:=I) ((List.range ps.length).zip ps) [] (wA ps one other third fs zs (some (.val (.int guest))) o7 o8 o9) (fun pre z zay e ρ ⟨fs,zs,o7,o8,o9,hL,eρ⟩=>by
  subst eρ
  obtain ⟨z1,z2⟩:=zst e
  obtain ⟨fs',zs',o9',hL',e'⟩:=znZ (other:=other) (o9:=o9) h7 (hp _ (List.mem_of_getElem? z2)) z2 hL
  rw[<- z1] at e'
  exact ⟨_,_,by simp[zeY,wA],e',fs',zs',_,_,o9',by rw[List.length_append];exact hL',rfl⟩) ⟨fs,zs,o7,o8,o9,h,rfl⟩
 refine ⟨fs',zs',o7',o8',o9',?_,(zbo rfl).trans ?_⟩
 ·have:([]++(List.range ps.length).zip ps).length=ps.length:=by simp
  rw[this] at hL;exact hL
 ·unfold lp
  rw[znX];exact e
theorem zjO{n:Nat}{ps:List (List Int)}(h7:n<=7)(hp:zdk n ps){one other third:Int}:∀(f c:Nat)(fs:List (Int×List Int))(zs:List Int)(o6 o7 o8 o9:Option B),Fo n fs->zs=(fs.map (·.1)).drop c->c<=fs.length->Bf.Out ps third one c fs->8<=f+c ->
  ∃ fs' o6' o7' o8' o9',Fo n fs'/\Bf.Out ps third one fs'.length fs'/\zbg (dTB (dOp gGt (zcW 5) (dC (.int 0)))) zoz f (wA ps one other third fs zs o6 o7 o8 o9)=.ok (.nx,wA ps one other third fs' [] o6' o7' o8' o9')
 |0,c,fs,zs,o6,o7,o8,o9,F,_,hc,_,hf=>by have:=F.le;omega
 |f+1,c,fs,[],o6,o7,o8,o9,F,hz,hc,hO,hf=>by
  have hcl:c=fs.length:=by
   have:=List.drop_eq_nil_iff.mp hz.symm
   rw[List.length_map] at this
   omega
  refine ⟨fs,o6,o7,o8,o9,F,hcl ▸ hO,?_⟩
  unfold zbg
  rw[show dTB (dOp gGt (zcW 5) (dC (.int 0))) (wA ps one other third fs [] o6 o7 o8 o9)=.ok (false,wA ps one other third fs [] o6 o7 o8 o9) from rfl]
  rfl
 |f+1,c,fs,z::zs,o6,o7,o8,o9,F,hz,hc,hO,hf=>by
  have t:dTB (dOp gGt (zcW 5) (dC (.int 0))) (wA ps one other third fs (z::zs) o6 o7 o8 o9)=.ok (true,wA ps one other third fs (z::zs) o6 o7 o8 o9):=by
   refine zaH (zar (d:=.int (((z::zs).map Dt.int).length:Nat)) (e:=.int 0) rfl rfl ?_)
   show R.ok (Dt.bl (decide ((((z::zs).map Dt.int).length:Int) > 0)))=_
   rw[decide_eq_true (by rw[List.length_map,List.length_cons];omega)]
  have hpop:zbT 6 (zej 5 (dC (.int 0))) (wA ps one other third fs (z::zs) o6 o7 o8 o9)=.ok (.nx,wA ps one other third fs zs (some (.val (.int z))) o7 o8 o9):=by
   refine zbc (d:=.int z) (ρ1:=wA ps one other third fs zs o6 o7 o8 o9) ?_ (by simp)
   show (match ziY ((z::zs).map Dt.int) 0 with|some y=>R.ok (y.1,(wA ps one other third fs (z::zs) o6 o7 o8 o9).set 5 (some (.own y.2)))|none=>.no)=_
   have:ziY ((z::zs).map Dt.int) 0=some (.int z,zs.map .int):=by
    unfold ziY
    rw[if_pos (by rfl),zjn (by omega) (by rw[List.length_map,List.length_cons];omega)]
    rfl
   rw[this]
   rfl
  have hcz:(fs.map (·.1))[c]? = some z:=by
   have:=List.getElem?_drop (xs:=fs.map (·.1)) (i:=c) (j:=0)
   rw[<- hz] at this
   simpa using this.symm
  rw[List.getElem?_map,Option.map_eq_some_iff] at hcz
  obtain ⟨⟨z',wz⟩,hcz,ez⟩:=hcz
  dsimp only at ez
  subst ez
  have hz1:zs=(fs.map (·.1)).drop (c+1):=by rw[<- List.drop_drop,<- hz];rfl
  obtain ⟨fs1,zs1,p7,p8,p9,⟨F1,z1,I1⟩,e1⟩:=zk7 (other:=other) (o7:=o7) (o8:=o8) (o9:=o9) h7 hp ⟨F,hz1,hO.pop hcz⟩
  obtain ⟨fs',o6',o7',o8',o9',F',O',e'⟩:=zjO (one:=one) (other:=other) (third:=third) h7 hp f (c+1) fs1 zs1 (some (.val (.int z'))) p7 p8 p9 F1 z1 (List.getElem?_eq_some_iff.mp I1.cur).1 I1.out (by omega)
  refine ⟨fs',o6',o7',o8',o9',F',O',?_⟩
  unfold zbg
  rw[t]
  simp only[R.bind_ok,if_true]
  rw[show zoz (wA ps one other third fs (z'::zs) o6 o7 o8 o9)=.ok (.nx,wA ps one other third fs1 zs1 (some (.val (.int z'))) p7 p8 p9) from by show zaP _ _ _=_;rw[zan hpop];exact e1]
  exact e'
def Lw1(ps:List (List Int))(one other third:Int)(d:Dt):Prop:=(∃ k w,Bf.Least ps third one k w other/\w.length<=20/\d=tz w)\/((∀ k w,¬ Bf.Way ps third one k w other)/\d=.non)
theorem Lw1.uniq{ps:List (List Int)}{one other third:Int}{d e:Dt}(h:Lw1 ps one other third d)(h':Lw1 ps one other third e):d=e:=by
 rcases h with ⟨k,w,L,_,rfl⟩|⟨n,rfl⟩ <;> rcases h' with ⟨k',w',L',_,rfl⟩|⟨n',rfl⟩
 ·rw[L.uniq L']
 ·exact absurd L.way (n' _ _)
 ·exact absurd L'.way (n _ _)
 ·rfl
theorem Lw1.nw{ps:List (List Int)}{one other third:Int}{d:Dt}(h:Lw1 ps one other third d):NW d:=by
 rcases h with ⟨k,w,L,hl,rfl⟩|⟨n,rfl⟩
 ·exact .inr ⟨w,rfl,fun z=>by have:=L.way.len;rw[z] at this;simp at this,hl⟩
 ·exact .inl rfl
theorem zpC{n:Nat}{ps:List (List Int)}(h7:n<=7)(hp:zdk n ps){one other third:Int}(h1:0<=one/\one<n) :
  ∃ d,Lw1 ps one other third d/\zba [.val (pd ps),.val (.int one),.val (.int other),.val (.int third)]=.ok (d,[.val .non,.val .non,.val .non,.val .non]):=by
 have F0:Fo n [(one,[one])]:=⟨by simp,by simp;omega,by simp⟩
 obtain ⟨fs,o6,o7,o8,o9,F,O,e⟩:=zjO (ps:=ps) (one:=one) (other:=other) (third:=third) h7 hp 10 0 [(one,[one])] [one] none none none none F0 rfl (by simp) Bf.Out.start (by omega)
 have hg:Lw1 ps one other third ((zdz (fsD fs) other).getD .non):=by
  by_cases h:other∈fs.map (·.1)
  ·obtain ⟨w,hw,eg⟩:=zf3 h
   rw[eg]
   obtain ⟨a,b⟩:=F.ws _ hw
   dsimp only at a b
   have:=F.le
   obtain ⟨k,L⟩:=O.least _ hw
   exact .inl ⟨k,w,L,by omega,rfl⟩
  ·rw[zew h]
   exact .inr ⟨fun k w hw=>h (O.all hw),rfl⟩
 refine ⟨_,hg,zat (ρ':=wA ps one other third fs [] o6 o7 o8 o9) rfl ?_ rfl⟩
 let A:Option B->Option B->Ev:=fun o4 o5=>[some (.val (pd ps)),some (.val (.int one)),some (.val (.int other)),some (.val (.int third)),o4,o5,none,none,none,none]
 show zdQ (A none none)=_
 unfold zdQ
 have e0:zkv 4 (zab 1) (zdC (dA (zab 1) dA0)) (A none none)=.ok (.nx,A (some (.dic (fsD [(one,[one])]))) none):=by
  unfold zkv
  rw[show zab 1 (A none none)=.ok (.int one,A none none) from rfl]
  simp only[R.bind_ok]
  rw[zbL (ds:=[.int one]) (dAz rfl) (by simp)]
  rfl
 rw[zan e0]
 rw[zan (ρ1:=wA ps one other third [(one,[one])] [one] none none none none) (zcH (ρ1:=A (some (.dic (fsD [(one,[one])]))) none) (zcp (ds:=[.int one]) (dAz rfl) (by simp)) (by simp[A]))]
 rw[zan e]
 exact zaW rfl
theorem zdj:∀(ks:List (Int×Int))(x:Int),zdz (zD ks) x=(Bf.lk ks x).map .int
 |[],_=>rfl
 |p::r,x=>by
  show (if p.1=x then some (Dt.int p.2) else zdz (zD r) x)=Option.map _ (if p.1=x then some p.2 else Bf.lk r x)
  rw[zdj r x]
  split <;> rfl
theorem zpW(ks:List (Int×Int))(g mn:Int):zoa (zD ks) g (.int mn)=zD (Bf.pt ks g mn):=by
 unfold zoa Bf.pt
 rw[zdj,Option.isSome_map]
 split
 ·unfold zD
  rw[List.map_map,List.map_map]
  congr 1
  funext p
  show (if p.1=g then (p.1,Dt.int mn) else (p.1,.int p.2))=_
  dsimp only[Function.comp]
  split <;> rfl
 ·unfold zD;simp
def zcA(ks:List (Int×Int))(q:List Int)(g:Int):List Int:=(q.filter fun o=>(Bf.lk ks o).isSome && (o != g)).map fun o=>(Bf.lk ks o).getD 0+1
theorem zlT{ks:List (Int×Int)}{q:List Int}{g:Int}(h:zcA ks q g=[]):∀ o∈q,o≠g->Bf.lk ks o=none:=fun o ho hne=>by
 unfold zcA at h
 rw[List.map_eq_nil_iff,List.filter_eq_nil_iff] at h
 have:=h o ho
 cases e:Bf.lk ks o with
 |none=>rfl
 |some d=>rw[e] at this;simp[hne] at this
theorem zjV{ks:List (Int×Int)}{q:List Int}{g:Int}(h:zcA ks q g≠[]):Bf.Nr q g ks (zgW (zcA ks q g)):=by
 obtain ⟨h1,h2⟩:=zfu _ h
 generalize zgW (zcA ks q g)=mn at h1 h2
 unfold zcA at h1 h2
 constructor
 ·obtain ⟨o,ho,e⟩:=List.mem_map.mp h1
  rw[List.mem_filter] at ho
  obtain ⟨o1,o2⟩:=ho
  rw[Bool.and_eq_true] at o2
  cases el:Bf.lk ks o with
  |none=>rw[el] at o2;exact absurd o2.1 (by simp)
  |some d =>
   rw[el] at e
   exact ⟨o,o1,by simpa using o2.2,d,el,e.symm⟩
 ·intro o ho hne d ed
  have:=h2 (d+1) (List.mem_map.mpr ⟨o,List.mem_filter.mpr ⟨ho,by rw[ed];simp[hne]⟩,by rw[ed];rfl⟩)
  exact this
abbrev fA(n:Nat)(ps:List (List Int))(en third:Int)(ks:List (Int×Int))(o5 o6 o7 o8:Option B):Ev:=[some (.val (.int n)),some (.val (pd ps)),some (.val (.int en)),some (.val (.int third)),some (.dic (zD ks)),o5,o6,o7,o8]
abbrev znf:DS:=zbT 8 (dFz (za8 (dIt (zab 6)) (za3 9) (zd7 (zlG true 4 (zab 9)) (dTB (dOp (gEq true) (zab 9) (zab 7)))) (dOp zaB (zgf 4 (zab 9)) (dC (.int 1))) 1))
abbrev znQ:DS:=dIf (zd7 (dTB (dOp (gEq true) (zab 8) (dFz (zd5 dA0)))) (dTB (dOp gLt (dFn zfP (dA (zab 8) dA0)) (zgm 4 (zab 7) (dOp zaB (zab 0) (dC (.int 1))))))) (zhj 4 (zab 7) (dFn zfP (dA (zab 8) dA0))) dNx
theorem zm2{n:Nat}{ps:List (List Int)}{en third:Int}{ks:List (Int×Int)}{q:List Int}{g:Int}(hq:q.length<=1000){o5 o8:Option B} :
  znf (fA n ps en third ks o5 (some (.val (tz q))) (some (.val (.int g))) o8)=.ok (.nx,fA n ps en third ks o5 (some (.val (tz q))) (some (.val (.int g))) (some (.val (.lst ((zcA ks q g).map .int))))):=by
 let ρ:Ev:=fA n ps en third ks o5 (some (.val (tz q))) (some (.val (.int g))) o8
 let p:Dt->Bool:=fun d=>match d with|.int o=>(Bf.lk ks o).isSome && (o != g)|_=>false
 let f:Dt->Dt:=fun d=>match d with|.int o=>.int ((Bf.lk ks o).getD 0+1)|_=>.non
 have e:=zdd (p:=p) (f:=f) (ft:=zd7 (zlG true 4 (zab 9)) (dTB (dOp (gEq true) (zab 9) (zab 7)))) (fe:=dOp zaB (zgf 4 (zab 9)) (dC (.int 1))) (ρ0:=ρ) (fi:=dIt (zab 6)) (l:=q.map .int) (j:=9) rfl rfl (by rw[List.length_map];omega)
  (fun d hd=>by
   obtain ⟨o,ho,rfl⟩:=List.mem_map.mp hd
   have t1:zlG true 4 (zab 9) (ρ++[some (.val (.int o))])=.ok (true == (zdz (zD ks) o).isSome,ρ++[some (.val (.int o))]):=rfl
   have t2:dTB (dOp (gEq true) (zab 9) (zab 7)) (ρ++[some (.val (.int o))])=.ok (!(o == g),ρ++[some (.val (.int o))]):=zaH (zar (d:=.int o) (e:=.int g) rfl rfl zq0)
   rw[zdj,Option.isSome_map] at t1
   show _=R.ok ((Bf.lk ks o).isSome && (o != g),_)
   cases h:(Bf.lk ks o).isSome with
   |true=>rw[h] at t1;exact (zcM t1).trans t2
   |false=>rw[h] at t1;exact zfr t1)
  (fun d hd hp=>by
   obtain ⟨o,ho,rfl⟩:=List.mem_map.mp hd
   have hp':((Bf.lk ks o).isSome && (o != g))=true:=hp
   rw[Bool.and_eq_true] at hp'
   show _=R.ok (Dt.int ((Bf.lk ks o).getD 0+1),_)
   cases h:Bf.lk ks o with
   |none=>rw[h] at hp';exact absurd hp'.1 (by simp)
   |some d =>
    refine zar (d:=.int d) (e:=.int 1) (ρ1:=ρ++[some (.val (.int o))]) ?_ rfl rfl
    show (match zdz (zD ks) o with|some d=>R.ok (d,ρ++[some (B.val (.int o))])|none=>.no)=_
    rw[zdj,h];rfl)
 have el:((q.map Dt.int).filter p).map f=(zcA ks q g).map .int:=by
  unfold zcA
  rw[List.filter_map,List.map_map,List.map_map]
  rfl
 rw[el] at e
 exact zbc (zbd e) (by simp[ρ])
theorem znU{n:Nat}{ps:List (List Int)}{en third:Int}{ks:List (Int×Int)}{q:List Int}{g:Int}(hq:q.length<=1000)(hk:ks.length<=1000){o5 o8:Option B} :
  ∃ ks' o8',Bf.Stp n q g ks ks'/\zaP znf znQ (fA n ps en third ks o5 (some (.val (tz q))) (some (.val (.int g))) o8)=.ok (.nx,fA n ps en third ks' o5 (some (.val (tz q))) (some (.val (.int g))) o8'):=by
 rw[zan (zm2 hq)]
 let L:=(zcA ks q g).map Dt.int
 let ρ:Ev:=fA n ps en third ks o5 (some (.val (tz q))) (some (.val (.int g))) (some (.val (.lst L)))
 have okL:okN 60 (.lst L)=true:=zmL _ _
 have t1:dTB (dOp (gEq true) (zab 8) (dFz (zd5 dA0))) ρ=.ok (!eqD (.lst L) (.lst []),ρ):=zaH (zar (d:=.lst L) (e:=.lst []) rfl (zbd (zcp (ds:=[]) rfl (by simp))) (zcT okL (by rfl)))
 show ∃ ks' o8',Bf.Stp n q g ks ks'/\znQ ρ=_
 cases hL:zcA ks q g with
 |nil =>
  have:L=[]:=by show (zcA ks q g).map Dt.int=[];rw[hL];rfl
  rw[this,zdX] at t1
  exact ⟨ks,_,.inr ⟨rfl,.inl (zlT hL)⟩,zct (zfr t1)⟩
 |cons a r =>
  have hne:zcA ks q g≠[]:=by rw[hL];simp
  have eL:L=.int a::r.map .int:=by show (zcA ks q g).map Dt.int=_;rw[hL];rfl
  rw[eL,zde] at t1
  have em:dFn zfP (dA (zab 8) dA0) ρ=.ok (.int (zgW (zcA ks q g)),ρ):=zbk (d:=.lst L) rfl (by
   show (match zgg ((zcA ks q g).map Dt.int) with|some (a::r)=>R.ok (Dt.int (zgW (a::r)))|_=>.no)=_
   rw[zg3,hL])
  have eg:zgm 4 (zab 7) (dOp zaB (zab 0) (dC (.int 1))) ρ=.ok (.int ((Bf.lk ks g).getD ((n:Int)+1)),ρ):=by
   show R.ok ((zdz (zD ks) g).getD (.int ((n:Int)+1)),ρ)=_
   rw[zdj]
   cases Bf.lk ks g <;> rfl
  have t2:dTB (dOp gLt (dFn zfP (dA (zab 8) dA0)) (zgm 4 (zab 7) (dOp zaB (zab 0) (dC (.int 1))))) ρ=.ok (decide (zgW (zcA ks q g)<(Bf.lk ks g).getD ((n:Int)+1)),ρ):=zaH (zar em eg rfl)
  by_cases hlt:zgW (zcA ks q g)<(Bf.lk ks g).getD ((n:Int)+1)
  ·rw[decide_eq_true hlt] at t2
   refine ⟨Bf.pt ks g (zgW (zcA ks q g)),some (.val (.lst L)),.inl ⟨_,zjV hne,hlt,rfl⟩,(zel ((zcM t1).trans t2)).trans ?_⟩
   unfold zhj
   rw[em]
   show (if (zD ks).length<16777216 then R.ok (Fl.nx,ρ.set 4 (some (.dic (zoa (zD ks) g (.int (zgW (zcA ks q g))))))) else .no)=_
   rw[if_pos (by unfold zD;rw[List.length_map];omega),zpW]
   rfl
  ·rw[decide_eq_false hlt] at t2
   exact ⟨ks,_,.inr ⟨rfl,.inr ⟨_,zjV hne,hlt⟩⟩,zct ((zcM t1).trans t2)⟩
structure Kd(n:Nat)(ks:List (Int×Int)):Prop where
 nd:(ks.map (·.1)).Nodup
 rg:∀ k:Int,k∈ks.map (·.1)->0<=k/\k<(n:Int)
theorem Kd.le{n:Nat}{ks:List (Int×Int)}(h:Kd n ks):ks.length<=n:=by
 have:=zfi h.nd h.rg
 simpa using this
theorem zoF:∀{ks:List (Int×Int)}{k:Int},Bf.lk ks k=none->k∉ks.map (·.1)
 |[],_,_=>by simp
 |p::r,k,h=>by
  unfold Bf.lk at h
  split at h
  ·cases h
  ·rename_i hk
   rw[List.map_cons,List.mem_cons,not_or]
   exact ⟨fun z=>hk z.symm,zoF h⟩
theorem Kd.pt{n:Nat}{ks:List (Int×Int)}(h:Kd n ks){g mn:Int}(hg:0<=g/\g<(n:Int)):Kd n (Bf.pt ks g mn):=by
 unfold Bf.pt
 split
 ·have e:(ks.map (fun p=>if p.1=g then (p.1,mn) else p)).map (·.1)=ks.map (·.1):=by
   rw[List.map_map]
   congr 1
   funext p
   dsimp only[Function.comp]
   split <;> rfl
  exact ⟨by rw[e];exact h.nd,by rw[e];exact h.rg⟩
 ·rename_i hs
  have hn:g∉ks.map (·.1):=zoF (by
   cases e:Bf.lk ks g with
   |none=>rfl
   |some d=>rw[e] at hs;exact absurd rfl hs)
  refine ⟨?_,fun x hx=>?_⟩
  ·rw[List.map_append,List.nodup_append]
   refine ⟨h.nd,by simp,fun x hx y hy=>?_⟩
   simp at hy
   subst hy
   intro z;subst z;exact hn hx
  ·rw[List.map_append,List.mem_append] at hx
   rcases hx with z|z
   ·exact h.rg x z
   ·simp at z;subst z;exact hg
theorem Kd.stp{n:Nat}{ks ks':List (Int×Int)}(h:Kd n ks){q:List Int}{g:Int}(hg:0<=g/\g<(n:Int))(s:Bf.Stp n q g ks ks'):Kd n ks':=by
 rcases s with ⟨mn,_,_,rfl⟩|⟨rfl,_⟩
 ·exact h.pt hg
 ·exact h
theorem Pty.len{n:Nat}{q:List Int}(h:Pty n q):q.length<=n:=zfi (h.2.1.imp fun h=>by omega) h.2.2
abbrev zsj:DS:=zcD (dIt (zab 6)) (za3 7) (zaP znf znQ)
abbrev zjM:DS:=dIf (dTB (dOp (gIn true) (zab 3) (zab 6))) zsj dNx
theorem zm1{n:Nat}{ps:List (List Int)}(h7:n<=7)(hp:zdk n ps){en third:Int}{k a:Nat}{q:List Int}{ks:List (Int×Int)}(hk:k+1<=n)(hq:ps[a]? = some q)(K:Kd n ks)(h:Bf.Rd ps third en n k a [] ks){o5 o7 o8:Option B} :
  ∃ ks' o7' o8',Kd n ks'/\Bf.Rd ps third en n k (a+1) [] ks'/\zjM (fA n ps en third ks o5 (some (.val (tz q))) o7 o8)=.ok (.nx,fA n ps en third ks' o5 (some (.val (tz q))) o7' o8'):=by
 have hP:=hp q (List.mem_of_getElem? hq)
 have hl:=hP.len
 have t:dTB (dOp (gIn true) (zab 3) (zab 6)) (fA n ps en third ks o5 (some (.val (tz q))) o7 o8)=.ok (!decide (third∈q),fA n ps en third ks o5 (some (.val (tz q))) o7 o8):=zaH (zar (d:=.int third) (e:=tz q) rfl rfl (zq4 third q true))
 by_cases ht:third∈q
 ·rw[decide_eq_true ht] at t
  exact ⟨ks,o7,o8,K,h.past hq ht,zct t⟩
 ·rw[decide_eq_false ht] at t
  let I:List Int->Ev->Prop:=fun pre ρ=>∃ ks o7 o8,Kd n ks/\Bf.Rd ps third en n k a pre ks/\ρ=fA n ps en third ks o5 (some (.val (tz q))) o7 o8
  obtain ⟨ρ',e,ks',o7',o8',K',hL,rfl⟩:=zb5 (u:=Dt.int) (g:=za3 7) (body:=zaP znf znQ) (I:=I) q [] (fA n ps en third ks o5 (some (.val (tz q))) o7 o8) (fun pre g zay e ρ ⟨ks,o7,o8,K,hL,eρ⟩=>by
   subst eρ
   have hg:g∈q:=by rw[show q=[]++q from rfl,e];simp
   have:=K.le
   obtain ⟨ks',o8',s,e'⟩:=znU (n:=n) (ps:=ps) (en:=en) (third:=third) (ks:=ks) (q:=q) (g:=g) (o5:=o5) (o8:=o8) (by omega) (by omega)
   exact ⟨_,_,by simp[za3,fA],e',ks',_,o8',K.stp (hP.2.2 g hg) s,hL.guest hk hq ht hg s,rfl⟩) ⟨ks,o7,o8,K,h,rfl⟩
  exact ⟨ks',o7',o8',K',hL.party hq,(zel t).trans ((zbo rfl).trans e)⟩
theorem zsI{ps p r:List (List Int)}{q:List Int}(e:ps=p++q::r):ps[p.length]? = some q:=by rw[e];simp
theorem zml{n:Nat}{ps:List (List Int)}(h7:n<=7)(hp:zdk n ps){en third:Int}{k:Nat}{ks:List (Int×Int)}(hk:k+1<=n)(K:Kd n ks)(h:Bf.Bi ps third en n k ks){o5 o6 o7 o8:Option B} :
  ∃ ks' o6' o7' o8',Kd n ks'/\Bf.Bi ps third en n (k+1) ks'/\zcD (dIt (zab 1)) (za3 6) zjM (fA n ps en third ks o5 o6 o7 o8)=.ok (.nx,fA n ps en third ks' o5 o6' o7' o8'):=by
 let I:List (List Int)->Ev->Prop:=fun pre ρ=>∃ ks o6 o7 o8,Kd n ks/\Bf.Rd ps third en n k pre.length [] ks/\ρ=fA n ps en third ks o5 o6 o7 o8
 obtain ⟨ρ',e,ks',o6',o7',o8',K',hL,rfl⟩:=zb5 (u:=tz) (g:=za3 6) (body:=zjM) (I:=I) ps [] (fA n ps en third ks o5 o6 o7 o8) (fun pre q zay e ρ ⟨ks,o6,o7,o8,K,hL,eρ⟩=>by
  subst eρ
  obtain ⟨ks',o7',o8',K',hL',e'⟩:=zm1 (o5:=o5) (o7:=o7) (o8:=o8) h7 hp hk (zsI e) K hL
  exact ⟨_,_,by simp[za3,fA],e',ks',_,o7',o8',K',by rw[List.length_append];exact hL',rfl⟩) ⟨ks,o6,o7,o8,K,.start h,rfl⟩
 exact ⟨ks',o6',o7',o8',K',hL.out,(zbo rfl).trans e⟩
theorem zlA{n:Nat}{ps:List (List Int)}(h7:n<=7)(hp:zdk n ps){en third:Int}(he:0<=en/\en<(n:Int)) :
  ∃ ks,Bf.Bi ps third en n n ks/\zcL [.val (.int n),.val (pd ps),.val (.int en),.val (.int third)]=.ok (.dct ks,[.val .non,.val .non,.val .non,.val .non]):=by
 let I:List Nat->Ev->Prop:=fun pre ρ=>∃ ks o5 o6 o7 o8,Kd n ks/\Bf.Bi ps third en n pre.length ks/\ρ=fA n ps en third ks o5 o6 o7 o8
 have K0:Kd n [(en,0)]:=⟨by simp,by simp;omega⟩
 have hr:zbm (zab 0) (fA n ps en third [(en,0)] none none none none)=.ok ((List.range n).map fun k:Nat=>Dt.int (0+(k:Nat)),fA n ps en third [(en,0)] none none none none):=zcK rfl (by omega)
 obtain ⟨ρ',e,ks,o5,o6,o7,o8,K,hL,rfl⟩:=zb5 (u:=fun k:Nat=>Dt.int (0+(k:Nat))) (g:=za3 5) (body:=zcD (dIt (zab 1)) (za3 6) zjM) (I:=I) (List.range n) [] (fA n ps en third [(en,0)] none none none none) (fun pre j zay e ρ ⟨ks,o5,o6,o7,o8,K,hL,eρ⟩=>by
  subst eρ
  have hlt:pre.length+1<=n:=by
   have:=congrArg List.length e
   simp at this
   omega
  obtain ⟨ks',o6',o7',o8',K',hL',e'⟩:=zml (o5:=some (.val (.int (0+(j:Nat))))) (o6:=o6) (o7:=o7) (o8:=o8) h7 hp hlt K hL
  exact ⟨_,_,by simp[za3,fA],e',ks',_,o6',o7',o8',K',by rw[List.length_append];exact hL',rfl⟩) ⟨[(en,0)],none,none,none,none,K0,.start,rfl⟩
 have hL':Bf.Bi ps third en n n ks:=by
  have:([]++List.range n).length=n:=by simp
  rw[this] at hL;exact hL
 refine ⟨ks,hL',zat (ρ':=[some (.val (.int n)),some (.val (pd ps)),some (.val (.int en)),some (.val (.int third)),some (.val (.dct ks)),o5,o6,o7,o8]) rfl ?_ rfl⟩
 show zdU [some (.val (.int n)),some (.val (pd ps)),some (.val (.int en)),some (.val (.int third)),none,none,none,none,none]=_
 unfold zdU
 rw[zan (ρ1:=fA n ps en third [(en,0)] none none none none) rfl,zan ((zbo hr).trans e)]
 refine zaW ?_
 show (match zh1 (zD ks) with|some ks=>R.ok (Dt.dct ks,(fA n ps en third ks o5 o6 o7 o8).set 4 (some (.val (.dct ks))))|none=>.no)=_
 rw[zjK]
 rfl
theorem ztl(k:Nat)(s t:Int×Int):ltD (k+1) (pr s) (pr t)=some (decide (s.1<t.1\/(s.1=t.1/\s.2<t.2))):=by
 show ltL (ltD k) [.int s.1,.int s.2] [.int t.1,.int t.2]=_
 unfold ltL
 rw[if_pos (by rfl),eqI,ltI]
 by_cases e:s.1=t.1
 ·rw[if_pos (by simpa using e)]
  unfold ltL
  rw[if_pos (by rfl),eqI,ltI]
  by_cases e2:s.2=t.2
  ·rw[if_pos (by simpa using e2)]
   unfold ltL
   congr 1
   symm
   apply decide_eq_false
   omega
  ·rw[if_neg (by simpa using e2)]
   congr 1
   apply decide_eq_decide.mpr
   omega
 ·rw[if_neg (by simpa using e)]
  congr 1
  apply decide_eq_decide.mpr
  omega
def lp2(s t:Int×Int):Prop:=s.1<t.1\/(s.1=t.1/\s.2<t.2)
theorem zhc:∀(zay:List (Int×Int))(b:Int×Int),∃ r,zbK (pr b,pr b) (dd (zay.map pr))=some (pr r)/\r∈b::zay/\∀ s∈b::zay,¬ lp2 s r
 |[],b=>⟨b,rfl,by simp,fun s hs=>by rw[List.mem_singleton.mp hs];unfold lp2;omega⟩
 |p::zay,b=>by
  have e:=ztl 7 p b
  by_cases h:p.1<b.1\/(p.1=b.1/\p.2<b.2)
  ·obtain ⟨r,h1,h2,h3⟩:=zhc zay p
   refine ⟨r,?_,List.mem_cons_of_mem _ h2,fun s hs=>?_⟩
   ·show zbK (pr b,pr b) ((pr p,pr p)::dd (zay.map pr))=_
    unfold zbK
    dsimp only
    rw[e,decide_eq_true h]
    exact h1
   ·rcases List.mem_cons.mp hs with rfl|hs
    ·have:=h3 p List.mem_cons_self
     unfold lp2 at this ⊢
     omega
    ·exact h3 s hs
  ·obtain ⟨r,h1,h2,h3⟩:=zhc zay b
   refine ⟨r,?_,?_,fun s hs=>?_⟩
   ·show zbK (pr b,pr b) ((pr p,pr p)::dd (zay.map pr))=_
    unfold zbK
    dsimp only
    rw[e,decide_eq_false h]
    exact h1
   ·rcases List.mem_cons.mp h2 with z|z
    ·rw[z];simp
    ·exact List.mem_cons_of_mem _ (List.mem_cons_of_mem _ z)
   ·rcases List.mem_cons.mp hs with z|hs
    ·exact h3 s (by rw[z];simp)
    ·rcases List.mem_cons.mp hs with z|hs
     ·subst z
      have:=h3 b List.mem_cons_self
      unfold lp2 at this ⊢
      omega
     ·exact h3 s (List.mem_cons_of_mem _ hs)
def Far(n:Nat)(ps:List (List Int))(third en:Int)(ks:List (Int×Int)):Prop:=∀ x,(∀ j:Nat,Bf.Ds ps third en j x->Bf.lk ks x=some (j:Int)/\j<n)/\(∀ d,Bf.lk ks x=some d->∃ j:Nat,d=j/\Bf.Ds ps third en j x)
abbrev gA(n:Nat)(ps:List (List Int))(one other third:Int)(ks:List (Int×Int))(w:List Int)(o7 o8 o9:Option B):Ev:=[some (.val (.int n)),some (.val (pd ps)),some (.val (.int one)),some (.val (.int other)),some (.val (.int third)),some (.val (.dct ks)),some (.val (tz w)),o7,o8,o9]
abbrev zsz:DS:=zaP (zbT 9 (dOp gIx (zab 1) (zab 8))) (dIf (zd7 (dTB (dOp (gIn false) (dOp gIx (zab 6) (zkH (dC (.int 1)))) (zab 9))) (dTB (dOp (gIn true) (zab 4) (zab 9)))) (zbT 7 (dFz (zrH (zab 7) (dFz (za8 (dIt (zab 9)) (za3 10) (dTB (dOp (gEq false) (zfc (zab 5) (zab 10)) (dOp zgd (zfc (zab 5) (dOp gIx (zab 6) (zkH (dC (.int 1))))) (dC (.int 1))))) (zdC (dA (zab 8) (dA (zab 10) dA0))) 1))))) dNx)
theorem zgJ{w:List Int}{x:Int}(h:w.getLast? = some x){i:Nat}{ρ:Ev}(hi:zab i ρ=.ok (tz w,ρ)):dOp gIx (zab i) (zkH (dC (.int 1))) ρ=.ok (.int x,ρ):=by
 refine zar (d:=tz w) (e:=.int (-1)) hi rfl (zmT ?_)
 rw[List.length_map,List.getElem?_map,<- List.getLast?_eq_getElem?,h]
 rfl
def Cd(ps:List (List Int))(third en x:Int)(i a:Nat)(ss:List (Int×Int)):Prop:=(∀ s∈ss,∃(b:Nat)(q:List Int),s.1=b/\b<a/\ps[b]? = some q/\x∈q/\third∉q/\s.2∈q/\Bf.Ds ps third en i s.2) /\
 ∀(b:Nat)(q:List Int)(y:Int),b<a->ps[b]? = some q->x∈q->third∉q->y∈q->Bf.Ds ps third en i y->((b:Int),y)∈ss
theorem zrI{n:Nat}{ps:List (List Int)}(h7:n<=7)(hp:zdk n ps){one other third:Int}{ks:List (Int×Int)}(hf:Far n ps third other ks){w:List Int}{x:Int}(hx:w.getLast? = some x){i:Nat}(hd:Bf.Ds ps third other (i+1) x){a:Nat}{q:List Int}(hq:ps[a]? = some q){ss:List (Int×Int)}(hs:ss.length<=100)(h:Cd ps third other x i a ss){o9:Option B} :
  ∃ ss',ss'.length<=ss.length+7/\Cd ps third other x i (a+1) ss'/\zsz (gA n ps one other third ks w (some (.val (.lst (ss.map pr)))) (some (.val (.int (0+(a:Nat))))) o9)=.ok (.nx,gA n ps one other third ks w (some (.val (.lst (ss'.map pr)))) (some (.val (.int (0+(a:Nat))))) (some (.val (tz q)))):=by
 have hal:a<ps.length:=(List.getElem?_eq_some_iff.mp hq).1
 have hP:=hp q (List.mem_of_getElem? hq)
 have hl:=hP.len
 rw[show (0:Int)+(a:Nat)=(a:Nat) by omega]
 have e9:zbT 9 (dOp gIx (zab 1) (zab 8)) (gA n ps one other third ks w (some (.val (.lst (ss.map pr)))) (some (.val (.int (a:Nat)))) o9)=.ok (.nx,gA n ps one other third ks w (some (.val (.lst (ss.map pr)))) (some (.val (.int (a:Nat)))) (some (.val (tz q)))):=by
  refine zbc (d:=tz q) (ρ1:=gA n ps one other third ks w (some (.val (.lst (ss.map pr)))) (some (.val (.int (a:Nat)))) o9) (zar (d:=pd ps) (e:=.int (a:Nat)) rfl rfl ?_) (by simp)
  rw[znq (by omega) (by omega)]
  rw[List.getD_eq_getElem?_getD,Int.toNat_natCast,hq]
  rfl
 let ρ:Ev:=gA n ps one other third ks w (some (.val (.lst (ss.map pr)))) (some (.val (.int (a:Nat)))) (some (.val (tz q)))
 have t1:dTB (dOp (gIn false) (dOp gIx (zab 6) (zkH (dC (.int 1)))) (zab 9)) ρ=.ok (decide (x∈q),ρ):=zaH (zar (d:=.int x) (e:=tz q) (zgJ hx rfl) rfl (zq4 x q false))
 have t2:dTB (dOp (gIn true) (zab 4) (zab 9)) ρ=.ok (!decide (third∈q),ρ):=zaH (zar (d:=.int third) (e:=tz q) rfl rfl (zq4 third q true))
 have skip:¬ (x∈q/\third∉q)->Cd ps third other x i (a+1) ss:=fun hn=>by
  refine ⟨fun s hs=>?_,fun b q' y hb hq' hx' ht' hy hD=>?_⟩
  ·obtain ⟨b,q',c1,c2,c3⟩:=h.1 s hs
   exact ⟨b,q',c1,by omega,c3⟩
  ·by_cases z:b<a
   ·exact h.2 b q' y z hq' hx' ht' hy hD
   ·have:b=a:=by omega
    subst this
    rw[hq] at hq'
    cases hq'
    exact absurd ⟨hx',ht'⟩ hn
 show ∃ ss',_/\_/\zaP _ _ _=_
 rw[zan e9]
 show ∃ ss',_/\_/\dIf _ _ _ ρ=_
 by_cases hxq:x∈q
 ·rw[decide_eq_true hxq] at t1
  by_cases htq:third∈q
  ·rw[decide_eq_true htq] at t2
   exact ⟨ss,by omega,skip fun z=>z.2 htq,zct ((zcM t1).trans t2)⟩
  ·rw[decide_eq_false htq] at t2
   have lkx:Bf.lk ks x=some ((i+1:Nat):Int):=((hf x).1 _ hd).1
   have lky:∀ y∈q,∃ j:Nat,Bf.Ds ps third other j y/\Bf.lk ks y=some (j:Int):=fun y hy=>by
    obtain ⟨j,_,hj⟩:=Bf.Ds.of _ (Bf.Rc.step a q y hd.1 hq hxq hy htq)
    exact ⟨j,hj,((hf y).1 j hj).1⟩
   let p:Dt->Bool:=fun d=>match d with|.int y=>(Bf.lk ks y).getD 0 == (i:Int)|_=>false
   let f:Dt->Dt:=fun d=>.tup [.int (a:Nat),d]
   have e:=zdd (p:=p) (f:=f) (ft:=dTB (dOp (gEq false) (zfc (zab 5) (zab 10)) (dOp zgd (zfc (zab 5) (dOp gIx (zab 6) (zkH (dC (.int 1))))) (dC (.int 1))))) (fe:=zdC (dA (zab 8) (dA (zab 10) dA0))) (ρ0:=ρ) (fi:=dIt (zab 9)) (l:=q.map .int) (j:=10) rfl rfl (by rw[List.length_map];omega)
    (fun d hd=>by
     obtain ⟨y,hy,rfl⟩:=List.mem_map.mp hd
     obtain ⟨j,_,hj⟩:=lky y hy
     have g1:zfc (zab 5) (zab 10) (ρ++[some (B.val (.int y))])=.ok (.int (j:Int),ρ++[some (B.val (.int y))]):=by
      show (match zdz (zD ks) y with|some d=>R.ok (d,ρ++[some (B.val (.int y))])|none=>.no)=_
      rw[zdj,hj];rfl
     have g2:zfc (zab 5) (dOp gIx (zab 6) (zkH (dC (.int 1)))) (ρ++[some (B.val (.int y))])=.ok (.int ((i+1:Nat):Int),ρ++[some (B.val (.int y))]):=by
      unfold zfc
      rw[show zab 5 (ρ++[some (B.val (.int y))])=.ok (.dct ks,ρ++[some (B.val (.int y))]) from rfl]
      simp only[R.bind_ok]
      rw[zgJ (i:=6) (ρ:=ρ++[some (B.val (.int y))]) hx rfl]
      simp only[R.bind_ok]
      rw[zdj,lkx];rfl
     have g3:dOp zgd (zfc (zab 5) (dOp gIx (zab 6) (zkH (dC (.int 1))))) (dC (.int 1)) (ρ++[some (B.val (.int y))])=.ok (.int (i:Int),ρ++[some (B.val (.int y))]):=zar (e:=.int 1) g2 rfl (by show R.ok (Dt.int (((i+1:Nat):Int)-1))=_;congr 2;omega)
     refine zaH (zar g1 g3 ?_)
     rw[zq0]
     show _=R.ok (Dt.bl ((Bf.lk ks y).getD 0 == (i:Int)))
     rw[hj];rfl)
    (fun d hd hp=>zbL (ds:=[.int (a:Nat),d]) (dAc rfl (dAz rfl)) (by simp))
   let ns:List (Int×Int):=(q.filter fun y=>(Bf.lk ks y).getD 0 == (i:Int)).map fun y=>((a:Int),y)
   have el:((q.map Dt.int).filter p).map f=ns.map pr:=by
    show _=((q.filter fun y=>(Bf.lk ks y).getD 0 == (i:Int)).map fun y=>((a:Int),y)).map pr
    rw[List.filter_map,List.map_map,List.map_map]
    rfl
   rw[el] at e
   have hns:ns.length<=7:=by
    show ((q.filter _).map _).length<=7
    rw[List.length_map]
    have:=List.length_filter_le (fun y=>(Bf.lk ks y).getD 0 == (i:Int)) q
    omega
   refine ⟨ss++ns,by rw[List.length_append];omega,⟨fun s hs=>?_,fun b q' y hb hq' hx' ht' hy hD=>?_⟩,(zel ((zcM t1).trans t2)).trans ?_⟩
   ·rcases List.mem_append.mp hs with z|z
    ·obtain ⟨b,q',c1,c2,c3⟩:=h.1 s z
     exact ⟨b,q',c1,by omega,c3⟩
    ·obtain ⟨y,hy,rfl⟩:=List.mem_map.mp z
     rw[List.mem_filter] at hy
     obtain ⟨j,hj1,hj2⟩:=lky y hy.1
     rw[hj2] at hy
     have ej:(j:Int)=i:=by simpa using hy.2
     have ej':j=i:=by omega
     subst ej'
     exact ⟨a,q,rfl,by omega,hq,hxq,htq,hy.1,hj1⟩
   ·by_cases z:b<a
    ·exact List.mem_append_left _ (h.2 b q' y z hq' hx' ht' hy hD)
    ·have:b=a:=by omega
     subst this
     rw[hq] at hq'
     cases hq'
     refine List.mem_append_right _ (List.mem_map.mpr ⟨y,List.mem_filter.mpr ⟨hy,?_⟩,rfl⟩)
     rw[((hf y).1 i hD).1]
     simp
   ·rw[zbc (ρ1:=ρ) (zbd (zr7 (x:=ss.map pr) (y:=ns.map pr) rfl (zbd e) (by rw[List.length_map,List.length_map];omega))) (by simp[ρ])]
    rw[<- List.map_append]
    rfl
 ·rw[decide_eq_false hxq] at t1
  exact ⟨ss,by omega,skip fun z=>hxq z.1,zct (zfr t1)⟩
theorem zqt{n:Nat}{ps:List (List Int)}(h7:n<=7)(hp:zdk n ps)(hps:ps.length<=8){one other third:Int}{ks:List (Int×Int)}(hf:Far n ps third other ks){w:List Int}{x:Int}(hx:w.getLast? = some x){i:Nat}(hd:Bf.Ds ps third other (i+1) x){o8 o9:Option B} :
  ∃ ss o8' o9',ss.length<=100/\Cd ps third other x i ps.length ss/\zcD (zbm (dFn zbR (dA (zab 1) dA0))) (za3 8) zsz (gA n ps one other third ks w (some (.val (.lst []))) o8 o9)=.ok (.nx,gA n ps one other third ks w (some (.val (.lst (ss.map pr)))) o8' o9'):=by
 let I:List Nat->Ev->Prop:=fun pre ρ=>∃ ss o8 o9,ss.length<=7 * pre.length/\Cd ps third other x i pre.length ss/\ρ=gA n ps one other third ks w (some (.val (.lst (ss.map pr)))) o8 o9
 have hr:zbm (dFn zbR (dA (zab 1) dA0)) (gA n ps one other third ks w (some (.val (.lst []))) o8 o9)=.ok ((List.range ps.length).map fun k:Nat=>Dt.int (0+(k:Nat)),gA n ps one other third ks w (some (.val (.lst []))) o8 o9):=zcK (zbk (d:=pd ps) rfl (by simp[zbR,lp])) (by omega)
 obtain ⟨ρ',e,ss,o8',o9',hl,hL,rfl⟩:=zb5 (u:=fun k:Nat=>Dt.int (0+(k:Nat))) (g:=za3 8) (body:=zsz) (I:=I) (List.range ps.length) [] (gA n ps one other third ks w (some (.val (.lst []))) o8 o9) (fun pre j zay e ρ ⟨ss,o8,o9,hl,hL,eρ⟩=>by
  subst eρ
  have hj:j=pre.length:=by
   have h:(List.range ps.length)[pre.length]? = some j:=by rw[show List.range ps.length=[]++List.range ps.length from rfl,e];simp
   obtain ⟨h4,h5⟩:=List.getElem?_eq_some_iff.mp h
   rw[List.getElem_range] at h5
   exact h5.symm
  have hlt:pre.length<ps.length:=by
   have:=congrArg List.length e
   simp at this
   omega
  subst hj
  obtain ⟨ss',hl',hL',e'⟩:=zrI (one:=one) (o9:=o9) h7 hp hf hx hd (List.getElem?_eq_getElem hlt) (by omega) hL
  exact ⟨_,_,by simp[za3,gA],e',ss',_,_,by rw[List.length_append,List.length_singleton];omega,by rw[List.length_append];exact hL',rfl⟩) ⟨[],o8,o9,by simp,⟨fun s hs=>(by cases hs),fun b q y hb=>by simp at hb⟩,rfl⟩
 have hlen:([]++List.range ps.length).length=ps.length:=by simp
 rw[hlen] at hL hl
 exact ⟨ss,o8',o9',by omega,hL,(zbo hr).trans e⟩
abbrev zsZ:DT:=dTB (dOp (gEq true) (dOp gIx (zab 6) (zkH (dC (.int 1)))) (zab 3))
abbrev zrb:DS:=zaP (zbT 7 (dFz (zd5 dA0))) (zaP (zcD (zbm (dFn zbR (dA (zab 1) dA0))) (za3 8) zsz) (zbT 6 (dOp ze8 (zab 6) (dFn zgb (dA (zab 7) dA0)))))
theorem znn{c:DT}{body:DS}{f:Nat}{ρ ρ1:Ev}(t:c ρ=.ok (true,ρ))(b:body ρ=.ok (.nx,ρ1)):zbg c body (f+1) ρ=zbg c body f ρ1:=by
 rw[zbg,t]
 simp only[R.bind_ok,if_true]
 rw[b]
 rfl
theorem ztq{n:Nat}{ps:List (List Int)}(h7:n<=7)(hp:zdk n ps)(hps:ps.length<=8){one other third:Int}{ks:List (Int×Int)}(hf:Far n ps third other ks){D k i:Nat}{w:List Int}{x:Int}(hD:Bf.Ds ps third other D one)(h:Bf.Gr ps third one other D k (i+1) w x){o7 o8 o9:Option B} :
  ∃ w' x' o7' o8' o9',Bf.Gr ps third one other D (k+1) i w' x'/\zrb (gA n ps one other third ks w o7 o8 o9)=.ok (.nx,gA n ps one other third ks w' o7' o8' o9'):=by
 have hDn:=((hf one).1 D hD).2
 have hk:=h.sum
 have hwl:=h.way.len
 obtain ⟨ss,o8',o9',hl,hC,e⟩:=zqt (one:=one) (o8:=o8) (o9:=o9) h7 hp hps hf h.way.last h.ds
 obtain ⟨a,q,z,c1,c2,c3,c4,c5⟩:=h.ds.prev
 have hmem:=hC.2 a q z (List.getElem?_eq_some_iff.mp c1).1 c1 c3 c4 c2 c5
 cases ss with
 |nil=>cases hmem
 |cons s0 zay =>
  obtain ⟨r,r1,r2,r3⟩:=zhc zay s0
  obtain ⟨num,q',d1,d2,d3,d4,d5,d6,d7⟩:=hC.1 r r2
  obtain ⟨ra,rb⟩:=r
  dsimp only at d1 d6 d7
  subst d1
  refine ⟨w++[(num:Int),rb],rb,some (.val (.lst ((s0::zay).map pr))),o8',o9',h.step hD d3 d4 d6 d5 d7 (fun b q'' y e1 e2 e3 e4 e5 bad=>?_),?_⟩
  ·have:=r3 _ (hC.2 b q'' y (List.getElem?_eq_some_iff.mp e1).1 e1 e2 e3 e4 e5)
   unfold lp2 at this
   dsimp only at this
   rcases bad with z|⟨z1,z|⟨_,z⟩⟩
   ·exact this (.inl z)
   ·exact this (.inr ⟨z1,z⟩)
   ·exact z
  ·have e7:zbT 7 (dFz (zd5 dA0)) (gA n ps one other third ks w o7 o8 o9)=.ok (.nx,gA n ps one other third ks w (some (.val (.lst []))) o8 o9):=zbc (d:=.lst []) (ρ1:=gA n ps one other third ks w o7 o8 o9) (zbd (zcp (ds:=[]) rfl (by simp))) (by simp)
   show zaP _ _ _=_
   rw[zan e7,zan e]
   refine zbc (d:=tz (w++[(num:Int),rb])) (ρ1:=gA n ps one other third ks w (some (.val (.lst ((s0::zay).map pr)))) o8' o9') (zar (d:=tz w) (e:=pr ((num:Int),rb)) rfl (zbk (d:=.lst ((s0::zay).map pr)) rfl ?_) (zqB w ((num:Int),rb) (by omega))) (by simp)
   show (match zbK (pr s0,pr s0) (dd (zay.map pr)) with|some r=>R.ok r|none=>.no)=_
   rw[r1]
theorem ztw{n:Nat}{ps:List (List Int)}(h7:n<=7)(hp:zdk n ps)(hps:ps.length<=8){one other third:Int}{ks:List (Int×Int)}(hf:Far n ps third other ks){D:Nat}(hD:Bf.Ds ps third other D one)(h0:Bf.Ds ps third other 0 other):∀(f i k:Nat)(w:List Int)(x:Int)(o7 o8 o9:Option B),i<f->Bf.Gr ps third one other D k i w x ->
  ∃ w' o7' o8' o9',(∃ k',k'<=D/\Bf.Least ps third one k' w' other)/\zbg zsZ zrb f (gA n ps one other third ks w o7 o8 o9)=.ok (.nx,gA n ps one other third ks w' o7' o8' o9'):=by
 intro f
 induction f with
 |zero=>intro i k w x o7 o8 o9 hlt;omega
 |succ f ih =>
   intro i k w x o7 o8 o9 hlt h
   cases i with
   |zero =>
  have ex:=h.ds.zero
  subst ex
  refine ⟨w,o7,o8,o9,⟨k,by have:=h.sum;omega,h.least hD⟩,?_⟩
  have t:zsZ (gA n ps one x third ks w o7 o8 o9)=.ok (!(x == x),gA n ps one x third ks w o7 o8 o9):=zaH (zar (d:=.int x) (e:=.int x) (zgJ h.way.last rfl) rfl zq0)
  rw[show (!(x == x))=false by simp] at t
  unfold zbg
  rw[t]
  rfl
   |succ i =>
  have hne:x≠other:=fun e=>by
   subst e
   have:=h.ds.uniq h0
   omega
  have t:zsZ (gA n ps one other third ks w o7 o8 o9)=.ok (!(x == other),gA n ps one other third ks w o7 o8 o9):=zaH (zar (d:=.int x) (e:=.int other) (zgJ h.way.last rfl) rfl zq0)
  rw[show (!(x == other))=true by simp[hne]] at t
  obtain ⟨w1,x1,p7,p8,p9,h1,e1⟩:=ztq (o7:=o7) (o8:=o8) (o9:=o9) h7 hp hps hf hD h
  obtain ⟨w',o7',o8',o9',hL,e'⟩:=ih i (k+1) w1 x1 p7 p8 p9 (by omega) h1
  refine ⟨w',o7',o8',o9',hL,?_⟩
  exact (znn t e1).trans e'
theorem ziE{n:Nat}{ps:List (List Int)}(h7:n<=7)(hp:zdk n ps)(hps:ps.length<=8){one other third:Int}(ho:0<=other/\other<(n:Int)) :
  ∃ d,Lw1 ps one other third d/\zbe [.val (.int n),.val (pd ps),.val (.int one),.val (.int other),.val (.int third)]=.ok (d,[.val .non,.val .non,.val .non,.val .non,.val .non]):=by
 obtain ⟨ks,hB,eF⟩:=zlA (third:=third) h7 hp ho
 have hf:Far n ps third other ks:=fun x=>hB.far (fun q hq=>(hp q hq).2.2) ho (fun l h1 h2=>zfi h1 h2) x
 have h0:Bf.Ds ps third other 0 other:=⟨.en,fun _ _=>Nat.zero_le _⟩
 let A:Option B->Option B->Ev:=fun o5 o6=>[some (.val (.int n)),some (.val (pd ps)),some (.val (.int one)),some (.val (.int other)),some (.val (.int third)),o5,o6,none,none,none]
 have e5:zbT 5 (zaj zcL (dR (zab 0) (dR (zab 1) (dR (zab 3) (dR (zab 4) dR0))))) (A none none)=.ok (.nx,A (some (.val (.dct ks))) none):=zbc (ρ1:=A none none) (zeZ (xs:=[.int n,pd ps,.int other,.int third]) (zaJ rfl (zaJ rfl (zaJ rfl (zaJ rfl zc5)))) eF) (by simp[A])
 have t:zsy false (zab 2) (zab 5) (A (some (.val (.dct ks))) none)=.ok (false == (zdz (zD ks) one).isSome,A (some (.val (.dct ks))) none):=rfl
 rw[zdj,Option.isSome_map] at t
 cases hl:Bf.lk ks one with
 |none =>
  rw[hl] at t
  refine ⟨.non,.inr ⟨fun k w hw=>?_,rfl⟩,zat (ρ':=A (some (.val (.dct ks))) none) rfl ?_ rfl⟩
  ·obtain ⟨j,_,hj⟩:=Bf.Ds.of _ (Bf.way_rc hw Bf.Rc.en)
   have:=((hf one).1 j hj).1
   rw[hl] at this
   cases this
  ·show zc1 (A none none)=_
   unfold zc1
   rw[zan e5]
   refine zdM ?_
   rw[zel t]
   rfl
 |some d =>
  rw[hl] at t
  obtain ⟨D,rfl,hD⟩:=(hf one).2 d hl
  have hDn:=((hf one).1 D hD).2
  obtain ⟨w,o7,o8,o9,⟨k,hk,hL⟩,e⟩:=ztw (ps:=ps) h7 hp hps hf hD h0 10 D 0 [one] one none none none (by omega) (.start hD)
  refine ⟨tz w,.inl ⟨k,w,hL,by rw[hL.way.len];omega,rfl⟩,zat (ρ':=gA n ps one other third ks w o7 o8 o9) rfl ?_ rfl⟩
  show zc1 (A none none)=_
  unfold zc1
  rw[zan e5,zan (zct t)]
  rw[zan (ρ1:=gA n ps one other third ks [one] none none none) (zbc (d:=tz [one]) (ρ1:=A (some (.val (.dct ks))) none) (zbL (ds:=[.int one]) (dAz rfl) (by simp)) (by simp[A]))]
  rw[zan e]
  exact zaW rfl
structure Od(S:Dt->Prop)(h:Nat)(f:Dt->Dt->Option Bool):Prop where
 ok:∀ x,S x->okN h x=true
 eq:∀ x y,S x->S y->(eqD x y=true ↔ x=y)
 sm:∀ x y,S x->S y->∃ b,f x y=some b
 tot:∀ x y,S x->S y->f x y=some false->f y x=some false->x=y
 tr:∀ x y z,S x->S y->S z->f x y=some true->f y z=some true->f x z=some true
 asy:∀ x y,S x->S y->f x y=some true->f y x=some false
structure OL(L:List Dt->Prop)(h:Nat)(f:Dt->Dt->Option Bool):Prop where
 ok:∀ xs,L xs->xs.all (okN h)=true
 eq:∀ xs ys,L xs->L ys->(zdP xs ys=true ↔ xs=ys)
 sm:∀ xs ys,L xs->L ys->∃ b,ltL f xs ys=some b
 tot:∀ xs ys,L xs->L ys->ltL f xs ys=some false->ltL f ys xs=some false->xs=ys
 tr:∀ xs ys zs,L xs->L ys->L zs->ltL f xs ys=some true->ltL f ys zs=some true->ltL f xs zs=some true
 asy:∀ xs ys,L xs->L ys->ltL f xs ys=some true->ltL f ys xs=some false
variable{S:Dt->Prop}{L:List Dt->Prop}{h:Nat}{f:Dt->Dt->Option Bool}
theorem Od.irr(O:Od S h f){x:Dt}(hx:S x):f x x=some false:=by
 obtain ⟨b,e⟩:=O.sm x x hx hx
 cases b with
 |false=>exact e
 |true=>exact O.asy x x hx hx e
theorem zo3(O:Od S h f)(hh:h<=60){x y:Dt}(hx:S x)(hy:S y)(xs ys:List Dt):ltL f (x::xs) (y::ys)=if eqD x y=true then ltL f xs ys else f x y:=by
 rw[ltL]
 rw[if_pos (by rw[zgp (O.ok x hx) hh,zgp (O.ok y hy) hh];rfl)]
theorem zbB(O:Od S h f)(hh:h<=60){x:Dt}(hx:S x)(xs ys:List Dt):ltL f (x::xs) (x::ys)=ltL f xs ys:=by
 rw[zo3 O hh hx hx,if_pos ((O.eq x x hx hx).mpr rfl)]
theorem za4(O:Od S h f)(hh:h<=60){x y:Dt}(hx:S x)(hy:S y)(hne:x≠y)(xs ys:List Dt):ltL f (x::xs) (y::ys)=f x y:=by
 rw[zo3 O hh hx hy,if_neg (fun z=>hne ((O.eq x y hx hy).mp z))]
theorem zl6(O:Od S h f){x y:Dt}(hx:S x)(hy:S y){xs ys:List Dt}(he:zdP xs ys=true ↔ xs=ys):zdP (x::xs) (y::ys)=true ↔ x::xs=y::ys:=by
 unfold zdP
 rw[Bool.and_eq_true,O.eq x y hx hy,he,List.cons.injEq]
theorem OL.nil:OL (fun l=>l=[]) h f:=by
 refine ⟨?_,?_,?_,?_,?_,?_⟩
 ·rintro _ rfl;rfl
 ·rintro _ _ rfl rfl;simp[zdP]
 ·rintro _ _ rfl rfl;exact ⟨false,rfl⟩
 ·rintro _ _ rfl rfl _ _;rfl
 ·rintro _ _ _ rfl rfl rfl h1 _;exact h1
 ·rintro _ _ rfl rfl h1;cases h1
theorem OL.cons(O:Od S h f)(hh:h<=60)(Q:OL L h f):OL (fun l=>∃ x r,l=x::r/\S x/\L r) h f:=by
 refine ⟨?_,?_,?_,?_,?_,?_⟩
 ·rintro _ ⟨x,r,rfl,hx,hr⟩
  rw[List.all_cons,O.ok x hx,Q.ok r hr];rfl
 ·rintro _ _ ⟨x,r,rfl,hx,hr⟩ ⟨y,t,rfl,hy,ht⟩
  exact zl6 O hx hy (Q.eq r t hr ht)
 ·rintro _ _ ⟨x,r,rfl,hx,hr⟩ ⟨y,t,rfl,hy,ht⟩
  by_cases e:x=y
  ·subst e;rw[zbB O hh hx];exact Q.sm r t hr ht
  ·rw[za4 O hh hx hy e];exact O.sm x y hx hy
 ·rintro _ _ ⟨x,r,rfl,hx,hr⟩ ⟨y,t,rfl,hy,ht⟩ h1 h2
  by_cases e:x=y
  ·subst e
   rw[zbB O hh hx] at h1 h2
   rw[Q.tot r t hr ht h1 h2]
  ·rw[za4 O hh hx hy e] at h1
   rw[za4 O hh hy hx (Ne.symm e)] at h2
   exact absurd (O.tot x y hx hy h1 h2) e
 ·rintro _ _ _ ⟨x,r,rfl,hx,hr⟩ ⟨y,t,rfl,hy,ht⟩ ⟨z,v,rfl,hz,hv⟩ h1 h2
  by_cases e:x=y
  ·subst e
   rw[zbB O hh hx] at h1
   by_cases e2:x=z
   ·subst e2
    rw[zbB O hh hx] at h2 ⊢
    exact Q.tr r t v hr ht hv h1 h2
   ·rw[za4 O hh hx hz e2] at h2 ⊢
    exact h2
  ·rw[za4 O hh hx hy e] at h1
   by_cases e2:y=z
   ·subst e2
    rw[za4 O hh hx hy e];exact h1
   ·rw[za4 O hh hy hz e2] at h2
    by_cases e3:x=z
    ·subst e3
     have:=O.asy x y hx hy h1
     rw[this] at h2;cases h2
    ·rw[za4 O hh hx hz e3]
     exact O.tr x y z hx hy hz h1 h2
 ·rintro _ _ ⟨x,r,rfl,hx,hr⟩ ⟨y,t,rfl,hy,ht⟩ h1
  by_cases e:x=y
  ·subst e
   rw[zbB O hh hx] at h1 ⊢
   exact Q.asy r t hr ht h1
  ·rw[za4 O hh hx hy e] at h1
   rw[za4 O hh hy hx (Ne.symm e)]
   exact O.asy x y hx hy h1
theorem OL.star(O:Od S h f)(hh:h<=60):OL (fun l=>∀ x∈l,S x) h f:=by
 have hd:∀{x:Dt}{l:List Dt},(∀ y∈x::l,S y)->S x:=fun h=>h _ List.mem_cons_self
 have tl:∀{x:Dt}{l:List Dt},(∀ y∈x::l,S y)->∀ y∈l,S y:=fun h y hy=>h y (List.mem_cons_of_mem _ hy)
 refine ⟨?_,?_,?_,?_,?_,?_⟩
 ·intro xs hx
  exact List.all_eq_true.mpr fun x hm=>O.ok x (hx x hm)
 ·intro xs
  induction xs with
  |nil=>intro ys _ _;cases ys <;> simp[zdP]
  |cons x xs ih =>
   intro ys hx hy
   cases ys with
   |nil=>simp[zdP]
   |cons y ys=>exact zl6 O (hd hx) (hd hy) (ih ys (tl hx) (tl hy))
 ·intro xs
  induction xs with
  |nil=>intro ys _ _;cases ys <;> exact ⟨_,rfl⟩
  |cons x xs ih =>
   intro ys hx hy
   cases ys with
   |nil=>exact ⟨_,rfl⟩
   |cons y ys =>
    by_cases e:x=y
    ·subst e;rw[zbB O hh (hd hx)];exact ih ys (tl hx) (tl hy)
    ·rw[za4 O hh (hd hx) (hd hy) e];exact O.sm x y (hd hx) (hd hy)
 ·intro xs
  induction xs with
  |nil =>
   intro ys _ _ h1 h2
   cases ys with
   |nil=>rfl
   |cons y ys=>cases h1
  |cons x xs ih =>
   intro ys hx hy h1 h2
   cases ys with
   |nil=>cases h2
   |cons y ys =>
    by_cases e:x=y
    ·subst e
     rw[zbB O hh (hd hx)] at h1 h2
     rw[ih ys (tl hx) (tl hy) h1 h2]
    ·rw[za4 O hh (hd hx) (hd hy) e] at h1
     rw[za4 O hh (hd hy) (hd hx) (Ne.symm e)] at h2
     exact absurd (O.tot x y (hd hx) (hd hy) h1 h2) e
 ·intro xs
  induction xs with
  |nil =>
   intro ys zs _ _ _ h1 h2
   cases ys with
   |nil=>cases h1
   |cons y ys =>
    cases zs with
    |nil=>cases h2
    |cons z zs=>rfl
  |cons x xs ih =>
   intro ys zs hx hy hz h1 h2
   cases ys with
   |nil=>cases h1
   |cons y ys =>
    cases zs with
    |nil=>cases h2
    |cons z zs =>
     by_cases e:x=y
     ·subst e
      rw[zbB O hh (hd hx)] at h1
      by_cases e2:x=z
      ·subst e2
       rw[zbB O hh (hd hx)] at h2 ⊢
       exact ih ys zs (tl hx) (tl hy) (tl hz) h1 h2
      ·rw[za4 O hh (hd hx) (hd hz) e2] at h2 ⊢
       exact h2
     ·rw[za4 O hh (hd hx) (hd hy) e] at h1
      by_cases e2:y=z
      ·subst e2
       rw[za4 O hh (hd hx) (hd hy) e];exact h1
      ·rw[za4 O hh (hd hy) (hd hz) e2] at h2
       by_cases e3:x=z
       ·subst e3
        have:=O.asy x y (hd hx) (hd hy) h1
        rw[this] at h2;cases h2
       ·rw[za4 O hh (hd hx) (hd hz) e3]
        exact O.tr x y z (hd hx) (hd hy) (hd hz) h1 h2
 ·intro xs
  induction xs with
  |nil =>
   intro ys _ _ h1
   cases ys with
   |nil=>cases h1
   |cons y ys=>rfl
  |cons x xs ih =>
   intro ys hx hy h1
   cases ys with
   |nil=>cases h1
   |cons y ys =>
    by_cases e:x=y
    ·subst e
     rw[zbB O hh (hd hx)] at h1 ⊢
     exact ih ys (tl hx) (tl hy) h1
    ·rw[za4 O hh (hd hx) (hd hy) e] at h1
     rw[za4 O hh (hd hy) (hd hx) (Ne.symm e)]
     exact O.asy x y (hd hx) (hd hy) h1
theorem Od.tup{k:Nat}(Q:OL L h (ltD k)):Od (fun d=>∃ l,d=.tup l/\L l) (h+1) (ltD (k+1)):=by
 have e:∀ l m:List Dt,ltD (k+1) (.tup l) (.tup m)=ltL (ltD k) l m:=fun _ _=>rfl
 refine ⟨?_,?_,?_,?_,?_,?_⟩
 ·rintro _ ⟨l,rfl,hl⟩;exact Q.ok l hl
 ·rintro _ _ ⟨l,rfl,hl⟩ ⟨m,rfl,hm⟩
  rw[show eqD (.tup l) (.tup m)=zdP l m by rw[eqD],Q.eq l m hl hm,Dt.tup.injEq]
 ·rintro _ _ ⟨l,rfl,hl⟩ ⟨m,rfl,hm⟩;exact Q.sm l m hl hm
 ·rintro _ _ ⟨l,rfl,hl⟩ ⟨m,rfl,hm⟩ h1 h2;rw[Q.tot l m hl hm h1 h2]
 ·rintro _ _ _ ⟨l,rfl,hl⟩ ⟨m,rfl,hm⟩ ⟨o,rfl,ho⟩ h1 h2;exact Q.tr l m o hl hm ho h1 h2
 ·rintro _ _ ⟨l,rfl,hl⟩ ⟨m,rfl,hm⟩ h1;exact Q.asy l m hl hm h1
theorem Od.ints(k h:Nat):Od (fun d=>∃ i:Int,d=.int i) h (ltD k):=by
 refine ⟨?_,?_,?_,?_,?_,?_⟩
 ·rintro _ ⟨i,rfl⟩;cases h <;> rfl
 ·rintro _ _ ⟨i,rfl⟩ ⟨j,rfl⟩;rw[eqI];simp
 ·rintro _ _ ⟨i,rfl⟩ ⟨j,rfl⟩;exact ⟨_,ltI i j k⟩
 ·rintro _ _ ⟨i,rfl⟩ ⟨j,rfl⟩ h1 h2
  rw[ltI] at h1 h2
  have h1:=of_decide_eq_false (Option.some.inj h1)
  have h2:=of_decide_eq_false (Option.some.inj h2)
  congr 1;omega
 ·rintro _ _ _ ⟨i,rfl⟩ ⟨j,rfl⟩ ⟨l,rfl⟩ h1 h2
  rw[ltI] at h1 h2 ⊢
  have h1:=of_decide_eq_true (Option.some.inj h1)
  have h2:=of_decide_eq_true (Option.some.inj h2)
  rw[decide_eq_true (by omega)]
 ·rintro _ _ ⟨i,rfl⟩ ⟨j,rfl⟩ h1
  rw[ltI] at h1 ⊢
  have h1:=of_decide_eq_true (Option.some.inj h1)
  rw[decide_eq_false (by omega)]
theorem Od.sub{S':Dt->Prop}(O:Od S h f)(s:∀ x,S' x->S x):Od S' h f :=
 ⟨fun x a=>O.ok x (s x a),fun x y a b=>O.eq x y (s x a) (s y b),fun x y a b=>O.sm x y (s x a) (s y b),fun x y a b=>O.tot x y (s x a) (s y b),fun x y z a b c=>O.tr x y z (s x a) (s y b) (s z c),fun x y a b=>O.asy x y (s x a) (s y b)⟩
theorem Od.key:Od (fun d=>∃ e,d=zce e/\Br e) 4 (ltD 8):=by
 have t:=Od.tup (OL.star (Od.ints 4 0) (by omega))
 have w:=Od.tup (OL.cons t (by omega) (OL.cons t (by omega) (OL.cons t (by omega) OL.nil)))
 have b:=Od.tup (OL.cons (Od.ints 6 2) (by omega) (OL.cons (Od.ints 6 2) (by omega) (OL.cons (Od.ints 6 2) (by omega) (OL.cons w (by omega) OL.nil))))
 have k:=Od.tup (OL.cons (Od.ints 7 3) (by omega) (OL.cons b (by omega) OL.nil))
 have tzS:∀ u:List Int,∃ l,tz u=.tup l/\∀ x∈l,∃ i:Int,x=.int i:=fun u=>⟨_,rfl,fun x hx=>by
  obtain ⟨i,_,e⟩:=List.mem_map.mp hx
  exact ⟨i,e.symm⟩⟩
 refine k.sub ?_
 rintro _ ⟨_,rfl,a,bb,c,u,v,w',rfl,_⟩
 exact ⟨_,rfl,_,_,rfl,⟨_,rfl⟩,_,_,rfl,⟨_,rfl,_,_,rfl,⟨_,rfl⟩,_,_,rfl,⟨_,rfl⟩,_,_,rfl,⟨_,rfl⟩,_,_,rfl,⟨_,rfl,_,_,rfl,tzS u,_,_,rfl,tzS v,_,_,rfl,tzS w',rfl⟩,rfl⟩,rfl⟩
theorem zeo(g:Dt->Dt):∀(ds:List Dt)(d:Dt),Br d->(∀ e∈ds,Br e)->∃ r,zbK (zce d,g d) (ds.map fun e=>(zce e,g e))=some (g r)/\r∈d::ds/\∀ e∈d::ds,ltD 8 (zce e) (zce r)=some false
 |[],d,hd,_=>⟨d,rfl,by simp,fun e he=>by rw[List.mem_singleton.mp he];exact Od.key.irr ⟨d,rfl,hd⟩⟩
 |p::ds,d,hd,hs=>by
  have hp:=hs p List.mem_cons_self
  have hs':∀ e∈ds,Br e:=fun e he=>hs e (List.mem_cons_of_mem _ he)
  obtain ⟨b,e⟩:=Od.key.sm _ _ ⟨p,rfl,hp⟩ ⟨d,rfl,hd⟩
  have flip:∀{x y z:Dt},Br x->Br y->Br z->ltD 8 (zce y) (zce x)=some false->ltD 8 (zce y) (zce z)=some true->ltD 8 (zce x) (zce z)=some true:=fun {x y z} hx hy hz h1 h2=>by
   obtain ⟨b,eb⟩:=Od.key.sm _ _ ⟨x,rfl,hx⟩ ⟨y,rfl,hy⟩
   cases b with
   |true=>exact Od.key.tr _ _ _ ⟨x,rfl,hx⟩ ⟨y,rfl,hy⟩ ⟨z,rfl,hz⟩ eb h2
   |false=>rw[Od.key.tot _ _ ⟨x,rfl,hx⟩ ⟨y,rfl,hy⟩ eb h1];exact h2
  cases b with
  |true =>
   obtain ⟨r,h1,h2,h3⟩:=zeo g ds p hp hs'
   have hr:Br r:=by
    rcases List.mem_cons.mp h2 with z|z
    ·rw[z];exact hp
    ·exact hs' r z
   refine ⟨r,?_,List.mem_cons_of_mem _ h2,fun x hx=>?_⟩
   ·rw[List.map_cons]
    unfold zbK
    dsimp only
    rw[e]
    exact h1
   ·rcases List.mem_cons.mp hx with rfl|hx
    ·obtain ⟨b,eb⟩:=Od.key.sm _ _ ⟨x,rfl,hd⟩ ⟨r,rfl,hr⟩
     cases b with
     |false=>exact eb
     |true =>
      have:=Od.key.tr _ _ _ ⟨p,rfl,hp⟩ ⟨x,rfl,hd⟩ ⟨r,rfl,hr⟩ e eb
      rw[h3 p List.mem_cons_self] at this
      cases this
    ·exact h3 x hx
  |false =>
   obtain ⟨r,h1,h2,h3⟩:=zeo g ds d hd hs'
   have hr:Br r:=by
    rcases List.mem_cons.mp h2 with z|z
    ·rw[z];exact hd
    ·exact hs' r z
   refine ⟨r,?_,?_,fun x hx=>?_⟩
   ·rw[List.map_cons]
    unfold zbK
    dsimp only
    rw[e]
    exact h1
   ·rcases List.mem_cons.mp h2 with z|z
    ·rw[z];simp
    ·exact List.mem_cons_of_mem _ (List.mem_cons_of_mem _ z)
   ·rcases List.mem_cons.mp hx with z|hx
    ·exact h3 x (by rw[z];simp)
    ·rcases List.mem_cons.mp hx with z|hx
     ·subst z
      obtain ⟨b,eb⟩:=Od.key.sm _ _ ⟨x,rfl,hp⟩ ⟨r,rfl,hr⟩
      cases b with
      |false=>exact eb
      |true =>
       have:=flip hd hp hr e eb
       rw[h3 d List.mem_cons_self] at this
       cases this
     ·exact h3 x (List.mem_cons_of_mem _ hx)
theorem znG{ds es:List Dt}{d e:Dt}(hd:∀ x∈d::ds,Br x)(he:∀ x,x∈d::ds ↔ x∈e::es) :
  ∃ r,r∈d::ds/\zbK (zce d,d) (ds.map fun x=>(zce x,x))=some r/\zbK (zce e,zce e) (es.map fun x=>(zce x,zce x))=some (zce r):=by
 obtain ⟨r,h1,h2,h3⟩:=zeo id ds d (hd d List.mem_cons_self) fun x hx=>hd x (List.mem_cons_of_mem _ hx)
 have he':∀ x∈e::es,Br x:=fun x hx=>hd x ((he x).mpr hx)
 obtain ⟨r',g1,g2,g3⟩:=zeo zce es e (he' e List.mem_cons_self) fun x hx=>he' x (List.mem_cons_of_mem _ hx)
 have a:=h3 r' ((he r').mpr g2)
 have b:=g3 r ((he r).mp h2)
 have ek:=Od.key.tot _ _ ⟨r,rfl,hd r h2⟩ ⟨r',rfl,he' r' g2⟩ b a
 have er:r=r':=by
  unfold zce at ek
  simp at ek
  exact ek.2
 subst er
 exact ⟨r,h2,h1,g1⟩
theorem zlg(a b c:Dt):zif [.val a,.val b,.val c]=.ok (.lst [.tup [a,b,c],.tup [a,c,b],.tup [b,c,a]],[.val .non,.val .non,.val .non]):=by
 refine zat (ρ':=[some (.val a),some (.val b),some (.val c)]) rfl ?_ rfl
 show zl1 [some (.val a),some (.val b),some (.val c)]=_
 unfold zl1
 refine zaW (zbd (zcp (zcu (zbL (zcu rfl (zcu rfl (zcu rfl rfl))) (by simp)) (zcu (zbL (zcu rfl (zcu rfl (zcu rfl rfl))) (by simp)) (zcu (zbL (zcu rfl (zcu rfl (zcu rfl rfl))) (by simp)) rfl))) (by simp)))
theorem zqp{n:Nat}{p:List Int}(h7:n<=7)(h:Pty n p):p.length<=7:=by
 have:=zi1 (lo:=0) h.2.1 h.2.2
 omega
theorem zmU{n:Nat}{ps:List (List Int)}(hp:zdk n ps)(hl:ps.length<=8):zlN n (.lst (lp ps))=true:=by
 unfold zlN
 rw[Bool.and_eq_true,decide_eq_true_eq,List.all_eq_true]
 refine ⟨by simpa [lp] using hl,fun d hd=>?_⟩
 obtain ⟨p,hp',rfl⟩:=List.mem_map.mp hd
 exact zoV (hp p hp')
theorem zoS{n:Nat}{ps:List (List Int)}(h1:1<=n)(h7:n<=7)(hp:zdk n ps)(hps:ps.length<=8):zca [.val (.int n),.val (pd ps)]=.ok (.non,[.val .non,.val .non]):=by
 have hL:Lens (pd ps):=fun d hd t e=>by
  obtain ⟨p,hp',rfl⟩:=List.mem_map.mp hd
  cases e
  have:=zqp h7 (hp p hp')
  simpa using by omega
 have e:=zga h1 h7 (pd ps) hL
 rw[zmU hp hps] at e
 refine zlo (ρ':=[some (.val (.int n)),some (.val (pd ps))]) rfl ?_ rfl
 show zcd [some (.val (.int n)),some (.val (pd ps))]=_
 unfold zcd
 rw[zct (zjr (zaH (zk5 (ρ':=[some (.val (.int n)),some (.val (pd ps))]) (ρ'':=[some (.val (.int n)),some (.val (pd ps))]) rfl rfl e)))]
 rfl
def wD(ps:List (List Int))(one other third:Int):Dt:=match zba [.val (pd ps),.val (.int one),.val (.int other),.val (.int third)] with
 |.ok z=>z.1
 |_=>.non
theorem zi3{n:Nat}{ps:List (List Int)}(h7:n<=7)(hp:zdk n ps){one other third:Int}(h1:0<=one/\one<n):Lw1 ps one other third (wD ps one other third)/\zba [.val (pd ps),.val (.int one),.val (.int other),.val (.int third)]=.ok (wD ps one other third,[.val .non,.val .non,.val .non,.val .non]):=by
 obtain ⟨d,h,e⟩:=zpC (ps:=ps) (other:=other) (third:=third) h7 hp h1
 have ed:wD ps one other third=d:=by unfold wD;rw[e]
 rw[ed]
 exact ⟨h,e⟩
theorem zmn{n:Nat}{ps:List (List Int)}(h7:n<=7)(hp:zdk n ps)(hps:ps.length<=8){one other third:Int}(h1:0<=one/\one<n)(ho:0<=other/\other<n) :
  zbe [.val (.int n),.val (pd ps),.val (.int one),.val (.int other),.val (.int third)]=.ok (wD ps one other third,[.val .non,.val .non,.val .non,.val .non,.val .non]):=by
 obtain ⟨d,h,e⟩:=ziE (one:=one) (third:=third) h7 hp hps ho
 rw[e,h.uniq (zi3 h7 hp h1).1]
def bW(ps:List (List Int))(a b c:Int):List Dt:=[wD ps a b c,wD ps a c b,wD ps b c a]
def bD(ps:List (List Int))(a b c:Int):Dt:=if inD .non (bW ps a b c)=true then .non else .tup [.int a,.int b,.int c,.tup (bW ps a b c)]
theorem zqN{n:Nat}{ps:List (List Int)}(h7:n<=7)(hp:zdk n ps){a b c:Int}(ha:0<=a/\a<n)(hb:0<=b/\b<n):NW (wD ps a b c)/\NW (wD ps a c b)/\NW (wD ps b c a) :=
 ⟨(zi3 h7 hp ha).1.nw,(zi3 h7 hp ha).1.nw,(zi3 h7 hp hb).1.nw⟩
theorem zsu{n:Nat}{ps:List (List Int)}(h7:n<=7)(hp:zdk n ps){a b c:Int}(ha:0<=a/\a<n)(hb:0<=b/\b<n):(bW ps a b c).all (okN 60)=true:=by
 obtain ⟨n1,n2,n3⟩:=zqN (c:=c) h7 hp ha hb
 simp[bW,zgp (zll n1) (show 59<=60 by omega),zgp (zll n2) (show 59<=60 by omega),zgp (zll n3) (show 59<=60 by omega)]
theorem zmj{n:Nat}{ps:List (List Int)}(h7:n<=7)(hp:zdk n ps){a b c:Int}(ha:0<=a/\a<n)(hb:0<=b/\b<n)(hn:inD .non (bW ps a b c)=false):∃ u v w:List Int,bW ps a b c=[tz u,tz v,tz w]/\(u≠[]/\u.length<=20)/\(v≠[]/\v.length<=20)/\(w≠[]/\w.length<=20):=by
 obtain ⟨n1,n2,n3⟩:=zqN (c:=c) h7 hp ha hb
 unfold bW at hn ⊢
 generalize wD ps a b c=x1 at *
 generalize wD ps a c b=x2 at *
 generalize wD ps b c a=x3 at *
 have nn:x1≠.non/\x2≠.non/\x3≠.non:=by
  unfold inD at hn
  refine ⟨?_,?_,?_⟩ <;> rintro rfl <;> simp[eqD] at hn
 obtain ⟨u,rfl,u0⟩:=n1.resolve_left nn.1
 obtain ⟨v,rfl,v0⟩:=n2.resolve_left nn.2.1
 obtain ⟨w,rfl,w0⟩:=n3.resolve_left nn.2.2
 exact ⟨u,v,w,rfl,u0,v0,w0⟩
theorem zsU{n:Nat}{ps:List (List Int)}(h7:n<=7)(hp:zdk n ps){a b c:Int}(ha:0<=a/\a<n)(hb:0<=b/\b<n):NB (bD ps a b c):=by
 unfold bD
 split
 ·exact .inl rfl
 ·rename_i hn
  rw[Bool.not_eq_true] at hn
  obtain ⟨u,v,w,e,u0,v0,w0⟩:=zmj h7 hp ha hb hn
  rw[e]
  exact .inr ⟨a,b,c,u,v,w,rfl,u0,v0,w0⟩
theorem ztn{n:Nat}{ps:List (List Int)}(h7:n<=7)(hp:zdk n ps){a b c:Int}(ha:0<=a/\a<n)(hb:0<=b/\b<n):zcB [.val (pd ps),.val (.int a),.val (.int b),.val (.int c)]=.ok (bD ps a b c,[.val .non,.val .non,.val .non,.val .non]):=by
 let A:Option B->Ev:=fun o=>[some (.val (pd ps)),some (.val (.int a)),some (.val (.int b)),some (.val (.int c)),o]
 let T:List ((Int×Int×Int)×Dt):=[((a,b,c),wD ps a b c),((a,c,b),wD ps a c b),((b,c,a),wD ps b c a)]
 have hC:za8 (dIt (zaj zif (dR (zab 1) (dR (zab 2) (dR (zab 3) dR0))))) (za3 5) dTT (zaj zba (dR (zab 0) (dR (dOp gIx (zab 5) (dC (.int 0))) (dR (dOp gIx (zab 5) (dC (.int 1))) (dR (dOp gIx (zab 5) (dC (.int 2))) dR0))))) 1 (A none)=.ok (T.map (·.2),A none):=by
  refine zb2 (l:=T) (u:=fun t=>.tup [.int t.1.1,.int t.1.2.1,.int t.1.2.2]) (f:=fun t=>t.2) (ds:=[.tup [.int a,.int b,.int c],.tup [.int a,.int c,.int b],.tup [.int b,.int c,.int a]]) ?_ rfl (by simp[T]) (fun t ht=>?_) rfl
  ·unfold dIt
   rw[zeZ (xs:=[.int a,.int b,.int c]) (ρ1:=A none) (zaJ rfl (zaJ rfl (zaJ rfl zc5))) (zlg _ _ _)]
   rfl
  ·have hF:zba [.val (pd ps),.val (.int t.1.1),.val (.int t.1.2.1),.val (.int t.1.2.2)]=.ok (t.2,[.val .non,.val .non,.val .non,.val .non]):=by
    simp only[T,List.mem_cons,List.not_mem_nil,or_false] at ht
    rcases ht with rfl|rfl|rfl
    ·exact (zi3 h7 hp ha).2
    ·exact (zi3 h7 hp ha).2
    ·exact (zi3 h7 hp hb).2
   exact zeZ (xs:=[pd ps,.int t.1.1,.int t.1.2.1,.int t.1.2.2]) (zaJ rfl (zaJ rfl (zaJ rfl (zaJ rfl zc5)))) hF
 let A1:Ev:=A (some (.val (.lst (bW ps a b c))))
 have eS:zbT 4 (dFz (za8 (dIt (zaj zif (dR (zab 1) (dR (zab 2) (dR (zab 3) dR0))))) (za3 5) dTT (zaj zba (dR (zab 0) (dR (dOp gIx (zab 5) (dC (.int 0))) (dR (dOp gIx (zab 5) (dC (.int 1))) (dR (dOp gIx (zab 5) (dC (.int 2))) dR0))))) 1)) (A none)=.ok (.nx,A1):=zbc (ρ1:=A none) (zbd hC) (by simp[A])
 have hall:=zsu (c:=c) h7 hp ha hb
 have tI:dTB (dOp (gIn false) (dC .non) (zab 4)) A1=.ok (inD .non (bW ps a b c),A1):=by
  refine zaH (zar (d:=.non) (e:=.lst (bW ps a b c)) rfl rfl ?_)
  unfold gIn
  simp only[hall]
  simp[okN]
 refine zat (ρ':=A1) rfl ?_ rfl
 show zeK (A none)=_
 unfold zeK
 rw[zan eS]
 refine zaW ?_
 unfold zpt
 rw[tI]
 unfold bD
 cases hn:inD .non (bW ps a b c) with
 |true=>rfl
 |false =>
  show zdC (dA (zab 1) (dA (zab 2) (dA (zab 3) (dA (dFn zck (dA (zab 4) dA0)) dA0)))) A1=_
  exact zbL (ds:=[.int a,.int b,.int c,.tup (bW ps a b c)]) (dAc rfl (dAc rfl (dAc rfl (dAz (zbk (d:=.lst (bW ps a b c)) rfl rfl))))) (by simp)
theorem zdl{n j:Nat}{p r:List Nat}(e:[]++List.range n=p++j::r):j=p.length/\p.length<n:=by
 have h:(List.range n)[p.length]? = some j:=by rw[show List.range n=[]++List.range n from rfl,e];simp
 obtain ⟨h4,h5⟩:=List.getElem?_eq_some_iff.mp h
 rw[List.getElem_range] at h5
 rw[List.length_range] at h4
 exact ⟨h5.symm,h4⟩
abbrev lbA(n:Nat)(ps:List (List Int))(l:List Dt)(o4 o5:Option B):Ev:=[some (.val (.int n)),some (.val (pd ps)),some (.tab zeN),some (.own l),o4,o5]
abbrev zs5:DS:=dEx (zkA 3 (dFz (za8 (zbm (zab 5)) (za3 6) dTT (zaj zcB (dR (zab 1) (dR (zab 6) (dR (zab 5) (dR (zab 4) dR0))))) 1)))
def Bm(ps:List (List Int))(c b0:Nat)(l:List Dt):Prop:=∀ x,x∈l ↔ ∃ a b c':Nat,a<b/\b<c'/\(c'<c\/(c'=c/\b<b0))/\x=bD ps a b c'
theorem zr5{n:Nat}{ps:List (List Int)}(h7:n<=7)(hp:zdk n ps){l:List Dt}{c b:Nat}(hl:Bm ps c b l)(hn:l.length<=500)(hb:b<c)(hc:c<n):∃ l',Bm ps c (b+1) l'/\l'.length<=l.length+7/\zs5 (lbA n ps l (some (.val (.int c))) (some (.val (.int b))))=.ok (.nx,lbA n ps l' (some (.val (.int c))) (some (.val (.int b)))):=by
 let ρ:Ev:=lbA n ps l (some (.val (.int c))) (some (.val (.int b)))
 have hC:za8 (zbm (zab 5)) (za3 6) dTT (zaj zcB (dR (zab 1) (dR (zab 6) (dR (zab 5) (dR (zab 4) dR0))))) 1 ρ=.ok ((List.range b).map fun a=>bD ps (0+(a:Nat)) b c,ρ):=by
  refine zb2 (l:=List.range b) (u:=fun a=>.int (0+(a:Nat))) (f:=fun a=>bD ps (0+(a:Nat)) b c) (ds:=zaL 0 b) (zcK rfl (by omega)) rfl (by rw[List.length_range];omega) (fun a ha=>?_) rfl
  have ha':=List.mem_range.mp ha
  exact zeZ (xs:=[pd ps,.int (0+(a:Nat)),.int b,.int c]) (zaJ rfl (zaJ rfl (zaJ rfl (zaJ rfl zc5)))) (ztn h7 hp (by omega) (by omega))
 refine ⟨l++(List.range b).map fun a=>bD ps (0+(a:Nat)) b c,fun x=>?_,by rw[List.length_append,List.length_map,List.length_range];omega,zil (i:=3) (l0:=l) (l:=l) (ρ1:=ρ) rfl (zbd hC) rfl (by rw[List.length_map,List.length_range];omega)⟩
 rw[List.mem_append,hl x]
 constructor
 ·rintro (⟨a,b',c',h1,h2,h3,rfl⟩|h)
  ·exact ⟨a,b',c',h1,h2,by omega,rfl⟩
  ·obtain ⟨a,ha,rfl⟩:=List.mem_map.mp h
   have ha':=List.mem_range.mp ha
   exact ⟨a,b,c,ha',hb,by omega,by rw[show (0:Int)+(a:Nat)=(a:Nat) by omega]⟩
 ·rintro ⟨a,b',c',h1,h2,h3,rfl⟩
  by_cases z:c'<c\/(c'=c/\b'<b)
  ·exact .inl ⟨a,b',c',h1,h2,z,rfl⟩
  ·have e1:c'=c:=by omega
   have e2:b'=b:=by omega
   subst e1;subst e2
   exact .inr (List.mem_map.mpr ⟨a,List.mem_range.mpr h1,by rw[show (0:Int)+(a:Nat)=(a:Nat) by omega]⟩)
theorem znd{n:Nat}{ps:List (List Int)}(h7:n<=7)(hp:zdk n ps){l:List Dt}{c:Nat}(hl:Bm ps c 0 l)(hn:l.length<=49 * c)(hc:c<n){o5:Option B}:∃ l' o5',Bm ps (c+1) 0 l'/\l'.length<=49 * (c+1)/\zcD (zbm (zab 4)) (za3 5) zs5 (lbA n ps l (some (.val (.int c))) o5)=.ok (.nx,lbA n ps l' (some (.val (.int c))) o5'):=by
 let I:List Nat->Ev->Prop:=fun pre ρ=>∃ l o5,Bm ps c pre.length l/\l.length<=49 * c+7 * pre.length/\ρ=lbA n ps l (some (.val (.int c))) o5
 obtain ⟨ρ',e,l',o5',h1,h2,rfl⟩:=zb5 (u:=fun k:Nat=>Dt.int (0+(k:Nat))) (g:=za3 5) (body:=zs5) (I:=I) (List.range c) [] (lbA n ps l (some (.val (.int c))) o5) (fun pre b zay e ρ ⟨l,o5,h1,h2,eρ⟩=>by
  subst eρ
  obtain ⟨rfl,hb⟩:=zdl e
  obtain ⟨l',g1,g2,g3⟩:=zr5 (n:=n) (ps:=ps) h7 hp h1 (by omega) hb hc
  refine ⟨lbA n ps l (some (.val (.int c))) (some (.val (.int pre.length))),_,?_,g3,l',_,by rw[List.length_append];exact g1,by rw[List.length_append,List.length_singleton];omega,rfl⟩
  rw[show (0:Int)+(pre.length:Nat)=(pre.length:Nat) by omega]
  simp[za3]) ⟨l,o5,hl,by simp;omega,rfl⟩
 have hlen:([]++List.range c).length=c:=by simp
 rw[hlen] at h1 h2
 refine ⟨l',o5',fun x=>?_,by omega,(zbo (zcK rfl (by omega))).trans e⟩
 rw[h1 x]
 constructor
 ·rintro ⟨a,b,c',g1,g2,g3,rfl⟩
  exact ⟨a,b,c',g1,g2,by omega,rfl⟩
 ·rintro ⟨a,b,c',g1,g2,g3,rfl⟩
  exact ⟨a,b,c',g1,g2,by omega,rfl⟩
def zq6(n:Nat)(ps:List (List Int))(l:List Dt):Prop:=∀ x,x∈l ↔ ∃ a b c:Nat,a<b/\b<c/\c<n/\zfd (bD ps a b c)=false/\x=bD ps a b c
theorem zq6.br{n:Nat}{ps:List (List Int)}{l:List Dt}(h7:n<=7)(hp:zdk n ps)(h:zq6 n ps l):∀ x∈l,Br x:=fun x hx=>by
 obtain ⟨a,b,c,h1,h2,h3,h4,rfl⟩:=(h x).mp hx
 rcases zsU (c:=(c:Int)) h7 hp (a:=(a:Int)) (b:=(b:Int)) (by omega) (by omega) with z|z
 ·rw[z] at h4;cases h4
 ·exact z
theorem ztx{n:Nat}{ps:List (List Int)}(h1:1<=n)(h7:n<=7)(hp:zdk n ps)(hps:ps.length<=8):∃ l,zq6 n ps l/\∀ r,zkd .non (l.map fun e=>(zce e,e))=some r->zbb [.val (.int n),.val (pd ps),.tab zeN]=.ok (r,[.val .non,.val .non,.tab zeN]):=by
 let A0:Option B->Ev:=fun o=>[some (.val (.int n)),some (.val (pd ps)),some (.tab zeN),o,none,none]
 let I:List Nat->Ev->Prop:=fun pre ρ=>∃ l o4 o5,Bm ps pre.length 0 l/\l.length<=49 * pre.length/\ρ=lbA n ps l o4 o5
 obtain ⟨ρ',e,l,o4,o5,hl,hn,rfl⟩:=zb5 (u:=fun k:Nat=>Dt.int (0+(k:Nat))) (g:=za3 4) (body:=zcD (zbm (zab 4)) (za3 5) zs5) (I:=I) (List.range n) [] (lbA n ps [] none none) (fun pre c zay e ρ ⟨l,o4,o5,g1,g2,eρ⟩=>by
  subst eρ
  obtain ⟨rfl,hc⟩:=zdl e
  obtain ⟨l',o5',k1,k2,k3⟩:=znd (n:=n) (ps:=ps) (o5:=o5) h7 hp g1 g2 hc
  refine ⟨lbA n ps l (some (.val (.int pre.length))) o5,_,?_,k3,l',_,o5',by rw[List.length_append];exact k1,by rw[List.length_append];exact k2,rfl⟩
  rw[show (0:Int)+(pre.length:Nat)=(pre.length:Nat) by omega]
  simp[za3]) ⟨[],none,none,fun x=>⟨fun h=>(by cases h),fun ⟨a,b,c,_,_,h,_⟩=>by simp at h⟩,by simp,rfl⟩
 have hlen:([]++List.range n).length=n:=by simp
 rw[hlen] at hl hn
 have hL:l.length<=343:=by omega
 let F:List Dt:=l.filter fun d=>!zfd d
 have hB:zq6 n ps F:=fun x=>by
  rw[List.mem_filter,hl x]
  constructor
  ·rintro ⟨⟨a,b,c,g1,g2,g3,rfl⟩,g4⟩
   exact ⟨a,b,c,g1,g2,by omega,by simpa using g4,rfl⟩
  ·rintro ⟨a,b,c,g1,g2,g3,g4,rfl⟩
   exact ⟨⟨a,b,c,g1,g2,by omega,rfl⟩,by simpa using g4⟩
 refine ⟨F,hB,fun r er=>?_⟩
 have hF:=hB.br h7 hp
 let ρ1:Ev:=[some (.val (.int n)),some (.val (pd ps)),some (.tab zeN),some (.val (.lst l)),o4,o5]
 have hC:za8 (dIt (zis 3)) (za3 6) (zrx false (zab 6)) (zab 6) 1 (lbA n ps l o4 o5)=.ok (F,ρ1):=by
  rw[zlR (l:=l) (ρ1:=ρ1) rfl]
  have:=zdd (p:=fun d=>!zfd d) (f:=id) (ft:=zrx false (zab 6)) (fe:=zab 6) (ρ0:=ρ1) (l:=l) (fi:=fun ρ=>.ok (l,ρ)) (j:=6) rfl rfl (by omega) (fun d hd=>by
   show R.ok (false == zfd d,ρ1++[some (.val d)])=_
   cases zfd d <;> rfl) (fun d hd _=>rfl)
  rw[this,List.map_id]
 let ρ2:Ev:=[some (.val (.int n)),some (.val (pd ps)),some (.tab zeN),some (.val (.lst F)),o4,o5]
 refine zat (ρ':=ρ2) rfl ?_ rfl
 show zdW (A0 none)=_
 unfold zdW
 rw[zan (ρ1:=A0 none) (zg0 (zeZ (xs:=[.int n,pd ps]) (zaJ rfl (zaJ rfl zc5)) (zoS h1 h7 hp hps)))]
 rw[zan (ρ1:=lbA n ps [] none none) (zcH (ρ1:=A0 none) (zcp rfl (by simp)) (by simp[A0]))]
 rw[zan ((zbo (zcK rfl (by omega))).trans e)]
 rw[zan (ρ1:=lbA n ps F o4 o5) (zcH (ρ1:=ρ1) hC (by simp[ρ1]))]
 refine zaW ?_
 unfold znK
 rw[show zis 3 (lbA n ps F o4 o5)=.ok (.lst F,ρ2) from rfl]
 show (if zeN=zeN then match zeB (zdC (dA (zaj zbX (dR (zab 0) dR0)) (dA (zab 0) dA0))) F with|some kd=>(match zkd .non kd with|some r=>R.ok (r,ρ2)|none=>.no)|none=>.no else .no)=_
 rw[if_pos rfl,zjQ F hF]
 simp only
 rw[er]
def zr1(i j:Int)(ρ:Ev):R (List Dt×Ev):=if (zcv i && zcv j)=true then .ok (zaL i (j-i).toNat,ρ) else .no
theorem zmN{i j:Int}{ρ:Ev}(h:(zcv i && zcv j)=true):zr1 i j ρ=.ok (zaL i (j-i).toNat,ρ):=if_pos h
theorem zrZ{fa fb:De}{ρ ρ1 ρ2:Ev}{i j:Int}(h:fa ρ=.ok (.int i,ρ1))(h2:fb ρ1=.ok (.int j,ρ2)):zdJ fa fb ρ=zr1 i j ρ2:=by
 unfold zdJ
 rw[h]
 simp only[R.bind_ok]
 rw[h2]
 rfl
theorem zjT{fa fb:De}{ρ ρ1 ρ2:Ev}{i j:Nat}(h:fa ρ=.ok (.int i,ρ1))(h2:fb ρ1=.ok (.int j,ρ2))(hi:i<=1000)(hj:j<=1000):zdJ fa fb ρ=.ok (zaL i (j-i),ρ2):=by
 rw[zrZ h h2,zmN (by rw[zfM hi,zfM hj];rfl)]
 rw[show ((j:Int)-(i:Int)).toNat=j-i by omega]
abbrev uA(n:Nat)(ps:List (List Int))(l:List Dt)(o3 o4 o5 o6:Option B):Ev:=[some (.val (.int n)),some (.val (pd ps)),some (.own (l.map zce)),o3,o4,o5,o6]
abbrev zq7:DS:=zbT 6 (dFz (zd5 (dA (zaj zbe (dR (zab 0) (dR (zab 1) (dR (zab 3) (dR (zab 4) (dR (zab 5) dR0)))))) (dA (zaj zbe (dR (zab 0) (dR (zab 1) (dR (zab 3) (dR (zab 5) (dR (zab 4) dR0)))))) (dA (zaj zbe (dR (zab 0) (dR (zab 1) (dR (zab 4) (dR (zab 5) (dR (zab 3) dR0)))))) dA0)))))
abbrev zq2:DS:=zaP zq7 (dIf (dTB (dOp (gIn true) (dC .non) (zab 6))) (dEx (zfg 2 (zdC (dA (dFn zfY (dA (dFz (za8 (dIt (zab 6)) (za3 7) dTT (dFn zbR (dA (zab 7) dA0)) 1)) dA0)) (dA (zdC (dA (zab 3) (dA (zab 4) (dA (zab 5) (dA (dFn zck (dA (zab 6) dA0)) dA0))))) dA0))))) dNx)
theorem znA(ps:List (List Int))(a b c:Int):zfd (bD ps a b c)=inD .non (bW ps a b c):=by
 unfold bD
 split
 ·rename_i h;rw[h];rfl
 ·rename_i h;rw[Bool.not_eq_true] at h;rw[h];rfl
theorem znu{n:Nat}{ps:List (List Int)}(h7:n<=7)(hp:zdk n ps)(hps:ps.length<=8){l:List Dt}(hl:l.length<=500){a b c:Nat}(hab:a<b)(hbc:b<c)(hc:c<n){o6:Option B} :
  ∃ l' o6',l'=(if zfd (bD ps a b c)=true then l else l++[bD ps a b c])/\zq2 (uA n ps l (some (.val (.int a))) (some (.val (.int b))) (some (.val (.int c))) o6)=.ok (.nx,uA n ps l' (some (.val (.int a))) (some (.val (.int b))) (some (.val (.int c))) o6'):=by
 let ρ0:Ev:=uA n ps l (some (.val (.int a))) (some (.val (.int b))) (some (.val (.int c))) o6
 let ρ:Ev:=uA n ps l (some (.val (.int a))) (some (.val (.int b))) (some (.val (.int c))) (some (.val (.lst (bW ps a b c))))
 have ra:0<=(a:Int)/\(a:Int)<n:=by omega
 have rb:0<=(b:Int)/\(b:Int)<n:=by omega
 have rc:0<=(c:Int)/\(c:Int)<n:=by omega
 have e6:zq7 ρ0=.ok (.nx,ρ):=by
  refine zbc (d:=.lst (bW ps a b c)) (ρ1:=ρ0) (zbd (zcp (ds:=bW ps a b c) (dAc (zeZ (xs:=[.int n,pd ps,.int a,.int b,.int c]) (zaJ rfl (zaJ rfl (zaJ rfl (zaJ rfl (zaJ rfl zc5))))) (zmn h7 hp hps ra rb)) (dAc (zeZ (xs:=[.int n,pd ps,.int a,.int c,.int b]) (zaJ rfl (zaJ rfl (zaJ rfl (zaJ rfl (zaJ rfl zc5))))) (zmn h7 hp hps ra rc)) (dAz (zeZ (xs:=[.int n,pd ps,.int b,.int c,.int a]) (zaJ rfl (zaJ rfl (zaJ rfl (zaJ rfl (zaJ rfl zc5))))) (zmn h7 hp hps rb rc))))) (by simp[bW]))) (by simp[ρ0])
 have hall:=zsu (c:=(c:Int)) h7 hp ra rb
 have tI:dTB (dOp (gIn true) (dC .non) (zab 6)) ρ=.ok (!inD .non (bW ps a b c),ρ):=by
  refine zaH (zar (d:=.non) (e:=.lst (bW ps a b c)) rfl rfl ?_)
  unfold gIn
  simp only[hall]
  simp[okN]
 show ∃ l' o6',_/\zaP _ _ ρ0=_
 rw[zan e6]
 rw[znA]
 cases hn:inD .non (bW ps a b c) with
 |true =>
  rw[hn] at tI
  exact ⟨l,_,by simp,zct tI⟩
 |false =>
  rw[hn] at tI
  obtain ⟨u,v,w,e,hu,hv,hw⟩:=zmj h7 hp ra rb hn
  have eb:bD ps a b c=brD a b c u v w:=by
   unfold bD
   rw[hn,e]
   rfl
  refine ⟨l++[bD ps a b c],some (.val (.lst (bW ps a b c))),by simp,(zel tI).trans ?_⟩
  have hC:za8 (dIt (zab 6)) (za3 7) dTT (dFn zbR (dA (zab 7) dA0)) 1 ρ=.ok ([u,v,w].map fun q=>.int (q.length:Int),ρ):=by
   refine zb2 (l:=[u,v,w]) (u:=tz) (f:=fun q=>.int (q.length:Int)) (ds:=bW ps a b c) rfl e (by simp) (fun q hq=>?_) rfl
   exact zbk (d:=tz q) rfl (by simp[tz,zbR])
  have hS:dFn zfY (dA (dFz (za8 (dIt (zab 6)) (za3 7) dTT (dFn zbR (dA (zab 7) dA0)) 1)) dA0) ρ=.ok (.int (brL (bD ps a b c)),ρ):=by
   refine zbk (zbd hC) ?_
   have e:([u,v,w].map fun q=>Dt.int (q.length:Int))=([(u.length:Int),(v.length:Int),(w.length:Int)]).map Dt.int:=rfl
   rw[e]
   show (match zgg (([(u.length:Int),(v.length:Int),(w.length:Int)]).map Dt.int) with|some ns=>if zdx ns=true then R.ok (Dt.int ns.sum) else .no|_=>.no)=_
   rw[zg3]
   simp only
   have hs:zdx [(u.length:Int),(v.length:Int),(w.length:Int)]=true:=by
    unfold zdx
    simp only[List.length_cons,List.length_nil,List.all_cons,List.all_nil,Bool.and_true,Bool.and_eq_true,decide_eq_true_eq]
    omega
   rw[if_pos hs,eb]
   have:brL (brD a b c u v w)=[(u.length:Int),(v.length:Int),(w.length:Int)].sum:=by simp[brL,brD,tz,List.sum_cons]
   rw[this]
  have hT:zdC (dA (zab 3) (dA (zab 4) (dA (zab 5) (dA (dFn zck (dA (zab 6) dA0)) dA0)))) ρ=.ok (bD ps a b c,ρ):=by
   rw[show bD ps a b c=.tup [.int a,.int b,.int c,.tup (bW ps a b c)] by unfold bD;rw[hn];rfl]
   exact zbL (ds:=[.int a,.int b,.int c,.tup (bW ps a b c)]) (dAc rfl (dAc rfl (dAc rfl (dAz (zbk (d:=.lst (bW ps a b c)) rfl rfl))))) (by simp)
  have hK:zdC (dA (dFn zfY (dA (dFz (za8 (dIt (zab 6)) (za3 7) dTT (dFn zbR (dA (zab 7) dA0)) 1)) dA0)) (dA (zdC (dA (zab 3) (dA (zab 4) (dA (zab 5) (dA (dFn zck (dA (zab 6) dA0)) dA0))))) dA0)) ρ=.ok (zce (bD ps a b c),ρ):=zbL (ds:=[.int (brL (bD ps a b c)),bD ps a b c]) (dAc hS (dAz hT)) (by simp)
  rw[zox (i:=2) (l0:=l.map zce) (l:=l.map zce) (ρ1:=ρ) rfl hK rfl (by rw[List.length_map];omega)]
  simp[ρ,uA]
def Dm(n:Nat)(ps:List (List Int))(a b c:Nat)(l:List Dt):Prop:=∀ x,x∈l ↔ ∃ a' b' c':Nat,a'<b'/\b'<c'/\c'<n/\(a'<a\/(a'=a/\(b'<b\/(b'=b/\c'<c))))/\zfd (bD ps a' b' c')=false/\x=bD ps a' b' c'
theorem Dm.mono{n:Nat}{ps:List (List Int)}{a b c a2 b2 c2:Nat}{l:List Dt}(h:Dm n ps a b c l)(e:∀ a' b' c':Nat,a'<b'->b'<c'->c'<n->((a'<a\/(a'=a/\(b'<b\/(b'=b/\c'<c)))) ↔ (a'<a2\/(a'=a2/\(b'<b2\/(b'=b2/\c'<c2)))))):Dm n ps a2 b2 c2 l:=fun x=>by
 rw[h x]
 constructor
 ·rintro ⟨a',b',c',h1,h2,h3,h4,h5⟩
  exact ⟨a',b',c',h1,h2,h3,(e a' b' c' h1 h2 h3).mp h4,h5⟩
 ·rintro ⟨a',b',c',h1,h2,h3,h4,h5⟩
  exact ⟨a',b',c',h1,h2,h3,(e a' b' c' h1 h2 h3).mpr h4,h5⟩
theorem Dm.add{n:Nat}{ps:List (List Int)}{a b c:Nat}{l:List Dt}(hab:a<b)(hbc:b<c)(hc:c<n)(h:Dm n ps a b c l):Dm n ps a b (c+1) (if zfd (bD ps a b c)=true then l else l++[bD ps a b c]):=fun x=>by
 by_cases hn:zfd (bD ps a b c)=true
 ·rw[if_pos hn,h x]
  constructor
  ·rintro ⟨a',b',c',h1,h2,h3,h4,h5⟩
   exact ⟨a',b',c',h1,h2,h3,by omega,h5⟩
  ·rintro ⟨a',b',c',h1,h2,h3,h4,h5,h6⟩
   by_cases z:a'=a/\b'=b/\c'=c
   ·obtain ⟨rfl,rfl,rfl⟩:=z
    rw[hn] at h5;cases h5
   ·exact ⟨a',b',c',h1,h2,h3,by omega,h5,h6⟩
 ·rw[if_neg hn,List.mem_append,List.mem_singleton,h x]
  constructor
  ·rintro (⟨a',b',c',h1,h2,h3,h4,h5⟩|rfl)
   ·exact ⟨a',b',c',h1,h2,h3,by omega,h5⟩
   ·exact ⟨a,b,c,hab,hbc,hc,by omega,by simpa using hn,rfl⟩
  ·rintro ⟨a',b',c',h1,h2,h3,h4,h5,h6⟩
   by_cases z:a'=a/\b'=b/\c'=c
   ·obtain ⟨rfl,rfl,rfl⟩:=z
    exact .inr h6
   ·exact .inl ⟨a',b',c',h1,h2,h3,by omega,h5,h6⟩
theorem ztd{n:Nat}{ps:List (List Int)}(h7:n<=7)(hp:zdk n ps)(hps:ps.length<=8){l:List Dt}{a b:Nat}(hl:l.length<=400)(hab:a<b)(hb:b<n)(h:Dm n ps a b 0 l){o5 o6:Option B} :
  ∃ l' o5' o6',l'.length<=l.length+7/\Dm n ps a (b+1) 0 l'/\zcD (zdJ (dOp zaB (zab 4) (dC (.int 1))) (zab 0)) (za3 5) zq2 (uA n ps l (some (.val (.int a))) (some (.val (.int b))) o5 o6)=.ok (.nx,uA n ps l' (some (.val (.int a))) (some (.val (.int b))) o5' o6'):=by
 let I:List Nat->Ev->Prop:=fun pre ρ=>∃ l' o5 o6,l'.length<=l.length+pre.length/\Dm n ps a b (b+1+pre.length) l'/\ρ=uA n ps l' (some (.val (.int a))) (some (.val (.int b))) o5 o6
 have hr:zdJ (dOp zaB (zab 4) (dC (.int 1))) (zab 0) (uA n ps l (some (.val (.int a))) (some (.val (.int b))) o5 o6)=.ok (zaL ((b+1:Nat):Int) (n-(b+1)),uA n ps l (some (.val (.int a))) (some (.val (.int b))) o5 o6):=zjT (i:=b+1) (j:=n) (zar (d:=.int b) (e:=.int 1) rfl rfl rfl) rfl (by omega) (by omega)
 obtain ⟨ρ',e,l',o5',o6',g1,g2,rfl⟩:=zb5 (u:=fun k:Nat=>Dt.int (((b+1:Nat):Int)+(k:Nat))) (g:=za3 5) (body:=zq2) (I:=I) (List.range (n-(b+1))) [] (uA n ps l (some (.val (.int a))) (some (.val (.int b))) o5 o6) (fun pre c zay e ρ ⟨l',o5,o6,g1,g2,eρ⟩=>by
  subst eρ
  obtain ⟨rfl,hc⟩:=zdl e
  obtain ⟨l2,o6',e2,e3⟩:=znu (n:=n) (ps:=ps) (l:=l') (a:=a) (b:=b) (c:=b+1+pre.length) (o6:=o6) h7 hp hps (by omega) hab (by omega) (by omega)
  refine ⟨uA n ps l' (some (.val (.int a))) (some (.val (.int b))) (some (.val (.int ((b+1+pre.length:Nat):Int)))) o6,_,?_,e3,l2,_,o6',?_,?_,rfl⟩
  ·rw[show ((b+1:Nat):Int)+(pre.length:Nat)=((b+1+pre.length:Nat):Int) by omega]
   simp[za3]
  ·rw[e2,List.length_append,List.length_singleton]
   split
   ·omega
   ·rw[List.length_append,List.length_singleton];omega
  ·rw[e2,List.length_append,List.length_singleton]
   exact Dm.add (c:=b+1+pre.length) hab (by omega) (by omega) g2) ⟨l,o5,o6,by simp,h.mono fun a' b' c' h1 h2 h3=>by simp;omega,rfl⟩
 have hlen:([]++List.range (n-(b+1))).length=n-(b+1):=by simp
 rw[hlen] at g1 g2
 exact ⟨l',o5',o6',by omega,g2.mono fun a' b' c' h1 h2 h3=>by omega,(zbo hr).trans e⟩
theorem ztj{n:Nat}{ps:List (List Int)}(h7:n<=7)(hp:zdk n ps)(hps:ps.length<=8){l:List Dt}{a:Nat}(hl:l.length<=300)(ha:a<n)(h:Dm n ps a 0 0 l){o4 o5 o6:Option B} :
  ∃ l' o4' o5' o6',l'.length<=l.length+49/\Dm n ps (a+1) 0 0 l'/\zcD (zdJ (dOp zaB (zab 3) (dC (.int 1))) (zab 0)) (za3 4) (zcD (zdJ (dOp zaB (zab 4) (dC (.int 1))) (zab 0)) (za3 5) zq2) (uA n ps l (some (.val (.int a))) o4 o5 o6)=.ok (.nx,uA n ps l' (some (.val (.int a))) o4' o5' o6'):=by
 let I:List Nat->Ev->Prop:=fun pre ρ=>∃ l' o4 o5 o6,l'.length<=l.length+7 * pre.length/\Dm n ps a (a+1+pre.length) 0 l'/\ρ=uA n ps l' (some (.val (.int a))) o4 o5 o6
 have hr:zdJ (dOp zaB (zab 3) (dC (.int 1))) (zab 0) (uA n ps l (some (.val (.int a))) o4 o5 o6)=.ok (zaL ((a+1:Nat):Int) (n-(a+1)),uA n ps l (some (.val (.int a))) o4 o5 o6):=zjT (i:=a+1) (j:=n) (zar (d:=.int a) (e:=.int 1) rfl rfl rfl) rfl (by omega) (by omega)
 obtain ⟨ρ',e,l',o4',o5',o6',g1,g2,rfl⟩:=zb5 (u:=fun k:Nat=>Dt.int (((a+1:Nat):Int)+(k:Nat))) (g:=za3 4) (body:=zcD (zdJ (dOp zaB (zab 4) (dC (.int 1))) (zab 0)) (za3 5) zq2) (I:=I) (List.range (n-(a+1))) [] (uA n ps l (some (.val (.int a))) o4 o5 o6) (fun pre b zay e ρ ⟨l',o4,o5,o6,g1,g2,eρ⟩=>by
  subst eρ
  obtain ⟨rfl,hc⟩:=zdl e
  obtain ⟨l2,o5',o6',e1,e2,e3⟩:=ztd (n:=n) (ps:=ps) (l:=l') (a:=a) (b:=a+1+pre.length) (o5:=o5) (o6:=o6) h7 hp hps (by omega) (by omega) (by omega) g2
  refine ⟨uA n ps l' (some (.val (.int a))) (some (.val (.int ((a+1+pre.length:Nat):Int)))) o5 o6,_,?_,e3,l2,_,o5',o6',?_,?_,rfl⟩
  ·rw[show ((a+1:Nat):Int)+(pre.length:Nat)=((a+1+pre.length:Nat):Int) by omega]
   simp[za3]
  ·rw[List.length_append,List.length_singleton];omega
  ·rw[List.length_append,List.length_singleton];exact e2) ⟨l,o4,o5,o6,by simp,h.mono fun a' b' c' h1 h2 h3=>by simp;omega,rfl⟩
 have hlen:([]++List.range (n-(a+1))).length=n-(a+1):=by simp
 rw[hlen] at g1 g2
 exact ⟨l',o4',o5',o6',by omega,g2.mono fun a' b' c' h1 h2 h3=>by omega,(zbo hr).trans e⟩
theorem zn4{n:Nat}{ps:List (List Int)}(h7:n<=7)(hp:zdk n ps)(hps:ps.length<=8) :
  ∃ l,zq6 n ps l/\∀ r,(l=[]/\r=.non\/∃ d ds,l=d::ds/\zbK (zce d,zce d) (ds.map fun x=>(zce x,zce x))=some (zce r))->zbr [.val (.int n),.val (pd ps)]=.ok (r,[.val .non,.val .non]):=by
 let A0:Option B->Ev:=fun o=>[some (.val (.int n)),some (.val (pd ps)),o,none,none,none,none]
 let I:List Nat->Ev->Prop:=fun pre ρ=>∃ l o3 o4 o5 o6,l.length<=49 * pre.length/\Dm n ps pre.length 0 0 l/\ρ=uA n ps l o3 o4 o5 o6
 obtain ⟨ρ',e,l,o3,o4,o5,o6,hn,hl,rfl⟩:=zb5 (u:=fun k:Nat=>Dt.int (0+(k:Nat))) (g:=za3 3) (body:=zcD (zdJ (dOp zaB (zab 3) (dC (.int 1))) (zab 0)) (za3 4) (zcD (zdJ (dOp zaB (zab 4) (dC (.int 1))) (zab 0)) (za3 5) zq2)) (I:=I) (List.range n) [] (uA n ps [] none none none none) (fun pre a zay e ρ ⟨l,o3,o4,o5,o6,g1,g2,eρ⟩=>by
  subst eρ
  obtain ⟨rfl,ha⟩:=zdl e
  obtain ⟨l2,o4',o5',o6',e1,e2,e3⟩:=ztj (n:=n) (ps:=ps) (l:=l) (a:=pre.length) (o4:=o4) (o5:=o5) (o6:=o6) h7 hp hps (by omega) ha g2
  refine ⟨uA n ps l (some (.val (.int (pre.length:Nat)))) o4 o5 o6,_,?_,e3,l2,_,o4',o5',o6',?_,?_,rfl⟩
  ·rw[show (0:Int)+(pre.length:Nat)=(pre.length:Nat) by omega]
   simp[za3]
  ·rw[List.length_append,List.length_singleton];omega
  ·rw[List.length_append,List.length_singleton];exact e2) ⟨[],none,none,none,none,by simp,fun x=>⟨fun h=>(by cases h),fun ⟨a',b',c',_,_,_,h,_⟩=>by simp at h⟩,rfl⟩
 have hlen:([]++List.range n).length=n:=by simp
 rw[hlen] at hl hn
 have hB:zq6 n ps l:=fun x=>by
  rw[hl x]
  constructor
  ·rintro ⟨a,b,c,g1,g2,g3,_,g4,g5⟩
   exact ⟨a,b,c,g1,g2,g3,g4,g5⟩
  ·rintro ⟨a,b,c,g1,g2,g3,g4,g5⟩
   exact ⟨a,b,c,g1,g2,g3,by omega,g4,g5⟩
 refine ⟨l,hB,fun r hr=>?_⟩
 have hF:=hB.br h7 hp
 let ρ:Ev:=uA n ps l o3 o4 o5 o6
 have okL:okN 60 (.lst (l.map zce))=true:=by
  rw[okN,List.all_eq_true]
  intro x hx
  obtain ⟨d,hd,rfl⟩:=List.mem_map.mp hx
  exact zgp (Od.key.ok _ ⟨d,rfl,hF d hd⟩) (by omega)
 have tE:dTB (zmB true 2 (dFz (zd5 dA0))) ρ=.ok (!eqD (.lst (l.map zce)) (.lst []),ρ):=by
  refine zaH ?_
  unfold zmB
  have e2:ρ[2]? = some (some (B.own (l.map zce))):=rfl
  have e3:dFz (zd5 dA0) ρ=.ok (.lst [],ρ):=zbd (zcp (ds:=[]) (ρ1:=ρ) rfl (by simp))
  have e4:gEq true (.lst (l.map zce)) (.lst [])=.ok (.bl (!eqD (.lst (l.map zce)) (.lst []))):=zcT okL (by rfl)
  rw[e2]
  simp only
  rw[e3]
  simp only[R.bind_ok]
  rw[e2]
  simp only
  rw[e4]
  rfl
 have fin:∀ ρ',zpt (dTB (zmB true 2 (dFz (zd5 dA0)))) (dOp gIx (dFn zgb (dA (zis 2) dA0)) (dC (.int 1))) (dC .non) ρ=.ok (r,ρ')->zao [false,false] ρ'=.ok [.val .non,.val .non]->zbr [.val (.int n),.val (pd ps)]=.ok (r,[.val .non,.val .non]):=fun ρ' h hb=>by
  refine zat (ρ':=ρ') rfl ?_ hb
  show zeH (A0 none)=_
  unfold zeH
  rw[zan (ρ1:=uA n ps [] none none none none) (zcH (ρ1:=A0 none) (zcp rfl (by simp)) (by simp[A0]))]
  rw[zan ((zbo (zcK rfl (by omega))).trans e)]
  exact zaW h
 rcases hr with ⟨rfl,rfl⟩|⟨d,ds,rfl,hm⟩
 ·rw[show ([]:List Dt).map zce=[] from rfl,zdX] at tE
  refine fin ρ ?_ rfl
  unfold zpt
  rw[tE]
  rfl
 ·rw[List.map_cons,zde] at tE
  let ρ2:Ev:=[some (.val (.int n)),some (.val (pd ps)),some (.val (.lst ((d::ds).map zce))),o3,o4,o5,o6]
  refine fin ρ2 ?_ rfl
  unfold zpt
  rw[tE]
  show dOp gIx (dFn zgb (dA (zis 2) dA0)) (dC (.int 1)) ρ=_
  refine zar (d:=zce r) (e:=.int 1) (ρ1:=ρ2) (zbk (d:=.lst ((d::ds).map zce)) (zoZ rfl) ?_) rfl rfl
  show (match zbK (zce d,zce d) (dd (ds.map zce)) with|some r=>R.ok r|none=>.no)=_
  rw[show dd (ds.map zce)=ds.map fun x=>(zce x,zce x) from by unfold dd;rw[List.map_map];rfl,hm]
theorem zoO{n:Nat}{ps:List (List Int)}(h1:1<=n)(h7:n<=7)(hp:zdk n ps)(hps:ps.length<=8) :
  ∃ r,NB r/\zbb [.val (.int n),.val (pd ps),.tab zeN]=.ok (r,[.val .non,.val .non,.tab zeN])/\zbr [.val (.int n),.val (pd ps)]=.ok (r,[.val .non,.val .non]):=by
 obtain ⟨l,B1,f1⟩:=ztx h1 h7 hp hps
 obtain ⟨m,B2,f2⟩:=zn4 h7 hp hps
 have same:∀ x,x∈l ↔ x∈m:=fun x=>(B1 x).trans (B2 x).symm
 cases l with
 |nil =>
  have em:m=[]:=List.eq_nil_iff_forall_not_mem.mpr fun x hx=>by
   have:=(same x).mpr hx
   cases this
  exact ⟨.non,.inl rfl,f1 _ rfl,f2 _ (.inl ⟨em,rfl⟩)⟩
 |cons d ds =>
  cases m with
  |nil =>
   have:=(same d).mp List.mem_cons_self
   cases this
  |cons e es =>
   obtain ⟨r,r1,r2,r3⟩:=znG (B1.br h7 hp) same
   exact ⟨r,.inr (B1.br h7 hp r r1),f1 r r2,f2 r (.inr ⟨e,es,rfl,r3⟩)⟩
theorem okB{b:Bool}:okN 60 (.bl b)=true:=rfl
theorem eqB{a b:Bool}:eqD (.bl a) (.bl b)=(a == b):=by rw[eqD]
theorem zjv{f:Dt->Dt}{fe:De}{a b:Option B}:∀{l:List Dt}{o o2:Option B},(∀ d∈l,fe [a,b,some (.val d),some (.val d)]=.ok (f d,[a,b,some (.val d),some (.val d)]))->∃ o' o2',zbz (zeY 2 3) dTT fe (l.map fun d=>.tup [d,d]) [a,b,o,o2]=.ok (l.map f,[a,b,o',o2'])
 |[],o,o2,_=>⟨o,o2,rfl⟩
 |d::l,o,o2,h=>by
  obtain ⟨o',o2',e⟩:=zjv (l:=l) (o:=some (.val d)) (o2:=some (.val d)) fun c hc=>h c (List.mem_cons_of_mem _ hc)
  refine ⟨o',o2',?_⟩
  rw[List.map_cons,zbz]
  show (((fe [a,b,some (.val d),some (.val d)]).bind fun y=>(zbz (zeY 2 3) dTT fe (l.map fun d=>.tup [d,d]) y.2).bind fun z=>R.ok (y.1::z.1,z.2)):R _)=_
  rw[h d (by simp)]
  simp only[R.bind_ok]
  rw[e]
  rfl
theorem zgz:∀(l:List Dt),zd4 (l.map fun _=>Dt.bl true)=some (l.map fun _=>true)
 |[]=>rfl
 |d::l=>by simp[zd4,zgz l]
theorem zhG{F:FD}{d:Dt}(h1:(zg6 (tyD d) "tuple" || zg6 (tyD d) "list")=false)(h2:okN 60 d=true)(h3:eqD d d=true):zcb F [some (.val d),some (.val d)]=.ok (.rt (.bl true),[some (.val d),some (.val d)]):=by
 unfold zcb
 have e0:dTB (zpe "tuple" "list" (zab 1)) [some (.val d),some (.val d)]=.ok (false,[some (.val d),some (.val d)]):=by
  show R.ok ((zg6 (tyD d) "tuple" || zg6 (tyD d) "list"),[some (B.val d),some (.val d)])=_
  rw[h1]
 rw[zan (ρ1:=[some (.val d),some (.val d)]) (by rw[zct e0];rfl)]
 refine zaW ?_
 have e1:dOp (gEq false) (zab 0) (zab 1) [some (.val d),some (.val d)]=.ok (.bl true,[some (.val d),some (.val d)]):=zar rfl rfl (by rw[zcT h2 h2,h3];rfl)
 have e2:dOp (gEq false) (zfh "bool" (zab 0)) (zfh "bool" (zab 1)) [some (.val d),some (.val d)]=.ok (.bl true,[some (.val d),some (.val d)]):=zar rfl rfl (by
  rw[zcT okB okB,eqB];simp)
 unfold zht
 rw[e1]
 simp only[R.bind_ok]
 rw[e2]
theorem zhh{n:Nat}{l:List Dt}(hl:l.length<=1000)(hs:∀ d∈l,za1 (n+1) [.val d,.val d]=.ok (.bl true,[.val .non,.val .non])):za1 (n+2) [.val (.tup l),.val (.tup l)]=.ok (.bl true,[.val .non,.val .non]):=by
  refine zat (ρ':=[some (.val (.tup l)),some (.val (.tup l))]) rfl ?_ rfl
  show zcb (za1 (n+1)) [some (.val (.tup l)),some (.val (.tup l))]=_
  unfold zcb
  refine zdM ?_
  rw[zel (ρ1:=[some (.val (.tup l)),some (.val (.tup l))]) rfl]
  have t1:dTB (dOp (gEq true) (zfh "tuple" (zab 0)) (zfh "tuple" (zab 1))) [some (.val (.tup l)),some (.val (.tup l))]=.ok (false,[some (.val (.tup l)),some (.val (.tup l))]):=zaH (zar rfl rfl (by rw[zcT okB okB,eqB];simp))
  have t2:dTB (dOp (gEq true) (zfh "list" (zab 0)) (zfh "list" (zab 1))) [some (.val (.tup l)),some (.val (.tup l))]=.ok (false,[some (.val (.tup l)),some (.val (.tup l))]):=zaH (zar rfl rfl (by rw[zcT okB okB,eqB];simp))
  have t3:dTB (dOp (gEq true) (dFn zbR (dA (zab 0) dA0)) (dFn zbR (dA (zab 1) dA0))) [some (.val (.tup l)),some (.val (.tup l))]=.ok (false,[some (.val (.tup l)),some (.val (.tup l))]):=zaH (zar (d:=.int l.length) (e:=.int l.length) rfl rfl (by rw[zcT rfl rfl,eqI];simp))
  rw[zan (ρ1:=[some (.val (.tup l)),some (.val (.tup l))]) (by rw[zct (ρ1:=[some (.val (.tup l)),some (.val (.tup l))]) (by rw[zjB t1,t2])];rfl)]
  rw[zan (ρ1:=[some (.val (.tup l)),some (.val (.tup l))]) (by rw[zct t3];rfl)]
  refine zaW ?_
  obtain ⟨o',o2',e⟩:=zjv (a:=some (.val (.tup l))) (b:=some (.val (.tup l))) (fe:=zaj (za1 (n+1)) (dR (zab 2) (dR (zab 3) dR0))) (f:=fun _=>.bl true) (l:=l) (o:=none) (o2:=none) fun d hd =>
   zk5 (ρ':=[some (.val (.tup l)),some (.val (.tup l)),some (.val d),some (.val d)]) rfl rfl (hs d hd)
  have ez:∀(l:List Dt),(l.zip l).map (fun z=>Dt.tup [z.1,z.2])=l.map fun d=>.tup [d,d]:=fun l=>by
   induction l with
   |nil=>rfl
   |cons d l ih=>simp[ih]
  have ec:dFz (za8 (zmi (zab 0) (zab 1)) (zeY 2 3) dTT (zaj (za1 (n+1)) (dR (zab 2) (dR (zab 3) dR0))) 2) [some (.val (.tup l)),some (.val (.tup l))]=.ok (.lst (l.map fun _=>.bl true),[some (.val (.tup l)),some (.val (.tup l))]):=by
   refine zbd ?_
   have eZ:zmi (zab 0) (zab 1) [some (.val (.tup l)),some (.val (.tup l))]=.ok (l.map fun d=>.tup [d,d],[some (.val (.tup l)),some (.val (.tup l))]):=by
    show (if l.length=l.length then R.ok ((l.zip l).map (fun z=>Dt.tup [z.1,z.2]),[some (B.val (.tup l)),some (.val (.tup l))]) else .no)=_
    rw[if_pos rfl,ez]
   unfold za8
   rw[eZ]
   simp only[R.bind_ok]
   rw[if_pos (by unfold zfQ;simp only[List.length_map,decide_eq_true_eq];omega)]
   show (match zbz (zeY 2 3) dTT (zaj (za1 (n+1)) (dR (zab 2) (dR (zab 3) dR0))) (l.map fun d=>.tup [d,d]) [some (.val (.tup l)),some (.val (.tup l)),none,none] with|.ok z=>R.ok (z.1,z.2.take 2)|_=>.no)=_
   rw[e]
   rfl
  refine zbk ec ?_
  unfold zkI
  simp only[zgz]
  simp
theorem zfn(k:Nat)(i:Int):za1 (k+1) [.val (.int i),.val (.int i)]=.ok (.bl true,[.val .non,.val .non]):=zat rfl (zhG rfl rfl (by rw[eqI];simp)) rfl
theorem zjl{k:Nat}(p:List Int)(hl:p.length<=1000):za1 (k+2) [.val (tz p),.val (tz p)]=.ok (.bl true,[.val .non,.val .non]):=zhh (by rw[List.length_map];exact hl) fun d hd=>by
 obtain ⟨i,_,rfl⟩:=List.mem_map.mp hd
 exact zfn k i
theorem zpv{d:Dt}(h:NB d):za1 6 [.val d,.val d]=.ok (.bl true,[.val .non,.val .non]):=by
 rcases h with rfl|⟨a,b,c,u,v,w,rfl,hu,hv,hw⟩
 ·exact zat rfl (zhG rfl rfl (by rw[eqD])) rfl
 ·refine zhh (n:=4) (by simp) fun d hd=>?_
  simp only[List.mem_cons,List.not_mem_nil,or_false] at hd
  rcases hd with rfl|rfl|rfl|rfl
  ·exact zfn 4 a
  ·exact zfn 4 b
  ·exact zfn 4 c
  ·refine zhh (n:=3) (by simp) fun d hd=>?_
   simp only[List.mem_cons,List.not_mem_nil,or_false] at hd
   rcases hd with rfl|rfl|rfl
   ·exact zjl (k:=2) u (by omega)
   ·exact zjl (k:=2) v (by omega)
   ·exact zjl (k:=2) w (by omega)
abbrev zpF:DS:=(zaP (zbT 5 (dFz (ziT zfX (dA (zab 4) dA0)))) (dIf (zkJ (zeF (dTB (zaj (za1 6) (dR (zaj zbb (dRT 6 (dR (zab 3) (dR (zab 5) dR0)))) (dR (zaj zbr (dR (zab 3) (dR (zab 4) dR0))) dR0))))) (dTB (dOp (gEq true) (zab 5) (zab 4)))) (zcl (dC (.bl false))) dNx))
abbrev zoo:DA:=dIt (dFz (zd5 (dA (zaj zaD (dRO 2 (dR (zab 3) (dR (dC (.int 8)) dR0)))) (dA (zaj zaD (dRO 2 (dR (zab 3) (dR (dC (.int 6)) dR0)))) dA0))))
abbrev outer:DS:=(zaP (zcG 2 (zeT zbE (dR (zab 0) (dR (zab 1) dR0)))) (zaP (zbT 3 (dOp zaB (dC (.int 1)) (zaj zae (dRO 2 (dR (dC (.int 7)) dR0))))) (zcD zoo (za3 4) zpF)))
theorem zqa:zjd=(zaP (zcD (zbm (dFn zgT (dA (dC (.int 1)) (dA (dFn zgG (dA (dFn zbR (dA (zab 0) dA0)) (dA (dC (.int 5)) dA0))) dA0)))) (za3 1) outer) (zcl (dC (.bl true)))):=rfl
abbrev EV(S K:Option B)(st:List Dt)(n:Nat)(o4 o5:Option B):Ev:=[S,K,some (.own st),some (.val (.int n)),o4,o5,some (.tab zeN)]
theorem zkT:∀ ps:List (List Int),zdP (lp ps) (lp ps)=true
 |[]=>by unfold lp;simp[zdP]
 |p::ps=>by
  show zdP (tz p::lp ps) (tz p::lp ps)=true
  rw[zdP,zkT ps]
  rw[show eqD (tz p) (tz p)=zdP (p.map .int) (p.map .int) by unfold tz;rw[eqD],zjS]
  simp
theorem zrP(ps:List (List Int)):okN 60 (pd ps)=true:=by
 show (lp ps).all (okN 59)=true
 rw[List.all_eq_true]
 intro d hd
 obtain ⟨p,_,rfl⟩:=List.mem_map.mp hd
 exact zoh p 58
theorem zmb{S K:Option B}{st:List Dt}{n:Nat}{ps:List (List Int)}(h1:1<=n)(h7:n<=7)(hp:zdk n ps)(hps:ps.length<=8){o5:Option B}:∃ o5',zpF (EV S K st n (some (.val (pd ps))) o5)=.ok (.nx,EV S K st n (some (.val (pd ps))) o5'):=by
 obtain ⟨r,hr,e1,e2⟩:=zoO h1 h7 hp hps
 let ρ:Ev:=EV S K st n (some (.val (pd ps))) (some (.val (pd ps)))
 have x1:zbT 5 (dFz (ziT zfX (dA (zab 4) dA0))) (EV S K st n (some (.val (pd ps))) o5)=.ok (.nx,ρ):=zbc (d:=pd ps) (ρ1:=EV S K st n (some (.val (pd ps))) o5) (zbd (zpK (d:=pd ps) rfl rfl)) (by simp)
 have c1:zaj zbb (dRT 6 (dR (zab 3) (dR (zab 5) dR0))) ρ=.ok (r,ρ):=zs9 (xs:=[.int n,pd ps]) (q:=zeN) (zaJ rfl (zaJ rfl zc5)) rfl e1 rfl
 have c2:zaj zbr (dR (zab 3) (dR (zab 4) dR0)) ρ=.ok (r,ρ):=zeZ (xs:=[.int n,pd ps]) (zaJ rfl (zaJ rfl zc5)) e2
 have t1:zeF (dTB (zaj (za1 6) (dR (zaj zbb (dRT 6 (dR (zab 3) (dR (zab 5) dR0)))) (dR (zaj zbr (dR (zab 3) (dR (zab 4) dR0))) dR0)))) ρ=.ok (false,ρ):=zjr (b:=true) (zaH (zeZ (xs:=[r,r]) (zaJ c1 (zaJ c2 zc5)) (zpv hr)))
 have t2:dTB (dOp (gEq true) (zab 5) (zab 4)) ρ=.ok (false,ρ):=by
  refine zaH (zar (d:=pd ps) (e:=pd ps) rfl rfl ?_)
  rw[zcT (zrP ps) (zrP ps),show eqD (pd ps) (pd ps)=zdP (lp ps) (lp ps) by rw[eqD],zkT]
  rfl
 refine ⟨some (.val (pd ps)),?_⟩
 show zaP _ _ _=_
 rw[zan x1,zct ((zjB t1).trans t2)]
 rfl
theorem zkx{ns:List Int}{k:Nat}{o2 o3 o4 o5:Option B}:∃ b2 b3 b4 b5,outer [some (.val (.scr ns)),some (.val (.int k)),o2,o3,o4,o5,some (.tab zeN)]=.ok (.nx,[some (.val (.scr ns)),some (.val (.int k)),b2,b3,b4,b5,some (.tab zeN)]):=by
 let S:Option B:=some (.val (.scr ns))
 let K:Option B:=some (.val (.int k))
 let Q:Option B:=some (.tab zeN)
 obtain ⟨st,hs,e1⟩:=zky (ns:=ns) (k:=k)
 have x1:zcG 2 (zeT zbE (dR (zab 0) (dR (zab 1) dR0))) [S,K,o2,o3,o4,o5,Q]=.ok (.nx,[S,K,some (.own st),o3,o4,o5,Q]) :=
  zcH (zsl (ρ':=[S,K,o2,o3,o4,o5,Q]) (ρ'':=[S,K,o2,o3,o4,o5,Q]) rfl rfl e1) (by simp)
 obtain ⟨v,st1,e2,hs1,v0,v1⟩:=zbn (m:=7) hs (by decide) (by decide)
 obtain ⟨N,hN⟩ : ∃ N:Nat,(N:Int)=1+v:=⟨(1+v).toNat,by omega⟩
 have n7:N<=7:=by omega
 have n1:1<=N:=by omega
 have x2:zbT 3 (dOp zaB (dC (.int 1)) (zaj zae (dRO 2 (dR (dC (.int 7)) dR0)))) [S,K,some (.own st),o3,o4,o5,Q]=.ok (.nx,EV S K st1 N o4 o5):=by
  refine zbc (zar rfl (zkt (ρ:=[S,K,some (.own st),o3,o4,o5,Q]) rfl rfl e2) (z:=.int N) ?_) (by simp)
  rw[hN];rfl
 obtain ⟨ps,st2,hs2,hp,hl,e3⟩:=zeW (n:=N) (mo:=8) (by omega) n1 n7 hs1
 obtain ⟨qs,st3,hs3,hq,hl',e4⟩:=zeW (n:=N) (mo:=6) (by omega) n1 n7 hs2
 have c1:zaj zaD (dRO 2 (dR (zab 3) (dR (dC (.int 8)) dR0))) (EV S K st1 N o4 o5)=.ok (pd ps,EV S K st2 N o4 o5):=zow (ρ:=EV S K st1 N o4 o5) rfl rfl rfl e3
 have c2:zaj zaD (dRO 2 (dR (zab 3) (dR (dC (.int 6)) dR0))) (EV S K st2 N o4 o5)=.ok (pd qs,EV S K st3 N o4 o5):=zow (ρ:=EV S K st2 N o4 o5) rfl rfl rfl e4
 have ei:zoo (EV S K st1 N o4 o5)=.ok ([ps,qs].map pd,EV S K st3 N o4 o5):=by
  show dIt _ _=_
  unfold dIt
  rw[zbd (zcp (ds:=[pd ps,pd qs]) (zcu c1 (zcu c2 rfl)) (by simp))]
  rfl
 let I:List (List (List Int))->Ev->Prop:=fun _ ρ=>∃ o4 o5,ρ=EV S K st3 N o4 o5
 obtain ⟨ρ',e,p4,p5,rfl⟩:=zb5 (u:=fun ps=>pd ps) (g:=za3 4) (body:=zpF) (I:=I) [ps,qs] [] (EV S K st3 N o4 o5) (fun pre x zay e ρ ⟨o4,o5,eρ⟩=>by
  subst eρ
  have hx:x∈[ps,qs]:=by rw[show [ps,qs]=[]++[ps,qs] from rfl,e];simp
  have hx':zdk N x/\x.length<=8:=by
   simp only[List.mem_cons,List.not_mem_nil,or_false] at hx
   rcases hx with rfl|rfl
   ·exact ⟨hp,hl⟩
   ·exact ⟨hq,by omega⟩
  obtain ⟨o5',e'⟩:=zmb (S:=S) (K:=K) (st:=st3) (o5:=o5) n1 n7 hx'.1 hx'.2
  exact ⟨_,_,by simp[za3,EV],e',_,o5',rfl⟩) ⟨o4,o5,rfl⟩
 refine ⟨some (.own st3),some (.val (.int N)),p4,p5,?_⟩
 show zaP _ _ _=_
 rw[zan x1,zan x2]
 exact (zbo ei).trans e
theorem zn6(ns:List Int):zq5 5 zeN zjd ns:=by
 let ρ0:Ev:=[some (.val (.scr ns)),none,none,none,none,none,some (.tab zeN)]
 obtain ⟨j,hj,ej⟩ : ∃ j:Int,zcv j=true/\dFn zgT (dA (dC (.int 1)) (dA (dFn zgG (dA (dFn zbR (dA (zab 0) dA0)) (dA (dC (.int 5)) dA0))) dA0)) ρ0=.ok (.int j,ρ0):=by
  refine ⟨(if (if (5:Int)<ns.length then (5:Int) else ns.length) > 1 then (if (5:Int)<ns.length then (5:Int) else ns.length) else 1),?_,rfl⟩
  unfold zcv
  simp only[Bool.and_eq_true,decide_eq_true_eq]
  split <;> split <;> omega
 obtain ⟨ρ',⟨a1,a2,a3,a4,a5,rfl⟩,e⟩:=zjs (g:=za3 1) (body:=outer) (ds:=zaL 0 j.toNat) (ρ:=ρ0)
  (I:=fun ρ=>∃ a1 a2 a3 a4 a5,ρ=[some (.val (.scr ns)),a1,a2,a3,a4,a5,some (.tab zeN)])
  (fun d hd ρ ⟨a1,a2,a3,a4,a5,hρ⟩=>by
   subst hρ
   obtain ⟨k,_,rfl⟩:=List.mem_map.mp hd
   obtain ⟨b2,b3,b4,b5,e⟩:=zkx (ns:=ns) (k:=k) (o2:=a2) (o3:=a3) (o4:=a4) (o5:=a5)
   refine ⟨[some (.val (.scr ns)),some (.val (.int k)),a2,a3,a4,a5,some (.tab zeN)],_,?_,e,_,_,_,_,_,rfl⟩
   rw[Int.zero_add]
   rfl) ⟨none,none,none,none,none,rfl⟩
 have x:zcD (zbm (dFn zgT (dA (dC (.int 1)) (dA (dFn zgG (dA (dFn zbR (dA (zab 0) dA0)) (dA (dC (.int 5)) dA0))) dA0)))) (za3 1) outer ρ0=.ok (.nx,[some (.val (.scr ns)),a1,a2,a3,a4,a5,some (.tab zeN)]):=by
  unfold zcD
  rw[zog ej,zl7 hj]
  exact e
 refine ⟨[some (.val (.scr ns)),a1,a2,a3,a4,a5,some (.tab zeN)],?_⟩
 show zjd ρ0=_
 rw[zqa,zan x]
 rfl
theorem atN{α:Type}{f g:Nat->α}(h:(List.range 2).map f=(List.range 2).map g):∀ n,n<2->f n=g n:=fun n hn=>List.map_inj_left.mp h n (List.mem_range.mpr hn)
theorem xc_of{K:W.Frag}{cls:Nat->Addr}(h:((List.range 2).map fun n=>(W.excIn K (cls n) bmV "ValueError.__new__",W.findIn K (.ref (cls n)) "__getattribute__",W.findIn K (.ref (cls n)) "__getattr__",W.findIn K (.ref (cls n)) "__class__",W.subIn K (.ref (cls n)) (.type "BaseException")))=(List.range 2).map fun _=>(true,some (some (.builtin "BaseException.__getattribute__")),some none,some (some (.builtin "object.__class__")),some true)):∀ n,n<2->Xin K (cls n):=fun n hn=>by
 have e:=atN h n hn
 simp only[Prod.mk.injEq] at e
 exact ⟨e.1,e.2.1,e.2.2.1,e.2.2.2.1,e.2.2.2.2⟩
abbrev cN(C0 C1:Addr):Nat->Addr:=fun n=>match n with|0=>C0|_=>C1
section
variable{K:W.Frag}{h:Heap}{mg:Str->Option Value}(X:K.In h)(G:h.Ns mainGlobals mg)
include X G in
theorem fe{x:String}{i:Nat}{f:Addr}{od an:Option Addr}{sl:Array (Option Value)}{oc kV dc pm cd ct:Value}(a:W.nsIn K mainGlobals (Str.ofString x)=some (some (.ref f)))(l:K.lookup f=some ⟨oc,od,.func (W.fnOf (Str.ofString x) (Str.ofString x) (zdf (top i)) (zb7 (top i)) (zag (top i)) .none kV dc pm an cd ct),sl⟩)(c:W.codeIn K cd (Str.ofString x)=true)(k:W.keepIn K (.ref f)=true):Uf K mg x i:=⟨_,_,zmy (st:=top i) l c k,W.mg_of X G a⟩
include X G in
theorem ct{x:Str}{i:Int}{t:Tok}(m:W.nsIn K mainGlobals x=some (some (.int i t))):∃ t,mg x=some (.int i t):=⟨_,W.mg_of X G m⟩
include X G in
theorem fin{l:W.OpenLaw}{w:World}{fa f g cL PT:Addr}{C0 C1:Addr}(hfa:mg "law"=some (.ref fa)){od an oe ao:Option Addr}{sl sm:Array (Option Value)}{oc kV dc pm ct o2 k2 d2 p2 c2 cM:Value}(T:Tx K mg (cN C0 C1))
  (a:W.nsIn K mainGlobals (Str.ofString "least_bar")=some (some (.ref f))) (la:K.lookup f=some ⟨oc,od,.func (W.fnOf (Str.ofString "least_bar") (Str.ofString "least_bar") (zdf (top 21)) (zb7 (top 21)) (zag (top 21)) .none kV dc pm an (.ref cL) ct),sl⟩) (ca:W.codeIn K (.ref cL) (Str.ofString "least_bar")=true) (ka:W.keepIn K (.ref f)=true)
  (b:W.nsIn K mainGlobals (Str.ofString "law")=some (some (.ref g))) (lb:K.lookup g=some ⟨o2,oe,.func (W.fnOf (Str.ofString "law") (Str.ofString "law") (zdf (top 34)) (zb7 (top 34)) (zag (top 34)) .none k2 d2 p2 ao cM c2),sm⟩) (cb:W.codeIn K cM (Str.ofString "law")=true) (kb:W.keepIn K (.ref g)=true)
  (ch:W.codeHdIn K cL PT=true) :
  ∃(fd:FuncData)(cL:Addr),(∀(s:Shared)(v:Value),BindsTo s fd ⟨[v],[]⟩ [("script",v)])/\W.codeHdIn K cL PT=true/\∀ base:Heap,K.In base->base.Ns mainGlobals mg->base.BuiltinsAt mg PT->zf1 l.prog w K mg base (CXe l.prog w) 24 fa fd ["script"] (spT K PT (zq5 5 zeN zjd)):=by
 have e:=hfa.symm.trans (W.mg_of X G b)
 cases e
 exact ⟨W.fnOf "law" "law" (zdf (top 34)) (zb7 (top 34)) (zag (top 34)) .none k2 d2 p2 ao cM c2,cL,fun s v=>.of_eq rfl,ch,fun base hK _ hb=>zsB T (zmy (st:=top 34) lb cb kb) (ziN T (zmy (st:=top 21) la ca ka) (W.mg_of X G a) rfl ch hb hK)⟩
end
theorem walk{l:W.OpenLaw}{q:Program}{loose:List Str}{XP:(Str->Option Value)->Heap->Prop}{YP:World->Heap->Prop}{d:DefRec}{K:Params->W.Frag}{PT:Addr}(hn:l.most=some 63)(hdf:d.params.defaults=[])
  (hY:∀(w:World)(h:Heap),YP w h->(K w.params).In h) (hYT:∀(w:World)(h:Heap),YP w h->h.get? PT=some (W.tabObj #[])) (hnt:∀ w:World,W.noTabs (K w.params)=true)
  (F:∀(w:World)(mg:Str->Option Value)(fa:Addr)(h:Heap),(K w.params).In h->h.Ns mainGlobals mg->mg d.name=some (.ref fa) ->
   ∃(fd:FuncData)(cL:Addr),(∀(s:Shared)(u:Value),BindsTo s fd ⟨[u],[]⟩ [("script",u)])/\W.codeHdIn (K w.params) cL PT=true/\∀ base:Heap,(K w.params).In base->base.Ns mainGlobals mg->base.BuiltinsAt mg PT->zf1 l.prog w (K w.params) mg base (CXe l.prog w) 24 fa fd ["script"] (spT (K w.params) PT (zq5 5 zeN zjd))) :
  W.WalkO q loose XP YP l.row.toRowW d [] (fun f vs=>PySem.call f vs) :=
 znm (n:=63) (k:=24) (x:="script") (CX:=fun w=>CXe l.prog w) (sp:=fun w=>spT (K w.params) PT (zq5 5 zeN zjd)) hn (by decide) hdf ⟨rfl,by decide,by decide⟩ hY hYT hnt F (fun w H a ns hl hP hS=>⟨a,ns,rfl,hS,hP,zn6 ns,fun _=>rfl⟩) fun _ _ _ _ _ z=>CXe.none z
end Lw
def PySem.W.Fast.tw14825610395305137395:=0
def PySem.W.Fast.tw3442508083097252103:=0
def PySem.W.Fast.tw5701327326998327566:=0
def PySem.W.Fast.tw15475663835968646490:=0
def PySem.W.Fast.tw12111426005268919807:=0
def PySem.W.Fast.tw6578859255113569343:=0
def PySem.W.Fast.tw16350505841674854093:=0
def PySem.W.Fast.tw6902963809617134884:=0
open PySem PySem.W PyProof.Rows
set_option maxRecDepth 100000 in
set_option maxHeartbeats 0 in
theorem PySem.Challenge.cw_standtogether_k17_least_bars_holds : PySem.Challenge.rw_standtogether_k17_least_bars.Holds := by
  w_on; o_law; k_head; (case hw => w_witness2)
  k_fill
  refine Lw.walk (l := PySem.Challenge.rw_standtogether_k17_least_bars) rfl rfl (fun w h Y => PySem.W.km_in_of Y) (fun w h Y => PySem.W.km_tabs_of Y _ List.mem_cons_self) (fun w => by kernel_rfl) ?F
  case F =>
    intro w mg fa h KX G hmg
    refine' Lw.fin KX G hmg ⟨Lw.xc_of ?_,PySem.W.mg_of KX G ?x0,PySem.W.mg_of KX G ?x1,Lw.fe KX G ?_ ?_ ?_ ?_,Lw.fe KX G ?_ ?_ ?_ ?_,Lw.fe KX G ?_ ?_ ?_ ?_,Lw.fe KX G ?_ ?_ ?_ ?_,Lw.fe KX G ?_ ?_ ?_ ?_,
     Lw.fe KX G ?_ ?_ ?_ ?_,Lw.fe KX G ?_ ?_ ?_ ?_,Lw.fe KX G ?_ ?_ ?_ ?_,Lw.fe KX G ?_ ?_ ?_ ?_,Lw.fe KX G ?_ ?_ ?_ ?_,Lw.fe KX G ?_ ?_ ?_ ?_,Lw.fe KX G ?_ ?_ ?_ ?_,Lw.fe KX G ?_ ?_ ?_ ?_,
     Lw.fe KX G ?_ ?_ ?_ ?_,Lw.fe KX G ?_ ?_ ?_ ?_,Lw.fe KX G ?_ ?_ ?_ ?_,Lw.fe KX G ?_ ?_ ?_ ?_,Lw.fe KX G ?_ ?_ ?_ ?_,Lw.fe KX G ?_ ?_ ?_ ?_,Lw.fe KX G ?_ ?_ ?_ ?_,Lw.fe KX G ?_ ?_ ?_ ?_,
     Lw.fe KX G ?_ ?_ ?_ ?_,Lw.fe KX G ?_ ?_ ?_ ?_,Lw.fe KX G ?_ ?_ ?_ ?_,Lw.fe KX G ?_ ?_ ?_ ?_,Lw.fe KX G ?_ ?_ ?_ ?_,PySem.W.mg_none_of KX G ?_,PySem.W.mg_none_of KX G ?_,PySem.W.mg_none_of KX G ?_,
     PySem.W.mg_none_of KX G ?_,PySem.W.mg_none_of KX G ?_,PySem.W.mg_none_of KX G ?_,PySem.W.mg_none_of KX G ?_,PySem.W.mg_none_of KX G ?_,PySem.W.mg_none_of KX G ?_,PySem.W.mg_none_of KX G ?_,PySem.W.mg_none_of KX G ?_,
     PySem.W.mg_none_of KX G ?_,PySem.W.mg_none_of KX G ?_,PySem.W.mg_none_of KX G ?_,Lw.ct KX G ?_,Lw.ct KX G ?_⟩ ?_ ?_ ?_ ?_ ?_ ?_ ?_ ?_ ?_
    (case x0|x1 => k_is)
    all_goals try first | k_is | kernel_rfl
end
