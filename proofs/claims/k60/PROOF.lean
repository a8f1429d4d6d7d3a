import PyProof.Rows.All
import Wide.All
import OpenK.AllK
import Wide.FinOn
import Lean
import PyProof.EqAt
import PyProof.EqKinds
import PyProof.TupleCall
import PySem.Challenge.RW_standtogether_k60_guests_named_anew
set_option Elab.async false
set_option linter.all false
set_option maxRecDepth 100000
set_option maxHeartbeats 4000000
section
namespace L2
open PySem PySem.Spec PyProof.Rows
abbrev Key:=Sum Int Str
def zrX:Key→Value→Bool
 | .inl k,v=>Value.isInt k v
 | .inr x,v=>Value.isStrOf x v
def keyH(w:World):Key→Int
 | .inl k=>hashInt k
 | .inr x=>hashStr w x
theorem zbB:∀{k:Key}{v:Value},zrX k v=true→(∃ i t,k=Sum.inl i∧v=Value.int i t)∨(∃ x t,k=Sum.inr x∧v=Value.str x t)
 | .inl i,v,h=>by
  obtain ⟨t,e⟩:=Value.isInt_shape (k:=i) (v:=v) h
  exact .inl ⟨i,t,rfl,e⟩
 | .inr x,v,h=>by
  obtain ⟨t,e⟩:=Value.isStrOf_shape (x:=x) (v:=v) h
  exact .inr ⟨x,t,rfl,e⟩
theorem zst(a b:Int):decide ((Sum.inl a:Key)=Sum.inl b)=(a == b):=by
 by_cases e:a=b
 ·subst e;simp
 ·have h:¬ (Sum.inl a:Key)=Sum.inl b:=fun q=>e (Sum.inl.inj q)
  rw[decide_eq_false h]
  exact (beq_eq_false_iff_ne.mpr e).symm
theorem zsW(a b:Str):decide ((Sum.inr a:Key)=Sum.inr b)=decide (a=b):=by
 by_cases e:a=b
 ·subst e;simp
 ·have h:¬ (Sum.inr a:Key)=Sum.inr b:=fun q=>e (Sum.inr.inj q)
  rw[decide_eq_false h,decide_eq_false e]
theorem ztq(a:Int)(b:Str):decide ((Sum.inl a:Key)=Sum.inr b)=false:=decide_eq_false (fun q=>nomatch q)
theorem zrR(a:Str)(b:Int):decide ((Sum.inr a:Key)=Sum.inl b)=false:=decide_eq_false (fun q=>nomatch q)
def znt(prog:Program)(w:World):PySem.KeyKind prog w Key where
 is:=zrX
 hash:=keyH w
 inj:=fun v a b ha hb=>by
  rcases zbB ha with ⟨i,t,rfl,rfl⟩ | ⟨x,t,rfl,rfl⟩
  ·rcases zbB hb with ⟨j,u,rfl,e⟩ | ⟨y,u,rfl,e⟩
   ·injection e with e1 _;rw[e1]
   ·exact nomatch e
  ·rcases zbB hb with ⟨j,u,rfl,e⟩ | ⟨y,u,rfl,e⟩
   ·exact nomatch e
   ·injection e with e1 _;rw[e1]
 byValue:=fun k v h=>by
  rcases zbB h with ⟨i,t,rfl,rfl⟩ | ⟨x,t,rfl,rfl⟩ <;> rfl
 pyHash:=fun hv h=>by
  rcases zbB hv with ⟨i,t,rfl,rfl⟩ | ⟨x,t,rfl,rfl⟩
  ·exact wpAny_pyHash_int h
  ·exact wpAny_pyHash_str h
 eqBool:=fun hu hv h=>by
  rcases zbB hu with ⟨i,t,rfl,rfl⟩ | ⟨x,t,rfl,rfl⟩
  ·rcases zbB hv with ⟨j,u,rfl,rfl⟩ | ⟨y,u,rfl,rfl⟩
   ·rw[zst] at h;exact wpAny_eqBool_int h
   ·rw[ztq] at h;exact SeqAt.EqAt.int_str i t y u _ _ _ _ h
  ·rcases zbB hv with ⟨j,u,rfl,rfl⟩ | ⟨y,u,rfl,rfl⟩
   ·rw[zrR] at h;exact SeqAt.EqAt.str_int x t j u _ _ _ _ h
   ·rw[zsW] at h;exact wpAny_eqBool_str h
 «strs» := fun k x t v h=>by
  rcases zbB h with ⟨i,u,rfl,e⟩ | ⟨y,u,rfl,e⟩
  ·exact nomatch e
  ·injection e with e1 _
   subst e1
   cases v <;> rfl
end L2
namespace L2
open PySem PySem.Spec PyProof.Rows
inductive V where
 | non | bl (b:Bool) | int (i:Int) | str (x:Str) | byt (b:Array UInt8) | flt (b:UInt64) | ref (a:Addr) | ty (n:String)
 deriving DecidableEq
def zcD:V→Value→Prop
 | .non,u=>u=Value.none
 | .bl b,u=>u=Value.bool b
 | .int i,u=>∃ t,u=Value.int i t
 | .str x,u=>∃ t,u=Value.str x t
 | .byt b,u=>∃ t,u=Value.bytes b t
 | .flt b,u=>∃ t,u=Value.float b t
 | .ref a,u=>u=Value.ref a
 | .ty n,u=>u=Value.type n
abbrev zbk:List V→List Value→Prop:=Paired zcD
theorem zbk.length{xs:List V}{us:List Value}(r:zbk xs us):xs.length=us.length:=Paired.length r
theorem zbk.get:∀{xs:List V}{us:List Value}{i:Nat}{x:V},zbk xs us→xs[i]? = some x→∃ u,us[i]? = some u∧zcD x u
 | _,_,_,_,.nil,e=>by simp at e
 | _,_,0,_,.cons r _,e=>by simp at e;subst e;exact ⟨_,rfl,r⟩
 | _,_,i + 1,x,.cons _ t,e=>by
  obtain ⟨u,h1,h2⟩:=zbk.get (i:=i) (x:=x) t (by simpa using e)
  exact ⟨u,by simpa using h1,h2⟩
theorem zbk.set{x:V}{u:Value}(r:zcD x u):∀{xs:List V}{us:List Value}(i:Nat),zbk xs us→zbk (xs.set i x) (us.set i u)
 | _,_,_,.nil=>.nil
 | _,_,0,.cons _ t=>.cons r t
 | _,_,i + 1,.cons q t=>.cons q (zbk.set r i t)
theorem zbk.append:∀{xs ys:List V}{us ws:List Value},zbk xs us→zbk ys ws→zbk (xs ++ ys) (us ++ ws)
 | _,_,_,_,.nil,s=>s
 | _,_,_,_,.cons r t,s=>.cons r (zbk.append t s)
theorem zbk.take:∀{xs:List V}{us:List Value}(n:Nat),zbk xs us→zbk (xs.take n) (us.take n)
 | _,_,0,_=>.nil
 | _,_,_ + 1,.nil=>.nil
 | _,_,n + 1,.cons r t=>.cons r (zbk.take n t)
theorem zbk.drop:∀{xs:List V}{us:List Value}(n:Nat),zbk xs us→zbk (xs.drop n) (us.drop n)
 | _,_,0,r=>r
 | _,_,_ + 1,.nil=>.nil
 | _,_,n + 1,.cons _ t=>zbk.drop n t
def RelO:Option V→Option Value→Prop
 | some v,some u=>zcD v u
 | none,none=>True
 | _,_=>False
def KV{κ:Type}:List (κ × V)→List (κ × Value)→Prop:=Paired fun (p:κ × V) (q:κ × Value)=>p.1=q.1∧zcD p.2 q.2
def kV:Key→V
 | .inl i=>.int i
 | .inr x=>.str x
inductive HO where
  | lst (xs:List V)
  | tup (xs:List V)
  | dK (kvs:List (Key × V)) | dT (kvs:List (List Key × V))
  | set (S:Int→Bool) (n:Nat)
  | ins (C dx:Addr) (fs:List (Str × V))
  | own (x:Addr)
  | xd (fs:List (Str × V))
  | met (f x:Addr)
  | rng (lo hi:Int)
  | frz (o:Obj) (u:HO)
  | tbl (ps:Array Value)
  | ext (φ : Heap→Prop)
abbrev Hp:=Addr→Option HO
def upd(H:Hp)(a:Addr)(o:HO):Hp:=fun b=>if b=a then some o else H b
theorem zaj{H:Hp}{a:Addr}{o:HO}:upd H a o a=some o:=by unfold upd;rw[if_pos rfl]
theorem zai{H:Hp}{a b:Addr}{o:HO}(h:b≠a):upd H a o b=H b:=by unfold upd;rw[if_neg h]
theorem zah{H:Hp}{a b:Addr}{o:HO}(h:H a=some o)(h':H b=none):a≠b:=by
 intro e;subst e;rw[h] at h';cases h'
section
variable(P:Program)(w:World)
def zcr(H:Hp)(h:Heap)(a:Addr):HO→Prop
 | .lst xs=>xs.length≤sizeLine∧∃(its:List Value)(n:Nat),zbk xs its∧h.get? a=some { cls:=.type "list",data:=.seq its.toArray n }
 | .tup xs=>xs.length≤sizeLine∧∃ its:List Value,zbk xs its∧∃ n,h.get? a=some { cls:=.type "tuple",data:=.seq its.toArray n }
 | .dK kvs=>kvs.length≤sizeLine∧(a == sysModules)=false∧∃ vs,KV kvs vs∧h.DictOf (znt P w) a vs
 | .dT kvs=>kvs.length≤sizeLine∧(a == sysModules)=false∧∃ xs:List (List Key × Addr × Value),
   Paired (fun (p:List Key × V) (q:List Key × Addr × Value)=>p.1=q.1∧H q.2.1=some (.tup (p.1.map kV))∧zcD p.2 q.2.2) kvs xs ∧
   ∃ o es ep,h.get? a=some o∧o.ExactDict∧o.data = .dict es ep∧es.toList=xs.map (entryOfKey (tupleKind (znt P w)))∧(xs.map (·.1)).Nodup
 | .set S n=>h.SetOf (intKind P w) a S n
 | .ins C dx fs=>H dx=some (.own a)∧fs.length≤1000∧dx≠a∧h.get? a=some (W.instObj C dx) ∧
   ∃ mA,h.Ns1 dx mA∧(∀ f,RelO (fs.lookup f) (mA f))∧PySem.Within mA (fs.map (·.1))
 | .own _=>∃ o,h.get? a=some o
 | .xd fs=>∃ mA,h.Ns1 a mA∧∀ f,RelO (fs.lookup f) (mA f)
 | .rng lo hi=>∃ t u v,h.get? a=some { cls:=.type "range",data:=.fields #[.int lo t,.int hi u,.int 1 v] }
 | .frz o u=>h.get? a=some o∧zcr H h a u
 | .tbl ps=>h.get? a=some { cls:=.none,data:=.fields ps }
 | .met f x=>h.get? a=some (W.methodObj (.ref f) (.ref x))
 | .ext φ => φ h∧(∃ o,h.get? a=some o)∧∀ h1 h2:Heap,φ h1→(∀ o,h1.get? a=some o→h2.get? a=some o)→φ h2
def HOk(H:Hp)(h:Heap):Prop:=∀ a o,H a=some o→zcr P w H h a o
end
section
variable{P:Program}{w:World}{H H':Hp}{h h':Heap}{a:Addr}{o:HO}
theorem zcr.lt(x:zcr P w H h a o):a < h.objs.size:=by
 cases o with
 | lst xs=>obtain ⟨_,_,_,_,e⟩:=x;exact Heap.lt_size e
 | tup xs=>obtain ⟨_,_,_,_,e⟩:=x;exact Heap.lt_size e
 | dK kvs=>obtain ⟨_,_,_,_,o,_,_,e,_⟩:=x;exact Heap.lt_size e
 | dT kvs=>obtain ⟨_,_,_,_,o,_,_,e,_⟩:=x;exact Heap.lt_size e
 | set S n=>obtain ⟨o,_,_,_,e,_⟩:=x;exact Heap.lt_size e
 | ins C dx fs=>obtain ⟨_,_,_,e,_⟩:=x;exact Heap.lt_size e
 | own y=>obtain ⟨_,e⟩:=x;exact Heap.lt_size e
 | xd fs=>obtain ⟨_,⟨_,_,_,e,_⟩,_⟩:=x;exact Heap.lt_size e
 | rng lo hi=>obtain ⟨_,_,_,e⟩:=x;exact Heap.lt_size e
 | frz ob u=>obtain ⟨e,_⟩:=x;exact Heap.lt_size e
 | tbl ps=>exact Heap.lt_size (show h.get? a=some _ from x)
 | met f y=>exact Heap.lt_size (show h.get? a=some _ from x)
 | ext φ => obtain ⟨_,⟨_,e⟩,_⟩:=x;exact Heap.lt_size e
theorem Paired.mapP{α β:Type}{F G:α→β→Prop}:∀{l₁:List α}{l₂:List β},Paired F l₁ l₂→(∀ a b,F a b→G a b)→Paired G l₁ l₂
 | _,_,.nil,_=>.nil
 | _,_,.cons r t,f=>.cons (f _ _ r) (Paired.mapP t f)
theorem zcr.stay(x:zcr P w H h a o)(k:∀ b u,(b=a∨H b=some (.own a))→h.get? b=some u→h'.get? b=some u)
  (ho:∀ b,H b=some (.own a)→H' b=some (.own a)) (ht:∀ b xs,H b=some (.tup xs)→H' b=some (.tup xs)):zcr P w H' h' a o:=by
 induction o with
 | lst xs=>obtain ⟨z,its,n,r,e⟩:=x;exact ⟨z,its,n,r,k _ _ (.inl rfl) e⟩
 | tup xs=>obtain ⟨z,its,r,n,e⟩:=x;exact ⟨z,its,r,n,k _ _ (.inl rfl) e⟩
 | dK kvs=>obtain ⟨z,y,vs,r,ob,es,ep,e,c⟩:=x;exact ⟨z,y,vs,r,ob,es,ep,k _ _ (.inl rfl) e,c⟩
 | dT kvs =>
  obtain ⟨z,y,xs,r,ob,es,ep,e,c⟩:=x
  exact ⟨z,y,xs,Paired.mapP r fun p q z=>⟨z.1,ht _ _ z.2.1,z.2.2⟩,ob,es,ep,k _ _ (.inl rfl) e,c⟩
 | set S n=>obtain ⟨ob,es,ep,t,e,c⟩:=x;exact ⟨ob,es,ep,t,k _ _ (.inl rfl) e,c⟩
 | ins C dx fs =>
  obtain ⟨d,z,ne,e,mA,⟨od,es,ep,e2,c⟩,r⟩:=x
  exact ⟨ho _ d,z,ne,k _ _ (.inl rfl) e,mA,⟨od,es,ep,k _ _ (.inr d) e2,c⟩,r⟩
 | own y=>obtain ⟨ob,e⟩:=x;exact ⟨ob,k _ _ (.inl rfl) e⟩
 | xd fs=>obtain ⟨mA,⟨od,es,ep,e,c⟩,r⟩:=x;exact ⟨mA,⟨od,es,ep,k _ _ (.inl rfl) e,c⟩,r⟩
 | rng lo hi=>obtain ⟨t,u,v,e⟩:=x;exact ⟨t,u,v,k _ _ (.inl rfl) e⟩
 | frz ob u ih=>obtain ⟨e,q⟩:=x;exact ⟨k _ _ (.inl rfl) e,ih q⟩
 | tbl ps =>
  have e:h.get? a=some { cls:=.none,data:=.fields ps }:=x
  show h'.get? a=some { cls:=.none,data:=.fields ps }
  exact k a _ (.inl rfl) e
 | met f y =>
  have e:h.get? a=some (W.methodObj (.ref f) (.ref y)):=x
  show h'.get? a=some (W.methodObj (.ref f) (.ref y))
  exact k a _ (.inl rfl) e
 | ext φ => obtain ⟨p,⟨o,e⟩,st⟩:=x;exact ⟨st _ _ p fun o q=>k _ _ (.inl rfl) q,⟨o,k _ _ (.inl rfl) e⟩,st⟩
theorem HOk.lt(x:HOk P w H h)(e:H a=some o):a < h.objs.size:=(x a o e).lt
theorem HOk.fresh(x:HOk P w H h)(e:h.objs.size≤a):H a=none:=by
 cases q:H a with
 | none=>rfl
 | some u=>exact absurd (Nat.lt_of_lt_of_le (x.lt q) e) (Nat.lt_irrefl _)
theorem HOk.kept(x:HOk P w H h)(k:∀ b u,h.get? b=some u→h'.get? b=some u):HOk P w H h':=fun a o e =>
 (x a o e).stay (fun b u _ q=>k b u q) (fun _ q=>q) fun _ _ q=>q
theorem HOk.laid(x:HOk P w H h)(k:∀ b u,h.get? b=some u→h'.get? b=some u)(hp:h.objs.size≤a)(new:zcr P w (upd H a o) h' a o):HOk P w (upd H a o) h':=fun b u e=>by
 have hn:=x.fresh hp
 by_cases hb:b=a
 ·subst hb;rw[zaj] at e;cases e;exact new
 ·rw[zai hb] at e
  exact (x b u e).stay (fun c v _ q=>k c v q) (fun c q=>by rw[zai (zah q hn)];exact q) fun c xs q=>by rw[zai (zah q hn)];exact q
end
def Rd(H:Hp)(a:Addr)(u:HO):Prop:=H a=some u∨∃ o,H a=some (.frz o u)
theorem Rd.of{H:Hp}{a:Addr}{u:HO}(h:H a=some u):Rd H a u:=.inl h
theorem Rd.ok{P:Program}{w:World}{H:Hp}{h:Heap}{a:Addr}{u:HO}(r:Rd H a u)(x:HOk P w H h):zcr P w H h a u:=by
 rcases r with r | ⟨o,r⟩
 ·exact x a u r
 ·obtain ⟨_,q⟩:=x a _ r
  exact q
def Mut:Option HO→Prop
 | some (.lst _)=>True
 | some (.dK _)=>True
 | some (.dT _)=>True
 | some (.set _ _)=>True
 | some (.ins _ _ _)=>True
 | some (.ext _)=>True
 | _=>False
section
variable{P:Program}{w:World}{H:Hp}{h h':Heap}{x e:Addr}{o':HO}
theorem HOk.write(ok:HOk P w H h)(mu:Mut (H x))(he:e=x∨H e=some (.own x))(k:∀ b u,b≠e→h.get? b=some u→h'.get? b=some u)(heo:∃ u,h'.get? e=some u)
  (new:zcr P w (upd H x o') h' x o'):HOk P w (upd H x o') h':=fun b u q=>by
 have nown:∀ c y,H c=some (.own y)→c≠x:=fun c y r z=>by subst z;rw[r] at mu;exact mu
 have ntup:∀ c xs,H c=some (.tup xs)→c≠x:=fun c xs r z=>by subst z;rw[r] at mu;exact mu
 by_cases hb:b=x
 ·subst hb;rw[zaj] at q;cases q;exact new
 ·rw[zai hb] at q
  by_cases hbe:b=e
  ·have q':H b=some (.own x):=by
    rcases he with z | z
    ·exact absurd (hbe.trans z) hb
    ·rw[hbe];exact z
   rw[q] at q';cases q'
   obtain ⟨v,hv⟩:=heo
   exact ⟨v,by rw[hbe];exact hv⟩
  ·refine (ok b u q).stay (fun c v hc r=>k c v ?_ r) (fun c r=>by rw[zai (nown c b r)];exact r) fun c xs r=>by rw[zai (ntup c xs r)];exact r
   rcases hc with rfl | hc
   ·exact hbe
   ·rintro rfl
    rcases he with z | z
    ·exact nown c b hc z
    ·rw[hc] at z;cases z;exact hb rfl
end
structure Un(fs ex:List Addr)(H H':Hp)(h h':Heap):Prop where
 keep:∀ b o,h.get? b=some o→H b=none→b∉fs→b∉ex→h'.get? b=some o
 slot:∀ b o,h.get? b=some o→H b=none→b∈fs→b∉ex→∃ sl,h'.get? b=some { o with slots:=sl }
 free:∀ b o,h.get? b=some o→H b=none→b∉ex→H' b=none
 there:∀ b o,h.get? b=some o→b∉ex→∃ o',h'.get? b=some o'
 tups:∀ b xs,H b=some (.tup xs)→H' b=some (.tup xs)
 frzs:∀ b o u,H b=some (.frz o u)→H' b=some (.frz o u)
 tbls:∀ b ps,H b=some (.tbl ps)→∃ more,H' b=some (.tbl (ps ++ more))
section
variable{fs fs' ex ex':List Addr}{H H1 H2:Hp}{h h1 h2 h':Heap}{a x e:Addr}{o:HO}
theorem Un.any(u:Un fs ex H H1 h h1){b:Addr}{ob:Obj}(q:h.get? b=some ob)(n:H b=none)(hx:b∉ex):∃ sl,h1.get? b=some { ob with slots:=sl }:=by
 by_cases hb:b∈fs
 ·exact u.slot b ob q n hb hx
 ·exact ⟨ob.slots,u.keep b ob q n hb hx⟩
theorem Un.trans(a:Un fs ex H H1 h h1)(b:Un fs ex H1 H2 h1 h2):Un fs ex H H2 h h2 where
 keep:=fun c ob q n hc hx=>b.keep c ob (a.keep c ob q n hc hx) (a.free c ob q n hx) hc hx
 slot:=fun c ob q n hc hx=>by
  obtain ⟨sl,e1⟩:=a.slot c ob q n hc hx
  obtain ⟨sl',e2⟩:=b.slot c _ e1 (a.free c ob q n hx) hc hx
  exact ⟨sl',e2⟩
 free:=fun c ob q n hx=>by
  obtain ⟨o',e1⟩:=a.there c ob q hx
  exact b.free c o' e1 (a.free c ob q n hx) hx
 there:=fun c ob q hx=>by
  obtain ⟨o',e1⟩:=a.there c ob q hx
  exact b.there c o' e1 hx
 tups:=fun c xs q=>b.tups c xs (a.tups c xs q)
 frzs:=fun c ob xs q=>b.frzs c ob xs (a.frzs c ob xs q)
 tbls:=fun c ps q=>by
  obtain ⟨m1,e1⟩:=a.tbls c ps q
  obtain ⟨m2,e2⟩:=b.tbls c _ e1
  exact ⟨m1 ++ m2,by rw[e2,Array.append_assoc]⟩
theorem Un.kept(k:∀ b u,h.get? b=some u→h'.get? b=some u):Un fs ex H H h h' :=
 ⟨fun b ob q _ _ _=>k b ob q,fun b ob q _ _ _=>⟨ob.slots,k b ob q⟩,fun _ _ _ n _=>n,fun b ob q _=>⟨ob,k b ob q⟩,fun _ _ q=>q,fun _ _ _ q=>q,fun _ ps q=>⟨#[],by rw[q];simp⟩⟩
theorem Un.refl:Un fs ex H H h h:=Un.kept fun _ _ q=>q
theorem Un.laid(k:∀ b u,h.get? b=some u→h'.get? b=some u)(hp:h.objs.size≤a)(hn:H a=none):Un fs ex H (upd H a o) h h' where
 keep:=fun b u q _ _ _=>k b u q
 slot:=fun b u q _ _ _=>⟨u.slots,k b u q⟩
 free:=fun b u q n _=>by rw[zai (Nat.ne_of_lt (Nat.lt_of_lt_of_le (Heap.lt_size q) hp))];exact n
 there:=fun b u q _=>⟨u,k b u q⟩
 tups:=fun b xs q=>by rw[zai (zah q hn)];exact q
 frzs:=fun b u xs q=>by rw[zai (zah q hn)];exact q
 tbls:=fun b ps q=>⟨#[],by rw[zai (zah q hn),q];simp⟩
theorem Un.write(mu:Mut (H x))(he:e=x∨H e=some (.own x))(k:∀ b u,b≠e→h.get? b=some u→h'.get? b=some u)(heo:∃ u,h'.get? e=some u):Un fs ex H (upd H x o) h h':=by
 have hx:∀ b,H b=none→b≠x:=fun b n z=>by subst z;rw[n] at mu;exact mu
 have hb:∀ b,H b=none→b≠e:=fun b n z=>by
  subst z
  rcases he with r | r
  ·exact hx b n r
  ·rw[n] at r;cases r
 have hm:∀ b u,H b=some u→¬ Mut (some u)→b≠x:=fun b u q nm z=>by subst z;rw[q] at mu;exact nm mu
 refine ⟨fun b u q n _ _=>k b u (hb b n) q,fun b u q n _ _=>⟨u.slots,k b u (hb b n) q⟩,fun b u q n _=>by rw[zai (hx b n)];exact n,fun b u q _=>?_,
  fun b xs q=>by rw[zai (hm b _ q fun z=>z)];exact q,fun b u xs q=>by rw[zai (hm b _ q fun z=>z)];exact q,fun b ps q=>⟨#[],by rw[zai (hm b _ q fun z=>z),q];simp⟩⟩
 by_cases hbe:b=e
 ·subst hbe;exact heo
 ·exact ⟨u,k b u hbe q⟩
theorem Un.mono(u:Un fs ex H H1 h h1)(hs:∀ b∈fs,b∈fs')(hx:∀ b∈ex,b∈ex'):Un fs' ex' H H1 h h1 :=
 ⟨fun b ob q n hb he=>u.keep b ob q n (fun z=>hb (hs b z)) fun z=>he (hx b z),fun _ _ q n _ he=>u.any q n fun z=>he (hx _ z),fun b ob q n he=>u.free b ob q n fun z=>he (hx b z),fun b ob q he=>u.there b ob q fun z=>he (hx b z),u.tups,u.frzs,u.tbls⟩
end
def trk(h:Heap)(H:Hp):List Addr:=(List.range h.objs.size).filter fun a=>(H a).isSome
def zoD(h:Heap)(H:Hp):Heap:=W.hideAll h (trk h H)
theorem zn3(h:Heap)(H:Hp):(zoD h H).objs.size=h.objs.size:=W.hideAll_size _ _
theorem zp7{h:Heap}{H:Hp}{b:Addr}{o:Obj}(e:h.get? b=some o)(n:H b=none):(zoD h H).get? b=some o :=
 W.hideAll_get _ e fun hm=>by
  have q:(H b).isSome=true:=(List.mem_filter.mp hm).2
  rw[n] at q;simp at q
theorem zqB{h:Heap}{H:Hp}{b:Addr}{o:Obj}(e:(zoD h H).get? b=some o):h.get? b=some o∧H b=none:=by
 have e':h.get? b=some o:=W.of_hideAll (trk h H) e
 refine ⟨e',?_⟩
 cases q:H b with
 | none=>rfl
 | some x =>
  have hm:b∈trk h H:=List.mem_filter.mpr ⟨List.mem_range.mpr (Heap.lt_size e'),by simp[q]⟩
  have z:(zoD h H).get? b=none:=W.hideAll_none (trk h H) hm
  rw[z] at e;cases e
def zqK(g h:Heap)(L:Addr):List (Addr × Obj):=(List.range h.objs.size).filterMap fun a=>if a=L∨(g.get? a).isSome=true then none else (h.get? a).map fun o=>(a,o)
def zch(g h:Heap)(L d:Addr):List (Addr × Obj):=(zqK g h L).filter fun p=>decide (p.1≠d)
end L2
namespace L2
open PySem PySem.Spec PyProof.Rows
structure Mod(K:W.Frag)(mg:Str→Option Value)(base:Heap):Prop where
 kin:K.In base
 glob:base.Ns mainGlobals mg
 blt:∃ mb,base.Ns builtinsNs mb∧∀ x:Str,x≠"__name__"→mb x=bootBuiltins x
 nolimit:base.NoLimit
structure Cx where
 prog:Program
 w:World
 K:W.Frag
 mg:Str→Option Value
 base:Heap
 A:Around
 N:List Str
 s₀:Shared
 H₀:Hp
 env:Env
 outer:List Env
 stack:List Env
 ex:List Addr
 fn:Str→Bool
 calm:Bool
 pn:List (Addr × Obj)
 xe:Value→Shared→Prop
def frs(l:List Env):List Addr:=l.filterMap (·.frame)
abbrev Cx.fs(X:Cx):List Addr:=frs X.outer
def Vis(sc:Scope)(x:Str):Prop:=sc.names.lookup x=some .local∨sc.names.lookup x=some .cell∨sc.names.lookup x=some .free
def Loc(sc:Scope)(x:Str):Prop:=sc.names.lookup x=some .local∨sc.names.lookup x=some .cell
def Look(env:Env)(h:Heap)(m:Str→Option Value)(x:Str)(u:Value):Prop :=
 (env.kindOf x=some .local∧m x=some u)∨((env.kindOf x=some .cell∨env.kindOf x=some .free)∧∃ c,env.cells.lookup x=some c∧h.IsCell c (some u))
structure Cx.Ok(X:Cx):Prop where
 mod:Mod X.K X.mg X.base
 kind:X.env.scope.kind = .function
 glob:X.env.globals=mainGlobals
 blt:X.env.builtins=builtinsNs
 above:X.s₀.heap.objs.size≤X.env.locals
 inj:∀ x y c,X.env.cells.lookup x=some c→X.env.cells.lookup y=some c→x=y
 has:∀ x,(X.env.kindOf x=some .cell∨X.env.kindOf x=some .free)→∃ c,X.env.cells.lookup x=some c
 cab:∀ x c,X.fn x=true→X.env.cells.lookup x=some c→X.s₀.heap.objs.size≤c
 hd:X.calm=true→X.A.handled=none
 frames:X.A.frames=some X.stack
 stk:X.stack=X.outer∨(X.stack=X.env :: X.outer∧X.env.frame=some X.env.locals)
 exf:∀ b∈X.ex,b≠X.env.locals∧∀ x c,X.env.cells.lookup x=some c→c≠b
 bs:∀ b o,X.base.get? b=some o→X.s₀.heap.get? b=some o∧X.H₀ b=none
 bsz:X.base.objs.size≤X.s₀.heap.objs.size
 noex:∀ b o,X.base.get? b=some o→b∉X.ex
 exfs:∀ b∈X.ex,b∉X.fs
 funs:X.s₀.heap.FunFrames X.base X.outer
 frf:∀ b∈X.fs,X.H₀ b=none
structure Inv(X:Cx)(pins:List (Addr × Obj))(σ:List (Option V))(H:Hp)(s:Shared):Prop where
 ok:X.Ok
 os:s.os=X.s₀.os
 bare:AllBare s.gens
 base:Un X.fs X.ex X.H₀ H X.s₀.heap s.heap
 loc:∃ m,s.heap.Ns X.env.locals m∧∀(i:Nat)(x:Str)(v:V),X.N[i]? = some x→σ[i]? = some (some v)→Vis X.env.scope x→∃ u,zcD v u∧Look X.env s.heap m x u
 cell:∀ x c,X.env.cells.lookup x=some c→∃ v,s.heap.IsCell c v
 free:H X.env.locals=none
 freeC:∀ x c,X.env.cells.lookup x=some c→H c=none
 pin:∀ p∈X.pn ++ pins,s.heap.get? p.1=some p.2∧H p.1=none∧p.1≠X.env.locals∧p.1∉X.fs∧∀ v,p.2.data≠.cell v
 hok:HOk X.prog X.w H s.heap
 len:σ.length=X.N.length
section
variable{X:Cx}{pins:List (Addr × Obj)}{σ:List (Option V)}{H H':Hp}{s:Shared}{h':Heap}
theorem Cx.Ok.nofr(ok:X.Ok){b:Addr}{o:Obj}(e:X.base.get? b=some o):b∉X.fs:=fun hb=>by
 have:=(ok.funs.mem hb).1
 rw[e] at this;cases this
theorem Inv.bs(I:Inv X pins σ H s):∀ b o,X.base.get? b=some o→s.heap.get? b=some o∧H b=none:=fun b o e =>
 ⟨I.base.keep b o (I.ok.bs b o e).1 (I.ok.bs b o e).2 (I.ok.nofr e) (I.ok.noex b o e),I.base.free b o (I.ok.bs b o e).1 (I.ok.bs b o e).2 (I.ok.noex b o e)⟩
theorem Inv.bk(I:Inv X pins σ H s):∀ b o,X.base.get? b=some o→s.heap.get? b=some o:=fun b o e=>(I.bs b o e).1
theorem Inv.mod(I:Inv X pins σ H s):Mod X.K X.mg X.base:=I.ok.mod
theorem Inv.kIn(I:Inv X pins σ H s):X.K.In s.heap:=I.ok.mod.kin.keeps I.bk
theorem Inv.nolimit(I:Inv X pins σ H s):s.heap.NoLimit:=I.ok.mod.nolimit.keeps I.bk
theorem Inv.fr(I:Inv X pins σ H s):∃ m,Fr X.base X.env.locals s.heap m :=
 let ⟨m,hn,_⟩:=I.loc
 ⟨m,hn,I.bk,Nat.le_trans I.ok.bsz I.ok.above⟩
theorem Inv.lt(I:Inv X pins σ H s):X.env.locals < s.heap.objs.size:=let ⟨_,hn,_⟩:=I.loc;hn.lt
theorem Inv.sz(I:Inv X pins σ H s):X.s₀.heap.objs.size≤s.heap.objs.size:=Nat.le_trans I.ok.above (Nat.le_of_lt I.lt)
theorem Inv.nofs(I:Inv X pins σ H s){a:Addr}(h:s.heap.objs.size≤a):a∉X.fs:=fun hb=>by
 obtain ⟨_,o,ho,_⟩:=I.ok.funs.mem hb
 exact absurd (Nat.lt_of_lt_of_le (Heap.lt_size ho) (Nat.le_trans I.sz h)) (Nat.lt_irrefl _)
theorem Inv.cne(I:Inv X pins σ H s):∀ x c,X.env.cells.lookup x=some c→c≠X.env.locals:=fun x c e z=>by
 obtain ⟨v,o,ho,hd⟩:=I.cell x c e
 obtain ⟨m,⟨o',es,ep,ho',hd',_⟩,_⟩:=I.loc
 rw[z,ho'] at ho;cases ho;rw[hd'] at hd;cases hd
theorem Inv.funs(I:Inv X pins σ H s):s.heap.FunFrames X.base X.outer:=by
 have all:∀(l:List Env),(∀ b∈frs l,b∈X.fs)→X.s₀.heap.FunFrames X.base l→s.heap.FunFrames X.base l:=by
  intro l
  induction l with
  | nil=>intro _ _;trivial
  | cons env r ih =>
   intro hs hl
   obtain ⟨hk,⟨L,o,hf,hn,ho,hd⟩,hr⟩:=hl
   have hL:L∈X.fs:=hs L (by unfold frs;rw[List.filterMap_cons,hf];exact List.mem_cons_self)
   obtain ⟨sl,e⟩:=I.base.slot L o ho (I.ok.frf L hL) hL fun z=>I.ok.exfs L z hL
   exact ⟨hk,⟨L,_,hf,hn,e,hd⟩,ih (fun b hb=>hs b (by unfold frs;rw[List.filterMap_cons,hf];exact List.mem_cons_of_mem _ hb)) hr⟩
 exact all X.outer (fun _ hb=>hb) I.ok.funs
theorem Inv.stack(I:Inv X pins σ H s):s.heap.FunFrames X.base X.stack:=by
 rcases I.ok.stk with e | ⟨e,hf⟩
 ·rw[e];exact I.funs
 ·rw[e]
  obtain ⟨m,hn,_⟩:=I.loc
  refine .cons (by rw[I.ok.kind];decide) hf hn ?_ I.funs
  exact Heap.get?_none_of_le (Nat.le_trans I.ok.bsz I.ok.above)
theorem Inv.stkSub(I:Inv X pins σ H s):∀ b∈frs X.stack,b∈X.env.locals :: X.fs:=fun b hb=>by
 rcases I.ok.stk with e | ⟨e,hf⟩
 ·rw[e] at hb;exact List.mem_cons_of_mem _ hb
 ·rw[e] at hb
  unfold frs at hb
  rw[List.filterMap_cons,hf] at hb
  exact hb
theorem Inv.stkFree(I:Inv X pins σ H s):∀ b∈frs X.stack,H b=none:=fun b hb=>by
 rcases List.mem_cons.mp (I.stkSub b hb) with e | hb
 ·rw[e];exact I.free
 ·obtain ⟨_,o,ho,_⟩:=I.ok.funs.mem hb
  exact I.base.free b o ho (I.ok.frf b hb) fun z=>I.ok.exfs b z hb
theorem Inv.step{g':Array GenState}{t':Nat}{d':Drawn}{ch:List Addr}(I:Inv X pins σ H s)
  (hch:∀ b∈ch,(b∈X.ex∨X.s₀.heap.objs.size≤b)∧b≠X.env.locals∧(∀ x c,X.env.cells.lookup x=some c→c≠b)∧∀ p∈X.pn ++ pins,p.1≠b)
  (keep:∀ b o,b≠X.env.locals→b∉X.fs→b∉ch→s.heap.get? b=some o→H b=none→h'.get? b=some o)
  (slot:∀ b o,b≠X.env.locals→b∈X.fs→b∉ch→s.heap.get? b=some o→H b=none→∃ sl,h'.get? b=some { o with slots:=sl }) (free:∀ b o,b∉ch→s.heap.get? b=some o→H b=none→H' b=none)
  (there:∀ b o,b∉ch→s.heap.get? b=some o→∃ o',h'.get? b=some o')
  (tups:∀ b xs,H b=some (.tup xs)→H' b=some (.tup xs)) (frzs:∀ b o u,H b=some (.frz o u)→H' b=some (.frz o u)) (tbls:∀ b ps,H b=some (.tbl ps)→∃ more,H' b=some (.tbl (ps ++ more)))
  (ns:∀ m,s.heap.Ns X.env.locals m→h'.Ns X.env.locals m) (hok:HOk X.prog X.w H' h') (hg:AllBare g') :
  Inv X pins σ H' { s with heap:=h',gens:=g',drawn:=d',toks:=t' }:=by
 have neL:∀ b o,X.s₀.heap.get? b=some o→b≠X.env.locals:=fun b o e=>Nat.ne_of_lt (Nat.lt_of_lt_of_le (Heap.lt_size e) I.ok.above)
 have neC:∀ b o,X.s₀.heap.get? b=some o→b∉X.ex→b∉ch:=fun b o e hx hb=>by
  rcases (hch b hb).1 with z | z
  ·exact hx z
  ·exact absurd (Nat.lt_of_lt_of_le (Heap.lt_size e) z) (Nat.lt_irrefl _)
 have cellK:∀ x c,X.env.cells.lookup x=some c→∀ v,s.heap.IsCell c v→h'.IsCell c v:=fun x c e v ⟨o,ho,hd⟩=>by
  have nch:c∉ch:=fun z=>(hch c z).2.2.1 x c e rfl
  by_cases hc:c∈X.fs
  ·obtain ⟨sl,q⟩:=slot c o (I.cne x c e) hc nch ho (I.freeC x c e)
   exact ⟨_,q,hd⟩
  ·exact ⟨o,keep c o (I.cne x c e) hc nch ho (I.freeC x c e),hd⟩
 refine ⟨I.ok,I.os,hg,⟨fun b o e n hb hx=>?_,fun b o e n hb hx=>?_,fun b o e n hx=>?_,fun b o e hx=>?_,fun b xs e=>tups b xs (I.base.tups b xs e),fun b o xs e=>frzs b o xs (I.base.frzs b o xs e),fun b ps e=>?_⟩,?_,fun x c e=>?_,?_,fun x c e=>?_,fun p hp=>?_,hok,I.len⟩
 ·exact keep b o (neL b o e) hb (neC b o e hx) (I.base.keep b o e n hb hx) (I.base.free b o e n hx)
 ·obtain ⟨sl,e1⟩:=I.base.slot b o e n hb hx
  obtain ⟨sl',e2⟩:=slot b _ (neL b o e) hb (neC b o e hx) e1 (I.base.free b o e n hx)
  exact ⟨sl',e2⟩
 ·obtain ⟨o',e1⟩:=I.base.there b o e hx
  exact free b o' (neC b o e hx) e1 (I.base.free b o e n hx)
 ·obtain ⟨o',e1⟩:=I.base.there b o e hx
  exact there b o' (neC b o e hx) e1
 ·obtain ⟨m1,e1⟩:=I.base.tbls b ps e
  obtain ⟨m2,e2⟩:=tbls b _ e1
  exact ⟨m1 ++ m2,by rw[e2,Array.append_assoc]⟩
 ·obtain ⟨m,hn,hl⟩:=I.loc
  refine ⟨m,ns m hn,fun i x v e1 e2 e3=>?_⟩
  obtain ⟨u,r,l⟩:=hl i x v e1 e2 e3
  refine ⟨u,r,?_⟩
  rcases l with l | ⟨k,c,e,z⟩
  ·exact .inl l
  ·exact .inr ⟨k,c,e,cellK x c e _ z⟩
 ·obtain ⟨v,z⟩:=I.cell x c e
  exact ⟨v,cellK x c e v z⟩
 ·obtain ⟨m,⟨o,_,_,ho,_⟩,_⟩:=I.loc
  exact free _ o (fun z=>(hch _ z).2.1 rfl) ho I.free
 ·obtain ⟨v,o,ho,hd⟩:=I.cell x c e
  exact free c o (fun z=>(hch c z).2.2.1 x c e rfl) ho (I.freeC x c e)
 ·obtain ⟨e,n,ne,nf,d⟩:=I.pin p hp
  have nch:p.1∉ch:=fun z=>(hch p.1 z).2.2.2 p hp rfl
  exact ⟨keep p.1 p.2 ne nf nch e n,free p.1 p.2 nch e n,ne,nf,d⟩
theorem Inv.un{t':Nat}(I:Inv X pins σ H s)(u:Un X.fs [] H H' s.heap h')(hok:HOk X.prog X.w H' h'):Inv X pins σ H' { s with heap:=h',toks:=t' }:=by
 obtain ⟨m,⟨o,es,ep,ho,r⟩,_⟩:=id I.loc
 obtain ⟨sl,hL⟩:=u.any ho I.free (by simp)
 exact I.step (g':=s.gens) (d':=s.drawn) (ch:=[]) (fun _ z=>nomatch z) (fun b o _ hb _ e n=>u.keep b o e n hb (by simp)) (fun b o _ hb _ e n=>u.slot b o e n hb (by simp)) (fun b o _ e n=>u.free b o e n (by simp)) (fun b o _ e=>u.there b o e (by simp)) u.tups u.frzs u.tbls (fun m' hm=>by
  obtain ⟨o',es',ep',ho',r'⟩:=hm
  rw[ho] at ho';cases ho'
  exact ⟨_,es',ep',hL,r'⟩) hok I.bare
theorem Inv.call{g':Array GenState}{t':Nat}{d':Drawn}{ch:List Addr}(I:Inv X pins σ H s)(u:Un (frs X.stack) ch H H' s.heap h')(hok:HOk X.prog X.w H' h')(hg:AllBare g')
  (hch:∀ b∈ch,(b∈X.ex∨X.s₀.heap.objs.size≤b)∧b≠X.env.locals∧(∀ x c,X.env.cells.lookup x=some c→c≠b)∧∀ p∈X.pn ++ pins,p.1≠b) :
  Inv X pins σ H' { s with heap:=h',gens:=g',drawn:=d',toks:=t' }:=by
 obtain ⟨m,⟨o,es,ep,ho,r⟩,_⟩:=id I.loc
 obtain ⟨sl,hL⟩:=u.any ho I.free fun z=>(hch _ z).2.1 rfl
 exact I.step (ch:=ch) hch (fun b o hL hb hc e n=>u.keep b o e n (fun z=>(List.mem_cons.mp (I.stkSub b z)).elim hL hb) hc) (fun b o _ _ hc e n=>u.any e n hc) (fun b o hc e n=>u.free b o e n hc) (fun b o hc e=>u.there b o e hc) u.tups u.frzs u.tbls (fun m' hm=>by
  obtain ⟨o',es',ep',ho',r'⟩:=hm
  rw[ho] at ho';cases ho'
  exact ⟨_,es',ep',hL,r'⟩) hok hg
theorem Inv.turned{t':Nat}{it:Addr}(I:Inv X pins σ H s)(k:∀ b o,b≠it→s.heap.get? b=some o→h'.get? b=some o)(hn:H it=none)(hL:it≠X.env.locals)
  (h1:it∈X.ex∨X.s₀.heap.objs.size≤it) (h2:∀ x c,X.env.cells.lookup x=some c→c≠it) (h3:∀ p∈X.pn ++ pins,p.1≠it):Inv X pins σ H { s with heap:=h',toks:=t' }:=by
 have nit:∀ b u,H b=some u→b≠it:=fun b u e z=>by rw[z,hn] at e;cases e
 refine I.step (g':=s.gens) (d':=s.drawn) (ch:=[it]) (fun b hb=>?_) (fun b o _ _ hc e _=>k b o (fun z=>hc (by simp[z])) e) (fun b o _ _ hc e _=>⟨o.slots,k b o (fun z=>hc (by simp[z])) e⟩) (fun _ _ _ _ n=>n)
  (fun b o hc e=>⟨o,k b o (fun z=>hc (by simp[z])) e⟩) (fun _ _ e=>e) (fun _ _ _ e=>e) (fun b ps e=>⟨#[],by rw[e];simp⟩) (fun m hm=>?_) (fun b u e=>?_) I.bare
 ·have e:b=it:=by simpa using hb
  subst e
  exact ⟨h1,hL,h2,h3⟩
 ·obtain ⟨o,es,ep,ho,r⟩:=hm
  exact ⟨o,es,ep,k _ o (Ne.symm hL) ho,r⟩
 ·refine (I.hok b u e).stay (fun c v hc q=>k c v ?_ q) (fun _ q=>q) fun _ _ q=>q
  rcases hc with z | z
  ·rw[z];exact nit b u e
  ·exact nit c _ z
theorem Inv.tok(I:Inv X pins σ H s)(t:Nat):Inv X pins σ H { s with toks:=t }:=I.un (h':=s.heap) (t':=t) Un.refl I.hok
theorem Inv.kept{t':Nat}(I:Inv X pins σ H s)(k:∀ b u,s.heap.get? b=some u→h'.get? b=some u):Inv X pins σ H { s with heap:=h',toks:=t' }:=I.un (Un.kept k) (I.hok.kept k)
theorem Inv.laid{a:Addr}{o:HO}{t':Nat}(I:Inv X pins σ H s)(k:∀ b u,s.heap.get? b=some u→h'.get? b=some u)(hp:s.heap.objs.size≤a)(new:zcr X.prog X.w (upd H a o) h' a o) :
  Inv X pins σ (upd H a o) { s with heap:=h',toks:=t' }:=I.un (Un.laid k hp (I.hok.fresh hp)) (I.hok.laid k hp new)
theorem Inv.write{x e:Addr}{o:HO}{t':Nat}(I:Inv X pins σ H s)(mu:Mut (H x))(he:e=x∨H e=some (.own x))(k:∀ b u,b≠e→s.heap.get? b=some u→h'.get? b=some u)(heo:∃ u,h'.get? e=some u)
  (new:zcr X.prog X.w (upd H x o) h' x o):Inv X pins σ (upd H x o) { s with heap:=h',toks:=t' }:=I.un (Un.write mu he k heo) (I.hok.write mu he k heo new)
theorem Inv.weak{σ':List (Option V)}(I:Inv X pins σ H s)(hl:σ'.length = σ.length)(w:∀(i:Nat) v,σ'[i]? = some (some v)→σ[i]? = some (some v)):Inv X pins σ' H s :=
 ⟨I.ok,I.os,I.bare,I.base,let ⟨m,hn,hl'⟩:=I.loc;⟨m,hn,fun i x v e1 e2 e3=>hl' i x v e1 (w i v e2) e3⟩,I.cell,I.free,I.freeC,I.pin,I.hok,hl.trans I.len⟩
theorem Inv.pins_of{pins':List (Addr × Obj)}(I:Inv X pins σ H s)(h:∀ p∈pins',s.heap.get? p.1=some p.2∧H p.1=none∧p.1≠X.env.locals∧p.1∉X.fs∧∀ v,p.2.data≠.cell v):Inv X pins' σ H s :=
 ⟨I.ok,I.os,I.bare,I.base,I.loc,I.cell,I.free,I.freeC,fun p hp=>(List.mem_append.mp hp).elim (fun z=>I.pin p (List.mem_append_left _ z)) (h p),I.hok,I.len⟩
theorem ziR{N:List Str}(hN:N.Nodup){i j:Nat}{x:Str}(a:N[i]? = some x)(b:N[j]? = some x):i=j:=by
 obtain ⟨h1,e1⟩:=List.getElem?_eq_some_iff.mp a
 obtain ⟨h2,e2⟩:=List.getElem?_eq_some_iff.mp b
 exact (List.getElem_inj hN).mp (e1.trans e2.symm)
theorem zg5{M:Model}{A:Around}{E:Value→Shared→Prop}{i:Nat}{x:Str}{v:V}{u:Value}{Q:Unit→Shared→Prop}(I:Inv X pins σ H s)(hN:X.N.Nodup)(hi:X.N[i]? = some x)(hx:Loc X.env.scope x)(r:zcD v u)
  (h:∀ s',Inv X pins (σ.set i (some v)) H s'→(∃ a,Heap.SameBut a s.heap s'.heap∧(a=X.env.locals∨X.env.cells.lookup x=some a))→Q () s') (hf:X.fn x=true∨X.env.scope.names.lookup x=some .local:=by first | exact .inl rfl | exact .inr rfl | assumption):wpAny M A (storeName X.env x u) Q E s:=by
 obtain ⟨m,hn,hl⟩:=id I.loc
 have hcls:(X.env.scope.kind == .class || (X.env.scope.kind == .module && X.env.locals != X.env.globals))=false:=by rw[I.ok.kind];rfl
 have hiσ:i < σ.length:=by rw[I.len];exact (List.getElem?_eq_some_iff.mp hi).1
 have cne:=I.cne
 have tracked:∀{a:Addr}{h':Heap},(∃ o,s.heap.get? a=some o∧H a=none)→Heap.SameBut a s.heap h'→HOk X.prog X.w H h':=fun {a h'} ha hs b ob e=>by
  obtain ⟨_,_,hfree⟩:=ha
  refine (I.hok b ob e).stay (fun c w' hc q=>(hs.2 c ?_).trans q) (fun _ q=>q) fun _ _ q=>q
  rintro rfl
  rcases hc with rfl | hc
  ·rw[hfree] at e;cases e
  ·rw[hfree] at hc;cases hc
 rcases hx with hk | hk
 ·refine wpAny_storeName_local hk hn (fun h' hn' hs=>?_) hcls
  obtain ⟨oL,_,_,hoL,_⟩:=id hn
  refine h _ ⟨I.ok,I.os,I.bare,⟨fun b o e n hb hx=>?_,fun b o e n hb hx=>?_,I.base.free,fun b o e hx=>?_,I.base.tups,I.base.frzs,I.base.tbls⟩,⟨_,hn',fun j y v' e1 e2 e3=>?_⟩,fun y c e=>?_,I.free,I.freeC,fun p hp=>?_,tracked ⟨oL,hoL,I.free⟩ hs,by simpa using I.len⟩ ⟨_,hs,.inl rfl⟩
  ·exact (hs.2 b (Nat.ne_of_lt (Nat.lt_of_lt_of_le (Heap.lt_size e) I.ok.above))).trans (I.base.keep b o e n hb hx)
  ·obtain ⟨sl,e1⟩:=I.base.slot b o e n hb hx
   exact ⟨sl,(hs.2 b (Nat.ne_of_lt (Nat.lt_of_lt_of_le (Heap.lt_size e) I.ok.above))).trans e1⟩
  ·obtain ⟨o',e1⟩:=I.base.there b o e hx
   exact ⟨o',(hs.2 b (Nat.ne_of_lt (Nat.lt_of_lt_of_le (Heap.lt_size e) I.ok.above))).trans e1⟩
  ·by_cases hj:j=i
   ·subst hj
    rw[hi] at e1;cases e1
    rw[List.getElem?_set_self hiσ] at e2
    cases e2
    exact ⟨u,r,.inl ⟨hk,by simp⟩⟩
   ·rw[List.getElem?_set_ne (Ne.symm hj)] at e2
    obtain ⟨u',r',q⟩:=hl j y v' e1 e2 e3
    refine ⟨u',r',?_⟩
    rcases q with ⟨k,e⟩ | ⟨k,c,e,z⟩
    ·refine .inl ⟨k,?_⟩
     have:y≠x:=fun e=>hj (ziR hN e1 (e ▸ hi))
     simp[this,e]
    ·exact .inr ⟨k,c,e,z.sameBut hs (cne y c e)⟩
  ·obtain ⟨w',z⟩:=I.cell y c e
   exact ⟨w',z.sameBut hs (cne y c e)⟩
  ·obtain ⟨e,n,ne,nf,d⟩:=I.pin p hp
   exact ⟨(hs.2 p.1 ne).trans e,n,ne,nf,d⟩
 ·have hfn:X.fn x=true:=by
   rcases hf with z | z
   ·exact z
   ·rw[z] at hk;cases hk
  obtain ⟨c,hc⟩:=I.ok.has x (.inl hk)
  obtain ⟨w',z⟩:=I.cell x c hc
  refine wpAny_storeName_cell I.ok.kind hk hc z (fun h' hc' hs=>?_)
  obtain ⟨oc,hoc,hocd⟩:=id z
  refine h { s with heap:=h' } ⟨I.ok,I.os,I.bare,⟨fun b o e n hb hx=>?_,fun b o e n hb hx=>?_,I.base.free,fun b o e hx=>?_,I.base.tups,I.base.frzs,I.base.tbls⟩,⟨m,hn.sameBut hs (Ne.symm (cne x c hc)),fun j y v' e1 e2 e3=>?_⟩,fun y c' e=>?_,I.free,I.freeC,fun p hp=>?_,tracked ⟨oc,hoc,I.freeC x c hc⟩ hs,by simpa using I.len⟩ ⟨c,hs,.inr hc⟩
  ·exact (hs.2 b (Nat.ne_of_lt (Nat.lt_of_lt_of_le (Heap.lt_size e) (I.ok.cab x c hfn hc)))).trans (I.base.keep b o e n hb hx)
  ·obtain ⟨sl,e1⟩:=I.base.slot b o e n hb hx
   exact ⟨sl,(hs.2 b (Nat.ne_of_lt (Nat.lt_of_lt_of_le (Heap.lt_size e) (I.ok.cab x c hfn hc)))).trans e1⟩
  ·obtain ⟨o',e1⟩:=I.base.there b o e hx
   exact ⟨o',(hs.2 b (Nat.ne_of_lt (Nat.lt_of_lt_of_le (Heap.lt_size e) (I.ok.cab x c hfn hc)))).trans e1⟩
  ·by_cases hj:j=i
   ·subst hj
    rw[hi] at e1;cases e1
    rw[List.getElem?_set_self hiσ] at e2
    cases e2
    exact ⟨u,r,.inr ⟨.inl hk,c,hc,hc'⟩⟩
   ·rw[List.getElem?_set_ne (Ne.symm hj)] at e2
    obtain ⟨u',r',q⟩:=hl j y v' e1 e2 e3
    refine ⟨u',r',?_⟩
    rcases q with q | ⟨k,c',e,z'⟩
    ·exact .inl q
    ·refine .inr ⟨k,c',e,z'.sameBut hs ?_⟩
     rintro rfl
     exact hj (ziR hN e1 (I.ok.inj _ _ _ e hc ▸ hi))
  ·by_cases hcc:c'=c
   ·subst hcc;exact ⟨_,hc'⟩
   ·obtain ⟨w2,z2⟩:=I.cell y c' e
    exact ⟨w2,z2.sameBut hs hcc⟩
  ·obtain ⟨e,n,ne,nf,d⟩:=I.pin p hp
   refine ⟨(hs.2 p.1 ?_).trans e,n,ne,nf,d⟩
   intro q
   rw[q,hoc] at e
   have q':oc=p.2:=Option.some.inj e
   exact d w' (by rw[← q'];exact hocd)
theorem zft{M:Model}{A:Around}{E:Value→Shared→Prop}{i:Nat}{x:Str}{v:V}{u:Value}{Q:Unit→Shared→Prop}(I:Inv X pins σ H s)(hN:X.N.Nodup)(hi:X.N[i]? = some x)(hx:Loc X.env.scope x)(r:zcD v u)
  (h:∀ s',Inv X pins (σ.set i (some v)) H s'→Q () s') (hf:X.fn x=true∨X.env.scope.names.lookup x=some .local:=by first | exact .inl rfl | exact .inr rfl | assumption):wpAny M A (storeName X.env x u) Q E s :=
 zg5 I hN hi hx r (fun s' I' _=>h s' I') hf
theorem Inv.call'{s':Shared}{ch:List Addr}(I:Inv X pins σ H s)(ho:s'.os=s.os)(u:Un (frs X.stack) ch H H' s.heap s'.heap)(hok:HOk X.prog X.w H' s'.heap)(hg:AllBare s'.gens)
  (hch:∀ b∈ch,(b∈X.ex∨X.s₀.heap.objs.size≤b)∧b≠X.env.locals∧(∀ x c,X.env.cells.lookup x=some c→c≠b)∧∀ p∈X.pn ++ pins,p.1≠b):Inv X pins σ H' s':=by
 obtain ⟨h',g',d',t',o'⟩:=s'
 have e:o'=s.os:=ho
 subst e
 exact I.call (g':=g') (t':=t') (d':=d') u hok hg hch
end
abbrev XK:=Value→Option Addr→Hp→Prop
abbrev St:=List (Option V)
abbrev VK:=V→Hp→Prop
abbrev TE:=St→Hp→VK→Prop
abbrev TT:=St→Hp→(Bool→Hp→Prop)→Prop
abbrev TA:=St→Hp→(List V→Hp→Prop)→Prop
structure zqd where
 nx:St→Hp→Prop
 rt:VK
 bk:St→Hp→Prop:=fun _ _=>False
 ct:St→Hp→Prop:=fun _ _=>False
abbrev TS:=zqd→St→Hp→Prop
def EP(X:Cx)(pins:List (Addr × Obj))(σ:St)(Q:VK)(u:Value)(s':Shared):Prop:=∃ v H',Inv X pins σ H' s'∧zcD v u∧Q v H'
def TP(X:Cx)(pins:List (Addr × Obj))(σ:St)(Q:Bool→Hp→Prop)(b:Bool)(s':Shared):Prop:=∃ H',Inv X pins σ H' s'∧Q b H'
def AP(X:Cx)(pins:List (Addr × Obj))(σ:St)(Q:List V→Hp→Prop)(us:List Value)(s':Shared):Prop:=∃ vs H',Inv X pins σ H' s'∧zbk vs us∧Q vs H'
def SP(X:Cx)(pins:List (Addr × Obj))(D:zqd)(f:Flow)(s':Shared):Prop :=
 match f with
 | .next=>∃ σ' H',Inv X pins σ' H' s'∧D.nx σ' H'
 | .brk=>∃ σ' H',Inv X pins σ' H' s'∧D.bk σ' H'
 | .cont=>∃ σ' H',Inv X pins σ' H' s'∧D.ct σ' H'
 | .ret u=>∃ v σ' H',Inv X pins σ' H' s'∧zcD v u∧D.rt v H'
def PE(X:Cx)(e:Expr)(t:TE):Prop :=
 ∀(pins:List (Addr × Obj))(s:Shared)(σ:St)(H:Hp)(Q:VK),Inv X pins σ H s→t σ H Q→wpAny (model X.prog X.w) X.A (eval e X.env) (EP X pins σ Q) X.xe s
def PT(X:Cx)(e:Expr)(t:TT):Prop :=
 ∀(pins:List (Addr × Obj))(s:Shared)(σ:St)(H:Hp)(Q:Bool→Hp→Prop),Inv X pins σ H s→t σ H Q→wpAny (model X.prog X.w) X.A (isTrue e X.env (eval e X.env)) (TP X pins σ Q) X.xe s
def PW(X:Cx)(e:Expr)(t:TT):Prop :=
 ∀(whole:Sem Value)(pins:List (Addr × Obj))(s:Shared)(σ:St)(H:Hp)(Q:Bool→Hp→Prop),Inv X pins σ H s→t σ H Q→wpAny (model X.prog X.w) X.A (isTrue e X.env whole) (TP X pins σ Q) X.xe s
theorem PW.pt{X:Cx}{e:Expr}{t:TT}(h:PW X e t):PT X e t:=h _
def PA(X:Cx)(es:List Expr)(t:TA):Prop :=
 ∀(pos:Pos)(pins:List (Addr × Obj))(s:Shared)(σ:St)(H:Hp)(Q:List V→Hp→Prop),Inv X pins σ H s→t σ H Q→wpAny (model X.prog X.w) X.A (spliced (backTo pos (starEach es X.env))) (AP X pins σ Q) X.xe s
def PS(X:Cx)(st:Stmt)(t:TS):Prop :=
 ∀(pins:List (Addr × Obj))(s:Shared)(σ:St)(H:Hp)(D:zqd),Inv X pins σ H s→t D σ H→wpAny (model X.prog X.w) X.A (exec st X.env) (SP X pins D) X.xe s
def PSs(X:Cx)(st:List Stmt)(t:TS):Prop :=
 ∀(pins:List (Addr × Obj))(s:Shared)(σ:St)(H:Hp)(D:zqd),Inv X pins σ H s→t D σ H→wpAny (model X.prog X.w) X.A (execs st X.env) (SP X pins D) X.xe s
theorem thn{α:Type}{t:Sem α}{Q Q':α→Shared→Prop}{M:Model}{A:Around}{E:Value→Shared→Prop}{s:Shared}(h:wpAny M A t Q E s)(hQ:∀ a s,Q a s→Q' a s):wpAny M A t Q' E s:=wpAny_mono h hQ fun _ _ x=>x
end L2
namespace L2
open PySem PySem.Spec PyProof.Rows
section
variable{X:Cx}
def tVar(i:Nat):TE:=fun σ H Q=>∃ v,σ[i]? = some (some v)∧Q v H
def tC(v:V):TE:=fun _ H Q=>Q v H
theorem zbR{i:Nat}{x:Str}{pos:Pos}(hN:X.N[i]? = some x)(hv:Vis X.env.scope x)(hd:(x == ("__debug__" : Str))=false:=by decide)(hcd:(x == ("__classdict__" : Str))=false:=by decide):PE X (.Name x pos) (tVar i):=by
 intro pins s σ H Q I h
 obtain ⟨v,e,h⟩:=h
 obtain ⟨m,hn,hl⟩:=I.loc
 obtain ⟨u,r,l⟩:=hl i x v hN e hv
 have fin:EP X pins σ Q u s:=⟨v,H,I,r,h⟩
 rcases l with ⟨hk,hm⟩ | ⟨hk,c,hc,hcell⟩
 ·exact wpAny_Name (wpAny_loadName_local I.ok.kind hk hn hm fin) hd
 ·rcases hk with hk | hk
  ·exact wpAny_Name (wpAny_loadName_cell I.ok.kind hk hc hcell fin) hd
  ·exact wpAny_Name (wpAny_loadName_free I.ok.kind hk hc hcell fin hcd) hd
theorem zqc{i j pos}:PE X (.Constant (.int i) j pos) (tC (.int i)):=fun _ _ _ H _ I h=>wpAny_Constant_int ⟨.int i,H,I.tok _,⟨_,rfl⟩,h⟩
theorem ztO{b j pos}:PE X (.Constant (.bool b) j pos) (tC (.bl b)):=fun _ _ _ H _ I h=>Constant_bool ⟨.bl b,H,I,rfl,h⟩
theorem ztv{j pos}:PE X (.Constant .none j pos) (tC .non):=fun _ _ _ H _ I h=>Constant_none ⟨.non,H,I,rfl,h⟩
theorem zta{x j pos}:PE X (.Constant (.str x) j pos) (tC (.str x)):=fun _ _ _ H _ I h=>Calls.Constant_str ⟨.str x,H,I.tok _,⟨_,rfl⟩,h⟩
def Gl(X:Cx)(x:Str):Prop:=X.env.kindOf x=some .globalImplicit
theorem zfL{E:Value→Shared→Prop}{pins:List (Addr × Obj)}{s:Shared}{σ:St}{H:Hp}{x:Str}{u:Value}{pos:Pos}{Q:Value→Shared→Prop}(I:Inv X pins σ H s)(hg:Gl X x)(hm:X.mg x=some u)(h:Q u s)
  (hd:(x == ("__debug__" : Str))=false:=by decide):wpAny (model X.prog X.w) X.A (eval (.Name x pos) X.env) Q E s :=
 Calls.Name_function_global I.ok.kind hg (Calls.loadGlobal_global (by rw[I.ok.glob];exact I.mod.glob.keeps I.bk) hm h) hd
theorem zf8{E:Value→Shared→Prop}{pins:List (Addr × Obj)}{s:Shared}{σ:St}{H:Hp}{x:Str}{u:Value}{pos:Pos}{Q:Value→Shared→Prop}(I:Inv X pins σ H s)(hg:Gl X x)(hm:X.mg x=none)(hv:bootBuiltins x=some u)(h:Q u s)
  (hn:x≠"__name__":=by decide) (hd:(x == ("__debug__" : Str))=false:=by decide):wpAny (model X.prog X.w) X.A (eval (.Name x pos) X.env) Q E s:=by
 obtain ⟨mb,h1,h2⟩:=I.mod.blt
 exact Calls.Name_function_global I.ok.kind hg (Calls.loadGlobal_builtin (by rw[I.ok.glob];exact I.mod.glob.keeps I.bk) hm (by rw[I.ok.blt];exact h1.keeps I.bk) ((h2 x hn).trans hv) h) hd
theorem zkB{x:Str}{v:V}{u:Value}{pos:Pos}(hg:Gl X x)(hm:X.mg x=some u)(r:zcD v u)(hd:(x == ("__debug__" : Str))=false:=by decide):PE X (.Name x pos) (tC v) :=
 fun _ _ _ H _ I h=>zfL I hg hm ⟨v,H,I,r,h⟩ hd
theorem zhX{x:Str}{v:V}{u:Value}{pos:Pos}(hg:Gl X x)(hm:X.mg x=none)(hv:bootBuiltins x=some u)(r:zcD v u)(hn:x≠"__name__":=by decide)(hd:(x == ("__debug__" : Str))=false:=by decide):PE X (.Name x pos) (tC v) :=
 fun _ _ _ H _ I h=>zf8 I hg hm hv ⟨v,H,I,r,h⟩ hn hd
variable{a b:Expr}{ta tb:TE}{pos:Pos}
def tB(t:TE):TT:=fun σ H Q=>t σ H fun x H1=>∃ c,x = .bl c∧Q c H1
theorem zrT{e:Expr}{t:TE}(h:PE X e t)(he:∀ whole,isTrue e X.env whole=(do let v ← whole;standAt e.pos;holding [v] (truthy v)):=by intro _;rfl):PT X e (tB t):=by
 intro pins s σ H Q I hw
 refine isTrue_plain (thn (h pins s σ H _ I hw) fun v s1 ⟨x,H1,I1,r1,q1⟩=>?_) (he _)
 obtain ⟨d,rfl,q⟩:=q1
 cases r1
 exact wpAny_truthy_bool ⟨H1,I1,q⟩
variable{tA tB':TT}{zch:List Expr}
def tAnd(t u:TT):TT:=fun σ H Q=>t σ H fun c H1=>if c=true then u σ H1 Q else Q false H1
def tOr(t u:TT):TT:=fun σ H Q=>t σ H fun c H1=>if c=true then Q true H1 else u σ H1 Q
def tNot(t:TT):TT:=fun σ H Q=>t σ H fun c H1=>Q (!c) H1
theorem zrw(ha:PT X a tA):PW X (.BoolOp .And [a] pos) tA:=by
 intro wh pins s σ H Q I h
 refine isTrue_and (thn (ha pins s σ H Q I h) fun c s1 e=>?_)
 cases c with
 | true=>exact isTrue_and_nil e
 | false=>exact e
theorem zsP(ha:PT X a tA):PW X (.BoolOp .Or [a] pos) tA:=by
 intro wh pins s σ H Q I h
 refine isTrue_or (thn (ha pins s σ H Q I h) fun c s1 e=>?_)
 cases c with
 | false=>exact isTrue_or_nil e
 | true=>exact e
theorem zsS(ha:PT X a tA)(hb:PW X (.BoolOp .And (b :: zch) pos) tB'):PW X (.BoolOp .And (a :: b :: zch) pos) (tAnd tA tB'):=by
 intro wh pins s σ H Q I h
 refine isTrue_and (thn (ha pins s σ H _ I h) fun c s1 ⟨H1,I1,q1⟩=>?_)
 cases c with
 | true=>exact hb wh pins s1 σ H1 Q I1 q1
 | false=>exact ⟨H1,I1,q1⟩
theorem ztN(ha:PT X a tA)(hb:PW X (.BoolOp .Or (b :: zch) pos) tB'):PW X (.BoolOp .Or (a :: b :: zch) pos) (tOr tA tB'):=by
 intro wh pins s σ H Q I h
 refine isTrue_or (thn (ha pins s σ H _ I h) fun c s1 ⟨H1,I1,q1⟩=>?_)
 cases c with
 | true=>exact ⟨H1,I1,q1⟩
 | false=>exact hb wh pins s1 σ H1 Q I1 q1
theorem zsx(ha:PT X a tA):PT X (.UnaryOp .Not a pos) (tNot tA):=by
 intro pins s σ H Q I h
 exact isTrue_not (ha pins s σ H (fun c H1=>Q (!c) H1) I h)
def ztQ(ta tb:TE):TE:=fun σ H Q=>ta σ H fun x H1=>∃ c,x = .bl c∧if c=true then tb σ H1 Q else Q (.bl false) H1
def ztY(ta:TE):TE:=fun σ H Q=>ta σ H fun x H1=>∃ c,x = .bl c∧Q (.bl (!c)) H1
theorem zrW{op}{t:TE}(h:PE X a t):PE X (.BoolOp op [a] pos) t:=fun pins s σ H Q I hw=>BoolOp_one (h pins s σ H Q I hw)
theorem zsz(ha:PE X a ta)(hb:PE X (.BoolOp .And (b :: zch) pos) tb):PE X (.BoolOp .And (a :: b :: zch) pos) (ztQ ta tb):=by
 intro pins s σ H Q I h
 refine BoolOp_and (thn (ha pins s σ H _ I h) fun v s1 ⟨x,H1,I1,r1,q1⟩=>?_)
 obtain ⟨c,rfl,q1⟩:=q1
 cases r1
 refine wpAny_truthy_bool ?_
 cases c with
 | true=>exact hb pins s1 σ H1 Q I1 q1
 | false=>exact ⟨.bl false,H1,I1,rfl,q1⟩
theorem zrY(ha:PE X a ta):PE X (.UnaryOp .Not a pos) (ztY ta):=by
 intro pins s σ H Q I h
 refine UnaryOp_ (thn (ha pins s σ H _ I h) fun v s1 ⟨x,H1,I1,r1,q1⟩=>?_)
 obtain ⟨c,rfl,q1⟩:=q1
 cases r1
 exact not_of (wpAny_truthy_bool ⟨.bl (!c),H1,I1,rfl,q1⟩)
end
end L2
namespace L2
open PySem PySem.Spec PyProof.Rows
def SqL(K:W.Frag)(H:Hp)(a:Addr)(xs:List V):Prop :=
 Rd H a (.lst xs) ∨
  ∃(o:Obj)(its:Array Value)(n:Nat),K.lookup a=some o∧o.cls = .type "list"∧o.dict=none∧o.data = .seq its n∧its.size≤sizeLine∧zbk xs its.toList
def SqT(K:W.Frag)(H:Hp)(a:Addr)(xs:List V):Prop :=
 Rd H a (.tup xs) ∨
  ∃(o:Obj)(its:Array Value)(n:Nat),K.lookup a=some o∧o.cls = .type "tuple"∧o.data = .seq its n∧its.size≤sizeLine∧zbk xs its.toList
def absV:Value→Option V
 | .none=>some .non
 | .bool b=>some (.bl b)
 | .int i _=>some (.int i)
 | .str x _=>some (.str x)
 | .bytes b _=>some (.byt b)
 | .float b _=>some (.flt b)
 | .ref a=>some (.ref a)
 | .type n=>some (.ty n)
 | _=>none
theorem zcD.abs{x:V}{u:Value}(r:zcD x u):absV u=some x:=by
 cases x with
 | non=>cases r;rfl
 | bl _=>cases r;rfl
 | int _=>obtain ⟨t,rfl⟩:=r;rfl
 | str _=>obtain ⟨t,rfl⟩:=r;rfl
 | byt _=>obtain ⟨t,rfl⟩:=r;rfl
 | flt _=>obtain ⟨t,rfl⟩:=r;rfl
 | ref _=>cases r;rfl
 | ty _=>cases r;rfl
theorem zcD.inj{x y:V}{u:Value}(r:zcD x u)(q:zcD y u):x=y:=Option.some.inj (r.abs.symm.trans q.abs)
theorem zbk.inj:∀{xs ys:List V}{us:List Value},zbk xs us→zbk ys us→xs=ys
 | _,_,_,.nil,.nil=>rfl
 | _,_,_,.cons r t,.cons r' t'=>by rw[r.inj r',zbk.inj t t']
section
variable{X:Cx}{pins:List (Addr × Obj)}{σ:St}{H:Hp}{s:Shared}{a:Addr}{xs ys:List V}
theorem SqL.of{K:W.Frag}(h:H a=some (.lst xs)):SqL K H a xs:=.inl (.inl h)
theorem SqT.of{K:W.Frag}(h:H a=some (.tup xs)):SqT K H a xs:=.inl (.inl h)
theorem Inv.list(I:Inv X pins σ H s)(h:SqL X.K H a xs):∃ its:List Value,zbk xs its∧PlainL s.heap a its.toArray∧xs.length≤sizeLine:=by
 rcases h with h | ⟨o,its,n,hk,hc,hd,hs,hz,r⟩
 ·obtain ⟨z,its,n,r,e⟩:=h.ok I.hok
  exact ⟨its,r,⟨_,n,e,rfl,rfl,rfl⟩,z⟩
 ·refine ⟨its.toList,r,⟨o,n,I.kIn a o hk,hc,hd,by simpa using hs⟩,?_⟩
  have e:=r.length
  simp only[Array.length_toList] at e
  omega
theorem Inv.tuple(I:Inv X pins σ H s)(h:SqT X.K H a xs):∃ its:List Value,zbk xs its∧IsTup s.heap a its.toArray∧xs.length≤sizeLine:=by
 rcases h with h | ⟨o,its,n,hk,hc,hs,hz,r⟩
 ·obtain ⟨z,its,r,n,e⟩:=h.ok I.hok
  exact ⟨its,r,⟨_,e,rfl,n,rfl⟩,z⟩
 ·refine ⟨its.toList,r,⟨o,I.kIn a o hk,hc,n,by simpa using hs⟩,?_⟩
  have e:=r.length
  simp only[Array.length_toList] at e
  omega
theorem Inv.list_inj(I:Inv X pins σ H s)(h:SqL X.K H a xs)(h':SqL X.K H a ys):xs=ys:=by
 obtain ⟨its,r,⟨o,n,e,_,_,d⟩,_⟩:=I.list h
 obtain ⟨its',r',⟨o',n',e',_,_,d'⟩,_⟩:=I.list h'
 rw[e] at e';cases e'
 rw[d] at d'
 injection d' with d1 _
 have:its=its':=by simpa using congrArg Array.toList d1
 subst this
 exact r.inj r'
theorem Inv.tuple_inj(I:Inv X pins σ H s)(h:SqT X.K H a xs)(h':SqT X.K H a ys):xs=ys:=by
 obtain ⟨its,r,⟨o,e,_,n,d⟩,_⟩:=I.tuple h
 obtain ⟨its',r',⟨o',e',_,n',d'⟩,_⟩:=I.tuple h'
 rw[e] at e';cases e'
 rw[d] at d'
 injection d' with d1 _
 have:its=its':=by simpa using congrArg Array.toList d1
 subst this
 exact r.inj r'
end
abbrev Cx.wish(X:Cx)(E:Value→Shared→Prop):Cx:={ X with xe:=E }
abbrev Cx.nox(X:Cx):Cx:=X.wish fun _ _=>False
theorem Cx.Ok.wish{X:Cx}(ok:X.Ok)(E:Value→Shared→Prop):(X.wish E).Ok :=
 ⟨ok.mod,ok.kind,ok.glob,ok.blt,ok.above,ok.inj,ok.has,ok.cab,ok.hd,ok.frames,ok.stk,ok.exf,ok.bs,ok.bsz,ok.noex,ok.exfs,ok.funs,ok.frf⟩
theorem Cx.Ok.unwish{X:Cx}{E:Value→Shared→Prop}(ok:(X.wish E).Ok):X.Ok :=
 ⟨ok.mod,ok.kind,ok.glob,ok.blt,ok.above,ok.inj,ok.has,ok.cab,ok.hd,ok.frames,ok.stk,ok.exf,ok.bs,ok.bsz,ok.noex,ok.exfs,ok.funs,ok.frf⟩
section
variable{X:Cx}{pins:List (Addr × Obj)}{σ:St}{H:Hp}{s:Shared}{E:Value→Shared→Prop}
theorem Inv.wish(I:Inv X pins σ H s)(E:Value→Shared→Prop):Inv (X.wish E) pins σ H s:=⟨I.ok.wish E,I.os,I.bare,I.base,I.loc,I.cell,I.free,I.freeC,I.pin,I.hok,I.len⟩
theorem Inv.unwish(I:Inv (X.wish E) pins σ H s):Inv X pins σ H s:=⟨I.ok.unwish,I.os,I.bare,I.base,I.loc,I.cell,I.free,I.freeC,I.pin,I.hok,I.len⟩
theorem SP.unwish{D:zqd}{f:Flow}{s':Shared}(h:SP (X.wish E) pins D f s'):SP X pins D f s':=by
 cases f with
 | next=>obtain ⟨σ',H',I,q⟩:=h;exact ⟨σ',H',I.unwish,q⟩
 | brk=>obtain ⟨σ',H',I,q⟩:=h;exact ⟨σ',H',I.unwish,q⟩
 | cont=>obtain ⟨σ',H',I,q⟩:=h;exact ⟨σ',H',I.unwish,q⟩
 | ret u=>obtain ⟨v,σ',H',I,r,q⟩:=h;exact ⟨v,σ',H',I.unwish,r,q⟩
theorem PE.nox{e:Expr}{t:TE}(h:PE X.nox e t):PE X e t:=fun pins s σ H Q I hw =>
 wpAny_mono (h pins s σ H Q (I.wish _) hw) (fun _ _ ⟨v,H',I',r,q⟩=>⟨v,H',I'.unwish,r,q⟩) fun _ _ z=>False.elim z
theorem PT.nox{e:Expr}{t:TT}(h:PT X.nox e t):PT X e t:=fun pins s σ H Q I hw =>
 wpAny_mono (h pins s σ H Q (I.wish _) hw) (fun _ _ ⟨H',I',q⟩=>⟨H',I'.unwish,q⟩) fun _ _ z=>False.elim z
theorem PSs.nox{st:List Stmt}{t:TS}(h:PSs X.nox st t):PSs X st t:=fun pins s σ H D I hw =>
 wpAny_mono (h pins s σ H D (I.wish _) hw) (fun _ _ q=>q.unwish) fun _ _ z=>False.elim z
end
section
variable{X:Cx}{st:Stmt}{zch:List Stmt}{t u:TS}{e:Expr}{te:TE}{pos:Pos}
def ztF:TS:=fun D σ H=>D.nx σ H
def tSeq(t u:TS):TS:=fun D σ H=>t { D with nx:=u D } σ H
theorem zri:PSs X [] ztF:=fun _ _ σ H _ I h=>wpAny_execs_nil ⟨σ,H,I,h⟩
theorem zfo(h1:PS X st t)(h2:PSs X zch u):PSs X (st :: zch) (tSeq t u):=by
 intro pins s σ H D I h
 refine wpAny_execs_cons (thn (h1 pins s σ H { D with nx:=u D } I h) fun f s1 q=>?_)
 cases f with
 | next =>
  obtain ⟨σ',H',I',q⟩:=q
  exact h2 pins s1 σ' H' D I' q
 | ret v=>exact q
 | brk=>exact q
 | cont=>exact q
theorem zo3(h1:PS X st t):PSs X [st] t:=by
 intro pins s σ H D I h
 refine wpAny_execs_cons (thn (h1 pins s σ H D I h) fun f s1 q=>?_)
 cases f with
 | next=>exact wpAny_execs_nil q
 | ret v=>exact q
 | brk=>exact q
 | cont=>exact q
theorem Inv.quiet{pins:List (Addr × Obj)}{σ:St}{H:Hp}{s:Shared}(I:Inv X pins σ H s):interactive X.env=false:=by simp[interactive,I.ok.kind]
def ztc(te:TE):TS:=fun D σ H=>te σ H fun _ H1=>D.nx σ H1
theorem zkv(he:PE X e te)(hs:swapsWith e none pos.line X.env=pure false:=by rfl):PS X (.Expr e pos) (ztc te):=by
 intro pins s σ H D I h
 exact wpAny_Expr_any (thn (he pins s σ H _ I h) fun v s1 ⟨x,H1,I1,r1,q1⟩=>⟨σ,H1,I1,q1⟩) I.quiet hs
def tRet(te:TE):TS:=fun D σ H=>te σ H D.rt
theorem zqt(he:PE X e te):PS X (.Return (some e) pos) (tRet te):=by
 intro pins s σ H D I h
 exact wpAny_Return_some (thn (he pins s σ H _ I h) fun v s1 ⟨x,H1,I1,r1,q1⟩=>⟨x,σ,H1,I1,r1,q1⟩)
def tIfS(c:TT)(t u:TS):TS:=fun D σ H=>c σ H fun b H1=>if b=true then t D σ H1 else u D σ H1
theorem ztE{c:Expr}{a b:List Stmt}{tc:TT}(hc:PT X c tc)(ha:PSs X a t)(hb:PSs X b u):PS X (.If c a b pos) (tIfS tc t u):=by
 intro pins s σ H D I h
 refine wpAny_If (thn (hc pins s σ H _ I h) fun d s1 ⟨H1,I1,q1⟩=>?_)
 cases d with
 | true=>exact ha pins s1 σ H1 D I1 q1
 | false=>exact hb pins s1 σ H1 D I1 q1
end
abbrev TG:=V→St→Hp→(St→Hp→Prop)→Prop
abbrev TGs:=List V→St→Hp→(St→Hp→Prop)→Prop
def PG(X:Cx)(target:Expr)(t:TG):Prop :=
 ∀(pins:List (Addr × Obj))(s:Shared)(σ:St)(H:Hp)(v:V)(u:Value)(Q:St→Hp→Prop),Inv X pins σ H s→zcD v u→t v σ H Q →
  wpAny (model X.prog X.w) X.A (assign target X.env u) (fun _ s'=>∃ σ' H',Inv X pins σ' H' s'∧Q σ' H') X.xe s
def PGs(X:Cx)(ts:List Expr)(t:TGs):Prop :=
 ∀(pins:List (Addr × Obj))(s:Shared)(σ:St)(H:Hp)(vs:List V)(us:List Value)(Q:St→Hp→Prop),Inv X pins σ H s→zbk vs us→t vs σ H Q →
  wpAny (model X.prog X.w) X.A (assignInOrder ((assignEach ts X.env).map (·.2)) us) (fun _ s'=>∃ σ' H',Inv X pins σ' H' s'∧Q σ' H') X.xe s
abbrev ztD:=V→V→V→Hp→(Hp→Prop)→Prop
def PSet(X:Cx)(t:ztD):Prop :=
 ∀(pins:List (Addr × Obj))(s:Shared)(σ:St)(H:Hp)(o i v:V)(ov iv u:Value)(Q:Hp→Prop),Inv X pins σ H s→zcD o ov→zcD i iv→zcD v u→t o i v H Q →
  wpAny (model X.prog X.w) X.A (setItem ov iv u) (fun _ s'=>∃ H',Inv X pins σ H' s'∧Q H') X.xe s
section
variable{X:Cx}{pos:Pos}
def zrs(i:Nat):TG:=fun v σ H Q=>Q (σ.set i (some v)) H
theorem zil{i:Nat}{x:Str}(hN:X.N.Nodup)(hi:X.N[i]? = some x)(hx:Loc X.env.scope x)(hf:X.fn x=true∨X.env.scope.names.lookup x=some .local:=by first | exact .inl rfl | exact .inr rfl | assumption):PG X (.Name x pos) (zrs i):=by
 intro pins s σ H v u Q I r h
 exact wpAny_assign_Name (zft I hN hi hx r (fun s' I'=>⟨_,H,I',h⟩) hf)
def gNil:TGs:=fun vs σ H Q=>vs=[]∧Q σ H
def zuc(t:TG)(u:TGs):TGs:=fun vs σ H Q=>∃ v r,vs=v :: r∧t v σ H fun σ' H'=>u r σ' H' Q
theorem zro:PGs X [] gNil:=by
 intro pins s σ H vs us Q I r h
 obtain ⟨e,h⟩:=h
 subst e
 cases r
 exact assignInOrder_nil ⟨σ,H,I,h⟩
theorem zl0{e:Expr}{es:List Expr}{t:TG}{u:TGs}(h1:PG X e t)(h2:PGs X es u)
  (hs:(assignEach (e :: es) X.env).map (·.2)=assign e X.env :: (assignEach es X.env).map (·.2):=by rfl):PGs X (e :: es) (zuc t u):=by
 intro pins s σ H vs us Q I r h
 obtain ⟨v,vr,e1,h⟩:=h
 subst e1
 cases r with
 | cons r rr =>
  rw[hs]
  refine assignInOrder_cons (thn (h1 pins s σ H _ _ _ I r h) fun _ s1 ⟨σ1,H1,I1,q1⟩=>?_)
  exact h2 pins s1 σ1 H1 _ _ Q I1 rr q1
def gTup(K:W.Frag)(n:Nat)(t:TGs):TG:=fun v σ H Q=>∃ a xs,v = .ref a∧SqT K H a xs∧xs.length=n∧t xs σ H Q
theorem zs9{es:List Expr}{k:Nat}{t:TGs}{n:Nat}(hc:X.calm=true)(h:PGs X es t)
  (hn:(assignEach es X.env).length=n:=by rfl) (hst:(assignEach es X.env).findIdx? (·.1)=none:=by rfl):PG X (.Tuple es k pos) (gTup X.K n t):=by
 intro pins s σ H v u Q I r hw
 obtain ⟨a,xs,e1,hq,hl,hw⟩:=hw
 subst e1
 cases r
 obtain ⟨its,rv,ht,hz⟩:=I.tuple hq
 refine assign_Tuple_tuple (I.ok.hd hc) ht (by simp[hn,← hl,rv.length]) hst fun h' hx=>?_
 have I1:Inv X pins σ H { s with heap:=h' }:=I.kept (t':=s.toks) fun b o e=>hx b o (Nat.ne_of_lt (Heap.lt_size e)) e
 exact h pins _ σ H xs _ Q I1 (by simpa using rv) hw
def zed(to ti:TE)(t:ztD):TG:=fun v σ H Q=>to σ H fun o H1=>ti σ H1 fun i H2=>t o i v H2 fun H3=>Q σ H3
theorem ztt{o i:Expr}{to ti:TE}{t:ztD}(ho:PE X o to)(hi:PE X i ti)(hs:PSet X t)
  (ha:∀ v,assign (.Subscript o i pos) X.env v=(do
   let ov ← holding [v] (eval o X.env)
   let iv ← holding [v,ov] (eval i X.env)
   standAt pos
   holding [v,ov,iv] (setItem ov iv v)
   release [v,ov,iv] []):=by intro _;rfl):PG X (.Subscript o i pos) (zed to ti t):=by
 intro pins s σ H v u Q I r h
 rw[ha]
 refine wpAny_bind (wpAny_holding (thn (ho pins s σ H _ I h) fun ov s1 ⟨x,H1,I1,r1,q1⟩=>?_))
 refine wpAny_bind (wpAny_holding (thn (hi pins s1 σ H1 _ I1 q1) fun iv s2 ⟨y,H2,I2,r2,q2⟩=>?_))
 refine wpAny_bind (wpAny_standAt (wpAny_bind (wpAny_holding (thn (hs pins s2 σ H2 x y v ov iv u _ I2 r1 r2 r q2) fun _ s3 ⟨H3,I3,q3⟩=>?_))))
 exact wpAny_release ⟨σ,H3,I3,q3⟩
def zug(te:TE)(g:TG):TS:=fun D σ H=>te σ H fun x H1=>g x σ H1 D.nx
theorem zqk{tg e:Expr}{te:TE}{g:TG}(he:PE X e te)(hg:PG X tg g)(hs:swapsWithSole [tg] e pos.line X.env=pure false:=by rfl)(hw:swappedStores [tg] e X.env=pure none:=by rfl)
  (h1:(assignEach [tg] X.env).map (·.2)=[assign tg X.env]:=by rfl):PS X (.Assign [tg] e pos) (zug te g):=by
 intro pins s σ H D I h
 refine wpAny_Assign_stores (thn (he pins s σ H _ I h) fun v s1 ⟨x,H1,I1,r1,q1⟩=>?_) hs hw
 rw[h1]
 exact thn (hg pins s1 σ H1 x v _ I1 r1 q1) fun _ s2 q=>q
theorem zl3{i:Nat}{x:Str}{e:Expr}{te:TE}{pos':Pos}(hN:X.N.Nodup)(hi:X.N[i]? = some x)(hx:Loc X.env.scope x)(he:PE X e te)(hs:swapsWith e (some (.Name x pos')) pos.line X.env=pure false:=by rfl)(hf:X.fn x=true∨X.env.scope.names.lookup x=some .local:=by first | exact .inl rfl | exact .inr rfl | assumption) :
  PS X (.Assign [.Name x pos'] e pos) (zug te (zrs i)):=by
 intro pins s σ H D I h
 refine wpAny_Assign_Name (thn (he pins s σ H _ I h) fun v s1 ⟨y,H1,I1,r1,q1⟩=>?_) hs
 exact zft I1 hN hi hx r1 (fun s2 I2=>⟨_,H1,I2,q1⟩) hf
def tPar(i j:Nat)(ta:TA):TS:=fun D σ H=>ta σ H fun vs H1=>∃ v w,vs=[v,w]∧D.nx ((σ.set i (some v)).set j (some w)) H1
theorem zsp{i j:Nat}{x y:Str}{a b:Expr}{ta:TA}{px py pt:Pos}{kt k2 pt2}(hc:X.calm=true)(hN:X.N.Nodup)(hi:X.N[i]? = some x)(hj:X.N[j]? = some y)(hij:i≠j)
  (hx:X.env.scope.names.lookup x=some .local) (hy:X.env.scope.names.lookup y=some .local) (ha:PA X [a,b] ta)
  (hw:swappedStores [.Tuple [.Name x px,.Name y py] kt pt] (.Tuple [a,b] k2 pt2) X.env=pure (some [x,y]))
  (hs:swapsWithSole [.Tuple [.Name x px,.Name y py] kt pt] (.Tuple [a,b] k2 pt2) pos.line X.env=pure false:=by rfl) :
  PS X (.Assign [.Tuple [.Name x px,.Name y py] kt pt] (.Tuple [a,b] k2 pt2) pos) (tPar i j ta):=by
 intro pins s σ H D I h
 rw[exec_Assign_arm]
 refine wpAny_bind (wpAny_standAt ?_)
 rw[hs]
 refine wpAny_bind (wpAny_pure ?_)
 rw[if_neg (by decide)]
 refine wpAny_bind (Tuple_ (thn (ha _ pins s σ H _ I h) fun us s1 ⟨vs,H1,I1,r1,q1⟩=>?_))
 obtain ⟨v,w,e1,q1⟩:=q1
 subst e1
 obtain ⟨u1,u2,rfl,rv,rw'⟩ : ∃ u1 u2,us=[u1,u2]∧zcD v u1∧zcD w u2:=by
  cases r1 with
  | cons p q =>
   cases q with
   | cons p' q' =>
    cases q'
    exact ⟨_,_,rfl,p,p'⟩
 refine wpAny_newObj_type ?_ (by show 2≤sizeLine;decide)
 have I2:Inv X pins σ H1 { s1 with heap:=s1.heap.push { cls:=.type "tuple",data:=.seq [u1,u2].toArray } }:=I1.kept (t':=s1.toks) fun b o e=>Heap.get?_push_of_some _ e
 rw[hw]
 refine wpAny_bind (wpAny_pure ?_)
 show wpAny (model X.prog X.w) X.A (do rule "assign.swapped-stores";let items ← unpackItems (.ref s1.heap.objs.size) 2 none;assignInOrder [fun v=>bindName X.env y v,fun v=>bindName X.env x v] items.reverse;pure Flow.next) _ _ _
 refine wpAny_bind (wpAny_rule (wpAny_bind (unpackItems_tuple (items:=#[u1,u2]) (I.ok.hd hc) (IsTup.new s1.heap _) fun h' hx'=>?_)))
 have I3:=I2.kept (h':=h') (t':=s1.toks) fun b o e=>hx' b o (Nat.ne_of_lt (Heap.lt_size e)) e
 show wpAny _ _ (assignInOrder [fun v=>bindName X.env y v,fun v=>bindName X.env x v] [u2,u1] >>= fun _=>pure Flow.next) _ _ _
 refine wpAny_bind (assignInOrder_cons (wpAny_bindName (zft I3 hN hj (.inl hy) rw' (fun s2 I4=>?_) (.inr hy))))
 refine assignInOrder_cons (wpAny_bindName (zft I4 hN hi (.inl hx) rv (fun s3 I5=>assignInOrder_nil (wpAny_pure ?_)) (.inr hx)))
 rw[List.set_comm _ _ (Ne.symm hij)] at I5
 exact ⟨_,H1,I5,q1⟩
end
section
variable{X:Cx}{pos:Pos}
def zsT(c:TT)(tb:TS):TS:=fun D σ H=>∃ W:Nat→St→Hp→Prop,(∃ m,W m σ H)∧∀ m σ H,W m σ H →
 c σ H fun b H1=>if b=true then ∃ N:St→Hp→Prop,(∀ σ' H',N σ' H'→∃ m',m' < m∧W m' σ' H')∧tb { D with nx:=N,ct:=N,bk:=D.nx } σ H1 else D.nx σ H1
theorem zpK{c:Expr}{body:List Stmt}{tc:TT}{tb:TS}(hp:PassesOwn (model X.prog X.w) X.A X.env X.xe)(hc:PT X c tc)(hb:PSs X body tb):PS X (.While c body [] pos) (zsT tc tb):=by
 intro pins s σ H D I h
 obtain ⟨W,⟨m0,w0⟩,turn⟩:=h
 refine wpAny_While (codeAny_whileLoop (fun n s'=>∃ σ' H',Inv X pins σ' H' s'∧W n σ' H') ?_ m0 ⟨σ,H,I,w0⟩)
 rintro n s1 ⟨σ1,H1,I1,w1⟩
 refine wpAny_passesOwn hp (thn (hc pins s1 σ1 H1 _ I1 (turn n σ1 H1 w1)) fun b s2 ⟨H2,I2,q2⟩=>?_)
 cases b with
 | true =>
  obtain ⟨N,hN,q2⟩:=q2
  rw[if_pos rfl]
  refine wpAny_passesOwn hp (thn (hb pins s2 σ1 H2 _ I2 q2) fun f s3 q3=>?_)
  cases f with
  | next =>
   obtain ⟨σ3,H3,I3,n3⟩:=q3
   obtain ⟨m',hm,w3⟩:=hN σ3 H3 n3
   exact ⟨m',hm,σ3,H3,I3,w3⟩
  | cont =>
   obtain ⟨σ3,H3,I3,n3⟩:=q3
   obtain ⟨m',hm,w3⟩:=hN σ3 H3 n3
   exact ⟨m',hm,σ3,H3,I3,w3⟩
  | brk=>exact q3
  | ret v=>exact q3
 | false =>
  rw[if_neg Bool.false_ne_true]
  exact wpAny_execs_nil ⟨σ1,H2,I2,q2⟩
end
structure It where
 go:Nat→Hp→Prop
 yld:Nat→Hp→V→Hp→Prop
 stop:Nat→Hp→Prop
def zeL(X:Cx)(pins:List (Addr × Obj))(H:Hp)(b:Addr):Prop :=
 H b=none∧b≠X.env.locals∧b∉X.fs∧(b∈X.ex∨X.s₀.heap.objs.size≤b)∧(∀ x c,X.env.cells.lookup x=some c→c≠b)∧∀ p∈X.pn ++ pins,p.1≠b
theorem Inv.fpOk{X:Cx}{pins:List (Addr × Obj)}{σ:St}{H H':Hp}{s:Shared}{b:Addr}(I:Inv X pins σ H s)(hb:s.heap.objs.size≤b)(hn:H' b=none):zeL X pins H' b:=by
 refine ⟨hn,Nat.ne_of_gt (Nat.lt_of_lt_of_le I.lt hb),I.nofs hb,.inr (Nat.le_trans I.sz hb),fun x c e z=>?_,fun p hp z=>?_⟩
 ·obtain ⟨v,q⟩:=I.cell x c e
  exact absurd (Nat.lt_of_lt_of_le q.lt (by rw[z];exact hb)) (Nat.lt_irrefl _)
 ·exact absurd (Nat.lt_of_lt_of_le (Heap.lt_size (I.pin p hp).1) (by rw[z];exact hb)) (Nat.lt_irrefl _)
structure zpT(P:Program)(w:World)(K:W.Frag)(tg:Expr)(J:It)(fp:List Addr)(it:Addr)(tn:Nat→Heap→Prop):Prop where
 mem:it∈fp
 obj:∀ i h,tn i h→∀ b∈fp,∃ o,h.get? b=some o∧∀ v,o.data≠.cell v
 keep:∀ i h h',tn i h→(∀ b∈fp,∀ o,h.get? b=some o→h'.get? b=some o)→tn i h'
 item:∀(X:Cx),X.prog=P→X.w=w→X.K=K→X.calm=true→∀(i:Nat)(pins:List (Addr × Obj))(s:Shared)(σ:St)(H:Hp)(E:Value→Shared→Prop),Inv X pins σ H s→(∀ b∈fp,zeL X pins H b)→tn i s.heap→J.go i H →
  wpAny (model P w) X.A (pyNext (.ref it)) (fun r s1=>∃ u,r=some u ∧
   wpAny (model P w) X.A (letOwnedTupleGo tg (.ref it) u) (fun _ s2=>∃ x H',Inv X pins σ H' s2∧zcD x u∧J.yld i H x H'∧tn (i + 1) s2.heap∧∀ b∈fp,H' b=none) E s1) E s
 done:∀(X:Cx),X.prog=P→X.w=w→X.K=K→X.calm=true→∀(i:Nat)(pins:List (Addr × Obj))(s:Shared)(σ:St)(H:Hp)(E:Value→Shared→Prop),Inv X pins σ H s→(∀ b∈fp,zeL X pins H b)→tn i s.heap→J.stop i H →
  wpAny (model P w) X.A (pyNext (.ref it)) (fun r s1=>r=none∧Inv X pins σ H s1) E s
 self:∀(A:Around)(i:Nat)(s:Shared)(Q:Value→Shared→Prop)(E:Value→Shared→Prop),tn i s.heap→Q (.ref it) s→wpAny (model P w) A (pyIter (.ref it)) Q E s
abbrev TI:=St→Hp→(It→Hp→Prop)→Prop
def PIE(X:Cx)(pins:List (Addr × Obj))(σ:St)(tg:Expr)(R:It→Hp→Prop)(itv:Value)(s2:Shared):Prop :=
 ∃(it:Addr)(fp:List Addr)(tn:Nat→Heap→Prop)(J:It)(H':Hp),itv = .ref it∧Inv X pins σ H' s2∧zpT X.prog X.w X.K tg J fp it tn∧tn 0 s2.heap∧(∀ b∈fp,zeL X pins H' b)∧R J H'
def PI(X:Cx)(tg iter:Expr)(wi:TI):Prop :=
 ∀(pins:List (Addr × Obj))(s:Shared)(σ:St)(H:Hp)(R:It→Hp→Prop),Inv X pins σ H s→wi σ H R →
  wpAny (model X.prog X.w) X.A (eval iter X.env) (fun v s1=>wpAny (model X.prog X.w) X.A (pyIter v) (PIE X pins σ tg R) X.xe s1) X.xe s
theorem zr8{M:Model}{A:Around}{E:Value→Shared→Prop}{s:Shared}{tg:Expr}{it:Addr}{u:Value}{o:Obj}{n:String}{vs:Array Value}{Q:Unit→Shared→Prop}(ho:s.heap.get? it=some o)(hc:o.cls = .type n)(hd:o.data = .fields vs)
  (hn:["enumerate","zip","dict_itemiterator","dict_reverseitemiterator","odict_iterator","itertools.zip_longest","itertools.pairwise"].contains n=false) (hQ:Q () s):wpAny M A (letOwnedTupleGo tg (.ref it) u) Q E s:=by
 unfold letOwnedTupleGo
 cases tg <;> first
  | exact wpAny_pure hQ
  | (cases u <;> first
    | exact wpAny_pure hQ
    | (refine wpAny_bind (wpAny_load ho ?_)
       rw[hc,hd]
       show wpAny M A (if (["enumerate","zip","dict_itemiterator","dict_reverseitemiterator","odict_iterator","itertools.zip_longest","itertools.pairwise"].contains n && vs[0]? == some (rawInt _))=true then _ else _) Q E s
       rw[if_neg (by intro h;rw[hn,Bool.false_and] at h;cases h)]
       exact wpAny_pure hQ))
def Itl(K:W.Frag)(a:Addr):It :=
 ⟨fun i H=>∃ xs x,SqL K H a xs∧xs[i]? = some x,fun i H x H'=>H'=H∧∀ xs,SqL K H a xs→xs[i]? = some x,fun i H=>∃ xs,SqL K H a xs∧xs.length≤i⟩
def Itt(K:W.Frag)(a:Addr):It :=
 ⟨fun i H=>∃ xs x,SqT K H a xs∧xs[i]? = some x,fun i H x H'=>H'=H∧∀ xs,SqT K H a xs→xs[i]? = some x,fun i H=>∃ xs,SqT K H a xs∧xs.length≤i⟩
def Itr(lo:Int)(n:Nat):It:=⟨fun i _=>i < n,fun i H x H'=>H'=H∧x = .int (lo + i),fun i _=>n≤i⟩
theorem zoy{P:Program}{w:World}{K:W.Frag}{tg:Expr}(a it:Addr):zpT P w K tg (Itl K a) [it] it (fun i h=>h.IsListIter it a i) where
 mem:=by simp
 obj:=fun i h st b hb=>by
  have e:b=it:=by simpa using hb
  subst e
  obtain ⟨o,e,c,d⟩:=st
  exact ⟨o,e,fun v z=>by rw[d] at z;cases z⟩
 keep:=fun i h h' st k=>st.at fun o e=>k it (by simp) o e
 item:=by
  intro X hP hw hK hc i pins s σ H E I hf st hg
  subst hP hw hK
  obtain ⟨xs,x,hq,hx⟩:=hg
  obtain ⟨its,rv,p,hz⟩:=I.list hq
  obtain ⟨u,hu,ru⟩:=rv.get hx
  obtain ⟨f0,f1,f2,f3,f4,f5⟩:=hf it (by simp)
  refine wpAny_pyNext_list_item st p.isList (x:=u) (by simpa using hu) fun h' st' sb=>?_
  have I1:Inv X pins σ H { s with heap:=h' }:=I.turned (t':=s.toks) (fun b o hb e=>(sb.2 b hb).trans e) f0 f1 f3 f4 f5
  obtain ⟨o,e,c,d⟩:=id st'
  exact ⟨u,rfl,zr8 (s:={ s with heap:=h' }) e c d (by decide) ⟨x,H,I1,ru,⟨rfl,fun ys hy=>by rw[I.list_inj hy hq];exact hx⟩,st',fun b hb=>(hf b hb).1⟩⟩
 done:=by
  intro X hP hw hK hc i pins s σ H E I hf st hg
  subst hP hw hK
  obtain ⟨xs,hq,hx⟩:=hg
  obtain ⟨its,rv,p,hz⟩:=I.list hq
  obtain ⟨f0,f1,f2,f3,f4,f5⟩:=hf it (by simp)
  have hl:=rv.length
  exact wpAny_pyNext_list_end (I.ok.hd hc) st p.isList (by simp;omega) fun h' eb=>⟨rfl,I.turned (t':=s.toks) (fun b o hb e=>eb b o hb e) f0 f1 f3 f4 f5⟩
 self:=fun _ _ _ _ _ st h=>wpAny_pyIter_listiter st h
theorem zmL{P:Program}{w:World}{K:W.Frag}{tg:Expr}(a it:Addr):zpT P w K tg (Itt K a) [it] it (fun i h=>h.IsTupleIter it a i) where
 mem:=by simp
 obj:=fun i h st b hb=>by
  have e:b=it:=by simpa using hb
  subst e
  obtain ⟨o,e,c,d⟩:=st
  exact ⟨o,e,fun v z=>by rw[d] at z;cases z⟩
 keep:=fun i h h' st k=>st.at fun o e=>k it (by simp) o e
 item:=by
  intro X hP hw hK hc i pins s σ H E I hf st hg
  subst hP hw hK
  obtain ⟨xs,x,hq,hx⟩:=hg
  obtain ⟨its,rv,p,hz⟩:=I.tuple hq
  obtain ⟨u,hu,ru⟩:=rv.get hx
  obtain ⟨f0,f1,f2,f3,f4,f5⟩:=hf it (by simp)
  refine wpAny_pyNext_tuple_item st (show s.heap.IsTuple a its.toArray from p) (x:=u) (by simpa using hu) fun h' st' sb=>?_
  have I1:Inv X pins σ H { s with heap:=h' }:=I.turned (t':=s.toks) (fun b o hb e=>(sb.2 b hb).trans e) f0 f1 f3 f4 f5
  obtain ⟨o,e,c,d⟩:=id st'
  exact ⟨u,rfl,zr8 (s:={ s with heap:=h' }) e c d (by decide) ⟨x,H,I1,ru,⟨rfl,fun ys hy=>by rw[I.tuple_inj hy hq];exact hx⟩,st',fun b hb=>(hf b hb).1⟩⟩
 done:=by
  intro X hP hw hK hc i pins s σ H E I hf st hg
  subst hP hw hK
  obtain ⟨xs,hq,hx⟩:=hg
  obtain ⟨its,rv,p,hz⟩:=I.tuple hq
  obtain ⟨f0,f1,f2,f3,f4,f5⟩:=hf it (by simp)
  have hl:=rv.length
  exact wpAny_pyNext_tuple_end (I.ok.hd hc) st (show s.heap.IsTuple a its.toArray from p) (by simp;omega) fun h' eb=>⟨rfl,I.turned (t':=s.toks) (fun b o hb e=>eb b o hb e) f0 f1 f3 f4 f5⟩
 self:=fun _ _ _ _ _ st h=>wpAny_pyIter_tupleiter st h
theorem zmb{P:Program}{w:World}{K:PySem.W.Frag}{tg:Expr}(it:Addr)(lo:Int)(n:Nat):zpT P w K tg (Itr lo n) [it] it (fun i h=>IsRangeIter h it (lo + (i:Nat) * 1) ((n:Int) - (i:Nat)) 1) where
 mem:=by simp
 obj:=fun i h st b hb=>by
  have e:b=it:=by simpa using hb
  subst e
  exact ⟨_,st,fun v z=>by
   have z':Data.fields _=Data.cell v:=z
   cases z'⟩
 keep:=fun i h h' st k=>k it (by simp) _ st
 item:=by
  intro X hP hw hK hc i pins s σ H E I hf st hg
  subst hP hw hK
  obtain ⟨f0,f1,f2,f3,f4,f5⟩:=hf it (by simp)
  have W:=Walks.range (prog:=X.prog) (w:=X.w) (I.ok.hd hc) it lo 1 n
  refine W.item i s _ _ hg st fun v h' tk hv st' kk=>?_
  obtain ⟨t,rfl⟩:=hv
  have I1:Inv X pins σ H { s with heap:=h',toks:=tk }:=I.turned (fun b o hb e=>kk b o (by simpa using hb) e) f0 f1 f3 f4 f5
  refine ⟨_,rfl,zr8 (s:={ s with heap:=h',toks:=tk }) (n:="range_iterator") st' rfl rfl (by decide) ⟨.int (lo + i),H,I1,⟨t,?_⟩,⟨rfl,rfl⟩,st',fun b hb=>(hf b hb).1⟩⟩
  rw[Int.mul_one]
 done:=by
  intro X hP hw hK hc i pins s σ H E I hf st hg
  subst hP hw hK
  obtain ⟨f0,f1,f2,f3,f4,f5⟩:=hf it (by simp)
  exact wpAny_pyNext_range_end (I.ok.hd hc) st (by have:n≤i:=hg;omega) fun h' eb=>⟨rfl,I.turned (t':=s.toks) (fun b o hb e=>eb b o hb e) f0 f1 f3 f4 f5⟩
 self:=fun _ _ _ _ _ st h=>wpAny_pyIter_rangeiter st h
end L2
namespace L2
open PySem PySem.Spec PyProof.Rows
section
variable{X:Cx}{tg:Expr}
def ztJ(K:W.Frag)(tl:TE):TI:=fun σ H R=>tl σ H fun x H1=>∃ a,x = .ref a∧(∃ xs,SqL K H1 a xs)∧R (Itl K a) H1
def iTup(K:W.Frag)(tl:TE):TI:=fun σ H R=>tl σ H fun x H1=>∃ a,x = .ref a∧(∃ xs,SqT K H1 a xs)∧R (Itt K a) H1
theorem zkf{l:Expr}{tl:TE}(hl:PE X l tl):PI X tg l (ztJ X.K tl):=by
 intro pins s σ H R I h
 refine thn (hl pins s σ H _ I h) fun v s1 ⟨x,H1,I1,r1,q1⟩=>?_
 obtain ⟨a,e,⟨xs,hq⟩,q⟩:=q1
 subst e
 cases r1
 obtain ⟨its,rv,p,hz⟩:=I1.list hq
 refine wpAny_pyIter_list p.isList ?_
 refine ⟨s1.heap.objs.size,[s1.heap.objs.size],_,_,H1,rfl,I1.kept (t':=s1.toks) fun b o e=>Heap.get?_push_of_some _ e,zoy a _,⟨_,Heap.get?_push_size _ rfl,rfl,rfl⟩,fun b hb=>?_,q⟩
 have e:b=s1.heap.objs.size:=by simpa using hb
 subst e
 exact I1.fpOk (Nat.le_refl _) (I1.hok.fresh (Nat.le_refl _))
theorem zs7{l:Expr}{tl:TE}(hl:PE X l tl):PI X tg l (iTup X.K tl):=by
 intro pins s σ H R I h
 refine thn (hl pins s σ H _ I h) fun v s1 ⟨x,H1,I1,r1,q1⟩=>?_
 obtain ⟨a,e,⟨xs,hq⟩,q⟩:=q1
 subst e
 cases r1
 obtain ⟨its,rv,p,hz⟩:=I1.tuple hq
 refine wpAny_pyIter_tuple (show s1.heap.IsTuple a its.toArray from p) ?_
 refine ⟨s1.heap.objs.size,[s1.heap.objs.size],_,_,H1,rfl,I1.kept (t':=s1.toks) fun b o e=>Heap.get?_push_of_some _ e,zmL a _,⟨_,Heap.get?_push_size _ rfl,rfl,rfl⟩,fun b hb=>?_,q⟩
 have e:b=s1.heap.objs.size:=by simpa using hb
 subst e
 exact I1.fpOk (Nat.le_refl _) (I1.hok.fresh (Nat.le_refl _))
theorem zpN{pins:List (Addr × Obj)}{σ:St}{H:Hp}{s:Shared}{R:It→Hp→Prop}{E:Value→Shared→Prop}{lo hi:Int}{t u v:Tok}{tk:Nat}(I:Inv X pins σ H s)(h1:-(2 ^ 62)≤lo)(h2:lo < 2 ^ 62)(h3:-(2 ^ 62)≤hi)(h4:hi < 2 ^ 62)
  (q:R (Itr lo (hi - lo).toNat) H):wpAny (model X.prog X.w) X.A (pyIter (.ref s.heap.objs.size)) (PIE X pins σ tg R) E { s with heap:=s.heap.push { cls:=.type "range",data:=.fields #[.int lo t,.int hi u,.int 1 v] },toks:=tk }:=by
 refine wpAny_pyIter_range (IsRange.new ..) (small_one h1 h2 h3 h4) ?_
 have I1:Inv X pins σ H { s with heap:=s.heap.push { cls:=.type "range",data:=.fields #[.int lo t,.int hi u,.int 1 v] },toks:=tk }:=I.kept fun b o e=>Heap.get?_push_of_some _ e
 refine ⟨(s.heap.push { cls:=.type "range",data:=.fields #[.int lo t,.int hi u,.int 1 v] }).objs.size,[(s.heap.push { cls:=.type "range",data:=.fields #[.int lo t,.int hi u,.int 1 v] }).objs.size],_,_,H,rfl,
  I1.kept (t':=tk) fun b o e=>Heap.get?_push_of_some _ e,zmb _ lo (hi - lo).toNat,?_,fun b hb=>?_,q⟩
 ·have e1:lo + ((0:Nat):Int) * 1=lo:=by simp
  have e2:(((hi - lo).toNat:Nat):Int) - ((0:Nat):Int)=Builtin.Range.rangeSize lo hi 1:=by rw[rangeSize_one];split <;> omega
  show IsRangeIter _ _ (lo + ((0:Nat):Int) * 1) ((((hi - lo).toNat:Nat):Int) - ((0:Nat):Int)) 1
  rw[e1,e2]
  exact Heap.get?_push_size _ rfl
 ·have e:b=(s.heap.push { cls:=.type "range",data:=.fields #[.int lo t,.int hi u,.int 1 v] }).objs.size:=by simpa using hb
  subst e
  exact I1.fpOk (Nat.le_refl _) (I1.hok.fresh (Nat.le_refl _))
def ztV(ta:TA):TI:=fun σ H R=>ta σ H fun vs H1=>∃ j:Int,vs=[.int j]∧-(2 ^ 62)≤j∧j < 2 ^ 62∧R (Itr 0 j.toNat) H1
theorem zod{a:Expr}{ta:TA}{p pos:Pos}(hg:Gl X "range")(hm:X.mg "range"=none)(ha:PA X [a] ta)(hs:starEach [a] X.env=[(false,eval a X.env)]:=by rfl):PI X tg (.Call (.Name "range" p) [a] [] pos) (ztV ta):=by
 intro pins s σ H R I h
 refine Call_ (zf8 I hg hm boot_range (PyProof.Rows.callWith_type1 (thn (ha pos pins s σ H _ I h) fun us s1 ⟨vs,H1,I1,r1,q1⟩=>?_) hs rfl))
 obtain ⟨j,e,q1,q2,q⟩:=q1
 subst e
 cases r1 with
 | cons r rr =>
  cases rr
  obtain ⟨t,rfl⟩:=r
  exact call_range_1 (zpN I1 (by omega) (by omega) q1 q2 (by simpa using q))
def tFor(wi:TI)(g:TG)(tb:TS):TS:=fun D σ H=>wi σ H fun J H1=>∃ W:Nat→Nat→St→Hp→Prop,(∃ m,W 0 m σ H1)∧∀ i m σ H,W i m σ H →
 (J.stop i H∧D.nx σ H)∨(J.go i H∧∃ N:St→Hp→Prop,(∀ σ' H',N σ' H'→∃ m',m' < m∧W (i + 1) m' σ' H')∧∀ x H',J.yld i H x H'→g x σ H' fun σ2 H2=>tb { D with nx:=N,ct:=N,bk:=D.nx } σ2 H2)
def zdh(fp:List Addr)(h:Heap):List (Addr × Obj):=fp.filterMap fun b=>(h.get? b).map fun o=>(b,o)
theorem zcR{fp:List Addr}{h:Heap}{b:Addr}{o:Obj}(hb:b∈fp)(e:h.get? b=some o):(b,o)∈zdh fp h:=List.mem_filterMap.mpr ⟨b,hb,by rw[e];rfl⟩
theorem znO{fp:List Addr}{h:Heap}{p:Addr × Obj}(hp:p∈zdh fp h):p.1∈fp∧h.get? p.1=some p.2:=by
 obtain ⟨b,hb,e⟩:=List.mem_filterMap.mp hp
 cases q:h.get? b with
 | none=>rw[q] at e;cases e
 | some o =>
  rw[q] at e
  have e':(b,o)=p:=Option.some.inj e
  subst e'
  exact ⟨hb,q⟩
theorem Inv.pinned{pins:List (Addr × Obj)}{σ:St}{H:Hp}{s:Shared}{fp:List Addr}(I:Inv X pins σ H s)(hf:∀ b∈fp,zeL X pins H b)(ho:∀ b∈fp,∃ o,s.heap.get? b=some o∧∀ v,o.data≠.cell v):Inv X (pins ++ zdh fp s.heap) σ H s :=
 I.pins_of fun p hp=>(List.mem_append.mp hp).elim (fun z=>I.pin p (List.mem_append_right _ z)) fun z=>by
  obtain ⟨hb,e⟩:=znO z
  obtain ⟨f0,f1,f2,_⟩:=hf p.1 hb
  obtain ⟨o,e',d⟩:=ho p.1 hb
  rw[e] at e';cases e'
  exact ⟨e,f0,f1,f2,d⟩
theorem Inv.unpinned{pins pl:List (Addr × Obj)}{σ:St}{H:Hp}{s:Shared}(I:Inv X (pins ++ pl) σ H s):Inv X pins σ H s:=I.pins_of fun p hp=>I.pin p (List.mem_append_right _ (List.mem_append_left _ hp))
theorem zsZ{iter:Expr}{body:List Stmt}{wi:TI}{g:TG}{tb:TS}{pos:Pos}(hp:PassesOwn (model X.prog X.w) X.A X.env X.xe)(hc:X.calm=true)(hi:PI X tg iter wi)(hg:PG X tg g)(hb:PSs X body tb)
  (hs:∀ x,foldedSetIterable iter X.env x=pure x:=by intro _;rfl):PS X (.For tg iter body [] pos) (tFor wi g tb):=by
 intro pins s σ H D I h
 refine wpAny_For (thn (hi pins s σ H _ I h) fun v s1 h1=>thn h1 fun itv s2 h2=>?_) hs
 obtain ⟨it,fp,tn,J,H2,e,I2,T,st2,f2,W,⟨m0,w0⟩,turn⟩:=h2
 subst e
 have stat:∀{H':Hp},(∀ b∈fp,H' b=none)→∀ b∈fp,zeL X pins H' b:=fun hn b hb=>⟨hn b hb,(f2 b hb).2⟩
 refine codeAny_forLoop_any (fun n s'=>∃ i σ' H',Inv X pins σ' H' s'∧tn i s'.heap∧(∀ b∈fp,H' b=none)∧W i n σ' H') ?_ m0 ⟨0,σ,H2,I2,st2,fun b hb=>(f2 b hb).1,w0⟩
 rintro n s3 ⟨i,σ3,H3,I3,st3,fr3,w3⟩
 rcases turn i n σ3 H3 w3 with ⟨stop,qn⟩ | ⟨go,N,hN,step⟩
 ·refine wpAny_passesOwn hp (thn (T.done X rfl rfl rfl hc i pins s3 σ3 H3 X.xe I3 (stat fr3) st3 stop) fun r s4 ⟨hr,I4⟩=>?_)
  subst hr
  exact wpAny_execs_nil ⟨σ3,H3,I4,qn⟩
 ·refine wpAny_passesOwn hp (thn (T.item X rfl rfl rfl hc i pins s3 σ3 H3 X.xe I3 (stat fr3) st3 go) fun r s4 ⟨u,hr,h4⟩=>?_)
  subst hr
  refine wpAny_passesOwn hp (thn h4 fun _ s5 ⟨x,H5,I5,r5,y5,st5,fr5⟩=>?_)
  have I5':=I5.pinned (stat fr5) (T.obj _ _ st5)
  refine wpAny_passesOwn hp (thn (hg _ s5 σ3 H5 x u _ I5' r5 (step x H5 y5)) fun _ s6 ⟨σ6,H6,I6,q6⟩=>?_)
  refine wpAny_passesOwn hp (thn (hb _ s6 σ6 H6 _ I6 q6) fun f s7 q7=>?_)
  have again:∀{σ7:St}{H7:Hp},Inv X (pins ++ zdh fp s5.heap) σ7 H7 s7→N σ7 H7→∃ m,m < n∧∃ i σ' H',Inv X pins σ' H' s7∧tn i s7.heap∧(∀ b∈fp,H' b=none)∧W i m σ' H':=fun {σ7 H7} I7 n7=>by
   obtain ⟨m',hm,w7⟩:=hN σ7 H7 n7
   refine ⟨m',hm,i + 1,σ7,H7,I7.unpinned,T.keep _ _ _ st5 fun b hb o e=>(I7.pin (b,o) (List.mem_append_right _ (List.mem_append_right _ (zcR hb e)))).1,fun b hb=>?_,w7⟩
   obtain ⟨o,e,d⟩:=T.obj _ _ st5 b hb
   exact (I7.pin (b,o) (List.mem_append_right _ (List.mem_append_right _ (zcR hb e)))).2.1
  cases f with
  | next=>obtain ⟨σ7,H7,I7,n7⟩:=q7;exact again I7 n7
  | cont=>obtain ⟨σ7,H7,I7,n7⟩:=q7;exact again I7 n7
  | brk=>obtain ⟨σ7,H7,I7,q7⟩:=q7;exact ⟨σ7,H7,I7.unpinned,q7⟩
  | ret v=>obtain ⟨x7,σ7,H7,I7,r7,q7⟩:=q7;exact ⟨x7,σ7,H7,I7.unpinned,r7,q7⟩
end
end L2
namespace L2
open PySem PySem.Spec PyProof.Rows
abbrev R2:=V→V→Hp→VK→Prop
def OpR(X:Cx)(f:Value→Value→Sem Value)(r:R2):Prop :=
 ∀(pins:List (Addr × Obj))(s:Shared)(σ:St)(H:Hp)(x y:V)(v u:Value)(Q:VK),Inv X pins σ H s→zcD x v→zcD y u→r x y H Q →
  wpAny (model X.prog X.w) X.A (f v u) (EP X pins σ Q) X.xe s
def UnR(X:Cx)(f:Value→Sem Value)(r:V→Hp→VK→Prop):Prop :=
 ∀(pins:List (Addr × Obj))(s:Shared)(σ:St)(H:Hp)(x:V)(v:Value)(Q:VK),Inv X pins σ H s→zcD x v→r x H Q →
  wpAny (model X.prog X.w) X.A (f v) (EP X pins σ Q) X.xe s
def zcO(X:Cx)(f:Value)(r:List V→Hp→VK→Prop):Prop :=
 ∀(pins:List (Addr × Obj))(s:Shared)(σ:St)(H:Hp)(xs:List V)(us:List Value)(Q:VK),Inv X pins σ H s→zbk xs us→r xs H Q →
  wpAny (model X.prog X.w) X.A (call f us) (EP X pins σ Q) X.xe s
def tOp(r:R2)(ta tb:TE):TE:=fun σ H Q=>ta σ H fun x H1=>tb σ H1 fun y H2=>r x y H2 Q
def tUn(r:V→Hp→VK→Prop)(ta:TE):TE:=fun σ H Q=>ta σ H fun x H1=>r x H1 Q
def rI(C:Int→Int→Prop)(g:Int→Int→V):R2:=fun x y H Q=>∃ i j,x = .int i∧y = .int j∧C i j∧Q (g i j) H
def rI0(g:Int→Int→V):R2:=fun x y H Q=>∃ i j,x = .int i∧y = .int j∧Q (g i j) H
def rU(g:Int→V):V→Hp→VK→Prop:=fun x H Q=>∃ i,x = .int i∧Q (g i) H
section
variable{X:Cx}{a b c:Expr}{ta tb tc:TE}{pos:Pos}
theorem ztS(ha:PE X a ta)(hb:PE X b tb){pins:List (Addr × Obj)}{s:Shared}{σ:St}{H:Hp}{R:V→V→Hp→Prop}(I:Inv X pins σ H s)
  (h:ta σ H fun x H1=>tb σ H1 fun y H2=>R x y H2) {Q:Value→Shared→Prop} {f:Value→Value→Sem Value}
  (hf:∀ v u s2 x y H2,Inv X pins σ H2 s2→zcD x v→zcD y u→R x y H2→wpAny (model X.prog X.w) X.A (f v u) Q X.xe s2) :
  wpAny (model X.prog X.w) X.A (eval a X.env) (fun v s₁=>wpAny (model X.prog X.w) X.A (eval b X.env) (fun u s₂=>wpAny (model X.prog X.w) X.A (f v u) Q X.xe s₂) X.xe s₁) X.xe s:=by
 refine thn (ha pins s σ H _ I h) fun v s1 ⟨x,H1,I1,r1,q1⟩=>?_
 refine thn (hb pins s1 σ H1 _ I1 q1) fun u s2 ⟨y,H2,I2,r2,q2⟩=>?_
 exact hf v u s2 x y H2 I2 r1 r2 q2
theorem zrj{op:Operator}{r:R2}(ho:OpR X (binaryOp op) r)(ha:PE X a ta)(hb:PE X b tb):PE X (.BinOp a op b pos) (tOp r ta tb):=by
 intro pins s σ H Q I h
 exact wpAny_BinOp (ztS ha hb I h fun v u s2 x y H2 I2 rx ry q=>ho pins s2 σ H2 x y v u Q I2 rx ry q)
theorem zsl{op:UnaryOp}{r:V→Hp→VK→Prop}(ho:UnR X (unaryOp op) r)(ha:PE X a ta):PE X (.UnaryOp op a pos) (tUn r ta):=by
 intro pins s σ H Q I h
 exact UnaryOp_ (thn (ha pins s σ H _ I h) fun v s1 ⟨x,H1,I1,r1,q1⟩=>ho pins s1 σ H1 x v Q I1 r1 q1)
theorem opI{f:Value→Value→Sem Value}{C:Int→Int→Prop}{g:Int→Int→Int}
  (rule:∀(i j:Int)(t u:Tok)(s:Shared)(Q:Value→Shared→Prop)(E:Value→Shared→Prop),C i j→Q (.int (g i j) s.toks) { s with toks:=s.toks + 1 }→wpAny (model X.prog X.w) X.A (f (.int i t) (.int j u)) Q E s) :
  OpR X f (rI C fun i j=>.int (g i j)):=by
 intro pins s σ H x y v u Q I rx ry h
 obtain ⟨i,j,rfl,rfl,hc,q⟩:=h
 obtain ⟨t,rfl⟩:=rx
 obtain ⟨t',rfl⟩:=ry
 exact rule i j t t' s _ _ hc ⟨.int (g i j),H,I.tok _,⟨_,rfl⟩,q⟩
theorem opI0{f:Value→Value→Sem Value}{g:Int→Int→Int}
  (rule:∀(i j:Int)(t u:Tok)(s:Shared)(Q:Value→Shared→Prop)(E:Value→Shared→Prop),Q (.int (g i j) s.toks) { s with toks:=s.toks + 1 }→wpAny (model X.prog X.w) X.A (f (.int i t) (.int j u)) Q E s) :
  OpR X f (rI0 fun i j=>.int (g i j)):=by
 intro pins s σ H x y v u Q I rx ry h
 obtain ⟨i,j,rfl,rfl,q⟩:=h
 obtain ⟨t,rfl⟩:=rx
 obtain ⟨t',rfl⟩:=ry
 exact rule i j t t' s _ _ ⟨.int (g i j),H,I.tok _,⟨_,rfl⟩,q⟩
theorem zt6{f:Value→Value→Sem Value}{g:Int→Int→Bool}
  (rule:∀(i j:Int)(t u:Tok)(s:Shared)(Q:Value→Shared→Prop)(E:Value→Shared→Prop),Q (.bool (g i j)) s→wpAny (model X.prog X.w) X.A (f (.int i t) (.int j u)) Q E s) :
  OpR X f (rI0 fun i j=>.bl (g i j)):=by
 intro pins s σ H x y v u Q I rx ry h
 obtain ⟨i,j,rfl,rfl,q⟩:=h
 obtain ⟨t,rfl⟩:=rx
 obtain ⟨t',rfl⟩:=ry
 exact rule i j t t' s _ _ ⟨.bl (g i j),H,I,rfl,q⟩
def CDiv(i j:Int):Prop:=0 < j∧j < 1073741824
def CPow(i j:Int):Prop:=0≤j∧j≤1000000∧i.natAbs < 2 ^ 64
def zt7(i j:Int):Prop:=(-(2 ^ 64) < i∧i < 2 ^ 64)∨(-(2 ^ 64) < j∧j < 2 ^ 64)
theorem zt7.ok{i j:Int}(h:zt7 i j):IntMulOk i j:=by
 rcases h with ⟨h1,h2⟩ | ⟨h1,h2⟩
 ·exact .of_left (intBits_le_64 h1 h2)
 ·exact .of_right (intBits_le_64 h1 h2)
theorem zsn:OpR X (binaryOp .Add) (rI0 fun i j=>.int (i + j)):=opI0 fun _ _ _ _ _ _ _ q=>add_int q
theorem zsB:OpR X (binaryOp .Sub) (rI0 fun i j=>.int (i - j)):=opI0 fun _ _ _ _ _ _ _ q=>sub_int q
theorem ztk:OpR X (binaryOp .Mult) (rI zt7 fun i j=>.int (i * j)):=opI fun _ _ _ _ _ _ _ hc q=>mul_int q hc.ok
theorem zrH:OpR X (binaryOp .FloorDiv) (rI CDiv fun i j=>.int (i / j)):=opI fun i j _ _ _ _ _ hc q=>by
 have h1:(0:Int) < j:=hc.1
 have h2:j < 1073741824:=hc.2
 exact floordiv_int (by omega) (by rw[Int.fdiv_eq_ediv_of_nonneg i (by omega)];exact q) (.inl (PyProof.noPylong_small (by omega)))
theorem zs4:OpR X (binaryOp .Mod) (rI (fun _ j=>0 < j) fun i j=>.int (i % j)):=opI fun i j _ _ _ _ _ hc q=>by
 have h1:(0:Int) < j:=hc
 exact mod_int' (by omega) (by rw[Int.fmod_eq_emod_of_nonneg i (by omega)];exact q)
theorem zsK:OpR X (binaryOp .Pow) (rI CPow fun i j=>.int (i ^ j.toNat)):=opI fun _ _ _ _ _ _ _ hc q=>pow_int_small hc.1 hc.2.1 hc.2.2 q
theorem unI{f:Value→Sem Value}{g:Int→Int}
  (rule:∀(i:Int)(t:Tok)(s:Shared)(Q:Value→Shared→Prop)(E:Value→Shared→Prop),Q (.int (g i) s.toks) { s with toks:=s.toks + 1 }→wpAny (model X.prog X.w) X.A (f (.int i t)) Q E s) :
  UnR X f (rU fun i=>.int (g i)):=by
 intro pins s σ H x v Q I rx h
 obtain ⟨i,rfl,q⟩:=h
 obtain ⟨t,rfl⟩:=rx
 exact rule i t s _ _ ⟨.int (g i),H,I.tok _,⟨_,rfl⟩,q⟩
theorem zqe:UnR X (unaryOp .USub) (rU fun i=>.int (-i)):=unI fun _ _ _ _ _ q=>neg_int q
end
section
variable{X:Cx}{a b c:Expr}{ta tb tc:TE}{pos:Pos}
theorem zqW:OpR X (compareOp .Lt) (rI0 fun i j=>.bl (decide (i < j))):=zt6 fun _ _ _ _ _ _ _ q=>lt_int q
theorem ztW:OpR X (compareOp .LtE) (rI0 fun i j=>.bl (decide (i≤j))):=zt6 fun _ _ _ _ _ _ _ q=>le_int q
theorem ztd:OpR X (compareOp .Gt) (rI0 fun i j=>.bl (decide (j < i))):=zt6 fun _ _ _ _ _ _ _ q=>gt_int q
theorem ztH:OpR X (compareOp .GtE) (rI0 fun i j=>.bl (decide (j≤i))):=zt6 fun _ _ _ _ _ _ _ q=>ge_int q
theorem OpR.or{f:Value→Value→Sem Value}{r r':R2}(h:OpR X f r)(h':OpR X f r'):OpR X f (fun x y H Q=>r x y H Q∨r' x y H Q):=by
 intro pins s σ H x y v u Q I rx ry q
 rcases q with q | q
 ·exact h pins s σ H x y v u Q I rx ry q
 ·exact h' pins s σ H x y v u Q I rx ry q
theorem zeT(b:Expr){op:CmpOp}(h:op≠.In:=by decide)(h2:op≠.NotIn:=by decide):behindInMarks op b=false:=by
 have e1:(op == CmpOp.In)=false:=by cases op <;> first | rfl | exact absurd rfl h
 have e2:(op == CmpOp.NotIn)=false:=by cases op <;> first | rfl | exact absurd rfl h2
 cases b <;> simp[behindInMarks,e1,e2]
theorem zr9{op:CmpOp}{r:R2}(ho:OpR X (compareOp op) r)(ha:PE X a ta)(hb:PE X b tb)(hm:behindInMarks op b=false):PE X (.Compare a [op] [b] pos) (tOp r ta tb):=by
 intro pins s σ H Q I h
 exact wpAny_Compare1 (ztS ha hb I h fun v u s2 x y H2 I2 rx ry q=>ho pins s2 σ H2 x y v u Q I2 rx ry q) hm
def zuh(t:TE):TT:=fun σ H Q=>t σ H fun x H'=>∃ k,x = .bl k∧Q k H'
theorem zog{op:CmpOp}{r:R2}(ho:OpR X (compareOp op) r)(ha:PE X a ta)(hb:PE X b tb)(hm:behindInMarks op b=false):PT X (.Compare a [op] [b] pos) (zuh (tOp r ta tb)):=by
 intro pins s σ H Q I h
 refine wpAny_isTrue_Compare1 (thn (ha pins s σ H _ I h) fun v s1 ⟨x,H1,I1,r1,q1⟩=>thn (hb pins s1 σ H1 _ I1 q1) fun u s2 ⟨y,H2,I2,r2,q2⟩ =>
  thn (ho pins s2 σ H2 x y v u _ I2 r1 r2 q2) fun c s3 ⟨z,H3,I3,r3,k,e,q3⟩=>?_) hm
 subst e
 cases r3
 exact wpAny_truthy_bool ⟨H3,I3,q3⟩
def zpW(r r':R2)(ta tb tc:TE):TE:=fun σ H Q=>ta σ H fun x H1=>tb σ H1 fun y H2=>r x y H2 fun z H3=>∃ k,z = .bl k ∧
 (if k=true then tc σ H3 fun w' H4=>r' y w' H4 Q else Q (.bl false) H3)
theorem zpl{op op':CmpOp}{r r':R2}(ho:OpR X (compareOp op) r)(ho':OpR X (compareOp op') r')(ha:PE X a ta)(hb:PE X b tb)(hc:PE X c tc)
  (hm:lastMarks [op,op'] [b,c]=false:=by with_unfolding_all rfl):PE X (.Compare a [op,op'] [b,c] pos) (zpW r r' ta tb tc):=by
 intro pins s σ H Q I h
 refine Compare_chain (thn (ha pins s σ H _ I h) fun v s1 ⟨x,H1,I1,r1,q1⟩=>chain_link (thn (hb pins s1 σ H1 _ I1 q1) fun u s2 ⟨y,H2,I2,r2,q2⟩ =>
  thn (ho pins s2 σ H2 x y v u _ I2 r1 r2 q2) fun d s3 ⟨z,H3,I3,r3,k,e,q3⟩=>?_)) hm
 subst e
 cases r3
 refine wpAny_truthy_bool ?_
 cases k with
 | false=>exact ite_ff ⟨.bl false,H3,I3,rfl,q3⟩
 | true=>exact ite_tt (chain_last (thn (hc pins s3 σ H3 _ I3 q3) fun w' s4 ⟨z',H4,I4,r4,q4⟩=>ho' pins s4 σ H4 y z' u w' Q I4 r2 r4 q4))
theorem zjl:(sizeLine:Nat) < 2 ^ 63:=by rw[sizeLine_eq];decide
theorem zfO{x:V}{us:List Value}(r:zbk [x] us):∃ u,us=[u]∧zcD x u:=by
 cases r with
 | cons r1 r2=>cases r2;exact ⟨_,rfl,r1⟩
theorem zji{x y:V}{us:List Value}(r:zbk [x,y] us):∃ u w',us=[u,w']∧zcD x u∧zcD y w':=by
 cases r with
 | cons r1 r2 =>
  cases r2 with
  | cons r3 r4=>cases r4;exact ⟨_,_,rfl,r1,r3⟩
theorem znm(hc:X.calm=true):zcO X (.builtin "max") (fun xs H Q=>∃ i j,xs=[.int i,.int j]∧Q (.int (if j > i then j else i)) H):=by
 intro pins s σ H xs us Q I r h
 obtain ⟨i,j,rfl,q⟩:=h
 obtain ⟨u,w',rfl,⟨t,rfl⟩,⟨t',rfl⟩⟩:=zji r
 refine max_two_ints (I.ok.hd hc) fun h' tk k=>⟨_,H,I.kept k,?_,q⟩
 by_cases hj:j > i
 ·rw[if_pos hj,if_pos hj];exact ⟨_,rfl⟩
 ·rw[if_neg hj,if_neg hj];exact ⟨_,rfl⟩
theorem znj(hc:X.calm=true):zcO X (.builtin "min") (fun xs H Q=>∃ i j,xs=[.int i,.int j]∧Q (.int (if j < i then j else i)) H):=by
 intro pins s σ H xs us Q I r h
 obtain ⟨i,j,rfl,q⟩:=h
 obtain ⟨u,w',rfl,⟨t,rfl⟩,⟨t',rfl⟩⟩:=zji r
 refine min_two_ints (I.ok.hd hc) fun h' tk k=>⟨_,H,I.kept k,?_,q⟩
 by_cases hj:j < i
 ·rw[if_pos hj,if_pos hj];exact ⟨_,rfl⟩
 ·rw[if_neg hj,if_neg hj];exact ⟨_,rfl⟩
end
end L2
namespace L2
open PySem PySem.Spec PyProof.Rows
structure ObjM(h:Heap)(x dx C:Addr)(mA:Str→Option Value):Prop where
 obj:h.get? x=some (W.instObj C dx)
 ns:h.Ns1 dx mA
 ne:dx≠x
section
variable{prog:Program}{w:World}{A:Around}{E:Value→Shared→Prop}{s:Shared}{K:W.Frag}{x dx C f:Addr}{mA:Str→Option Value}{name:Str}{v:Value}
end
section
variable{P:Program}{w:World}{H H':Hp}{h h':Heap}{a C dx:Addr}{fs fs':List (Str × V)}
end
structure Cls(K:W.Frag)(C:Addr):Prop where
 pg:W.plainGet K C Str.empty=true
 hd:W.hasDictIn K C=true
 po:W.plainOver K C=true
 sa:W.findIn K (.ref C) "__setattr__"=some (some (.builtin "object.__setattr__"))
theorem Cls.get{K:W.Frag}{C:Addr}(c:Cls K C)(f:Str):W.plainGet K C f=true:=c.pg
structure Con(K:W.Frag)(C:Addr)(f:Str)(v:V)(u:Value):Prop where
 at_:W.findIn K (.ref C) f=some (some u)
 rel:zcD v u
 get:W.specialIn K u "__get__"=some none
 cp:W.copiedNames.contains f=false
structure Meth(K:W.Frag)(C:Addr)(m:Str)(f:Addr):Prop where
 at_:W.findIn K (.ref C) m=some (some (.ref f))
 fn:W.isFn K (.ref f)=true
 kp:W.keepIn K (.ref f)=true
section
variable{X:Cx}{pins:List (Addr × Obj)}{σ:St}{H:Hp}{s:Shared}{a C dx:Addr}{fs:List (Str × V)}{f:Str}{v:V}{A:Around}{E:Value→Shared→Prop}
end
section
variable{X:Cx}{o e value:Expr}{f:Str}{pos pos' tpos:Pos}{ta tv:TE}
end
section
variable{X:Cx}{pins:List (Addr × Obj)}{σ:St}{H:Hp}{s:Shared}{A:Around}{E:Value→Shared→Prop}{Q:Value→Shared→Prop}{c:Value}{b:Bool}
inductive zny(K:W.Frag)(H:Hp):V→Value→Prop where
 | non:zny K H .non (.type "NoneType")
 | bl (x:Bool):zny K H (.bl x) (.type "bool")
 | int (i:Int):zny K H (.int i) (.type "int")
 | str (x:Str):zny K H (.str x) (.type "str")
 | flt (x:UInt64):zny K H (.flt x) (.type "float")
 | lst {a:Addr} {xs:List V} (e:H a=some (.lst xs)):zny K H (.ref a) (.type "list")
 | frz {a:Addr} {o:Obj} {xs:List V} (e:H a=some (.frz o (.lst xs))):zny K H (.ref a) (.type "list")
 | tup {a:Addr} {xs:List V} (e:H a=some (.tup xs)):zny K H (.ref a) (.type "tuple")
 | dK {a:Addr} {kvs:List (Key × V)} (e:H a=some (.dK kvs)):zny K H (.ref a) (.type "dict")
 | dT {a:Addr} {kvs:List (List Key × V)} (e:H a=some (.dT kvs)):zny K H (.ref a) (.type "dict")
 | ins {a C dx:Addr} {fs:List (Str × V)} (e:H a=some (.ins C dx fs)) (cl:Cls K C) (ha:W.findIn K (.ref C) "__class__"=some (some (.builtin "object.__class__")))
   (hn:W.specialIn K (.builtin "object.__class__") "__get__"=some (some (.builtin "getset_descriptor.__get__"))) (htk:W.takesIn K (.builtin "object.__class__")=some true)
   (hm:W.mroIn K C (.type "object")=some true):zny K H (.ref a) (.ref C)
end
end L2
namespace L2
open PySem PySem.Spec PyProof.Rows
structure zdf(k:Nat)(A:Around):Prop where
 hd:A.handled=none
 dp:A.depth + 3 * k + 5 < recursionLimit
 un:A.units + 16 * k + 200 < cLine
theorem zdf.mono{j k:Nat}{A:Around}(r:zdf k A)(h:j≤k):zdf j A:=⟨r.hd,by have:=r.dp;omega,by have:=r.un;omega⟩
theorem zdf.deeper{k:Nat}{A:Around}(r:zdf (k + 1) A)(env:Env):zdf k (A.deeper env) :=
 ⟨r.hd,by have:=r.dp;show A.depth + 1 + 3 * k + 5 < _;omega,by have:=r.un;show A.units + 3 + 16 * k + 200 < _;omega⟩
theorem zdf.in1{k:Nat}{A:Around}(r:zdf (k + 1) A):zdf k A.in1 :=
 ⟨r.hd,by have:=r.dp;show A.depth + 3 * k + 5 < _;omega,by have:=r.un;show A.units + 1 + 16 * k + 200 < _;omega⟩
theorem zdf.depth{k:Nat}{A:Around}(r:zdf k A):A.depth < recursionLimit:=by have:=r.dp;omega
theorem zdf.units{k:Nat}{A:Around}(r:zdf k A):A.units + 64 < cLine:=by have:=r.un;omega
def tNil:TA:=fun _ H Q=>Q [] H
def zq8(ta:TE)(tr:TA):TA:=fun σ H Q=>ta σ H fun x H1=>tr σ H1 fun xs H2=>Q (x :: xs) H2
section
variable{X:Cx}{e:Expr}{es:List Expr}{te:TE}{t:TA}{pos:Pos}
theorem zc4:PA X [] tNil:=fun _ _ _ _ H Q I h=>Calls.spliced_nil ⟨[],H,I,.nil,h⟩
theorem zbe(ha:PE X e te)(hr:PA X es t)(hs:starEach (e :: es) X.env=(false,eval e X.env) :: starEach es X.env:=by rfl):PA X (e :: es) (zq8 te t):=by
 intro pos pins s σ H Q I h
 rw[hs]
 show wpAny _ _ (spliced ((false,eval e X.env) :: backTo pos (starEach es X.env))) _ _ s
 refine Calls.spliced_cons (thn (ha pins s σ H _ I h) fun u s1 ⟨x,H1,I1,r1,q1⟩=>?_)
 exact thn (hr pos pins s1 σ H1 _ I1 q1) fun us s2 ⟨xs,H2,I2,r2,q2⟩=>⟨x :: xs,H2,I2,.cons r1 r2,q2⟩
def tTup(t:TA):TE:=fun σ H Q=>t σ H fun xs H1=>xs.length≤sizeLine∧∀ p,H1 p=none→Q (.ref p) (upd H1 p (.tup xs))
def tLst(t:TA):TE:=fun σ H Q=>t σ H fun xs H1=>xs.length≤sizeLine∧∀ p,H1 p=none→Q (.ref p) (upd H1 p (.lst xs))
theorem zqz{x1}(h:PA X es t):PE X (.Tuple es x1 pos) (tTup t):=by
 intro pins s σ H Q I hq
 refine wpAny_Tuple_spliced (thn (h pos pins s σ H _ I hq) fun us s1 ⟨xs,H1,I1,r,z,q⟩=>⟨by rw[← r.length];exact z,?_⟩)
 have hf:H1 s1.heap.objs.size=none:=I1.hok.fresh (Nat.le_refl _)
 refine ⟨.ref s1.heap.objs.size,upd H1 s1.heap.objs.size (.tup xs),I1.laid (t':=s1.toks) (fun b u e=>Heap.get?_push_of_some _ e) (Nat.le_refl _) ?_,rfl,q _ hf⟩
 exact ⟨z,us,r,⟨_,Heap.get?_push_size _ rfl⟩⟩
theorem zqg(h:PA X es t):PE X (.List es pos) (tLst t):=by
 intro pins s σ H Q I hq
 refine wpAny_List_spliced (thn (h pos pins s σ H _ I hq) fun us s1 ⟨xs,H1,I1,r,z,q⟩=>⟨by rw[← r.length];exact z,?_⟩)
 have hf:H1 s1.heap.objs.size=none:=I1.hok.fresh (Nat.le_refl _)
 refine ⟨.ref s1.heap.objs.size,upd H1 s1.heap.objs.size (.lst xs),I1.laid (t':=s1.toks) (fun b u e=>Heap.get?_push_of_some _ e) (Nat.le_refl _) ?_,rfl,q _ hf⟩
 exact ⟨z,us,0,r,Heap.get?_push_size _ rfl⟩
end
abbrev Sp:=List V→Hp→VK→XK→Prop
abbrev CXT:=List Env→Hp→Shared→XK→Value→Shared→Prop
structure zp8(P:Program)(w:World)(K:W.Frag)(mg:Str→Option Value)(base:Heap)(A:Around)(outer:List Env)(s:Shared)(H:Hp):Prop where
 frames:A.frames=some outer
 mod:Mod K mg base
 bs:∀ b o,base.get? b=some o→s.heap.get? b=some o∧H b=none
 bsz:base.objs.size≤s.heap.objs.size
 funs:s.heap.FunFrames base outer
 frf:∀ b∈frs outer,H b=none
 hok:HOk P w H s.heap
 bare:AllBare s.gens
def CE(outer:List Env)(P:Program)(w:World)(H:Hp)(s:Shared)(Q:VK)(u:Value)(s':Shared):Prop :=
 ∃ v H',s'.os=s.os∧AllBare s'.gens∧Un (frs outer) [] H H' s.heap s'.heap∧HOk P w H' s'.heap∧zcD v u∧Q v H'
def CR(CX:CXT)(outer:List Env)(P:Program)(w:World)(H:Hp)(s:Shared)(Q:VK)(E:XK)(r:Result)(s':Shared):Prop :=
 match r with
 | .ok (.ret u)=>CE outer P w H s Q u s'
 | .ok _=>False
 | .error e=>CX outer H s E e s'
structure zfl(P:Program)(w:World)(K:W.Frag)(mg:Str→Option Value)(base:Heap)(CX:CXT)(k:Nat)(f:Addr)(fd:FuncData)(ps:List Str)(sp:Sp):Prop where
 len:∀ vs H Q E,sp vs H Q E→vs.length=ps.length
 run:∀(A:Around)(outer:List Env)(s:Shared)(H:Hp)(args:Args)(us:List Value)(vs:List V)(Q:VK)(E:XK),zdf k A→zp8 P w K mg base A outer s H→BindsTo s fd args (ps.zip us)→zbk vs us→sp vs H Q E →
  codeAny (model P w) A (.call (.ref f) args) (CR CX outer P w H s Q E) s
theorem zfl.mono{P:Program}{w:World}{K:W.Frag}{mg:Str→Option Value}{base:Heap}{CX:CXT}{j k:Nat}{f:Addr}{fd:FuncData}{ps:List Str}{sp:Sp}(F:zfl P w K mg base CX j f fd ps sp)(h:j≤k) :
  zfl P w K mg base CX k f fd ps sp:=⟨F.len,fun A outer s H args us vs Q E hr=>F.run A outer s H args us vs Q E (hr.mono h)⟩
theorem zfl.imp{P:Program}{w:World}{K:W.Frag}{mg:Str→Option Value}{base:Heap}{CX:CXT}{k:Nat}{f:Addr}{fd:FuncData}{ps:List Str}{sp sp':Sp}(F:zfl P w K mg base CX k f fd ps sp)
  (h:∀ vs H Q E,sp' vs H Q E→sp vs H Q E):zfl P w K mg base CX k f fd ps sp' :=
 ⟨fun vs H Q E q=>F.len vs H Q E (h _ _ _ _ q),fun A outer s H args us vs Q E hr he hb hv hs=>F.run A outer s H args us vs Q E hr he hb hv (h _ _ _ _ hs)⟩
theorem zp8.in1{P:Program}{w:World}{K:W.Frag}{mg:Str→Option Value}{base:Heap}{A:Around}{outer:List Env}{s:Shared}{H:Hp}(e:zp8 P w K mg base A outer s H) :
  zp8 P w K mg base A.in1 outer s H:=⟨e.frames,e.mod,e.bs,e.bsz,e.funs,e.frf,e.hok,e.bare⟩
section
variable{X:Cx}{pins:List (Addr × Obj)}{σ:St}{H:Hp}{s s':Shared}
theorem Inv.env0(I:Inv X pins σ H s):zp8 X.prog X.w X.K X.mg X.base X.A X.stack s H :=
 ⟨I.ok.frames,I.ok.mod,I.bs,Nat.le_trans I.ok.bsz I.sz,I.stack,I.stkFree,I.hok,I.bare⟩
theorem Inv.after{Q:VK}{u:Value}(I:Inv X pins σ H s)(h:CE X.stack X.prog X.w H s Q u s'):EP X pins σ Q u s':=by
 obtain ⟨v,H',os,bare,un,hok,r,q⟩:=h
 obtain ⟨hh,g,d,t,os'⟩:=s'
 obtain rfl:os'=s.os:=os
 exact ⟨v,H',I.call (h':=hh) (g':=g) (d':=d) (t':=t) (ch:=[]) un hok bare (fun b z=>absurd z (by simp)),r,q⟩
end
def zpm(sp:Sp)(dvs:List V)(E:XK)(t:TA):TE:=fun σ H Q=>t σ H fun vs H1=>sp (vs ++ dvs) H1 Q E
def zfA(K:W.Frag)(fd:FuncData)(ps:List Str)(ds:List Value):Prop :=
 ∀(s:Shared)(us:List Value),K.In s.heap→(us ++ ds).length=ps.length→BindsTo s fd ⟨us,[]⟩ (ps.zip (us ++ ds))
theorem zfA.all{K:W.Frag}{fd:FuncData}{ps:List Str}(h:∀ us:List Value,us.length=ps.length→bindArgs fd ⟨us,[]⟩=pure (ps.zip us)):zfA K fd ps []:=fun s us _ hl=>by
 rw[List.append_nil] at hl ⊢
 exact .of_eq (h us hl)
def zcm(CX:CXT)(X:Cx)(E:XK):Prop:=∀(pins:List (Addr × Obj))(σ:St)(H:Hp)(s:Shared)(e:Value)(s':Shared),Inv X pins σ H s→CX X.stack H s E e s'→X.xe e s'
section
variable{X:Cx}{CX:CXT}{k:Nat}{f C:Addr}{fd:FuncData}{ps:List Str}{sp:Sp}{dvs:List V}{ds:List Value}{E:XK}{x m:Str}{p pos apos:Pos}{e o:Expr}{es:List Expr}{ta:TE}{t:TA}
theorem zqr{pins:List (Addr × Obj)}{σ:St}{H:Hp}{s:Shared}{Q:VK}{us:List Value}{vs:List V}(F:zfl X.prog X.w X.K X.mg X.base CX k f fd ps sp)(hr:zdf k X.A)(hb:zfA X.K fd ps ds)(hd:zbk dvs ds)(hx:zcm CX X E)
  (I:Inv X pins σ H s) (r:zbk vs us) (h:sp (vs ++ dvs) H Q E):wpAny (model X.prog X.w) X.A (call (.ref f) us) (EP X pins σ Q) X.xe s:=by
 have r2:zbk (vs ++ dvs) (us ++ ds):=r.append hd
 have hl:(us ++ ds).length=ps.length:=by rw[← r2.length];exact F.len _ _ _ _ h
 refine wpAny_call (codeAny_mono (F.run X.A X.stack s H ⟨us,[]⟩ (us ++ ds) (vs ++ dvs) Q E hr I.env0 (hb s us I.kIn hl) r2 h) fun r s' hq=>?_)
 cases r with
 | error e=>exact hx pins σ H s e s' I hq
 | ok fl =>
  cases fl with
  | ret u=>exact I.after hq
  | next=>exact False.elim hq
  | brk=>exact False.elim hq
  | cont=>exact False.elim hq
theorem zi7(F:zfl X.prog X.w X.K X.mg X.base CX k f fd ps sp)(hr:zdf k X.A)(hg:Gl X x)(hm:X.mg x=some (.ref f))(hk:W.keepIn X.K (.ref f)=true)(hb:zfA X.K fd ps ds)(hd:zbk dvs ds)(hx:zcm CX X E)
  (ha:PA X (e :: es) t) (hdb:(x == ("__debug__" : Str))=false:=by decide) (he:starEach (e :: es) X.env=(false,eval e X.env) :: starEach es X.env:=by rfl) (hpl:(backTo pos (starEach es X.env)).any (·.1)=false:=by rfl) :
  PE X (.Call (.Name x p) (e :: es) [] pos) (zpm sp dvs E t):=by
 intro pins s σ H Q I h
 refine wpAny_Call_Name_kw (zfL I hg hm ?_ hdb)
 refine W.callWith_K (h₀:=X.base) I.ok.mod.kin hk (thn (ha pos pins s σ H _ I h) fun us s1 ⟨vs,H1,I1,r,q⟩=>⟨I1.kIn,?_⟩) he hpl
 exact zqr F hr hb hd hx I1 r q
structure Mk(K:W.Frag)(C f:Addr):Prop where
 makes:W.makesIn K C=true
 init:W.findIn K (.ref C) "__init__"=some (some (.ref f))
 fn:W.isFn K (.ref f)=true
 kp:W.keepIn K (.ref C)=true
end
def PK(X:Cx)(kws:List Keyword)(t:TA):Prop :=
 ∀(pos:Pos)(pins:List (Addr × Obj))(s:Shared)(σ:St)(H:Hp)(Q:List V→Hp→Prop),Inv X pins σ H s→t σ H Q→wpAny (model X.prog X.w) X.A (evalAll ((backToKw pos (keywordEach kws X.env)).map (·.2))) (AP X pins σ Q) X.xe s
section
variable{X:Cx}{CX:CXT}{k:Nat}{f C:Addr}{fd:FuncData}{ps ks:List Str}{sp:Sp}{E:XK}{x m:Str}{p pos apos kpos:Pos}{e o:Expr}{es:List Expr}{kws:List Keyword}{te ta:TE}{t tk:TA}{nm:Option Str}
theorem zrQ:PK X [] tNil:=fun _ _ _ _ H Q I h=>wpAny_evalAll_nil ⟨[],H,I,.nil,h⟩
theorem zrB(ha:PE X e te)(hr:PK X kws t):PK X (⟨nm,e,kpos⟩ :: kws) (zq8 te t):=by
 intro pos pins s σ H Q I h
 show wpAny _ _ (evalAll ((do let v ← eval e X.env;standAt pos;pure v) :: (backToKw pos (keywordEach kws X.env)).map (·.2))) _ _ s
 refine wpAny_evalAll_cons (wpAny_bind (thn (ha pins s σ H _ I h) fun u s1 ⟨x,H1,I1,r1,q1⟩=>wpAny_bind (wpAny_standAt (wpAny_pure ?_))))
 exact thn (hr pos pins s1 σ H1 _ I1 q1) fun us s2 ⟨xs,H2,I2,r2,q2⟩=>⟨x :: xs,H2,I2,.cons r1 r2,q2⟩
structure KBinds(K:W.Frag)(fd:FuncData)(ps ks:List Str)(g:List Value→List Value→List Value)(gV:List V→List V→List V):Prop where
 to:∀(s:Shared)(us ws:List Value),K.In s.heap→(g us ws).length=ps.length→BindsTo s fd ⟨us,ks.zip ws⟩ (ps.zip (g us ws))
 rel:∀{vs:List V}{us:List Value}{zs:List V}{ws:List Value},zbk vs us→zbk zs ws→zbk (gV vs zs) (g us ws)
variable{g:List Value→List Value→List Value}{gV:List V→List V→List V}
end
structure za1(N P:List Str)(sc:Scope):Prop where
 kind:sc.kind = .function
 co:sc.isCoroutine=false
 gen:sc.isGenerator=false
 nd:N.Nodup
 pre:N.take P.length=P
 par:∀ x∈P,sc.names.lookup x=some .local∨sc.names.lookup x=some .cell
 nofree:∀ y∈sc.names,y.2≠.free
theorem zjx{kindOf:Str→Option NameKind}{x:Str}:∀{binds:List (Str × Value)}{m:Str→Option Value},(∀ v,(x,v)∉binds)→bindL kindOf binds m x=m x
 | [],_,_=>rfl
 | (n,v) :: r,m,h=>by
  unfold bindL
  rw[zjx fun w hw=>h w (List.mem_cons_of_mem _ hw)]
  split
  ·have:x≠n:=by rintro rfl;exact h v List.mem_cons_self
   simp[this]
  ·rfl
theorem zj9{kindOf:Str→Option NameKind}{x:Str}:∀{binds:List (Str × Value)}{m:Str→Option Value},(∀ v,(x,v)∉binds)→bindC kindOf binds m x=m x
 | [],_,_=>rfl
 | (n,v) :: r,m,h=>by
  unfold bindC
  rw[zj9 fun w hw=>h w (List.mem_cons_of_mem _ hw)]
  split
  ·rfl
  ·have:x≠n:=by rintro rfl;exact h v List.mem_cons_self
   simp[this]
theorem zjj{kindOf:Str→Option NameKind}{x:Str}{v:Value}:∀{P:List Str}{vs:List Value}{i:Nat}{m:Str→Option Value},P.Nodup→P[i]? = some x→vs[i]? = some v→kindOf x=some .local →
  bindL kindOf (P.zip vs) m x=some v
 | [],_,_,_,_,h,_,_=>by simp at h
 | _ :: _,[],_,_,_,_,h,_=>by simp at h
 | p :: P,w :: vs,0,m,nd,h1,h2,hk=>by
  simp at h1 h2;subst h1;subst h2
  show bindL kindOf ((p,w) :: P.zip vs) m p=_
  unfold bindL
  rw[zjx fun v hv=>(List.nodup_cons.mp nd).1 (List.of_mem_zip hv).1,if_pos hk]
  simp
 | p :: P,w :: vs,i + 1,m,nd,h1,h2,hk=>by
  show bindL kindOf ((p,w) :: P.zip vs) m x=_
  unfold bindL
  exact zjj (i:=i) (List.nodup_cons.mp nd).2 (by simpa using h1) (by simpa using h2) hk
theorem zjy{kindOf:Str→Option NameKind}{x:Str}{v:Value}:∀{P:List Str}{vs:List Value}{i:Nat}{m:Str→Option Value},P.Nodup→P[i]? = some x→vs[i]? = some v→kindOf x≠some .local →
  bindC kindOf (P.zip vs) m x=some v
 | [],_,_,_,_,h,_,_=>by simp at h
 | _ :: _,[],_,_,_,_,h,_=>by simp at h
 | p :: P,w :: vs,0,m,nd,h1,h2,hk=>by
  simp at h1 h2;subst h1;subst h2
  show bindC kindOf ((p,w) :: P.zip vs) m p=_
  unfold bindC
  rw[zj9 fun v hv=>(List.nodup_cons.mp nd).1 (List.of_mem_zip hv).1,if_neg hk]
  simp
 | p :: P,w :: vs,i + 1,m,nd,h1,h2,hk=>by
  show bindC kindOf ((p,w) :: P.zip vs) m x=_
  unfold bindC
  exact zjy (i:=i) (List.nodup_cons.mp nd).2 (by simpa using h1) (by simpa using h2) hk
def start(N:List Str)(vs:List V):St:=vs.map some ++ List.replicate (N.length - vs.length) none
def zhs(CX:CXT)(P:Program)(w:World)(K:W.Frag)(mg:Str→Option Value)(base:Heap)(N:List Str)(qual:Str)(scope:Scope)(f:Addr)(cd:Value)(A:Around)(outer:List Env)(s:Shared)(H:Hp)(E:XK):Cx where
 prog:=P
 w:=w
 K:=K
 mg:=mg
 base:=base
 A:=A.deeper (envOfC qual scope s.heap.objs.size f cd)
 N:=N
 s₀:=s
 H₀:=H
 env:=envOfC qual scope s.heap.objs.size f cd
 outer:=outer
 stack:=envOfC qual scope s.heap.objs.size f cd :: outer
 ex:=[]
 calm:=true
 fn:=fun _=>true
 pn:=[]
 xe:=fun e s'=>wpAny (model P w) (A.deeper (envOfC qual scope s.heap.objs.size f cd)) (leaving (envOfC qual scope s.heap.objs.size f cd) e) (fun _ s''=>CX outer H s E e s'') (fun e' s''=>CX outer H s E e' s'') s'
theorem zlH{sc:Scope}{n:Nat}{x:Str}(h:sc.names.lookup x=some .cell):∃ c,(cellsFrom n sc.names []).lookup x=some c:=by
 have q:=W.cellsFrom_some sc.names n [] (.inl h)
 exact Option.isSome_iff_exists.mp q
theorem zjh{CX:CXT}{P:Program}{w:World}{K:W.Frag}{mg:Str→Option Value}{base:Heap}{N ps:List Str}{qual:Str}{scope:Scope}{f:Addr}{cd:Value}{A:Around}{outer:List Env}{s s1:Shared}{H:Hp}{E:XK}{us:List Value}{vs:List V}
  (S:za1 N ps scope) (hd:A.handled=none) (e0:zp8 P w K mg base A outer s H) (hl:vs.length=ps.length) (r:zbk vs us)
  (x:InCallC s s.heap.objs.size (bindL (envOfC qual scope s.heap.objs.size f cd).kindOf (ps.zip us) fun _=>none) (cellsFrom (s.heap.objs.size + 1) scope.names []) (bindC (envOfC qual scope s.heap.objs.size f cd).kindOf (ps.zip us) fun _=>none) s1) :
  Inv (zhs CX P w K mg base N qual scope f cd A outer s H E) [] (start N vs) H s1:=by
 have hpl:ps.length≤N.length:=by have:=congrArg List.length S.pre;rw[List.length_take] at this;omega
 obtain ⟨h1,tk,rfl,hk⟩:=x.done
 have noA:∀ b:Addr,b∉(zhs CX P w K mg base N qual scope f cd A outer s H E).ex:=fun b z=>absurd (show b∈([]:List Addr) from z) (by simp)
 refine ⟨⟨e0.mod,S.kind,rfl,rfl,Nat.le_refl _,fun y z c h1 h2=>?_,fun y hy=>?_,fun y c _ h=>?_,fun _=>hd,Around.frames_deeper e0.frames,.inr ⟨rfl,rfl⟩,fun b z=>absurd z (noA b),e0.bs,e0.bsz,fun b _ _=>noA b,fun b z=>absurd z (noA b),e0.funs,e0.frf⟩,
  rfl,e0.bare,Un.kept hk,⟨_,x.toInCall.ns,fun i y v h1 h2 h3=>?_⟩,fun y c h=>⟨_,x.cell y c h⟩,e0.hok.fresh (Nat.le_refl _),fun y c h=>?_,fun p hp=>absurd (show p∈([]:List (Addr × Obj)) from hp) (by simp),e0.hok.kept hk,?_⟩
 ·exact name_of_addr x.apart (PySem.mem_of_lookup h1) (PySem.mem_of_lookup h2)
 ·have hy:scope.names.lookup y=some .cell∨scope.names.lookup y=some .free:=hy
  rcases hy with hy | hy
  ·exact zlH hy
  ·exact absurd rfl (S.nofree _ (PySem.mem_of_lookup hy))
 ·exact Nat.le_of_lt (x.above y c (PySem.mem_of_lookup h))
 ·have hi:i < vs.length:=by
   unfold start at h2
   by_cases hi:i < vs.length
   ·exact hi
   ·rw[List.getElem?_append_right (by simpa using hi)] at h2
    rw[List.getElem?_replicate] at h2
    split at h2 <;> cases h2
  have ha:vs[i]? = some v:=by
   unfold start at h2
   rw[List.getElem?_append_left (by simpa using hi),List.getElem?_map] at h2
   cases e:vs[i]? with
   | none=>rw[e] at h2;cases h2
   | some a=>rw[e] at h2;cases h2;rfl
  obtain ⟨u,hu,rv⟩:=r.get ha
  have hp:ps[i]? = some y:=by
   rw[← S.pre,List.getElem?_take_of_lt (by omega)];exact h1
  have ndP:ps.Nodup:=by rw[← S.pre];exact S.nd.sublist (List.take_sublist _ _)
  refine ⟨u,rv,?_⟩
  rcases S.par y (List.mem_of_getElem? hp) with k | k
  ·exact .inl ⟨k,zjj ndP hp hu k⟩
  ·obtain ⟨c,e⟩:=zlH (n:=s.heap.objs.size + 1) k
   refine .inr ⟨.inl k,c,e,?_⟩
   have q:=x.cell y c e
   rw[zjy ndP hp hu (by show scope.names.lookup y≠_;rw[k];decide)] at q
   exact q
 ·exact e0.hok.fresh (Nat.le_of_lt (x.above y c (PySem.mem_of_lookup h)))
 ·unfold start
  show _=N.length
  rw[List.length_append,List.length_map,List.length_replicate]
  omega
theorem zoQ{CX:CXT}{P:Program}{w:World}{K:W.Frag}{mg:Str→Option Value}{base:Heap}{k:Nat}{f:Addr}{name qual:Str}{params:Arguments}{body:List Stmt}{scope:Scope}{dV kV doc pm cdv ct oc:Value}{an od:Option Addr}
  {osl:Array (Option Value)} {N ps:List Str} {sp:Sp} (lk:K.lookup f=some ⟨oc,od,.func (W.fnOf name qual params body scope dV kV doc pm an cdv ct),osl⟩) (hcd:W.codeIn K cdv qual=true) (S:za1 N ps scope)
  (len:∀ vs H Q E,sp vs H Q E→vs.length=ps.length)
  (hbody:∀(A:Around)(outer:List Env)(s:Shared)(H:Hp)(vs:List V)(Q:VK)(E:XK),zdf k (A.deeper (envOfC qual scope s.heap.objs.size f cdv))→sp vs H Q E →
   ∃ t,PSs (zhs CX P w K mg base N qual scope f cdv A outer s H E) body t∧t { nx:=fun _ H'=>Q .non H',rt:=Q } (start N vs) H) :
  zfl P w K mg base CX (k + 1) f (W.fnOf name qual params body scope dV kV doc pm an cdv ct) ps sp:=by
 refine ⟨len,fun A outer s H args us vs Q E hr e0 hb r hsp=>?_⟩
 have hl:=len _ _ _ _ hsp
 have KX:K.In s.heap:=e0.mod.kin.keeps fun b o e=>(e0.bs b o e).1
 have lim:s.heap.NoLimit:=e0.mod.nolimit.keeps fun b o e=>(e0.bs b o e).1
 have hkind:∀ y∈ps.zip us,scope.names.lookup y.1=some .local∨(scope.names.lookup y.1=some .cell∧((cellsFrom (s.heap.objs.size + 1) scope.names []).lookup y.1).isSome=true):=fun ⟨n,v⟩ hy=>by
  rcases S.par n (List.of_mem_zip hy).1 with q | q
  ·exact .inl q
  ·exact .inr ⟨q,W.cellsFrom_some _ _ _ (.inl q)⟩
 refine codeAny_call_function hr.depth (KX _ _ lk) rfl S.co S.gen rfl (W.codeRec_of KX hcd) (hb _ _ _ _ ?_)
 refine wpAny_newFunctionEnv_cells S.kind hkind fun env he s1 x=>?_
 subst he
 refine ⟨lim.keeps x.toInCall.keep,codeAny_func ?_⟩
 obtain ⟨t,ht,hq⟩:=hbody A outer s H vs Q E (hr.deeper _) hsp
 have I:Inv (zhs CX P w K mg base N qual scope f cdv A outer s H E) [] (start N vs) H s1:=zjh S hr.hd e0 hl r x
 refine wpAny_mono (ht [] s1 (start N vs) H _ I hq) (fun fl s' hs=>?_) fun e s' hs=>hs
 have fin:∀{σ':St}{H':Hp}{v:V}{u:Value},Inv (zhs CX P w K mg base N qual scope f cdv A outer s H E) [] σ' H' s'→zcD v u→Q v H'→CE outer P w H s Q u s' :=
  fun {σ' H' v u} J rv q=>⟨v,H',J.os,J.bare,J.base,J.hok,rv,q⟩
 cases fl with
 | ret u =>
  obtain ⟨v,σ',H',J,rv,q⟩:=hs
  exact fin J rv q
 | next =>
  obtain ⟨σ',H',J,q⟩:=hs
  exact fin (v:=V.non) (u:=Value.none) J rfl q
 | brk =>
  obtain ⟨_,_,_,q⟩:=hs
  exact False.elim q
 | cont =>
  obtain ⟨_,_,_,q⟩:=hs
  exact False.elim q
end L2
namespace L2
open PySem PySem.Spec PyProof.Rows
section
variable{X:Cx}{x:Str}{p pos:Pos}{e:Expr}{es:List Expr}{t:TA}{id T:String}{r:List V→Hp→VK→Prop}
def tCB(r:List V→Hp→VK→Prop)(t:TA):TE:=fun σ H Q=>t σ H fun vs H1=>r vs H1 Q
theorem zdL(hc:zcO X (.builtin id) r)(hg:Gl X x)(hm:X.mg x=none)(hv:bootBuiltins x=some (.builtin id))(ha:PA X (e :: es) t)(hn:x≠"__name__":=by decide)(hdb:(x == ("__debug__" : Str))=false:=by decide)
  (he:starEach (e :: es) X.env=(false,eval e X.env) :: starEach es X.env:=by rfl) (hpl:(backTo pos (starEach es X.env)).any (·.1)=false:=by rfl):PE X (.Call (.Name x p) (e :: es) [] pos) (tCB r t):=by
 intro pins s σ H Q I h
 refine wpAny_Call_Name_kw (zf8 I hg hm hv ?_ hn hdb)
 exact PyProof.Rows.callWith_builtin1 (thn (ha pos pins s σ H _ I h) fun us s1 ⟨vs,H1,I1,r1,q1⟩=>hc pins s1 σ H1 vs us Q I1 r1 q1) he hpl
theorem zhf(hc:zcO X (.type T) r)(hg:Gl X x)(hm:X.mg x=none)(hv:bootBuiltins x=some (.type T))(ha:PA X (e :: es) t)(hn:x≠"__name__":=by decide)(hdb:(x == ("__debug__" : Str))=false:=by decide)
  (he:starEach (e :: es) X.env=(false,eval e X.env) :: starEach es X.env:=by rfl) (hpl:(backTo pos (starEach es X.env)).any (·.1)=false:=by rfl):PE X (.Call (.Name x p) (e :: es) [] pos) (tCB r t):=by
 intro pins s σ H Q I h
 refine wpAny_Call_Name_kw (zf8 I hg hm hv ?_ hn hdb)
 exact PyProof.Rows.callWith_type1 (thn (ha pos pins s σ H _ I h) fun us s1 ⟨vs,H1,I1,r1,q1⟩=>hc pins s1 σ H1 vs us Q I1 r1 q1) he hpl
end
end L2
namespace HT
open PySem PyProof.Rows
section
open PySem.SeqAt
open PySem.AutoSeq1 (wpAny_loadPart')
open PySem.MeetsSeq PySem.MeetsSeq2 PySem.MeetsSeq3
end
section
variable{prog:Program}{w:World}{A:Around}{E:Value→Shared→Prop}{s:Shared}
theorem cat_tup{t b:Addr}{vs ws:List Value}{Q:Value→Shared→Prop}(ht:IsTup s.heap t vs.toArray)(hb:IsTup s.heap b ws.toArray)(hv:vs≠[])
  (h1:ws=[]→Q (.ref t) s) (h2:ws≠[]→Q (.ref s.heap.objs.size) { s with heap:=s.heap.push { cls:=.type "tuple",data:=.seq (vs ++ ws).toArray } })
  (hsz:vs.length + ws.length≤sizeLine):wpAny (model prog w) A (binaryOp .Add (.ref t) (.ref b)) Q E s:=by
 obtain ⟨⟨cls,dd,data,sl⟩,ho,hc,n,hd⟩:=id ht
 obtain ⟨⟨cls2,dd2,data2,sl2⟩,ho2,hc2,n2,hd2⟩:=id hb
 simp only at hc hd hc2 hd2
 subst hc hd hc2 hd2
 have e:vs.toArray ++ ws.toArray=(vs ++ ws).toArray:=by simp
 by_cases hw:ws=[]
 ·exact concat_meets ⟨_,ho,rfl⟩ ⟨_,ho2,rfl⟩ noFill_tuple_add seq_tuple_add PySem.F.slot_tuple_add PySem.F.entry_tuple_add (PySem.F.args_tuple_add_2 _ _)
   (tuple_addW1 t b vs.toArray ws.toArray n n2 dd dd2 sl sl2 (by simpa using hv) (by simp[hw])) ⟨ho,ho2,h1 hw⟩
 ·refine concat_meets ⟨_,ho,rfl⟩ ⟨_,ho2,rfl⟩ noFill_tuple_add seq_tuple_add PySem.F.slot_tuple_add PySem.F.entry_tuple_add (PySem.F.args_tuple_add_2 _ _)
   (tuple_addW2 t b vs.toArray ws.toArray n n2 dd dd2 sl sl2 (by simpa using hv) (by simpa using hw) (by rw[List.size_toArray,List.size_toArray];exact hsz)) ⟨ho,ho2,?_⟩
  rw[e]
  exact h2 hw
def sIx(n d:Nat):Option Int→Nat
 | none=>d
 | some v=>if v < 0 then (v + (n:Int)).toNat else min v.toNat n
theorem sIx_none(n d:Nat):sIx n d none=d:=rfl
theorem sIx_nat(n d k:Nat):sIx n d (some (k:Int))=min k n:=by
 show (if (k:Int) < 0 then ((k:Int) + (n:Int)).toNat else min (k:Int).toNat n)=min k n
 rw[if_neg (by omega),Int.toNat_natCast]
theorem zsi(n d:Nat)(hd:d≤n)(o:Option Int):sIx n d o≤n:=by
 cases o with
 | none=>exact hd
 | some v =>
  show (if v < 0 then (v + (n:Int)).toNat else min v.toNat n)≤n
  by_cases hv:v < 0
  ·rw[if_pos hv];omega
  ·rw[if_neg hv];exact Nat.min_le_right _ _
theorem zoa(v:Int)(n d:Nat):(if v < 0 then max (v + (n:Int)) 0 else min v (n:Int))=((sIx n d (some v):Nat):Int):=by
 show (if v < 0 then max (v + (n:Int)) 0 else min v (n:Int))=(((if v < 0 then (v + (n:Int)).toNat else min v.toNat n):Nat):Int)
 by_cases hv:v < 0
 ·simp only[if_pos hv];omega
 ·simp only[if_neg hv];omega
theorem zlU(lo hi:Option Int)(n:Nat):Builtin.Slice.sliceAdjust lo hi 1 (n:Int)=(((sIx n 0 lo:Nat):Int),((sIx n n hi:Nat):Int)):=by
 have h1:¬ ((1:Int) < 0):=by omega
 unfold Builtin.Slice.sliceAdjust
 simp only[h1,if_false]
 refine Prod.ext ?_ ?_
 ·cases lo with
  | none=>rfl
  | some v=>exact zoa v n 0
 ·cases hi with
  | none=>rfl
  | some v=>exact zoa v n n
theorem zml(i j:Nat):Builtin.Slice.slicePlaces (i:Int) (j:Int) 1=j - i:=by
 unfold Builtin.Slice.slicePlaces
 have h1:(1:Int) > 0:=by omega
 simp only[h1,if_true,Int.ediv_one]
 split <;> omega
theorem zhM{v:Value}{o:Option Int}{Q:Option Int→Shared→Prop}(p:IsPart v o)(h:Q o s):wpAny (model prog w) A (Builtin.Slice.slicePartIndex v) Q E s:=by
 cases p with
 | none=>exact slicePart_none h
 | int i t=>exact slicePart_int h
theorem sliceApplied_gen{sl:Addr}{vl vu:Value}{lo hi:Option Int}{n:Nat}{Q:Int × Int × Nat→Shared→Prop}(hs:s.heap.IsSliceOf sl vl vu .none)(pl:IsPart vl lo)(pu:IsPart vu hi)
  (h:Q (((sIx n 0 lo:Nat):Int),1,sIx n n hi - sIx n 0 lo) s):wpAny (model prog w) A (Builtin.Slice.sliceApplied (.ref sl) (pure (n:Int))) Q E s:=by
 obtain ⟨os,hos,hcs,hds⟩:=id hs
 unfold Builtin.Slice.sliceApplied Builtin.Slice.sliceFields
 refine wpAny_bind (wpAny_bind (wpAny_field hos hds (x:=vl) rfl (wpAny_bind (wpAny_field hos hds (x:=vu) rfl (wpAny_bind (wpAny_field hos hds (x:=.none) rfl (wpAny_pure ?_)))))))
 refine wpAny_bind (slicePart_none ?_)
 show wpAny _ _ (if ((1:Int) == 0)=true then _ else _) _ _ s
 rw[if_neg (by decide)]
 refine wpAny_bind (zhM pl (wpAny_bind (zhM pu (wpAny_bind (wpAny_pure ?_)))))
 show wpAny _ _ (match Builtin.Slice.sliceAdjust lo hi 1 (n:Int) with | (lo,hi)=>pure (lo,(1:Int),Builtin.Slice.slicePlaces lo hi 1)) _ _ s
 rw[zlU lo hi n]
 show wpAny _ _ (pure (((sIx n 0 lo:Nat):Int),(1:Int),Builtin.Slice.slicePlaces ((sIx n 0 lo:Nat):Int) ((sIx n n hi:Nat):Int) 1)) _ _ s
 rw[zml]
 exact wpAny_pure h
theorem zpD(xs:Array Value)(i k:Nat):((List.range k).filterMap fun (m:Nat)=>xs[((i:Int) + (m:Int) * 1).toNat]?).toArray=((xs.toList.drop i).take k).toArray:=by
 have e:(fun (m:Nat)=>xs[((i:Int) + (m:Int) * 1).toNat]?)=fun m=>xs[i + m]? := by
  funext m
  have:((i:Int) + (m:Int) * 1).toNat=i + m:=by omega
  rw[this]
 rw[e]
 have:=pick_run xs i k
 rw[List.filterMap_map] at this
 have e2:((fun x=>xs[x]?) ∘ fun x=>i + x)=fun m=>xs[i + m]? := rfl
 rw[e2] at this
 rw[this]
theorem getItem_tuple_cut{t sl:Addr}{items:Array Value}{vl vu:Value}{lo hi:Option Int}{Q:Value→Shared→Prop}(ht:IsTup s.heap t items)(hs:s.heap.IsSliceOf sl vl vu .none)(pl:IsPart vl lo)(pu:IsPart vu hi)
  (hw:¬ (sIx items.size 0 lo=0∧sIx items.size items.size hi=items.size))
  (h:Q (.ref s.heap.objs.size) { s with heap:=s.heap.push { cls:=.type "tuple",data:=.seq ((items.toList.drop (sIx items.size 0 lo)).take (sIx items.size items.size hi - sIx items.size 0 lo)).toArray } })
  (hsz:items.size≤sizeLine):wpAny (model prog w) A (getItem (.ref t) (.ref sl)) Q E s:=by
 have htake:sizeOk (.seq ((items.toList.drop (sIx items.size 0 lo)).take (sIx items.size items.size hi - sIx items.size 0 lo)).toArray):=by
  show ((items.toList.drop (sIx items.size 0 lo)).take (sIx items.size items.size hi - sIx items.size 0 lo)).toArray.size≤sizeLine
  rw[List.size_toArray,List.length_take,List.length_drop,Array.length_toList]
  omega
 have hj:sIx items.size items.size hi≤items.size:=zsi _ _ (Nat.le_refl _) hi
 obtain ⟨os,hos,hcs,hds⟩:=id hs
 have hTs:s.TypeIs (.ref sl) "slice":=⟨os,hos,hcs⟩
 unfold getItem
 try with_reducible refine wpAny_holding ?_
 first | refine wpAny_bind (wpAny_pure ?_) | skip
 refine wpAny_bind (wpAny_sequenceKey ht.typeIs (by decide) ?_)
 refine wpAny_bind (wpAny_callSpecial?_slot (name:=Str.ofString "__getitem__") ht.typeIs PyProof.Rows.slot_tuple_getitem
  (wpAny_call_entry PyProof.Rows.slot_tuple_getitem ht.typeIs entry_tuple_getitem ?_ (args_tuple_getitem _ _)))
 show wpAny _ _ (Builtin.Tuple.tupleItemsOf (.ref t) >>= _) _ _ s
 refine wpAny_bind (tupleItemsOf_ ht ?_)
 refine wpAny_bind (wpAny_typeOf hTs ?_)
 rw[if_pos (by decide)]
 refine wpAny_bind (sliceApplied_gen hs pl pu ?_)
 have hno:¬ ((((sIx items.size 0 lo:Nat):Int) == 0 && (1:Int) == 1 && (sIx items.size items.size hi - sIx items.size 0 lo) == items.size)=true):=by
  intro q
  rw[Bool.and_eq_true,Bool.and_eq_true] at q
  have q1:((sIx items.size 0 lo:Nat):Int)=0:=eq_of_beq q.1.1
  have q2:sIx items.size items.size hi - sIx items.size 0 lo=items.size:=eq_of_beq q.2
  exact hw ⟨by omega,by omega⟩
 show wpAny _ _ (if (((sIx items.size 0 lo:Nat):Int) == 0 && (1:Int) == 1 && (sIx items.size items.size hi - sIx items.size 0 lo) == items.size)=true then _ else _) _ _ s
 rw[if_neg hno,zpD]
 first
  | exact wpAny_bind (m:=Builtin.Tuple.tupleExact _) (wpAny_newObj_type (wpAny_pure ⟨_,rfl,wpAny_pure h⟩) htake)
  | exact wpAny_bind (m:=Builtin.Tuple.tupleExact _) (wpAny_newObj_type (wpAny_bind (wpAny_pure (wpAny_pure ⟨_,rfl,wpAny_pure h⟩))) htake)
  | exact wpAny_bind (wpAny_bind (m:=Builtin.Tuple.tupleExact _) (wpAny_newObj_type (wpAny_pure (wpAny_pure ⟨_,rfl,wpAny_pure h⟩)) htake))
  | exact wpAny_bind (wpAny_bind (m:=Builtin.Tuple.tupleExact _) (wpAny_newObj_type (wpAny_pure ⟨_,rfl,wpAny_pure h⟩) htake))
end
end HT
namespace L2
open PySem PySem.Spec PyProof.Rows
abbrev TO:=St→Hp→(Option Int→Hp→Prop)→Prop
def PO(X:Cx)(e:Option Expr)(t:TO):Prop :=
 ∀(pins:List (Addr × Obj))(s:Shared)(σ:St)(H:Hp)(Q:Option Int→Hp→Prop),Inv X pins σ H s→t σ H Q →
  wpAny (model X.prog X.w) X.A (evalPart e X.env) (fun u s'=>∃ o H',Inv X pins σ H' s'∧IsPart u o∧Q o H') X.xe s
def zqA:TO:=fun _ H Q=>Q none H
def zuj(t:TE):TO:=fun σ H Q=>t σ H fun x H1=>∃ i,x = .int i∧Q (some i) H1
theorem intsAre_of{ns:List Int}:∀{us:List Value},zbk (ns.map V.int) us→IntsAre us ns:=by
 induction ns with
 | nil=>intro us r;rw[List.map_nil] at r;cases r;exact .nil
 | cons n ns ih =>
  intro us r
  rw[List.map_cons] at r
  cases r with
  | cons r1 r2 =>
   obtain ⟨t,e⟩:=r1
   subst e
   exact .cons n t (ih r2)
section
variable{X:Cx}{e:Expr}{te:TE}{lo hi:Option Expr}{tl th:TO}{pos p2:Pos}
theorem zqF:PO X none zqA:=by
 intro pins s σ H Q I h
 rw[evalPart_none]
 exact wpAny_pure ⟨none,H,I,.none,h⟩
theorem zrC(h:PE X e te):PO X (some e) (zuj te):=by
 intro pins s σ H Q I hw
 rw[evalPart_some]
 refine thn (h pins s σ H _ I hw) fun u s1 ⟨x,H1,I1,r1,q1⟩=>?_
 obtain ⟨i,rfl,q⟩:=q1
 obtain ⟨t,rfl⟩:=r1
 exact ⟨some i,H1,I1,.int i t,q⟩
def SlR(X:Cx)(r:V→Option Int→Option Int→Hp→VK→Prop):Prop :=
 ∀(pins:List (Addr × Obj))(s:Shared)(σ:St)(H:Hp)(x:V)(v vl vu:Value)(lo hi:Option Int)(sl:Addr)(Q:VK),Inv X pins σ H s→zcD x v→s.heap.IsSliceOf sl vl vu .none→IsPart vl lo→IsPart vu hi→r x lo hi H Q →
  ∃ T id,typeLookup (.type T) "__getitem__"=pure (some (.builtin id))∧s.TypeIs v T∧wpAny (model X.prog X.w) X.A (getItem v (.ref sl)) (EP X pins σ Q) X.xe s
theorem SlR.or{r r':V→Option Int→Option Int→Hp→VK→Prop}(h:SlR X r)(h':SlR X r'):SlR X (fun x lo hi H Q=>r x lo hi H Q∨r' x lo hi H Q):=by
 intro pins s σ H x v vl vu lo hi sl Q I rx hs pl pu q
 rcases q with q | q
 ·exact h pins s σ H x v vl vu lo hi sl Q I rx hs pl pu q
 ·exact h' pins s σ H x v vl vu lo hi sl Q I rx hs pl pu q
def tSl(r:V→Option Int→Option Int→Hp→VK→Prop)(te:TE)(tl th:TO):TE:=fun σ H Q=>te σ H fun x H1=>tl σ H1 fun l H2=>th σ H2 fun u H3=>r x l u H3 Q
theorem zl8{r:V→Option Int→Option Int→Hp→VK→Prop}(hr:SlR X r)(he:PE X e te)(hl:PO X lo tl)(hu:PO X hi th):PE X (.Subscript e (.Slice lo hi none p2) pos) (tSl r te tl th):=by
 intro pins s σ H Q I h
 refine Subscript_ (thn (he pins s σ H _ I h) fun v s1 ⟨x,H1,I1,r1,q1⟩=>?_)
 refine wpAny_Slice (thn (hl pins s1 σ H1 _ I1 q1) fun vl s2 ⟨l,H2,I2,pl,q2⟩=>thn (hu pins s2 σ H2 _ I2 q2) fun vu s3 ⟨u,H3,I3,pu,q3⟩=>?_)
 rw[evalPart_none]
 refine wpAny_pure ?_
 have I4:Inv X pins σ H3 { s3 with heap:=s3.heap.push { cls:=.type "slice",data:=.fields #[vl,vu,.none] } }:=I3.kept (t':=s3.toks) fun b ob q=>Heap.get?_push_of_some _ q
 obtain ⟨T,id,hT,ht,hg⟩:=hr pins { s3 with heap:=s3.heap.push { cls:=.type "slice",data:=.fields #[vl,vu,.none] } } σ H3 x v vl vu l u s3.heap.objs.size Q I4 r1 (Heap.IsSliceOf.new ..) pl pu q3
 show wpAny (model X.prog X.w) X.A (subscriptTail e (.Slice lo hi none p2) v (.ref s3.heap.objs.size)) (EP X pins σ Q) X.xe { s3 with heap:=s3.heap.push { cls:=.type "slice",data:=.fields #[vl,vu,.none] } }
 exact tail_any (ops:=[.ref s3.heap.objs.size,v]) ht hT hg (by with_unfolding_all rfl)
def zmN(xs:List V)(lo hi:Option Int):List V:=(xs.drop (HT.sIx xs.length 0 lo)).take (HT.sIx xs.length xs.length hi - HT.sIx xs.length 0 lo)
theorem zgx(xs:List V)(lo hi:Option Int):(zmN xs lo hi).length≤xs.length:=by
 unfold zmN
 rw[List.length_take,List.length_drop]
 omega
def rSlT(K:W.Frag):V→Option Int→Option Int→Hp→VK→Prop:=fun x lo hi H Q=>∃ a xs,x = .ref a∧SqT K H a xs ∧
 ¬ (HT.sIx xs.length 0 lo=0∧HT.sIx xs.length xs.length hi=xs.length)∧∀ p,H p=none→Q (.ref p) (upd H p (.tup (zmN xs lo hi)))
theorem zsm:SlR X (rSlT X.K):=by
 intro pins s σ H x v vl vu lo hi sl Q I rx hs pl pu h
 obtain ⟨a,xs,rfl,hx,hw,q⟩:=h
 cases rx
 obtain ⟨its,r,ht,hz⟩:=I.tuple hx
 have hlen:its.toArray.size=xs.length:=by rw[List.size_toArray];exact r.length.symm
 refine ⟨"tuple",_,PyProof.Rows.slot_tuple_getitem.lookup,ht.typeIs,?_⟩
 refine HT.getItem_tuple_cut ht hs pl pu (by rw[hlen];exact hw) ?_ (by rw[hlen];exact hz)
 rw[hlen]
 refine ⟨.ref s.heap.objs.size,_,I.laid (t':=s.toks) (o:=.tup (zmN xs lo hi)) (fun b ob q=>Heap.get?_push_of_some _ q) (Nat.le_refl _) ?_,rfl,q _ (I.hok.fresh (Nat.le_refl _))⟩
 exact ⟨Nat.le_trans (zgx xs lo hi) hz,_,(r.drop (HT.sIx xs.length 0 lo)).take (HT.sIx xs.length xs.length hi - HT.sIx xs.length 0 lo),_,Heap.get?_push_size _ rfl⟩
def ztC(K:W.Frag):R2:=fun x y H Q=>∃ a b xs ys,x = .ref a∧y = .ref b∧SqT K H a xs∧SqT K H b ys∧xs≠[]∧xs.length + ys.length≤sizeLine ∧
 (ys=[]→Q (.ref a) H)∧(ys≠[]→∀ p,H p=none→Q (.ref p) (upd H p (.tup (xs ++ ys))))
theorem zbk.nil_iff{xs:List V}{us:List Value}(r:zbk xs us):us=[] ↔ xs=[]:=by
 cases r with
 | nil=>simp
 | cons _ _=>simp
theorem zrA:OpR X (binaryOp .Add) (ztC X.K):=by
 intro pins s σ H x y v u Q I rx ry h
 obtain ⟨a,b,xs,ys,rfl,rfl,ha,hb,hx,hz,q1,q2⟩:=h
 cases rx
 cases ry
 obtain ⟨its,r1,p1,_⟩:=I.tuple ha
 obtain ⟨its2,r2,p2,_⟩:=I.tuple hb
 refine HT.cat_tup p1 p2 (fun z=>hx (r1.nil_iff.mp z)) (fun z=>⟨.ref a,H,I,rfl,q1 (r2.nil_iff.mp z)⟩) (fun z=>?_) (by rw[← r1.length,← r2.length];exact hz)
 refine ⟨.ref s.heap.objs.size,_,I.laid (t':=s.toks) (o:=.tup (xs ++ ys)) (fun b ob q=>Heap.get?_push_of_some _ q) (Nat.le_refl _) ?_,rfl,q2 (fun w=>z (r2.nil_iff.mpr w)) _ (I.hok.fresh (Nat.le_refl _))⟩
 exact ⟨by rw[List.length_append];exact hz,_,r1.append r2,_,Heap.get?_push_size _ rfl⟩
end
end L2
namespace L2
open PySem PySem.Spec PyProof.Rows
def ixN(n:Nat)(i:Int):Option Nat:=if 0≤i then (if i < n then some i.toNat else none) else if -(n:Int)≤i then some (i + n).toNat else none
def atI{α:Type}(xs:List α)(i:Int):Option α:=(ixN xs.length i).bind fun j=>xs[j]?
theorem zkJ{n:Nat}{i:Int}{j:Nat}(h:ixN n i=some j):seqIndex? i n=some j∧j < n∧-(n:Int)≤i∧i < n:=by
 unfold ixN at h
 by_cases h0:0≤i
 ·rw[if_pos h0] at h
  by_cases h1:i < n
  ·rw[if_pos h1] at h
   have e:i.toNat=j:=Option.some.inj h
   exact ⟨by rw[seqIndex_of h0 h1,e],by omega,by omega,h1⟩
  ·rw[if_neg h1] at h;cases h
 ·rw[if_neg h0] at h
  by_cases h1:-(n:Int)≤i
  ·rw[if_pos h1] at h
   have e:(i + n).toNat=j:=Option.some.inj h
   exact ⟨by rw[seqIndex_neg (by omega) h1,e],by omega,h1,by omega⟩
  ·rw[if_neg h1] at h;cases h
theorem znP{α:Type}{xs:List α}{i:Int}{v:α}(h:atI xs i=some v):∃ j,seqIndex? i xs.length=some j∧xs[j]? = some v∧j < xs.length∧-(xs.length:Int)≤i∧i < xs.length:=by
 unfold atI at h
 cases e:ixN xs.length i with
 | none=>rw[e] at h;cases h
 | some j =>
  rw[e] at h
  obtain ⟨h1,h2,h3,h4⟩:=zkJ e
  exact ⟨j,h1,h,h2,h3,h4⟩
theorem ziG{α:Type}{xs:List α}{j:Nat}{v:α}(h:xs[j]? = some v):atI xs (j:Int)=some v:=by
 have hj:j < xs.length:=(List.getElem?_eq_some_iff.mp h).1
 have e:ixN xs.length (j:Int)=some j:=by
  unfold ixN
  rw[if_pos (by omega),if_pos (by omega)];simp
 unfold atI;rw[e];exact h
theorem ziQ{α:Type}(xs:List α)(v:α):atI (xs ++ [v]) (-1)=some v:=by
 have hl:(xs ++ [v]).length=xs.length + 1:=by simp
 have e:ixN (xs ++ [v]).length (-1)=some xs.length:=by
  unfold ixN
  rw[hl,if_neg (by decide),if_pos (by omega)]
  congr 1
  omega
 unfold atI
 rw[e]
 show (xs ++ [v])[xs.length]? = some v
 simp
def zkL(b:Expr):Prop:=∀ o i,subscripted b false o i=operate [o,i] (getItem o i)
def IxR(X:Cx)(r:R2):Prop :=
 ∀(value slice:Expr)(pins:List (Addr × Obj))(s:Shared)(σ:St)(H:Hp)(x y:V)(v u:Value)(Q:VK),Inv X pins σ H s→zcD x v→zcD y u→r x y H Q →
  subscripted slice false v u=operate [v,u] (getItem v u)→wpAny (model X.prog X.w) X.A (subscriptTail value slice v u) (EP X pins σ Q) X.xe s
def MtR(X:Cx)(id:String)(r:V→List V→Hp→VK→Prop):Prop :=
 ∀(pins:List (Addr × Obj))(s:Shared)(σ:St)(H:Hp)(x:V)(xs:List V)(v:Value)(us:List Value)(Q:VK),Inv X pins σ H s→zcD x v→zbk xs us→r x xs H Q →
  wpAny (model X.prog X.w) X.A (call (.builtin id) (v :: us)) (EP X pins σ Q) X.xe s
section
variable{X:Cx}{a b:Expr}{ta tb:TE}{pos:Pos}
theorem IxR.or{r r':R2}(h:IxR X r)(h':IxR X r'):IxR X (fun x y H Q=>r x y H Q∨r' x y H Q):=by
 intro value slice pins s σ H x y v u Q I rx ry q hs
 rcases q with q | q
 ·exact h value slice pins s σ H x y v u Q I rx ry q hs
 ·exact h' value slice pins s σ H x y v u Q I rx ry q hs
theorem MtR.or{id:String}{r r':V→List V→Hp→VK→Prop}(h:MtR X id r)(h':MtR X id r'):MtR X id (fun x xs H Q=>r x xs H Q∨r' x xs H Q):=by
 intro pins s σ H x xs v us Q I rx rs q
 rcases q with q | q
 ·exact h pins s σ H x xs v us Q I rx rs q
 ·exact h' pins s σ H x xs v us Q I rx rs q
theorem zts{r:R2}(hr:IxR X r)(ha:PE X a ta)(hb:PE X b tb)(hs:zkL b):PE X (.Subscript a b pos) (tOp r ta tb):=by
 intro pins s σ H Q I h
 exact Subscript_ (ztS ha hb I h fun v u s2 x y H2 I2 rx ry q=>hr a b pins s2 σ H2 x y v u Q I2 rx ry q (hs _ _))
def rIxL(K:W.Frag):R2:=fun x y H Q=>∃ p xs i v,x = .ref p∧y = .int i∧SqL K H p xs∧atI xs i=some v∧Q v H
def rIxT(K:W.Frag):R2:=fun x y H Q=>∃ p xs i v,x = .ref p∧y = .int i∧SqT K H p xs∧atI xs i=some v∧Q v H
theorem zob:IxR X (rIxL X.K):=by
 intro value slice pins s σ H x y v u Q I rx ry h hs
 obtain ⟨p,xs,i,z,rfl,rfl,hq,he,q⟩:=h
 cases rx
 obtain ⟨t,rfl⟩:=ry
 obtain ⟨its,r,pl,hz⟩:=I.list hq
 obtain ⟨j,h1,h2,h3,h4,h5⟩:=znP he
 obtain ⟨w,ew,rw'⟩:=r.get h2
 have hl:=r.length
 have hn:=zjl
 have fin:EP X pins σ Q w s:=⟨z,H,I,rw',q⟩
 by_cases h0:0≤i
 ·have hj:i.toNat=j:=by
   rw[seqIndex_of h0 h5] at h1
   exact Option.some.inj h1
  exact item_listR pl.isList h0 (by omega) (by rw[hj];simpa using ew) fin hs
 ·have hj:(i + (its.toArray.size:Int)).toNat=j:=by
   rw[seqIndex_neg (by omega) h4] at h1
   rw[List.size_toArray,← hl]
   exact Option.some.inj h1
  exact subscriptTail_builtinR (x:=w) pl.isList.typeIs slot_list_getitem.lookup
   (wpAny_getItem_list_neg (Q:=fun r s'=>r=w∧EP X pins σ Q r s') pl.isList (by omega) (by rw[List.size_toArray] <;> omega) (by omega) (by rw[hj];simpa using ew) ⟨rfl,fin⟩) hs
theorem zrN:IxR X (rIxT X.K):=by
 intro value slice pins s σ H x y v u Q I rx ry h hs
 obtain ⟨p,xs,i,z,rfl,rfl,hq,he,q⟩:=h
 cases rx
 obtain ⟨t,rfl⟩:=ry
 obtain ⟨its,r,pl,hz⟩:=I.tuple hq
 obtain ⟨j,h1,h2,h3,h4,h5⟩:=znP he
 obtain ⟨w,ew,rw'⟩:=r.get h2
 have hl:=r.length
 have hn:=zjl
 have fin:EP X pins σ Q w s:=⟨z,H,I,rw',q⟩
 exact subscriptTail_builtinR (x:=w) pl.typeIs slot_tuple_getitem.lookup
  (getItem_tuple (j:=j) (Q:=fun r s'=>r=w∧EP X pins σ Q r s') pl (by omega) (by omega) (by rw[List.size_toArray,← hl];exact h1) (by simpa using ew) ⟨rfl,fin⟩) hs
theorem zmx(its:List Value)(n j:Nat)(u:Value):Obj.mapSeq (·.setIfInBounds j u) { cls:=.type "list",data:=.seq its.toArray n } = { cls:=.type "list",data:=.seq (its.set j u).toArray n }:=by
 simp[Obj.mapSeq]
theorem Inv.lst{pins:List (Addr × Obj)}{σ:St}{H:Hp}{s:Shared}{p:Addr}{xs:List V}(I:Inv X pins σ H s)(h:H p=some (.lst xs)) :
  ∃(its:List Value)(n:Nat),zbk xs its∧s.heap.get? p=some { cls:=.type "list",data:=.seq its.toArray n }∧xs.length≤sizeLine:=by
 obtain ⟨z,its,n,r,e⟩:=I.hok p _ h
 exact ⟨its,n,r,e,z⟩
theorem Inv.lstUpd{pins:List (Addr × Obj)}{σ:St}{H:Hp}{s:Shared}{p:Addr}{xs ys:List V}{its its':List Value}{n n':Nat}{f:Obj→Obj}(I:Inv X pins σ H s)(h:H p=some (.lst xs))
  (ho:s.heap.get? p=some { cls:=.type "list",data:=.seq its.toArray n }) (hf:f { cls:=.type "list",data:=.seq its.toArray n } = { cls:=.type "list",data:=.seq its'.toArray n' }) (r:zbk ys its') (hz:ys.length≤sizeLine) (t:Nat) :
  Inv X pins σ (upd H p (.lst ys)) { s with heap:=s.heap.update p f,toks:=t }:=by
 have e:(s.heap.update p f).get? p=some { cls:=.type "list",data:=.seq its'.toArray n' }:=by
  rw[Heap.get?_update_self f ho (by rw[hf] <;> rfl),hf]
 refine I.write (x:=p) (e:=p) (by rw[h];trivial) (.inl rfl) (fun b u hb q=>(Heap.get?_update_other _ _ (Ne.symm hb)).trans q) ⟨_,e⟩ ?_
 exact ⟨hz,its',n',r,e⟩
def ztT:V→V→V→Hp→(Hp→Prop)→Prop:=fun o i v H Q=>∃ p xs k j,o = .ref p∧i = .int k∧H p=some (.lst xs)∧ixN xs.length k=some j∧Q (upd H p (.lst (xs.set j v)))
theorem zpn:PSet X ztT:=by
 intro pins s σ H o i v ov iv u Q I ro ri rv h
 obtain ⟨p,xs,k,j,rfl,rfl,hp,hj,q⟩:=h
 cases ro
 obtain ⟨t,rfl⟩:=ri
 obtain ⟨its,n,r,ho,hz⟩:=I.lst hp
 obtain ⟨h1,h2,h3,h4⟩:=zkJ hj
 have hl:=r.length
 have hn:=zjl
 have I':Inv X pins σ (upd H p (.lst (xs.set j v))) { s with heap:=s.heap.update p (Obj.mapSeq (·.setIfInBounds j u)) } :=
  I.lstUpd hp ho (zmx its n j u) (r.set rv j) (by rw[List.length_set];exact hz) s.toks
 by_cases h0:0≤k
 ·have hk:k.toNat=j:=by
   rw[seqIndex_of h0 h4] at h1
   exact Option.some.inj h1
  exact W.ki_setAt ho h0 (by omega) (by rw[List.size_toArray,← hl];exact h4) (by rw[hk];exact ⟨_,I',q⟩)
 ·have hk:(k + (its.toArray.size:Int)).toNat=j:=by
   rw[seqIndex_neg (by omega) h3] at h1
   rw[List.size_toArray,← hl]
   exact Option.some.inj h1
  exact W.ki_setBack ho (by omega) (by rw[List.size_toArray,← hl];exact h3) (by omega) (by rw[hk];exact ⟨_,I',q⟩)
theorem zj0(lo hi:Option Int)(n:Nat):(sliceBounds lo hi none n).1=((HT.sIx n 0 lo:Nat):Int)∧(sliceBounds lo hi none n).2.1=((HT.sIx n n hi:Nat):Int)∧(sliceBounds lo hi none n).2.2=1:=by
 refine ⟨?_,?_,rfl⟩
 ·cases lo with
  | none=>simp[sliceBounds,HT.sIx]
  | some i =>
   simp only[sliceBounds,HT.sIx,Option.getD_none,show (1:Int) > 0 by decide,if_true]
   by_cases h:i < 0
   ·simp only[h,if_true] <;> omega
   ·simp only[h,if_false] <;> omega
 ·cases hi with
  | none=>simp[sliceBounds,HT.sIx]
  | some i =>
   simp only[sliceBounds,HT.sIx,Option.getD_none,show (1:Int) > 0 by decide,if_true]
   by_cases h:i < 0
   ·simp only[h,if_true] <;> omega
   ·simp only[h,if_false] <;> omega
theorem zi8(its:List Value)(lo hi:Option Int):slicePick its.toArray lo hi none=((its.drop (HT.sIx its.length 0 lo)).take (HT.sIx its.length its.length hi - HT.sIx its.length 0 lo)).toArray:=by
 obtain ⟨h1,h2,h3⟩:=zj0 lo hi its.toArray.size
 unfold slicePick
 rw[h1,h2,h3]
 simp only[sliceRange_one,pick_run,List.size_toArray] <;> rfl
def rSlL(K:W.Frag):V→Option Int→Option Int→Hp→VK→Prop:=fun x lo hi H Q=>∃ a xs,x = .ref a∧SqL K H a xs∧∀ p,H p=none→Q (.ref p) (upd H p (.lst (zmN xs lo hi)))
theorem zq2:SlR X (rSlL X.K):=by
 intro pins s σ H x v vl vu lo hi sl Q I rx hs pl pu h
 obtain ⟨a,xs,rfl,hx,q⟩:=h
 cases rx
 obtain ⟨its,r,ht,hz⟩:=I.list hx
 have hlen:=r.length
 refine ⟨"list",_,slot_list_getitem.lookup,ht.isList.typeIs,?_⟩
 refine wpAny_getItem_list_slice ht.isList hs pl pu .none (by simp) ?_ (by rw[List.size_toArray] <;> omega)
 rw[zi8,← hlen]
 refine ⟨.ref s.heap.objs.size,_,I.laid (t':=s.toks) (o:=.lst (zmN xs lo hi)) (fun b ob q=>Heap.get?_push_of_some _ q) (Nat.le_refl _) ?_,rfl,q _ (I.hok.fresh (Nat.le_refl _))⟩
 exact ⟨Nat.le_trans (zgx xs lo hi) hz,_,0,(r.drop (HT.sIx xs.length 0 lo)).take (HT.sIx xs.length xs.length hi - HT.sIx xs.length 0 lo),Heap.get?_push_size _ rfl⟩
theorem zfZ:zcO X (.builtin "len") (fun xs H Q=>∃ p ys,xs=[.ref p]∧(SqL X.K H p ys∨SqT X.K H p ys)∧Q (.int ys.length) H):=by
 intro pins s σ H xs us Q I r h
 obtain ⟨p,ys,rfl,hq,q⟩:=h
 obtain ⟨u,rfl,rx⟩:=zfO r
 cases rx
 have hn:=zjl
 rcases hq with hq | hq
 ·obtain ⟨its,r',pl,hz⟩:=I.list hq
  have hlen:=r'.length
  exact Calls.call_len_list pl.isList (by simp only[List.size_toArray] <;> omega) ⟨.int ys.length,H,I.tok _,⟨s.toks + 1,by rw[List.size_toArray,hlen]⟩,q⟩
 ·obtain ⟨its,r',pl,hz⟩:=I.tuple hq
  have hlen:=r'.length
  exact len_tuple pl (by simp only[List.size_toArray] <;> omega) ⟨.int ys.length,H,I.tok _,⟨s.toks + 1,by rw[List.size_toArray,hlen]⟩,q⟩
theorem zj6:zcO X (.builtin "len") (fun xs H Q=>∃ z,xs=[.str z]∧z.length≤sizeLine∧Q (.int z.length) H):=by
 intro pins s σ H xs us Q I r h
 obtain ⟨z,rfl,hz,q⟩:=h
 obtain ⟨u,rfl,t,rfl⟩:=zfO r
 have hn:=zjl
 exact len_str (by omega) ⟨.int z.length,H,I.tok _,⟨_,rfl⟩,q⟩
theorem zcO.or{f:Value}{r r':List V→Hp→VK→Prop}(h:zcO X f r)(h':zcO X f r'):zcO X f (fun xs H Q=>r xs H Q∨r' xs H Q):=by
 intro pins s σ H xs us Q I rs q
 rcases q with q | q
 ·exact h pins s σ H xs us Q I rs q
 ·exact h' pins s σ H xs us Q I rs q
theorem zjU:zcO X (.type "list") (fun xs H Q=>∃ p ys,xs=[.ref p]∧(SqL X.K H p ys∨SqT X.K H p ys)∧∀ l,H l=none→Q (.ref l) (upd H l (.lst ys))):=by
 intro pins s σ H xs us Q I r h
 obtain ⟨p,ys,rfl,hq,q⟩:=h
 obtain ⟨u,rfl,rx⟩:=zfO r
 cases rx
 have fin:∀(its:List Value),zbk ys its→ys.length≤sizeLine→∀(h':Heap)(c':Nat),(∀ b o',s.heap.get? b=some o'→h'.get? b=some o') →
   h'.get? s.heap.objs.size=some { cls:=.type "list",dict:=none,data:=.seq its.toArray c',slots:=#[] }→EP X pins σ Q (.ref s.heap.objs.size) { s with heap:=h' }:=fun its r' hz h' c' kp e =>
  ⟨.ref s.heap.objs.size,_,I.laid (t':=s.toks) kp (Nat.le_refl _) (show zcr X.prog X.w _ h' _ (.lst ys) from ⟨hz,its,c',r',e⟩),rfl,q _ (I.hok.fresh (Nat.le_refl _))⟩
 rcases hq with hq | hq
 ·obtain ⟨its,r',pl,hz⟩:=I.list hq
  have hlen:=r'.length
  obtain ⟨o,ho,hc,n,hd⟩:=pl.isList
  exact call_list_seq p (.inl rfl) ho hc hd (fun h' c' kp e=>fin its r' hz h' c' kp e) (by simp only[List.size_toArray] <;> omega)
 ·obtain ⟨its,r',pl,hz⟩:=I.tuple hq
  have hlen:=r'.length
  obtain ⟨o,ho,hc,n,hd⟩:=pl
  exact call_list_seq p (.inr rfl) ho hc hd (fun h' c' kp e=>fin its r' hz h' c' kp e) (by simp only[List.size_toArray] <;> omega)
theorem zir:zcO X (.type "tuple") (fun xs H Q=>∃ p ys,xs=[.ref p]∧((SqL X.K H p ys∧∀ l,H l=none→Q (.ref l) (upd H l (.tup ys)))∨(SqT X.K H p ys∧Q (.ref p) H))):=by
 intro pins s σ H xs us Q I r h
 obtain ⟨p,ys,rfl,h⟩:=h
 obtain ⟨u,rfl,rx⟩:=zfO r
 cases rx
 rcases h with ⟨hq,q⟩ | ⟨hq,q⟩
 ·obtain ⟨its,r',pl,hz⟩:=I.list hq
  have hlen:=r'.length
  refine call_tuple_list pl.isList (fun h' kp=>?_) (by simp only[List.size_toArray] <;> omega)
  have I1:Inv X pins σ H { s with heap:=h' }:=I.kept (t':=s.toks) kp
  have I2:Inv X pins σ (upd H h'.objs.size (.tup ys)) { s with heap:=h'.push { cls:=.type "tuple",data:=.seq its.toArray } } :=
   I1.laid (t':=s.toks) (fun b o e=>Heap.get?_push_of_some _ e) (Nat.le_refl _) (show zcr X.prog X.w _ _ _ (.tup ys) from ⟨hz,its,r',_,Heap.get?_push_size _ rfl⟩)
  exact ⟨.ref h'.objs.size,_,I2,rfl,q _ (I1.hok.fresh (Nat.le_refl _))⟩
 ·obtain ⟨its,r',pl,hz⟩:=I.tuple hq
  exact call_tuple_same pl ⟨.ref p,H,I,rfl,q⟩
def tyV(K:W.Frag)(T:String)(x:V)(H:Hp):Prop:=match x with
 | .str _=>T = "str"
 | .int _=>T = "int"
 | .ref p=>(T = "list"∧∃ xs,SqL K H p xs)∨(T = "tuple"∧∃ o,K.lookup p=some o∧o.cls = .type "tuple"∧o.dict=none) ∨
   (T = "dict"∧((∃ kvs,H p=some (.dK kvs))∨∃ kvs,H p=some (.dT kvs)))∨(T = "set"∧∃ S n,H p=some (.set S n))
 | _=>False
theorem zsN{pins:List (Addr × Obj)}{σ:St}{H:Hp}{s:Shared}{T:String}{x:V}{v:Value}(I:Inv X pins σ H s)(r:zcD x v)(ty:tyV X.K T x H) :
  s.TypeIs v T∧∀ a,v = .ref a→∃ ob,s.heap.get? a=some ob∧ob.dict=none:=by
 cases x with
 | str z =>
  obtain ⟨t,rfl⟩:=r
  cases (show T = "str" from ty)
  exact ⟨typeIs_str s z t,fun _ e=>nomatch e⟩
 | int i =>
  obtain ⟨t,rfl⟩:=r
  cases (show T = "int" from ty)
  exact ⟨typeIs_int s i t,fun _ e=>nomatch e⟩
 | ref p =>
  cases r
  rcases ty with ⟨rfl,xs,hq⟩ | ⟨rfl,o,hk,hc,hd⟩ | ⟨rfl,hk⟩ | ⟨rfl,S,n,hk⟩
  ·obtain ⟨its,_,pl,_⟩:=I.list hq
   refine ⟨pl.isList.typeIs,fun a e=>?_⟩
   cases e
   obtain ⟨o,n,e,c,hd,_⟩:=pl
   exact ⟨o,e,hd⟩
  ·refine ⟨⟨o,I.kIn p o hk,hc⟩,fun a e=>?_⟩
   cases e
   exact ⟨o,I.kIn _ o hk,hd⟩
  ·have z:∃ o,s.heap.get? p=some o∧o.ExactDict:=by
    rcases hk with ⟨kvs,hk⟩ | ⟨kvs,hk⟩
    ·obtain ⟨_,_,_,_,o,_,_,e,ex,_⟩:=I.hok p _ hk
     exact ⟨o,e,ex⟩
    ·obtain ⟨_,_,_,_,o,_,_,e,ex,_⟩:=I.hok p _ hk
     exact ⟨o,e,ex⟩
   obtain ⟨o,e,ex⟩:=z
   refine ⟨⟨o,e,ex.1⟩,fun a e2=>?_⟩
   cases e2
   exact ⟨o,e,ex.2.1⟩
  ·obtain ⟨o,_,_,_,e,ex,_⟩:=I.hok p _ hk
   refine ⟨⟨o,e,ex.1⟩,fun a e2=>?_⟩
   cases e2
   exact ⟨o,e,ex.2.1⟩
 | _=>exact False.elim ty
def tBM(K:W.Frag)(T:String)(r:V→List V→Hp→VK→Prop)(to:TE)(t:TA):TE:=fun σ H Q=>to σ H fun x H1=>tyV K T x H1∧t σ H1 fun xs H2=>r x xs H2 Q
variable{o e:Expr}{es:List Expr}{to:TE}{t:TA}{name:Str}{apos cpos:Pos}{T id:String}{r:V→List V→Hp→VK→Prop}
theorem zmg(pa:PlainAttrs T)(slot:Slot T name id)(hty:typeOf (.builtin id)=pure (.type "method_descriptor"))(hm:MtR X id r)(ho:PE X o to)(ha:PA X (e :: es) t)
  (hbase:attributeBase o name X.env (eval o X.env)=eval o X.env:=by rfl)
  (hfew:((backTo cpos (starEach (e :: es) X.env)).all (fun x=>!x.1) && (backToKw cpos (keywordEach [] X.env)).all (fun x=>x.1.isSome)
   && decide ((e :: es).length + ([]:List Keyword).length + (if ([]:List Keyword).isEmpty then 0 else 1) < 30))=true:=by rfl)
  (hline:(apos.endLine == cpos.line)=true:=by rfl) (hs:starEach (e :: es) X.env=(false,eval e X.env) :: starEach es X.env:=by rfl) (hplain:(backTo cpos (starEach es X.env)).any (·.1)=false:=by rfl) :
  PE X (.Call (.Attribute o name apos) (e :: es) [] cpos) (tBM X.K T r to t):=by
 intro pins s σ H Q I h
 refine wpAny_Call_method_late hbase hfew hline rfl (thn (ho pins s σ H _ I h) fun v s1 ⟨x,H1,I1,r1,ty,q1⟩=>?_)
 obtain ⟨h1,h2⟩:=zsN I1 r1 ty
 refine ⟨T,id,pa,slot,hty,h1,h2,?_⟩
 have hA:=ha cpos pins s1 σ H1 _ I1 q1
 rw[hs] at hA ⊢
 refine Calls.callWith_builtin (by show (false || (backTo cpos (starEach es X.env)).any (·.1))=false;rw[hplain] <;> rfl) (Calls.evalArgs_plain ?_)
 exact thn hA fun us s2 ⟨vs,H2,I2,r2,q2⟩=>hm pins s2 σ H2 x vs v us Q I2 r1 r2 q2
end
end L2
namespace L2
open PySem PySem.Spec PyProof.Rows
def MtM(X:Cx)(id:String)(r:V→List V→Hp→VK→Prop):Prop :=
 ∀(pins:List (Addr × Obj))(s:Shared)(σ:St)(H:Hp)(x:V)(xs:List V)(v:Value)(us:List Value)(Q:VK),Inv X pins σ H s→zcD x v→zbk xs us→r x xs H Q →
  wpAny (model X.prog X.w) X.A (call (.builtin id) (v :: us)) (EP X pins σ Q) X.xe s
theorem zbk.one:∀{x:V}{us:List Value},zbk [x] us→∃ u,us=[u]∧zcD x u
 | _,_,.cons r .nil=>⟨_,rfl,r⟩
theorem zbk.dropLast{xs:List V}{us:List Value}(h:zbk xs us):zbk xs.dropLast us.dropLast:=by
 induction h with
 | nil=>exact .nil
 | cons r t ih =>
  cases t with
  | nil=>exact .nil
  | cons q t'=>exact .cons r ih
theorem zbk.eraseIdx:∀{xs:List V}{us:List Value}(i:Nat),zbk xs us→zbk (xs.eraseIdx i) (us.eraseIdx i)
 | _,_,_,.nil=>.nil
 | _,_,0,.cons _ t=>t
 | _,_,i + 1,.cons r t=>.cons r (zbk.eraseIdx i t)
theorem zbk.reverse{xs:List V}{us:List Value}(h:zbk xs us):zbk xs.reverse us.reverse:=by
 induction h with
 | nil=>exact .nil
 | cons r t ih=>rw[List.reverse_cons,List.reverse_cons];exact zbk.append ih (.cons r .nil)
theorem zbk.rep{xs:List V}{us:List Value}(h:zbk xs us):∀ k:Nat,zbk (List.replicate k xs).flatten (List.replicate k us).flatten
 | 0=>.nil
 | k + 1=>by
  rw[List.replicate_succ,List.replicate_succ,List.flatten_cons,List.flatten_cons]
  exact zbk.append h (zbk.rep h k)
theorem zjA{α:Type}:∀(l:List α)(i:Nat),(l.eraseIdx i).length≤l.length
 | [],_=>Nat.le_refl _
 | _ :: _,0=>Nat.le_succ _
 | _ :: r,i + 1=>Nat.succ_le_succ (zjA r i)
theorem zjP(its:List Value):∀(k:Nat)(acc:List Value),
  List.foldl (fun x1 x2=>x1 ++ x2) acc.toArray (List.replicate k its.toArray)=(acc ++ (List.replicate k its).flatten).toArray
 | 0,acc=>by simp
 | k + 1,acc=>by
  have e:acc.toArray ++ its.toArray=(acc ++ its).toArray:=by simp
  have e2:(acc ++ its) ++ (List.replicate k its).flatten=acc ++ (List.replicate (k + 1) its).flatten:=by
   rw[List.replicate_succ,List.flatten_cons,List.append_assoc]
  rw[← e2,← zjP its k (acc ++ its),← e,List.replicate_succ,List.foldl_cons]
section
variable{X:Cx}{pins:List (Addr × Obj)}{σ:St}{H:Hp}{s:Shared}{l b:Addr}{xs ys zs:List V}
theorem Inv.lset{its its':List Value}{n:Nat}{f:Array Value→Array Value}{t':Nat}(I:Inv X pins σ H s)(hH:H l=some (.lst xs))
  (e:s.heap.get? l=some { cls:=.type "list",data:=.seq its.toArray n }) (hf:f its.toArray=its'.toArray) (hv:zbk ys its') (hz:ys.length≤sizeLine) :
  Inv X pins σ (upd H l (.lst ys)) { s with heap:=s.heap.update l (Obj.mapSeq f),toks:=t' }:=by
 have q:=PySem.IsL.update e f
 rw[hf] at q
 refine I.write (x:=l) (e:=l) (by rw[hH];exact trivial) (.inl rfl) (fun b' u hb hu=>(Heap.get?_update_other s.heap (Obj.mapSeq f) (Ne.symm hb)).trans hu) ⟨_,q⟩ ?_
 exact ⟨hz,its',_,hv,q⟩
theorem Inv.lnew{its:List Value}{t':Nat}(I:Inv X pins σ H s)(hv:zbk ys its)(hz:ys.length≤sizeLine) :
  Inv X pins σ (upd H s.heap.objs.size (.lst ys)) { s with heap:=s.heap.push { cls:=.type "list",data:=.seq its.toArray },toks:=t' } :=
 I.laid (fun _ _ q=>Heap.get?_push_of_some _ q) (Nat.le_refl _) ⟨hz,its,0,hv,Heap.get?_push_size _ rfl⟩
theorem Inv.fresh(I:Inv X pins σ H s):H s.heap.objs.size=none:=I.hok.fresh (Nat.le_refl _)
theorem Inv.lstM(I:Inv X pins σ H s)(hH:H l=some (.lst xs)):xs.length≤sizeLine∧∃(its:List Value)(n:Nat),zbk xs its∧xs.length=its.length∧s.heap.get? l=some { cls:=.type "list",data:=.seq its.toArray n }:=by
 obtain ⟨z,its,n,r,e⟩:=I.hok l _ hH
 exact ⟨z,its,n,r,r.length,e⟩
theorem zi1{n:Nat}(h:n≤sizeLine):Builtin.List.listTooLong n=false:=by
 unfold Builtin.List.listTooLong
 exact decide_eq_false (by omega)
end
section
variable{X:Cx}
def zrp:V→List V→Hp→VK→Prop:=fun x vs H Q=>∃ l xs y,x = .ref l∧vs=[y]∧H l=some (.lst xs)∧xs.length < sizeLine∧Q .non (upd H l (.lst (xs ++ [y])))
theorem ze5:MtM X "list.append" zrp:=by
 intro pins s σ H x vs v us Q I rx rv h
 obtain ⟨l,xs,y,rfl,rfl,hH,hz,q⟩:=h
 cases rx
 obtain ⟨u,rfl,ru⟩:=rv.one
 obtain ⟨z,its,n,r,hl,e⟩:=I.lstM hH
 refine call_meets F.slot_list_append ⟨_,e,rfl⟩ F.entry_list_append (F.args_list_append_2 _ _) (PySem.list_append l its.toArray n u (by rw[List.size_toArray];omega)) ⟨e,?_⟩
 refine ⟨.non,_,I.lset (its':=its ++ [u]) hH e (by simp) (r.append (.cons ru .nil)) ?_,rfl,q⟩
 rw[List.length_append,List.length_singleton]
 omega
def zrt:V→List V→Hp→VK→Prop:=fun x vs H Q=>∃ l b xs zs,x = .ref l∧vs=[.ref b]∧H l=some (.lst xs)∧H b=some (.lst zs)∧xs.length + zs.length≤sizeLine∧Q .non (upd H l (.lst (xs ++ zs)))
theorem zo8:MtM X "list.extend" zrt:=by
 intro pins s σ H x vs v us Q I rx rv h
 obtain ⟨l,b,xs,zs,rfl,rfl,hH,hB,hz,q⟩:=h
 cases rx
 obtain ⟨u,rfl,ru⟩:=rv.one
 cases ru
 obtain ⟨z,its,n,r,hl,e⟩:=I.lstM hH
 obtain ⟨z2,its2,n2,r2,hl2,e2⟩:=I.lstM hB
 have hsz:its.toArray.size + its2.toArray.size≤sizeLine:=by rw[List.size_toArray,List.size_toArray];omega
 have hlong:¬ (!its.toArray.isEmpty && Builtin.List.listTooLong (its.toArray.size + its2.toArray.size))=true:=by
  rw[zi1 hsz,Bool.and_false]
  exact Bool.false_ne_true
 refine call_meets F.slot_list_extend ⟨_,e,rfl⟩ F.entry_list_extend (F.args_list_extend_2 _ _)
  (AutoSeq1.list_extend_list_list_0 l its.toArray n b its2.toArray n2 hlong (by rw[List.size_toArray];omega) (by omega)) ⟨e,e2,?_⟩
 refine ⟨.non,_,I.lset (its':=its ++ its2) hH e (by simp) (r.append r2) ?_,rfl,q⟩
 rw[List.length_append]
 omega
def zsL:V→List V→Hp→VK→Prop:=fun x vs H Q=>∃ l xs i k y,x = .ref l∧vs=[.int i]∧H l=some (.lst xs)∧-(2 ^ 63)≤i∧i < 2 ^ 63∧seqIndex? i xs.length=some k∧xs[k]? = some y∧Q y (upd H l (.lst (xs.eraseIdx k)))
theorem zpU:MtM X "list.pop" zsL:=by
 intro pins s σ H x vs v us Q I rx rv h
 obtain ⟨l,xs,i,k,y,rfl,rfl,hH,h1,h2,hk,hy,q⟩:=h
 cases rx
 obtain ⟨u,rfl,ru⟩:=rv.one
 obtain ⟨t,rfl⟩:=ru
 obtain ⟨z,its,n,r,hl,e⟩:=I.lstM hH
 obtain ⟨w,hw,rw'⟩:=r.get hy
 refine call_meets F.slot_list_pop ⟨_,e,rfl⟩ F.entry_list_pop (F.args_list_pop_2 _ _)
  (MeetsSeq.list_pop_at l its.toArray n i t k w (fitsIndex_both h1 h2) (by rw[List.size_toArray,← hl];exact hk) (by rw[← Array.getElem?_toList];exact hw) (by rw[List.size_toArray];omega)) ⟨e,?_⟩
 refine ⟨y,_,I.lset (its':=its.eraseIdx k) hH e ?_ (r.eraseIdx k) ?_,rw',q⟩
 ·show its.toArray.eraseIdxIfInBounds k=(its.eraseIdx k).toArray
  rw[List.eraseIdxIfInBounds_toArray]
 ·have:=zjA xs k
  omega
def rCat:R2:=fun x y H Q=>∃ l b xs zs,x = .ref l∧y = .ref b∧H l=some (.lst xs)∧H b=some (.lst zs)∧xs.length + zs.length≤sizeLine∧∀ p,H p=none→Q (.ref p) (upd H p (.lst (xs ++ zs)))
theorem ztl:OpR X (binaryOp .Add) rCat:=by
 intro pins s σ H x y v u Q I rx ry h
 obtain ⟨l,b,xs,zs,rfl,rfl,hH,hB,hz,q⟩:=h
 cases rx
 cases ry
 obtain ⟨z,its,n,r,hl,e⟩:=I.lstM hH
 obtain ⟨z2,its2,n2,r2,hl2,e2⟩:=I.lstM hB
 refine PySem.P.add_list e e2 ?_ (by rw[List.size_toArray,List.size_toArray];omega)
 have ea:its.toArray ++ its2.toArray=(its ++ its2).toArray:=by simp
 rw[ea]
 exact ⟨.ref _,_,I.lnew (t':=s.toks) (r.append r2) (by rw[List.length_append];omega),rfl,q _ I.fresh⟩
def rRep:R2:=fun x y H Q=>∃ l k xs,x = .ref l∧y = .int k∧H l=some (.lst xs)∧-(2 ^ 63)≤k∧k < 2 ^ 63∧xs.length * k.toNat≤sizeLine ∧
 ∀ p,H p=none→Q (.ref p) (upd H p (.lst (List.replicate k.toNat xs).flatten))
theorem zr0{α:Type}(xs:List α)(k:Nat):(List.replicate k xs).flatten.length=k * xs.length:=by
 induction k with
 | zero=>simp
 | succ k ih=>rw[List.replicate_succ,List.flatten_cons,List.length_append,ih,Nat.succ_mul,Nat.add_comm]
theorem zsh:OpR X (binaryOp .Mult) rRep:=by
 intro pins s σ H x y v u Q I rx ry h
 obtain ⟨l,k,xs,rfl,rfl,hH,h1,h2,hz,q⟩:=h
 cases rx
 obtain ⟨t,rfl⟩:=ry
 obtain ⟨z,its,n,r,hl,e⟩:=I.lstM hH
 have hlen:its.toArray.size * k.toNat≤sizeLine:=by rw[List.size_toArray,← hl];exact hz
 have hcap:¬ its.toArray.size * k.toNat > (2 ^ 63 - 1) / 8:=by
  have:(sizeLine:Nat)≤(2 ^ 63 - 1) / 8:=by decide
  omega
 have hfit:¬ (!Builtin.List.listFitsIndex k)=true:=by
  rw[fitsIndex_both h1 h2]
  exact Bool.false_ne_true
 have hlong:¬ Builtin.List.listTooLong (its.toArray.size * k.toNat)=true:=by
  rw[zi1 hlen]
  exact Bool.false_ne_true
 have hnew:List.foldl (fun x1 x2=>x1 ++ x2) #[] (List.replicate (if its.toArray.isEmpty=true then 0 else k.toNat) its.toArray)=(List.replicate k.toNat its).flatten.toArray:=by
  have f0:∀ m:Nat,List.foldl (fun x1 x2=>x1 ++ x2) #[] (List.replicate m its.toArray)=(List.replicate m its).flatten.toArray:=fun m=>by
   have:=zjP its m []
   rw[List.nil_append] at this
   exact this
  rw[f0]
  cases its with
  | nil=>simp
  | cons a r'=>rw[if_neg (by simp)]
 refine wpAny_binaryOp_repeat_ref (T:="list") (U:="int") (by decide) ⟨_,e,rfl⟩ (fun s'=>typeIs_int s' k t) noFill_list_mul F.fills_int_mul F.slot_int_rmul repeat_list F.slot_int_index.lookup
  (call_meets F.slot_int_rmul (typeIs_int s k t) F.entry_int_rmul (F.args_int_rmul_2 _ _) (int___rmul___int_list k t l its.toArray n)
   ⟨e,rfl,⟨_,e,rfl⟩,call_meets F.slot_list_mul ⟨_,e,rfl⟩ F.entry_list_mul (F.args_list_mul_2 _ _) (AutoListH.list___mul___list_int_3 l its.toArray n k t hfit hcap hlong) ⟨e,?_⟩⟩)
 rw[hnew]
 exact ⟨.ref _,_,I.lnew (t':=s.toks) (r.rep k.toNat) (by rw[zr0,Nat.mul_comm];exact hz),rfl,q _ I.fresh⟩
end
section
variable{prog:Program}{w:World}{A:Around}{E:Value→Shared→Prop}{s:Shared}
set_option maxRecDepth 100000 in
end
section
variable{X:Cx}
end
end L2
namespace Att
open PySem PySem.W PySem.Calls PyProof.Rows
theorem zgX{P:Params}{h:Heap}:∀(ns:List Int)(vs:List Value),WellAll P h vs (ns.map WData.int)→IntsAre vs ns:=by
 intro ns
 induction ns with
 | nil =>
  intro vs w
  rw[List.map_nil] at w
  cases w
  exact .nil
 | cons n ns ih =>
  intro vs w
  rw[List.map_cons] at w
  cases w with
  | cons a b =>
   cases a
   exact .cons _ _ (ih _ b)
theorem znL{l:OpenLaw}{n:Nat}(hn:l.most=some n){P:Params}{h:Heap}{args:List WData}{vals:List Value}
  (hpre:l.row.toRowW.claim.pre args=true) (hwl:WellAll P h vals args) :
  ∃ a vs ns,vals=[Value.ref a]∧args=[WData.list (ns.map WData.int)]∧h.get? a=some { cls:=.type "list",data:=.seq vs.toArray }∧IntsAre vs ns∧ns.length≤n:=by
 have hsh:WShape.hasAll [] args [.list .int]=true:=(pre_splitW hpre).1
 have hc:l.pre.holds [] { args:=args }=true:=(pre_splitW hpre).2
 obtain ⟨d,r,rfl,h1,h2⟩:=hasAllW_cons hsh
 obtain rfl:=hasAllW_nil h2
 obtain ⟨xs,rfl,h3⟩:=hasW_list h1
 obtain ⟨ns,rfl⟩:=items_int h3
 have hlen:ns.length≤n:=by
  unfold OpenLaw.pre at hc
  have h4:(WTm.not (.lt (.lit (.int (n:Int))) (.len (.arg 0)))).holds [] { args:=[.list (ns.map .int)] }=true:=by
   have h4:=(holds_andW hc).1
   rw[hn] at h4
   exact h4
  have h5:=condW_of h4 (w_not (w_lt w_lit (w_len_list (w_arg rfl))))
  rw[List.length_map] at h5
  refine Nat.le_of_not_lt fun q=>?_
  have q':(n:Int) < ((ns.length:Nat):Int):=by omega
  first
   | (rw[decide_eq_true q'] at h5;exact absurd h5 (by decide))
   | (simp at h5;omega)
 cases hwl with
 | cons w1 w2 =>
  cases w2
  cases w1 with
  | list ho hall=>exact ⟨_,_,ns,rfl,rfl,ho,zgX ns _ hall,hlen⟩
theorem zno(l:OpenLaw)(args:List WData):l.row.toRowW.claim.post args (.bool true) args=true :=
 postW_of (r:=l.row.toRowW) (X:=(true == true))
  (show WShape.has [] (.bool true) .bool=true by first | rfl | decide | simp[WShape.has,WShape.arms,WShape.armsAll])
  (show (WTm.eq .res (.lit (.bool true))).value [] { args:=args,res:=some (.bool true),after:=args }=some (.bool (true == true)) from w_eq_bool (w_res rfl) w_lit) rfl
theorem attach_call{l:OpenLaw}{n:Nat}{q:Program}{loose:List Str}{XP:(Str→Option Value)→Heap→Prop}{YP:World→Heap→Prop}{d:DefRec}
  (hn:l.most=some n) (hdf:d.params.defaults=[])
  (call:∀(w:World)(s₀ s₁:Shared)(mg mb:Str→Option Value)(fa:Addr)(o:Obj)(pm cd doc:Value)(a:Addr)(vs:List Value)(ns:List Int),
   Ground q loose [] XP w s₀ mg mb s₁.heap→YP w s₁.heap →
   s₁.heap.get? fa=some o→o.data = .func (docDef d.name d.params d.body d.scope pm cd doc)→s₁.heap.CodeRec cd d.name→mg d.name=some (.ref fa) →
   s₁.heap.get? a=some { cls:=.type "list",data:=.seq vs.toArray }→IntsAre vs ns→ns.length≤n→s₁.gens = #[] →
   codeAny (model l.prog w) callerA (.call (.ref fa) ⟨[.ref a],[]⟩) (fun r s'=>r = .ok (.ret (.bool true))∧OldK s₁.heap s'.heap∧s'.os=s₁.os∧AllBare s'.gens) s₁) :
  WalkO q loose XP YP l.row.toRowW d [] (fun f vs=>PySem.call f vs):=by
 intro w s₀ s₁ mg mb G Y fa o pm cd doc dV kV ho hd hcd hD hmg hg args vals as hpre hlay hrd hwl hlo
 obtain rfl:dV = .none:=Dflts.none hD hdf
 obtain rfl:kV = .none:=Dflts.noKw hD
 obtain ⟨a,vs,ns,rfl,rfl,hobj,hints,hlen⟩:=znL hn hpre hwl
 refine enter_call (codeAny_mono (call w s₀ s₁ mg mb fa o pm cd doc a vs ns G Y ho (fd_plain hd) hcd hmg hobj hints hlen hg) fun r s' hq=>?_)
 obtain ⟨rfl,h2,h3,h4⟩:=hq
 exact ⟨.inl ⟨.bool true,.bool true,[],rfl,fun _=>rfl,.bool true,zno l _,fun _=>⟨List.Pairwise.nil,fun _ hm=>(nomatch hm)⟩⟩,h2,h3,h4⟩
section
variable{prog:Program}{w:World}{A:Around}{E:Value→Shared→Prop}{s:Shared}{K:Frag}
end
end Att
namespace L2
open PySem PySem.Spec PyProof.Rows
theorem vals_ints:∀{vs:List Value}{ns:List Int},IntsAre vs ns→zbk (ns.map V.int) vs
 | _,_,.nil=>.nil
 | _,_,.cons n t h=>.cons ⟨t,rfl⟩ (vals_ints h)
end L2
namespace L2
open PySem PySem.Spec PyProof.Rows
end L2
namespace L2
open PySem PySem.Spec PyProof.Rows
def za5(s:Stmt):Arguments:=match s with
 | .FunctionDef _ a _ _ _ _ _ _ _ _=>a
 | _=>{ posonlyargs:=[],args:=[],vararg:=none,kwonlyargs:=[],kw_defaults:=[],kwarg:=none,defaults:=[] }
def zaw(s:Stmt):List Stmt:=match s with
 | .FunctionDef _ _ b _ _ _ _ _ _ _=>b
 | _=>[]
def zac(s:Stmt):Scope:=match s with
 | .FunctionDef _ _ _ _ _ _ sc _ _ _=>sc
 | _=>{ kind:=.function,names:=[],isGenerator:=false,isCoroutine:=false }
abbrev CX0:CXT:=fun _ _ _ _ _ _=>False
structure Fun(K:W.Frag)(x qual:Str)(st:Stmt)(f:Addr)(fd:FuncData):Prop where
 ex:∃(oc:Value)(od:Option Addr)(kV doc pm:Value)(an:Option Addr)(cdv ct:Value)(osl:Array (Option Value)),
  fd=W.fnOf x qual (za5 st) (zaw st) (zac st) .none kV doc pm an cdv ct∧K.lookup f=some ⟨oc,od,.func fd,osl⟩∧W.codeIn K cdv qual=true
 kp:W.keepIn K (.ref f)=true
section
variable{P:Program}{w:World}{K:W.Frag}{mg:Str→Option Value}{base:Heap}
theorem Fun.ok{x qual:Str}{st:Stmt}{f:Addr}{fd:FuncData}{N ps:List Str}{k:Nat}{sp:Sp}(F:Fun K x qual st f fd)(S:za1 N ps (zac st))(len:∀ vs H Q E,sp vs H Q E→vs.length=ps.length)
  (hbody:∀(cdv:Value)(A:Around)(outer:List Env)(s:Shared)(H:Hp)(vs:List V)(Q:VK)(E:XK),zdf k (A.deeper (envOfC qual (zac st) s.heap.objs.size f cdv))→sp vs H Q E →
   ∃ t,PSs (zhs CX0 P w K mg base N qual (zac st) f cdv A outer s H E).nox (zaw st) t∧t { nx:=fun _ H'=>Q .non H',rt:=Q } (start N vs) H):zfl P w K mg base CX0 (k + 1) f fd ps sp:=by
 obtain ⟨oc,od,kV,doc,pm,an,cdv,ct,osl,rfl,lk,hcd⟩:=F.ex
 refine zoQ lk hcd S len fun A outer s H vs Q E hr hsp=>?_
 obtain ⟨t,h,q⟩:=hbody cdv A outer s H vs Q E hr hsp
 exact ⟨t,h.nox,q⟩
theorem Fun.binds{x qual:Str}{st:Stmt}{f:Addr}{fd:FuncData}{ps:List Str}(F:Fun K x qual st f fd)
  (h:∀(kV doc pm:Value)(an:Option Addr)(cdv ct:Value)(us:List Value),us.length=ps.length→bindArgs (W.fnOf x qual (za5 st) (zaw st) (zac st) .none kV doc pm an cdv ct) ⟨us,[]⟩=pure (ps.zip us)):zfA K fd ps []:=by
 obtain ⟨oc,od,kV,doc,pm,an,cdv,ct,osl,rfl,lk,hcd⟩:=F.ex
 exact .all (h kV doc pm an cdv ct)
theorem zaY{x qual:Str}{st:Stmt}{f:Addr}{oc:Value}{od an:Option Addr}{osl:Array (Option Value)}{kV doc pm cdv ct:Value}(l:K.lookup f=some ⟨oc,od,.func (W.fnOf x qual (za5 st) (zaw st) (zac st) .none kV doc pm an cdv ct),osl⟩)
  (c:W.codeIn K cdv qual=true) (k:W.keepIn K (.ref f)=true):Fun K x qual st f (W.fnOf x qual (za5 st) (zaw st) (zac st) .none kV doc pm an cdv ct):=⟨⟨oc,od,kV,doc,pm,an,cdv,ct,osl,rfl,l,c⟩,k⟩
end
section
variable{X:Cx}
end
theorem iteF{A B:Prop}(h:B):if false=true then A else B:=by
 rw[if_neg Bool.false_ne_true]
 exact h
theorem iteT{A B:Prop}(h:A):if true=true then A else B:=by
 rw[if_pos rfl]
 exact h
def zbG(H H':Hp):Prop:=∀ b o,H b=some o→H' b=some o
theorem zbG.refl(H:Hp):zbG H H:=fun _ _ h=>h
theorem zbG.trans{H H1 H2:Hp}(a:zbG H H1)(b:zbG H1 H2):zbG H H2:=fun c o h=>b c o (a c o h)
theorem zbG.free{H H':Hp}(e:zbG H H'){l:Addr}(h:H' l=Option.none):H l=Option.none:=by
 cases q:H l with
 | none=>rfl
 | some o =>
  rw[e l o q] at h
  cases h
theorem zbG.seq{K:W.Frag}{H H':Hp}{a:Addr}{xs:List V}(e:zbG H H')(h:SqL K H a xs):SqL K H' a xs:=by
 rcases h with (h | ⟨o,h⟩) | h
 ·exact .inl (.inl (e _ _ h))
 ·exact .inl (.inr ⟨o,e _ _ h⟩)
 ·exact .inr h
end L2
end
section
namespace PV
open PySem PySem.Spec L2
inductive Dt where
 | non | bl (b:Bool) | int (i:Int) | str (x:Str) | tup (l:List Dt) | lst (l:List Dt) | dct | scr (ns:List Int)
inductive B where
 | val (d:Dt) | own (l:List Dt) | own2 (l:List (List Dt)) | tab (q:Str) | opq | exc (C:Addr)
abbrev Ev:=List (Option B)
inductive R(α:Type) where
 | ok (a:α) | er (n:Nat) | no
def R.bind{α β:Type}(r:R α)(f:α→R β):R β:=match r with
 | .ok a=>f a
 | .er n=>.er n
 | .no=>.no
@[simp] theorem R.bind_ok {α β:Type} (a:α) (f:α→R β):(R.ok a).bind f=f a:=rfl
@[simp] theorem R.bind_er {α β:Type} (n:Nat) (f:α→R β):(R.er n).bind f = .er n:=rfl
@[simp] theorem R.bind_no {α β:Type} (f:α→R β):(R.no).bind f = .no:=rfl
theorem R.bind_assoc{α β γ:Type}(r:R α)(f:α→R β)(g:β→R γ):(r.bind f).bind g=r.bind fun a=>(f a).bind g:=by
 cases r <;> rfl
def zjT(K:W.Frag)(H:Hp)(a:Addr)(xs:List V):Prop :=
 H a=some (.tup xs)∨∃(its:Array Value)(n:Nat),K.lookup a=some { cls:=.type "tuple",data:=.seq its n }∧its.size≤sizeLine∧zbk xs its.toList
theorem zjT.of{K:W.Frag}{H:Hp}{a:Addr}{xs:List V}(h:H a=some (.tup xs)):zjT K H a xs:=.inl h
theorem zjT.sq{K:W.Frag}{H:Hp}{a:Addr}{xs:List V}(h:zjT K H a xs):SqT K H a xs:=by
 rcases h with h | ⟨its,n,h1,h2,h3⟩
 ·exact .inl (.inl h)
 ·exact .inr ⟨_,its,n,h1,rfl,rfl,h2,h3⟩
theorem zjT.same{K:W.Frag}{H H':Hp}{a:Addr}{xs:List V}(e:zbG H H')(h:zjT K H a xs):zjT K H' a xs:=h.elim (fun z=>.inl (e _ _ z)) .inr
mutual
def Rep(K:W.Frag)(G:Hp):Dt→V→Prop
 | .non,v=>v = .non
 | .bl b,v=>v = .bl b
 | .int i,v=>v = .int i
 | .str x,v=>v = .str x
 | .tup l,v=>∃ a vs,v = .ref a∧zjT K G a vs∧za6 K G l vs
 | .lst l,v=>∃ a vs,v = .ref a∧G a=some (.lst vs)∧za6 K G l vs
 | .dct,v=>∃ a,v = .ref a∧G a=some (.dK [])
 | .scr ns,v=>∃ a,v = .ref a∧SqL K G a (ns.map V.int)
def za6(K:W.Frag)(G:Hp):List Dt→List V→Prop
 | [],vs=>vs=[]
 | d :: ds,vs=>∃ v r,vs=v :: r∧Rep K G d v∧za6 K G ds r
end
theorem zaM{K:W.Frag}{H H':Hp}{a:Addr}{xs:List V}(e:zbG H H')(h:SqT K H a xs):SqT K H' a xs:=by
 rcases h with (h | ⟨o,h⟩) | h
 ·exact .inl (.inl (e _ _ h))
 ·exact .inl (.inr ⟨o,e _ _ h⟩)
 ·exact .inr h
mutual
theorem Rep.same{K:W.Frag}{G G':Hp}(e:zbG G G'):∀{d:Dt}{v:V},Rep K G d v→Rep K G' d v
 | .non,_,h=>by unfold Rep at h ⊢;exact h
 | .bl _,_,h=>by unfold Rep at h ⊢;exact h
 | .int _,_,h=>by unfold Rep at h ⊢;exact h
 | .str _,_,h=>by unfold Rep at h ⊢;exact h
 | .tup l,_,h=>by
  unfold Rep at h ⊢
  obtain ⟨a,vs,h1,h2,h3⟩:=h
  exact ⟨a,vs,h1,h2.same e,za6.same e h3⟩
 | .lst l,_,h=>by
  unfold Rep at h ⊢
  obtain ⟨a,vs,h1,h2,h3⟩:=h
  exact ⟨a,vs,h1,e _ _ h2,za6.same e h3⟩
 | .dct,_,h=>by
  unfold Rep at h ⊢
  obtain ⟨a,h1,h2⟩:=h
  exact ⟨a,h1,e _ _ h2⟩
 | .scr ns,_,h=>by
  unfold Rep at h ⊢
  obtain ⟨a,h1,h2⟩:=h
  exact ⟨a,h1,e.seq h2⟩
theorem za6.same{K:W.Frag}{G G':Hp}(e:zbG G G'):∀{ds:List Dt}{vs:List V},za6 K G ds vs→za6 K G' ds vs
 | [],_,h=>by unfold za6 at h ⊢;exact h
 | d :: ds,_,h=>by
  unfold za6 at h ⊢
  obtain ⟨v,r,h1,h2,h3⟩:=h
  exact ⟨v,r,h1,Rep.same e h2,za6.same e h3⟩
end
theorem za6.nil{K:W.Frag}{G:Hp}:za6 K G [] []:=by unfold za6;rfl
theorem za6.cons{K:W.Frag}{G:Hp}{d:Dt}{ds:List Dt}{v:V}{vs:List V}(h:Rep K G d v)(t:za6 K G ds vs):za6 K G (d :: ds) (v :: vs):=by
 unfold za6;exact ⟨v,vs,rfl,h,t⟩
theorem za6.nil_inv{K:W.Frag}{G:Hp}{vs:List V}(h:za6 K G [] vs):vs=[]:=by unfold za6 at h;exact h
theorem za6.cons_inv{K:W.Frag}{G:Hp}{d:Dt}{ds:List Dt}{vs:List V}(h:za6 K G (d :: ds) vs):∃ v r,vs=v :: r∧Rep K G d v∧za6 K G ds r:=by unfold za6 at h;exact h
theorem za6.length{K:W.Frag}{G:Hp}:∀{ds:List Dt}{vs:List V},za6 K G ds vs→ds.length=vs.length
 | [],_,h=>by rw[h.nil_inv];rfl
 | d :: ds,_,h=>by
  obtain ⟨v,r,rfl,_,h3⟩:=h.cons_inv
  simp[za6.length h3]
theorem za6.get{K:W.Frag}{G:Hp}:∀{ds:List Dt}{vs:List V}{i:Nat}{d:Dt},za6 K G ds vs→ds[i]? = some d→∃ v,vs[i]? = some v∧Rep K G d v
 | [],_,_,_,_,e=>by simp at e
 | d :: ds,_,0,_,h,e=>by
  obtain ⟨v,r,rfl,h2,h3⟩:=h.cons_inv
  simp at e;subst e
  exact ⟨v,rfl,h2⟩
 | d :: ds,_,i + 1,_,h,e=>by
  obtain ⟨v,r,rfl,h2,h3⟩:=h.cons_inv
  obtain ⟨u,e1,e2⟩:=za6.get (i:=i) h3 (by simpa using e)
  exact ⟨u,by simpa using e1,e2⟩
theorem za6.append{K:W.Frag}{G:Hp}:∀{ds es:List Dt}{vs us:List V},za6 K G ds vs→za6 K G es us→za6 K G (ds ++ es) (vs ++ us)
 | [],_,_,_,h,t=>by rw[h.nil_inv];exact t
 | d :: ds,_,_,_,h,t=>by
  obtain ⟨v,r,rfl,h2,h3⟩:=h.cons_inv
  exact za6.cons h2 (za6.append h3 t)
theorem za6.take{K:W.Frag}{G:Hp}:∀(n:Nat){ds:List Dt}{vs:List V},za6 K G ds vs→za6 K G (ds.take n) (vs.take n)
 | 0,_,_,_=>by simpa using za6.nil
 | n + 1,[],_,h=>by rw[h.nil_inv];simpa using za6.nil
 | n + 1,d :: ds,_,h=>by
  obtain ⟨v,r,rfl,h2,h3⟩:=h.cons_inv
  exact za6.cons h2 (za6.take n h3)
theorem za6.drop{K:W.Frag}{G:Hp}:∀(n:Nat){ds:List Dt}{vs:List V},za6 K G ds vs→za6 K G (ds.drop n) (vs.drop n)
 | 0,_,_,h=>h
 | n + 1,[],_,h=>by rw[h.nil_inv];simpa using za6.nil
 | n + 1,d :: ds,_,h=>by
  obtain ⟨v,r,rfl,h2,h3⟩:=h.cons_inv
  exact za6.drop n h3
theorem za6.reverse{K:W.Frag}{G:Hp}:∀{ds:List Dt}{vs:List V},za6 K G ds vs→za6 K G ds.reverse vs.reverse
 | [],_,h=>by rw[h.nil_inv];exact za6.nil
 | d :: ds,_,h=>by
  obtain ⟨v,r,rfl,h2,h3⟩:=h.cons_inv
  rw[List.reverse_cons,List.reverse_cons]
  exact (za6.reverse h3).append (za6.cons h2 za6.nil)
theorem za6.set{K:W.Frag}{G:Hp}{d:Dt}{v:V}(hv:Rep K G d v):∀(i:Nat){ds:List Dt}{vs:List V},za6 K G ds vs→za6 K G (ds.set i d) (vs.set i v)
 | _,[],_,h=>by rw[h.nil_inv];exact za6.nil
 | 0,d' :: ds,_,h=>by
  obtain ⟨v,r,rfl,h2,h3⟩:=h.cons_inv
  exact za6.cons hv h3
 | i + 1,d' :: ds,_,h=>by
  obtain ⟨v,r,rfl,h2,h3⟩:=h.cons_inv
  exact za6.cons h2 (za6.set hv i h3)
theorem za6.eraseIdx{K:W.Frag}{G:Hp}:∀(i:Nat){ds:List Dt}{vs:List V},za6 K G ds vs→za6 K G (ds.eraseIdx i) (vs.eraseIdx i)
 | _,[],_,h=>by rw[h.nil_inv];exact za6.nil
 | 0,d' :: ds,_,h=>by
  obtain ⟨v,r,rfl,h2,h3⟩:=h.cons_inv
  exact h3
 | i + 1,d' :: ds,_,h=>by
  obtain ⟨v,r,rfl,h2,h3⟩:=h.cons_inv
  exact za6.cons h2 (za6.eraseIdx i h3)
theorem za6.dropLast{K:W.Frag}{G:Hp}{ds:List Dt}{vs:List V}(h:za6 K G ds vs):za6 K G ds.dropLast vs.dropLast:=by
 rw[List.dropLast_eq_take,List.dropLast_eq_take,h.length];exact h.take _
abbrev Wn:=Addr→Option Nat
structure zb9(G H:Hp)(w:Wn)(G' H':Hp)(w':Wn):Prop where
 g:zbG G G'
 fr:∀ b o,G' b=some o→G b≠none∨H b=none∨w b≠none
 h:∀ b o,H b=some o→w b=none→H' b=some o
 w:∀ b,w' b≠none→w b≠none∨H b=none
 k:∀ b,H' b=none→H b=none
theorem zb9.refl(G H:Hp)(w:Wn):zb9 G H w G H w :=
 ⟨zbG.refl G,fun b o e=>.inl (by rw[e];simp),fun _ _ e _=>e,fun _ e=>.inl e,fun _ e=>e⟩
theorem zb9.trans{G H G1 H1 G2 H2:Hp}{w w1 w2:Wn}(a:zb9 G H w G1 H1 w1)(b:zb9 G1 H1 w1 G2 H2 w2):zb9 G H w G2 H2 w2:=by
 have hn:=a.k
 refine ⟨a.g.trans b.g,fun c o e=>?_,fun c o e z=>?_,fun c e=>?_,fun c e=>a.k c (b.k c e)⟩
 ·rcases b.fr c o e with q | q | q
  ·cases q':G1 c with
   | none=>exact absurd q' q
   | some u=>exact a.fr c u q'
  ·exact .inr (.inl (hn c q))
  ·rcases a.w c q with z | z
   ·exact .inr (.inr z)
   ·exact .inr (.inl z)
 ·have e1:=a.h c o e z
  refine b.h c o e1 ?_
  cases q:w1 c with
  | none=>rfl
  | some k =>
   rcases a.w c (by rw[q];simp) with r | r
   ·exact absurd z r
   ·rw[e] at r;cases r
 ·rcases b.w c e with q | q
  ·exact a.w c q
  ·exact .inr (hn c q)
structure Cn where
 G₀:Hp
 H₀:Hp
 w₀:Wn
 pp:List Nat
 σ₀:St
 ex:Nat→Prop
 xv:Nat→Value
 nw:Bool
def RtG(nw:Bool)(K:W.Frag)(H0 G H:Hp)(w:Wn)(d:Dt)(v:V):Prop:=match nw with
 | false=>Rep K G d v
 | true=>∃ l p vs,d = .lst l∧v = .ref p∧H0 p=none∧H p=some (.lst vs)∧G p=none∧w p=none∧za6 K G l vs
def cHO(c:Addr)(q:Str):HO:=.ext fun h=>h.CodeRec (.ref c) q
def xHO(l C:Addr):HO:=.ext fun h=>∃ o vs,h.get? l=some o∧o.cls = .ref C∧o.data = .fields vs
def RB(K:W.Frag)(G H:Hp)(w:Wn)(i:Nat)(v:V):B→Prop
 | .val d=>Rep K G d v
 | .own ds=>∃ a vs,v = .ref a∧w a=some i∧H a=some (.lst vs)∧za6 K G ds vs
 | .own2 dss=>∃ a as,v = .ref a∧w a=some i∧H a=some (.lst (as.map V.ref))∧(a :: as).Nodup∧Paired (fun b ds=>w b=some i∧∃ vs,H b=some (.lst vs)∧za6 K G ds vs) as dss
 | .tab q=>∃ P ps,v = .ref P∧w P=some i∧H P=some (.tbl ps)∧TriplesOk ps.toList∧∀ pos cv,codeAmong pos ps.toList=some cv→∃ c,cv = .ref c∧G c=some (cHO c q)
 | .opq=>True
 | .exc C=>∃ l,v = .ref l∧G l=some (xHO l C)
structure Rel(K:W.Frag)(C:Cn)(G:Hp)(w:Wn)(ρ:Ev)(σ:St)(H:Hp):Prop where
 gh:zbG G H
 wg:∀ b,w b≠none→G b=none
 wh:∀ b,w b≠none→H b≠none
 len:ρ.length = σ.length
 sl:∀ i b,ρ[i]? = some (some b)→∃ v,σ[i]? = some (some v)∧RB K G H w i v b
 en:zb9 C.G₀ C.H₀ C.w₀ G H w
 pin:∀ i∈C.pp,σ[i]? = C.σ₀[i]?
structure ze9(G H G' H':Hp):Prop where
 g:zbG G G'
 h:zbG H H'
 gh:zbG G' H'
 fr:∀ b o,G' b=some o→G b≠none∨H b=none
theorem ze9.refl{G H:Hp}(e:zbG G H):ze9 G H G H:=⟨.refl _,.refl _,e,fun b o q=>.inl (by rw[q];simp)⟩
theorem ze9.trans{G H G1 H1 G2 H2:Hp}(a:ze9 G H G1 H1)(b:ze9 G1 H1 G2 H2):ze9 G H G2 H2 :=
 ⟨a.g.trans b.g,a.h.trans b.h,b.gh,fun c o e=>by
  rcases b.fr c o e with q | q
  ·cases q':G1 c with
   | none=>exact absurd q' q
   | some u=>exact a.fr c u q'
  ·exact .inr (a.h.free q)⟩
theorem ze9.step{G H G' H':Hp}{w:Wn}(a:ze9 G H G' H'):zb9 G H w G' H' w :=
 ⟨a.g,fun b o e=>(a.fr b o e).elim .inl fun z=>.inr (.inl z),fun b o e _=>a.h b o e,fun _ e=>.inl e,fun _ e=>a.h.free e⟩
theorem zfF{α β:Type}{F F':α→β→Prop}(f:∀ a b,F a b→F' a b):∀{l₁:List α}{l₂:List β},Paired F l₁ l₂→Paired F' l₁ l₂
 | _,_,.nil=>.nil
 | _,_,.cons r t=>.cons (f _ _ r) (zfF f t)
theorem RB.grow{K:W.Frag}{G H G' H':Hp}{w w':Wn}{i j:Nat}{v:V}{b:B}(g:zbG G G')(h:∀ a o,w a=some i→H a=some o→H' a=some o∧w' a=some j)(r:RB K G H w i v b):RB K G' H' w' j v b:=by
 cases b with
 | val d=>exact Rep.same g r
 | own ds =>
  obtain ⟨a,vs,h1,h2,h3,h4⟩:=r
  obtain ⟨e1,e2⟩:=h a _ h2 h3
  exact ⟨a,vs,h1,e2,e1,za6.same g h4⟩
 | own2 dss =>
  obtain ⟨a,as,h1,h2,h3,h4,h5⟩:=r
  obtain ⟨e1,e2⟩:=h a _ h2 h3
  refine ⟨a,as,h1,e2,e1,h4,zfF (fun b ds ⟨q1,vs,q2,q3⟩=>?_) h5⟩
  obtain ⟨e1,e2⟩:=h b _ q1 q2
  exact ⟨e2,vs,e1,za6.same g q3⟩
 | tab q =>
  obtain ⟨P,ps,h1,h2,h3,h4,h5⟩:=r
  obtain ⟨e1,e2⟩:=h P _ h2 h3
  exact ⟨P,ps,h1,e2,e1,h4,fun pos cv e=>let ⟨c,q1,q2⟩:=h5 pos cv e;⟨c,q1,g _ _ q2⟩⟩
 | opq=>exact trivial
 | exc C =>
  obtain ⟨l,h1,h2⟩:=r
  exact ⟨l,h1,g _ _ h2⟩
theorem Rel.grow{K:W.Frag}{C:Cn}{G H G' H':Hp}{w:Wn}{ρ:Ev}{σ:St}(r:Rel K C G w ρ σ H)(a:ze9 G H G' H'):Rel K C G' w ρ σ H':=by
 refine ⟨a.gh,fun b e=>?_,fun b e z=>r.wh b e (a.h.free z),r.len,fun i b e=>?_,r.en.trans a.step,r.pin⟩
 ·cases q:G' b with
  | none=>rfl
  | some o =>
   rcases a.fr b o q with z | z
   ·exact absurd (r.wg b e) z
   ·exact absurd z (r.wh b e)
 ·obtain ⟨v,h1,h2⟩:=r.sl i b e
  exact ⟨v,h1,h2.grow a.g fun a' o e1 e2=>⟨a.h _ _ e2,e1⟩⟩
theorem ze9.new{G H:Hp}{p:Addr}{o:HO}(gh:zbG G H)(hp:H p=none):ze9 G H (upd G p o) (upd H p o):=by
 refine ⟨fun b u e=>?_,fun b u e=>?_,fun b u e=>?_,fun b u e=>?_⟩
 ·rw[zai (zah (gh b u e) hp)];exact e
 ·rw[zai (zah e hp)];exact e
 ·by_cases hb:b=p
  ·subst hb;rw[zaj] at e ⊢;exact e
  ·rw[zai hb] at e ⊢;exact gh b u e
 ·by_cases hb:b=p
  ·subst hb;exact .inr hp
  ·rw[zai hb] at e;exact .inl (by rw[e];simp)
theorem ze9.newH{G H:Hp}{p:Addr}{o:HO}(gh:zbG G H)(hp:H p=none):ze9 G H G (upd H p o):=by
 refine ⟨.refl _,fun b u e=>?_,fun b u e=>?_,fun b u e=>.inl (by rw[e];simp)⟩
 ·rw[zai (zah e hp)];exact e
 ·rw[zai (zah (gh b u e) hp)];exact gh b u e
def zcu{α:Type}(ex:Nat→Prop)(κ:α→Prop):R α→Prop
 | .ok a=>κ a
 | .er n=>ex n
 | .no=>False
def kE(K:W.Frag)(C:Cn)(σ:St)(Q:VK)(G H:Hp)(w:Wn)(a:Dt × Ev):Prop :=
 ∀ v G' H' w',zb9 G H w G' H' w'→Rel K C G' w' a.2 σ H'→Rep K G' a.1 v→Q v H'
def kT(K:W.Frag)(C:Cn)(σ:St)(Q:Bool→Hp→Prop)(G H:Hp)(w:Wn)(a:Bool × Ev):Prop :=
 ∀ G' H' w',zb9 G H w G' H' w'→Rel K C G' w' a.2 σ H'→Q a.1 H'
def kN(K:W.Frag)(C:Cn)(σ:St)(Q:VK)(G H:Hp)(w:Wn)(a:List Dt × Ev):Prop :=
 ∀ p vs G' H' w',zb9 G H w G' H' w'→Rel K C G' w' a.2 σ H'→H p=none→H' p=some (.lst vs)→G' p=none→w' p=none→za6 K G' a.1 vs→Q (.ref p) H'
inductive Fl where
 | nx | bk | ct | rt (d:Dt)
def kS(K:W.Frag)(C:Cn)(D:zqd)(G H:Hp)(w:Wn)(a:Fl × Ev):Prop :=
 match a.1 with
 | .nx=>∀ σ' G' H' w',zb9 G H w G' H' w'→Rel K C G' w' a.2 σ' H'→D.nx σ' H'
 | .bk=>∀ σ' G' H' w',zb9 G H w G' H' w'→Rel K C G' w' a.2 σ' H'→D.bk σ' H'
 | .ct=>∀ σ' G' H' w',zb9 G H w G' H' w'→Rel K C G' w' a.2 σ' H'→D.ct σ' H'
 | .rt d=>∀ v σ' G' H' w',zb9 G H w G' H' w'→Rel K C G' w' a.2 σ' H'→RtG C.nw K C.H₀ G' H' w' d v→D.rt v H'
abbrev De:=Ev→R (Dt × Ev)
abbrev DT:=Ev→R (Bool × Ev)
abbrev DN:=Ev→R (List Dt × Ev)
abbrev DS:=Ev→R (Fl × Ev)
def tE(K:W.Frag)(C:Cn)(f:De):TE:=fun σ H Q=>∃ G w ρ,Rel K C G w ρ σ H∧zcu C.ex (kE K C σ Q G H w) (f ρ)
def tT(K:W.Frag)(C:Cn)(f:DT):TT:=fun σ H Q=>∃ G w ρ,Rel K C G w ρ σ H∧zcu C.ex (kT K C σ Q G H w) (f ρ)
def tN(K:W.Frag)(C:Cn)(f:DN):TE:=fun σ H Q=>∃ G w ρ,Rel K C G w ρ σ H∧zcu C.ex (kN K C σ Q G H w) (f ρ)
def tS(K:W.Frag)(C:Cn)(f:DS):TS:=fun D σ H=>∃ G w ρ,Rel K C G w ρ σ H∧zcu C.ex (kS K C D G H w) (f ρ)
abbrev JE(X:Cx)(C:Cn)(e:Expr)(f:De):Prop:=PE X e (tE X.K C f)
abbrev JT(X:Cx)(C:Cn)(e:Expr)(f:DT):Prop:=PT X e (tT X.K C f)
abbrev JW(X:Cx)(C:Cn)(e:Expr)(f:DT):Prop:=PW X e (tT X.K C f)
abbrev JN(X:Cx)(C:Cn)(e:Expr)(f:DN):Prop:=PE X e (tN X.K C f)
abbrev JS(X:Cx)(C:Cn)(st:Stmt)(f:DS):Prop:=PS X st (tS X.K C f)
abbrev JSs(X:Cx)(C:Cn)(st:List Stmt)(f:DS):Prop:=PSs X st (tS X.K C f)
abbrev zoH(α:Type):=Hp→Hp→Wn→α→Prop
def Stp{α:Type}(κ:zoH α):Prop:=∀ G H w G1 H1 w1 a,zb9 G H w G1 H1 w1→κ G H w a→κ G1 H1 w1 a
section
variable{K:W.Frag}{C:Cn}{σ:St}
theorem zcA{Q:VK}:Stp (fun G H w=>kE K C σ Q G H w):=fun _ _ _ _ _ _ _ s k v G' H' w' s'=>k v G' H' w' (s.trans s')
theorem zp6{Q:Bool→Hp→Prop}:Stp (fun G H w=>kT K C σ Q G H w):=fun _ _ _ _ _ _ _ s k G' H' w' s'=>k G' H' w' (s.trans s')
theorem zeU{Q:VK}:Stp (fun G H w=>kN K C σ Q G H w):=fun G H w G1 H1 w1 _ s k p vs G' H' w' s' r q1 q2 q3 q4 q5 =>
 k p vs G' H' w' (s.trans s') r (s.k p q1) q2 q3 q4 q5
theorem zeb{D:zqd}:Stp (fun G H w=>kS K C D G H w):=fun G H w G1 H1 w1 a s k=>by
 obtain ⟨f,ρ⟩:=a
 cases f with
 | nx=>exact fun σ' G' H' w' s'=>k σ' G' H' w' (s.trans s')
 | bk=>exact fun σ' G' H' w' s'=>k σ' G' H' w' (s.trans s')
 | ct=>exact fun σ' G' H' w' s'=>k σ' G' H' w' (s.trans s')
 | rt d=>exact fun v σ' G' H' w' s'=>k v σ' G' H' w' (s.trans s')
theorem zcu.step{α:Type}{ex:Nat→Prop}{κ:zoH α}(st:Stp κ){G H G1 H1:Hp}{w w1:Wn}(s:zb9 G H w G1 H1 w1):∀{r:R α},zcu ex (κ G H w) r→zcu ex (κ G1 H1 w1) r
 | .ok _,p=>st _ _ _ _ _ _ _ s p
 | .er _,p=>p
 | .no,p=>p
theorem zez{α:Type}{κ:zoH α}(st:Stp κ){G H:Hp}{w:Wn}{ρ:Ev}{fa:De}{g:Dt × Ev→R α}{Q:VK}(r:Rel K C G w ρ σ H)(p:zcu C.ex (κ G H w) ((fa ρ).bind g))
  (k:∀ d ρ1 v G1 H1 w1,Rel K C G1 w1 ρ1 σ H1→zb9 G H w G1 H1 w1→Rep K G1 d v→zcu C.ex (κ G1 H1 w1) (g (d,ρ1))→Q v H1):tE K C fa σ H Q:=by
 refine ⟨G,w,ρ,r,?_⟩
 cases e:fa ρ with
 | ok a =>
  rw[e] at p
  intro v G' H' w' s' r' q
  exact k a.1 a.2 v G' H' w' r' s' q (zcu.step st s' p)
 | er n=>rw[e] at p;exact p
 | no=>rw[e] at p;exact p
theorem zsY{α:Type}{κ:zoH α}(st:Stp κ){G H:Hp}{w:Wn}{ρ:Ev}{fa:DT}{g:Bool × Ev→R α}{Q:Bool→Hp→Prop}(r:Rel K C G w ρ σ H)(p:zcu C.ex (κ G H w) ((fa ρ).bind g))
  (k:∀ b ρ1 G1 H1 w1,Rel K C G1 w1 ρ1 σ H1→zb9 G H w G1 H1 w1→zcu C.ex (κ G1 H1 w1) (g (b,ρ1))→Q b H1):tT K C fa σ H Q:=by
 refine ⟨G,w,ρ,r,?_⟩
 cases e:fa ρ with
 | ok a =>
  rw[e] at p
  intro G' H' w' s' r'
  exact k a.1 a.2 G' H' w' r' s' (zcu.step st s' p)
 | er n=>rw[e] at p;exact p
 | no=>rw[e] at p;exact p
theorem zui{α:Type}{κ:zoH α}{G H:Hp}{w:Wn}{ρ:Ev}{fa:DN}{g:List Dt × Ev→R α}{Q:VK}(r:Rel K C G w ρ σ H)(p:zcu C.ex (κ G H w) ((fa ρ).bind g))
  (k:∀ ds ρ1 a vs G1 H1 w1,Rel K C G1 w1 ρ1 σ H1→zb9 G H w G1 H1 w1→H a=none→H1 a=some (.lst vs)→G1 a=none→w1 a=none→za6 K G1 ds vs→zcu C.ex (κ G H w) (g (ds,ρ1))→Q (.ref a) H1):tN K C fa σ H Q:=by
 refine ⟨G,w,ρ,r,?_⟩
 cases e:fa ρ with
 | ok a =>
  rw[e] at p
  intro v vs G' H' w' s' r' q1 q2 q3 q4 q5
  exact k a.1 a.2 v vs G' H' w' r' s' q1 q2 q3 q4 q5 p
 | er n=>rw[e] at p;exact p
 | no=>rw[e] at p;exact p
end
section
variable{X:Cx}
theorem _root_.L2.PE.weak{e:Expr}{t t':TE}(h:PE X e t)(k:∀ σ H Q,t' σ H Q→t σ H Q):PE X e t':=fun pins s σ H Q I q=>h pins s σ H Q I (k σ H Q q)
theorem _root_.L2.PT.weak{e:Expr}{t t':TT}(h:PT X e t)(k:∀ σ H Q,t' σ H Q→t σ H Q):PT X e t':=fun pins s σ H Q I q=>h pins s σ H Q I (k σ H Q q)
theorem _root_.L2.PW.weak{e:Expr}{t t':TT}(h:PW X e t)(k:∀ σ H Q,t' σ H Q→t σ H Q):PW X e t':=fun wh pins s σ H Q I q=>h wh pins s σ H Q I (k σ H Q q)
theorem _root_.L2.PA.weak{e:List Expr}{t t':TA}(h:PA X e t)(k:∀ σ H Q,t' σ H Q→t σ H Q):PA X e t':=fun pos pins s σ H Q I q=>h pos pins s σ H Q I (k σ H Q q)
theorem _root_.L2.PS.weak{e:Stmt}{t t':TS}(h:PS X e t)(k:∀ D σ H,t' D σ H→t D σ H):PS X e t':=fun pins s σ H D I q=>h pins s σ H D I (k D σ H q)
theorem _root_.L2.PSs.weak{e:List Stmt}{t t':TS}(h:PSs X e t)(k:∀ D σ H,t' D σ H→t D σ H):PSs X e t':=fun pins s σ H D I q=>h pins s σ H D I (k D σ H q)
end
section
variable{K:W.Frag}{C:Cn}{σ:L2.St}{G H:Hp}{w:Wn}{ρ:Ev}{i:Nat}{v:V}
theorem Rel.freeze{d:Dt}{b0:B}(r:Rel K C G w ρ σ H)(S:List Addr)(hS:∀ b∈S,w b=some i)(hi:ρ[i]? = some (some b0))(hv:σ[i]? = some (some v))
  (hr:Rep K (fun b=>if b∈S then H b else G b) d v) :
  Rel K C (fun b=>if b∈S then H b else G b) (fun b=>if b∈S then none else w b) (ρ.set i (some (.val d))) σ H ∧
   zb9 G H w (fun b=>if b∈S then H b else G b) H (fun b=>if b∈S then none else w b):=by
 have gS:∀ b∈S,G b=none:=fun b hb=>r.wg b (by rw[hS b hb];simp)
 have st:zb9 G H w (fun b=>if b∈S then H b else G b) H (fun b=>if b∈S then none else w b):=by
  refine ⟨fun b o e=>?_,fun b o e=>?_,fun b o e _=>e,fun b e=>?_,fun _ e=>e⟩
  ·have:b∉S:=fun z=>by rw[gS b z] at e;cases e
   simp[this,e]
  ·by_cases hb:b∈S
   ·exact .inr (.inr (by rw[hS b hb];simp))
   ·simp[hb] at e;exact .inl (by rw[e];simp)
  ·by_cases hb:b∈S
   ·simp[hb] at e
   ·simp[hb] at e;exact .inl e
 refine ⟨⟨fun b o e=>?_,fun b e=>?_,fun b e=>?_,by simpa using r.len,fun j b e=>?_,r.en.trans st,r.pin⟩,st⟩
 ·by_cases hb:b∈S
  ·simp[hb] at e;exact e
  ·simp[hb] at e;exact r.gh b o e
 ·by_cases hb:b∈S
  ·simp[hb] at e
  ·simp[hb] at e ⊢;exact r.wg b e
 ·by_cases hb:b∈S
  ·simp[hb] at e
  ·simp[hb] at e;exact r.wh b e
 ·by_cases hj:j=i
  ·subst hj
   rw[List.getElem?_set_self (List.getElem?_eq_some_iff.mp hi).1] at e
   cases e
   exact ⟨v,hv,hr⟩
  ·rw[List.getElem?_set_ne (Ne.symm hj)] at e
   obtain ⟨v',h1,h2⟩:=r.sl j b e
   refine ⟨v',h1,h2.grow st.g fun a o e1 e2=>⟨e2,?_⟩⟩
   have:a∉S:=fun z=>by rw[hS a z] at e1;exact hj (Option.some.inj e1).symm
   simp[this,e1]
end
def zab(i:Nat):De:=fun ρ=>match ρ[i]? with
 | some (some (.val d))=>.ok (d,ρ)
 | _=>.no
def zhH(i:Nat):De:=fun ρ=>match ρ[i]? with
 | some (some (.val d))=>.ok (d,ρ)
 | some (some (.own ds))=>.ok (.lst ds,ρ.set i (some (.val (.lst ds))))
 | some (some (.own2 dss))=>.ok (.lst (dss.map .lst),ρ.set i (some (.val (.lst (dss.map .lst)))))
 | _=>.no
theorem zhe{K:W.Frag}{G:Hp}:∀{as:List Addr}{dss:List (List Dt)},Paired (fun b ds=>∃ vs,G b=some (.lst vs)∧za6 K G ds vs) as dss→za6 K G (dss.map .lst) (as.map V.ref)
 | _,_,.nil=>za6.nil
 | a :: as,ds :: dss,.cons ⟨vs,h1,h2⟩ t=>za6.cons (by unfold Rep;exact ⟨a,vs,rfl,h1,h2⟩) (zhe t)
theorem zhL{α β:Type}{F:α→β→Prop}:∀{l₁:List α}{l₂:List β},Paired F l₁ l₂→∀ a∈l₁,∃ b,F a b
 | _,_,.cons r t,a,h=>by
  rcases List.mem_cons.mp h with rfl | h
  ·exact ⟨_,r⟩
  ·exact zhL t a h
theorem zeP{α β:Type}{F F':α→β→Prop}:∀{l₁:List α}{l₂:List β},Paired F l₁ l₂→(∀ a b,a∈l₁→F a b→F' a b)→Paired F' l₁ l₂
 | _,_,.nil,_=>.nil
 | _,_,.cons r t,f=>.cons (f _ _ List.mem_cons_self r) (zeP t fun a b h=>f a b (List.mem_cons_of_mem _ h))
section
variable{X:Cx}{C:Cn}
theorem zaa(i:Nat){x:Str}{pos:Pos}(hN:X.N[i]? = some x:=by rfl)(hv:Vis X.env.scope x:=by first | exact Or.inl rfl | exact Or.inr (Or.inl rfl) | exact Or.inr (Or.inr rfl))(hd:(x == ("__debug__" : Str))=false:=by decide)
  (hcd:(x == ("__classdict__" : Str))=false:=by decide):JE X C (.Name x pos) (zab i):=(zbR hN hv hd hcd).weak fun σ H Q ⟨G,w,ρ,r,p⟩=>by
 unfold zab at p
 split at p
 ·rename_i d e
  obtain ⟨v,h1,h2⟩:=r.sl i _ e
  exact ⟨v,h1,p v G H w (.refl _ _ _) r h2⟩
 ·exact p.elim
theorem zjD(i:Nat){x:Str}{pos:Pos}(hN:X.N[i]? = some x:=by rfl)(hv:Vis X.env.scope x:=by first | exact Or.inl rfl | exact Or.inr (Or.inl rfl) | exact Or.inr (Or.inr rfl))(hd:(x == ("__debug__" : Str))=false:=by decide)
  (hcd:(x == ("__classdict__" : Str))=false:=by decide):JE X C (.Name x pos) (zhH i):=(zbR hN hv hd hcd).weak fun σ H Q ⟨G,w,ρ,r,p⟩=>by
 unfold zhH at p
 split at p
 ·rename_i d e
  obtain ⟨v,h1,h2⟩:=r.sl i _ e
  exact ⟨v,h1,p v G H w (.refl _ _ _) r h2⟩
 ·rename_i ds e
  obtain ⟨v,h1,a,vs,rfl,h2,h3,h4⟩:=r.sl i _ e
  have hr:Rep X.K (fun b=>if b∈[a] then H b else G b) (.lst ds) (.ref a):=by
   unfold Rep
   refine ⟨a,vs,rfl,(by simp[h3]),za6.same (fun b o e=>?_) h4⟩
   have:b≠a:=fun z=>by subst z;rw[r.wg b (by rw[h2];simp)] at e;cases e
   simp[this,e]
  obtain ⟨r',s'⟩:=r.freeze [a] (fun b hb=>by simp at hb;subst hb;exact h2) e h1 hr
  exact ⟨_,h1,p _ _ _ _ s' r' hr⟩
 ·rename_i dss e
  obtain ⟨v,h1,a,as,rfl,h2,h3,h4,h5⟩:=r.sl i _ e
  have hS:∀ b∈a :: as,w b=some i:=fun b hb=>by
   rcases List.mem_cons.mp hb with rfl | hb
   ·exact h2
   ·obtain ⟨_,z,_⟩:=zhL h5 b hb
    exact z
  have sg:zbG G (fun b=>if b∈a :: as then H b else G b):=fun b o e=>by
   have:b∉a :: as:=fun z=>by rw[r.wg b (by rw[hS b z];simp)] at e;cases e
   simp only[this,if_false];exact e
  have hr:Rep X.K (fun b=>if b∈a :: as then H b else G b) (.lst (dss.map .lst)) (.ref a):=by
   unfold Rep
   refine ⟨a,as.map V.ref,rfl,(by simp[h3]),zhe (zeP h5 fun b ds hb ⟨q1,vs,q2,q3⟩=>⟨vs,?_,za6.same sg q3⟩)⟩
   simp[hb,q2]
  obtain ⟨r',s'⟩:=r.freeze (a :: as) hS e h1 hr
  exact ⟨_,h1,p _ _ _ _ s' r' hr⟩
 ·exact p.elim
def dC(d:Dt):De:=fun ρ=>.ok (d,ρ)
theorem zan{i j pos}:JE X C (.Constant (.int i) j pos) (dC (.int i)):=PE.weak zqc fun σ H Q ⟨G,w,ρ,r,p⟩=>p _ G H w (.refl _ _ _) r (by unfold Rep;rfl)
theorem zf3{b j pos}:JE X C (.Constant (.bool b) j pos) (dC (.bl b)):=PE.weak ztO fun σ H Q ⟨G,w,ρ,r,p⟩=>p _ G H w (.refl _ _ _) r (by unfold Rep;rfl)
theorem znn{j pos}:JE X C (.Constant .none j pos) (dC .non):=PE.weak ztv fun σ H Q ⟨G,w,ρ,r,p⟩=>p _ G H w (.refl _ _ _) r (by unfold Rep;rfl)
theorem zga{x j pos}:JE X C (.Constant (.str x) j pos) (dC (.str x)):=PE.weak zta fun σ H Q ⟨G,w,ρ,r,p⟩=>p _ G H w (.refl _ _ _) r (by unfold Rep;rfl)
theorem znG{x:Str}{i:Int}{t:Tok}{pos:Pos}(hg:Gl X x)(hm:X.mg x=some (.int i t))(hd:(x == ("__debug__" : Str))=false:=by decide):JE X C (.Name x pos) (dC (.int i)) :=
 (zkB (v:=.int i) hg hm ⟨t,rfl⟩ hd).weak fun σ H Q ⟨G,w,ρ,r,p⟩=>p _ G H w (.refl _ _ _) r (by unfold Rep;rfl)
def dOp(g:Dt→Dt→R Dt)(fa fb:De):De:=fun ρ=>(fa ρ).bind fun a=>(fb a.2).bind fun b=>(g a.1 b.1).bind fun z=>.ok (z,b.2)
def Op2(K:W.Frag)(r:R2)(g:Dt→Dt→R Dt):Prop:=∀(G H:Hp)(x y:V)(dx dy z:Dt)(Q:VK),zbG G H→Rep K G dx x→Rep K G dy y→g dx dy = .ok z →
 (∀ v G' H',ze9 G H G' H'→Rep K G' z v→Q v H')→r x y H Q
def zia(g:Dt→Dt→R Dt):Prop:=∀ x y n,g x y≠.er n
variable{a b:Expr}{fa fb:De}{pos:Pos}
theorem zid{r:R2}{g:Dt→Dt→R Dt}{σ:L2.St}{H:Hp}{Q:VK}(h2:Op2 X.K r g)(he:zia g)(h:tE X.K C (dOp g fa fb) σ H Q):tOp r (tE X.K C fa) (tE X.K C fb) σ H Q:=by
 obtain ⟨G,w,ρ,rr,p⟩:=h
 refine zez (κ:=fun G H w=>kE X.K C σ Q G H w) zcA rr p fun d ρ1 v G1 H1 w1 r1 s1 q1 p1=>?_
 refine zez (κ:=fun G H w=>kE X.K C σ Q G H w) zcA r1 p1 fun d2 ρ2 v2 G2 H2 w2 r2 s2 q2 p2=>?_
 cases e:g d d2 with
 | ok z =>
  simp only[e,R.bind_ok] at p2
  refine h2 G2 H2 v v2 d d2 z Q r2.gh (q1.same s2.g) q2 e fun v3 G3 H3 gr q3=>?_
  exact p2 v3 G3 H3 w2 gr.step (r2.grow gr) q3
 | er n=>exact absurd e (he _ _ _)
 | no=>simp only[e,R.bind_no] at p2;exact p2.elim
theorem zkx{op:Operator}{r:R2}{g:Dt→Dt→R Dt}(ho:OpR X (binaryOp op) r)(h2:Op2 X.K r g)(he:zia g)(ha:JE X C a fa)(hb:JE X C b fb):JE X C (.BinOp a op b pos) (dOp g fa fb) :=
 (zrj ho ha hb).weak fun σ H Q h=>zid h2 he h
theorem zo4{op:CmpOp}{r:R2}{g:Dt→Dt→R Dt}(ho:OpR X (compareOp op) r)(h2:Op2 X.K r g)(he:zia g)(ha:JE X C a fa)(hb:JE X C b fb)(hm:behindInMarks op b=false):JE X C (.Compare a [op] [b] pos) (dOp g fa fb) :=
 (zr9 ho ha hb hm).weak fun σ H Q h=>zid h2 he h
def dTB(f:De):DT:=fun ρ=>(f ρ).bind fun a=>match a.1 with
 | .bl b=>.ok (b,a.2)
 | _=>.no
theorem zfr{K:W.Frag}{G:Hp}{b:Bool}{v:V}(h:Rep K G (.bl b) v):v = .bl b:=by unfold Rep at h;exact h
theorem zaE{K:W.Frag}{G:Hp}{b:Int}{v:V}(h:Rep K G (.int b) v):v = .int b:=by unfold Rep at h;exact h
theorem zky{K:W.Frag}{G:Hp}{b:Str}{v:V}(h:Rep K G (.str b) v):v = .str b:=by unfold Rep at h;exact h
theorem znC{K:W.Frag}{G:Hp}{v:V}(h:Rep K G .non v):v = .non:=by unfold Rep at h;exact h
theorem zfs{K:W.Frag}{G:Hp}{l:List Dt}{v:V}(h:Rep K G (.tup l) v):∃ a vs,v = .ref a∧zjT K G a vs∧za6 K G l vs:=by unfold Rep at h;exact h
theorem zcG{K:W.Frag}{G:Hp}{l:List Dt}{v:V}(h:Rep K G (.tup l) v):∃ a vs,v = .ref a∧SqT K G a vs∧za6 K G l vs:=by
 obtain ⟨a,vs,h1,h2,h3⟩:=zfs h
 exact ⟨a,vs,h1,h2.sq,h3⟩
theorem zbz{K:W.Frag}{G:Hp}{l:List Dt}{v:V}(h:Rep K G (.lst l) v):∃ a vs,v = .ref a∧G a=some (.lst vs)∧za6 K G l vs:=by unfold Rep at h;exact h
theorem zku{f:De}{σ:L2.St}{H:Hp}{Q:Bool→Hp→Prop}(h:tT X.K C (dTB f) σ H Q):tE X.K C f σ H fun x H'=>∃ k,x = .bl k∧Q k H':=by
 obtain ⟨G,w,ρ,r,p⟩:=h
 refine zez (κ:=fun G H w=>kT X.K C σ Q G H w) zp6 r p fun d ρ1 v G1 H1 w1 r1 s1 q1 p1=>?_
 cases d with
 | bl b=>exact ⟨b,zfr q1,p1 G1 H1 w1 (.refl _ _ _) r1⟩
 | _=>exact p1.elim
theorem zhC{op:CmpOp}{r:R2}{g:Dt→Dt→R Dt}(ho:OpR X (compareOp op) r)(h2:Op2 X.K r g)(he:zia g)(ha:JE X C a fa)(hb:JE X C b fb)(hm:behindInMarks op b=false):JT X C (.Compare a [op] [b] pos) (dTB (dOp g fa fb)) :=
 (zog ho ha hb hm).weak fun σ H Q h=>by
  have h':=zku h
  exact zid h2 he h'
theorem zcq{e:Expr}{f:De}(h:JE X C e f)(he:∀ whole,isTrue e X.env whole=(do let v ← whole;standAt e.pos;holding [v] (truthy v)):=by intro _;rfl):JT X C e (dTB f) :=
 (zrT h he).weak fun σ H Q h=>zku h
def zb0(f:DT):DT:=fun ρ=>(f ρ).bind fun a=>.ok (!a.1,a.2)
def zfu(f g:DT):DT:=fun ρ=>(f ρ).bind fun a=>if a.1=true then g a.2 else .ok (false,a.2)
def zk6(f g:DT):DT:=fun ρ=>(f ρ).bind fun a=>if a.1=true then .ok (true,a.2) else g a.2
variable{tA tB':DT}{zch:List Expr}
theorem zeg(ha:JT X C a tA):JT X C (.UnaryOp .Not a pos) (zb0 tA):=(zsx ha).weak fun σ H Q ⟨G,w,ρ,r,p⟩ =>
 zsY (κ:=fun G H w=>kT X.K C σ Q G H w) zp6 r p fun b ρ1 G1 H1 w1 r1 s1 p1=>p1 G1 H1 w1 (.refl _ _ _) r1
theorem zki(ha:JT X C a tA):JW X C (.BoolOp .And [a] pos) tA:=zrw ha
theorem zlp(ha:JT X C a tA):JW X C (.BoolOp .Or [a] pos) tA:=zsP ha
theorem zov(ha:JT X C a tA)(hb:JW X C (.BoolOp .And (b :: zch) pos) tB'):JW X C (.BoolOp .And (a :: b :: zch) pos) (zfu tA tB'):=(zsS ha hb).weak fun σ H Q ⟨G,w,ρ,r,p⟩=>by
 refine zsY (κ:=fun G H w=>kT X.K C σ Q G H w) zp6 r p fun b ρ1 G1 H1 w1 r1 s1 p1=>?_
 cases b with
 | true=>exact ⟨G1,w1,ρ1,r1,p1⟩
 | false=>exact p1 G1 H1 w1 (.refl _ _ _) r1
theorem zox(ha:JT X C a tA)(hb:JW X C (.BoolOp .Or (b :: zch) pos) tB'):JW X C (.BoolOp .Or (a :: b :: zch) pos) (zk6 tA tB'):=(ztN ha hb).weak fun σ H Q ⟨G,w,ρ,r,p⟩=>by
 refine zsY (κ:=fun G H w=>kT X.K C σ Q G H w) zp6 r p fun b ρ1 G1 H1 w1 r1 s1 p1=>?_
 cases b with
 | true=>exact p1 G1 H1 w1 (.refl _ _ _) r1
 | false=>exact ⟨G1,w1,ρ1,r1,p1⟩
theorem JW.jt{e:Expr}{f:DT}(h:JW X C e f):JT X C e f:=PW.pt h
def zjf(fa fb:De):De:=fun ρ=>(fa ρ).bind fun a=>match a.1 with
 | .bl true=>fb a.2
 | .bl false=>.ok (.bl false,a.2)
 | _=>.no
def ztx(fa:De):De:=fun ρ=>(fa ρ).bind fun a=>match a.1 with
 | .bl b=>.ok (.bl (!b),a.2)
 | _=>.no
theorem zgA{op}{f:De}(h:JE X C a f):JE X C (.BoolOp op [a] pos) f:=zrW h
theorem zgF(ha:JE X C a fa)(hb:JE X C (.BoolOp .And (b :: zch) pos) fb):JE X C (.BoolOp .And (a :: b :: zch) pos) (zjf fa fb):=(zsz ha hb).weak fun σ H Q ⟨G,w,ρ,r,p⟩=>by
 refine zez (κ:=fun G H w=>kE X.K C σ Q G H w) zcA r p fun d ρ1 v G1 H1 w1 r1 s1 q1 p1=>?_
 cases d with
 | bl b =>
  refine ⟨b,zfr q1,?_⟩
  cases b with
  | true=>exact ⟨G1,w1,ρ1,r1,p1⟩
  | false=>exact p1 _ G1 H1 w1 (.refl _ _ _) r1 (by unfold Rep;rfl)
 | _=>exact p1.elim
theorem zqo(ha:JE X C a fa):JE X C (.UnaryOp .Not a pos) (ztx fa):=(zrY ha).weak fun σ H Q ⟨G,w,ρ,r,p⟩=>by
 refine zez (κ:=fun G H w=>kE X.K C σ Q G H w) zcA r p fun d ρ1 v G1 H1 w1 r1 s1 q1 p1=>?_
 cases d with
 | bl b=>exact ⟨b,zfr q1,p1 _ G1 H1 w1 (.refl _ _ _) r1 (by unfold Rep;rfl)⟩
 | _=>exact p1.elim
abbrev DA:=Ev→R (List Dt × Ev)
def kA(K:W.Frag)(C:Cn)(σ:L2.St)(Q:List V→Hp→Prop)(G H:Hp)(w:Wn)(a:List Dt × Ev):Prop :=
 ∀ vs G' H' w',zb9 G H w G' H' w'→Rel K C G' w' a.2 σ H'→za6 K G' a.1 vs→Q vs H'
theorem zsf{K:W.Frag}{σ:L2.St}{Q:List V→Hp→Prop}:Stp (fun G H w=>kA K C σ Q G H w):=fun _ _ _ _ _ _ _ s k v G' H' w' s'=>k v G' H' w' (s.trans s')
def tAd(K:W.Frag)(C:Cn)(f:DA):TA:=fun σ H Q=>∃ G w ρ,Rel K C G w ρ σ H∧zcu C.ex (kA K C σ Q G H w) (f ρ)
abbrev JA(X:Cx)(C:Cn)(es:List Expr)(f:DA):Prop:=PA X es (tAd X.K C f)
def dA0:DA:=fun ρ=>.ok ([],ρ)
def dA(fa:De)(fr:DA):DA:=fun ρ=>(fa ρ).bind fun a=>(fr a.2).bind fun b=>.ok (a.1 :: b.1,b.2)
theorem zrM{K:W.Frag}{σ:L2.St}{α:Type}{κ:zoH α}(st:Stp κ){G H:Hp}{w:Wn}{ρ:Ev}{fa:DA}{g:List Dt × Ev→R α}{Q:List V→Hp→Prop}(r:Rel K C G w ρ σ H)(p:zcu C.ex (κ G H w) ((fa ρ).bind g))
  (k:∀ ds ρ1 vs G1 H1 w1,Rel K C G1 w1 ρ1 σ H1→zb9 G H w G1 H1 w1→za6 K G1 ds vs→zcu C.ex (κ G1 H1 w1) (g (ds,ρ1))→Q vs H1):tAd K C fa σ H Q:=by
 refine ⟨G,w,ρ,r,?_⟩
 cases e:fa ρ with
 | ok a =>
  rw[e] at p
  intro v G' H' w' s' r' q
  exact k a.1 a.2 v G' H' w' r' s' q (zcu.step st s' p)
 | er n=>rw[e] at p;exact p
 | no=>rw[e] at p;exact p
theorem zaF:JA X C [] dA0:=PA.weak zc4 fun σ H Q ⟨G,w,ρ,r,p⟩=>p _ G H w (.refl _ _ _) r za6.nil
theorem zao{e:Expr}{es:List Expr}{fr:DA}(ha:JE X C e fa)(hr:JA X C es fr)(hs:starEach (e :: es) X.env=(false,eval e X.env) :: starEach es X.env:=by rfl):JA X C (e :: es) (dA fa fr) :=
 (zbe ha hr hs).weak fun σ H Q ⟨G,w,ρ,r,p⟩=>by
  refine zez (κ:=fun G H w=>kA X.K C σ Q G H w) zsf r p fun d ρ1 v G1 H1 w1 r1 s1 q1 p1=>?_
  refine zrM (κ:=fun G H w=>kA X.K C σ Q G H w) zsf r1 p1 fun ds ρ2 vs G2 H2 w2 r2 s2 q2 p2=>?_
  exact p2 _ G2 H2 w2 (.refl _ _ _) r2 (za6.cons (q1.same s2.g) q2)
def zem{α:Type}(l:List α):Bool:=decide (l.length≤16777216)
def zhP(f:DA):De:=fun ρ=>(f ρ).bind fun a=>if zem a.1=true then .ok (.tup a.1,a.2) else .no
def zdl(f:DA):DN:=fun ρ=>(f ρ).bind fun a=>if zem a.1=true then .ok (a.1,a.2) else .no
theorem zhh{α:Type}{l:List α}(h:zem l=true):l.length≤sizeLine:=by
 have:=of_decide_eq_true h
 rw[show sizeLine=16777216 from by decide];exact this
theorem zeS{x1}{es:List Expr}{f:DA}(h:JA X C es f):JE X C (.Tuple es x1 pos) (zhP f):=(zqz h).weak fun σ H Q ⟨G,w,ρ,r,p⟩=>by
 refine zrM (κ:=fun G H w=>kE X.K C σ Q G H w) zcA r p fun ds ρ1 vs G1 H1 w1 r1 s1 q1 p1=>?_
 by_cases hf:zem ds=true
 ·simp only[hf,if_true] at p1
  refine ⟨by rw[← q1.length];exact zhh hf,fun a ha=>?_⟩
  have gr:ze9 G1 H1 (upd G1 a (.tup vs)) (upd H1 a (.tup vs)):=.new r1.gh ha
  exact p1 _ _ _ w1 gr.step (r1.grow gr) (by unfold Rep;exact ⟨a,vs,rfl,zjT.of zaj,q1.same gr.g⟩)
 ·simp only[hf] at p1;exact p1.elim
theorem zcn{es:List Expr}{f:DA}(h:JA X C es f):JN X C (.List es pos) (zdl f):=(zqg h).weak fun σ H Q ⟨G,w,ρ,r,p⟩=>by
 refine zrM (κ:=fun G H w=>kN X.K C σ Q G H w) zeU r p fun ds ρ1 vs G1 H1 w1 r1 s1 q1 p1=>?_
 by_cases hf:zem ds=true
 ·simp only[hf,if_true] at p1
  refine ⟨by rw[← q1.length];exact zhh hf,fun a ha=>?_⟩
  have gr:ze9 G1 H1 G1 (upd H1 a (.lst vs)):=.newH r1.gh ha
  exact p1 a vs _ _ w1 gr.step (r1.grow gr) ha zaj (r1.gh.free ha) (by
   cases z:w1 a with
   | none=>rfl
   | some k=>exact absurd ha (r1.wh a (by rw[z];simp))) q1
 ·simp only[hf] at p1;exact p1.elim
def dFz(f:DN):De:=fun ρ=>(f ρ).bind fun a=>.ok (.lst a.1,a.2)
theorem Rel.know{K:W.Frag}{σ:L2.St}{G H:Hp}{w:Wn}{ρ:Ev}{p:Addr}{o:HO}(r:Rel K C G w ρ σ H)(hp:H p=some o)(hg:G p=none)(hw:w p=none)(H0:Hp)(G0:Hp)(w0:Wn)(s:zb9 G0 H0 w0 G H w)(h0:H0 p=none)
  (e0:C.H₀ p=none∨C.w₀ p≠none∨C.G₀ p≠none):Rel K C (upd G p o) w ρ σ H∧zb9 G0 H0 w0 (upd G p o) H w:=by
 have sg:zbG G (upd G p o):=fun b u e=>by rw[zai (zah e hg)];exact e
 have s1:∀{G1 H1:Hp}{w1:Wn},zb9 G1 H1 w1 G H w→(H1 p=none∨w1 p≠none∨G1 p≠none)→zb9 G1 H1 w1 (upd G p o) H w:=fun s z=>by
  refine ⟨s.g.trans sg,fun b u e=>?_,s.h,s.w,s.k⟩
  by_cases hb:b=p
  ·subst hb
   rcases z with z | z | z
   ·exact .inr (.inl z)
   ·exact .inr (.inr z)
   ·exact .inl z
  ·rw[zai hb] at e;exact s.fr b u e
 refine ⟨⟨fun b u e=>?_,fun b e=>?_,r.wh,r.len,fun i b e=>?_,s1 r.en e0,r.pin⟩,s1 s (.inl h0)⟩
 ·by_cases hb:b=p
  ·subst hb;rw[zaj] at e;cases e;exact hp
  ·rw[zai hb] at e;exact r.gh b u e
 ·by_cases hb:b=p
  ·subst hb;rw[hw] at e;exact absurd rfl e
  ·rw[zai hb];exact r.wg b e
 ·obtain ⟨v,h1,h2⟩:=r.sl i b e
  exact ⟨v,h1,h2.grow sg fun _ _ e1 e2=>⟨e2,e1⟩⟩
end
section
variable{X:Cx}{C:Cn}{a b e:Expr}{fa fb:De}{pos:Pos}
theorem zaD{f:DN}(h:JN X C e f):JE X C e (dFz f):=PE.weak h fun σ H Q ⟨G,w,ρ,r,p⟩=>by
 refine zui (κ:=fun G H w=>kE X.K C σ Q G H w) r p fun ds ρ1 a vs G1 H1 w1 r1 s1 h0 h1 h2 h3 q1 p1=>?_
 obtain ⟨r',s'⟩:=r1.know h1 h2 h3 H G w s1 h0 (.inl (r.en.k a h0))
 have sg:zbG G1 (upd G1 a (.lst vs)):=fun b u e=>by rw[zai (zah e h2)];exact e
 exact p1 _ _ _ _ s' r' (by unfold Rep;exact ⟨a,vs,rfl,zaj,q1.same sg⟩)
def za4(f g:DS):DS:=fun ρ=>(f ρ).bind fun a=>match a.1 with
 | .nx=>g a.2
 | fl=>.ok (fl,a.2)
def dNx:DS:=fun ρ=>.ok (.nx,ρ)
variable{st:Stmt}{zch:List Stmt}{fs gs:DS}
theorem zaP:JSs X C [] dNx:=PSs.weak zri fun D σ H ⟨G,w,ρ,r,p⟩=>p σ G H w (.refl _ _ _) r
theorem zag(h1:JS X C st fs)(h2:JSs X C zch gs):JSs X C (st :: zch) (za4 fs gs):=PSs.weak (zfo h1 h2) fun D σ H ⟨G,w,ρ,r,p⟩=>by
 refine ⟨G,w,ρ,r,?_⟩
 unfold za4 at p
 cases e:fs ρ with
 | ok x =>
  rw[e] at p
  obtain ⟨fl,ρ1⟩:=x
  cases fl with
  | nx=>exact fun σ' G' H' w' s' r'=>⟨G',w',ρ1,r',zcu.step zeb s' p⟩
  | bk=>exact p
  | ct=>exact p
  | rt d=>exact p
 | er n=>rw[e] at p;exact p
 | no=>rw[e] at p;exact p
theorem zak(h1:JS X C st fs):JSs X C [st] fs:=zo3 h1
def dEx(f:De):DS:=fun ρ=>(f ρ).bind fun a=>.ok (.nx,a.2)
theorem zci(he:JE X C e fa)(hs:swapsWith e none pos.line X.env=pure false:=by rfl):JS X C (.Expr e pos) (dEx fa):=PS.weak (zkv he hs) fun D σ H ⟨G,w,ρ,r,p⟩ =>
 zez (κ:=fun G H w=>kS X.K C D G H w) zeb r p fun d ρ1 v G1 H1 w1 r1 s1 q1 p1=>p1 σ G1 H1 w1 (.refl _ _ _) r1
def zb2(f:De):DS:=fun ρ=>(f ρ).bind fun a=>.ok (.rt a.1,a.2)
theorem zaA(hn:C.nw=false)(he:JE X C e fa):JS X C (.Return (some e) pos) (zb2 fa):=PS.weak (zqt he) fun D σ H ⟨G,w,ρ,r,p⟩ =>
 zez (κ:=fun G H w=>kS X.K C D G H w) zeb r p fun d ρ1 v G1 H1 w1 r1 s1 q1 p1=>p1 v σ G1 H1 w1 (.refl _ _ _) r1 (by rw[hn];exact q1)
def zeN(f:DN):DS:=fun ρ=>(f ρ).bind fun a=>.ok (.rt (.lst a.1),a.2)
theorem zhZ{f:DN}(hn:C.nw=true)(he:JN X C e f):JS X C (.Return (some e) pos) (zeN f):=PS.weak (zqt he) fun D σ H ⟨G,w,ρ,r,p⟩ =>
 zui (κ:=fun G H w=>kS X.K C D G H w) r p fun ds ρ1 a vs G1 H1 w1 r1 s1 h0 h1 h2 h3 q1 p1=>p1 _ σ G1 H1 w1 s1 r1 (by rw[hn];exact ⟨ds,a,vs,rfl,rfl,r.en.k a h0,h1,h2,h3,q1⟩)
def dIf(c:DT)(f g:DS):DS:=fun ρ=>(c ρ).bind fun b=>if b.1=true then f b.2 else g b.2
theorem zbV{c:Expr}{A B:List Stmt}{tc:DT}(hc:JT X C c tc)(ha:JSs X C A fs)(hb:JSs X C B gs):JS X C (.If c A B pos) (dIf tc fs gs):=PS.weak (ztE hc ha hb) fun D σ H ⟨G,w,ρ,r,p⟩=>by
 refine zsY (κ:=fun G H w=>kS X.K C D G H w) zeb r p fun b ρ1 G1 H1 w1 r1 s1 p1=>?_
 cases b with
 | true=>exact ⟨G1,w1,ρ1,r1,p1⟩
 | false=>exact ⟨G1,w1,ρ1,r1,p1⟩
theorem Rel.setVal{K:W.Frag}{σ:L2.St}{G H:Hp}{w:Wn}{ρ:Ev}{i:Nat}{d:Dt}{v:V}(r:Rel K C G w ρ σ H)(hi:i < ρ.length)(hp:i∉C.pp)(h:Rep K G d v):Rel K C G w (ρ.set i (some (.val d))) (σ.set i (some v)) H:=by
 refine ⟨r.gh,r.wg,r.wh,by simpa using r.len,fun j b e=>?_,r.en,fun j hj=>?_⟩
 ·by_cases hj:j=i
  ·subst hj
   rw[List.getElem?_set_self hi] at e
   cases e
   exact ⟨v,List.getElem?_set_self (by rw[← r.len];exact hi),h⟩
  ·rw[List.getElem?_set_ne (Ne.symm hj)] at e
   obtain ⟨v',h1,h2⟩:=r.sl j b e
   exact ⟨v',by rw[List.getElem?_set_ne (Ne.symm hj)];exact h1,h2⟩
 ·have:i≠j:=fun z=>hp (z ▸ hj)
  rw[List.getElem?_set_ne this];exact r.pin j hj
theorem Rel.setOwn{K:W.Frag}{σ:L2.St}{G0 H0:Hp}{w0:Wn}{G H:Hp}{w:Wn}{ρ:Ev}{i:Nat}{ds:List Dt}{p:Addr}{vs:List V}(r:Rel K C G w ρ σ H)(hi:i < ρ.length)(hpp:i∉C.pp)(hp:H p=some (.lst vs))(hg:G p=none)(hw:w p=none)
  (q:za6 K G ds vs) (s:zb9 G0 H0 w0 G H w) (h0:H0 p=none) (en0:C.H₀ p=none) :
  Rel K C G (fun b=>if b=p then some i else w b) (ρ.set i (some (.own ds))) (σ.set i (some (.ref p))) H∧zb9 G0 H0 w0 G H (fun b=>if b=p then some i else w b):=by
 have s1:∀{G1 H1:Hp}{w1:Wn},zb9 G1 H1 w1 G H w→H1 p=none→zb9 G1 H1 w1 G H (fun b=>if b=p then some i else w b):=fun s z=>by
  refine ⟨s.g,s.fr,s.h,fun b e=>?_,s.k⟩
  by_cases hb:b=p
  ·subst hb;exact .inr z
  ·simp[hb] at e;exact s.w b e
 refine ⟨⟨r.gh,fun b e=>?_,fun b e=>?_,by simpa using r.len,fun j b e=>?_,s1 r.en en0,fun j hj=>?_⟩,s1 s h0⟩
 ·by_cases hb:b=p
  ·subst hb;exact hg
  ·simp[hb] at e;exact r.wg b e
 ·by_cases hb:b=p
  ·subst hb;rw[hp];simp
  ·simp[hb] at e;exact r.wh b e
 ·by_cases hj:j=i
  ·subst hj
   rw[List.getElem?_set_self hi] at e
   cases e
   exact ⟨_,List.getElem?_set_self (by rw[← r.len];exact hi),p,vs,rfl,by simp,hp,q⟩
  ·rw[List.getElem?_set_ne (Ne.symm hj)] at e
   obtain ⟨v',h1,h2⟩:=r.sl j b e
   refine ⟨v',by rw[List.getElem?_set_ne (Ne.symm hj)];exact h1,h2.grow (.refl _) fun a o e1 e2=>⟨e2,?_⟩⟩
   have:a≠p:=fun z=>by subst z;rw[hw] at e1;cases e1
   simp[this,e1]
 ·have:i≠j:=fun z=>hpp (z ▸ hj)
  rw[List.getElem?_set_ne this];exact r.pin j hj
def zbg(i:Nat)(f:De):DS:=fun ρ=>(f ρ).bind fun a=>if i < a.2.length then .ok (.nx,a.2.set i (some (.val a.1))) else .no
theorem zbm{i:Nat}{x:Str}{pos':Pos}(hN:X.N.Nodup)(hi:X.N[i]? = some x)(hx:Loc X.env.scope x)(hp:i∉C.pp)(he:JE X C e fa)(hs:swapsWith e (some (.Name x pos')) pos.line X.env=pure false:=by rfl)
  (hf:X.fn x=true∨X.env.scope.names.lookup x=some .local:=by first | exact .inl rfl | exact .inr rfl | assumption):JS X C (.Assign [.Name x pos'] e pos) (zbg i fa) :=
 PS.weak (zl3 hN hi hx he hs) fun D σ H ⟨G,w,ρ,r,p⟩=>by
  refine zez (κ:=fun G H w=>kS X.K C D G H w) zeb r p fun d ρ1 v G1 H1 w1 r1 s1 q1 p1=>?_
  by_cases hl:i < ρ1.length
  ·simp only[hl,if_true] at p1
   exact p1 _ G1 H1 w1 (.refl _ _ _) (r1.setVal hl hp q1)
  ·simp only[hl,if_false] at p1
   exact p1.elim
def zcg(i:Nat)(f:DN):DS:=fun ρ=>(f ρ).bind fun a=>if i < a.2.length then .ok (.nx,a.2.set i (some (.own a.1))) else .no
theorem zeA{i:Nat}{x:Str}{pos':Pos}{f:DN}(hN:X.N.Nodup)(hi:X.N[i]? = some x)(hx:Loc X.env.scope x)(hp:i∉C.pp)(he:JN X C e f)(hs:swapsWith e (some (.Name x pos')) pos.line X.env=pure false:=by rfl)
  (hf:X.fn x=true∨X.env.scope.names.lookup x=some .local:=by first | exact .inl rfl | exact .inr rfl | assumption):JS X C (.Assign [.Name x pos'] e pos) (zcg i f) :=
 PS.weak (zl3 hN hi hx he hs) fun D σ H ⟨G,w,ρ,r,p⟩=>by
  refine zui (κ:=fun G H w=>kS X.K C D G H w) r p fun ds ρ1 a vs G1 H1 w1 r1 s1 h0 h1 h2 h3 q1 p1=>?_
  by_cases hl:i < ρ1.length
  ·simp only[hl,if_true] at p1
   obtain ⟨r',s'⟩:=r1.setOwn hl hp h1 h2 h3 q1 s1 h0 (r.en.k a h0)
   exact p1 _ _ _ _ s' r'
  ·simp only[hl,if_false] at p1
   exact p1.elim
def zn8(i:Nat)(fb:De):De:=fun ρ=>match ρ[i]? with
 | some (some _)=>(fb ρ).bind fun b=>match b.2[i]?,b.1 with
  | some (some (.own ds)),.int k=>match atI ds k with
   | some d=>.ok (d,b.2)
   | none=>.no
  | _,_=>.no
 | _=>.no
theorem ziv{K:W.Frag}{G:Hp}{ds:List Dt}{vs:List V}{k:Int}{d:Dt}(h:za6 K G ds vs)(e:atI ds k=some d):∃ v,atI vs k=some v∧Rep K G d v:=by
 unfold atI at e ⊢
 rw[← h.length]
 cases q:ixN ds.length k with
 | none=>rw[q] at e;cases e
 | some j =>
  rw[q] at e
  exact h.get e
theorem zgJ(i:Nat){x:Str}{ps:Pos}(hN:X.N[i]? = some x:=by rfl)(hb:JE X C b fb)(hv:Vis X.env.scope x:=by first | exact Or.inl rfl | exact Or.inr (Or.inl rfl) | exact Or.inr (Or.inr rfl))(hd:(x == ("__debug__" : Str))=false:=by decide)
  (hcd:(x == ("__classdict__" : Str))=false:=by decide) (hs:zkL b:=by exact fun _ _=>rfl):JE X C (.Subscript (.Name x ps) b pos) (zn8 i fb) :=
 PE.weak (zts zob (zbR hN hv hd hcd) hb hs) fun σ H Q ⟨G,w,ρ,r,p⟩=>by
  unfold zn8 at p
  split at p
  ·rename_i b0 e0
   obtain ⟨v0,h0,_⟩:=r.sl i b0 e0
   refine ⟨v0,h0,?_⟩
   refine zez (κ:=fun G H w=>kE X.K C σ Q G H w) zcA r p fun d ρ1 v G1 H1 w1 r1 s1 q1 p1=>?_
   dsimp only at p1
   split at p1
   ·rename_i ds k e1
    obtain ⟨v1,h1,a,vs,rfl,h2,h3,h4⟩:=r1.sl i _ e1
    rw[h0] at h1;cases h1
    split at p1
    ·rename_i d' e2
     obtain ⟨v2,h5,h6⟩:=ziv h4 e2
     exact ⟨a,vs,k,v2,rfl,zaE q1,SqL.of h3,h5,p1 v2 G1 H1 w1 (.refl _ _ _) r1 h6⟩
    ·exact p1.elim
   ·exact p1.elim
  ·exact p.elim
end
def zoB(K:W.Frag)(J:It)(G:Hp)(ds:List Dt):Prop:=∀(i:Nat)(G1 H:Hp),zbG G G1→zbG G1 H →
 (∀ d,ds[i]? = some d→J.go i H∧∀ x H',J.yld i H x H'→∃ G2,ze9 G1 H G2 H'∧Rep K G2 d x)∧(ds.length≤i→J.stop i H)
def kI(K:W.Frag)(C:Cn)(σ:L2.St)(Q:It→Hp→Prop)(G H:Hp)(w:Wn)(a:List Dt × Ev):Prop :=
 ∀ J G' H' w',zb9 G H w G' H' w'→Rel K C G' w' a.2 σ H'→zoB K J G' a.1→Q J H'
def tI(K:W.Frag)(C:Cn)(f:DA):TI:=fun σ H Q=>∃ G w ρ,Rel K C G w ρ σ H∧zcu C.ex (kI K C σ Q G H w) (f ρ)
abbrev JI(X:Cx)(C:Cn)(tg iter:Expr)(f:DA):Prop:=PI X tg iter (tI X.K C f)
section
variable{X:Cx}{C:Cn}{tg iter:Expr}{fa:De}{pos:Pos}
theorem ztI{K:W.Frag}{σ:L2.St}{α:Type}{κ:zoH α}(st:Stp κ){G H:Hp}{w:Wn}{ρ:Ev}{fa:DA}{g:List Dt × Ev→R α}{Q:It→Hp→Prop}(r:Rel K C G w ρ σ H)(p:zcu C.ex (κ G H w) ((fa ρ).bind g))
  (k:∀ ds ρ1 J G1 H1 w1,Rel K C G1 w1 ρ1 σ H1→zb9 G H w G1 H1 w1→zoB K J G1 ds→zcu C.ex (κ G1 H1 w1) (g (ds,ρ1))→Q J H1):tI K C fa σ H Q:=by
 refine ⟨G,w,ρ,r,?_⟩
 cases e:fa ρ with
 | ok a =>
  rw[e] at p
  intro v G' H' w' s' r' q
  exact k a.1 a.2 v G' H' w' r' s' q (zcu.step st s' p)
 | er n=>rw[e] at p;exact p
 | no=>rw[e] at p;exact p
theorem PI.or{t t':TI}(h:PI X tg iter t)(h':PI X tg iter t'):PI X tg iter (fun σ H Q=>t σ H Q∨t' σ H Q):=fun pins s σ H Q I q=>q.elim (h pins s σ H Q I) (h' pins s σ H Q I)
theorem PI.weak{t t':TI}(h:PI X tg iter t)(k:∀ σ H Q,t' σ H Q→t σ H Q):PI X tg iter t':=fun pins s σ H Q I q=>h pins s σ H Q I (k σ H Q q)
def dIt(f:De):DA:=fun ρ=>(f ρ).bind fun a=>match a.1 with
 | .lst l=>.ok (l,a.2)
 | .tup l=>.ok (l,a.2)
 | _=>.no
theorem zsa{K:W.Frag}{G:Hp}{a:Addr}{vs:List V}{ds:List Dt}(hs:SqT K G a vs)(q:za6 K G ds vs):zoB K (Itt K a) G ds:=fun i G1 H s1 s2=>by
 refine ⟨fun d e=>?_,fun h=>⟨vs,zaM s2 (zaM s1 hs),by rw[← q.length];exact h⟩⟩
 obtain ⟨v,e1,e2⟩:=q.get e
 refine ⟨⟨vs,v,zaM s2 (zaM s1 hs),e1⟩,fun x H' y=>?_⟩
 obtain ⟨rfl,y⟩:=y
 have:=y vs (zaM s2 (zaM s1 hs))
 rw[e1] at this;cases this
 exact ⟨G1,.refl s2,e2.same s1⟩
theorem zr3{K:W.Frag}{G:Hp}{a:Addr}{vs:List V}{ds:List Dt}(hs:SqL K G a vs)(q:za6 K G ds vs):zoB K (Itl K a) G ds:=fun i G1 H s1 s2=>by
 refine ⟨fun d e=>?_,fun h=>⟨vs,s2.seq (s1.seq hs),by rw[← q.length];exact h⟩⟩
 obtain ⟨v,e1,e2⟩:=q.get e
 refine ⟨⟨vs,v,s2.seq (s1.seq hs),e1⟩,fun x H' y=>?_⟩
 obtain ⟨rfl,y⟩:=y
 have:=y vs (s2.seq (s1.seq hs))
 rw[e1] at this;cases this
 exact ⟨G1,.refl s2,e2.same s1⟩
theorem zdj(h:JE X C iter fa):JI X C tg iter (dIt fa):=PI.weak (PI.or (zkf h) (zs7 h)) fun σ H Q ⟨G,w,ρ,r,p⟩=>by
 unfold dIt at p
 cases e:fa ρ with
 | ok x =>
  obtain ⟨d,ρ1⟩:=x
  cases d with
  | lst l =>
   rw[e] at p
   refine .inl ⟨G,w,ρ,r,?_⟩
   rw[e]
   intro v G' H' w' s' r' q
   obtain ⟨a,vs,rfl,h1,h2⟩:=zbz q
   exact ⟨a,rfl,⟨vs,SqL.of (r'.gh _ _ h1)⟩,p _ G' H' w' s' r' (zr3 (SqL.of h1) h2)⟩
  | tup l =>
   rw[e] at p
   refine .inr ⟨G,w,ρ,r,?_⟩
   rw[e]
   intro v G' H' w' s' r' q
   obtain ⟨a,vs,rfl,h1,h2⟩:=zcG q
   exact ⟨a,rfl,⟨vs,zaM r'.gh h1⟩,p _ G' H' w' s' r' (zsa h1 h2)⟩
  | _=>rw[e] at p;exact p.elim
 | er n=>rw[e] at p;exact .inl ⟨G,w,ρ,r,by rw[e];exact p⟩
 | no=>rw[e] at p;exact p.elim
def zbh(lo:Int)(n:Nat):List Dt:=(List.range n).map fun k=>.int (lo + (k:Nat))
theorem zs8{K:W.Frag}{G:Hp}{lo:Int}{n:Nat}:zoB K (Itr lo n) G (zbh lo n):=fun i G1 H s1 s2=>by
 refine ⟨fun d e=>?_,fun h=>show n≤i by simpa [zbh] using h⟩
 unfold zbh at e
 rw[List.getElem?_map] at e
 by_cases hi:i < n
 ·rw[List.getElem?_range hi] at e
  cases e
  refine ⟨hi,fun x H' y=>?_⟩
  obtain ⟨rfl,rfl⟩:=y
  exact ⟨G1,.refl s2,by unfold Rep;rfl⟩
 ·rw[List.getElem?_eq_none (by simpa using hi)] at e
  cases e
def zeY(j:Int):Bool:=decide (-4611686018427387904≤j) && decide (j < 4611686018427387904)
theorem zgu{j:Int}(h:zeY j=true):-(2 ^ 62)≤j∧j < 2 ^ 62:=by
 unfold zeY at h
 rw[Bool.and_eq_true] at h
 have h1:=of_decide_eq_true h.1
 have h2:=of_decide_eq_true h.2
 omega
def zbO(fa:De):DA:=fun ρ=>(fa ρ).bind fun a=>match a.1 with
 | .int j=>if zeY j=true then .ok (zbh 0 j.toNat,a.2) else .no
 | _=>.no
theorem zcS{e:Expr}{p ps:Pos}(hg:Gl X "range")(hm:X.mg "range"=none)(he:JE X C e fa)(hs:starEach [e] X.env=[(false,eval e X.env)]:=by rfl):JI X C tg (.Call (.Name "range" p) [e] [] ps) (zbO fa) :=
 PI.weak (zod hg hm (zao he zaF (by rw[hs];rfl)) hs) fun σ H Q ⟨G,w,ρ,r,p⟩=>by
  unfold zbO at p
  refine ⟨G,w,ρ,r,?_⟩
  unfold dA dA0
  cases e:fa ρ with
  | ok x =>
   obtain ⟨d,ρ1⟩:=x
   rw[e] at p
   intro vs G' H' w' s' r' q
   obtain ⟨v,t,rfl,q1,q2⟩:=q.cons_inv
   rw[q2.nil_inv]
   cases d with
   | int j =>
    simp only[R.bind_ok] at p
    by_cases hj:zeY j=true
    ·simp only[hj,if_true] at p
     exact ⟨j,by rw[zaE q1],(zgu hj).1,(zgu hj).2,p _ G' H' w' s' r' zs8⟩
    ·simp only[hj] at p;exact p.elim
   | _=>exact p.elim
  | er n=>rw[e] at p;exact p
  | no=>rw[e] at p;exact p
abbrev DG:=Dt→Ev→R Ev
def kG(K:W.Frag)(C:Cn)(Q:L2.St→Hp→Prop)(G H:Hp)(w:Wn)(ρ:Ev):Prop :=
 ∀ σ' G' H' w',zb9 G H w G' H' w'→Rel K C G' w' ρ σ' H'→Q σ' H'
def tG(K:W.Frag)(C:Cn)(g:DG):TG:=fun v σ H Q=>∃ G w ρ d,Rel K C G w ρ σ H∧Rep K G d v∧zcu C.ex (kG K C Q G H w) (g d ρ)
abbrev JG(X:Cx)(C:Cn)(tg:Expr)(g:DG):Prop:=PG X tg (tG X.K C g)
theorem PG.weak{t t':TG}(h:PG X tg t)(k:∀ v σ H Q,t' v σ H Q→t v σ H Q):PG X tg t':=fun pins s σ H v u Q I r q=>h pins s σ H v u Q I r (k v σ H Q q)
def zbo(i:Nat):DG:=fun d ρ=>if i < ρ.length then .ok (ρ.set i (some (.val d))) else .no
theorem zbr{i:Nat}{x:Str}(hN:X.N.Nodup)(hi:X.N[i]? = some x)(hx:Loc X.env.scope x)(hp:i∉C.pp)(hf:X.fn x=true∨X.env.scope.names.lookup x=some .local:=by first | exact .inl rfl | exact .inr rfl | assumption):JG X C (.Name x pos) (zbo i) :=
 PG.weak (zil hN hi hx hf) fun v σ H Q ⟨G,w,ρ,d,r,q,p⟩=>by
  unfold zbo at p
  by_cases hl:i < ρ.length
  ·simp only[hl,if_true] at p
   exact p _ G H w (.refl _ _ _) (r.setVal hl hp q)
  ·simp only[hl,if_false] at p;exact p.elim
def zgi(i j:Nat):DG:=fun d ρ=>match d with
 | .tup [a,b]=>if i < ρ.length∧j < ρ.length then .ok ((ρ.set i (some (.val a))).set j (some (.val b))) else .no
 | _=>.no
theorem zo6{i j k:Nat}{x y:Str}{p1 p2:Pos}(hc:X.calm=true)(hN:X.N.Nodup)(hi:X.N[i]? = some x)(hj:X.N[j]? = some y)(hx:Loc X.env.scope x)(hy:Loc X.env.scope y)(hp:i∉C.pp)(hq:j∉C.pp)
  (hf:X.fn x=true∨X.env.scope.names.lookup x=some .local:=by first | exact .inl rfl | exact .inr rfl | assumption) (hf2:X.fn y=true∨X.env.scope.names.lookup y=some .local:=by first | exact .inl rfl | exact .inr rfl | assumption)
  (hs1:(assignEach [.Name x p1,.Name y p2] X.env).map (·.2)=assign (.Name x p1) X.env :: (assignEach [.Name y p2] X.env).map (·.2):=by rfl) (hs2:(assignEach [.Name y p2] X.env).map (·.2)=assign (.Name y p2) X.env :: (assignEach [] X.env).map (·.2):=by rfl)
  (hn:(assignEach [.Name x p1,.Name y p2] X.env).length=2:=by rfl) (hst:(assignEach [.Name x p1,.Name y p2] X.env).findIdx? (·.1)=none:=by rfl):JG X C (.Tuple [.Name x p1,.Name y p2] k pos) (zgi i j) :=
 PG.weak (zs9 hc (zl0 (zil hN hi hx hf) (zl0 (zil hN hj hy hf2) zro hs2) hs1) hn hst) fun v σ H Q ⟨G,w,ρ,d,r,q,p⟩=>by
  unfold zgi at p
  split at p
  ·rename_i a b
   obtain ⟨ad,vs,rfl,h1,h2⟩:=zcG q
   obtain ⟨v1,t,rfl,q1,q2⟩:=h2.cons_inv
   obtain ⟨v2,t2,rfl,q3,q4⟩:=q2.cons_inv
   rw[q4.nil_inv] at h1
   by_cases hl:i < ρ.length∧j < ρ.length
   ·simp only[hl,and_self,if_true] at p
    have r1:=r.setVal hl.1 hp q1
    have r2:=r1.setVal (i:=j) (by simpa using hl.2) hq q3
    exact ⟨ad,_,rfl,zaM r.gh h1,rfl,v1,_,rfl,v2,_,rfl,rfl,p _ G H w (.refl _ _ _) r2⟩
   ·simp only[hl,if_false] at p;exact p.elim
  ·exact p.elim
def ziB(g:DG)(body:DS):List Dt→DS
 | [],ρ=>.ok (.nx,ρ)
 | d :: r,ρ=>(g d ρ).bind fun ρ1=>(body ρ1).bind fun a=>match a.1 with
  | .nx=>ziB g body r a.2
  | .ct=>ziB g body r a.2
  | .bk=>.ok (.nx,a.2)
  | .rt v=>.ok (.rt v,a.2)
def zgh(fi:DA)(g:DG)(body:DS):DS:=fun ρ=>(fi ρ).bind fun a=>ziB g body a.1 a.2
theorem zgT{body:List Stmt}{fi:DA}{g:DG}{fb:DS}(hp:PassesOwn (model X.prog X.w) X.A X.env X.xe)(hc:X.calm=true)(hi:JI X C tg iter fi)(hg:JG X C tg g)(hb:JSs X C body fb)
  (hs:∀ x,foldedSetIterable iter X.env x=pure x:=by intro _;rfl):JS X C (.For tg iter body [] pos) (zgh fi g fb) :=
 PS.weak (zsZ hp hc hi hg hb hs) fun D σ H ⟨G,w,ρ,r,p⟩=>by
  refine ztI (κ:=fun G H w=>kS X.K C D G H w) zeb r p fun ds ρ1 J G1 H1 w1 r1 s1 it p1=>?_
  refine ⟨fun i m σ' H'=>m=ds.length - i∧i≤ds.length∧∃ G' w' ρ',zbG G1 G'∧Rel X.K C G' w' ρ' σ' H'∧zcu C.ex (kS X.K C D G' H' w') (ziB g fb (ds.drop i) ρ'),
   ⟨ds.length,by simp,Nat.zero_le _,G1,w1,ρ1,.refl _,r1,by simpa using p1⟩,?_⟩
  rintro i m σ2 H2 ⟨rfl,hi,G2,w2,ρ2,s2,r2,p2⟩
  obtain ⟨it1,it2⟩:=it i G2 H2 s2 r2.gh
  by_cases hlt:i < ds.length
  ·have ed:ds.drop i=ds[i] :: ds.drop (i + 1):=List.drop_eq_getElem_cons hlt
   obtain ⟨go,yl⟩:=it1 ds[i] (by simp[hlt])
   rw[ed] at p2
   refine .inr ⟨go,fun σ' H'=>(ds.length - (i + 1))=ds.length - (i + 1)∧i + 1≤ds.length∧∃ G' w' ρ',zbG G1 G'∧Rel X.K C G' w' ρ' σ' H'∧zcu C.ex (kS X.K C D G' H' w') (ziB g fb (ds.drop (i + 1)) ρ'),
    fun σ' H' h=>⟨ds.length - (i + 1),by omega,h⟩,fun x H' y=>?_⟩
   obtain ⟨G3,gr,q3⟩:=yl x H' y
   have r3:=r2.grow gr
   have p3:=zcu.step (κ:=fun G H w=>kS X.K C D G H w) zeb gr.step (w1:=w2) p2
   refine ⟨G3,w2,ρ2,ds[i],r3,q3,?_⟩
   unfold ziB at p3
   cases eg:g ds[i] ρ2 with
   | ok ρ3 =>
    rw[eg] at p3
    intro σ4 G4 H4 w4 s4 r4
    have p4:=zcu.step (κ:=fun G H w=>kS X.K C D G H w) zeb s4 p3
    refine ⟨G4,w4,ρ3,r4,?_⟩
    cases eb:fb ρ3 with
    | ok z =>
     obtain ⟨fl,ρ5⟩:=z
     rw[R.bind_ok,eb] at p4
     have sG:zbG G1 G4:=(s2.trans gr.g).trans s4.g
     cases fl with
     | nx=>exact fun σ6 G6 H6 w6 s6 r6=>⟨rfl,hlt,G6,w6,ρ5,sG.trans s6.g,r6,zcu.step (κ:=fun G H w=>kS X.K C D G H w) zeb s6 p4⟩
     | ct=>exact fun σ6 G6 H6 w6 s6 r6=>⟨rfl,hlt,G6,w6,ρ5,sG.trans s6.g,r6,zcu.step (κ:=fun G H w=>kS X.K C D G H w) zeb s6 p4⟩
     | bk=>exact p4
     | rt v=>exact p4
    | er n=>rw[R.bind_ok,eb] at p4;exact p4
    | no=>rw[R.bind_ok,eb] at p4;exact p4
   | er n=>rw[eg] at p3;exact p3
   | no=>rw[eg] at p3;exact p3
  ·have e:i=ds.length:=by omega
   subst e
   simp only[List.drop_length] at p2
   exact .inl ⟨it2 (Nat.le_refl _),p2 σ2 G2 H2 w2 (.refl _ _ _) r2⟩
def zek(c:DT)(body:DS):Nat→DS
 | 0,_=>.no
 | n + 1,ρ=>(c ρ).bind fun t=>if t.1=true then (body t.2).bind fun a=>match a.1 with
   | .nx=>zek c body n a.2
   | .ct=>zek c body n a.2
   | .bk=>.ok (.nx,a.2)
   | .rt v=>.ok (.rt v,a.2)
  else .ok (.nx,t.2)
theorem zpE(n:Nat){c:Expr}{body:List Stmt}{tc:DT}{fb:DS}(hp:PassesOwn (model X.prog X.w) X.A X.env X.xe)(hc:JT X C c tc)(hb:JSs X C body fb):JS X C (.While c body [] pos) (zek tc fb n) :=
 PS.weak (zpK hp hc hb) fun D σ H ⟨G,w,ρ,r,p⟩=>by
  refine ⟨fun m σ' H'=>∃ G' w' ρ',Rel X.K C G' w' ρ' σ' H'∧zcu C.ex (kS X.K C D G' H' w') (zek tc fb m ρ'),⟨n,G,w,ρ,r,p⟩,?_⟩
  rintro m σ1 H1 ⟨G1,w1,ρ1,r1,p1⟩
  cases m with
  | zero=>exact p1.elim
  | succ m =>
   unfold zek at p1
   refine zsY (κ:=fun G H w=>kS X.K C D G H w) zeb r1 p1 fun b ρ2 G2 H2 w2 r2 s2 p2=>?_
   cases b with
   | false=>exact p2 σ1 G2 H2 w2 (.refl _ _ _) r2
   | true =>
    refine ⟨fun σ' H'=>∃ G' w' ρ',Rel X.K C G' w' ρ' σ' H'∧zcu C.ex (kS X.K C D G' H' w') (zek tc fb m ρ'),fun σ' H' h=>⟨m,Nat.lt_succ_self _,h⟩,G2,w2,ρ2,r2,?_⟩
    have p2:zcu C.ex (kS X.K C D G2 H2 w2) ((fb ρ2).bind fun a=>match a.1 with
     | .nx=>zek tc fb m a.2
     | .ct=>zek tc fb m a.2
     | .bk=>.ok (.nx,a.2)
     | .rt v=>.ok (.rt v,a.2)):=p2
    cases eb:fb ρ2 with
    | ok z =>
     obtain ⟨fl,ρ5⟩:=z
     rw[eb] at p2
     cases fl with
     | nx=>exact fun σ6 G6 H6 w6 s6 r6=>⟨G6,w6,ρ5,r6,zcu.step (κ:=fun G H w=>kS X.K C D G H w) zeb s6 p2⟩
     | ct=>exact fun σ6 G6 H6 w6 s6 r6=>⟨G6,w6,ρ5,r6,zcu.step (κ:=fun G H w=>kS X.K C D G H w) zeb s6 p2⟩
     | bk=>exact p2
     | rt v=>exact p2
    | er n=>rw[eb] at p2;exact p2
    | no=>rw[eb] at p2;exact p2
end
abbrev FD:=List B→R (Dt × List B)
def zjH:B→Bool
 | .val _=>false
 | _=>true
def zb5(bs:List B):List Bool:=bs.map zjH
structure PRel(K:W.Frag)(G H:Hp)(w:Wn)(bs:List B)(vs:List V):Prop where
 gh:zbG G H
 wg:∀ b,w b≠none→G b=none
 wh:∀ b,w b≠none→H b≠none
 len:bs.length=vs.length
 sl:∀(j:Nat)(b:B)(v:V),bs[j]? = some b→vs[j]? = some v→RB K G H w j v b
structure zm3(K:W.Frag)(G H:Hp)(w:Wn)(ks:List Bool)(bs:List B)(vs:List V):Prop where
 gh:zbG G H
 wg:∀ b,w b≠none→G b=none
 wh:∀ b,w b≠none→H b≠none
 sl:∀(j:Nat)(v:V),ks[j]? = some true→vs[j]? = some v→∃ b,bs[j]? = some b∧RB K G H w j v b
def zpQ(nw:Bool)(K:W.Frag)(xv:Nat→Value)(ks:List Bool)(F:FD):Sp:=fun vs H Q E=>∃ G w bs,vs.length=ks.length∧zb5 bs=ks∧PRel K G H w bs vs ∧
 match F bs with
 | .ok a=>∀ v G' H' w',zb9 G H w G' H' w'→zm3 K G' H' w' ks a.2 vs→RtG nw K H G' H' w' a.1 v→Q v H'
 | .er n=>∀ G' H' w',zb9 G H w G' H' w'→E (xv n) none H'
 | .no=>False
def EXc(C:Cn):XK:=fun u a H'=>a=none∧∃ n,u=C.xv n∧C.ex n∧∃ G' w',zb9 C.G₀ C.H₀ C.w₀ G' H' w'
inductive Arg where
 | d (x:Dt) | s (i:Nat)
def zdb(K:W.Frag)(G:Hp)(σ:L2.St):List Arg→List V→Prop
 | [],vs=>vs=[]
 | .d x :: r,vs=>∃ v t,vs=v :: t∧Rep K G x v∧zdb K G σ r t
 | .s i :: r,vs=>∃ v t,vs=v :: t∧σ[i]? = some (some v)∧zdb K G σ r t
theorem zdb.same{K:W.Frag}{G G':Hp}{σ:L2.St}(e:zbG G G'):∀{as:List Arg}{vs:List V},zdb K G σ as vs→zdb K G' σ as vs
 | [],_,h=>h
 | .d _ :: _,_,⟨v,t,h1,h2,h3⟩=>⟨v,t,h1,h2.same e,zdb.same e h3⟩
 | .s _ :: _,_,⟨v,t,h1,h2,h3⟩=>⟨v,t,h1,h2,zdb.same e h3⟩
abbrev DAr:=Ev→R (List Arg × Ev)
def kAr(K:W.Frag)(C:Cn)(σ:L2.St)(Q:List V→Hp→Prop)(G H:Hp)(w:Wn)(a:List Arg × Ev):Prop :=
 ∀ vs G' H' w',zb9 G H w G' H' w'→Rel K C G' w' a.2 σ H'→zdb K G' σ a.1 vs→Q vs H'
def tAr(K:W.Frag)(C:Cn)(f:DAr):TA:=fun σ H Q=>∃ G w ρ,Rel K C G w ρ σ H∧zcu C.ex (kAr K C σ Q G H w) (f ρ)
abbrev JAr(X:Cx)(C:Cn)(es:List Expr)(f:DAr):Prop:=PA X es (tAr X.K C f)
theorem zna{K:W.Frag}{C:Cn}{σ:L2.St}{Q:List V→Hp→Prop}:Stp (fun G H w=>kAr K C σ Q G H w):=fun _ _ _ _ _ _ _ s k v G' H' w' s'=>k v G' H' w' (s.trans s')
theorem znd{K:W.Frag}{C:Cn}{σ:L2.St}{α:Type}{κ:zoH α}(st:Stp κ){G H:Hp}{w:Wn}{ρ:Ev}{fa:DAr}{g:List Arg × Ev→R α}{Q:List V→Hp→Prop}(r:Rel K C G w ρ σ H)(p:zcu C.ex (κ G H w) ((fa ρ).bind g))
  (k:∀ as ρ1 vs G1 H1 w1,Rel K C G1 w1 ρ1 σ H1→zb9 G H w G1 H1 w1→zdb K G1 σ as vs→zcu C.ex (κ G1 H1 w1) (g (as,ρ1))→Q vs H1):tAr K C fa σ H Q:=by
 refine ⟨G,w,ρ,r,?_⟩
 cases e:fa ρ with
 | ok a =>
  rw[e] at p
  intro v G' H' w' s' r' q
  exact k a.1 a.2 v G' H' w' r' s' q (zcu.step st s' p)
 | er n=>rw[e] at p;exact p
 | no=>rw[e] at p;exact p
def dR0:DAr:=fun ρ=>.ok ([],ρ)
def dR(fa:De)(fr:DAr):DAr:=fun ρ=>(fa ρ).bind fun a=>(fr a.2).bind fun b=>.ok (.d a.1 :: b.1,b.2)
def dRO(i:Nat)(fr:DAr):DAr:=fun ρ=>match ρ[i]? with
 | some (some _)=>(fr ρ).bind fun b=>.ok (.s i :: b.1,b.2)
 | _=>.no
section
variable{X:Cx}{C:Cn}{fa:De}{fr:DAr}{pos:Pos}
theorem zaq:JAr X C [] dR0:=PA.weak zc4 fun σ H Q ⟨G,w,ρ,r,p⟩=>p _ G H w (.refl _ _ _) r rfl
theorem zae{e:Expr}{es:List Expr}(ha:JE X C e fa)(hr:JAr X C es fr)(hs:starEach (e :: es) X.env=(false,eval e X.env) :: starEach es X.env:=by rfl):JAr X C (e :: es) (dR fa fr) :=
 PA.weak (zbe ha hr hs) fun σ H Q ⟨G,w,ρ,r,p⟩=>by
  refine zez (κ:=fun G H w=>kAr X.K C σ Q G H w) zna r p fun d ρ1 v G1 H1 w1 r1 s1 q1 p1=>?_
  refine znd (κ:=fun G H w=>kAr X.K C σ Q G H w) zna r1 p1 fun as ρ2 vs G2 H2 w2 r2 s2 q2 p2=>?_
  exact p2 _ G2 H2 w2 (.refl _ _ _) r2 ⟨v,vs,rfl,q1.same s2.g,q2⟩
theorem zbH(i:Nat){x:Str}{ps:Pos}{es:List Expr}(hr:JAr X C es fr)(hN:X.N[i]? = some x:=by rfl)(hv:Vis X.env.scope x:=by first | exact Or.inl rfl | exact Or.inr (Or.inl rfl) | exact Or.inr (Or.inr rfl))(hd:(x == ("__debug__" : Str))=false:=by decide)
  (hcd:(x == ("__classdict__" : Str))=false:=by decide) (hs:starEach (.Name x ps :: es) X.env=(false,eval (.Name x ps) X.env) :: starEach es X.env:=by rfl):JAr X C (.Name x ps :: es) (dRO i fr) :=
 PA.weak (zbe (zbR hN hv hd hcd) hr hs) fun σ H Q ⟨G,w,ρ,r,p⟩=>by
  unfold dRO at p
  split at p
  ·rename_i b e
   obtain ⟨v,h1,_⟩:=r.sl i b e
   refine ⟨v,h1,?_⟩
   refine znd (κ:=fun G H w=>kAr X.K C σ Q G H w) zna r p fun as ρ2 vs G2 H2 w2 r2 s2 q2 p2=>?_
   exact p2 _ G2 H2 w2 (.refl _ _ _) r2 ⟨v,vs,rfl,h1,q2⟩
  ·exact p.elim
end
def zqv(as:List Arg)(j:Nat):Option Nat:=match as[j]? with
 | some (.s i)=>some i
 | _=>none
def zdH(i:Nat):Nat→List Arg→Option Nat
 | _,[]=>none
 | j,.s i' :: r=>if i'=i then some j else zdH i (j + 1) r
 | j,.d _ :: r=>zdH i (j + 1) r
def zdO(as:List Arg)(i:Nat):Option Nat:=zdH i 0 as
def zaU(as:List Arg):Nat→List Arg→Bool
 | _,[]=>true
 | j,.s i :: r=>(zdO as i == some j) && zaU as (j + 1) r
 | j,.d _ :: r=>zaU as (j + 1) r
def zhk(as:List Arg):Bool:=zaU as 0 as
theorem zeW{as:List Arg}:∀{l:List Arg}{j k:Nat}{i:Nat},zaU as j l=true→l[k]? = some (.s i)→zdO as i=some (j + k)
 | [],_,_,_,_,e=>by simp at e
 | .s i' :: r,j,0,i,h,e=>by
  simp at e;subst e
  unfold zaU at h
  rw[Bool.and_eq_true] at h
  simpa using h.1
 | .s i' :: r,j,k + 1,i,h,e=>by
  unfold zaU at h
  rw[Bool.and_eq_true] at h
  have:=zeW (k:=k) h.2 (by simpa using e)
  rw[this];congr 1;omega
 | .d x :: r,j,0,i,h,e=>by simp at e
 | .d x :: r,j,k + 1,i,h,e=>by
  unfold zaU at h
  have:=zeW (k:=k) h (by simpa using e)
  rw[this];congr 1;omega
theorem zfQ{i:Nat}:∀{l:List Arg}{j m:Nat},zdH i j l=some m→∃ k,m=j + k∧l[k]? = some (.s i)
 | [],_,_,h=>by simp[zdH] at h
 | .s i' :: r,j,m,h=>by
  unfold zdH at h
  split at h
  ·rename_i e;subst e;cases h;exact ⟨0,rfl,rfl⟩
  ·obtain ⟨k,h1,h2⟩:=zfQ h
   exact ⟨k + 1,by omega,by simpa using h2⟩
 | .d x :: r,j,m,h=>by
  unfold zdH at h
  obtain ⟨k,h1,h2⟩:=zfQ h
  exact ⟨k + 1,by omega,by simpa using h2⟩
theorem zph{as:List Arg}{i j:Nat}(h:zdO as i=some j):as[j]? = some (.s i):=by
 obtain ⟨k,h1,h2⟩:=zfQ h
 have:j=k:=by omega
 subst this;exact h2
theorem ziE{as:List Arg}{i j:Nat}(u:zhk as=true)(h:as[j]? = some (.s i)):zdO as i=some j:=by
 have:=zeW (j:=0) u h
 simpa using this
def za0(ρ:Ev):List Arg→R (List B)
 | []=>.ok []
 | .d x :: r=>(za0 ρ r).bind fun bs=>.ok (.val x :: bs)
 | .s i :: r=>match ρ[i]? with
  | some (some b)=>if zjH b=true then (za0 ρ r).bind fun bs=>.ok (b :: bs) else .no
  | _=>.no
def zf0(as:List Arg)(bs:List B):Nat→Ev→Ev
 | _,[]=>[]
 | i,o :: r=>(match zdO as i with | some j=>bs[j]? | none=>o) :: zf0 as bs (i + 1) r
theorem zlq{as:List Arg}{bs:List B}:∀{ρ:Ev}{k i:Nat},(zf0 as bs k ρ)[i]? = ρ[i]?.map fun o=>match zdO as (k + i) with | some j=>bs[j]? | none=>o
 | [],_,_=>by simp[zf0]
 | o :: r,k,0=>by simp[zf0]
 | o :: r,k,i + 1=>by
  have:=zlq (as:=as) (bs:=bs) (ρ:=r) (k:=k + 1) (i:=i)
  simp only[zf0,List.getElem?_cons_succ]
  rw[this]
  have e:k + 1 + i=k + (i + 1):=by omega
  rw[e]
theorem zln{as:List Arg}{bs:List B}:∀{ρ:Ev}{k:Nat},(zf0 as bs k ρ).length = ρ.length
 | [],_=>rfl
 | o :: r,k=>by simp[zf0,zln (ρ:=r)]
def zaf(F:FD)(fa:DAr):De:=fun ρ=>(fa ρ).bind fun a=>if zhk a.1=true then (za0 a.2 a.1).bind fun bs=>(F bs).bind fun z=>.ok (z.1,zf0 a.1 z.2 0 a.2) else .no
theorem zeD{ρ:Ev}:∀{as:List Arg}{bs:List B}{j i:Nat},za0 ρ as = .ok bs→as[j]? = some (.s i)→∃ b,ρ[i]? = some (some b)∧bs[j]? = some b∧zjH b=true
 | [],bs,j,i,h,e=>by simp at e
 | .d x :: r,bs,j,i,h,e=>by
  unfold za0 at h
  cases q:za0 ρ r with
  | ok l =>
   rw[q] at h;simp only[R.bind_ok,R.ok.injEq] at h;subst h
   cases j with
   | zero=>simp at e
   | succ j =>
    obtain ⟨b,h1,h2,h3⟩:=zeD (j:=j) q (by simpa using e)
    exact ⟨b,h1,by simpa using h2,h3⟩
  | er n=>rw[q] at h;simp at h
  | no=>rw[q] at h;simp at h
 | .s i' :: r,bs,j,i,h,e=>by
  unfold za0 at h
  split at h
  ·rename_i b eb
   split at h
   ·rename_i ob
    cases q:za0 ρ r with
    | ok l =>
     rw[q] at h;simp only[R.bind_ok,R.ok.injEq] at h;subst h
     cases j with
     | zero=>simp at e;subst e;exact ⟨b,eb,rfl,ob⟩
     | succ j =>
      obtain ⟨b,h1,h2,h3⟩:=zeD (j:=j) q (by simpa using e)
      exact ⟨b,h1,by simpa using h2,h3⟩
    | er n=>rw[q] at h;simp at h
    | no=>rw[q] at h;simp at h
   ·cases h
  ·cases h
theorem zd8{ρ:Ev}:∀{as:List Arg}{n:Nat},za0 ρ as≠.er n
 | [],n,h=>by simp[za0] at h
 | .d x :: r,n,h=>by
  unfold za0 at h
  cases q:za0 ρ r with
  | ok l=>rw[q] at h;simp at h
  | er m=>exact zd8 q
  | no=>rw[q] at h;simp at h
 | .s i :: r,n,h=>by
  unfold za0 at h
  split at h
  ·split at h
   ·cases q:za0 ρ r with
    | ok l=>rw[q] at h;simp at h
    | er m=>exact zd8 q
    | no=>rw[q] at h;simp at h
   ·cases h
  ·cases h
def wIn(w:Wn)(as:List Arg):Wn:=fun b=>(w b).bind (zdO as)
def zmZ(w w':Wn)(as:List Arg):Wn:=fun b=>match w' b with
 | some j=>zqv as j
 | none=>if (w b).bind (zdO as)=none then w b else none
section
variable{K:W.Frag}{C:Cn}{σ:L2.St}{G H:Hp}{w:Wn}{ρ:Ev}
theorem zgW(r:Rel K C G w ρ σ H):∀{as l:List Arg}{vs:List V}{bs:List B}{k j:Nat}{b:B}{v:V},(∀ m i,l[m]? = some (.s i)→zdO as i=some (k + m))→zdb K G σ l vs→za0 ρ l = .ok bs→bs[j]? = some b→vs[j]? = some v→RB K G H (wIn w as) (k + j) v b
 | as,[],vs,bs,k,j,b,v,hu,ha,hr,hb,hv=>by simp[za0] at hr;subst hr;simp at hb
 | as,.d x :: l,vs,bs,k,j,b,v,hu,ha,hr,hb,hv=>by
  obtain ⟨v0,t,rfl,h2,h3⟩:=ha
  unfold za0 at hr
  cases q:za0 ρ l with
  | ok l' =>
   rw[q] at hr;simp only[R.bind_ok,R.ok.injEq] at hr;subst hr
   cases j with
   | zero=>simp at hb hv;subst hb;subst hv;exact h2
   | succ j =>
    have:=zgW r (as:=as) (k:=k + 1) (j:=j) (fun m i e=>by rw[hu (m + 1) i (by simpa using e)];congr 1;omega) h3 q (by simpa using hb) (by simpa using hv)
    have e:k + 1 + j=k + (j + 1):=by omega
    rw[e] at this;exact this
  | er n=>rw[q] at hr;simp at hr
  | no=>rw[q] at hr;simp at hr
 | as,.s i :: l,vs,bs,k,j,b,v,hu,ha,hr,hb,hv=>by
  obtain ⟨v0,t,rfl,h2,h3⟩:=ha
  unfold za0 at hr
  split at hr
  ·rename_i b0 eb
   split at hr
   ·rename_i ob
    cases q:za0 ρ l with
    | ok l' =>
     rw[q] at hr;simp only[R.bind_ok,R.ok.injEq] at hr;subst hr
     cases j with
     | zero =>
      simp at hb hv;subst hb;subst hv
      obtain ⟨v1,h4,h5⟩:=r.sl i _ eb
      rw[h2] at h4;cases h4
      exact h5.grow (.refl _) fun a o e1 e2=>⟨e2,by unfold wIn;rw[e1];exact hu 0 i rfl⟩
     | succ j =>
      have:=zgW r (as:=as) (k:=k + 1) (j:=j) (fun m i e=>by rw[hu (m + 1) i (by simpa using e)];congr 1;omega) h3 q (by simpa using hb) (by simpa using hv)
      have e:k + 1 + j=k + (j + 1):=by omega
      rw[e] at this;exact this
    | er n=>rw[q] at hr;simp at hr
    | no=>rw[q] at hr;simp at hr
   ·cases hr
  ·cases hr
theorem zf4:∀{as:List Arg}{vs:List V}{bs:List B},zdb K G σ as vs→za0 ρ as = .ok bs→bs.length=vs.length
 | [],vs,bs,ha,hr=>by simp[za0] at hr;subst hr;cases ha;rfl
 | .d x :: l,vs,bs,ha,hr=>by
  obtain ⟨v0,t,rfl,h2,h3⟩:=ha
  unfold za0 at hr
  cases q:za0 ρ l with
  | ok l'=>rw[q] at hr;simp only[R.bind_ok,R.ok.injEq] at hr;subst hr;simp[zf4 h3 q]
  | er n=>rw[q] at hr;simp at hr
  | no=>rw[q] at hr;simp at hr
 | .s i :: l,vs,bs,ha,hr=>by
  obtain ⟨v0,t,rfl,h2,h3⟩:=ha
  unfold za0 at hr
  split at hr
  ·split at hr
   ·cases q:za0 ρ l with
    | ok l'=>rw[q] at hr;simp only[R.bind_ok,R.ok.injEq] at hr;subst hr;simp[zf4 h3 q]
    | er n=>rw[q] at hr;simp at hr
    | no=>rw[q] at hr;simp at hr
   ·cases hr
  ·cases hr
theorem zgM:∀{as:List Arg}{vs:List V}{j i:Nat},zdb K G σ as vs→as[j]? = some (.s i)→∃ v,vs[j]? = some v∧σ[i]? = some (some v)
 | [],_,_,_,_,e=>by simp at e
 | .d x :: l,vs,j,i,ha,e=>by
  obtain ⟨v0,t,rfl,h2,h3⟩:=ha
  cases j with
  | zero=>simp at e
  | succ j=>obtain ⟨v,e1,e2⟩:=zgM (j:=j) h3 (by simpa using e);exact ⟨v,by simpa using e1,e2⟩
 | .s i' :: l,vs,j,i,ha,e=>by
  obtain ⟨v0,t,rfl,h2,h3⟩:=ha
  cases j with
  | zero=>simp at e;subst e;exact ⟨v0,rfl,h2⟩
  | succ j=>obtain ⟨v,e1,e2⟩:=zgM (j:=j) h3 (by simpa using e);exact ⟨v,by simpa using e1,e2⟩
theorem Rel.back{as:List Arg}{vs:List V}{bs bs':List B}{ks:List Bool}{G' H':Hp}{w':Wn}(r:Rel K C G w ρ σ H)(u:zhk as=true)(ha:zdb K G σ as vs)(hr:za0 ρ as = .ok bs)(hk:zb5 bs=ks)
  (s:zb9 G H (wIn w as) G' H' w') (pb:zm3 K G' H' w' ks bs' vs):Rel K C G' (zmZ w w' as) (zf0 as bs' 0 ρ) σ H'∧zb9 G H w G' H' (zmZ w w' as):=by
 have wi:∀ b,wIn w as b≠none→w b≠none:=fun b e z=>e (by unfold wIn;rw[z];rfl)
 have wi2:∀ b,w b=none→wIn w as b=none:=fun b z=>by unfold wIn;rw[z];rfl
 have st:zb9 G H w G' H' (zmZ w w' as):=by
  refine ⟨s.g,fun b o e=>?_,fun b o e z=>s.h b o e (wi2 b z),fun b e=>?_,s.k⟩
  ·rcases s.fr b o e with q | q | q
   ·exact .inl q
   ·exact .inr (.inl q)
   ·exact .inr (.inr (wi b q))
  ·unfold zmZ at e
   split at e
   ·rename_i j ej
    rcases s.w b (by rw[ej];simp) with q | q
    ·exact .inl (wi b q)
    ·exact .inr q
   ·split at e
    ·exact .inl e
    ·exact absurd rfl e
 have keep:∀ a o,w a≠none→(w a).bind (zdO as)=none→H a=some o→H' a=some o∧w' a=none∧G' a=none:=fun a o e1 e2 e3=>by
  have e4:wIn w as a=none:=e2
  have e5:=s.h a o e3 e4
  have e6:w' a=none:=by
   cases q:w' a with
   | none=>rfl
   | some j =>
    rcases s.w a (by rw[q];simp) with z | z
    ·exact absurd e4 z
    ·rw[e3] at z;cases z
  refine ⟨e5,e6,?_⟩
  cases q:G' a with
  | none=>rfl
  | some o' =>
   rcases s.fr a o' q with z | z | z
   ·exact absurd (r.wg a e1) z
   ·rw[e3] at z;cases z
   ·exact absurd e4 z
 refine ⟨⟨pb.gh,fun b e=>?_,fun b e=>?_,by rw[zln];exact r.len,fun i b e=>?_,r.en.trans st,r.pin⟩,st⟩
 ·unfold zmZ at e
  split at e
  ·rename_i j ej
   exact pb.wg b (by rw[ej];simp)
  ·split at e
   ·rename_i e2
    cases q:H b with
    | none=>exact absurd q (r.wh b e)
    | some o=>exact (keep b o e e2 q).2.2
   ·exact absurd rfl e
 ·unfold zmZ at e
  split at e
  ·rename_i j ej
   exact pb.wh b (by rw[ej];simp)
  ·split at e
   ·rename_i e2
    cases q:H b with
    | none=>exact absurd q (r.wh b e)
    | some o=>rw[(keep b o e e2 q).1];simp
   ·exact absurd rfl e
 ·rw[zlq,Nat.zero_add] at e
  cases q:zdO as i with
  | some j =>
   have ej:=zph q
   obtain ⟨v,e1,e2⟩:=zgM ha ej
   obtain ⟨b0,h1,h2,h3⟩:=zeD hr ej
   have hkj:ks[j]? = some true:=by rw[← hk];unfold zb5;rw[List.getElem?_map,h2];simp[h3]
   obtain ⟨b',h4,h5⟩:=pb.sl j v hkj e1
   rw[h1] at e
   simp only[q,Option.map_some] at e
   rw[h4] at e
   have e':b'=b:=by simpa using e
   subst e'
   refine ⟨v,e2,h5.grow (.refl _) fun a o q1 q2=>⟨q2,?_⟩⟩
   unfold zmZ zqv
   rw[q1];simp only;rw[ej]
  | none =>
   cases e1:ρ[i]? with
   | none=>rw[e1] at e;simp at e
   | some o0 =>
    rw[e1] at e
    simp only[q,Option.map_some,Option.some.injEq] at e
    subst e
    obtain ⟨v,h1,h2⟩:=r.sl i b e1
    refine ⟨v,h1,h2.grow s.g fun a o q1 q2=>?_⟩
    have z:(w a).bind (zdO as)=none:=by rw[q1];exact q
    obtain ⟨k1,k2,_⟩:=keep a o (by rw[q1];simp) z q2
    refine ⟨k1,?_⟩
    unfold zmZ
    rw[k2];simp only;rw[if_pos z];exact q1
end
section
variable{X:Cx}{C:Cn}{CX:CXT}{k:Nat}{f:Addr}{fd:FuncData}{ps:List Str}{ks:List Bool}{Fd:FD}{x:Str}{p pos:Pos}{e:Expr}{es:List Expr}{far:DAr}
theorem zon{σ:L2.St}{H:Hp}{Q:VK}(h:tE X.K C (zaf Fd far) σ H Q)(hks:∀ bs,Fd bs≠.no→zb5 bs=ks):zpm (zpQ false X.K C.xv ks Fd) [] (EXc C) (tAr X.K C far) σ H Q:=by
 obtain ⟨G,w,ρ,r,p⟩:=h
 refine znd (κ:=fun G H w=>kE X.K C σ Q G H w) zcA r p fun as ρ1 vs G1 H1 w1 r1 s1 q1 p1=>?_
 rw[List.append_nil]
 by_cases hu:zhk as=true
 ·simp only[hu,if_true] at p1
  cases er:za0 ρ1 as with
  | ok bs =>
   rw[er,R.bind_ok] at p1
   have hk:zb5 bs=ks:=by
    refine hks bs fun z=>?_
    rw[z] at p1;exact p1
   have hl:bs.length=vs.length:=zf4 q1 er
   refine ⟨G1,wIn w1 as,bs,by rw[← hk,← hl];simp[zb5],hk,⟨r1.gh,fun b e=>r1.wg b fun z=>e (by unfold wIn;rw[z];rfl),fun b e=>r1.wh b fun z=>e (by unfold wIn;rw[z];rfl),hl,fun j b v e1 e2=>?_⟩,?_⟩
   ·have:=zgW r1 (as:=as) (k:=0) (j:=j) (fun m i e=>by rw[Nat.zero_add];exact ziE hu e) q1 er e1 e2
    rw[Nat.zero_add] at this;exact this
   ·cases ef:Fd bs with
    | ok z =>
     rw[ef,R.bind_ok] at p1
     intro v G' H' w' s' pb q
     obtain ⟨r',st⟩:=r1.back hu q1 er hk s' pb
     exact p1 v G' H' _ st r' q
    | er n =>
     rw[ef] at p1
     intro G' H' w' s'
     refine ⟨rfl,n,rfl,p1,G',fun _=>none,r1.en.trans ⟨s'.g,fun b o e=>?_,fun b o e z=>s'.h b o e (by unfold wIn;rw[z];rfl),fun b e=>absurd rfl e,s'.k⟩⟩
     rcases s'.fr b o e with q | q | q
     ·exact .inl q
     ·exact .inr (.inl q)
     ·exact .inr (.inr fun z=>q (by unfold wIn;rw[z];rfl))
    | no=>rw[ef] at p1;exact p1.elim
  | er n=>exact absurd er zd8
  | no=>rw[er] at p1;exact p1.elim
 ·simp only[hu] at p1;exact p1.elim
theorem zrn(F:zfl X.prog X.w X.K X.mg X.base CX k f fd ps (zpQ false X.K C.xv ks Fd))(hr:zdf k X.A)(hg:Gl X x)(hm:X.mg x=some (.ref f))(hk:W.keepIn X.K (.ref f)=true)(hb:zfA X.K fd ps [])(hx:zcm CX X (EXc C))(hks:∀ bs,Fd bs≠.no→zb5 bs=ks)
  (ha:JAr X C (e :: es) far) (hdb:(x == ("__debug__" : Str))=false:=by decide) (he:starEach (e :: es) X.env=(false,eval e X.env) :: starEach es X.env:=by rfl) (hpl:(backTo pos (starEach es X.env)).any (·.1)=false:=by rfl) :
  JE X C (.Call (.Name x p) (e :: es) [] pos) (zaf Fd far) :=
 PE.weak (zi7 F hr hg hm hk hb .nil hx ha hdb he hpl) fun σ H Q h=>zon h hks
def zbQ(F:FD)(fa:DAr):DN:=fun ρ=>(fa ρ).bind fun a=>if zhk a.1=true then (za0 a.2 a.1).bind fun bs=>(F bs).bind fun z=>match z.1 with
  | .lst l=>.ok (l,zf0 a.1 z.2 0 a.2)
  | _=>.no
 else .no
theorem zmK{σ:L2.St}{H:Hp}{Q:VK}(h:tN X.K C (zbQ Fd far) σ H Q)(hks:∀ bs,Fd bs≠.no→zb5 bs=ks):zpm (zpQ true X.K C.xv ks Fd) [] (EXc C) (tAr X.K C far) σ H Q:=by
 obtain ⟨G,w,ρ,r,p⟩:=h
 refine znd (κ:=fun G H w=>kN X.K C σ Q G H w) zeU r p fun as ρ1 vs G1 H1 w1 r1 s1 q1 p1=>?_
 rw[List.append_nil]
 by_cases hu:zhk as=true
 ·simp only[hu,if_true] at p1
  cases er:za0 ρ1 as with
  | ok bs =>
   rw[er,R.bind_ok] at p1
   have hk:zb5 bs=ks:=by
    refine hks bs fun z=>?_
    rw[z] at p1;exact p1
   have hl:bs.length=vs.length:=zf4 q1 er
   refine ⟨G1,wIn w1 as,bs,by rw[← hk,← hl];simp[zb5],hk,⟨r1.gh,fun b e=>r1.wg b fun z=>e (by unfold wIn;rw[z];rfl),fun b e=>r1.wh b fun z=>e (by unfold wIn;rw[z];rfl),hl,fun j b v e1 e2=>?_⟩,?_⟩
   ·have:=zgW r1 (as:=as) (k:=0) (j:=j) (fun m i e=>by rw[Nat.zero_add];exact ziE hu e) q1 er e1 e2
    rw[Nat.zero_add] at this;exact this
   ·cases ef:Fd bs with
    | ok z =>
     rw[ef,R.bind_ok] at p1
     intro v G' H' w' s' pb q
     obtain ⟨r',st⟩:=r1.back hu q1 er hk s' pb
     obtain ⟨l,pp,us,e1,e2,e3,e4,e5,e6,e7⟩:=q
     subst e2
     rw[e1] at p1
     refine p1 pp us G' H' _ st r' e3 e4 e5 ?_ e7
     have w1p:w1 pp=none:=by
      cases zz:w1 pp with
      | none=>rfl
      | some k=>exact absurd e3 (r1.wh pp (by rw[zz];simp))
     unfold zmZ
     rw[e6,w1p];rfl
    | er n =>
     rw[ef] at p1
     intro G' H' w' s'
     refine ⟨rfl,n,rfl,p1,G',fun _=>none,r1.en.trans ⟨s'.g,fun b o e=>?_,fun b o e z=>s'.h b o e (by unfold wIn;rw[z];rfl),fun b e=>absurd rfl e,s'.k⟩⟩
     rcases s'.fr b o e with q | q | q
     ·exact .inl q
     ·exact .inr (.inl q)
     ·exact .inr (.inr fun z=>q (by unfold wIn;rw[z];rfl))
    | no=>rw[ef] at p1;exact p1.elim
  | er n=>exact absurd er zd8
  | no=>rw[er] at p1;exact p1.elim
 ·simp only[hu] at p1;exact p1.elim
theorem zrh(F:zfl X.prog X.w X.K X.mg X.base CX k f fd ps (zpQ true X.K C.xv ks Fd))(hr:zdf k X.A)(hg:Gl X x)(hm:X.mg x=some (.ref f))(hk:W.keepIn X.K (.ref f)=true)(hb:zfA X.K fd ps [])(hx:zcm CX X (EXc C))(hks:∀ bs,Fd bs≠.no→zb5 bs=ks)
  (ha:JAr X C (e :: es) far) (hdb:(x == ("__debug__" : Str))=false:=by decide) (he:starEach (e :: es) X.env=(false,eval e X.env) :: starEach es X.env:=by rfl) (hpl:(backTo pos (starEach es X.env)).any (·.1)=false:=by rfl) :
  JN X C (.Call (.Name x p) (e :: es) [] pos) (zbQ Fd far) :=
 PE.weak (zi7 F hr hg hm hk hb .nil hx ha hdb he hpl) fun σ H Q h=>zmK h hks
def zay:List Bool→Ev→R (List B)
 | [],_=>.ok []
 | false :: ks,_ :: ρ=>(zay ks ρ).bind fun l=>.ok (.val .non :: l)
 | true :: ks,some b :: ρ=>(zay ks ρ).bind fun l=>.ok (b :: l)
 | _,_=>.no
def zas(nw:Bool)(ks:List Bool)(m:Nat)(body:DS):FD:=fun bs=>if zb5 bs=ks then (body (bs.map some ++ List.replicate m none)).bind fun a=>match a.1 with
  | .nx=>if nw=true then .no else (zay ks a.2).bind fun l=>.ok (.non,l)
  | .rt d=>(zay ks a.2).bind fun l=>.ok (d,l)
  | _=>.no
 else .no
theorem zav{nw:Bool}{ks:List Bool}{m:Nat}{body:DS}:∀ bs,zas nw ks m body bs≠.no→zb5 bs=ks:=fun bs h=>by
 unfold zas at h
 by_cases e:zb5 bs=ks
 ·exact e
 ·rw[if_neg e] at h;exact absurd rfl h
theorem zdS:∀{ks:List Bool}{ρ:Ev}{l:List B}{j:Nat},zay ks ρ = .ok l→ks[j]? = some true→∃ b,l[j]? = some b∧ρ[j]? = some (some b)
 | [],_,_,_,_,e=>by simp at e
 | false :: ks,[],l,j,h,e=>by simp[zay] at h
 | true :: ks,[],l,j,h,e=>by simp[zay] at h
 | false :: ks,o :: ρ,l,j,h,e=>by
  unfold zay at h
  cases q:zay ks ρ with
  | ok l' =>
   rw[q] at h;simp only[R.bind_ok,R.ok.injEq] at h;subst h
   cases j with
   | zero=>simp at e
   | succ j=>obtain ⟨b,h1,h2⟩:=zdS (j:=j) q (by simpa using e);exact ⟨b,by simpa using h1,by simpa using h2⟩
  | er n=>rw[q] at h;simp at h
  | no=>rw[q] at h;simp at h
 | true :: ks,none :: ρ,l,j,h,e=>by simp[zay] at h
 | true :: ks,some b :: ρ,l,j,h,e=>by
  unfold zay at h
  cases q:zay ks ρ with
  | ok l' =>
   rw[q] at h;simp only[R.bind_ok,R.ok.injEq] at h;subst h
   cases j with
   | zero=>exact ⟨b,rfl,rfl⟩
   | succ j=>obtain ⟨b,h1,h2⟩:=zdS (j:=j) q (by simpa using e);exact ⟨b,by simpa using h1,by simpa using h2⟩
  | er n=>rw[q] at h;simp at h
  | no=>rw[q] at h;simp at h
theorem zcQ:∀{ks:List Bool}{ρ:Ev}{n:Nat},zay ks ρ≠.er n
 | [],_,_,h=>by simp[zay] at h
 | false :: ks,[],n,h=>by simp[zay] at h
 | true :: ks,[],n,h=>by simp[zay] at h
 | false :: ks,o :: ρ,n,h=>by
  unfold zay at h
  cases q:zay ks ρ with
  | ok l'=>rw[q] at h;simp at h
  | er m=>exact zcQ q
  | no=>rw[q] at h;simp at h
 | true :: ks,none :: ρ,n,h=>by simp[zay] at h
 | true :: ks,some b :: ρ,n,h=>by
  unfold zay at h
  cases q:zay ks ρ with
  | ok l'=>rw[q] at h;simp at h
  | er m=>exact zcQ q
  | no=>rw[q] at h;simp at h
def zaZ(ks:List Bool):List Nat:=(List.range ks.length).filter fun j=>ks[j]? == some true
def zqw(CX:CXT)(P:Program)(w:World)(K:W.Frag)(mg:Str→Option Value)(base:Heap):Prop :=
 ∀(N:List Str)(qual:Str)(scope:Scope)(f:Addr)(cdv:Value)(A:Around)(outer:List Env)(s:Shared)(H:Hp)(E E':XK),scope.kind = .function→(∀ u a H',E' u a H'→E u a H') →
  zcm CX (zhs CX P w K mg base N qual scope f cdv A outer s H E) E'
theorem zaN{P:Program}{w:World}{K:W.Frag}{mg:Str→Option Value}{base:Heap}{xq qual:Str}{st:Stmt}{N:List Str}{xv:Nat→Value}{m:Nat}{fb:DS}(nw:Bool)(lv:zqw CX P w K mg base)(F:Fun K xq qual st f fd)(S:za1 N ps (zac st))(hl:ps.length=ks.length)(hm:N.length=ks.length + m)
  (hbody:∀(X:Cx)(C:Cn),(∃ cdv A outer s H E,X=zhs CX P w K mg base N qual (zac st) f cdv A outer s H E)→C.pp=zaZ ks→C.xv=xv→C.nw=nw→zdf k X.A→zcm CX X (EXc C)→PassesOwn (model X.prog X.w) X.A X.env X.xe→JSs X C (zaw st) fb) :
  zfl P w K mg base CX (k + 1) f fd ps (zpQ nw K xv ks (zas nw ks m fb)):=by
 obtain ⟨oc,od,kV,doc,pm,an,cdv,ct,osl,rfl,lk,hcd⟩:=F.ex
 refine zoQ lk hcd S (fun vs H Q E ⟨_,_,_,h,_⟩=>h.trans hl.symm) fun A outer s H vs Q E hr hsp=>?_
 obtain ⟨G,w0,bs,hv,hk,pr,hF⟩:=hsp
 let X:=zhs CX P w K mg base N qual (zac st) f cdv A outer s H E
 let C:Cn:=⟨G,H,w0,zaZ ks,L2.start N vs,fun n=>zas nw ks m fb bs = .er n,xv,nw⟩
 have hE:∀ u a H',EXc C u a H'→E u a H':=fun u a H' ⟨ea,n,eu,en,G',w',s'⟩=>by
  subst ea;subst eu
  have en':zas nw ks m fb bs = .er n:=en
  rw[en'] at hF
  exact hF G' H' w' s'
 have hb:=hbody X C ⟨cdv,A,outer,s,H,E,rfl⟩ rfl rfl rfl hr (lv N qual (zac st) f cdv A outer s H E (EXc C) S.kind hE) PassesOwn.leaving
 refine ⟨_,hb,G,w0,bs.map some ++ List.replicate m none,?_,?_⟩
 ·refine ⟨pr.gh,pr.wg,pr.wh,?_,fun i b e=>?_,.refl _ _ _,fun i _=>rfl⟩
  ·unfold L2.start
   simp only[List.length_append,List.length_map,List.length_replicate]
   have:=pr.len
   omega
  ·have hi:i < bs.length:=by
    by_cases hi:i < bs.length
    ·exact hi
    ·rw[List.getElem?_append_right (by simpa using hi),List.getElem?_replicate] at e
     split at e <;> cases e
   rw[List.getElem?_append_left (by simpa using hi),List.getElem?_map] at e
   have eb:bs[i]? = some b:=by
    cases q:bs[i]? with
    | none=>rw[q] at e;cases e
    | some z=>rw[q] at e;cases e;rfl
   have hiv:i < vs.length:=by rw[← pr.len];exact hi
   refine ⟨vs[i],?_,pr.sl i b vs[i] eb (by simp[hiv])⟩
   unfold L2.start
   rw[List.getElem?_append_left (by simpa using hiv),List.getElem?_map]
   simp[hiv]
 ·have hF':match zas nw ks m fb bs with
   | .ok a=>∀ v G' H' w',zb9 G H w0 G' H' w'→zm3 K G' H' w' ks a.2 vs→RtG nw K H G' H' w' a.1 v→Q v H'
   | .er n=>∀ G' H' w',zb9 G H w0 G' H' w'→E (xv n) none H'
   | .no=>False:=hF
  have er:zas nw ks m fb bs=(fb (bs.map some ++ List.replicate m none)).bind fun a=>match a.1 with
   | .nx=>if nw=true then .no else (zay ks a.2).bind fun l=>.ok (.non,l)
   | .rt d=>(zay ks a.2).bind fun l=>.ok (d,l)
   | _=>.no:=by unfold zas;rw[if_pos hk]
  have back:∀{ρ':Ev}{l:List B}{σ':L2.St}{G' H':Hp}{w':Wn},zay ks ρ' = .ok l→Rel K C G' w' ρ' σ' H'→zm3 K G' H' w' ks l vs:=fun {ρ' l σ' G' H' w'} eb r'=>by
   refine ⟨r'.gh,r'.wg,r'.wh,fun j v e1 e2=>?_⟩
   obtain ⟨b,h1,h2⟩:=zdS eb e1
   obtain ⟨v',h3,h4⟩:=r'.sl j b h2
   have hj:j < ks.length:=(List.getElem?_eq_some_iff.mp e1).1
   have hp:σ'[j]? = (L2.start N vs)[j]? := r'.pin j (by
    show j∈zaZ ks
    unfold zaZ
    rw[List.mem_filter]
    exact ⟨List.mem_range.mpr hj,by simp[e1]⟩)
   have hs:(L2.start N vs)[j]? = some (some v):=by
    unfold L2.start
    rw[List.getElem?_append_left (by simpa using (List.getElem?_eq_some_iff.mp e2).1),List.getElem?_map,e2];rfl
   rw[hp,hs] at h3;cases h3
   exact ⟨b,h1,h4⟩
  cases ef:fb (bs.map some ++ List.replicate m none) with
  | ok z =>
   obtain ⟨fl,ρ'⟩:=z
   rw[ef,R.bind_ok] at er
   cases fl with
   | nx =>
    cases nw with
    | true=>rw[er] at hF';exact hF'.elim
    | false =>
     intro σ' G' H' w' s' r'
     have er:zas false ks m fb bs=(zay ks ρ').bind fun l=>.ok (.non,l):=er
     cases eb:zay ks ρ' with
     | ok l =>
      rw[er] at hF';simp only[eb,R.bind_ok] at hF'
      exact hF' _ G' H' w' s' (back eb r') (by unfold RtG Rep;rfl)
     | er n=>exact absurd eb zcQ
     | no=>rw[er] at hF';simp only[eb,R.bind_no] at hF'
   | rt d =>
    intro v σ' G' H' w' s' r' q
    cases eb:zay ks ρ' with
    | ok l =>
     rw[er] at hF';simp only[eb,R.bind_ok] at hF'
     exact hF' _ G' H' w' s' (back eb r') q
    | er n=>exact absurd eb zcQ
    | no=>rw[er] at hF';simp only[eb,R.bind_no] at hF'
   | bk=>rw[er] at hF';exact hF'.elim
   | ct=>rw[er] at hF';exact hF'.elim
  | er n =>
   show zas nw ks m fb bs = .er n
   rw[er,ef];rfl
  | no=>rw[er,ef] at hF';exact hF'.elim
end
mutual
def zfx:Dt→PyData
 | .non=>.none
 | .bl b=>.bool b
 | .int i=>.int i
 | .str x=>.str x
 | .tup l=>.tuple (zeM l)
 | .lst l=>.list (zeM l)
 | .dct=>.dict []
 | .scr ns=>.list (ns.map .int)
def zeM:List Dt→List PyData
 | []=>[]
 | d :: ds=>zfx d :: zeM ds
end
def okN:Nat→Dt→Bool
 | _,.non=>true
 | _,.bl _=>true
 | _,.int _=>true
 | _,.str x=>PySem.PyData.strOk x
 | 0,.tup _=>false
 | 0,.lst _=>false
 | n + 1,.tup l=>l.all (okN n)
 | n + 1,.lst l=>l.all (okN n)
 | _,.dct=>false
 | _,.scr _=>false
mutual
def eqD:Dt→Dt→Bool
 | .non,.non=>true
 | .bl a,.bl b=>a == b
 | .bl a,.int j=>(if a then 1 else 0) == j
 | .int i,.bl b=>i == (if b then 1 else 0)
 | .int i,.int j=>i == j
 | .str x,.str y=>x == y
 | .lst xs,.lst ys=>zgp xs ys
 | .tup xs,.tup ys=>zgp xs ys
 | _,_=>false
def zgp:List Dt→List Dt→Bool
 | [],[]=>true
 | x :: xs,y :: ys=>eqD x y && zgp xs ys
 | _,_=>false
end
theorem zio{n:Nat}(ih:∀ d,okN n d=true→(zfx d).canLay0=true∧(zfx d).depth≤n):∀ l:List Dt,l.all (okN n)=true→PyData.canLayAll0 (zeM l)=true∧PyData.depthAll (zeM l)≤n
 | [],_=>by simp[zeM,PyData.canLayAll0,PyData.depthAll]
 | d :: ds,h=>by
  simp only[List.all_cons,Bool.and_eq_true] at h
  obtain ⟨h1,h2⟩:=ih d h.1
  obtain ⟨h3,h4⟩:=zio ih ds h.2
  simp only[zeM,PyData.canLayAll0,PyData.depthAll,h1,h3,Bool.and_self,true_and]
  omega
theorem zmW:∀(n:Nat)(d:Dt),okN n d=true→(zfx d).canLay0=true∧(zfx d).depth≤n
 | n,.non,_=>by simp[zfx,PyData.canLay0,PyData.depth]
 | n,.bl _,_=>by simp[zfx,PyData.canLay0,PyData.depth]
 | n,.int _,_=>by simp[zfx,PyData.canLay0,PyData.depth]
 | n,.str x,h=>by
  have h:PySem.PyData.strOk x=true:=by cases n <;> simpa [okN] using h
  simp[zfx,PyData.canLay0,PyData.depth,h]
 | 0,.tup _,h=>by simp[okN] at h
 | 0,.lst _,h=>by simp[okN] at h
 | n + 1,.tup l,h=>by
  obtain ⟨h1,h2⟩:=zio (zmW n) l (by simpa [okN] using h)
  simp only[zfx,PyData.canLay0,PyData.depth,h1,true_and];omega
 | n + 1,.lst l,h=>by
  obtain ⟨h1,h2⟩:=zio (zmW n) l (by simpa [okN] using h)
  simp only[zfx,PyData.canLay0,PyData.depth,h1,true_and];omega
 | n,.dct,h=>by cases n <;> simp[okN] at h
 | n,.scr _,h=>by cases n <;> simp[okN] at h
mutual
theorem zne:∀(n:Nat)(x y:Dt),okN n x=true→okN n y=true→PyData.eqv (zfx x) (zfx y)=eqD x y
 | n,.non,y,h,h'=>by cases y <;> first | (cases n <;> simp[okN] at h';done) | simp[zfx,PyData.eqv,eqD]
 | n,.bl _,y,h,h'=>by cases y <;> first | (cases n <;> simp[okN] at h';done) | simp[zfx,PyData.eqv,eqD]
 | n,.int _,y,h,h'=>by cases y <;> first | (cases n <;> simp[okN] at h';done) | simp[zfx,PyData.eqv,eqD]
 | n,.str _,y,h,h'=>by cases y <;> first | (cases n <;> simp[okN] at h';done) | simp[zfx,PyData.eqv,eqD]
 | 0,.tup _,y,h,h'=>by simp[okN] at h
 | 0,.lst _,y,h,h'=>by simp[okN] at h
 | n + 1,.tup l,y,h,h'=>by
  cases y with
  | tup l'=>simp only[zfx,PyData.eqv,eqD];exact zkW n l l' (by simpa [okN] using h) (by simpa [okN] using h')
  | dct=>simp[okN] at h'
  | scr _=>simp[okN] at h'
  | _=>simp[zfx,PyData.eqv,eqD]
 | n + 1,.lst l,y,h,h'=>by
  cases y with
  | lst l'=>simp only[zfx,PyData.eqv,eqD];exact zkW n l l' (by simpa [okN] using h) (by simpa [okN] using h')
  | dct=>simp[okN] at h'
  | scr _=>simp[okN] at h'
  | _=>simp[zfx,PyData.eqv,eqD]
 | n,.dct,y,h,h'=>by cases n <;> simp[okN] at h
 | n,.scr _,y,h,h'=>by cases n <;> simp[okN] at h
theorem zkW:∀(n:Nat)(x y:List Dt),x.all (okN n)=true→y.all (okN n)=true→PyData.eqvAll (zeM x) (zeM y)=zgp x y
 | n,[],[],_,_=>by simp[zeM,PyData.eqvAll,zgp]
 | n,[],_ :: _,_,_=>by simp[zeM,PyData.eqvAll,zgp]
 | n,_ :: _,[],_,_=>by simp[zeM,PyData.eqvAll,zgp]
 | n,a :: as,b :: bs,h,h'=>by
  simp only[List.all_cons,Bool.and_eq_true] at h h'
  simp only[zeM,PyData.eqvAll,zgp]
  rw[zne n a b h.1 h'.1,zkW n as bs h.2 h'.2]
end
section
variable{X:Cx}{pins:List (Addr × Obj)}{σ:L2.St}{H:Hp}{s:Shared}
mutual
theorem zfp(I:L2.Inv X pins σ H s):∀(n:Nat)(d:Dt)(v:V)(u:Value),okN n d=true→Rep X.K H d v→zcD v u→∃ as,Reads s.heap u (zfx d) as
 | n,.non,v,u,_,h,r=>by rw[znC h] at r;cases r;exact ⟨[],by simp only[zfx];exact .none⟩
 | n,.bl b,v,u,_,h,r=>by rw[zfr h] at r;cases r;exact ⟨[],by simp only[zfx];exact .bool _⟩
 | n,.int b,v,u,_,h,r=>by rw[zaE h] at r;obtain ⟨t,rfl⟩:=r;exact ⟨[],by simp only[zfx];exact .int _ _⟩
 | n,.str b,v,u,_,h,r=>by rw[zky h] at r;obtain ⟨t,rfl⟩:=r;exact ⟨[],by simp only[zfx];exact .str _ _⟩
 | 0,.tup l,v,u,hk,h,r=>by simp[okN] at hk
 | 0,.lst l,v,u,hk,h,r=>by simp[okN] at hk
 | n + 1,.tup l,v,u,hk,h,r=>by
  obtain ⟨a,vs,rfl,h1,h2⟩:=zcG h
  cases r
  obtain ⟨its,rv,⟨o,e,c,k,dd⟩,_⟩:=I.tuple h1
  obtain ⟨as,q⟩:=zfi I n l vs its (by simpa [okN] using hk) h2 rv
  exact ⟨as,by simp only[zfx];exact .tuple e c dd (by simpa using q)⟩
 | n + 1,.lst l,v,u,hk,h,r=>by
  obtain ⟨a,vs,rfl,h1,h2⟩:=zbz h
  cases r
  obtain ⟨its,rv,⟨o,k,e,c,_,dd⟩,_⟩:=I.list (SqL.of h1)
  obtain ⟨as,q⟩:=zfi I n l vs its (by simpa [okN] using hk) h2 rv
  exact ⟨a :: as,by simp only[zfx];exact .list e c dd (by simpa using q)⟩
 | n,.dct,v,u,hk,h,r=>by cases n <;> simp[okN] at hk
 | n,.scr _,v,u,hk,h,r=>by cases n <;> simp[okN] at hk
theorem zfi(I:L2.Inv X pins σ H s):∀(n:Nat)(ds:List Dt)(vs:List V)(us:List Value),ds.all (okN n)=true→za6 X.K H ds vs→zbk vs us→∃ as,ReadsAll s.heap us (zeM ds) as
 | n,[],vs,us,_,h,r=>by
  rw[h.nil_inv] at r
  cases r
  exact ⟨[],by simp only[zeM];exact .nil⟩
 | n,d :: ds,vs,us,hk,h,r=>by
  obtain ⟨v,t,rfl,h1,h2⟩:=h.cons_inv
  cases r with
  | cons r1 r2 =>
   simp only[List.all_cons,Bool.and_eq_true] at hk
   obtain ⟨as,q1⟩:=zfp I n d v _ hk.1 h1 r1
   obtain ⟨bs,q2⟩:=zfi I n ds t _ hk.2 h2 r2
   exact ⟨as ++ bs,by simp only[zeM];exact .cons q1 q2⟩
end
end
def zth(K:W.Frag)(neg:Bool):R2:=fun x y H Q=>∃ dx dy,Rep K H dx x∧Rep K H dy y∧okN 60 dx=true∧okN 60 dy=true∧Q (.bl (if neg then !eqD dx dy else eqD dx dy)) H
theorem zf6{d:Dt}(h:okN 60 d=true):SeqAt.shaped (zfx d)=true:=by
 obtain ⟨h1,h2⟩:=zmW 60 d h
 unfold SeqAt.shaped
 rw[h1,Bool.true_and]
 exact decide_eq_true (by omega)
section
variable{X:Cx}
theorem zou(hu:X.A.units + 64 < cLine):OpR X (compareOp .Eq) (zth X.K false):=by
 intro pins s σ H x y v u Q I rx ry h
 obtain ⟨dx,dy,h1,h2,h3,h4,q⟩:=h
 obtain ⟨as,ra⟩:=zfp I 60 dx x v h3 h1 rx
 obtain ⟨bs,rb⟩:=zfp I 60 dy y u h4 h2 ry
 exact PyProof.Rows.eq_dataH ra rb (zf6 h3) (zf6 h4) hu ⟨.bl (eqD dx dy),H,I,(by rw[zne 60 dx dy h3 h4];rfl),q⟩
theorem zqm(hu:X.A.units + 64 < cLine):OpR X (compareOp .NotEq) (zth X.K true):=by
 intro pins s σ H x y v u Q I rx ry h
 obtain ⟨dx,dy,h1,h2,h3,h4,q⟩:=h
 obtain ⟨as,ra⟩:=zfp I 60 dx x v h3 h1 rx
 obtain ⟨bs,rb⟩:=zfp I 60 dy y u h4 h2 ry
 exact PyProof.Rows.ne_dataH ra rb (zf6 h3) (zf6 h4) hu ⟨.bl (!eqD dx dy),H,I,(by rw[zne 60 dx dy h3 h4];rfl),q⟩
def gEq(neg:Bool):Dt→Dt→R Dt:=fun x y=>if (okN 60 x && okN 60 y)=true then .ok (.bl (if neg then !eqD x y else eqD x y)) else .no
theorem ziw(neg:Bool):zia (gEq neg):=fun x y n h=>by unfold gEq at h;split at h <;> cases h
theorem zl6{K:W.Frag}(neg:Bool):Op2 K (zth K neg) (gEq neg):=fun G H x y dx dy z Q gh hx hy e k=>by
 unfold gEq at e
 split at e
 ·rename_i h
  rw[Bool.and_eq_true] at h
  cases e
  exact ⟨dx,dy,hx.same gh,hy.same gh,h.1,h.2,k _ G H (.refl gh) (by unfold Rep;rfl)⟩
 ·cases e
open Classical in
end
def zdd(i:Int):Bool:=decide (-18446744073709551616 < i) && decide (i < 18446744073709551616)
theorem zhR{i:Int}(h:zdd i=true):-(2 ^ 64) < i∧i < 2 ^ 64:=by
 unfold zdd at h
 rw[Bool.and_eq_true] at h
 have h1:=of_decide_eq_true h.1
 have h2:=of_decide_eq_true h.2
 omega
def zbF:Dt→Dt→R Dt
 | .int i,.int j=>.ok (.int (i + j))
 | _,_=>.no
def zed:Dt→Dt→R Dt
 | .int i,.int j=>.ok (.int (i - j))
 | _,_=>.no
def zng:Dt→Dt→R Dt
 | .int i,.int j=>if (zdd i || zdd j)=true then .ok (.int (i * j)) else .no
 | _,_=>.no
def zpB:Dt→Dt→R Dt
 | .int i,.int j=>if 0 < j∧j < 1073741824 then .ok (.int (i / j)) else .no
 | _,_=>.no
def zlX:Dt→Dt→R Dt
 | .int i,.int j=>if 0 < j then .ok (.int (i % j)) else .no
 | _,_=>.no
def zpP:Dt→Dt→R Dt
 | .int i,.int j=>if 0≤j∧j≤1000∧i.natAbs < 18446744073709551616 then .ok (.int (i ^ j.toNat)) else .no
 | _,_=>.no
def zmB(f:Int→Int→Bool):Dt→Dt→R Dt
 | .int i,.int j=>.ok (.bl (f i j))
 | _,_=>.no
section
variable{K:W.Frag}
theorem zaH{G:Hp}(i:Int):Rep K G (.int i) (.int i):=by unfold Rep;rfl
theorem zcU{G:Hp}(b:Bool):Rep K G (.bl b) (.bl b):=by unfold Rep;rfl
theorem zpo:Op2 K (rI0 fun i j=>.int (i + j)) zbF:=fun G H x y dx dy z Q gh hx hy e k=>by
 unfold zbF at e
 split at e
 ·cases e;exact ⟨_,_,zaE hx,zaE hy,k _ G H (.refl gh) (zaH _)⟩
 ·cases e
theorem zrx:Op2 K (rI0 fun i j=>.int (i - j)) zed:=fun G H x y dx dy z Q gh hx hy e k=>by
 unfold zed at e
 split at e
 ·cases e;exact ⟨_,_,zaE hx,zaE hy,k _ G H (.refl gh) (zaH _)⟩
 ·cases e
theorem zq7:Op2 K (rI zt7 fun i j=>.int (i * j)) zng:=fun G H x y dx dy z Q gh hx hy e k=>by
 unfold zng at e
 split at e
 ·split at e
  ·rename_i h
   cases e
   rw[Bool.or_eq_true] at h
   exact ⟨_,_,zaE hx,zaE hy,h.elim (fun z=>.inl (zhR z)) (fun z=>.inr (zhR z)),k _ G H (.refl gh) (zaH _)⟩
  ·cases e
 ·cases e
theorem zqN:Op2 K (rI CDiv fun i j=>.int (i / j)) zpB:=fun G H x y dx dy z Q gh hx hy e k=>by
 unfold zpB at e
 split at e
 ·split at e
  ·rename_i h
   cases e
   exact ⟨_,_,zaE hx,zaE hy,h,k _ G H (.refl gh) (zaH _)⟩
  ·cases e
 ·cases e
theorem zrb:Op2 K (rI (fun _ j=>0 < j) fun i j=>.int (i % j)) zlX:=fun G H x y dx dy z Q gh hx hy e k=>by
 unfold zlX at e
 split at e
 ·split at e
  ·rename_i h
   cases e
   exact ⟨_,_,zaE hx,zaE hy,h,k _ G H (.refl gh) (zaH _)⟩
  ·cases e
 ·cases e
theorem zrl:Op2 K (rI CPow fun i j=>.int (i ^ j.toNat)) zpP:=fun G H x y dx dy z Q gh hx hy e k=>by
 unfold zpP at e
 split at e
 ·split at e
  ·rename_i h
   cases e
   exact ⟨_,_,zaE hx,zaE hy,⟨h.1,by omega,by have:=h.2.2;omega⟩,k _ G H (.refl gh) (zaH _)⟩
  ·cases e
 ·cases e
theorem zeV{f:Int→Int→Bool}:Op2 K (rI0 fun i j=>.bl (f i j)) (zmB f):=fun G H x y dx dy z Q gh hx hy e k=>by
 unfold zmB at e
 split at e
 ·cases e;exact ⟨_,_,zaE hx,zaE hy,k _ G H (.refl gh) (zcU _)⟩
 ·cases e
theorem zok:zia zbF:=fun x y n h=>by unfold zbF at h;split at h <;> cases h
theorem zpb:zia zed:=fun x y n h=>by unfold zed at h;split at h <;> cases h
theorem zoF:zia zng:=fun x y n h=>by unfold zng at h;split at h <;> first | cases h | (split at h <;> cases h)
theorem zpO:zia zpB:=fun x y n h=>by unfold zpB at h;split at h <;> first | cases h | (split at h <;> cases h)
theorem zoS:zia zlX:=fun x y n h=>by unfold zlX at h;split at h <;> first | cases h | (split at h <;> cases h)
theorem zpi:zia zpP:=fun x y n h=>by unfold zpP at h;split at h <;> first | cases h | (split at h <;> cases h)
theorem zdP{f:Int→Int→Bool}:zia (zmB f):=fun x y n h=>by unfold zmB at h;split at h <;> cases h
end
section
variable{X:Cx}{C:Cn}{a b:Expr}{fa fb:De}{pos:Pos}
theorem zcI(ha:JE X C a fa)(hb:JE X C b fb):JE X C (.BinOp a .Add b pos) (dOp zbF fa fb):=zkx zsn zpo zok ha hb
theorem zfz(ha:JE X C a fa)(hb:JE X C b fb):JE X C (.BinOp a .Sub b pos) (dOp zed fa fb):=zkx zsB zrx zpb ha hb
theorem zj5(ha:JE X C a fa)(hb:JE X C b fb):JE X C (.BinOp a .Mult b pos) (dOp zng fa fb):=zkx ztk zq7 zoF ha hb
theorem zqj(ha:JE X C a fa)(hb:JE X C b fb):JE X C (.BinOp a .FloorDiv b pos) (dOp zpB fa fb):=zkx zrH zqN zpO ha hb
theorem zhJ(ha:JE X C a fa)(hb:JE X C b fb):JE X C (.BinOp a .Mod b pos) (dOp zlX fa fb):=zkx zs4 zrb zoS ha hb
theorem zqy(ha:JE X C a fa)(hb:JE X C b fb):JE X C (.BinOp a .Pow b pos) (dOp zpP fa fb):=zkx zsK zrl zpi ha hb
abbrev gLt:=zmB fun i j=>decide (i < j)
abbrev gLe:=zmB fun i j=>decide (i≤j)
abbrev gGt:=zmB fun i j=>decide (j < i)
abbrev gGe:=zmB fun i j=>decide (j≤i)
theorem zub(ha:JE X C a fa)(hb:JE X C b fb):JE X C (.Compare a [.Lt] [b] pos) (dOp gLt fa fb):=zo4 zqW zeV zdP ha hb (zeT _)
theorem zuk(ha:JE X C a fa)(hb:JE X C b fb):JE X C (.Compare a [.Gt] [b] pos) (dOp gGt fa fb):=zo4 ztd zeV zdP ha hb (zeT _)
theorem zoE(hu:X.A.units + 64 < cLine)(ha:JE X C a fa)(hb:JE X C b fb):JE X C (.Compare a [.Eq] [b] pos) (dOp (gEq false) fa fb):=zo4 (zou hu) (zl6 false) (ziw false) ha hb (zeT _)
theorem znU(ha:JE X C a fa)(hb:JE X C b fb):JT X C (.Compare a [.Lt] [b] pos) (dTB (dOp gLt fa fb)):=zhC zqW zeV zdP ha hb (zeT _)
theorem znV(ha:JE X C a fa)(hb:JE X C b fb):JT X C (.Compare a [.Gt] [b] pos) (dTB (dOp gGt fa fb)):=zhC ztd zeV zdP ha hb (zeT _)
theorem ztR(ha:JE X C a fa)(hb:JE X C b fb):JT X C (.Compare a [.GtE] [b] pos) (dTB (dOp gGe fa fb)):=zhC ztH zeV zdP ha hb (zeT _)
theorem zmH(hu:X.A.units + 64 < cLine)(ha:JE X C a fa)(hb:JE X C b fb):JT X C (.Compare a [.Eq] [b] pos) (dTB (dOp (gEq false) fa fb)):=zhC (zou hu) (zl6 false) (ziw false) ha hb (zeT _)
theorem zmJ(hu:X.A.units + 64 < cLine)(ha:JE X C a fa)(hb:JE X C b fb):JT X C (.Compare a [.NotEq] [b] pos) (dTB (dOp (gEq true) fa fb)):=zhC (zqm hu) (zl6 true) (ziw true) ha hb (zeT _)
def zm5(fa:De):De:=fun ρ=>(fa ρ).bind fun a=>match a.1 with
 | .int i=>.ok (.int (-i),a.2)
 | _=>.no
theorem zlK(ha:JE X C a fa):JE X C (.UnaryOp .USub a pos) (zm5 fa):=PE.weak (zsl zqe ha) fun σ H Q ⟨G,w,ρ,r,p⟩=>by
 refine zez (κ:=fun G H w=>kE X.K C σ Q G H w) zcA r p fun d ρ1 v G1 H1 w1 r1 s1 q1 p1=>?_
 cases d with
 | int i=>exact ⟨i,zaE q1,p1 _ G1 H1 w1 (.refl _ _ _) r1 (zaH _)⟩
 | _=>exact p1.elim
def zjY(g g':Dt→Dt→R Dt)(fa fb fc:De):De:=fun ρ=>(fa ρ).bind fun a=>(fb a.2).bind fun b=>(g a.1 b.1).bind fun z=>match z with
 | .bl true=>(fc b.2).bind fun c=>(g' b.1 c.1).bind fun z'=>.ok (z',c.2)
 | .bl false=>.ok (.bl false,b.2)
 | _=>.no
end
def FnR(K:W.Frag)(r:List V→Hp→VK→Prop)(g:List Dt→R Dt):Prop:=∀(G H:Hp)(vs:List V)(ds:List Dt)(z:Dt)(Q:VK),zbG G H→za6 K G ds vs→g ds = .ok z →
 (∀ v G' H',ze9 G H G' H'→Rep K G' z v→Q v H')→r vs H Q
def FnN(K:W.Frag)(r:List V→Hp→VK→Prop)(g:List Dt→R (List Dt)):Prop:=∀(G H:Hp)(vs:List V)(ds:List Dt)(z:List Dt)(Q:VK),zbG G H→za6 K G ds vs→g ds = .ok z →
 (∀ p zs,H p=none→za6 K G z zs→Q (.ref p) (upd H p (.lst zs)))→r vs H Q
def zkM{α:Type}(g:List Dt→R α):Prop:=∀ x n,g x≠.er n
def dFn(g:List Dt→R Dt)(fa:DA):De:=fun ρ=>(fa ρ).bind fun a=>(g a.1).bind fun z=>.ok (z,a.2)
def zfq(g:List Dt→R (List Dt))(fa:DA):DN:=fun ρ=>(fa ρ).bind fun a=>(g a.1).bind fun z=>.ok (z,a.2)
section
variable{X:Cx}{C:Cn}{e:Expr}{es:List Expr}{fa:DA}{p pos:Pos}{x:Str}{id T:String}{r:List V→Hp→VK→Prop}
theorem zmR{g:List Dt→R Dt}{σ:L2.St}{H:Hp}{Q:VK}(h:FnR X.K r g)(he:zkM g)(t:tE X.K C (dFn g fa) σ H Q):tCB r (tAd X.K C fa) σ H Q:=by
 obtain ⟨G,w,ρ,rr,p⟩:=t
 refine zrM (κ:=fun G H w=>kE X.K C σ Q G H w) zcA rr p fun ds ρ1 vs G1 H1 w1 r1 s1 q1 p1=>?_
 cases e:g ds with
 | ok z =>
  simp only[e,R.bind_ok] at p1
  exact h G1 H1 vs ds z Q r1.gh q1 e fun v G' H' gr q=>p1 v G' H' w1 gr.step (r1.grow gr) q
 | er n=>exact absurd e (he _ _)
 | no=>simp only[e,R.bind_no] at p1;exact p1.elim
theorem zlO{g:List Dt→R (List Dt)}{σ:L2.St}{H:Hp}{Q:VK}(h:FnN X.K r g)(he:zkM g)(t:tN X.K C (zfq g fa) σ H Q):tCB r (tAd X.K C fa) σ H Q:=by
 obtain ⟨G,w,ρ,rr,p⟩:=t
 refine zrM (κ:=fun G H w=>kN X.K C σ Q G H w) zeU rr p fun ds ρ1 vs G1 H1 w1 r1 s1 q1 p1=>?_
 cases e:g ds with
 | ok z =>
  simp only[e,R.bind_ok] at p1
  refine h G1 H1 vs ds z Q r1.gh q1 e fun a zs ha q=>?_
  have gr:ze9 G1 H1 G1 (upd H1 a (.lst zs)):=.newH r1.gh ha
  exact p1 a zs G1 _ w1 gr.step (r1.grow gr) ha zaj (r1.gh.free ha) (by
   cases z:w1 a with
   | none=>rfl
   | some k=>exact absurd ha (r1.wh a (by rw[z];simp))) q
 | er n=>exact absurd e (he _ _)
 | no=>simp only[e,R.bind_no] at p1;exact p1.elim
theorem zf2{g:List Dt→R Dt}(h:FnR X.K r g)(he:zkM g)(hc:zcO X (.builtin id) r)(hg:Gl X x)(hm:X.mg x=none)(hv:bootBuiltins x=some (.builtin id))(ha:JA X C (e :: es) fa)(hn:x≠"__name__":=by decide)(hdb:(x == ("__debug__" : Str))=false:=by decide)
  (hs:starEach (e :: es) X.env=(false,eval e X.env) :: starEach es X.env:=by rfl) (hpl:(backTo pos (starEach es X.env)).any (·.1)=false:=by rfl):JE X C (.Call (.Name x p) (e :: es) [] pos) (dFn g fa) :=
 PE.weak (zdL hc hg hm hv ha hn hdb hs hpl) fun σ H Q t=>zmR h he t
theorem zn5{g:List Dt→R Dt}(h:FnR X.K r g)(he:zkM g)(hc:zcO X (.type T) r)(hg:Gl X x)(hm:X.mg x=none)(hv:bootBuiltins x=some (.type T))(ha:JA X C (e :: es) fa)(hn:x≠"__name__":=by decide)(hdb:(x == ("__debug__" : Str))=false:=by decide)
  (hs:starEach (e :: es) X.env=(false,eval e X.env) :: starEach es X.env:=by rfl) (hpl:(backTo pos (starEach es X.env)).any (·.1)=false:=by rfl):JE X C (.Call (.Name x p) (e :: es) [] pos) (dFn g fa) :=
 PE.weak (zhf hc hg hm hv ha hn hdb hs hpl) fun σ H Q t=>zmR h he t
theorem zlN{g:List Dt→R (List Dt)}(h:FnN X.K r g)(he:zkM g)(hc:zcO X (.builtin id) r)(hg:Gl X x)(hm:X.mg x=none)(hv:bootBuiltins x=some (.builtin id))(ha:JA X C (e :: es) fa)(hn:x≠"__name__":=by decide)(hdb:(x == ("__debug__" : Str))=false:=by decide)
  (hs:starEach (e :: es) X.env=(false,eval e X.env) :: starEach es X.env:=by rfl) (hpl:(backTo pos (starEach es X.env)).any (·.1)=false:=by rfl):JN X C (.Call (.Name x p) (e :: es) [] pos) (zfq g fa) :=
 PE.weak (zdL hc hg hm hv ha hn hdb hs hpl) fun σ H Q t=>zlO h he t
theorem znK{g:List Dt→R (List Dt)}(h:FnN X.K r g)(he:zkM g)(hc:zcO X (.type T) r)(hg:Gl X x)(hm:X.mg x=none)(hv:bootBuiltins x=some (.type T))(ha:JA X C (e :: es) fa)(hn:x≠"__name__":=by decide)(hdb:(x == ("__debug__" : Str))=false:=by decide)
  (hs:starEach (e :: es) X.env=(false,eval e X.env) :: starEach es X.env:=by rfl) (hpl:(backTo pos (starEach es X.env)).any (·.1)=false:=by rfl):JN X C (.Call (.Name x p) (e :: es) [] pos) (zfq g fa) :=
 PE.weak (zhf hc hg hm hv ha hn hdb hs hpl) fun σ H Q t=>zlO h he t
end
def zde:List Dt→R Dt
 | [.lst l]=>.ok (.int l.length)
 | [.tup l]=>.ok (.int l.length)
 | [.scr l]=>.ok (.int l.length)
 | [.str x]=>if x.length≤16777216 then .ok (.int x.length) else .no
 | _=>.no
def rLen(K:W.Frag):List V→Hp→VK→Prop:=fun xs H Q=>(∃ p ys,xs=[.ref p]∧(SqL K H p ys∨SqT K H p ys)∧Q (.int ys.length) H)∨∃ z,xs=[.str z]∧z.length≤sizeLine∧Q (.int z.length) H
theorem zfR{K:W.Frag}{G:Hp}{d:Dt}{vs:List V}(h:za6 K G [d] vs):∃ v,vs=[v]∧Rep K G d v:=by
 obtain ⟨v,r,rfl,h1,h2⟩:=h.cons_inv
 rw[h2.nil_inv];exact ⟨v,rfl,h1⟩
theorem zq5{K:W.Frag}{G:Hp}{d e:Dt}{vs:List V}(h:za6 K G [d,e] vs):∃ v u,vs=[v,u]∧Rep K G d v∧Rep K G e u:=by
 obtain ⟨v,r,rfl,h1,h2⟩:=h.cons_inv
 obtain ⟨u,rfl,h3⟩:=zfR h2
 exact ⟨v,u,rfl,h1,h3⟩
theorem zkl{K:W.Frag}{G:Hp}{l:List Int}{v:V}(h:Rep K G (.scr l) v):∃ a,v = .ref a∧SqL K G a (l.map V.int):=by unfold Rep at h;exact h
section
variable{K:W.Frag}
theorem zsE:FnR K (rLen K) zde:=fun G H vs ds z Q gh hr e k=>by
 unfold zde at e
 split at e
 ·obtain ⟨v,rfl,h1⟩:=zfR hr
  obtain ⟨a,us,rfl,h2,h3⟩:=zbz h1
  cases e
  exact .inl ⟨a,us,rfl,.inl (SqL.of (gh _ _ h2)),by rw[← h3.length];exact k _ G H (.refl gh) (zaH _)⟩
 ·obtain ⟨v,rfl,h1⟩:=zfR hr
  obtain ⟨a,us,rfl,h2,h3⟩:=zcG h1
  cases e
  exact .inl ⟨a,us,rfl,.inr (zaM gh h2),by rw[← h3.length];exact k _ G H (.refl gh) (zaH _)⟩
 ·obtain ⟨v,rfl,h1⟩:=zfR hr
  obtain ⟨a,rfl,h2⟩:=zkl h1
  cases e
  exact .inl ⟨a,_,rfl,.inl (gh.seq h2),by rw[List.length_map];exact k _ G H (.refl gh) (zaH _)⟩
 ·split at e
  ·rename_i hx
   obtain ⟨v,rfl,h1⟩:=zfR hr
   cases e
   exact .inr ⟨_,by rw[zky h1],by rw[show sizeLine=16777216 from by decide];exact hx,k _ G H (.refl gh) (zaH _)⟩
  ·cases e
 ·cases e
theorem ztr:zkM zde:=fun x n h=>by unfold zde at h;split at h <;> first | cases h | (split at h <;> cases h)
def zgU:List Dt→R (List Dt)
 | [.lst l]=>.ok l
 | [.tup l]=>.ok l
 | _=>.no
theorem zrc:FnN K (fun xs H Q=>∃ p ys,xs=[.ref p]∧(SqL K H p ys∨SqT K H p ys)∧∀ l,H l=none→Q (.ref l) (upd H l (.lst ys))) zgU:=fun G H vs ds z Q gh hr e k=>by
 unfold zgU at e
 split at e
 ·obtain ⟨v,rfl,h1⟩:=zfR hr
  obtain ⟨a,us,rfl,h2,h3⟩:=zbz h1
  cases e
  exact ⟨a,us,rfl,.inl (SqL.of (gh _ _ h2)),fun l hl=>k l us hl h3⟩
 ·obtain ⟨v,rfl,h1⟩:=zfR hr
  obtain ⟨a,us,rfl,h2,h3⟩:=zcG h1
  cases e
  exact ⟨a,us,rfl,.inr (zaM gh h2),fun l hl=>k l us hl h3⟩
 ·cases e
theorem zra:zkM zgU:=fun x n h=>by unfold zgU at h;split at h <;> cases h
def zbn:List Dt→R Dt
 | [.lst l]=>.ok (.tup l)
 | [.tup l]=>.ok (.tup l)
 | _=>.no
theorem zpG:FnR K (fun xs H Q=>∃ p ys,xs=[.ref p]∧((SqL K H p ys∧∀ l,H l=none→Q (.ref l) (upd H l (.tup ys)))∨(SqT K H p ys∧Q (.ref p) H))) zbn:=fun G H vs ds z Q gh hr e k=>by
 unfold zbn at e
 split at e
 ·obtain ⟨v,rfl,h1⟩:=zfR hr
  obtain ⟨a,us,rfl,h2,h3⟩:=zbz h1
  cases e
  refine ⟨a,us,rfl,.inl ⟨SqL.of (gh _ _ h2),fun l hl=>?_⟩⟩
  have gr:ze9 G H (upd G l (.tup us)) (upd H l (.tup us)):=.new gh hl
  exact k _ _ _ gr (by unfold Rep;exact ⟨l,us,rfl,zjT.of zaj,h3.same gr.g⟩)
 ·obtain ⟨v,rfl,h1⟩:=zfR hr
  obtain ⟨a,us,rfl,h2,h3⟩:=zfs h1
  cases e
  exact ⟨a,us,rfl,.inr ⟨zaM gh h2.sq,k _ G H (.refl gh) (by unfold Rep;exact ⟨a,us,rfl,h2,h3⟩)⟩⟩
 ·cases e
theorem zpz:zkM zbn:=fun x n h=>by unfold zbn at h;split at h <;> cases h
def zin:List Dt→R Dt
 | [.int i,.int j]=>.ok (.int (if j > i then j else i))
 | _=>.no
def zfK:List Dt→R Dt
 | [.int i,.int j]=>.ok (.int (if j < i then j else i))
 | _=>.no
theorem zqD:FnR K (fun xs H Q=>∃ i j,xs=[.int i,.int j]∧Q (.int (if j > i then j else i)) H) zin:=fun G H vs ds z Q gh hr e k=>by
 unfold zin at e
 split at e
 ·obtain ⟨v,u,rfl,h1,h2⟩:=zq5 hr
  cases e
  exact ⟨_,_,by rw[zaE h1,zaE h2],k _ G H (.refl gh) (zaH _)⟩
 ·cases e
theorem zqP:FnR K (fun xs H Q=>∃ i j,xs=[.int i,.int j]∧Q (.int (if j < i then j else i)) H) zfK:=fun G H vs ds z Q gh hr e k=>by
 unfold zfK at e
 split at e
 ·obtain ⟨v,u,rfl,h1,h2⟩:=zq5 hr
  cases e
  exact ⟨_,_,by rw[zaE h1,zaE h2],k _ G H (.refl gh) (zaH _)⟩
 ·cases e
theorem zqY:zkM zin:=fun x n h=>by unfold zin at h;split at h <;> cases h
theorem zqV:zkM zfK:=fun x n h=>by unfold zfK at h;split at h <;> cases h
end
section
variable{X:Cx}
theorem zgr{α:Type}{f:α→V}{g:α→Value→Prop}(h:∀ a u,zcD (f a) u→g a u):∀{as:List α}{us:List Value}{i:Nat}{u:Value},zbk (as.map f) us→us[i]? = some u→∃ a,as[i]? = some a∧g a u
 | [],_,_,_,r,e=>by cases r;simp at e
 | a :: as,_,0,u,.cons r t,e=>by simp at e;subst e;exact ⟨a,rfl,h a _ r⟩
 | a :: as,_,i + 1,u,.cons r t,e=>by
  obtain ⟨b,h1,h2⟩:=zgr h (i:=i) t (by simpa using e)
  exact ⟨b,by simpa using h1,h2⟩
theorem ziS:∀(bs:List Bool),((List.range bs.length).all fun i=>(bs[i]?).getD true)=bs.all id:=fun bs=>by
 rw[Bool.eq_iff_iff,List.all_eq_true,List.all_eq_true]
 constructor
 ·intro h b hb
  obtain ⟨i,hi,rfl⟩:=List.mem_iff_getElem.mp hb
  have:=h i (List.mem_range.mpr hi)
  simpa [hi] using this
 ·intro h i hi
  have hi':=List.mem_range.mp hi
  simpa [hi'] using h bs[i] (List.getElem_mem hi')
theorem zoc(hc:X.calm=true):zcO X (.builtin "all") (fun xs H Q=>∃(p:Addr)(bs:List Bool),xs=[.ref p]∧SqL X.K H p (bs.map V.bl)∧Q (.bl (bs.all id)) H):=by
 intro pins s σ H xs us Q I r h
 obtain ⟨p,bs,rfl,hq,q⟩:=h
 obtain ⟨u,rfl,ru⟩:=zfO r
 cases ru
 obtain ⟨its,rv,pl,hz⟩:=I.list hq
 have hlt:p≠s.heap.objs.size:=by
  obtain ⟨o,n,e,_⟩:=id pl
  exact Nat.ne_of_lt (Heap.lt_size e)
 have hlen:its.length=bs.length:=by rw[← rv.length];simp
 refine call_all_walk (wpAny_pyIter_list pl.isList ?_)
 refine ⟨s.heap.objs.size,_,_,_,_,_,fun i=>(bs[i]?).getD true,rfl,Walks.list (A:=X.A.in1) (I.ok.hd hc) s.heap.objs.size p hlt its.toArray,⟨⟨_,Heap.get?_push_size _ rfl,rfl,rfl⟩,?_⟩,?_,fun h' tk hk=>?_⟩
 ·obtain ⟨o,ho,hc',n,hd⟩:=pl.isList
  exact ⟨o,Heap.get?_push_of_some _ ho,hc',n,hd⟩
 ·intro i v s' Q' E' hP hQ
  obtain ⟨b,h1,h2⟩:=zgr (f:=V.bl) (g:=fun b u=>u=Value.bool b) (fun a u z=>z) rv (i:=i) (u:=v) (by simpa using hP)
  subst h2
  simp only[h1,Option.getD_some] at hQ
  exact wpAny_truthy_bool hQ
 ·refine ⟨.bl (bs.all id),H,I.kept (t':=tk) fun b o e=>hk b o (fun z=>?_) (Heap.get?_push_of_some _ e),?_,q⟩
  ·simp at z;exact absurd (z ▸ Heap.lt_size e) (Nat.lt_irrefl _)
  ·show Value.bool _=_
   rw[List.size_toArray,hlen,ziS]
def zeK:List Dt→Option (List Bool)
 | []=>some []
 | .bl b :: r=>(zeK r).map (b :: ·)
 | _=>none
theorem zhU{K:W.Frag}{G:Hp}:∀{ds:List Dt}{vs:List V}{bs:List Bool},za6 K G ds vs→zeK ds=some bs→vs=bs.map V.bl
 | [],_,_,h,e=>by rw[h.nil_inv];simp[zeK] at e;subst e;rfl
 | .bl b :: r,_,bs,h,e=>by
  obtain ⟨v,t,rfl,h1,h2⟩:=h.cons_inv
  simp only[zeK,Option.map_eq_some_iff] at e
  obtain ⟨bs',e1,rfl⟩:=e
  rw[zfr h1,zhU h2 e1];rfl
 | .non :: _,_,_,_,e=>by simp[zeK] at e
 | .int _ :: _,_,_,_,e=>by simp[zeK] at e
 | .str _ :: _,_,_,_,e=>by simp[zeK] at e
 | .tup _ :: _,_,_,_,e=>by simp[zeK] at e
 | .lst _ :: _,_,_,_,e=>by simp[zeK] at e
 | .dct :: _,_,_,_,e=>by simp[zeK] at e
 | .scr _ :: _,_,_,_,e=>by simp[zeK] at e
def zlT:List Dt→R Dt
 | [.lst l]=>match zeK l with
  | some bs=>.ok (.bl (bs.all id))
  | none=>.no
 | _=>.no
theorem ztn{K:W.Frag}:FnR K (fun xs H Q=>∃(p:Addr)(bs:List Bool),xs=[.ref p]∧SqL K H p (bs.map V.bl)∧Q (.bl (bs.all id)) H) zlT:=fun G H vs ds z Q gh hr e k=>by
 unfold zlT at e
 split at e
 ·split at e
  ·rename_i bs eb
   obtain ⟨v,rfl,h1⟩:=zfR hr
   obtain ⟨a,us,rfl,h2,h3⟩:=zbz h1
   cases e
   rw[zhU h3 eb] at h2
   exact ⟨a,bs,rfl,SqL.of (gh _ _ h2),k _ G H (.refl gh) (zcU _)⟩
  ·cases e
 ·cases e
theorem zrP:zkM zlT:=fun x n h=>by unfold zlT at h;split at h <;> first | cases h | (split at h <;> cases h)
def zh3:List Dt→Option (List Int)
 | []=>some []
 | .int b :: r=>(zh3 r).map (b :: ·)
 | _=>none
theorem zic{K:W.Frag}{G:Hp}:∀{ds:List Dt}{vs:List V}{bs:List Int},za6 K G ds vs→zh3 ds=some bs→vs=bs.map V.int
 | [],_,_,h,e=>by rw[h.nil_inv];simp[zh3] at e;subst e;rfl
 | .int b :: r,_,bs,h,e=>by
  obtain ⟨v,t,rfl,h1,h2⟩:=h.cons_inv
  simp only[zh3,Option.map_eq_some_iff] at e
  obtain ⟨bs',e1,rfl⟩:=e
  rw[zaE h1,zic h2 e1];rfl
 | .non :: _,_,_,_,e=>by simp[zh3] at e
 | .bl _ :: _,_,_,_,e=>by simp[zh3] at e
 | .str _ :: _,_,_,_,e=>by simp[zh3] at e
 | .tup _ :: _,_,_,_,e=>by simp[zh3] at e
 | .lst _ :: _,_,_,_,e=>by simp[zh3] at e
 | .dct :: _,_,_,_,e=>by simp[zh3] at e
 | .scr _ :: _,_,_,_,e=>by simp[zh3] at e
theorem zeR(ns:List Int):zh3 (ns.map .int)=some ns:=by
 induction ns with
 | nil=>rfl
 | cons n r ih=>simp[zh3,ih]
def maxZ:List Int→Int
 | []=>0
 | [a]=>a
 | a :: b :: r=>let m:=maxZ (b :: r);if a < m then m else a
def zmO:List Int→Int
 | []=>0
 | [a]=>a
 | a :: b :: r=>let m:=zmO (b :: r);if m < a then m else a
theorem zjm:∀(l:List Int),l≠[]→zmO l∈l∧∀ a∈l,zmO l≤a
 | [],h=>absurd rfl h
 | [a],_=>by simp[zmO]
 | a :: b :: r,_=>by
  obtain ⟨h1,h2⟩:=zjm (b :: r) (by simp)
  simp only[zmO]
  split
  ·rename_i h
   refine ⟨List.mem_cons_of_mem _ h1,fun x hx=>?_⟩
   rcases List.mem_cons.mp hx with rfl | hx
   ·omega
   ·exact h2 x hx
  ·rename_i h
   refine ⟨List.mem_cons_self,fun x hx=>?_⟩
   rcases List.mem_cons.mp hx with rfl | hx
   ·omega
   ·have:=h2 x hx;omega
theorem zql{l:List Int}{m:Int}(h1:m∈l)(h2:∀ a∈l,m≤a):m=zmO l:=by
 obtain ⟨h3,h4⟩:=zjm l (by intro z;subst z;cases h1)
 have:=h2 _ h3
 have:=h4 _ h1
 omega
end
section
variable{X:Cx}
theorem zo2(hc:X.calm=true):zcO X (.builtin "min") (fun xs H Q=>∃(p:Addr)(ns:List Int),xs=[.ref p]∧SqL X.K H p (ns.map V.int)∧ns≠[]∧Q (.int (zmO ns)) H):=by
 intro pins s σ H xs us Q I r h
 obtain ⟨p,ns,rfl,hq,hne,q⟩:=h
 obtain ⟨u,rfl,ru⟩:=zfO r
 cases ru
 obtain ⟨its,rv,pl,hz⟩:=I.list hq
 have hlt:p≠s.heap.objs.size:=by
  obtain ⟨o,n,e,_⟩:=id pl
  exact Nat.ne_of_lt (Heap.lt_size e)
 have hlen:its.length=ns.length:=by rw[← rv.length];simp
 have hpos:0 < ns.length:=by cases ns with | nil=>exact absurd rfl hne | cons a r=>simp
 refine call_min_walk (wpAny_pyIter_list pl.isList ?_)
 refine ⟨s.heap.objs.size,_,_,_,_,_,_,rfl,Walks.list (A:=X.A.in1) (I.ok.hd hc) s.heap.objs.size p hlt its.toArray,⟨⟨_,Heap.get?_push_size _ rfl,rfl,rfl⟩,?_⟩,?_,(by rw[List.size_toArray,hlen];exact hpos),CmpOf.ints_lt (fun i=>(ns[i]?).getD 0) (fun i v hP=>?_),fun v h' tk hP hk=>?_⟩
 ·obtain ⟨o,ho,hc',n,hd⟩:=pl.isList
  exact ⟨o,Heap.get?_push_of_some _ ho,hc',n,hd⟩
 ·intro b hb
  rw[Heap.size_push]
  obtain ⟨o,n,e,_⟩:=id pl
  rcases List.mem_cons.mp hb with rfl | hb
  ·exact Nat.lt_succ_self _
  ·simp at hb;subst hb;exact Nat.lt_succ_of_lt (Heap.lt_size e)
 ·obtain ⟨a,h1,h2⟩:=zgr (f:=V.int) (g:=fun a u=>∃ t,u=Value.int a t) (fun a u z=>z) rv (i:=i) (u:=v) (by simpa using hP)
  simp only[h1,Option.getD_some];exact h2
 ·have hP:its.toArray[argBest (fun i j=>decide (((ns[i]?).getD 0) < ((ns[j]?).getD 0))) (its.toArray.size - 1)]? = some v:=hP
  obtain ⟨a,h1,t,rfl⟩:=zgr (f:=V.int) (g:=fun a u=>∃ t,u=Value.int a t) (fun a u z=>z) rv (u:=v) (by simpa using hP)
  obtain ⟨k1,k2⟩:=argBest_lt (fun i=>(ns[i]?).getD 0) (its.toArray.size - 1)
  have ea:a=zmO ns:=by
   refine zql (List.mem_of_getElem? h1) fun b hb=>?_
   obtain ⟨j,hj,rfl⟩:=List.mem_iff_getElem.mp hb
   have:=k2 j (by rw[List.size_toArray,hlen];omega)
   rw[show its.toArray.size - 1=its.length - 1 from by rw[List.size_toArray]] at this
   simp only[h1,List.getElem?_eq_getElem hj,Option.getD_some] at this
   exact this
  subst ea
  refine ⟨.int (zmO ns),H,I.kept (t':=tk) fun b o e=>hk b o (fun z=>?_) (Heap.get?_push_of_some _ e),⟨t,rfl⟩,q⟩
  simp at z;exact absurd (z ▸ Heap.lt_size e) (Nat.lt_irrefl _)
def zdI:List Dt→R Dt
 | [.lst l]=>match zh3 l with
  | some (a :: r)=>.ok (.int (zmO (a :: r)))
  | _=>.no
 | _=>.no
theorem zqE{K:W.Frag}:FnR K (fun xs H Q=>∃(p:Addr)(ns:List Int),xs=[.ref p]∧SqL K H p (ns.map V.int)∧ns≠[]∧Q (.int (zmO ns)) H) zdI:=fun G H vs ds z Q gh hr e k=>by
 unfold zdI at e
 split at e
 ·split at e
  ·rename_i a r eb
   obtain ⟨v,rfl,h1⟩:=zfR hr
   obtain ⟨ad,us,rfl,h2,h3⟩:=zbz h1
   cases e
   rw[zic h3 eb] at h2
   exact ⟨ad,_,rfl,SqL.of (gh _ _ h2),by simp,k _ G H (.refl gh) (zaH _)⟩
  ·cases e
 ·cases e
theorem zre:zkM zdI:=fun x n h=>by unfold zdI at h;split at h <;> first | cases h | (split at h <;> cases h)
end
def tyD:Dt→String
 | .non=>"NoneType"
 | .bl _=>"bool"
 | .int _=>"int"
 | .str _=>"str"
 | .tup _=>"tuple"
 | .lst _=>"list"
 | .dct=>"dict"
 | .scr _=>"list"
def zhE(t T:String):Bool:=(t == T) || (t == "bool" && T == "int")
section
variable{X:Cx}{pins:List (Addr × Obj)}{σ:L2.St}{H:Hp}{s:Shared}
theorem zqs(I:L2.Inv X pins σ H s):∀{d:Dt}{v:V}{u:Value},Rep X.K H d v→zcD v u→∃ P:Heap→Prop,W.KitX X.K u (.type (tyD d)) P∧P s.heap∧u≠.builtin "__main__.__loader__#opaque"
 | .non,v,u,h,r=>by rw[znC h] at r;cases r;exact ⟨_,W.kitx_none,True.intro,by simp⟩
 | .bl b,v,u,h,r=>by rw[zfr h] at r;cases r;exact ⟨_,W.kitx_bool,True.intro,by simp⟩
 | .int b,v,u,h,r=>by rw[zaE h] at r;obtain ⟨t,rfl⟩:=r;exact ⟨_,W.kitx_int,True.intro,by simp⟩
 | .str b,v,u,h,r=>by rw[zky h] at r;obtain ⟨t,rfl⟩:=r;exact ⟨_,W.kitx_str,True.intro,by simp⟩
 | .tup l,v,u,h,r=>by
  obtain ⟨a,vs,rfl,h1,h2⟩:=zcG h
  cases r
  obtain ⟨its,rv,⟨o,e,c,k,dd⟩,_⟩:=I.tuple h1
  exact ⟨_,W.kitx_tuple,⟨o,e,c⟩,by simp⟩
 | .lst l,v,u,h,r=>by
  obtain ⟨a,vs,rfl,h1,h2⟩:=zbz h
  cases r
  obtain ⟨its,rv,⟨o,k,e,c,_,dd⟩,_⟩:=I.list (SqL.of h1)
  exact ⟨_,W.kitx_list,⟨o,e,c⟩,by simp⟩
 | .dct,v,u,h,r=>by
  unfold Rep at h
  obtain ⟨a,rfl,h1⟩:=h
  cases r
  obtain ⟨_,_,vs,_,o,es,ep,e1,e2,_⟩:=(show zcr X.prog X.w H s.heap a (.dK []) from I.hok a _ h1)
  exact ⟨_,W.kitx_dict,⟨o,e1,e2.1⟩,by simp⟩
 | .scr l,v,u,h,r=>by
  obtain ⟨a,rfl,h1⟩:=zkl h
  cases r
  obtain ⟨its,rv,⟨o,k,e,c,_,dd⟩,_⟩:=I.list h1
  exact ⟨_,W.kitx_list,⟨o,e,c⟩,by simp⟩
end
def zh0(T:String):Prop:=∀(K:W.Frag)(t:String),t∈["NoneType","bool","int","str","tuple","list","dict"]→W.kitOne K (.type t) (.type T)=some (zhE t T)
theorem zkN(d:Dt):tyD d∈["NoneType","bool","int","str","tuple","list","dict"]:=by cases d <;> simp[tyD]
theorem zru:zh0 "int":=fun K t h=>by
 simp only[List.mem_cons,List.not_mem_nil,or_false] at h
 rcases h with rfl | rfl | rfl | rfl | rfl | rfl | rfl <;> rfl
theorem ziH:zh0 "bool":=fun K t h=>by
 simp only[List.mem_cons,List.not_mem_nil,or_false] at h
 rcases h with rfl | rfl | rfl | rfl | rfl | rfl | rfl <;> rfl
theorem zc8:zh0 "tuple":=fun K t h=>by
 simp only[List.mem_cons,List.not_mem_nil,or_false] at h
 rcases h with rfl | rfl | rfl | rfl | rfl | rfl | rfl <;> rfl
theorem zgs:zh0 "list":=fun K t h=>by
 simp only[List.mem_cons,List.not_mem_nil,or_false] at h
 rcases h with rfl | rfl | rfl | rfl | rfl | rfl | rfl <;> rfl
def ze2(T:String)(fa:De):De:=fun ρ=>(fa ρ).bind fun a=>.ok (.bl (zhE (tyD a.1) T),a.2)
def zrk(T U:String)(fa:De):De:=fun ρ=>(fa ρ).bind fun a=>.ok (.bl (zhE (tyD a.1) T || zhE (tyD a.1) U),a.2)
section
variable{X:Cx}{C:Cn}{e:Expr}{fa:De}{p p2 pos:Pos}
theorem zpx{T:String}(ok:zh0 T):zcO X (.builtin "isinstance") (fun xs H Q=>∃ d v,xs=[v,.ty T]∧Rep X.K H d v∧Q (.bl (zhE (tyD d) T)) H):=by
 intro pins s σ H xs us Q I r h
 obtain ⟨d,v,rfl,h1,q⟩:=h
 obtain ⟨u,w',rfl,r1,r2⟩:=zji r
 cases r2
 obtain ⟨P,Z,hp,hx⟩:=zqs I h1 r1
 exact W.kia_one Z I.kIn hp (ok X.K (tyD d) (zkN d)) hx fun tk=>⟨.bl _,H,I.tok tk,rfl,q⟩
theorem znv{T U:String}(ok:zh0 T)(ok2:zh0 U):zcO X (.builtin "isinstance") (fun xs H Q=>∃ d v a,xs=[v,.ref a]∧Rep X.K H d v∧SqT X.K H a [.ty T,.ty U]∧Q (.bl (zhE (tyD d) T || zhE (tyD d) U)) H):=by
 intro pins s σ H xs us Q I r h
 obtain ⟨d,v,a,rfl,h1,ha,q⟩:=h
 obtain ⟨u,w',rfl,r1,r2⟩:=zji r
 cases r2
 obtain ⟨P,Z,hp,hx⟩:=zqs I h1 r1
 obtain ⟨its,rv,⟨o,e,c,k,dd⟩,_⟩:=I.tuple ha
 obtain ⟨x1,x2,rfl,q1,q2⟩:=zji rv
 cases q1
 cases q2
 obtain ⟨oc,od,odt,osl⟩:=o
 simp only at c dd
 subst c dd
 refine W.kia_tup (its:=[Value.type T,Value.type U]) (b:=zhE (tyD d) T || zhE (tyD d) U) Z I.kIn hp e ?_ hx fun tk=>⟨.bl _,H,I.tok tk,rfl,q⟩
 unfold W.kitAny
 rw[ok X.K (tyD d) (zkN d)]
 cases zhE (tyD d) T with
 | true=>rfl
 | false =>
  simp only[W.kitAny,ok2 X.K (tyD d) (zkN d)]
  cases zhE (tyD d) U <;> rfl
theorem zdi{T:String}{x2:Str}(ok:zh0 T)(hg:Gl X "isinstance")(hm:X.mg "isinstance"=none)(hv:bootBuiltins "isinstance"=some (.builtin "isinstance"))(hg2:Gl X x2)(hm2:X.mg x2=none)(hv2:bootBuiltins x2=some (.type T))(ha:JE X C e fa)
  (hn:("isinstance" : Str)≠"__name__":=by decide) (hdb:(("isinstance" : Str) == ("__debug__" : Str))=false:=by decide) (hn2:x2≠"__name__":=by decide) (hdb2:(x2 == ("__debug__" : Str))=false:=by decide)
  (hs:starEach [e,.Name x2 p2] X.env=(false,eval e X.env) :: starEach [.Name x2 p2] X.env:=by rfl) (hs2:starEach [.Name x2 p2] X.env=(false,eval (.Name x2 p2) X.env) :: starEach [] X.env:=by rfl) (hpl:(backTo pos (starEach [.Name x2 p2] X.env)).any (·.1)=false:=by rfl) :
  JE X C (.Call (.Name "isinstance" p) [e,.Name x2 p2] [] pos) (ze2 T fa) :=
 PE.weak (zdL (zpx ok) hg hm hv (zbe ha (zbe (zhX (v:=.ty T) hg2 hm2 hv2 rfl hn2 hdb2) zc4 hs2) hs) hn hdb hs hpl) fun σ H Q ⟨G,w,ρ,r,p⟩=>by
  refine zez (κ:=fun G H w=>kE X.K C σ Q G H w) zcA r p fun d ρ1 v G1 H1 w1 r1 s1 q1 p1=>?_
  exact ⟨d,v,rfl,q1.same r1.gh,p1 _ G1 H1 w1 (.refl _ _ _) r1 (zcU _)⟩
theorem zrD{T U:String}{x2 x3:Str}{p3 pt:Pos}{kt}(ok:zh0 T)(ok2:zh0 U)(hg:Gl X "isinstance")(hm:X.mg "isinstance"=none)(hv:bootBuiltins "isinstance"=some (.builtin "isinstance"))(hg2:Gl X x2)(hm2:X.mg x2=none)(hv2:bootBuiltins x2=some (.type T))(hg3:Gl X x3)(hm3:X.mg x3=none)(hv3:bootBuiltins x3=some (.type U))(ha:JE X C e fa)
  (hn:("isinstance" : Str)≠"__name__":=by decide) (hdb:(("isinstance" : Str) == ("__debug__" : Str))=false:=by decide) (hn2:x2≠"__name__":=by decide) (hdb2:(x2 == ("__debug__" : Str))=false:=by decide) (hn3:x3≠"__name__":=by decide) (hdb3:(x3 == ("__debug__" : Str))=false:=by decide)
  (hs:starEach [e,.Tuple [.Name x2 p2,.Name x3 p3] kt pt] X.env=(false,eval e X.env) :: starEach [.Tuple [.Name x2 p2,.Name x3 p3] kt pt] X.env:=by rfl) (hs2:starEach [.Tuple [.Name x2 p2,.Name x3 p3] kt pt] X.env=(false,eval (.Tuple [.Name x2 p2,.Name x3 p3] kt pt) X.env) :: starEach [] X.env:=by rfl) (hpl:(backTo pos (starEach [.Tuple [.Name x2 p2,.Name x3 p3] kt pt] X.env)).any (·.1)=false:=by rfl)
  (hs3:starEach [.Name x2 p2,.Name x3 p3] X.env=(false,eval (.Name x2 p2) X.env) :: starEach [.Name x3 p3] X.env:=by rfl) (hs4:starEach [.Name x3 p3] X.env=(false,eval (.Name x3 p3) X.env) :: starEach [] X.env:=by rfl) :
  JE X C (.Call (.Name "isinstance" p) [e,.Tuple [.Name x2 p2,.Name x3 p3] kt pt] [] pos) (zrk T U fa) :=
 PE.weak (zdL (znv ok ok2) hg hm hv (zbe ha (zbe (zqz (zbe (zhX (v:=.ty T) hg2 hm2 hv2 rfl hn2 hdb2) (zbe (zhX (v:=.ty U) hg3 hm3 hv3 rfl hn3 hdb3) zc4 hs4) hs3)) zc4 hs2) hs) hn hdb hs hpl) fun σ H Q ⟨G,w,ρ,r,p⟩=>by
  refine zez (κ:=fun G H w=>kE X.K C σ Q G H w) zcA r p fun d ρ1 v G1 H1 w1 r1 s1 q1 p1=>?_
  refine ⟨by show 2≤sizeLine;decide,fun a ha=>?_⟩
  have gr:ze9 G1 H1 G1 (upd H1 a (.tup [.ty T,.ty U])):=.newH r1.gh ha
  exact ⟨d,v,a,rfl,(q1.same r1.gh).same gr.h,SqT.of zaj,p1 _ G1 _ w1 gr.step (r1.grow gr) (zcU _)⟩
def gIx:Dt→Dt→R Dt
 | .lst l,.int i=>match atI l i with
  | some d=>.ok d
  | none=>.no
 | .tup l,.int i=>match atI l i with
  | some d=>.ok d
  | none=>.no
 | .scr l,.int i=>match atI l i with
  | some d=>.ok (.int d)
  | none=>.no
 | _,_=>.no
theorem zqM{α β:Type}{f:α→β}{l:List α}{i:Int}{d:α}(ed:atI l i=some d):atI (l.map f) i=some (f d):=by
 unfold atI at ed ⊢
 rw[List.length_map]
 cases q:ixN l.length i with
 | none=>rw[q] at ed;cases ed
 | some j =>
  rw[q] at ed
  simp only[Option.bind_some] at ed ⊢
  rw[List.getElem?_map,ed];rfl
theorem zsF{K:W.Frag}:Op2 K (fun x y H Q=>rIxL K x y H Q∨rIxT K x y H Q) gIx:=fun G H x y dx dy z Q gh hx hy e k=>by
 unfold gIx at e
 split at e
 ·split at e
  ·rename_i d ed
   cases e
   obtain ⟨a,vs,rfl,h1,h2⟩:=zbz hx
   obtain ⟨v,e1,e2⟩:=ziv h2 ed
   exact .inl ⟨a,vs,_,v,rfl,zaE hy,SqL.of (gh _ _ h1),e1,k v G H (.refl gh) e2⟩
  ·cases e
 ·split at e
  ·rename_i d ed
   cases e
   obtain ⟨a,vs,rfl,h1,h2⟩:=zcG hx
   obtain ⟨v,e1,e2⟩:=ziv h2 ed
   exact .inr ⟨a,vs,_,v,rfl,zaE hy,zaM gh h1,e1,k v G H (.refl gh) e2⟩
  ·cases e
 ·split at e
  ·rename_i d ed
   cases e
   obtain ⟨a,rfl,h1⟩:=zkl hx
   exact .inl ⟨a,_,_,.int d,rfl,zaE hy,gh.seq h1,zqM ed,k _ G H (.refl gh) (zaH _)⟩
  ·cases e
 ·cases e
theorem zq1:zia gIx:=fun x y n h=>by unfold gIx at h;split at h <;> first | cases h | (split at h <;> cases h)
theorem zbU{a b:Expr}{fa fb:De}(ha:JE X C a fa)(hb:JE X C b fb)(hs:zkL b:=by exact fun _ _=>rfl):JE X C (.Subscript a b pos) (dOp gIx fa fb) :=
 PE.weak (zts (zob.or zrN) ha hb hs) fun σ H Q h=>zid zsF zq1 h
end
theorem Rel.mutate{K:W.Frag}{C:Cn}{σ:L2.St}{G H:Hp}{w:Wn}{ρ:Ev}{i:Nat}{ds ds':List Dt}{a:Addr}{vs':List V}(r:Rel K C G w ρ σ H)(hi:ρ[i]? = some (some (.own ds)))(hv:σ[i]? = some (some (.ref a)))(hw:w a=some i)(h':za6 K G ds' vs') :
  Rel K C G w (ρ.set i (some (.own ds'))) σ (upd H a (.lst vs'))∧zb9 G H w G (upd H a (.lst vs')) w:=by
 have ga:G a=none:=r.wg a (by rw[hw];simp)
 have st:zb9 G H w G (upd H a (.lst vs')) w:=by
  refine ⟨.refl _,fun b o e=>.inl (by rw[e];simp),fun b o e z=>?_,fun _ e=>.inl e,fun b e=>?_⟩
  ·have:b≠a:=fun q=>by subst q;rw[hw] at z;cases z
   rw[zai this];exact e
  ·by_cases hb:b=a
   ·subst hb;rw[zaj] at e;cases e
   ·rw[zai hb] at e;exact e
 refine ⟨⟨fun b o e=>?_,r.wg,fun b e=>?_,by simpa using r.len,fun j b e=>?_,r.en.trans st,r.pin⟩,st⟩
 ·rw[zai (zah e ga)];exact r.gh b o e
 ·by_cases hb:b=a
  ·subst hb;rw[zaj];simp
  ·rw[zai hb];exact r.wh b e
 ·by_cases hj:j=i
  ·subst hj
   rw[List.getElem?_set_self (List.getElem?_eq_some_iff.mp hi).1] at e
   cases e
   exact ⟨_,hv,a,vs',rfl,hw,zaj,h'⟩
  ·rw[List.getElem?_set_ne (Ne.symm hj)] at e
   obtain ⟨v',h1,h2⟩:=r.sl j b e
   refine ⟨v',h1,h2.grow (.refl _) fun b' o e1 e2=>⟨?_,e1⟩⟩
   have:b'≠a:=fun z=>by subst z;rw[hw] at e1;exact hj (Option.some.inj e1).symm
   rw[zai this];exact e2
section
variable{X:Cx}{C:Cn}{e:Expr}{fa:De}{pos ps apos:Pos}{x:Str}
theorem zc7{K:W.Frag}{σ:L2.St}{G H:Hp}{w:Wn}{ρ:Ev}{i:Nat}{ds:List Dt}(r:Rel K C G w ρ σ H)(e:ρ[i]? = some (some (.own ds))):∃ a vs,σ[i]? = some (some (.ref a))∧w a=some i∧H a=some (.lst vs)∧za6 K G ds vs:=by
 obtain ⟨v,h1,a,vs,rfl,h2,h3,h4⟩:=r.sl i _ e
 exact ⟨a,vs,h1,h2,h3,h4⟩
def zer(i:Nat)(fa:De):De:=fun ρ=>match ρ[i]? with
 | some (some (.own _))=>(fa ρ).bind fun a=>match a.2[i]? with
  | some (some (.own ds))=>if ds.length < 16777216 then .ok (.non,a.2.set i (some (.own (ds ++ [a.1])))) else .no
  | _=>.no
 | _=>.no
theorem zcV:sizeLine=16777216:=by decide
theorem zg3(i:Nat)(ha:JE X C e fa)(hN:X.N[i]? = some x:=by rfl)(hv:Vis X.env.scope x:=by first | exact Or.inl rfl | exact Or.inr (Or.inl rfl) | exact Or.inr (Or.inr rfl))(hd:(x == ("__debug__" : Str))=false:=by decide)(hcd:(x == ("__classdict__" : Str))=false:=by decide)
  (hbase:attributeBase (.Name x ps) "append" X.env (eval (.Name x ps) X.env)=eval (.Name x ps) X.env:=by rfl)
  (hfew:((backTo pos (starEach [e] X.env)).all (fun x=>!x.1) && (backToKw pos (keywordEach [] X.env)).all (fun x=>x.1.isSome) && decide ([e].length + ([]:List Keyword).length + (if ([]:List Keyword).isEmpty then 0 else 1) < 30))=true:=by rfl)
  (hline:(apos.endLine == pos.line)=true:=by rfl) (hs:starEach [e] X.env=(false,eval e X.env) :: starEach [] X.env:=by rfl) (hplain:(backTo pos (starEach [] X.env)).any (·.1)=false:=by rfl) :
  JE X C (.Call (.Attribute (.Name x ps) "append" apos) [e] [] pos) (zer i fa) :=
 PE.weak (zmg PySem.F.plainAttrs_list PySem.F.slot_list_append PySem.F.type_list_append ze5 (zbR hN hv hd hcd) (zbe ha zc4 hs) hbase hfew hline hs hplain) fun σ H Q ⟨G,w,ρ,r,p⟩=>by
  unfold zer at p
  split at p
  ·rename_i ds0 e0
   obtain ⟨a,vs,h1,h2,h3,h4⟩:=zc7 r e0
   refine ⟨.ref a,h1,.inl ⟨rfl,vs,SqL.of h3⟩,?_⟩
   refine zez (κ:=fun G H w=>kE X.K C σ Q G H w) zcA r p fun d ρ1 v G1 H1 w1 r1 s1 q1 p1=>?_
   dsimp only at p1
   split at p1
   ·rename_i ds e1
    obtain ⟨a',vs',k1,k2,k3,k4⟩:=zc7 r1 e1
    rw[h1] at k1;cases k1
    split at p1
    ·rename_i hl
     obtain ⟨r',s'⟩:=r1.mutate e1 h1 k2 (k4.append (za6.cons q1 za6.nil))
     exact ⟨a,vs',v,rfl,rfl,k3,by rw[← k4.length,zcV];exact hl,p1 _ _ _ _ s' r' (by unfold Rep;rfl)⟩
    ·exact p1.elim
   ·exact p1.elim
  ·exact p.elim
def zp0(ds:List Dt)(k:Int):Option (Dt × List Dt):=if zeY k=true then match ixN ds.length k with
  | some j=>match ds[j]? with
   | some d=>some (d,ds.eraseIdx j)
   | none=>none
  | none=>none
 else none
def zhQ(i:Nat)(fa:De):De:=fun ρ=>match ρ[i]? with
 | some (some (.own _))=>(fa ρ).bind fun a=>match a.2[i]?,a.1 with
  | some (some (.own ds)),.int k=>match zp0 ds k with
   | some z=>.ok (z.1,a.2.set i (some (.own z.2)))
   | none=>.no
  | _,_=>.no
 | _=>.no
theorem zoW(i:Nat)(ha:JE X C e fa)(hN:X.N[i]? = some x:=by rfl)(hv:Vis X.env.scope x:=by first | exact Or.inl rfl | exact Or.inr (Or.inl rfl) | exact Or.inr (Or.inr rfl))(hd:(x == ("__debug__" : Str))=false:=by decide)(hcd:(x == ("__classdict__" : Str))=false:=by decide)
  (hbase:attributeBase (.Name x ps) "pop" X.env (eval (.Name x ps) X.env)=eval (.Name x ps) X.env:=by rfl)
  (hfew:((backTo pos (starEach [e] X.env)).all (fun x=>!x.1) && (backToKw pos (keywordEach [] X.env)).all (fun x=>x.1.isSome) && decide ([e].length + ([]:List Keyword).length + (if ([]:List Keyword).isEmpty then 0 else 1) < 30))=true:=by rfl)
  (hline:(apos.endLine == pos.line)=true:=by rfl) (hs:starEach [e] X.env=(false,eval e X.env) :: starEach [] X.env:=by rfl) (hplain:(backTo pos (starEach [] X.env)).any (·.1)=false:=by rfl) :
  JE X C (.Call (.Attribute (.Name x ps) "pop" apos) [e] [] pos) (zhQ i fa) :=
 PE.weak (zmg PySem.F.plainAttrs_list PySem.F.slot_list_pop PySem.F.type_list_pop zpU (zbR hN hv hd hcd) (zbe ha zc4 hs) hbase hfew hline hs hplain) fun σ H Q ⟨G,w,ρ,r,p⟩=>by
  unfold zhQ at p
  split at p
  ·rename_i ds0 e0
   obtain ⟨a,vs,h1,h2,h3,h4⟩:=zc7 r e0
   refine ⟨.ref a,h1,.inl ⟨rfl,vs,SqL.of h3⟩,?_⟩
   refine zez (κ:=fun G H w=>kE X.K C σ Q G H w) zcA r p fun d ρ1 v G1 H1 w1 r1 s1 q1 p1=>?_
   dsimp only at p1
   split at p1
   ·rename_i ds k e1
    obtain ⟨a',vs',k1,k2,k3,k4⟩:=zc7 r1 e1
    rw[h1] at k1;cases k1
    split at p1
    ·rename_i z ez
     unfold zp0 at ez
     split at ez
     ·rename_i hb
      split at ez
      ·rename_i j ej
       split at ez
       ·rename_i d ed
        cases ez
        obtain ⟨j1,j2,j3,j4⟩:=zkJ ej
        obtain ⟨y,y1,y2⟩:=k4.get ed
        obtain ⟨r',s'⟩:=r1.mutate e1 h1 k2 (k4.eraseIdx j)
        have hl:=k4.length
        obtain ⟨b1,b2⟩:=zgu hb
        exact ⟨a,vs',k,j,y,rfl,by rw[zaE q1],k3,by omega,by omega,by rw[← hl];exact j1,y1,p1 _ _ _ _ s' r' y2⟩
       ·cases ez
      ·cases ez
     ·cases ez
    ·exact p1.elim
   ·exact p1.elim
  ·exact p.elim
end
theorem zrf{X:Cx}{pins:List (Addr × Obj)}{σ:L2.St}{H:Hp}{s:Shared}{a:Addr}{xs:List V}(I:L2.Inv X pins σ H s)(h:zjT X.K H a xs):∃(its:List Value)(n:Nat),zbk xs its∧s.heap.get? a=some { cls:=.type "tuple",data:=.seq its.toArray n }∧xs.length≤sizeLine:=by
 rcases h with h | ⟨its,n,h1,h2,h3⟩
 ·obtain ⟨z,its,r,n,e⟩:=(show zcr X.prog X.w H s.heap a (.tup xs) from I.hok a _ h)
  exact ⟨its,n,r,e,z⟩
 ·refine ⟨its.toList,n,h3,by simpa using I.kIn a _ h1,?_⟩
  have:=h3.length
  simp only[Array.length_toList] at this
  omega
def zrZ(K:W.Frag):V→List V→Hp→VK→Prop:=fun x vs H Q=>∃ l b xs zs,x = .ref l∧vs=[.ref b]∧H l=some (.lst xs)∧zjT K H b zs∧xs.length + zs.length≤sizeLine∧Q .non (upd H l (.lst (xs ++ zs)))
section
variable{X:Cx}
theorem zm6:MtM X "list.extend" (zrZ X.K):=by
 intro pins s σ H x vs v us Q I rx rv h
 obtain ⟨l,b,xs,zs,rfl,rfl,hH,hB,hz,q⟩:=h
 cases rx
 obtain ⟨u,rfl,ru⟩:=zbk.one rv
 cases ru
 obtain ⟨z,its,n,r,hl,e⟩:=I.lstM hH
 obtain ⟨its2,n2,r2,e2,z2⟩:=zrf I hB
 have hl2:=r2.length
 have hsz:its.toArray.size + its2.toArray.size≤sizeLine:=by rw[List.size_toArray,List.size_toArray];omega
 have hlong:¬ (!its.toArray.isEmpty && Builtin.List.listTooLong (its.toArray.size + its2.toArray.size))=true:=by
  rw[zi1 hsz,Bool.and_false]
  exact Bool.false_ne_true
 refine PySem.call_meets F.slot_list_extend ⟨_,e,rfl⟩ F.entry_list_extend (F.args_list_extend_2 _ _)
  (AutoSeq1.list_extend_list_tuple_0 l its.toArray n b its2.toArray n2 hlong (by rw[List.size_toArray];omega) (by omega)) ⟨e,e2,?_⟩
 refine ⟨.non,_,I.lset (its':=its ++ its2) hH e (by simp) (r.append r2) ?_,rfl,q⟩
 rw[List.length_append]
 omega
theorem MtM.or{id:String}{r r':V→List V→Hp→VK→Prop}(h:MtM X id r)(h':MtM X id r'):MtM X id (fun x xs H Q=>r x xs H Q∨r' x xs H Q):=by
 intro pins s σ H x xs v us Q I rx rs q
 rcases q with q | q
 ·exact h pins s σ H x xs v us Q I rx rs q
 ·exact h' pins s σ H x xs v us Q I rx rs q
variable{C:Cn}{e:Expr}{fa fb:De}{pos ps apos:Pos}{x:Str}
def zqf:Dt→Option (List Dt)
 | .lst l=>some l
 | .tup l=>some l
 | _=>none
def zja(i:Nat)(fa:De):De:=fun ρ=>match ρ[i]? with
 | some (some (.own _))=>(fa ρ).bind fun a=>match a.2[i]?,zqf a.1 with
  | some (some (.own ds)),some l=>if ds.length + l.length≤16777216 then .ok (.non,a.2.set i (some (.own (ds ++ l)))) else .no
  | _,_=>.no
 | _=>.no
theorem zr5(i:Nat)(ha:JE X C e fa)(hN:X.N[i]? = some x:=by rfl)(hv:Vis X.env.scope x:=by first | exact Or.inl rfl | exact Or.inr (Or.inl rfl) | exact Or.inr (Or.inr rfl))(hd:(x == ("__debug__" : Str))=false:=by decide)(hcd:(x == ("__classdict__" : Str))=false:=by decide)
  (hbase:attributeBase (.Name x ps) "extend" X.env (eval (.Name x ps) X.env)=eval (.Name x ps) X.env:=by rfl)
  (hfew:((backTo pos (starEach [e] X.env)).all (fun x=>!x.1) && (backToKw pos (keywordEach [] X.env)).all (fun x=>x.1.isSome) && decide ([e].length + ([]:List Keyword).length + (if ([]:List Keyword).isEmpty then 0 else 1) < 30))=true:=by rfl)
  (hline:(apos.endLine == pos.line)=true:=by rfl) (hs:starEach [e] X.env=(false,eval e X.env) :: starEach [] X.env:=by rfl) (hplain:(backTo pos (starEach [] X.env)).any (·.1)=false:=by rfl) :
  JE X C (.Call (.Attribute (.Name x ps) "extend" apos) [e] [] pos) (zja i fa) :=
 PE.weak (zmg PySem.F.plainAttrs_list PySem.F.slot_list_extend PySem.F.type_list_extend (MtM.or zo8 zm6) (zbR hN hv hd hcd) (zbe ha zc4 hs) hbase hfew hline hs hplain) fun σ H Q ⟨G,w,ρ,r,p⟩=>by
  unfold zja at p
  split at p
  ·rename_i ds0 e0
   obtain ⟨a,vs,h1,h2,h3,h4⟩:=zc7 r e0
   refine ⟨.ref a,h1,.inl ⟨rfl,vs,SqL.of h3⟩,?_⟩
   refine zez (κ:=fun G H w=>kE X.K C σ Q G H w) zcA r p fun d ρ1 v G1 H1 w1 r1 s1 q1 p1=>?_
   dsimp only at p1
   split at p1
   ·rename_i ds l e1 el
    obtain ⟨a',vs',k1,k2,k3,k4⟩:=zc7 r1 e1
    rw[h1] at k1;cases k1
    split at p1
    ·rename_i hl
     cases d with
     | lst l' =>
      cases el
      obtain ⟨b,us,rfl,b1,b2⟩:=zbz q1
      obtain ⟨r',s'⟩:=r1.mutate e1 h1 k2 (k4.append b2)
      exact .inl ⟨a,b,vs',us,rfl,rfl,k3,r1.gh _ _ b1,by rw[← k4.length,← b2.length,zcV];exact hl,p1 _ _ _ _ s' r' (by unfold Rep;rfl)⟩
     | tup l' =>
      cases el
      obtain ⟨b,us,rfl,b1,b2⟩:=zfs q1
      obtain ⟨r',s'⟩:=r1.mutate e1 h1 k2 (k4.append b2)
      exact .inr ⟨a,b,vs',us,rfl,rfl,k3,b1.same r1.gh,by rw[← k4.length,← b2.length,zcV];exact hl,p1 _ _ _ _ s' r' (by unfold Rep;rfl)⟩
     | _=>cases el
    ·exact p1.elim
   ·exact p1.elim
  ·exact p.elim
def zm7(i:Nat):De:=fun ρ=>match ρ[i]? with
 | some (some (.own ds))=>.ok (.int ds.length,ρ)
 | _=>.no
theorem zqI(i:Nat){p:Pos}(hg:Gl X "len")(hm:X.mg "len"=none)(hN:X.N[i]? = some x:=by rfl)(hv:Vis X.env.scope x:=by first | exact Or.inl rfl | exact Or.inr (Or.inl rfl) | exact Or.inr (Or.inr rfl))(hd:(x == ("__debug__" : Str))=false:=by decide)(hcd:(x == ("__classdict__" : Str))=false:=by decide)
  (hs:starEach [.Name x ps] X.env=(false,eval (.Name x ps) X.env) :: starEach [] X.env:=by rfl) (hpl:(backTo pos (starEach [] X.env)).any (·.1)=false:=by rfl):JE X C (.Call (.Name "len" p) [.Name x ps] [] pos) (zm7 i) :=
 PE.weak (zdL zfZ hg hm PySem.boot_len (zbe (zbR hN hv hd hcd) zc4 hs) (by decide) (by decide) hs hpl) fun σ H Q ⟨G,w,ρ,r,p⟩=>by
  unfold zm7 at p
  split at p
  ·rename_i ds e0
   obtain ⟨a,vs,h1,h2,h3,h4⟩:=zc7 r e0
   exact ⟨.ref a,h1,a,vs,rfl,.inl (SqL.of h3),by rw[← h4.length];exact p _ G H w (.refl _ _ _) r (zaH _)⟩
  ·exact p.elim
def zrJ(neg:Bool)(i:Nat)(fb:De):De:=fun ρ=>match ρ[i]? with
 | some (some (.own _))=>(fb ρ).bind fun b=>match b.2[i]? with
  | some (some (.own ds))=>(gEq neg (.lst ds) b.1).bind fun z=>.ok (z,b.2)
  | _=>.no
 | _=>.no
theorem zoL{neg:Bool}{i:Nat}{σ:L2.St}{H:Hp}{Q:VK}(h:tE X.K C (zrJ neg i fb) σ H Q):tOp (zth X.K neg) (tVar i) (tE X.K C fb) σ H Q:=by
 obtain ⟨G,w,ρ,r,p⟩:=h
 unfold zrJ at p
 split at p
 ·rename_i ds0 e0
  obtain ⟨a,vs,h1,h2,h3,h4⟩:=zc7 r e0
  refine ⟨.ref a,h1,?_⟩
  refine zez (κ:=fun G H w=>kE X.K C σ Q G H w) zcA r p fun d ρ1 v G1 H1 w1 r1 s1 q1 p1=>?_
  dsimp only at p1
  split at p1
  ·rename_i ds e1
   obtain ⟨a',vs',k1,k2,k3,k4⟩:=zc7 r1 e1
   rw[h1] at k1;cases k1
   unfold gEq at p1
   split at p1
   ·rename_i hk
    rw[Bool.and_eq_true] at hk
    exact ⟨.lst ds,d,by unfold Rep;exact ⟨a,vs',rfl,k3,k4.same r1.gh⟩,q1.same r1.gh,hk.1,hk.2,p1 _ G1 H1 w1 (.refl _ _ _) r1 (zcU _)⟩
   ·exact p1.elim
  ·exact p1.elim
 ·exact p.elim
variable{b:Expr}
theorem zsV(i:Nat)(hu:X.A.units + 64 < cLine)(hb:JE X C b fb)(hN:X.N[i]? = some x:=by rfl)(hv:Vis X.env.scope x:=by first | exact Or.inl rfl | exact Or.inr (Or.inl rfl) | exact Or.inr (Or.inr rfl))(hd:(x == ("__debug__" : Str))=false:=by decide)(hcd:(x == ("__classdict__" : Str))=false:=by decide) :
  JT X C (.Compare (.Name x ps) [.NotEq] [b] pos) (dTB (zrJ true i fb)):=PT.weak (zog (zqm hu) (zbR hN hv hd hcd) hb (zeT _)) fun σ H Q h=>zoL (zku h)
def znu(i:Nat)(fv fk:De):DS:=fun ρ=>(fv ρ).bind fun v=>match v.2[i]? with
 | some (some (.own _))=>(fk v.2).bind fun k=>match k.2[i]?,k.1 with
  | some (some (.own ds)),.int n=>match ixN ds.length n with
   | some j=>.ok (.nx,k.2.set i (some (.own (ds.set j v.1))))
   | none=>.no
  | _,_=>.no
 | _=>.no
theorem zmT(i:Nat){k:Expr}{fk:De}{tp:Pos}(hv:JE X C e fa)(hk:JE X C k fk)(hN:X.N[i]? = some x:=by rfl)(hvi:Vis X.env.scope x:=by first | exact Or.inl rfl | exact Or.inr (Or.inl rfl) | exact Or.inr (Or.inr rfl))(hd:(x == ("__debug__" : Str))=false:=by decide)(hcd:(x == ("__classdict__" : Str))=false:=by decide)
  (ha:∀ v,assign (.Subscript (.Name x ps) k tp) X.env v=(do
   let ov ← holding [v] (eval (.Name x ps) X.env)
   let iv ← holding [v,ov] (eval k X.env)
   standAt tp
   holding [v,ov,iv] (setItem ov iv v)
   release [v,ov,iv] []):=by intro _;rfl)
  (hs:swapsWithSole [.Subscript (.Name x ps) k tp] e pos.line X.env=pure false:=by rfl) (hw:swappedStores [.Subscript (.Name x ps) k tp] e X.env=pure none:=by rfl)
  (h1:(assignEach [.Subscript (.Name x ps) k tp] X.env).map (·.2)=[assign (.Subscript (.Name x ps) k tp) X.env]:=by rfl):JS X C (.Assign [.Subscript (.Name x ps) k tp] e pos) (znu i fa fk) :=
 PS.weak (zqk hv (ztt (zbR hN hvi hd hcd) hk zpn ha) hs hw h1) fun D σ H ⟨G,w,ρ,r,p⟩=>by
  refine zez (κ:=fun G H w=>kS X.K C D G H w) zeb r p fun d ρ1 v G1 H1 w1 r1 s1 q1 p1=>?_
  dsimp only at p1
  split at p1
  ·rename_i ds0 e0
   obtain ⟨a,vs,k1,k2,k3,k4⟩:=zc7 r1 e0
   refine ⟨.ref a,k1,?_⟩
   refine zez (κ:=fun G H w=>kS X.K C D G H w) zeb r1 p1 fun d2 ρ2 v2 G2 H2 w2 r2 s2 q2 p2=>?_
   dsimp only at p2
   split at p2
   ·rename_i ds n e2
    obtain ⟨a',vs',m1,m2,m3,m4⟩:=zc7 r2 e2
    rw[k1] at m1;cases m1
    split at p2
    ·rename_i j ej
     obtain ⟨r',s'⟩:=r2.mutate e2 k1 m2 (za6.set (q1.same s2.g) j m4)
     exact ⟨a,vs',n,j,rfl,zaE q2,m3,by rw[← m4.length];exact ej,p2 _ _ _ _ s' r'⟩
    ·exact False.elim p2
   ·exact False.elim p2
  ·exact False.elim p1
end
theorem ze6{env:Env}:∀(names:List (Str × NameKind))(cs:List (Str × Addr)),(∀ y∈names,y.2 = .free→∃ c,env.cells.lookup y.1=some c)→(∀ x c,cs.lookup x=some c→env.cells.lookup x=some c) →
  ∃ cl,(forIn names cs fun (y:Str × NameKind) (r:List (Str × Addr))=>(if (y.2 == NameKind.free)=true then do let a ← cellOf env y.1;pure (ForInStep.yield ((y.1,a) :: r)) else pure (ForInStep.yield r):Sem (ForInStep (List (Str × Addr)))))=pure cl ∧
   (∀ x c,cl.lookup x=some c→env.cells.lookup x=some c)∧(∀ x c,cs.lookup x=some c→∃ c',cl.lookup x=some c')∧∀ y∈names,y.2 = .free→∃ c,cl.lookup y.1=some c
 | [],cs,_,h2=>⟨cs,rfl,h2,fun x c e=>⟨c,e⟩,fun y hy=>by cases hy⟩
 | (n,k) :: r,cs,h1,h2=>by
  rw[List.forIn_cons]
  by_cases hk:k = .free
  ·subst hk
   obtain ⟨c,hc⟩:=h1 (n,.free) List.mem_cons_self rfl
   obtain ⟨cl,e1,e2,e3,e4⟩:=ze6 r ((n,c) :: cs) (fun y hy=>h1 y (List.mem_cons_of_mem _ hy)) (fun x c' e=>by
    rw[List.lookup_cons] at e
    cases hx:x == n with
    | true=>rw[hx] at e;simp only[Option.some.injEq] at e;subst e;rw[beq_iff_eq.mp hx];exact hc
    | false=>rw[hx] at e;exact h2 x c' e)
   refine ⟨cl,?_,e2,fun x c' e=>?_,fun y hy hf=>?_⟩
   ·simp only[beq_self_eq_true,if_true]
    have:cellOf env n=pure c:=by unfold cellOf;rw[hc]
    rw[this]
    exact e1
   ·refine (e3 x (if x == n then c else c') ?_)
    rw[List.lookup_cons]
    cases hx:x == n with
    | true=>rfl
    | false=>exact e
   ·rcases List.mem_cons.mp hy with rfl | hy
    ·exact e3 n c (by simp[List.lookup_cons])
    ·exact e4 y hy hf
  ·obtain ⟨cl,e1,e2,e3,e4⟩:=ze6 r cs (fun y hy=>h1 y (List.mem_cons_of_mem _ hy)) h2
   refine ⟨cl,?_,e2,e3,fun y hy hf=>?_⟩
   ·have:(k == NameKind.free)=false:=by simpa using hk
    simp only[this,Bool.false_eq_true,if_false]
    exact e1
   ·rcases List.mem_cons.mp hy with rfl | hy
    ·exact absurd hf hk
    ·exact e4 y hy hf
theorem zcd{scope:Scope}{env:Env}(h:∀ y∈scope.names,y.2 = .free→∃ c,env.cells.lookup y.1=some c):∃ cl,closureFor scope env=pure cl∧(∀ x c,cl.lookup x=some c→env.cells.lookup x=some c)∧∀ y∈scope.names,y.2 = .free→∃ c,cl.lookup y.1=some c:=by
 obtain ⟨cl,e1,e2,_,e4⟩:=ze6 (env:=env) scope.names [] h (fun x c e=>by simp at e)
 refine ⟨cl,?_,e2,e4⟩
 unfold closureFor
 exact (congrArg (fun z:Sem (List (Str × Addr))=>z >>= fun cs=>pure cs) e1).trans rfl
section
variable{prog:Program}{w:World}{A:Around}{R:Result→Shared→Prop}{s:Shared}
theorem zgd{elt target iter:Expr}{ifs:List Expr}{scope:Scope}{pos:Pos}{it acc:Value}{env:Env}(I:Nat→Shared→Prop)
  (turn:∀ n s,I n s→wpAny (model prog w) A (pyNext it) (fun r s₁=>match r with
   | none=>R (.ok .next) s₁
   | some v=>wpAny (model prog w) A (letOwnedTupleGo target it v) (fun _ s₁'=>wpAny (model prog w) A (assign target env v) (fun _ s₂ =>
     wpAny (model prog w) A (forIn ifs true fun c r=>if r=true then do let ok ← isTrue c env (eval c env);pure (ForInStep.yield ok) else pure (ForInStep.yield r)) (fun ok s₃ =>
      if ok=true then wpAny (model prog w) A (eval elt env) (fun x s₄ =>
       wpAny (model prog w) A (call (.builtin "list.append") [acc,x]) (fun _ s₅=>∃ m,m < n∧I m s₅) (fun _ _=>False) s₄) (fun _ _=>False) s₃
      else ∃ m,m < n∧I m s₃) (fun _ _=>False) s₂) (fun _ _=>False) s₁') (fun _ _=>False) s₁) (fun _ _=>False) s)
  (n:Nat) (h:I n s) :
  codeAny (model prog w) A (.compLoop (.ListComp elt [⟨target,iter,ifs,0⟩] scope pos) 0 it acc env) R s:=by
 refine codeAny_loop rfl I (fun n s hI=>?_) n h
 show wpAny _ A ((compTurn (.ListComp elt [⟨target,iter,ifs,0⟩] scope pos) 0 it acc env).onRaise (fun x=>do noteFrame x env;theTreesLotGoes x)) _ _ s
 refine wpAny_noted ?_
 rw[compTurn_list]
 refine wpAny_bind (wpAny_standAt (wpAny_bind (wpAny_mono (turn n s hI) (fun r s₁ h₁=>?_) fun _ _ h'=>h'.elim)))
 cases r with
 | none=>exact wpAny_pure h₁
 | some v =>
  refine wpAny_bind (wpAny_mono h₁ (fun _ s₁' h₁'=>?_) fun _ _ h'=>h'.elim)
  refine wpAny_bind (wpAny_mono h₁' (fun _ s₂ h₂=>wpAny_bind (wpAny_mono h₂ (fun ok s₃ h₃=>?_) fun _ _ h'=>h'.elim)) fun _ _ h'=>h'.elim)
  cases ok with
  | false=>exact wpAny_pure ⟨rfl,h₃⟩
  | true =>
   exact wpAny_bind (wpAny_bind (wpAny_mono h₃ (fun x s₄ h₄=>wpAny_bind (wpAny_mono h₄ (fun _ s₅ h₅=>wpAny_pure (wpAny_pure ⟨rfl,h₅⟩)) fun _ _ h'=>h'.elim)) fun _ _ h'=>h'.elim))
end
def zbs(X:Cx)(N':List Str)(scope:Scope)(cl:List (Str × Addr))(L:Addr)(s:Shared)(H:Hp)(fp:List Addr):Cx where
 prog:=X.prog
 w:=X.w
 K:=X.K
 mg:=X.mg
 base:=X.base
 A:=X.A
 N:=N'
 s₀:=s
 H₀:=H
 env:=compEnvC scope cl L X.env
 outer:=X.stack
 stack:=X.stack
 ex:=fp
 fn:=fun _=>false
 calm:=X.calm
 pn:=[]
 xe:=fun _ _=>False
def zd0(C:Cn)(n:Nat)(G H:Hp)(w:Wn)(σ:L2.St):Cn:=⟨G,H,w,List.range n,σ,fun _=>False,C.xv,false⟩
def zfn(N N':List Str)(names:List (Str × NameKind))(m:Nat):Bool:=decide (N'.length=N.length + m) && (List.range N.length).all fun i=>match N'[i]? with
 | some x=>match names.lookup x with
  | some .free=>N[i]? == some x
  | some .local=>false
  | some .cell=>false
  | _=>true
 | none=>false
theorem zcy{env:Env}{x:Str}:∀{names:List (Str × NameKind)},(names.map fun (n,k)=>if (k == NameKind.free && env.scope.kind == .function && env.kindOf n == some .cell) then (n,NameKind.cell) else (n,k)).lookup x=(names.lookup x).map fun k=>if (k == NameKind.free && env.scope.kind == .function && env.kindOf x == some .cell)=true then .cell else k
 | []=>rfl
 | (n,k) :: r=>by
  have ih:=zcy (env:=env) (x:=x) (names:=r)
  show List.lookup x ((if (k == NameKind.free && env.scope.kind == .function && env.kindOf n == some .cell)=true then (n,NameKind.cell) else (n,k)) :: _)=_
  cases hx:x == n with
  | true =>
   have e:=beq_iff_eq.mp hx
   subst e
   simp only[List.lookup_cons,beq_self_eq_true,Option.map_some]
   split <;> simp[List.lookup_cons]
  | false =>
   simp only[List.lookup_cons,hx]
   split
   ·simp only[List.lookup_cons,hx];exact ih
   ·simp only[List.lookup_cons,hx];exact ih
theorem zaX{α β:Type} [BEq α] [LawfulBEq α] {x:α} {b:β}:∀{l:List (α × β)},l.lookup x=some b→(x,b)∈l
 | [],h=>by simp at h
 | (n,k) :: r,h=>by
  rw[List.lookup_cons] at h
  cases hx:x == n with
  | true=>rw[hx] at h;simp at h;subst h;rw[beq_iff_eq.mp hx];exact List.mem_cons_self
  | false=>rw[hx] at h;exact List.mem_cons_of_mem _ (zaX h)
theorem zhl{scope:Scope}{env:Env}{x:Str}(h:Vis (relabel scope env) x):scope.names.lookup x=some .local∨scope.names.lookup x=some .cell∨scope.names.lookup x=some .free:=by
 have e:(relabel scope env).names.lookup x=_:=zcy (env:=env) (x:=x) (names:=scope.names)
 unfold Vis at h
 rw[e] at h
 cases q:scope.names.lookup x with
 | none=>rw[q] at h;simp at h
 | some k =>
  rw[q] at h
  cases k <;> simp_all
section
variable{X:Cx}{C:Cn}
theorem zjb{pins:List (Addr × Obj)}{σ:L2.St}{H:Hp}{s:Shared}{N':List Str}{scope:Scope}{cl:List (Str × Addr)}{m:Nat}{fp:List Addr}{h₁:Heap}{tk:Nat}{mm:Str→Option Value}(I:L2.Inv X pins σ H s)(hf:∀ b∈fp,zeL X pins H b)(ho:∀ b∈fp,∃ o,s.heap.get? b=some o)
  (hb:zfn X.N N' scope.names m=true) (hkind:scope.kind = .function) (hcell:∀ y∈scope.names,y.2≠.cell) (hfr:∀ y∈scope.names,y.2 = .free→X.env.kindOf y.1=some .cell∨X.env.kindOf y.1=some .free)
  (hcl:∀ x c,cl.lookup x=some c→X.env.cells.lookup x=some c) (hcf:∀ y∈scope.names,y.2 = .free→∃ c,cl.lookup y.1=some c)
  (hns:h₁.Ns s.heap.objs.size mm) (hk:∀ b o,s.heap.get? b=some o→h₁.get? b=some o) :
  L2.Inv (zbs X N' scope cl s.heap.objs.size s H fp) [] (σ ++ List.replicate m none) H { s with heap:=h₁,toks:=tk }:=by
 have hb1:N'.length=X.N.length + m:=by
  unfold zfn at hb;rw[Bool.and_eq_true] at hb;exact of_decide_eq_true hb.1
 have hb2:∀ i x,i < X.N.length→N'[i]? = some x→Vis (relabel scope X.env) x→X.N[i]? = some x∧scope.names.lookup x=some .free:=fun i x hi e v=>by
  unfold zfn at hb;rw[Bool.and_eq_true,List.all_eq_true] at hb
  have q:=hb.2 i (List.mem_range.mpr hi)
  simp only[e] at q
  rcases zhl v with z | z | z
  ·simp[z] at q
  ·simp[z] at q
  ·simp[z] at q;exact ⟨q,z⟩
 have cellK:∀ c v,s.heap.IsCell c v→h₁.IsCell c v:=fun c v ⟨o,e1,e2⟩=>⟨o,hk c o e1,e2⟩
 refine ⟨⟨I.ok.mod,hkind,I.ok.glob,I.ok.blt,Nat.le_refl _,fun x y c h1 h2=>I.ok.inj x y c (hcl x c h1) (hcl y c h2),fun x hx=>?_,fun x c h _=>absurd h (by simp[zbs]),I.ok.hd,I.ok.frames,.inl rfl,fun b hb=>⟨?_,fun x c e=>(hf b hb).2.2.2.2.1 x c (hcl x c e)⟩,I.bs,Nat.le_trans I.ok.bsz I.sz,fun b o e hb=>?_,fun b hb z=>?_,I.stack,I.stkFree⟩,
  rfl,I.bare,Un.kept hk,⟨mm,hns,fun i x v e1 e2 e3=>?_⟩,fun x c e=>?_,I.hok.fresh (Nat.le_refl _),fun x c e=>I.freeC x c (hcl x c e),fun p hp=>absurd hp (by simp[zbs]),I.hok.kept hk,?_⟩
 ·
  have e:(relabel scope X.env).names.lookup x=_:=zcy (env:=X.env) (x:=x) (names:=scope.names)
  have hx':Vis (relabel scope X.env) x:=hx.elim (fun z=>.inr (.inl z)) fun z=>.inr (.inr z)
  rcases zhl hx' with z | z | z
  ·rw[z] at e
   have hx2:(relabel scope X.env).names.lookup x=some .cell∨(relabel scope X.env).names.lookup x=some .free:=hx
   rw[e] at hx2;simp at hx2
  ·exact absurd rfl (hcell _ (zaX z))
  ·exact hcf _ (zaX z) rfl
 ·intro z
  obtain ⟨o,e⟩:=ho b hb
  exact absurd (Heap.lt_size e) (by rw[z];exact Nat.lt_irrefl _)
 ·rcases (hf b hb).2.2.2.1 with z | z
  ·exact I.ok.noex b o e z
  ·exact absurd (Nat.lt_of_lt_of_le (Heap.lt_size e) (Nat.le_trans I.ok.bsz z)) (Nat.lt_irrefl _)
 ·rcases List.mem_cons.mp (I.stkSub b z) with z | z
  ·exact (hf b hb).2.1 z
  ·exact (hf b hb).2.2.1 z
 ·have hi:i < X.N.length:=by
   by_cases hi:i < X.N.length
   ·exact hi
   ·rw[List.getElem?_append_right (by rw[I.len];omega),List.getElem?_replicate] at e2
    split at e2 <;> cases e2
  rw[List.getElem?_append_left (by rw[I.len];exact hi)] at e2
  obtain ⟨q1,q2⟩:=hb2 i x hi e1 e3
  have hm:=zaX q2
  obtain ⟨m0,hn0,hl0⟩:=I.loc
  have kc:=hfr _ hm rfl
  obtain ⟨u,ru,lk⟩:=hl0 i x v q1 e2 (kc.elim (fun z=>.inr (.inl z)) fun z=>.inr (.inr z))
  refine ⟨u,ru,.inr ⟨?_,?_⟩⟩
  ·have e:(relabel scope X.env).names.lookup x=_:=zcy (env:=X.env) (x:=x) (names:=scope.names)
   show (relabel scope X.env).names.lookup x=some .cell∨(relabel scope X.env).names.lookup x=some .free
   rw[e,q2]
   simp only[Option.map_some]
   split
   ·exact .inl rfl
   ·exact .inr rfl
  ·obtain ⟨c,hc⟩:=hcf _ hm rfl
   refine ⟨c,hc,?_⟩
   rcases lk with ⟨z,_⟩ | ⟨_,c',e',ic⟩
   ·rcases kc with y | y <;> (rw[y] at z;cases z)
   ·rw[hcl _ _ hc] at e';cases e'
    exact cellK _ _ ic
 ·obtain ⟨v,ic⟩:=I.cell x c (hcl x c e)
  exact ⟨v,cellK _ _ ic⟩
 ·show _=N'.length
  rw[List.length_append,List.length_replicate,I.len,hb1]
theorem zkI{pins:List (Addr × Obj)}{σ σ':L2.St}{H H':Hp}{s s':Shared}{N':List Str}{scope:Scope}{cl:List (Str × Addr)}{fp:List Addr}{L:Addr}{h':Heap}{ps:List (Addr × Obj)}(I:L2.Inv X pins σ H s)(hf:∀ b∈fp,zeL X pins H b)(hL:s.heap.objs.size≤L)
  (J:L2.Inv (zbs X N' scope cl L s H fp) ps σ' H' s') (hs:Heap.SameBut L s'.heap h'):L2.Inv X pins σ H' { s' with heap:=h' }:=by
 have hne:∀ b o,s.heap.get? b=some o→b≠L:=fun b o e z=>by subst z;exact absurd (Nat.lt_of_lt_of_le (Heap.lt_size e) hL) (Nat.lt_irrefl _)
 have hfree:H' L=none:=J.free
 have un:Un (frs X.stack) fp H H' s.heap s'.heap:=J.base
 refine I.call' (s':={ s' with heap:=h' }) (ch:=fp) J.os ⟨fun b o e n h1 h2=>?_,fun b o e n h1 h2=>?_,un.free,fun b o e h2=>?_,un.tups,un.frzs,un.tbls⟩ (fun b o e=>?_) J.bare fun b hb=>⟨(hf b hb).2.2.2.1,(hf b hb).2.1,(hf b hb).2.2.2.2.1,(hf b hb).2.2.2.2.2⟩
 ·exact (hs.2 b (hne b o e)).trans (un.keep b o e n h1 h2)
 ·obtain ⟨sl,q⟩:=un.slot b o e n h1 h2
  exact ⟨sl,(hs.2 b (hne b o e)).trans q⟩
 ·obtain ⟨o',q⟩:=un.there b o e h2
  exact ⟨o',(hs.2 b (hne b o e)).trans q⟩
 ·refine (J.hok b o e).stay (fun c v hc q=>(hs.2 c ?_).trans q) (fun _ q=>q) fun _ _ q=>q
  intro z
  subst z
  rcases hc with z | z
  ·subst z;rw[hfree] at e;cases e
  ·rw[hfree] at z;cases z
end
def zbA(g:DG)(ft:DT)(fe:De):List Dt→Ev→R (List Dt × Ev)
 | [],ρ=>.ok ([],ρ)
 | d :: r,ρ=>(g d ρ).bind fun ρ1=>(ft ρ1).bind fun t=>if t.1=true then (fe t.2).bind fun y=>(zbA g ft fe r y.2).bind fun z=>.ok (y.1 :: z.1,z.2) else zbA g ft fe r t.2
def zaO(fi:DA)(g:DG)(ft:DT)(fe:De)(m:Nat):DN:=fun ρ=>(fi ρ).bind fun a=>if zem a.1=true then match zbA g ft fe a.1 (a.2 ++ List.replicate m none) with
  | .ok z=>.ok (z.1,z.2.take a.2.length)
  | _=>.no
 else .no
theorem zdo{α β:Type}{r:R α}{f:α→R β}{b:β}(h:r.bind f = .ok b):∃ a,r = .ok a∧f a = .ok b:=by
 cases r with
 | ok a=>exact ⟨a,rfl,h⟩
 | er n=>cases h
 | no=>cases h
def JTs(X:Cx)(C:Cn)(ifs:List Expr)(ft:DT):Prop :=
 ∀(pins:List (Addr × Obj))(s:Shared)(σ:L2.St)(H:Hp)(Q:Bool→Hp→Prop),L2.Inv X pins σ H s→tT X.K C ft σ H Q →
  wpAny (model X.prog X.w) X.A (forIn ifs true fun c r=>if r=true then do let ok ← isTrue c X.env (eval c X.env);pure (ForInStep.yield ok) else pure (ForInStep.yield r)) (TP X pins σ Q) X.xe s
def dTT:DT:=fun ρ=>.ok (true,ρ)
section
variable{X:Cx}{C:Cn}
theorem zcv:JTs X C [] dTT:=fun pins s σ H Q I ⟨G,w,ρ,r,p⟩=>wpAny_tests_nil ⟨H,I,p G H w (.refl _ _ _) r⟩
theorem zko{c:Expr}{ft:DT}(h:JT X C c ft):JTs X C [c] ft:=fun pins s σ H Q I t=>wpAny_tests_one (h pins s σ H Q I t)
theorem Rel.upd_new{K:W.Frag}{σ:L2.St}{G H:Hp}{w:Wn}{ρ:Ev}{p:Addr}{o:HO}(r:Rel K C G w ρ σ H)(hg:G p=none)(hw:w p=none)(h0:C.H₀ p=none):Rel K C G w ρ σ (upd H p o):=by
 refine ⟨fun b u e=>?_,r.wg,fun b e=>?_,r.len,fun i b e=>?_,⟨r.en.g,r.en.fr,fun b u e z=>?_,r.en.w,fun b e=>?_⟩,r.pin⟩
 ·rw[zai (zah e hg)];exact r.gh b u e
 ·by_cases hb:b=p
  ·subst hb;rw[zaj];simp
  ·rw[zai hb];exact r.wh b e
 ·obtain ⟨v,h1,h2⟩:=r.sl i b e
  refine ⟨v,h1,h2.grow (.refl _) fun a u e1 e2=>⟨?_,e1⟩⟩
  have:a≠p:=fun z=>by subst z;rw[hw] at e1;cases e1
  rw[zai this];exact e2
 ·rw[zai (zah e h0)];exact r.en.h b u e z
 ·by_cases hb:b=p
  ·subst hb;exact h0
  ·rw[zai hb] at e;exact r.en.k b e
theorem zb9.keep{G H G' H':Hp}{w w':Wn}{p:Addr}{o:HO}(s:zb9 G H w G' H' w')(hg:G p=none)(hw:w p=none)(hp:H p=some o):G' p=none∧w' p=none∧H' p=some o:=by
 refine ⟨?_,?_,s.h p o hp hw⟩
 ·cases q:G' p with
  | none=>rfl
  | some u =>
   rcases s.fr p u q with z | z | z
   ·exact absurd hg z
   ·rw[hp] at z;cases z
   ·exact absurd hw z
 ·cases q:w' p with
  | none=>rfl
  | some k =>
   rcases s.w p (by rw[q];simp) with z | z
   ·exact absurd hw z
   ·rw[hp] at z;cases z
structure zn7(X:Cx)(pins:List (Addr × Obj))(H:Hp)(L:Addr)(s:Shared):Prop where
 fr:H L=none
 nl:L≠X.env.locals
 nw:L∈X.ex∨X.s₀.heap.objs.size≤L
 nc:∀ x c,X.env.cells.lookup x=some c→c≠L
 np:∀ p∈X.pn ++ pins,p.1≠L
 ns:∃ m,s.heap.Ns L m
theorem zjQ{tg iter elt:Expr}{ifs:List Expr}{scope:Scope}{pos:Pos}{N':List Str}{m:Nat}{g:DG}{ft:DT}{fe:De}(hc:X.calm=true)(hb:zfn X.N N' scope.names m=true)
  (hkind:scope.kind = .function) (hcell:∀ y∈scope.names,y.2≠.cell) (hfr:∀ y∈scope.names,y.2 = .free→X.env.kindOf y.1=some .cell∨X.env.kindOf y.1=some .free)
  (hblk:∀ cl L s H fp G H' w σ,JG (zbs X N' scope cl L s H fp) (zd0 C X.N.length G H' w σ) tg g∧JTs (zbs X N' scope cl L s H fp) (zd0 C X.N.length G H' w σ) ifs ft∧JE (zbs X N' scope cl L s H fp) (zd0 C X.N.length G H' w σ) elt fe)
  {pins:List (Addr × Obj)} {σ:L2.St} {s2:Shared} {cl:List (Str × Addr)} {RR:Value→Addr→Result→Shared→Prop} {E:Value→Shared→Prop}
  (hcl:∀ x c,cl.lookup x=some c→X.env.cells.lookup x=some c) (hcf:∀ y∈scope.names,y.2 = .free→∃ c,cl.lookup y.1=some c)
  {it:Addr} {fp:List Addr} {tn:Nat→Heap→Prop} {J:It} {H2:Hp} (I2:L2.Inv X pins σ H2 s2) (T:zpT X.prog X.w X.K tg J fp it tn) (st2:tn 0 s2.heap) (f2:∀ b∈fp,zeL X pins H2 b)
  {ds zs:List Dt} {ρ1 ρf:Ev} {G1:Hp} {w1:Wn} (r1:Rel X.K C G1 w1 ρ1 σ H2) (it1:zoB X.K J G1 ds) (hfi:zem ds=true) (ec:zbA g ft fe ds (ρ1 ++ List.replicate m none) = .ok (zs,ρf))
  (fin:∀(D L:Addr)(s':Shared)(vs:List V)(G' H':Hp)(w':Wn),L2.Inv X pins σ H' s'→zn7 X pins H' L s'→zb9 G1 H2 w1 G' H' w'→Rel X.K C G' w' (ρf.take ρ1.length) σ H'→H2 D=none→H' D=some (.lst vs)→G' D=none→w' D=none→za6 X.K G' zs vs→RR (.ref D) L (.ok .next) s') :
  wpAny (model X.prog X.w) X.A (newList []) (fun acc s₃=>wpAny (model X.prog X.w) X.A (newFunctionEnv scope X.env.globals cl [] X.env.qual none .none (some X.env)) (fun cenv s₄ =>
   codeAny (model X.prog X.w) X.A (.compStart (.ListComp elt [⟨tg,iter,ifs,0⟩] scope pos) 0 (.ref it) acc { cenv with scope:=relabel scope X.env }) (RR acc cenv.locals) s₄) E s₃) E s2:=by
 have hD:H2 s2.heap.objs.size=none:=I2.hok.fresh (Nat.le_refl _)
 refine wpAny_newObj_type (wpAny_newFunctionEnv hcell (by intro y hy;simp at hy) (fun h₁ hns₁ hsb₁=>?_) hkind)
 dsimp only at hns₁ hsb₁ ⊢
 have I3:L2.Inv X pins σ (upd H2 s2.heap.objs.size (.lst [])) { s2 with heap:=s2.heap.push { cls:=.type "list",dict:=none,data:=.seq ([]:List Value).toArray } } :=
  I2.laid (t':=s2.toks) (fun b u e=>Heap.get?_push_of_some _ e) (Nat.le_refl _) ⟨Nat.zero_le _,[],0,.nil,Heap.get?_push_size _ rfl⟩
 have hob:∀ b∈fp,∃ o,s2.heap.get? b=some o:=fun b hb=>let ⟨o,e,_⟩:=T.obj 0 _ st2 b hb;⟨o,e⟩
 have hbD:∀ b∈fp,b≠s2.heap.objs.size:=fun b hb z=>by obtain ⟨o,e⟩:=hob b hb;exact absurd (Heap.lt_size e) (by rw[z];exact Nat.lt_irrefl _)
 have f3:∀ b∈fp,zeL X pins (upd H2 s2.heap.objs.size (.lst [])) b:=fun b hb=>⟨by rw[zai (hbD b hb)];exact (f2 b hb).1,(f2 b hb).2⟩
 have hk3:∀ b o,(s2.heap.push { cls:=.type "list",dict:=none,data:=.seq ([]:List Value).toArray }).get? b=some o→h₁.get? b=some o:=fun b o e =>
  (hsb₁.2 b (Nat.ne_of_lt (Heap.lt_size e))).trans (Heap.get?_push_of_some _ e)
 have J4:=zjb (N':=N') (scope:=scope) (cl:=cl) (m:=m) (fp:=fp) (tk:=s2.toks + ([]:List (Str × Value)).length) I3 f3 (fun b hb=>by obtain ⟨o,e⟩:=hob b hb;exact ⟨o,Heap.get?_push_of_some _ e⟩) hb hkind hcell hfr hcl hcf hns₁ hk3
 have st4:tn 0 h₁:=T.keep _ _ _ st2 fun b hb o e=>hk3 b o (Heap.get?_push_of_some _ e)
 generalize hX':zbs X N' scope cl (s2.heap.push { cls:=.type "list",dict:=none,data:=.seq ([]:List Value).toArray }).objs.size { s2 with heap:=s2.heap.push { cls:=.type "list",dict:=none,data:=.seq ([]:List Value).toArray } } (upd H2 s2.heap.objs.size (.lst [])) fp=X' at J4
 have eP:X'.prog=X.prog:=by rw[← hX'];rfl
 have eW:X'.w=X.w:=by rw[← hX'];rfl
 have eK:X'.K=X.K:=by rw[← hX'];rfl
 have eA:X'.A=X.A:=by rw[← hX'];rfl
 have eC:X'.calm=true:=by rw[← hX'];exact hc
 have eE:X'.xe=fun _ _=>False:=by rw[← hX'];rfl
 have ePn:X'.pn=[]:=by rw[← hX'];rfl
 have eN:X'.N.length=X.N.length + m:=by
  rw[← hX'];show N'.length=_
  unfold zfn at hb;rw[Bool.and_eq_true] at hb;exact of_decide_eq_true hb.1
 have eEx:X'.ex=fp:=by rw[← hX'];rfl
 have hlenσ:σ.length=X.N.length:=I2.len
 obtain ⟨hg,hts,he⟩:=hblk cl (s2.heap.push { cls:=.type "list",dict:=none,data:=.seq ([]:List Value).toArray }).objs.size { s2 with heap:=s2.heap.push { cls:=.type "list",dict:=none,data:=.seq ([]:List Value).toArray } } (upd H2 s2.heap.objs.size (.lst [])) fp G1 H2 w1 (σ ++ List.replicate m none)
 rw[hX'] at hg hts he
 generalize hC':zd0 C X.N.length G1 H2 w1 (σ ++ List.replicate m none)=C' at hg hts he
 have c0:C'.H₀=H2:=by rw[← hC'];rfl
 have rel0:Rel X.K C' G1 w1 (ρ1 ++ List.replicate m none) (σ ++ List.replicate m none) (upd H2 s2.heap.objs.size (.lst [])):=by
  have w0:w1 s2.heap.objs.size=none:=by
   cases q:w1 s2.heap.objs.size with
   | none=>rfl
   | some k=>exact absurd hD (r1.wh _ (by rw[q];simp))
  have base:Rel X.K C' G1 w1 (ρ1 ++ List.replicate m none) (σ ++ List.replicate m none) H2:=by
   refine ⟨r1.gh,r1.wg,r1.wh,by simp[r1.len],fun i b e=>?_,by rw[← hC'];exact .refl _ _ _,fun i _=>by rw[← hC'];rfl⟩
   have hi':i < ρ1.length:=by
    by_cases hi':i < ρ1.length
    ·exact hi'
    ·rw[List.getElem?_append_right (by omega),List.getElem?_replicate] at e
     split at e <;> cases e
   rw[List.getElem?_append_left hi'] at e
   obtain ⟨v,h1,h2⟩:=r1.sl i b e
   exact ⟨v,by rw[List.getElem?_append_left (by rw[← r1.len];exact hi')];exact h1,h2⟩
  exact base.upd_new (r1.gh.free hD) w0 (by rw[c0];exact hD)
 have stat:∀{H':Hp},(∀ b∈fp,H' b=none)→∀ b∈fp,zeL X' [] H' b:=fun hn b hb=>by
  have q:=J4.ok.exf b (by rw[eEx];exact hb)
  exact ⟨hn b hb,q.1,J4.ok.exfs b (by rw[eEx];exact hb),.inl (by rw[eEx];exact hb),q.2,fun p hp=>by rw[ePn] at hp;simp at hp⟩
 have loop:∀ s₃:Shared,s₃ = { s2 with heap:=h₁,toks:=s2.toks + ([]:List (Str × Value)).length } →
   codeAny (model X.prog X.w) X.A (.compLoop (.ListComp elt [⟨tg,iter,ifs,0⟩] scope pos) 0 (.ref it) (.ref s2.heap.objs.size) X'.env) (RR (.ref s2.heap.objs.size) (s2.heap.push { cls:=.type "list",dict:=none,data:=.seq ([]:List Value).toArray }).objs.size) s₃:=by
  rintro s₃ rfl
  refine zgd (fun n s'=>∃ i σ' H' ρ' G' w' ac vs,L2.Inv X' [] σ' H' s'∧tn i s'.heap∧(∀ b∈fp,H' b=none)∧n=ds.length - i∧i≤ds.length∧Rel X.K C' G' w' ρ' σ' H'∧zbG G1 G' ∧
   H' s2.heap.objs.size=some (.lst vs)∧G' s2.heap.objs.size=none∧w' s2.heap.objs.size=none∧za6 X.K G' ac vs∧ac.length≤i∧∃ z,zbA g ft fe (ds.drop i) ρ' = .ok z∧ac ++ z.1=zs∧z.2 = ρf) ?_ ds.length
   ⟨0,σ ++ List.replicate m none,_,ρ1 ++ List.replicate m none,G1,w1,[],[],J4,st4,fun b hb=>(f3 b hb).1,by simp,Nat.zero_le _,rel0,.refl _,zaj,r1.gh.free hD,(by
    cases q:w1 s2.heap.objs.size with
    | none=>rfl
    | some k=>exact absurd hD (r1.wh _ (by rw[q];simp))),za6.nil,Nat.zero_le _,(zs,ρf),by simpa using ec,by simp,rfl⟩
  rintro n s' ⟨i,σ',H',ρ',G',w',ac,vs,J5,st5,fr5,rfl,hil,r5,sg5,hd5,gd5,wd5,q5,hac,z,ez,ez1,ez2⟩
  obtain ⟨itgo,itstop⟩:=it1 i G' H' sg5 r5.gh
  by_cases hlt:i < ds.length
  ·have ed:ds.drop i=ds[i] :: ds.drop (i + 1):=List.drop_eq_getElem_cons hlt
   obtain ⟨go,yl⟩:=itgo ds[i] (by simp[hlt])
   have hIt:=T.item X' eP eW eK eC i [] s' σ' H' (fun _ _=>False) J5 (stat fr5) st5 go
   rw[eA] at hIt
   refine thn hIt fun rr s6 ⟨u,hr,h6⟩=>?_
   subst hr
   refine thn h6 fun _ s7 ⟨x,H7,J7,rx7,y7,st7,fr7⟩=>?_
   obtain ⟨G7,gr,rep7⟩:=yl x H7 y7
   have rel7:=r5.grow gr
   have keep7:G7 s2.heap.objs.size=none∧w' s2.heap.objs.size=none∧H7 s2.heap.objs.size=some (.lst vs):=(gr.step (w:=w')).keep gd5 wd5 hd5
   have J7':=J7.pinned (stat fr7) (T.obj _ _ st7)
   rw[ed] at ez
   unfold zbA at ez
   obtain ⟨ρ3,e3,ez⟩:=zdo ez
   obtain ⟨t4,e4,ez⟩:=zdo ez
   obtain ⟨b4,ρ4⟩:=t4
   have hG:=hg ([] ++ zdh fp s7.heap) s7 σ' H7 x u (fun σ8 H8=>∃ G8 w8,zb9 G7 H7 w' G8 H8 w8∧Rel X'.K C' G8 w8 ρ3 σ8 H8) J7' rx7 ⟨G7,w',ρ',ds[i],by rw[eK];exact rel7,by rw[eK];exact rep7,by rw[e3];exact fun σ8 G8 H8 w8 s8 r8=>⟨G8,w8,s8,r8⟩⟩
   rw[eP,eW,eA,eE] at hG
   refine thn hG fun _ s8 ⟨σ8,H8,J8,G8,w8,s8s,r8⟩=>?_
   have keep8:=s8s.keep keep7.1 keep7.2.1 keep7.2.2
   have hT:=hts ([] ++ zdh fp s7.heap) s8 σ8 H8 (fun b H9=>b=b4∧∃ G9 w9,zb9 G8 H8 w8 G9 H9 w9∧Rel X'.K C' G9 w9 ρ4 σ8 H9) J8 ⟨G8,w8,ρ3,r8,by rw[e4];exact fun G9 H9 w9 s9 r9=>⟨rfl,G9,w9,s9,r9⟩⟩
   rw[eP,eW,eA,eE] at hT
   refine thn hT fun ok s9 ⟨H9,J9,eok,G9,w9,s9s,r9⟩=>?_
   subst eok
   have keep9:=s9s.keep keep8.1 keep8.2.1 keep8.2.2
   have sG9:zbG G1 G9:=((sg5.trans gr.g).trans s8s.g).trans s9s.g
   have after:∀{σa:L2.St}{Ha:Hp}{sa:Shared},L2.Inv X' ([] ++ zdh fp s7.heap) σa Ha sa→tn (i + 1) sa.heap∧∀ b∈fp,Ha b=none:=fun {σa Ha sa} Ja =>
    ⟨T.keep _ _ _ st7 fun b hb o e=>(Ja.pin (b,o) (List.mem_append_right _ (List.mem_append_right _ (zcR hb e)))).1,fun b hb=>by
     obtain ⟨o,e,_⟩:=T.obj _ _ st7 b hb
     exact (Ja.pin (b,o) (List.mem_append_right _ (List.mem_append_right _ (zcR hb e)))).2.1⟩
   cases ok with
   | false =>
    rw[if_neg Bool.false_ne_true]
    simp only[Bool.false_eq_true,if_false] at ez
    obtain ⟨k1,k2⟩:=after J9
    exact ⟨ds.length - (i + 1),by omega,i + 1,σ8,H9,ρ4,G9,w9,ac,vs,J9.unpinned,k1,k2,rfl,hlt,by rw[← eK];exact r9,sG9,keep9.2.2,keep9.1,keep9.2.1,q5.same (((gr.g).trans s8s.g).trans s9s.g),by omega,z,ez,ez1,ez2⟩
   | true =>
    rw[if_pos rfl]
    simp only[if_true] at ez
    obtain ⟨y10,e10,ez⟩:=zdo ez
    obtain ⟨yd,ρ10⟩:=y10
    obtain ⟨z',ez',ez3⟩:=zdo ez
    have hEl:=he ([] ++ zdh fp s7.heap) s9 σ8 H9 (fun v H10=>∃ G10 w10,zb9 G9 H9 w9 G10 H10 w10∧Rel X'.K C' G10 w10 ρ10 σ8 H10∧Rep X'.K G10 yd v) J9 ⟨G9,w9,ρ4,r9,by rw[e10];exact fun v G10 H10 w10 s10 r10 q10=>⟨G10,w10,s10,r10,q10⟩⟩
    rw[eP,eW,eA,eE] at hEl
    refine thn hEl fun xv s10 ⟨vy,H10,J10,ry,G10,w10,s10s,r10,q10⟩=>?_
    have keep10:=s10s.keep keep9.1 keep9.2.1 keep9.2.2
    have hAp:=ze5 (X:=X') ([] ++ zdh fp s7.heap) s10 σ8 H10 (.ref s2.heap.objs.size) [vy] (.ref s2.heap.objs.size) [xv] (fun v H11=>H11=upd H10 s2.heap.objs.size (.lst (vs ++ [vy]))) J10 rfl (.cons ry .nil)
     ⟨s2.heap.objs.size,vs,vy,rfl,rfl,keep10.2.2,by
      have:=q5.length
      have:=zhh hfi
      omega,rfl⟩
    rw[eP,eW,eA,eE] at hAp
    refine thn hAp fun _ s11 ⟨v11,H11,J11,_,e11⟩=>?_
    subst e11
    obtain ⟨k1,k2⟩:=after J11
    have rel11:Rel X.K C' G10 w10 ρ10 σ8 (upd H10 s2.heap.objs.size (.lst (vs ++ [vy]))):=by
     rw[← eK]
     exact r10.upd_new keep10.1 keep10.2.1 (by rw[c0];exact hD)
    cases ez3
    refine ⟨ds.length - (i + 1),by omega,i + 1,σ8,_,ρ10,G10,w10,ac ++ [yd],vs ++ [vy],J11.unpinned,k1,k2,rfl,hlt,rel11,sG9.trans s10s.g,zaj,keep10.1,keep10.2.1,(q5.same ((((gr.g).trans s8s.g).trans s9s.g).trans s10s.g)).append (za6.cons (by rw[← eK];exact q10) za6.nil),by simp;omega,z',ez',by rw[← ez1];simp,ez2⟩
  ·have e:i=ds.length:=by omega
   subst e
   have hDn:=T.done X' eP eW eK eC ds.length [] s' σ' H' (fun _ _=>False) J5 (stat fr5) st5 (itstop (Nat.le_refl _))
   rw[eA] at hDn
   refine thn hDn fun rr s6 ⟨hr,J6⟩=>?_
   subst hr
   simp only[List.drop_length] at ez
   unfold zbA at ez
   cases ez
   obtain ⟨m6,hn6,_⟩:=id J6.loc
   have eL:X'.env.locals=(s2.heap.push { cls:=.type "list",dict:=none,data:=.seq ([]:List Value).toArray }).objs.size:=by rw[← hX'];rfl
   rw[eL] at hn6
   have frL:H' (s2.heap.push { cls:=.type "list",dict:=none,data:=.seq ([]:List Value).toArray }).objs.size=none:=by rw[← eL];exact J6.free
   rw[← hX'] at J6
   have IX:L2.Inv X pins σ H' s6:=zkI (h':=s6.heap) I3 f3 (Nat.le_refl _) J6 ⟨rfl,fun _ _=>rfl⟩
   simp only[List.append_nil] at ez1
   subst ez1
   subst ez2
   have hLs:∀ b o,(s2.heap.push { cls:=.type "list",dict:=none,data:=.seq ([]:List Value).toArray }).get? b=some o→(s2.heap.push { cls:=.type "list",dict:=none,data:=.seq ([]:List Value).toArray }).objs.size≠b:=fun b o e z=>absurd (Heap.lt_size e) (by rw[z];exact Nat.lt_irrefl _)
   have lo:zn7 X pins H' (s2.heap.push { cls:=.type "list",dict:=none,data:=.seq ([]:List Value).toArray }).objs.size s6:=by
    refine ⟨frL,fun z=>?_,.inr I3.sz,fun x c e z=>?_,fun p hp z=>?_,m6,hn6⟩
    ·exact absurd I3.lt (by rw[← z];exact Nat.lt_irrefl _)
    ·obtain ⟨v,q⟩:=I3.cell x c e
     exact absurd q.lt (by rw[z];exact Nat.lt_irrefl _)
    ·exact hLs p.1 p.2 (I3.pin p hp).1 z.symm
   have cG:C'.G₀=G1:=by rw[← hC'];rfl
   have cw:C'.w₀=w1:=by rw[← hC'];rfl
   have en':zb9 G1 H2 w1 G' H' w':=by have:=r5.en;rw[cG,c0,cw] at this;exact this
   have hρlen:ρ'.length=X.N.length + m:=by
    rw[r5.len,J5.len,eN]
   refine fin _ _ s6 vs G' H' w' IX lo en' ⟨r5.gh,r5.wg,r5.wh,?_,fun i b e=>?_,r1.en.trans en',r1.pin⟩ hD hd5 gd5 wd5 q5
   ·rw[List.length_take,hρlen,r1.len,hlenσ];omega
   ·have hi':i < ρ1.length:=by
     by_cases hi':i < ρ1.length
     ·exact hi'
     ·rw[List.getElem?_eq_none (by rw[List.length_take];omega)] at e;cases e
    rw[List.getElem?_take_of_lt hi'] at e
    obtain ⟨v,h1,h2⟩:=r5.sl i b e
    refine ⟨v,?_,h2⟩
    have hpi:=r5.pin i (by rw[← hC'];exact List.mem_range.mpr (by rw[← hlenσ,← r1.len];exact hi'))
    rw[h1] at hpi
    rw[← hC'] at hpi
    have hpi':some (some v)=(σ ++ List.replicate m none)[i]? := hpi
    rw[List.getElem?_append_left (by rw[← r1.len];exact hi')] at hpi'
    exact hpi'.symm
 have envEq:X'.env=compEnvC scope cl (s2.heap.push { cls:=.type "list",dict:=none,data:=.seq ([]:List Value).toArray }).objs.size X.env:=by rw[← hX'];rfl
 rw[envEq] at loop
 exact codeAny_compStart_list (loop _ rfl) (T.self X.A 0 _ _ _ st4 (loop _ rfl))
theorem zcF{tg iter elt:Expr}{ifs:List Expr}{scope:Scope}{pos:Pos}{N':List Str}{m:Nat}{fi:DA}{g:DG}{ft:DT}{fe:De}(hi:JI X C tg iter fi)(hc:X.calm=true)(hb:zfn X.N N' scope.names m=true)
  (hkind:scope.kind = .function) (hcell:∀ y∈scope.names,y.2≠.cell) (hfr:∀ y∈scope.names,y.2 = .free→X.env.kindOf y.1=some .cell∨X.env.kindOf y.1=some .free) (hnames:∀ y∈scope.names,y.2 = .local→scope.names.lookup y.1=some .local)
  (hblk:∀ cl L s H fp G H' w σ,JG (zbs X N' scope cl L s H fp) (zd0 C X.N.length G H' w σ) tg g∧JTs (zbs X N' scope cl L s H fp) (zd0 C X.N.length G H' w σ) ifs ft∧JE (zbs X N' scope cl L s H fp) (zd0 C X.N.length G H' w σ) elt fe)
  (hs:∀ x,foldedSetIterable iter X.env x=pure x:=by intro _;rfl):JN X C (.ListComp elt [⟨tg,iter,ifs,0⟩] scope pos) (zaO fi g ft fe m):=by
 intro pins s σ H Q I ⟨G,w,ρ,r,p⟩
 rw[eval_ListComp]
 obtain ⟨cl,hclos,hcl,hcf⟩:=zcd (scope:=scope) (env:=X.env) fun y hy hf=>I.ok.has y.1 (hfr y hy hf)
 refine wpAny_comprehension_free (use:=none) rfl hs hclos hkind hnames ?_
 refine thn (hi pins s σ H (fun J H2=>∃ ds ρ1 G1 w1 zs ρf,Rel X.K C G1 w1 ρ1 σ H2∧zoB X.K J G1 ds∧zem ds=true∧zbA g ft fe ds (ρ1 ++ List.replicate m none) = .ok (zs,ρf)∧kN X.K C σ Q G1 H2 w1 (zs,ρf.take ρ1.length)) I ?_) fun v s1 h1=>thn h1 fun itv s2 h2=>?_
 ·refine ztI (κ:=fun G H w=>kN X.K C σ Q G H w) zeU r p fun ds ρ1 J G1 H1 w1 r1 st1 it1 p1=>?_
  dsimp only at p1
  split at p1
  ·rename_i hfi
   split at p1
   ·rename_i z ez
    exact ⟨ds,ρ1,G1,w1,z.1,z.2,r1,it1,hfi,ez,p1⟩
   ·exact p1.elim
  ·exact p1.elim
 obtain ⟨it,fp,tn,J,H2,rfl,I2,T,st2,f2,ds,ρ1,G1,w1,zs,ρf,r1,it1,hfi,ec,kk⟩:=h2
 refine zjQ (RR:=fun acc C=>compPost (model X.prog X.w) X.A X.xe none (EP X pins σ Q) acc C) hc hb hkind hcell hfr hblk hcl hcf I2 T st2 f2 r1 it1 hfi ec fun D L s' vs G' H' w' I' lo st rel h0 h1 h2 h3 q=>?_
 obtain ⟨mm,hn⟩:=lo.ns
 refine ⟨mm,hn,fun h' hsb=>⟨.ref D,H',?_,rfl,kk D vs G' H' w' st rel h0 h1 h2 h3 q⟩⟩
 exact I'.turned (t':=s'.toks) (fun b o hb e=>(hsb.2 b hb).trans e) lo.fr lo.nl lo.nw lo.nc lo.np
theorem zp5{tg iter elt:Expr}{ifs:List Expr}{scope:Scope}{pos spos:Pos}{N':List Str}{m i:Nat}{x:Str}{px:Pos}{fi:DA}{g:DG}{ft:DT}{fe:De}{fs:List Dt × Ev→R (Fl × Ev)}(hi:JI X C tg iter fi)(hc:X.calm=true)(hb:zfn X.N N' scope.names m=true)
  (hkind:scope.kind = .function) (hcell:∀ y∈scope.names,y.2≠.cell) (hfr:∀ y∈scope.names,y.2 = .free→X.env.kindOf y.1=some .cell∨X.env.kindOf y.1=some .free) (hnames:∀ y∈scope.names,y.2 = .local→scope.names.lookup y.1=some .local)
  (hblk:∀ cl L s H fp G H' w σ,JG (zbs X N' scope cl L s H fp) (zd0 C X.N.length G H' w σ) tg g∧JTs (zbs X N' scope cl L s H fp) (zd0 C X.N.length G H' w σ) ifs ft∧JE (zbs X N' scope cl L s H fp) (zd0 C X.N.length G H' w σ) elt fe)
  (hN:X.N.Nodup) (hix:X.N[i]? = some x) (hx:Loc X.env.scope x) (hsw:swapsWith (.ListComp elt [⟨tg,iter,ifs,0⟩] scope pos) (some (.Name x px)) spos.line X.env=pure true) (hf:X.fn x=true∨X.env.scope.names.lookup x=some .local)
  (hfs:∀(D:zqd)(G1 H2 G' H':Hp)(w1 w':Wn)(σ:L2.St)(p:Addr)(zs:List Dt)(vs:List V)(ρf:Ev),zcu C.ex (kS X.K C D G1 H2 w1) (fs (zs,ρf))→zb9 G1 H2 w1 G' H' w'→Rel X.K C G' w' ρf σ H'→H2 p=none→H' p=some (.lst vs)→G' p=none→w' p=none→za6 X.K G' zs vs→C.H₀ p=none→D.nx (σ.set i (some (.ref p))) H')
  (hs:∀ x,foldedSetIterable iter X.env x=pure x:=by intro _;rfl):JS X C (.Assign [.Name x px] (.ListComp elt [⟨tg,iter,ifs,0⟩] scope pos) spos) (fun ρ=>(zaO fi g ft fe m ρ).bind fs):=by
 intro pins s σ H D I ⟨G,w,ρ,r,p⟩
 obtain ⟨cl,hclos,hcl,hcf⟩:=zcd (scope:=scope) (env:=X.env) fun y hy hf=>I.ok.has y.1 (hfr y hy hf)
 rw[exec_Assign_Name_used _ _ _ _ hsw]
 refine wpAny_bind (wpAny_standAt (wpAny_bind ?_))
 show wpAny _ X.A (do let _ ← comprehension (.ListComp elt [⟨tg,iter,ifs,0⟩] scope pos) scope X.env _ (newList []) false (eval iter X.env) (some (assign (.Name x px) X.env))) _ _ s
 refine wpAny_bind (wpAny_mono (wpAny_comprehension_free (use:=some (assign (.Name x px) X.env)) (Q:=fun _ s'=>SP X pins D .next s') rfl hs hclos hkind hnames ?_) (fun _ s' hq=>wpAny_pure (wpAny_pure hq)) fun _ _ e=>e)
 refine thn (hi pins s σ H (fun J H2=>∃ ds ρ1 G1 w1 zs ρf,Rel X.K C G1 w1 ρ1 σ H2∧zoB X.K J G1 ds∧zem ds=true∧zbA g ft fe ds (ρ1 ++ List.replicate m none) = .ok (zs,ρf)∧zcu C.ex (kS X.K C D G1 H2 w1) (fs (zs,ρf.take ρ1.length))) I ?_) fun v s1 h1=>thn h1 fun itv s2 h2=>?_
 ·have p':zcu C.ex (kS X.K C D G H w) ((fi ρ).bind fun a=>((if zem a.1=true then match zbA g ft fe a.1 (a.2 ++ List.replicate m none) with
   | .ok z=>.ok (z.1,z.2.take a.2.length)
   | _=>.no
   else .no:R (List Dt × Ev))).bind fs):=by
   rw[← R.bind_assoc]
   exact p
  refine ztI (κ:=fun G H w=>kS X.K C D G H w) zeb r p' fun ds ρ1 J G1 H1 w1 r1 st1 it1 p1=>?_
  dsimp only at p1
  split at p1
  ·rename_i hfi
   split at p1
   ·rename_i z ez
    exact ⟨ds,ρ1,G1,w1,z.1,z.2,r1,it1,hfi,ez,p1⟩
   ·exact False.elim p1
  ·exact False.elim p1
 obtain ⟨it,fp,tn,J,H2,rfl,I2,T,st2,f2,ds,ρ1,G1,w1,zs,ρf,r1,it1,hfi,ec,kk⟩:=h2
 refine zjQ (RR:=fun acc C=>compPost (model X.prog X.w) X.A X.xe (some (assign (.Name x px) X.env)) (fun _ s'=>SP X pins D .next s') acc C) hc hb hkind hcell hfr hblk hcl hcf I2 T st2 f2 r1 it1 hfi ec fun Da L s' vs G' H' w' I' lo st rel h0 h1 h2 h3 q=>?_
 show wpAny _ X.A (assign (.Name x px) X.env (.ref Da)) _ _ _
 refine wpAny_assign_Name (zg5 I' hN hix hx (v:=.ref Da) rfl (fun s'' I'' hch=>?_) hf)
 obtain ⟨mm,hn⟩:=lo.ns
 obtain ⟨a,sb,ha⟩:=hch
 have hLa:L≠a:=by
  rcases ha with z | z
  ·rw[z];exact lo.nl
  ·exact fun y=>lo.nc x a z y.symm
 refine ⟨mm,hn.sameBut sb hLa,fun h' hsb=>⟨σ.set i (some (.ref Da)),H',?_,hfs D G1 H2 G' H' w1 w' σ Da zs vs _ kk st rel h0 h1 h2 h3 q (r1.en.k Da h0)⟩⟩
 exact I''.turned (t':=s''.toks) (fun b o hb e=>(hsb.2 b hb).trans e) lo.fr lo.nl lo.nw lo.nc lo.np
theorem zfJ{tg iter elt:Expr}{ifs:List Expr}{scope:Scope}{pos spos:Pos}{N':List Str}{m i:Nat}{x:Str}{px:Pos}{fi:DA}{g:DG}{ft:DT}{fe:De}(hN:X.N.Nodup)(hix:X.N[i]? = some x)(hx:Loc X.env.scope x)(hp:i∉C.pp)(hi:JI X C tg iter fi)(hc:X.calm=true)(hb:zfn X.N N' scope.names m=true)
  (hkind:scope.kind = .function) (hcell:∀ y∈scope.names,y.2≠.cell) (hfr:∀ y∈scope.names,y.2 = .free→X.env.kindOf y.1=some .cell∨X.env.kindOf y.1=some .free) (hnames:∀ y∈scope.names,y.2 = .local→scope.names.lookup y.1=some .local)
  (hblk:∀ cl L s H fp G H' w σ,JG (zbs X N' scope cl L s H fp) (zd0 C X.N.length G H' w σ) tg g∧JTs (zbs X N' scope cl L s H fp) (zd0 C X.N.length G H' w σ) ifs ft∧JE (zbs X N' scope cl L s H fp) (zd0 C X.N.length G H' w σ) elt fe)
  (hsw:swapsWith (.ListComp elt [⟨tg,iter,ifs,0⟩] scope pos) (some (.Name x px)) spos.line X.env=pure true:=by rfl) (hf:X.fn x=true∨X.env.scope.names.lookup x=some .local:=by first | exact .inl rfl | exact .inr rfl | assumption)
  (hs:∀ x,foldedSetIterable iter X.env x=pure x:=by intro _;rfl):JS X C (.Assign [.Name x px] (.ListComp elt [⟨tg,iter,ifs,0⟩] scope pos) spos) (zbg i (dFz (zaO fi g ft fe m))):=by
 have h:=zp5 (fs:=fun a=>if i < a.2.length then .ok (.nx,a.2.set i (some (.val (.lst a.1)))) else .no) hi hc hb hkind hcell hfr hnames hblk hN hix hx hsw hf (fun D G1 H2 G' H' w1 w' σ p zs vs ρf po st rel h0 h1 h2 h3 q h4=>?_) hs
 ·refine PS.weak h fun D σ H t=>?_
  obtain ⟨G,w,ρ,r,p⟩:=t
  refine ⟨G,w,ρ,r,?_⟩
  unfold zbg dFz at p
  rw[R.bind_assoc] at p
  exact p
 ·by_cases hl:i < ρf.length
  ·simp only[hl,if_true] at po
   obtain ⟨r',s'⟩:=rel.know h1 h2 h3 H2 G1 w1 st h0 (.inl h4)
   have sg:zbG G' (upd G' p (.lst vs)):=fun b u e=>by rw[zai (zah e h2)];exact e
   exact po _ _ _ _ s' (r'.setVal hl hp (by unfold Rep;exact ⟨p,vs,rfl,zaj,q.same sg⟩))
  ·simp only[hl,if_false] at po;exact False.elim po
end
section
variable{X:Cx}{C:Cn}{a b c e:Expr}{fa fb fc:De}{pos:Pos}
theorem zmu{r r':R2}{g g':Dt→Dt→R Dt}{σ:L2.St}{H:Hp}{Q:VK}(h2:Op2 X.K r g)(he:zia g)(h2':Op2 X.K r' g')(he':zia g')(h:tE X.K C (zjY g g' fa fb fc) σ H Q):zpW r r' (tE X.K C fa) (tE X.K C fb) (tE X.K C fc) σ H Q:=by
 obtain ⟨G,w,ρ,rr,p⟩:=h
 refine zez (κ:=fun G H w=>kE X.K C σ Q G H w) zcA rr p fun d ρ1 v G1 H1 w1 r1 s1 q1 p1=>?_
 refine zez (κ:=fun G H w=>kE X.K C σ Q G H w) zcA r1 p1 fun d2 ρ2 v2 G2 H2 w2 r2 s2 q2 p2=>?_
 dsimp only at p2
 cases e:g d d2 with
 | ok z =>
  simp only[e,R.bind_ok] at p2
  refine h2 G2 H2 v v2 d d2 z _ r2.gh (q1.same s2.g) q2 e fun v3 G3 H3 gr q3=>?_
  have p3:=zcu.step (κ:=fun G H w=>kE X.K C σ Q G H w) zcA gr.step (w1:=w2) p2
  have r3:=r2.grow gr
  cases z with
  | bl k =>
   refine ⟨k,zfr q3,?_⟩
   cases k with
   | false=>exact iteF (p3 _ G3 H3 w2 (.refl _ _ _) r3 (zcU _))
   | true =>
    refine iteT ?_
    refine zez (κ:=fun G H w=>kE X.K C σ Q G H w) zcA r3 p3 fun d4 ρ4 v4 G4 H4 w4 r4 s4 q4 p4=>?_
    dsimp only at p4
    cases e':g' d2 d4 with
    | ok z' =>
     simp only[e',R.bind_ok] at p4
     exact h2' G4 H4 v2 v4 d2 d4 z' Q r4.gh ((q2.same gr.g).same s4.g) q4 e' fun v5 G5 H5 gr5 q5=>p4 v5 G5 H5 w4 gr5.step (r4.grow gr5) q5
    | er n=>exact absurd e' (he' _ _ _)
    | no=>simp only[e',R.bind_no] at p4;exact p4.elim
  | _=>exact False.elim p3
 | er n=>exact absurd e (he _ _ _)
 | no=>simp only[e,R.bind_no] at p2;exact p2.elim
theorem zoY{op op':CmpOp}{r r':R2}{g g':Dt→Dt→R Dt}(ho:OpR X (compareOp op) r)(h2:Op2 X.K r g)(hn:zia g)(ho':OpR X (compareOp op') r')(h2':Op2 X.K r' g')(hn':zia g')(ha:JE X C a fa)(hb:JE X C b fb)(hc:JE X C c fc)
  (hm:lastMarks [op,op'] [b,c]=false:=by with_unfolding_all rfl):JE X C (.Compare a [op,op'] [b,c] pos) (zjY g g' fa fb fc):=PE.weak (zpl ho ho' ha hb hc hm) fun σ H Q h=>zmu h2 hn h2' hn' h
def kO(K:W.Frag)(C:Cn)(σ:L2.St)(Q:Option Int→Hp→Prop)(G H:Hp)(w:Wn)(a:Option Int × Ev):Prop :=
 ∀ G' H' w',zb9 G H w G' H' w'→Rel K C G' w' a.2 σ H'→Q a.1 H'
abbrev DO:=Ev→R (Option Int × Ev)
def tOd(K:W.Frag)(C:Cn)(f:DO):TO:=fun σ H Q=>∃ G w ρ,Rel K C G w ρ σ H∧zcu C.ex (kO K C σ Q G H w) (f ρ)
abbrev JO(X:Cx)(C:Cn)(e:Option Expr)(f:DO):Prop:=PO X e (tOd X.K C f)
theorem PO.weak{e:Option Expr}{t t':TO}(h:PO X e t)(k:∀ σ H Q,t' σ H Q→t σ H Q):PO X e t':=fun pins s σ H Q I q=>h pins s σ H Q I (k σ H Q q)
def dO0:DO:=fun ρ=>.ok (none,ρ)
def dO1(fa:De):DO:=fun ρ=>(fa ρ).bind fun a=>match a.1 with
 | .int i=>.ok (some i,a.2)
 | _=>.no
theorem ztL{K:W.Frag}{σ:L2.St}{Q:Option Int→Hp→Prop}:Stp (fun G H w=>kO K C σ Q G H w):=fun _ _ _ _ _ _ _ s k G' H' w' s'=>k G' H' w' (s.trans s')
theorem zgH:JO X C none dO0:=PO.weak zqF fun σ H Q ⟨G,w,ρ,r,p⟩=>p G H w (.refl _ _ _) r
theorem zeZ(h:JE X C a fa):JO X C (some a) (dO1 fa):=PO.weak (zrC h) fun σ H Q ⟨G,w,ρ,r,p⟩=>by
 refine zez (κ:=fun G H w=>kO X.K C σ Q G H w) ztL r p fun d ρ1 v G1 H1 w1 r1 s1 q1 p1=>?_
 cases d with
 | int i=>exact ⟨i,zaE q1,p1 G1 H1 w1 (.refl _ _ _) r1⟩
 | _=>exact p1.elim
theorem zt0{K:W.Frag}{σ:L2.St}{α:Type}{κ:zoH α}(st:Stp κ){G H:Hp}{w:Wn}{ρ:Ev}{fa:DO}{g:Option Int × Ev→R α}{Q:Option Int→Hp→Prop}(r:Rel K C G w ρ σ H)(p:zcu C.ex (κ G H w) ((fa ρ).bind g))
  (k:∀ o ρ1 G1 H1 w1,Rel K C G1 w1 ρ1 σ H1→zb9 G H w G1 H1 w1→zcu C.ex (κ G1 H1 w1) (g (o,ρ1))→Q o H1):tOd K C fa σ H Q:=by
 refine ⟨G,w,ρ,r,?_⟩
 cases e:fa ρ with
 | ok a =>
  rw[e] at p
  intro G' H' w' s' r'
  exact k a.1 a.2 G' H' w' r' s' (zcu.step st s' p)
 | er n=>rw[e] at p;exact p
 | no=>rw[e] at p;exact p
def zgO{α:Type}(xs:List α)(lo hi:Option Int):List α:=(xs.drop (HT.sIx xs.length 0 lo)).take (HT.sIx xs.length xs.length hi - HT.sIx xs.length 0 lo)
theorem zlk{K:W.Frag}{G:Hp}{ds:List Dt}{vs:List V}(h:za6 K G ds vs)(lo hi:Option Int):za6 K G (zgO ds lo hi) (zmN vs lo hi):=by
 unfold zgO zmN
 rw[← h.length]
 exact (h.drop _).take _
def zoC(fa:De)(fl fh:DO):DN:=fun ρ=>(fa ρ).bind fun a=>(fl a.2).bind fun l=>(fh l.2).bind fun h=>match a.1 with
 | .lst ds=>.ok (zgO ds l.1 h.1,h.2)
 | _=>.no
theorem zdU{K:W.Frag}{σ:L2.St}{G H:Hp}{w:Wn}{ρ:Ev}{p:Addr}(r:Rel K C G w ρ σ H)(hp:H p=none):w p=none:=by
 cases z:w p with
 | none=>rfl
 | some k=>exact absurd hp (r.wh p (by rw[z];simp))
theorem zqh{lo hi:Option Expr}{fl fh:DO}{p2:Pos}(ha:JE X C a fa)(hl:JO X C lo fl)(hh:JO X C hi fh):JN X C (.Subscript a (.Slice lo hi none p2) pos) (zoC fa fl fh) :=
 PE.weak (zl8 zq2 ha hl hh) fun σ H Q ⟨G,w,ρ,r,p⟩=>by
  refine zez (κ:=fun G H w=>kN X.K C σ Q G H w) zeU r p fun d ρ1 v G1 H1 w1 r1 s1 q1 p1=>?_
  refine zt0 (κ:=fun G H w=>kN X.K C σ Q G H w) zeU r1 p1 fun l ρ2 G2 H2 w2 r2 s2 p2=>?_
  refine zt0 (κ:=fun G H w=>kN X.K C σ Q G H w) zeU r2 p2 fun h ρ3 G3 H3 w3 r3 s3 p3=>?_
  cases d with
  | lst ds =>
   obtain ⟨ad,vs,rfl,h1,h2⟩:=zbz (q1.same (s2.g.trans s3.g))
   refine ⟨ad,vs,rfl,SqL.of (r3.gh _ _ h1),fun p hp=>?_⟩
   have gr:ze9 G3 H3 G3 (upd H3 p (.lst (zmN vs l h))):=.newH r3.gh hp
   exact p3 p _ G3 _ w3 gr.step (r3.grow gr) hp zaj (r3.gh.free hp) (zdU r3 hp) (zlk h2 l h)
  | _=>exact p3.elim
def zjI(fa:De):DN:=fun ρ=>(fa ρ).bind fun a=>match a.1 with
 | .lst ds=>.ok (ds.reverse,a.2)
 | _=>.no
theorem zte{k1:Nat}{p1 p2 p3:Pos}(ha:JE X C a fa):JN X C (.Subscript a (.Slice none none (some (.UnaryOp .USub (.Constant (.int 1) k1 p1) p2)) p3) pos) (zjI fa):=by
 intro pins s σ H Q I ⟨G,w,ρ,r,p⟩
 refine PyProof.Rows.Subscript_ (thn (ha pins s σ H (fun x H1=>∃ ad vs,x = .ref ad∧SqL X.K H1 ad vs∧∀ p,H1 p=none→Q (.ref p) (upd H1 p (.lst vs.reverse))) I ?_) fun v s1 ⟨x,H1,I1,r1,ad,vs,ex,hx,q1⟩=>?_)
 ·refine zez (κ:=fun G H w=>kN X.K C σ Q G H w) zeU r p fun d ρ1 v G1 H1 w1 r1 s1 q1 p1=>?_
  cases d with
  | lst ds =>
   obtain ⟨ad,vs,rfl,h1,h2⟩:=zbz q1
   refine ⟨ad,vs,rfl,SqL.of (r1.gh _ _ h1),fun p hp=>?_⟩
   have gr:ze9 G1 H1 G1 (upd H1 p (.lst vs.reverse)):=.newH r1.gh hp
   exact p1 p _ G1 _ w1 gr.step (r1.grow gr) hp zaj (r1.gh.free hp) (zdU r1 hp) h2.reverse
  | _=>exact p1.elim
 subst ex
 cases r1
 obtain ⟨its,rv,ht,hz⟩:=I1.list hx
 have hlen:=rv.length
 refine wpAny_Slice (evalPart_none_step (evalPart_none_step (evalPart_some_step (thn (zsl (a:=.Constant (.int 1) k1 p1) (pos:=p2) zqe zqc pins s1 σ H1 (fun x H2=>x = .int (-1)∧H2=H1) I1 ⟨1,rfl,rfl,rfl⟩) fun vk s2 ⟨y,H2,I2,r2,ey,eH⟩=>?_))))
 subst ey
 subst eH
 obtain ⟨t,rfl⟩:=r2
 have I4:L2.Inv X pins σ H2 { s2 with heap:=s2.heap.push { cls:=.type "slice",data:=.fields #[.none,.none,.int (-1) t] } }:=I2.kept (t':=s2.toks) fun b ob q=>Heap.get?_push_of_some _ q
 obtain ⟨its4,rv4,ht4,_⟩:=I4.list hx
 have hlen4:=rv4.length
 show wpAny (model X.prog X.w) X.A (PyProof.Rows.subscriptTail a (.Slice none none (some (.UnaryOp .USub (.Constant (.int 1) k1 p1) p2)) p3) (.ref ad) (.ref s2.heap.objs.size)) (EP X pins σ Q) X.xe { s2 with heap:=s2.heap.push { cls:=.type "slice",data:=.fields #[.none,.none,.int (-1) t] } }
 refine PyProof.Rows.tail_any (ops:=[.ref ad,.ref s2.heap.objs.size]) ht4.isList.typeIs slot_list_getitem.lookup ?_ (by with_unfolding_all rfl)
 refine wpAny_getItem_list_slice ht4.isList (Heap.IsSliceOf.new ..) .none .none (.int _ _) (by decide) ?_ (by rw[List.size_toArray] <;> omega)
 rw[W.krv_pick]
 refine ⟨.ref _,_,I4.laid (t':=s2.toks) (o:=.lst vs.reverse) (fun b ob q=>Heap.get?_push_of_some _ q) (Nat.le_refl _) ?_,rfl,q1 _ (I4.hok.fresh (Nat.le_refl _))⟩
 exact ⟨by rw[List.length_reverse];exact hz,its4.reverse,0,rv4.reverse,Heap.get?_push_size (o:={ cls:=.type "list",data:=.seq its4.toArray.toList.reverse.toArray }) _ rfl⟩
end
structure Dfn(nw:Bool)(P:Program)(w:World)(K:W.Frag)(mg:Str→Option Value)(base:Heap)(CX:CXT)(xv:Nat→Value)(k:Nat)(x:Str)(ks:List Bool)(F:FD):Prop where
 ex:∃(f:Addr)(fd:FuncData)(ps:List Str),zfl P w K mg base CX k f fd ps (zpQ nw K xv ks F)∧mg x=some (.ref f)∧W.keepIn K (.ref f)=true∧zfA K fd ps []∧∀ bs,F bs≠.no→zb5 bs=ks
theorem Dfn.mono{nw:Bool}{P:Program}{w:World}{K:W.Frag}{mg:Str→Option Value}{base:Heap}{CX:CXT}{xv:Nat→Value}{k k':Nat}{x:Str}{ks:List Bool}{F:FD}(D:Dfn nw P w K mg base CX xv k x ks F)(h:k≤k'):Dfn nw P w K mg base CX xv k' x ks F:=by
 obtain ⟨f,fd,ps,h1,h2⟩:=D.ex
 exact ⟨f,fd,ps,h1.mono h,h2⟩
section
variable{X:Cx}{C:Cn}{CX:CXT}{k k':Nat}{ks:List Bool}{Fd:FD}{x:Str}{p pos:Pos}{e:Expr}{es:List Expr}{far:DAr}
theorem zaB(D:Dfn false X.prog X.w X.K X.mg X.base CX C.xv k x ks Fd)(hr:zdf k' X.A)(hk:k≤k')(hx:zcm CX X (EXc C))(ha:JAr X C (e :: es) far)(hg:Gl X x:=by rfl)(hdb:(x == ("__debug__" : Str))=false:=by decide)(he:starEach (e :: es) X.env=(false,eval e X.env) :: starEach es X.env:=by rfl)
  (hpl:(backTo pos (starEach es X.env)).any (·.1)=false:=by rfl):JE X C (.Call (.Name x p) (e :: es) [] pos) (zaf Fd far):=by
 obtain ⟨f,fd,ps,h1,h2,h3,h4,h5⟩:=D.ex
 exact zrn h1 (hr.mono hk) hg h2 h3 h4 hx h5 ha hdb he hpl
end
section
variable{X:Cx}{C:Cn}{CX:CXT}{k k':Nat}{ks:List Bool}{Fd:FD}{x:Str}{p pos:Pos}{e:Expr}{es:List Expr}{far:DAr}
theorem zmX(D:Dfn true X.prog X.w X.K X.mg X.base CX C.xv k x ks Fd)(hr:zdf k' X.A)(hk:k≤k')(hx:zcm CX X (EXc C))(ha:JAr X C (e :: es) far)(hg:Gl X x:=by rfl)(hdb:(x == ("__debug__" : Str))=false:=by decide)(he:starEach (e :: es) X.env=(false,eval e X.env) :: starEach es X.env:=by rfl)
  (hpl:(backTo pos (starEach es X.env)).any (·.1)=false:=by rfl):JN X C (.Call (.Name x p) (e :: es) [] pos) (zbQ Fd far):=by
 obtain ⟨f,fd,ps,h1,h2,h3,h4,h5⟩:=D.ex
 exact zrh h1 (hr.mono hk) hg h2 h3 h4 hx h5 ha hdb he hpl
end
def dNo:DS:=fun _=>.no
theorem zlQ{X:Cx}{C:Cn}{st:Stmt}:JS X C st dNo:=fun _ _ _ _ _ _ ⟨_,_,_,_,p⟩=>p.elim
section
variable{X:Cx}{C:Cn}{a b c e:Expr}{fa fb fc:De}{pos:Pos}
def zj8(fa fb:De):DN:=fun ρ=>(fa ρ).bind fun a=>(fb a.2).bind fun b=>match a.1,b.1 with
 | .lst x,.lst y=>if x.length + y.length≤16777216 then .ok (x ++ y,b.2) else .no
 | _,_=>.no
theorem zoj(ha:JE X C a fa)(hb:JE X C b fb):JN X C (.BinOp a .Add b pos) (zj8 fa fb):=PE.weak (zrj ztl ha hb) fun σ H Q ⟨G,w,ρ,r,p⟩=>by
 refine zez (κ:=fun G H w=>kN X.K C σ Q G H w) zeU r p fun d ρ1 v G1 H1 w1 r1 s1 q1 p1=>?_
 refine zez (κ:=fun G H w=>kN X.K C σ Q G H w) zeU r1 p1 fun d2 ρ2 v2 G2 H2 w2 r2 s2 q2 p2=>?_
 dsimp only at p2
 split at p2
 ·rename_i x y
  split at p2
  ·rename_i hl
   obtain ⟨ad,vs,rfl,h1,h2⟩:=zbz (q1.same s2.g)
   obtain ⟨bd,us,rfl,h3,h4⟩:=zbz q2
   refine ⟨ad,bd,vs,us,rfl,rfl,r2.gh _ _ h1,r2.gh _ _ h3,by rw[← h2.length,← h4.length,zcV];exact hl,fun p hp=>?_⟩
   have gr:ze9 G2 H2 G2 (upd H2 p (.lst (vs ++ us))):=.newH r2.gh hp
   exact p2 p _ G2 _ w2 gr.step (r2.grow gr) hp zaj (r2.gh.free hp) (zdU r2 hp) (h2.append h4)
  ·exact p2.elim
 ·exact p2.elim
def dRep(fa fb:De):DN:=fun ρ=>(fa ρ).bind fun a=>(fb a.2).bind fun b=>match a.1,b.1 with
 | .lst x,.int k=>if zeY k=true∧x.length * k.toNat≤16777216 then .ok ((List.replicate k.toNat x).flatten,b.2) else .no
 | _,_=>.no
theorem zll{K:W.Frag}{G:Hp}{ds:List Dt}{vs:List V}(h:za6 K G ds vs):∀ k:Nat,za6 K G (List.replicate k ds).flatten (List.replicate k vs).flatten
 | 0=>by simpa using za6.nil
 | k + 1=>by
  rw[List.replicate_succ,List.replicate_succ,List.flatten_cons,List.flatten_cons]
  exact h.append (zll h k)
theorem zsd(ha:JE X C a fa)(hb:JE X C b fb):JN X C (.BinOp a .Mult b pos) (dRep fa fb):=PE.weak (zrj zsh ha hb) fun σ H Q ⟨G,w,ρ,r,p⟩=>by
 refine zez (κ:=fun G H w=>kN X.K C σ Q G H w) zeU r p fun d ρ1 v G1 H1 w1 r1 s1 q1 p1=>?_
 refine zez (κ:=fun G H w=>kN X.K C σ Q G H w) zeU r1 p1 fun d2 ρ2 v2 G2 H2 w2 r2 s2 q2 p2=>?_
 dsimp only at p2
 split at p2
 ·rename_i x k
  split at p2
  ·rename_i hl
   obtain ⟨ad,vs,rfl,h1,h2⟩:=zbz (q1.same s2.g)
   obtain ⟨b1,b2⟩:=zgu hl.1
   refine ⟨ad,k,vs,rfl,zaE q2,r2.gh _ _ h1,by omega,by omega,by rw[← h2.length,zcV];exact hl.2,fun p hp=>?_⟩
   have gr:ze9 G2 H2 G2 (upd H2 p (.lst (List.replicate k.toNat vs).flatten)):=.newH r2.gh hp
   exact p2 p _ G2 _ w2 gr.step (r2.grow gr) hp zaj (r2.gh.free hp) (zdU r2 hp) (zll h2 k.toNat)
  ·exact p2.elim
 ·exact p2.elim
def ztM(ta:TA):TE:=fun σ H Q=>ta σ H fun vs H1=>∃ j:Int,vs=[.int j]∧∀ p,H1 p=none→Q (.ref p) (upd H1 p (.rng 0 j))
theorem zsI{p:Pos}{ta:TA}(hg:Gl X "range")(hm:X.mg "range"=none)(ha:PA X [e] ta)(hs:starEach [e] X.env=[(false,eval e X.env)]:=by rfl):PE X (.Call (.Name "range" p) [e] [] pos) (ztM ta):=by
 intro pins s σ H Q I h
 refine PyProof.Rows.Call_ (zf8 I hg hm PyProof.Rows.boot_range (PyProof.Rows.callWith_type1 (thn (ha pos pins s σ H _ I h) fun us s1 ⟨vs,H1,I1,r1,q1⟩=>?_) hs rfl))
 obtain ⟨j,e1,q⟩:=q1
 subst e1
 obtain ⟨u,rfl,t,rfl⟩:=zfO r1
 exact call_range_1 ⟨.ref s1.heap.objs.size,_,I1.laid (o:=.rng 0 j) (fun b u e=>Heap.get?_push_of_some _ e) (Nat.le_refl _) ⟨_,_,_,Heap.get?_push_size _ rfl⟩,rfl,q _ (I1.hok.fresh (Nat.le_refl _))⟩
theorem zhW{lo:Int}:∀(n:Nat)(acc:List Value),acc.length=n→(∀(j:Nat) v,acc[j]? = some v→∃ t,v=Value.int (lo + j) t)→zbk ((List.range n).map fun k=>V.int (lo + (k:Nat))) acc
 | 0,[],_,_=>.nil
 | 0,_ :: _,h,_=>by simp at h
 | n + 1,[],h,_=>by simp at h
 | n + 1,v :: r,h,hv=>by
  rw[List.range_succ_eq_map,List.map_cons,List.map_map]
  obtain ⟨t,ht⟩:=hv 0 v rfl
  refine .cons ⟨t,by simpa using ht⟩ ?_
  have:=zhW (lo:=lo + 1) n r (by simpa using h) fun j v' e=>by
   obtain ⟨t',ht'⟩:=hv (j + 1) v' (by simpa using e)
   refine ⟨t',ht'.trans ?_⟩
   congr 1
   omega
  have e:(fun k=>V.int (lo + 1 + (k:Nat)))=((fun k:Nat=>V.int (lo + (k:Nat))) ∘ Nat.succ):=by
   funext k
   show V.int _=V.int _
   congr 1
   simp only[Nat.succ_eq_add_one]
   omega
  rw[e] at this
  exact this
theorem ziJ(hc:X.calm=true):zcO X (.type "list") (fun xs H Q=>∃(p:Addr)(j:Int),xs=[.ref p]∧H p=some (.rng 0 j)∧0≤j∧j≤16777216∧∀ l,H l=none→Q (.ref l) (upd H l (.lst ((List.range j.toNat).map fun k=>V.int (0 + (k:Nat)))))):=by
 intro pins s σ H xs us Q I r h
 obtain ⟨p,j,rfl,hp,j0,j1,q⟩:=h
 obtain ⟨u,rfl,ru⟩:=zfO r
 cases ru
 obtain ⟨t,u,v,e⟩:=(show zcr X.prog X.w H s.heap p (.rng 0 j) from I.hok p _ hp)
 refine call_list_range (n:=j.toNat) (I.ok.hd hc) e (small_one (by omega) (by omega) (by omega) (by omega)) (by rw[rangeSize_one];split <;> omega) (by omega) fun h' tk acc' c' hk hS hacc=>?_
 refine ⟨.ref s.heap.objs.size,_,I.laid (t':=tk) hk (Nat.le_refl _) (o:=.lst ((List.range j.toNat).map fun k=>V.int (0 + (k:Nat)))) ⟨?_,acc'.toList,c',?_,by simpa using hS⟩,rfl,q _ (I.hok.fresh (Nat.le_refl _))⟩
 ·rw[List.length_map,List.length_range,zcV];omega
 ·refine zhW j.toNat acc'.toList (by rw[Array.length_toList];exact hacc.1) fun i v' ev=>?_
  obtain ⟨t',ht'⟩:=hacc.2 i v' (by simpa using ev)
  exact ⟨t',by rw[ht',Int.mul_one]⟩
def zi5(fa:De):DN:=fun ρ=>(fa ρ).bind fun a=>match a.1 with
 | .int j=>if 0≤j∧j≤16777216 then .ok (zbh 0 j.toNat,a.2) else .no
 | _=>.no
theorem zhG{K:W.Frag}{G:Hp}{lo:Int}:∀(l:List Nat),za6 K G (l.map fun k=>.int (lo + (k:Nat))) (l.map fun k=>V.int (lo + (k:Nat)))
 | []=>za6.nil
 | k :: r=>za6.cons (zaH _) (zhG r)
theorem znE{p1 p2 pos2:Pos}(hc:X.calm=true)(hg:Gl X "list")(hm:X.mg "list"=none)(hg2:Gl X "range")(hm2:X.mg "range"=none)(ha:JE X C e fa)(hs:starEach [e] X.env=[(false,eval e X.env)]:=by rfl)
  (hs2:starEach [.Call (.Name "range" p2) [e] [] pos2] X.env=(false,eval (.Call (.Name "range" p2) [e] [] pos2) X.env) :: starEach [] X.env:=by rfl) (hpl:(backTo pos (starEach [] X.env)).any (·.1)=false:=by rfl) :
  JN X C (.Call (.Name "list" p1) [.Call (.Name "range" p2) [e] [] pos2] [] pos) (zi5 fa) :=
 PE.weak (zhf (ziJ hc) hg hm PyProof.Rows.boot_list (zbe (zsI hg2 hm2 (zao ha zaF (by rw[hs];rfl)) hs) zc4 hs2) (by decide) (by decide) hs2 hpl) fun σ H Q ⟨G,w,ρ,r,p⟩=>by
  unfold zi5 at p
  refine ⟨G,w,ρ,r,?_⟩
  unfold dA dA0
  cases e:fa ρ with
  | ok x =>
   obtain ⟨d,ρ1⟩:=x
   rw[e] at p
   intro vs G1 H1 w1 s1 r1 q
   obtain ⟨v,t,rfl,q1,q2⟩:=q.cons_inv
   rw[q2.nil_inv]
   have p1:=zcu.step (κ:=fun G H w=>kN X.K C σ Q G H w) zeU s1 p
   cases d with
   | int j =>
    refine ⟨j,by rw[zaE q1],fun p hp=>?_⟩
    have p1:zcu C.ex (kN X.K C σ Q G1 H1 w1) (if 0≤j∧j≤16777216 then .ok (zbh 0 j.toNat,ρ1) else .no):=p1
    by_cases hj:0≤j∧j≤16777216
    ·rw[if_pos hj] at p1
     refine ⟨p,j,rfl,zaj,hj.1,hj.2,fun l hl=>?_⟩
     have gr:ze9 G1 H1 G1 (upd H1 p (.rng 0 j)):=.newH r1.gh hp
     have r2:=r1.grow gr
     have gr2:ze9 G1 (upd H1 p (.rng 0 j)) G1 (upd (upd H1 p (.rng 0 j)) l (.lst ((List.range j.toNat).map fun k=>V.int (0 + (k:Nat))))):=.newH r2.gh hl
     have hl1:H1 l=none:=gr.h.free hl
     exact p1 l _ G1 _ w1 (gr.step.trans gr2.step) (r2.grow gr2) hl1 zaj (r1.gh.free hl1) (zdU r1 hl1) (zhG _)
    ·rw[if_neg hj] at p1;exact p1.elim
   | _=>exact False.elim p1
  | er n=>rw[e] at p;exact p
  | no=>rw[e] at p;exact p
end
section
variable{X:Cx}{C:Cn}{a b c e:Expr}{fa fb fc:De}{pos:Pos}
def zrm(a:Int):List Int→List Int
 | []=>[a]
 | b :: r=>if a≤b then a :: b :: r else b :: zrm a r
def zbt:List Int→List Int
 | []=>[]
 | a :: r=>zrm a (zbt r)
theorem zhj(a:Int):∀ l:List Int,(zrm a l).Perm (a :: l)
 | []=>.refl _
 | b :: r=>by
  unfold zrm
  split
  ·exact .refl _
  ·exact ((zhj a r).cons b).trans (.swap a b r)
theorem zbj:∀ l:List Int,(zbt l).Perm l
 | []=>.refl _
 | a :: r=>(zhj a _).trans ((zbj r).cons a)
theorem zlG(a:Int):∀ l:List Int,l.Pairwise (· ≤ ·)→(zrm a l).Pairwise (· ≤ ·)
 | [],_=>by simp[zrm]
 | b :: r,h=>by
  unfold zrm
  rw[List.pairwise_cons] at h
  split
  ·rename_i z
   refine List.pairwise_cons.mpr ⟨fun x hx=>?_,List.pairwise_cons.mpr h⟩
   rcases List.mem_cons.mp hx with rfl | hx
   ·exact z
   ·exact Int.le_trans z (h.1 x hx)
  ·rename_i z
   refine List.pairwise_cons.mpr ⟨fun x hx=>?_,zlG a r h.2⟩
   rcases List.mem_cons.mp ((zhj a r).mem_iff.mp hx) with rfl | hx
   ·omega
   ·exact h.1 x hx
theorem zdA:∀ l:List Int,(zbt l).Pairwise (· ≤ ·)
 | []=>.nil
 | a :: r=>zlG a _ (zdA r)
theorem intsAre_of:∀{ns:List Int}{us:List Value},zbk (ns.map V.int) us→PyProof.Rows.IntsAre us ns
 | [],_,.nil=>.nil
 | n :: ns,_,.cons ⟨t,h⟩ r=>by subst h;exact .cons n t (intsAre_of r)
theorem vals_ints:∀{ns:List Int}{us:List Value},PyProof.Rows.IntsAre us ns→zbk (ns.map V.int) us
 | _,_,.nil=>.nil
 | _,_,.cons n t h=>.cons ⟨t,rfl⟩ (vals_ints h)
theorem zmt:zcO X (.builtin "sorted") (fun xs H Q=>∃(p:Addr)(ns:List Int),xs=[.ref p]∧SqL X.K H p (ns.map V.int)∧ns.length < 64∧∀ l,H l=none→Q (.ref l) (upd H l (.lst ((zbt ns).map V.int)))):=by
 intro pins s σ H xs us Q I r h
 obtain ⟨p,ns,rfl,hq,hl,q⟩:=h
 obtain ⟨u,rfl,ru⟩:=zfO r
 cases ru
 obtain ⟨its,rv,pl,hz⟩:=I.list hq
 have hlen:its.length=ns.length:=by rw[← rv.length];simp
 refine PyProof.Rows.sorted_ints pl.isList (intsAre_of rv) (by omega) fun out ns' a1 a2 a3=>?_
 have e:ns'=zbt ns:=W.lks_uniq (a2.trans (zbj ns).symm) a3 (zdA ns)
 subst e
 obtain ⟨c,hc⟩:=PyProof.Rows.sortedAll_at s.heap its out
 refine ⟨.ref (s.heap.objs.size + 1),_,I.laid (t':=s.toks) (fun b o=>PyProof.Rows.sortedAll_old) (Nat.le_succ _) (o:=.lst ((zbt ns).map V.int)) ⟨?_,out.toList,c,vals_ints a1,?_⟩,rfl,q _ (I.hok.fresh (Nat.le_succ _))⟩
 ·rw[List.length_map,(zbj ns).length_eq,zcV];omega
 ·simpa using hc
def zd5:List Dt→R (List Dt)
 | [.lst l]=>match zh3 l with
  | some ns=>if ns.length < 64 then .ok ((zbt ns).map .int) else .no
  | none=>.no
 | _=>.no
theorem zgz{K:W.Frag}{G:Hp}:∀(ns:List Int),za6 K G (ns.map .int) (ns.map V.int)
 | []=>za6.nil
 | n :: r=>za6.cons (zaH n) (zgz r)
theorem zoV{K:W.Frag}:FnN K (fun xs H Q=>∃(p:Addr)(ns:List Int),xs=[.ref p]∧SqL K H p (ns.map V.int)∧ns.length < 64∧∀ l,H l=none→Q (.ref l) (upd H l (.lst ((zbt ns).map V.int)))) zd5:=fun G H vs ds z Q gh hr e k=>by
 unfold zd5 at e
 split at e
 ·split at e
  ·rename_i ns en
   split at e
   ·rename_i hl
    obtain ⟨v,rfl,h1⟩:=zfR hr
    obtain ⟨a,us,rfl,h2,h3⟩:=zbz h1
    cases e
    rw[zic h3 en] at h2
    exact ⟨a,ns,rfl,SqL.of (gh _ _ h2),hl,fun l hl=>k l _ hl (zgz _)⟩
   ·cases e
  ·cases e
 ·cases e
theorem zpf:zkM zd5:=fun x n h=>by
 unfold zd5 at h
 split at h
 ·split at h
  ·split at h <;> cases h
  ·cases h
 ·cases h
theorem zlJ{x:Expr}{p:Pos}(hg:Gl X "sorted")(hm:X.mg "sorted"=none)(ha:JE X C x fa)(hs:starEach [x] X.env=(false,eval x X.env) :: starEach [] X.env:=by rfl)(hpl:(backTo pos (starEach [] X.env)).any (·.1)=false:=by rfl) :
  JN X C (.Call (.Name "sorted" p) [x] [] pos) (zfq zd5 (dA fa dA0)) :=
 zlN zoV zpf zmt hg hm PyProof.Rows.boot_sorted (zao ha zaF hs) (by decide) (by decide) hs hpl
end
theorem zmz:typeLookup (.type "list_reverseiterator") "__len__"=pure none:=by rw[typeLookup_type,builtinLookup_eq_fast];kernel_rfl
theorem zpF:typeLookup (.type "list_reverseiterator") "__length_hint__"=pure (some (.builtin "list_reverseiterator.__length_hint__")):=by rw[typeLookup_type,builtinLookup_eq_fast];kernel_rfl
section
variable{prog:Program}{w:World}{A:Around}{E:Value→Shared→Prop}{s:Shared}
theorem zqT{R:Result→Shared→Prop}{it l:Addr}{items:Array Value}(hh:A.handled=none)(hit:s.heap.IsRevIter it l ((items.size:Int) - 1))(hl:s.heap.IsList l items)(hne:l≠it)(S:Addr)(res:Value)(c₀:Nat)(hS:s.heap.get? S=some { cls:=.type "list",data:=.seq #[] c₀ })(hSl:S≠l)
  (hn:items.size≤sizeLine)
  (hR:∀ h' tk acc' c',(∀ b o,b≠S→b≠it→s.heap.get? b=some o→h'.get? b=some o)→h'.get? S=some { cls:=.type "list",dict:=none,data:=.seq acc' c',slots:=#[] } →
   ItemsOf (fun i v=>items[items.size - 1 - i]? = some v) acc' items.size→R (.ok (.ret res)) { s with heap:=h',toks:=tk }) :
  wpAny (model prog w) A.in1 (Builtin.List.listExtendWith (.ref S) (.ref it) res)
   (fun fin s'=>match fin with | .done f=>R (.ok f) s' | .again c'=>c'.quiet=true∧codeAny (model prog w) A c' R s') (fun e s'=>R (.error e) s') s:=by
 have hSI:S≠it:=fun e=>by
  obtain ⟨o,ho,hc,_⟩:=hit
  rw[e,ho] at hS;cases hS;simp at hc
 have hSf:S∉[it,l]:=fun hm=>by
  rcases List.mem_cons.mp hm with z | z
  ·exact hSI z
  ·exact hSl (List.mem_singleton.mp z)
 unfold Builtin.List.listExtendWith
 refine wpAny_bind (wpAny_typeOf (T:="list_reverseiterator") hit.typeIs ?_)
 have h1:Builtin.List.listSameRef (.ref S) (.ref it)=false:=by simp[Builtin.List.listSameRef,hSI]
 have h2:(Value.type "list_reverseiterator" == Value.type "list")=false:=by decide +kernel
 have h3:(Value.type "list_reverseiterator" == Value.type "tuple")=false:=by decide +kernel
 simp only[h1,h2,h3,Bool.or_false,Bool.false_eq_true,if_false]
 refine wpAny_bind (wpAny_pyIter_revIter hit ?_)
 refine wpAny_bind (wpAny_holding ?_)
 unfold Builtin.List.listLengthHint
 refine wpAny_bind (wpAny_specialOf hit.typeIs zmz ?_)
 show wpAny _ A.in1 (specialOf (Value.ref it) (Str.ofString "__length_hint__") >>= _) _ _ _
 refine wpAny_bind (wpAny_specialOf hit.typeIs zpF ?_)
 wp_delta
 refine wpAny_bind (wpAny_isInstance (T:="list_reverseiterator") (b:=true) hit.typeIs (by rw[isSubtype_type];kernel_rfl) ?_)
 refine wpAny_ite_split (fun h=>absurd h (by decide)) (fun _=>?_)
 refine wpAny_ite_split (fun _=>?_) (fun h=>absurd (by decide +kernel) h)
 refine wpAny_ite_split (fun h=>absurd h (by decide +kernel)) (fun _=>wpAny_pure ?_)
 rw[if_neg (by decide +kernel)]
 have W:=(Walks.listRev (prog:=prog) (w:=w) (A:=A.in1) hh it l hne items).toS
 have hst:0≤items.size∧s.heap.IsRevIter it l ((items.size:Int) - 1 - ((0:Nat):Int))∧s.heap.IsList l items:=⟨Nat.zero_le _,by simpa using hit,hl⟩
 refine wpAny_pure ⟨plainId_quiet F.plain_extend_loop _,codeAny_extend_loopS W hn _ hSf _ items.size 0 _ _ _ rfl (Nat.zero_le _) hst hS (ItemsOf.nil _) fun s' acc' c' hm hS' hacc=>?_⟩
 rw[Moved.eq_with hm]
 refine hR s'.heap s'.toks acc' c' (fun b ob hb hb2 e=>hm.heap b ob (fun hmem=>?_) e) hS' hacc
 rcases List.mem_cons.mp hmem with e' | hmem
 ·exact hb e'
 ·exact hb2 (List.mem_singleton.mp hmem)
theorem zoZ{R:Result→Shared→Prop}{it l:Addr}{items:Array Value}(hh:A.handled=none)(hit:s.heap.IsRevIter it l ((items.size:Int) - 1))(hl:s.heap.IsList l items)(hne:l≠it)(S:Addr)(hS:s.heap.get? S=some { cls:=.type "list",data:=.seq #[] })(hSl:S≠l)(hSI:S≠it)
  (hn:items.size≤sizeLine)
  (hR:∀ h' tk acc' c',(∀ b o,b≠S→b≠it→s.heap.get? b=some o→h'.get? b=some o)→h'.get? S=some { cls:=.type "list",dict:=none,data:=.seq acc' c',slots:=#[] } →
   ItemsOf (fun i v=>items[items.size - 1 - i]? = some v) acc' items.size→R (.ok (.ret .none)) { s with heap:=h',toks:=tk }) :
  wpAny (model prog w) A.in1 (Builtin.«list.__init__» ⟨[.ref S,.ref it],[]⟩)
   (fun fin s'=>match fin with | .done f=>R (.ok f) s' | .again c'=>c'.quiet=true∧codeAny (model prog w) A c' R s') (fun e s'=>R (.error e) s') s:=by
 show wpAny _ _ (do let old ← Builtin.List.listItems (.ref S);Builtin.List.listUpdate (.ref S) (fun _=>#[]);letGo old.toList.reverse;Builtin.List.listExtendWith (.ref S) (.ref it) .none) _ _ s
 refine wpAny_bind ?_
 unfold Builtin.List.listItems
 refine wpAny_bind (wpAny_seqItems hS rfl (wpAny_pure ?_))
 show wpAny _ _ (updateSeq S (fun _=>#[]) >>= fun _=>letGo (#[]:Array Value).toList.reverse >>= fun _=>Builtin.List.listExtendWith (.ref S) (.ref it) .none) _ _ s
 refine wpAny_bind (wpAny_updateSeq hS rfl ?_)
 have k2:=Heap.get?_update_self (Obj.mapSeq (fun _=>(#[]:Array Value))) hS rfl
 have oth:∀ b o,b≠S→s.heap.get? b=some o→(s.heap.update S (Obj.mapSeq (fun _=>(#[]:Array Value)))).get? b=some o :=
  fun b o hb e=>(Heap.get?_update_other _ _ (Ne.symm hb)).trans e
 refine wpAny_bind (wpAny_letGo ?_)
 exact zqT hh (hit.at fun o e=>oth it o (Ne.symm hSI) e) (hl.at fun o e=>oth l o (Ne.symm hSl) e) hne S .none _ k2 hSl hn fun h' tk acc' c' hk hS' hacc=>hR h' tk acc' c' (fun b o hb hb2 e=>hk b o hb hb2 (oth b o hb e)) hS' hacc
theorem zpM{Q:Value→Shared→Prop}{it l:Addr}{items:Array Value}(hh:A.handled=none)(hit:s.heap.IsRevIter it l ((items.size:Int) - 1))(hl:s.heap.IsList l items)(hne:l≠it)(hn:items.size≤sizeLine)
  (hQ:∀ h' tk acc' c',(∀ b o,b≠it→s.heap.get? b=some o→h'.get? b=some o) →
   h'.get? s.heap.objs.size=some { cls:=.type "list",dict:=none,data:=.seq acc' c',slots:=#[] }→ItemsOf (fun i v=>items[items.size - 1 - i]? = some v) acc' items.size→Q (.ref s.heap.objs.size) { s with heap:=h',toks:=tk }) :
  wpAny (model prog w) A (call (.type "list") [.ref it]) Q E s:=by
 refine callType_codes (Q₁:=fun obj s₁=>obj = .ref s.heap.objs.size∧s₁ = { s with heap:=s.heap.push { cls:=.type "list",data:=.seq #[] } }) F.called_list (F.typeCall_list_1 _) F.entry_list_init
  (code_list_new _ ⟨rfl,rfl⟩) fun obj s₁ h₁=>?_
 obtain ⟨rfl,rfl⟩:=h₁
 have kS:(s.heap.push { cls:=.type "list",data:=.seq #[] }).get? s.heap.objs.size=some { cls:=.type "list",data:=.seq #[] }:=Heap.get?_push_size _ rfl
 have lt1:l≠s.heap.objs.size:=by obtain ⟨o,e,_⟩:=hl;exact Nat.ne_of_lt (Heap.lt_size e)
 have lt2:it≠s.heap.objs.size:=by obtain ⟨o,e,_⟩:=hit;exact Nat.ne_of_lt (Heap.lt_size e)
 refine ⟨⟨_,kS,rfl⟩,F.args_list_init_2 _ _,zoZ (A:=A.in1) hh (hit.at fun o e=>Heap.get?_push_of_some _ e) (hl.at fun o e=>Heap.get?_push_of_some _ e) hne _ kS (Ne.symm lt1) (Ne.symm lt2) hn fun h' tk acc' c' hk hS' hacc=>?_⟩
 exact ⟨rfl,hQ h' tk acc' c' (fun b o hb e=>hk b o (Nat.ne_of_lt (Heap.lt_size e)) hb (Heap.get?_push_of_some _ e)) hS' hacc⟩
end
section
variable{X:Cx}{C:Cn}{a:Expr}{fa:De}{pos:Pos}
theorem zpS:bootBuiltins "reversed"=some (.type "reversed"):=by decide +kernel
theorem zpL{vs:List V}{its:List Value}{acc:Array Value}(r:zbk vs its)(h:ItemsOf (fun i v=>its.toArray[its.toArray.size - 1 - i]? = some v) acc its.toArray.size):zbk vs.reverse acc.toList:=by
 have e:acc.toList=its.reverse:=by
  apply List.ext_getElem?
  intro i
  have hs:acc.size=its.length:=by simpa using h.1
  by_cases hi:i < its.length
  ·have:=h.2 i acc[i] (by simp[hs,hi])
   rw[List.getElem?_reverse hi]
   have e2:acc.toList[i]? = some acc[i]:=by simp[hs,hi]
   rw[e2]
   simpa using this.symm
  ·rw[List.getElem?_eq_none (by simpa [hs] using hi),List.getElem?_eq_none (by simpa using hi)]
 rw[e]
 exact r.reverse
theorem zrv{p1 p2 pos2:Pos}(hc:X.calm=true)(hg:Gl X "list")(hm:X.mg "list"=none)(hg2:Gl X "reversed")(hm2:X.mg "reversed"=none)(ha:JE X C a fa)(hs:starEach [a] X.env=[(false,eval a X.env)]:=by rfl)
  (hs2:starEach [.Call (.Name "reversed" p2) [a] [] pos2] X.env=[(false,eval (.Call (.Name "reversed" p2) [a] [] pos2) X.env)]:=by rfl) :
  JN X C (.Call (.Name "list" p1) [.Call (.Name "reversed" p2) [a] [] pos2] [] pos) (zjI fa):=by
 intro pins s σ H Q I ⟨G,w,ρ,r,p⟩
 refine PyProof.Rows.Call_ (zf8 I hg hm PyProof.Rows.boot_list (PyProof.Rows.callWith_type1 ?_ hs2 rfl))
 rw[hs2]
 show wpAny _ _ (spliced ((false,eval (.Call (.Name "reversed" p2) [a] [] pos2) X.env) :: backTo pos (starEach [] X.env))) _ _ s
 refine Calls.spliced_cons (PyProof.Rows.Call_ (zf8 I hg2 hm2 zpS (PyProof.Rows.callWith_type1 (thn (zao ha zaF hs pos2 pins s σ H (fun vs H1=>∃(ad:Addr)(zs:List V),vs=[.ref ad]∧SqL X.K H1 ad zs∧∀ p,H1 p=none→Q (.ref p) (upd H1 p (.lst zs.reverse))) I ?_) fun us s1 ⟨vs,H1,I1,r1,q1⟩=>?_) hs rfl)))
 ·refine ⟨G,w,ρ,r,?_⟩
  unfold zjI at p
  unfold dA dA0
  cases e:fa ρ with
  | ok x =>
   obtain ⟨d,ρ1⟩:=x
   rw[e] at p
   intro vs G1 H1 w1 s1 r1 q
   obtain ⟨v,t,rfl,q1,q2⟩:=q.cons_inv
   rw[q2.nil_inv]
   have p1:=zcu.step (κ:=fun G H w=>kN X.K C σ Q G H w) zeU s1 p
   cases d with
   | lst ds =>
    obtain ⟨ad,zs,rfl,h1,h2⟩:=zbz q1
    refine ⟨ad,zs,rfl,SqL.of (r1.gh _ _ h1),fun p hp=>?_⟩
    have gr:ze9 G1 H1 G1 (upd H1 p (.lst zs.reverse)):=.newH r1.gh hp
    exact p1 p _ G1 _ w1 gr.step (r1.grow gr) hp zaj (r1.gh.free hp) (zdU r1 hp) h2.reverse
   | _=>exact False.elim p1
  | er n=>rw[e] at p;exact p
  | no=>rw[e] at p;exact p
 ·obtain ⟨ad,zs,rfl,hq,q⟩:=q1
  obtain ⟨u,rfl,ru⟩:=zfO r1
  cases ru
  obtain ⟨its,rv,pl,hz⟩:=I1.list hq
  have hlen:=rv.length
  refine call_reversed_list pl.isList ?_
  refine Calls.spliced_nil ?_
  have ne:ad≠s1.heap.objs.size:=by
   obtain ⟨o,n,e,_⟩:=id pl
   exact Nat.ne_of_lt (Heap.lt_size e)
  have I2:L2.Inv X pins σ H1 { s1 with heap:=s1.heap.push (revObj ad ((its.toArray.size:Int) - 1)) }:=I1.kept (t':=s1.toks) fun b ob q=>Heap.get?_push_of_some _ q
  have hit:Heap.IsRevIter (s1.heap.push (revObj ad ((its.toArray.size:Int) - 1))) s1.heap.objs.size ad ((its.toArray.size:Int) - 1):=⟨_,Heap.get?_push_size _ rfl,rfl,rfl⟩
  have hl2:Heap.IsList (s1.heap.push (revObj ad ((its.toArray.size:Int) - 1))) ad its.toArray:=pl.isList.at fun o e=>Heap.get?_push_of_some _ e
  refine zpM (s:={ s1 with heap:=s1.heap.push (revObj ad ((its.toArray.size:Int) - 1)) }) (I.ok.hd hc) hit hl2 ne (by rw[List.size_toArray];omega) fun h' tk acc c' hk hS hacc=>?_
  have hsz:(s1.heap.push (revObj ad ((its.toArray.size:Int) - 1))).objs.size=s1.heap.objs.size + 1:=Heap.size_push ..
  have hS':h'.get? (s1.heap.objs.size + 1)=some { cls:=.type "list",dict:=none,data:=.seq acc c',slots:=#[] }:=by rw[← hsz];exact hS
  show EP X pins σ Q (.ref (s1.heap.push (revObj ad ((its.toArray.size:Int) - 1))).objs.size) _
  rw[hsz]
  refine ⟨.ref (s1.heap.objs.size + 1),_,I1.laid (h':=h') (t':=tk) (o:=.lst zs.reverse) (fun b o e=>hk b o (Nat.ne_of_lt (Heap.lt_size e)) (Heap.get?_push_of_some _ e)) (Nat.le_succ _) ⟨?_,acc.toList,c',zpL rv hacc,by simpa using hS'⟩,rfl,q _ (I1.hok.fresh (Nat.le_succ _))⟩
  rw[List.length_reverse];exact hz
end
section
variable{prog:Program}{w:World}{A:Around}{E:Value→Shared→Prop}{s:Shared}
theorem bnd:type_of% @wpAny_bind:=@wpAny_bind
theorem zlb{it t:Addr}{i:Nat}{its:Array Value}{x:Value}{Q:Value→Shared→Prop}(k1:s.heap.IsTupleIter it t i)(k2:s.heap.IsTuple t its)(kx:its[i]? = some x)
  (kQ:∀ h',h'.IsTupleIter it t (i + 1)→Heap.SameBut it s.heap h'→Q x { s with heap:=h' }):wpAny (model prog w) A (Builtin.SmallTypes.nextOf (.ref it)) Q E s:=by
 obtain ⟨o,e1,e2,e3⟩:=id k1
 obtain ⟨o',e4,_,n',e5⟩:=k2
 unfold Builtin.SmallTypes.nextOf
 refine bnd (wpAny_callSpecial?_slot (name:=Str.ofString "__next__") k1.typeIs F.slot_tuple_iterator_next (wpAny_call_entry F.slot_tuple_iterator_next k1.typeIs F.entry_tuple_iterator_next ?_ (F.args_tuple_iterator_next_1 _)))
 show wpAny _ _ (field (.ref it) 0 >>= _) _ _ _
 refine bnd (wpAny_field e1 e3 (x:=.ref t) rfl ?_)
 show wpAny _ _ (if (Value.ref t == Value.none)=true then _ else _) _ _ _
 have nn:¬ ((Value.ref t == Value.none)=true):=Bool.false_ne_true
 rw[if_neg nn]
 show wpAny _ _ (field (.ref it) 1 >>= _) _ _ _
 refine bnd (wpAny_field e1 e3 (x:=.int i 0) rfl ?_)
 show wpAny _ _ (seqItems? (.ref t) >>= _) _ _ _
 refine bnd (wpAny_seqItems e4 e5 ?_)
 simp only[Int.toNat_natCast,kx]
 refine bnd (wpAny_setField e1 e3 (by simp) (wpAny_pure ⟨x,rfl,wpAny_pure (kQ _ ⟨_,Heap.get?_update_self _ e1 (Obj.isFreed_of_fields (Obj.data_mapFields e3 _)),(Obj.cls_mapFields ..).trans e2,?_⟩ (Heap.SameBut.update ..))⟩))
 rw[Obj.data_mapFields e3];simp[rawInt]
theorem zrF{it t:Addr}{i:Nat}{its:Array Value}{Q:Value→Shared→Prop}(hh:A.handled=none)(k1:s.heap.IsTupleIter it t i)(k2:s.heap.IsTuple t its)(kx:its[i]? = none)
  (kE:∀ h' e,Heap.ExtBut it s.heap h'→(∃ o,h'.get? e=some o∧o.cls = .type "StopIteration")→E (.ref e) { s with heap:=h' }):wpAny (model prog w) A (Builtin.SmallTypes.nextOf (.ref it)) Q E s:=by
 obtain ⟨o,e1,e2,e3⟩:=id k1
 obtain ⟨o',e4,_,n',e5⟩:=k2
 unfold Builtin.SmallTypes.nextOf
 refine bnd (wpAny_callSpecial?_slot (name:=Str.ofString "__next__") k1.typeIs F.slot_tuple_iterator_next (wpAny_call_entry F.slot_tuple_iterator_next k1.typeIs F.entry_tuple_iterator_next ?_ (F.args_tuple_iterator_next_1 _)))
 show wpAny _ _ (field (.ref it) 0 >>= _) _ _ _
 refine bnd (wpAny_field e1 e3 (x:=.ref t) rfl ?_)
 show wpAny _ _ (if (Value.ref t == Value.none)=true then _ else _) _ _ _
 have nn:¬ ((Value.ref t == Value.none)=true):=Bool.false_ne_true
 rw[if_neg nn]
 show wpAny _ _ (field (.ref it) 1 >>= _) _ _ _
 refine bnd (wpAny_field e1 e3 (x:=.int i 0) rfl ?_)
 show wpAny _ _ (seqItems? (.ref t) >>= _) _ _ _
 refine bnd (wpAny_seqItems e4 e5 ?_)
 simp only[Int.toNat_natCast,kx]
 refine bnd (wpAny_rule (wpAny_bind (wpAny_setField e1 e3 (by simp) ?_)))
 show wpAny _ _ (newExc (.type "StopIteration") [] >>= _) _ _ _
 refine bnd ?_
 simp only[newExc,newTuple]
 refine bnd (wpAny_newObj_type ?_ (by size_fits))
 refine (wpAny_bind (m:=firstArgMember _ _)) (wpAny_of_eq (a:=Value.none) (by first | rfl | (simp only[firstArgMember];rfl)) ?_)
 refine wpAny_newObj_type ?_ (by size_fits);simp only[raiseNew]
 refine bnd (wpAny_handled ?_)
 first | rw[show A.in1.handled=none from hh] | rw[hh]
 refine bnd (wpAny_pure (wpAny_throw ?_))
 exact kE _ _ (((Heap.SameBut.update ..).extBut.push _).push _) ⟨_,Heap.get?_push_size _ rfl,rfl⟩
structure Zp(h:Heap)(z TI TO i1 i2 l1 l2:Addr)(f0:Value)(k:Nat):Prop where
 z:IsZip h z TI TO f0
 ti:IsPair h TI (.ref i1) (.ref i2)
 to:∃ a b,IsPair h TO a b
 a1:h.IsTupleIter i1 l1 k
 a2:h.IsTupleIter i2 l2 k
structure ZpD(z TI TO i1 i2:Addr):Prop where
 d1:TI≠z
 d2:TO≠z
 d3:i1≠z
 d4:i2≠z
 d5:TI≠TO
 d6:TI≠i1
 d7:TI≠i2
 d8:TO≠i1
 d9:TO≠i2
 d0:i1≠i2
theorem Zp.keep{h h':Heap}{z TI TO i1 i2 l1 l2:Addr}{f0:Value}{k:Nat}(p:Zp h z TI TO i1 i2 l1 l2 f0 k)(e:∀ b∈[z,TI,TO,i1,i2],∀ o,h.get? b=some o→h'.get? b=some o):Zp h' z TI TO i1 i2 l1 l2 f0 k :=
 ⟨e z (by simp) _ p.z,e TI (by simp) _ p.ti,let ⟨a,b,q⟩:=p.to;⟨a,b,e TO (by simp) _ q⟩,p.a1.at fun o q=>e i1 (by simp) o q,p.a2.at fun o q=>e i2 (by simp) o q⟩
variable{z TI TO i1 i2 l1 l2:Addr}{k:Nat}{xs ys:Array Value}
theorem zkw{x y:Value}{Q:Value→Shared→Prop}(D:ZpD z TI TO i1 i2)(p:Zp s.heap z TI TO i1 i2 l1 l2 .none k)(q1:s.heap.IsTuple l1 xs)(q2:s.heap.IsTuple l2 ys)(n1:∀ b∈[z,TI,TO,i1,i2],b≠l1)(n2:∀ b∈[z,TI,TO,i1,i2],b≠l2)
  (hx:xs[k]? = some x) (hy:ys[k]? = some y)
  (hQ:∀ h',Zp h' z TI TO i1 i2 l1 l2 (rawInt s.heap.objs.size) (k + 1)→h'.get? s.heap.objs.size=some { cls:=.type "tuple",data:=.seq #[x,y] }→(∀ c o,c≠z→c≠TO→c≠i1→c≠i2→s.heap.get? c=some o→h'.get? c=some o)→Q (.ref s.heap.objs.size) { s with heap:=h' }) :
  wpAny (model prog w) A (Builtin.«zip.__next__» ⟨[.ref z],[]⟩) (fun fin s'=>∃ v,fin = .done (.ret v)∧Q v s') E s:=by
 obtain ⟨pz,pti,⟨oa,ob,pto⟩,pa1,pa2⟩:=p
 show wpAny _ _ (field (.ref z) 2 >>= _) _ _ _
 refine bnd (wpAny_field pz rfl (x:=.bool false) rfl ?_)
 show wpAny _ _ (field (.ref z) 3 >>= _) _ _ _
 refine bnd (wpAny_field pz rfl (x:=.ref TI) rfl ?_)
 refine bnd (wpAny_seqItems pti rfl ?_)
 show wpAny _ _ (Builtin.SmallTypes.ownedTupleIsFree (.ref z) >>= _) _ _ _
 refine bnd ?_
 unfold Builtin.SmallTypes.ownedTupleIsFree
 refine bnd (wpAny_field pz rfl (x:=.none) rfl (wpAny_pure ?_))
 simp only[if_true]
 refine bnd (wpAny_rule ?_)
 refine bnd (wpAny_field pz rfl (x:=.ref TO) rfl ?_)
 refine bnd (wpAny_setField_rec pz (by simp) fun g1 pz1 sb1=>?_)
 have pz1:IsZip g1 z TI TO .ellipsis:=pz1
 refine bnd ?_
 simp only[List.zipIdx_cons,List.zipIdx_nil,List.forIn_cons,List.forIn_nil]
 refine bnd (wpAny_bind (wpAny_onRaise ?_))
 show wpAny _ _ (Builtin.SmallTypes.nextOf (.ref i1) >>= _) _ _ _
 refine bnd (zlb (pa1.extBut sb1.extBut D.d3) (q1.extBut sb1.extBut (Ne.symm (n1 z (by simp)))) hx fun g2 pa1' sb2=>wpAny_pure ?_)
 have t2:IsPair g2 TO oa ob:=sb2.extBut _ _ D.d8 (sb1.extBut _ _ D.d2 pto)
 refine bnd (wpAny_seqItems t2 rfl ?_)
 refine bnd (wpAny_updateSeq_pair t2 fun g3 t3 sb3=>?_)
 have t3:IsPair g3 TO x ob:=t3
 refine bnd (wpAny_letGo (wpAny_pure ?_))
 refine bnd (wpAny_bind (wpAny_onRaise ?_))
 show wpAny _ _ (Builtin.SmallTypes.nextOf (.ref i2) >>= _) _ _ _
 refine bnd (zlb (((pa2.extBut sb1.extBut D.d4).extBut sb2.extBut D.d0.symm).extBut sb3.extBut D.d9.symm)
  (((q2.extBut sb1.extBut (Ne.symm (n2 z (by simp)))).extBut sb2.extBut (Ne.symm (n2 i1 (by simp)))).extBut sb3.extBut (Ne.symm (n2 TO (by simp)))) hy fun g4 pa2' sb4=>wpAny_pure ?_)
 have t4:IsPair g4 TO x ob:=sb4.extBut _ _ D.d9 t3
 refine bnd (wpAny_seqItems t4 rfl ?_)
 refine bnd (wpAny_updateSeq_pair t4 fun g5 t5 sb5=>?_)
 have t5:IsPair g5 TO x y:=t5
 refine bnd (wpAny_letGo (wpAny_pure (wpAny_pure ?_)))
 refine bnd (wpAny_seqItems t5 rfl ?_)
 refine bnd (wpAny_newTuple ?_)
 have sz:g5.objs.size=s.heap.objs.size:=by rw[sb5.1,sb4.1,sb3.1,sb2.1,sb1.1]
 have z5:IsZip g5 z TI TO .ellipsis:=sb5.extBut _ _ D.d2.symm (sb4.extBut _ _ D.d4.symm (sb3.extBut _ _ D.d2.symm (sb2.extBut _ _ D.d3.symm pz1)))
 have k5:∀ c o,c≠z→c≠TO→c≠i1→c≠i2→s.heap.get? c=some o→g5.get? c=some o:=fun c o c1 c2 c3 c4 e =>
  sb5.extBut _ _ c2 (sb4.extBut _ _ c4 (sb3.extBut _ _ c2 (sb2.extBut _ _ c3 (sb1.extBut _ _ c1 e))))
 have p1:g5.IsTupleIter i1 l1 (k + 1):=((pa1'.extBut sb3.extBut D.d8.symm).extBut sb4.extBut D.d0).extBut sb5.extBut D.d8.symm
 have p2:g5.IsTupleIter i2 l2 (k + 1):=pa2'.extBut sb5.extBut D.d9.symm
 have ltz:z < g5.objs.size:=Heap.lt_size z5
 show wpAny _ _ (Builtin.SmallTypes.ownedTupleHandOut (.ref z) (.ref g5.objs.size) >>= _) _ _ _
 refine bnd ?_
 unfold Builtin.SmallTypes.ownedTupleHandOut
 have z6:IsZip (g5.push { cls:=.type "tuple",data:=.seq #[x,y] }) z TI TO .ellipsis:=Heap.get?_push_of_some _ z5
 refine bnd (wpAny_setField_rec z6 (by simp) fun g7 z7 sb7=>?_)
 have z7:IsZip g7 z TI TO (rawInt g5.objs.size):=z7
 refine wpAny_setField_rec z7 (by simp) fun g8 z8 sb8=>?_
 have z8:IsZip g8 z TI TO (rawInt g5.objs.size):=z8
 have up:∀ c o,c≠z→g5.get? c=some o→g8.get? c=some o:=fun c o c1 e=>sb8.extBut _ _ c1 (sb7.extBut _ _ c1 (Heap.get?_push_of_some _ e))
 have t8:g8.get? g5.objs.size=some { cls:=.type "tuple",data:=.seq #[x,y] }:=sb8.extBut _ _ (Nat.ne_of_gt ltz) (sb7.extBut _ _ (Nat.ne_of_gt ltz) (Heap.get?_push_size _ rfl))
 rw[sz] at z8 t8
 refine wpAny_pure ⟨_,rfl,?_⟩
 show Q (.ref g5.objs.size) _
 rw[sz]
 exact hQ g8 ⟨z8,up _ _ D.d1 (k5 _ _ D.d1 D.d5 D.d6 D.d7 pti),⟨x,y,up _ _ D.d2 t5⟩,p1.at fun o e=>up _ o D.d3 e,p2.at fun o e=>up _ o D.d4 e⟩ t8 fun c o c1 c2 c3 c4 e=>up c o c1 (k5 c o c1 c2 c3 c4 e)
theorem zmG{Q:PySem.Fin→Shared→Prop}(hh:A.handled=none)(D:ZpD z TI TO i1 i2)(p:Zp s.heap z TI TO i1 i2 l1 l2 .none k)(q1:s.heap.IsTuple l1 xs)(n1:∀ b∈[z,TI,TO,i1,i2],b≠l1)
  (hx:xs[k]? = none)
  (hE:∀ h' e,(∀ c o,c≠z→c≠TO→c≠i1→c≠i2→s.heap.get? c=some o→h'.get? c=some o)→(∃ o,h'.get? e=some o∧o.cls = .type "StopIteration")→E (.ref e) { s with heap:=h' }) :
  wpAny (model prog w) A (Builtin.«zip.__next__» ⟨[.ref z],[]⟩) Q E s:=by
 obtain ⟨pz,pti,⟨oa,ob,pto⟩,pa1,pa2⟩:=p
 show wpAny _ _ (field (.ref z) 2 >>= _) _ _ _
 refine bnd (wpAny_field pz rfl (x:=.bool false) rfl ?_)
 show wpAny _ _ (field (.ref z) 3 >>= _) _ _ _
 refine bnd (wpAny_field pz rfl (x:=.ref TI) rfl ?_)
 refine bnd (wpAny_seqItems pti rfl ?_)
 show wpAny _ _ (Builtin.SmallTypes.ownedTupleIsFree (.ref z) >>= _) _ _ _
 refine bnd ?_
 unfold Builtin.SmallTypes.ownedTupleIsFree
 refine bnd (wpAny_field pz rfl (x:=.none) rfl (wpAny_pure ?_))
 simp only[if_true]
 refine bnd (wpAny_rule ?_)
 refine bnd (wpAny_field pz rfl (x:=.ref TO) rfl ?_)
 refine bnd (wpAny_setField_rec pz (by simp) fun g1 pz1 sb1=>?_)
 have pz1:IsZip g1 z TI TO .ellipsis:=pz1
 refine bnd ?_
 simp only[List.zipIdx_cons,List.zipIdx_nil,List.forIn_cons,List.forIn_nil]
 refine bnd (wpAny_bind (wpAny_onRaise ?_))
 show wpAny _ _ (Builtin.SmallTypes.nextOf (.ref i1) >>= _) _ _ _
 refine bnd (zrF hh (pa1.extBut sb1.extBut D.d3) (q1.extBut sb1.extBut (Ne.symm (n1 z (by simp)))) hx fun g2 e sb2 he=>?_)
 obtain ⟨oe,e1,e2⟩:=he
 have z2:IsZip g2 z TI TO .ellipsis:=sb2 _ _ D.d3.symm pz1
 have ez:e≠z:=fun q=>by subst q;rw[z2] at e1;cases e1;simp at e2
 exact wpAny_setField_rec z2 (by simp) fun g3 _ sb3=>hE g3 e (fun c o c1 _ c3 _ q=>sb3.extBut _ _ c1 (sb2 _ _ c3 (sb1.extBut _ _ c1 q))) ⟨oe,sb3.extBut _ _ ez e1,e2⟩
end
section
variable{X:Cx}{pins:List (Addr × Obj)}{σ:L2.St}{H:Hp}{s:Shared}
theorem zqL{a b:Addr}{xs:List V}(I:L2.Inv X pins σ H s)(hf:zeL X pins H b)(hs:SqT X.K H a xs):b≠a:=by
 rintro rfl
 rcases hs with (h | ⟨o,h⟩) | ⟨o,its,n,h,_⟩
 ·rw[hf.1] at h;cases h
 ·rw[hf.1] at h;cases h
 ·have hb:=I.mod.kin b o h
  rcases hf.2.2.2.1 with z | z
  ·exact I.ok.noex b o hb z
  ·exact absurd (Nat.lt_of_lt_of_le (Heap.lt_size hb) (Nat.le_trans I.ok.bsz z)) (Nat.lt_irrefl _)
theorem zgV{fp:List Addr}{h':Heap}{o:HO}{a:Addr}{t':Nat}(I:L2.Inv X pins σ H s)(hf:∀ b∈fp,zeL X pins H b)(k:∀ b ob,b∉fp→s.heap.get? b=some ob→h'.get? b=some ob)(hp:s.heap.objs.size≤a)(ht:∀ b ob,s.heap.get? b=some ob→∃ ob',h'.get? b=some ob')
  (new:zcr X.prog X.w (upd H a o) h' a o):L2.Inv X pins σ (upd H a o) { s with heap:=h',toks:=t' }:=by
 have hn:=I.hok.fresh hp
 have nf:∀ b u,H b=some u→b∉fp:=fun b u e z=>by rw[(hf b z).1] at e;cases e
 refine I.call (g':=s.gens) (d':=s.drawn) (ch:=fp) ⟨fun b u q _ _ hx=>k b u hx q,fun b u q _ _ hx=>⟨u.slots,k b u hx q⟩,fun b u q n _=>?_,fun b u q hx=>⟨u,k b u hx q⟩,fun b xs q=>?_,fun b u xs q=>?_,fun b ps q=>⟨#[],?_⟩⟩ (fun b u e=>?_) I.bare
  fun b hb=>⟨(hf b hb).2.2.2.1,(hf b hb).2.1,(hf b hb).2.2.2.2.1,(hf b hb).2.2.2.2.2⟩
 ·rw[zai (Nat.ne_of_lt (Nat.lt_of_lt_of_le (Heap.lt_size q) hp))];exact n
 ·rw[zai (zah q hn)];exact q
 ·rw[zai (zah q hn)];exact q
 ·rw[zai (zah q hn),q];simp
 ·by_cases hb:b=a
  ·subst hb;rw[zaj] at e;cases e;exact new
  ·rw[zai hb] at e
   refine (I.hok b u e).stay (fun c v hc q=>k c v ?_ q) (fun c q=>by rw[zai (zah q hn)];exact q) fun c xs q=>by rw[zai (zah q hn)];exact q
   rcases hc with z | z
   ·rw[z];exact nf b u e
   ·exact nf c _ z
theorem zfe{fp:List Addr}{h':Heap}{t':Nat}(I:L2.Inv X pins σ H s)(hf:∀ b∈fp,zeL X pins H b)(k:∀ b ob,b∉fp→s.heap.get? b=some ob→h'.get? b=some ob):L2.Inv X pins σ H { s with heap:=h',toks:=t' }:=by
 have nf:∀ b u,H b=some u→b∉fp:=fun b u e z=>by rw[(hf b z).1] at e;cases e
 refine I.call (g':=s.gens) (d':=s.drawn) (ch:=fp) ⟨fun b u q _ _ hx=>k b u hx q,fun b u q _ _ hx=>⟨u.slots,k b u hx q⟩,fun b u q n _=>n,fun b u q hx=>⟨u,k b u hx q⟩,fun b xs q=>q,fun b u xs q=>q,fun b ps q=>⟨#[],by rw[q];simp⟩⟩ (fun b u e=>?_) I.bare
  fun b hb=>⟨(hf b hb).2.2.2.1,(hf b hb).2.1,(hf b hb).2.2.2.2.1,(hf b hb).2.2.2.2.2⟩
 refine (I.hok b u e).stay (fun c v hc q=>k c v ?_ q) (fun _ q=>q) fun _ _ q=>q
 rcases hc with z | z
 ·rw[z];exact nf b u e
 ·exact nf c _ z
end
def Itz(K:W.Frag)(a b:Addr):It :=
 ⟨fun i H=>∃ xs ys x y,SqT K H a xs∧SqT K H b ys∧xs[i]? = some x∧ys[i]? = some y,
   fun i H v H'=>∃ p x y,v = .ref p∧H p=none∧H'=upd H p (.tup [x,y])∧(∀ xs,SqT K H a xs→xs[i]? = some x)∧∀ ys,SqT K H b ys→ys[i]? = some y,
   fun i H=>∃ xs,SqT K H a xs∧xs.length≤i⟩
theorem zpw{P:Program}{w:World}{K:W.Frag}{elts:List Expr}{x1}{ps:Pos}{a b z TI TO i1 i2:Addr}(D:ZpD z TI TO i1 i2):zpT P w K (.Tuple elts x1 ps) (Itz K a b) [z,TI,TO,i1,i2] z (fun i h=>Zp h z TI TO i1 i2 a b .none i) where
 mem:=by simp
 obj:=fun i h st c hc=>by
  obtain ⟨s1,s2,⟨oa,ob,s3⟩,⟨o4,s4,_,d4⟩,⟨o5,s5,_,d5⟩⟩:=st
  simp only[List.mem_cons,List.not_mem_nil,or_false] at hc
  rcases hc with rfl | rfl | rfl | rfl | rfl
  ·exact ⟨_,s1,fun v q=>by cases q⟩
  ·exact ⟨_,s2,fun v q=>by cases q⟩
  ·exact ⟨_,s3,fun v q=>by cases q⟩
  ·exact ⟨_,s4,fun v q=>by rw[d4] at q;cases q⟩
  ·exact ⟨_,s5,fun v q=>by rw[d5] at q;cases q⟩
 keep:=fun i h h' st k=>st.keep k
 item:=by
  intro X hP hw hK hc i pins s σ H E I hf st hg
  subst hP hw hK
  obtain ⟨xs,ys,x,y,q1,q2,hx,hy⟩:=hg
  obtain ⟨its,rv,p,hz⟩:=I.tuple q1
  obtain ⟨jts,rw',p',hz'⟩:=I.tuple q2
  obtain ⟨u,hu,ru⟩:=rv.get hx
  obtain ⟨v,hv,rv'⟩:=rw'.get hy
  have hT:s.TypeIs (.ref z) "zip":=⟨_,st.z,rfl⟩
  unfold pyNext
  refine wpAny_bind (wpAny_attempt (wpAny_callSpecial?_slot (name:=Str.ofString "__next__") hT F.slot_zip_next (wpAny_call_entry F.slot_zip_next hT F.entry_zip_next
   (zkw (l1:=a) (l2:=b) (k:=i) (x:=u) (y:=v) D st (show s.heap.IsTuple a its.toArray from p) (show s.heap.IsTuple b jts.toArray from p') (fun c hc=>zqL I (hf c hc) q1) (fun c hc=>zqL I (hf c hc) q2) (by simpa using hu) (by simpa using hv) fun h' st' ht hk=>wpAny_pure ?_) (F.args_zip_next_1 _))))
  refine ⟨_,rfl,wpAny_letOwnedTupleGo_zip st'.z fun h2 hz2 sb=>?_⟩
  have hzp:∀ c∈[z,TI,TO,i1,i2],c≠s.heap.objs.size:=fun c hc q=>by
   obtain ⟨s1,s2,⟨oa,ob,s3⟩,⟨o4,s4,_⟩,⟨o5,s5,_⟩⟩:=st
   simp only[List.mem_cons,List.not_mem_nil,or_false] at hc
   subst q
   rcases hc with rfl | rfl | rfl | rfl | rfl
   ·exact absurd (Heap.lt_size s1) (Nat.lt_irrefl _)
   ·exact absurd (Heap.lt_size s2) (Nat.lt_irrefl _)
   ·exact absurd (Heap.lt_size s3) (Nat.lt_irrefl _)
   ·exact absurd (Heap.lt_size s4) (Nat.lt_irrefl _)
   ·exact absurd (Heap.lt_size s5) (Nat.lt_irrefl _)
  have st2:Zp h2 z TI TO i1 i2 a b .none (i + 1):=by
   refine ⟨hz2,sb.extBut _ _ D.d1 st'.ti,?_,st'.a1.extBut sb.extBut D.d3,st'.a2.extBut sb.extBut D.d4⟩
   obtain ⟨oa,ob,q⟩:=st'.to
   exact ⟨oa,ob,sb.extBut _ _ D.d2 q⟩
  have hk2:∀ c ob,c∉[z,TI,TO,i1,i2]→s.heap.get? c=some ob→h2.get? c=some ob:=fun c ob nc e=>by
   simp only[List.mem_cons,List.not_mem_nil,or_false,not_or] at nc
   exact sb.extBut _ _ nc.1 (hk c ob nc.1 nc.2.2.1 nc.2.2.2.1 nc.2.2.2.2 e)
  have hth:∀ c ob,s.heap.get? c=some ob→∃ ob',h2.get? c=some ob':=fun c ob e=>by
   by_cases nc:c∈[z,TI,TO,i1,i2]
   ·obtain ⟨s1,s2,⟨oa,ob,s3⟩,⟨o4,s4,_⟩,⟨o5,s5,_⟩⟩:=st2
    simp only[List.mem_cons,List.not_mem_nil,or_false] at nc
    rcases nc with rfl | rfl | rfl | rfl | rfl
    ·exact ⟨_,s1⟩
    ·exact ⟨_,s2⟩
    ·exact ⟨_,s3⟩
    ·exact ⟨_,s4⟩
    ·exact ⟨_,s5⟩
   ·exact ⟨ob,hk2 c ob nc e⟩
  have hnew:h2.get? s.heap.objs.size=some { cls:=.type "tuple",data:=.seq #[u,v] }:=sb.extBut _ _ (Ne.symm (hzp z (by simp))) ht
  have IN:L2.Inv X pins σ (upd H s.heap.objs.size (.tup [x,y])) { s with heap:=h2 }:=zgV (s:=s) (t':=s.toks) (o:=.tup [x,y]) I hf hk2 (Nat.le_refl _) hth ⟨by show 2≤sizeLine;decide,[u,v],.cons ru (.cons rv' .nil),0,hnew⟩
  exact ⟨.ref s.heap.objs.size,_,IN,rfl,
   ⟨_,x,y,rfl,I.hok.fresh (Nat.le_refl _),rfl,fun zs q=>by rw[I.tuple_inj q q1];exact hx,fun zs q=>by rw[I.tuple_inj q q2];exact hy⟩,st2,fun c hc=>by rw[zai (hzp c hc)];exact (hf c hc).1⟩
 done:=by
  intro X hP hw hK hc i pins s σ H E I hf st hg
  subst hP hw hK
  obtain ⟨xs,q1,hx⟩:=hg
  obtain ⟨its,rv,p,hz⟩:=I.tuple q1
  have hl:=rv.length
  have hT:s.TypeIs (.ref z) "zip":=⟨_,st.z,rfl⟩
  unfold pyNext
  refine wpAny_bind (wpAny_attempt (wpAny_callSpecial?_slot (name:=Str.ofString "__next__") hT F.slot_zip_next (wpAny_call_entry F.slot_zip_next hT F.entry_zip_next
   (zmG (l1:=a) (l2:=b) (k:=i) (xs:=its.toArray) (I.ok.hd hc) D st (show s.heap.IsTuple a its.toArray from p) (fun c hc=>zqL I (hf c hc) q1) (by simp;omega) fun h' e hk he=>?_) (F.args_zip_next_1 _))))
  obtain ⟨o,ho,hcl⟩:=he
  refine wpAny_bind (wpAny_isInstance (T:="StopIteration") (b:=true) ⟨o,ho,hcl⟩ isSubtype_stop (wpAny_pure ⟨rfl,?_⟩))
  refine zfe (t':=s.toks) I hf fun c ob nc e=>?_
  simp only[List.mem_cons,List.not_mem_nil,or_false,not_or] at nc
  exact hk c ob nc.1 nc.2.2.1 nc.2.2.2.1 nc.2.2.2.2 e
 self:=fun _ _ _ _ _ st h=>wpAny_pyIter_zip st.z h
section
variable{prog:Program}{w:World}{A:Around}{E:Value→Shared→Prop}{s:Shared}
abbrev zt1(h:Heap)(a:Addr):Heap:=h.push { cls:=.type "tuple_iterator",data:=.fields #[.ref a,.int 0 0] }
abbrev zt2(h:Heap)(a b:Addr):Heap:=(zt1 h a).push { cls:=.type "tuple_iterator",data:=.fields #[.ref b,.int 0 0] }
abbrev zt3(h:Heap)(a b:Addr):Heap:=(zt2 h a b).push { cls:=.type "tuple",data:=.seq #[.ref h.objs.size,.ref (zt1 h a).objs.size] }
abbrev zt4(h:Heap)(a b:Addr):Heap:=(zt3 h a b).push { cls:=.type "tuple",data:=.seq #[.none,.none] }
abbrev zt5(h:Heap)(a b:Addr):Heap:=(zt4 h a b).push { cls:=.type "zip",data:=.fields #[.none,.bool false,.bool false,.ref (zt2 h a b).objs.size,.ref (zt3 h a b).objs.size] }
theorem zsJ(a b:Addr)(xs ys:Array Value):Meets (Builtin.«zip.__new__» ⟨[.type "zip",.ref a,.ref b],[]⟩) (fun _ R s=>s.heap.IsTuple a xs∧s.heap.IsTuple b ys∧R (.ok (.ret (.ref (zt4 s.heap a b).objs.size))) { s with heap:=zt5 s.heap a b }) :=
 .of_wp fun prog w A R s h=>by
  obtain ⟨hp,g,d,tk,os⟩:=s
  obtain ⟨k1,k2,h⟩:=h
  have hsub:=sub_zip
  have t1:Heap.IsTuple (Shared.heap ⟨hp,g,d,tk,os⟩) a xs:=k1
  have t2:Heap.IsTuple (Shared.heap ⟨hp.push { cls:=.type "tuple_iterator",data:=.fields #[.ref a,.int 0 0] },g,d,tk,os⟩) b ys:=Heap.IsTuple.push k2 _
  wp_walk using wpAny_pyIter_tuple t1,wpAny_pyIter_tuple t2
  exact ⟨_,rfl,h⟩
theorem zrz{a b:Addr}{xs ys:Array Value}{Q:Value→Shared→Prop}(k1:s.heap.IsTuple a xs)(k2:s.heap.IsTuple b ys)
  (h:∀ h',Zp h' (s.heap.objs.size + 4) (s.heap.objs.size + 2) (s.heap.objs.size + 3) s.heap.objs.size (s.heap.objs.size + 1) a b .none 0→(∀ c o,s.heap.get? c=some o→h'.get? c=some o)→Q (.ref (s.heap.objs.size + 4)) { s with heap:=h' }) :
  wpAny (model prog w) A (call (.type "zip") [.ref a,.ref b]) Q E s:=by
 refine callType_new F.called_zip (by decide) (F.typeCall_zip_2 _ _) (F.newCall_zip_2 _ _) (fun obj=>F.args_object_init_3 obj _ _) F.entry_zip_new (zsJ a b xs ys) ⟨k1,k2,?_⟩
 have e1:(zt1 s.heap a).objs.size=s.heap.objs.size + 1:=Heap.size_push ..
 have e2:(zt2 s.heap a b).objs.size=s.heap.objs.size + 2:=by rw[Heap.size_push,e1]
 have e3:(zt3 s.heap a b).objs.size=s.heap.objs.size + 3:=by rw[Heap.size_push,e2]
 have e4:(zt4 s.heap a b).objs.size=s.heap.objs.size + 4:=by rw[Heap.size_push,e3]
 have g5:(zt5 s.heap a b).get? (zt4 s.heap a b).objs.size=some _:=Heap.get?_push_size _ rfl
 have g4:(zt5 s.heap a b).get? (zt3 s.heap a b).objs.size=some _:=Heap.get?_push_of_some _ (Heap.get?_push_size _ rfl)
 have g3:(zt5 s.heap a b).get? (zt2 s.heap a b).objs.size=some _:=Heap.get?_push_of_some _ (Heap.get?_push_of_some _ (Heap.get?_push_size _ rfl))
 have g2:(zt5 s.heap a b).get? (zt1 s.heap a).objs.size=some _:=Heap.get?_push_of_some _ (Heap.get?_push_of_some _ (Heap.get?_push_of_some _ (Heap.get?_push_size _ rfl)))
 have g1:(zt5 s.heap a b).get? s.heap.objs.size=some _:=Heap.get?_push_of_some _ (Heap.get?_push_of_some _ (Heap.get?_push_of_some _ (Heap.get?_push_of_some _ (Heap.get?_push_size _ rfl))))
 show _∧_
 rw[e2,e3,e4] at g5
 rw[e1,e2] at g3
 rw[e3] at g4
 rw[e1] at g2
 rw[e4]
 exact ⟨⟨_,g5,rfl⟩,h _ ⟨g5,g3,⟨_,_,g4⟩,⟨_,g1,rfl,rfl⟩,⟨_,g2,rfl,rfl⟩⟩ fun c o q=>Heap.get?_push_of_some _ (Heap.get?_push_of_some _ (Heap.get?_push_of_some _ (Heap.get?_push_of_some _ (Heap.get?_push_of_some _ q))))⟩
end
theorem zsw(n:Nat):ZpD (n + 4) (n + 2) (n + 3) n (n + 1):=by
 constructor <;> (intro h;have h:(_:Nat)=(_:Nat):=h;omega)
theorem zsg{K:W.Frag}{G:Hp}{a b:Addr}{vs us:List V}{ds es:List Dt}(hs:SqT K G a vs)(ht:SqT K G b us)(q:za6 K G ds vs)(q':za6 K G es us)(hl:ds.length=es.length):zoB K (Itz K a b) G ((ds.zip es).map fun z=>.tup [z.1,z.2]):=fun i G1 H s1 s2=>by
 have h1:=zaM s2 (zaM s1 hs)
 have h2:=zaM s2 (zaM s1 ht)
 refine ⟨fun d e=>?_,fun h=>⟨vs,h1,?_⟩⟩
 ·rw[List.getElem?_map] at e
  have hi:i < ds.length:=by
   by_cases hi:i < ds.length
   ·exact hi
   ·rw[List.getElem?_eq_none (by rw[List.length_zip];omega)] at e;cases e
  have z1:ds[i]? = some ds[i]:=by simp[hi]
  have z2:es[i]? = some (es[i]'(by omega)):=by simp[show i < es.length by omega]
  obtain ⟨v,e1,e2⟩:=q.get z1
  obtain ⟨u,e3,e4⟩:=q'.get z2
  have ed:d = .tup [ds[i],es[i]'(by omega)]:=by
   rw[(List.getElem?_zip_eq_some (z:=(ds[i],es[i]'(by omega)))).mpr ⟨z1,z2⟩] at e
   exact (Option.some.inj e).symm
  refine ⟨⟨vs,us,v,u,h1,h2,e1,e3⟩,fun x H' y=>?_⟩
  obtain ⟨p,x',y',rfl,hp,rfl,k1,k2⟩:=y
  have kx:=k1 vs h1
  have ky:=k2 us h2
  rw[e1] at kx;rw[e3] at ky
  cases kx;cases ky
  have gr:ze9 G1 H (upd G1 p (.tup [v,u])) (upd H p (.tup [v,u])):=.new s2 hp
  refine ⟨_,gr,?_⟩
  rw[ed]
  unfold Rep
  exact ⟨p,[v,u],rfl,zjT.of zaj,za6.cons ((e2.same s1).same gr.g) (za6.cons ((e4.same s1).same gr.g) za6.nil)⟩
 ·rw[← q.length]
  simpa [hl] using h
section
variable{X:Cx}{C:Cn}{elts:List Expr}{x1:Nat}{pt:Pos}{a b:Expr}{fa fb:De}{p pos:Pos}
end
def zms{α:Type}(p:Int × α):List (Int × α)→List (Int × α)
 | []=>[p]
 | q :: r=>if p.1≤q.1 then p :: q :: r else q :: zms p r
def zhm{α:Type}:List (Int × α)→List (Int × α)
 | []=>[]
 | p :: r=>zms p (zhm r)
theorem zgw{α:Type}(p:Int × α):∀ l:List (Int × α),(zms p l).Perm (p :: l)
 | []=>.refl _
 | q :: r=>by
  unfold zms
  split
  ·exact .refl _
  ·exact ((zgw p r).cons q).trans (.swap p q r)
theorem zd4{α:Type}:∀ l:List (Int × α),(zhm l).Perm l
 | []=>.refl _
 | p :: r=>(zgw p _).trans ((zd4 r).cons p)
theorem zlg{α:Type}(p:Int × α):∀ l:List (Int × α),l.Pairwise (fun a b=>a.1≤b.1)→(zms p l).Pairwise (fun a b=>a.1≤b.1)
 | [],_=>by simp[zms]
 | q :: r,h=>by
  unfold zms
  rw[List.pairwise_cons] at h
  split
  ·rename_i z
   refine List.pairwise_cons.mpr ⟨fun x hx=>?_,List.pairwise_cons.mpr h⟩
   rcases List.mem_cons.mp hx with rfl | hx
   ·exact z
   ·exact Int.le_trans z (h.1 x hx)
  ·rename_i z
   refine List.pairwise_cons.mpr ⟨fun x hx=>?_,zlg p r h.2⟩
   rcases List.mem_cons.mp ((zgw p r).mem_iff.mp hx) with rfl | hx
   ·omega
   ·exact h.1 x hx
theorem zgS{α:Type}:∀ l:List (Int × α),(zhm l).Pairwise (fun a b=>a.1≤b.1)
 | []=>.nil
 | p :: r=>zlg p _ (zgS r)
theorem zq9{α:Type}:∀{a b:List (Int × α)},a.Perm b→(a.map (·.1)).Nodup→a.Pairwise (fun x y=>x.1≤y.1)→b.Pairwise (fun x y=>x.1≤y.1)→a=b
 | [],b,p,_,_,_=>p.nil_eq
 | x :: r,b,p,hn,ha,hb=>by
  cases b with
  | nil=>exact absurd p.length_eq (by simp)
  | cons y t =>
   have hx:x∈y :: t:=p.mem_iff.mp (.head _)
   have hy:y∈x :: r:=p.mem_iff.mpr (.head _)
   rw[List.map_cons,List.nodup_cons] at hn
   have e:x=y:=by
    rcases List.mem_cons.mp hy with h' | h'
    ·exact h'.symm
    ·rcases List.mem_cons.mp hx with h | h
     ·exact h
     ·have a1:=(List.pairwise_cons.mp ha).1 y h'
      have a2:=(List.pairwise_cons.mp hb).1 x h
      have e1:x.1=y.1:=by omega
      exact absurd (List.mem_map.mpr ⟨y,h',e1.symm⟩) hn.1
   subst e
   rw[zq9 (List.Perm.cons_inv p) hn.2 (List.pairwise_cons.mp ha).2 (List.pairwise_cons.mp hb).2]
def byK{α:Type}(ks:List Int)(l:List α):List α:=(zhm (ks.zip l)).map (·.2)
theorem zjC{α β:Type}{F:α→β→Prop}{p:Int × α}{q:Int × β}(hp:p.1=q.1∧F p.2 q.2):∀{l:List (Int × α)}{r:List (Int × β)},Paired (fun x y=>x.1=y.1∧F x.2 y.2) l r→Paired (fun x y=>x.1=y.1∧F x.2 y.2) (zms p l) (zms q r)
 | _,_,.nil=>.cons hp .nil
 | x :: l,y :: r,.cons h t=>by
  unfold zms
  rw[hp.1,h.1]
  split
  ·exact .cons hp (.cons h t)
  ·exact .cons h (zjC hp t)
theorem zh6{α β:Type}{F:α→β→Prop}:∀{l:List (Int × α)}{r:List (Int × β)},Paired (fun x y=>x.1=y.1∧F x.2 y.2) l r→Paired (fun x y=>x.1=y.1∧F x.2 y.2) (zhm l) (zhm r)
 | _,_,.nil=>.nil
 | _,_,.cons h t=>zjC h (zh6 t)
theorem zlj{α β:Type}{F:α→β→Prop}:∀(ks:List Int){l:List α}{r:List β},Paired F l r→Paired (fun x y=>x.1=y.1∧F x.2 y.2) (ks.zip l) (ks.zip r)
 | [],_,_,_=>by simpa using Paired.nil
 | k :: ks,_,_,.nil=>by simpa using Paired.nil
 | k :: ks,_,_,.cons h t=>.cons ⟨rfl,h⟩ (zlj ks t)
theorem zl2{α β:Type}{F:α→β→Prop}:∀{l:List (Int × α)}{r:List (Int × β)},Paired (fun x y=>x.1=y.1∧F x.2 y.2) l r→Paired F (l.map (·.2)) (r.map (·.2))
 | _,_,.nil=>.nil
 | _,_,.cons h t=>.cons h.2 (zl2 t)
theorem zlB{α β:Type}{F:α→β→Prop}(ks:List Int){l:List α}{r:List β}(h:Paired F l r):Paired F (byK ks l) (byK ks r):=zl2 (zh6 (zlj ks h))
theorem zdK{K:W.Frag}{G:Hp}:∀{ds:List Dt}{vs:List V},za6 K G ds vs ↔ Paired (Rep K G) ds vs
 | [],vs=>⟨fun h=>by rw[h.nil_inv];exact .nil,fun h=>by cases h;exact za6.nil⟩
 | d :: ds,vs=>⟨fun h=>by
   obtain ⟨v,r,rfl,h1,h2⟩:=h.cons_inv
   exact .cons h1 (zdK.mp h2),fun h=>by
   cases h with
   | cons h1 h2=>exact za6.cons h1 (zdK.mpr h2)⟩
theorem zoN{K:W.Frag}{G:Hp}(ks:List Int){ds:List Dt}{vs:List V}(h:za6 K G ds vs):za6 K G (byK ks ds) (byK ks vs):=zdK.mpr (zlB ks (zdK.mp h))
theorem zqO{α:Type}{ks:List Int}{l:List α}(h:ks.length=l.length):(byK ks l).length=l.length:=by
 unfold byK
 rw[List.length_map,(zd4 _).length_eq,List.length_zip,h,Nat.min_self]
section
variable{X:Cx}{pins:List (Addr × Obj)}{σ:L2.St}{H:Hp}{s:Shared}
theorem zot{fp:List Addr}{h':Heap}{o:HO}{a:Addr}{t':Nat}(I:L2.Inv X pins σ H s)(hf:∀ b∈fp,zeL X pins H b)(ha:a∈fp)(k:∀ b ob,b∉fp→s.heap.get? b=some ob→h'.get? b=some ob)
  (new:zcr X.prog X.w (upd H a o) h' a o):L2.Inv X pins σ (upd H a o) { s with heap:=h',toks:=t' }:=by
 have hn:=(hf a ha).1
 have nf:∀ b u,H b=some u→b∉fp:=fun b u e z=>by rw[(hf b z).1] at e;cases e
 refine I.call (g':=s.gens) (d':=s.drawn) (ch:=fp) ⟨fun b u q _ _ hx=>k b u hx q,fun b u q _ _ hx=>⟨u.slots,k b u hx q⟩,fun b u q n hx=>?_,fun b u q hx=>⟨u,k b u hx q⟩,fun b xs q=>?_,fun b u xs q=>?_,fun b ps q=>⟨#[],?_⟩⟩ (fun b u e=>?_) I.bare
  fun b hb=>⟨(hf b hb).2.2.2.1,(hf b hb).2.1,(hf b hb).2.2.2.2.1,(hf b hb).2.2.2.2.2⟩
 ·rw[zai (show b≠a from fun z=>hx (by rw[z];exact ha))];exact n
 ·rw[zai (zah q hn)];exact q
 ·rw[zai (zah q hn)];exact q
 ·rw[zai (zah q hn),q];simp
 ·by_cases hb:b=a
  ·subst hb;rw[zaj] at e;cases e;exact new
  ·rw[zai hb] at e
   refine (I.hok b u e).stay (fun c v hc q=>k c v ?_ q) (fun c q=>by rw[zai (zah q hn)];exact q) fun c xs q=>by rw[zai (zah q hn)];exact q
   rcases hc with z | z
   ·rw[z];exact nf b u e
   ·exact nf c _ z
theorem zs5{A':Around}{xe':Value→Shared→Prop}(I:L2.Inv X pins σ H s)(h1:A'.frames=X.A.frames)(h2:A'.handled=X.A.handled):L2.Inv { X with A:=A',xe:=xe' } pins σ H s :=
 ⟨⟨I.ok.mod,I.ok.kind,I.ok.glob,I.ok.blt,I.ok.above,I.ok.inj,I.ok.has,I.ok.cab,fun z=>h2.trans (I.ok.hd z),h1.trans I.ok.frames,I.ok.stk,I.ok.exf,I.ok.bs,I.ok.bsz,I.ok.noex,I.ok.exfs,I.ok.funs,I.ok.frf⟩,I.os,I.bare,I.base,I.loc,I.cell,I.free,I.freeC,I.pin,I.hok,I.len⟩
theorem zrd{A':Around}{xe':Value→Shared→Prop}(I:L2.Inv { X with A:=A',xe:=xe' } pins σ H s)(h1:A'.frames=X.A.frames)(h2:A'.handled=X.A.handled):L2.Inv X pins σ H s :=
 ⟨⟨I.ok.mod,I.ok.kind,I.ok.glob,I.ok.blt,I.ok.above,I.ok.inj,I.ok.has,I.ok.cab,fun z=>h2.symm.trans (I.ok.hd z),h1.symm.trans I.ok.frames,I.ok.stk,I.ok.exf,I.ok.bs,I.ok.bsz,I.ok.noex,I.ok.exfs,I.ok.funs,I.ok.frf⟩,I.os,I.bare,I.base,I.loc,I.cell,I.free,I.freeC,I.pin,I.hok,I.len⟩
end
end PV
end
section
namespace PV
open PySem PySem.Spec L2 PyProof.Rows
section
variable{X:Cx}{pins:List (Addr × Obj)}{σ:L2.St}{H:Hp}{s:Shared}
theorem zuf{kS:Addr}{o o':Obj}{zch:List (Addr × Obj)}{h':Heap}{t':Nat}(J:L2.Inv X (pins ++ (kS,o) :: zch) σ H s)(hf:zeL X (pins ++ zch) H kS)(hs:∀ b ob,b≠kS→s.heap.get? b=some ob→h'.get? b=some ob)(ho:h'.get? kS=some o')(hd:∀ v,o'.data≠.cell v) :
  L2.Inv X (pins ++ (kS,o') :: zch) σ H { s with heap:=h',toks:=t' }:=by
 have J1:L2.Inv X (pins ++ zch) σ H s:=J.pins_of fun p hp=>by
  refine J.pin p (List.mem_append_right _ ?_)
  rcases List.mem_append.mp hp with z | z
  ·exact List.mem_append_left _ z
  ·exact List.mem_append_right _ (List.mem_cons_of_mem _ z)
 have J2:L2.Inv X (pins ++ zch) σ H { s with heap:=h',toks:=t' }:=zfe (fp:=[kS]) J1 (fun b hb=>by rw[List.mem_singleton.mp hb];exact hf) fun b ob nb e=>hs b ob (fun z=>nb (by simp[z])) e
 refine J2.pins_of fun p hp=>?_
 rcases List.mem_append.mp hp with z | z
 ·exact J2.pin p (List.mem_append_right _ (List.mem_append_left _ z))
 ·rcases List.mem_cons.mp z with rfl | z
  ·exact ⟨ho,hf.1,hf.2.1,hf.2.2.1,hd⟩
  ·exact J2.pin p (List.mem_append_right _ (List.mem_append_right _ z))
theorem zud{pins pins':List (Addr × Obj)}{H':Hp}{b:Addr}(h:zeL X pins H b)(hn:H' b=none)(hp:∀ p∈pins',p∈pins∨p.1≠b):zeL X pins' H' b :=
 ⟨hn,h.2.1,h.2.2.1,h.2.2.2.1,h.2.2.2.2.1,fun p q=>by
  rcases List.mem_append.mp q with z | z
  ·exact h.2.2.2.2.2 p (List.mem_append_left _ z)
  ·rcases hp p z with y | y
   ·exact h.2.2.2.2.2 p (List.mem_append_right _ y)
   ·exact y⟩
variable{kS a:Addr}{kz:List Int}{vs:List Value}{xs:List V}{Θ : Hp→Prop}{e1:Nat}{A:Around}{E:Value→Shared→Prop}{P:PySem.Fin→Shared→Prop}
abbrev lo(ys:Array Value)(n:Nat):Obj:=seqObj "list" ys n
theorem zpY{st:SortSt}{keys:Array Value}{e:Nat}(J:L2.Inv X (pins ++ (kS,lo keys e) :: [(a,lo #[] e1)]) σ H s)(hka:kS≠a)(fk:zeL X pins H kS)(fa:zeL X pins H a)(hv:zbk xs vs)(hk:IntsAre keys.toList kz)(hlen:kz.length=vs.length)(h64:vs.length < 64)(hnd:kz.Nodup)
  (hp:(arrOf st).Perm (keys.zip vs.toArray)) (hs:SortedTo (arrOf st) (arrOf st).size) (hfl:failedOf st=none)
  (h:∀ h' tk,L2.Inv X pins σ (upd H a (.lst (byK kz xs))) { s with heap:=h',toks:=tk }→P (.done (.ret .none)) { s with heap:=h',toks:=tk }) :
  wpAny (model X.prog X.w) A (ksk_tail a false e1 (.ref kS) st) P E s:=by
 have nk:=(J.pin (kS,lo keys e) (by simp)).1
 have na:=(J.pin (a,lo #[] e1) (by simp)).1
 have hsz:keys.size=vs.length:=by
  have q:=hk.length
  rw[Array.length_toList] at q
  omega
 have hsz2:(arrOf st).size=vs.length:=by rw[hp.size_eq,Array.size_zip,hsz,List.size_toArray,Nat.min_self]
 have s1:=Heap.SameBut.update s.heap kS (Obj.mapSeq fun _=>(#[]:Array Value))
 have na1:(s.heap.update kS (Obj.mapSeq fun _=>(#[]:Array Value))).get? a=some (lo #[] e1):=(s1.2 a hka.symm).trans na
 have s2:=Heap.SameBut.update (s.heap.update kS (Obj.mapSeq fun _=>(#[]:Array Value))) a (Obj.mapSeq fun _=>(arrOf st).map (·.2))
 obtain ⟨c2,hc2⟩ : ∃ c2,((s.heap.update kS (Obj.mapSeq fun _=>(#[]:Array Value))).update a (Obj.mapSeq fun _=>(arrOf st).map (·.2))).get? a=some (lo ((arrOf st).map (·.2)) c2):=⟨_,get?_update_seq na1 fun _=>(arrOf st).map (·.2)⟩
 obtain ⟨ps,q1,q2,q3⟩:=ksk_out (b:=false) hk hp hs
 have hmap:∀(l:List Int)(r:List Value),l.length=r.length→(l.zip r).map (·.1)=l:=fun l r hl=>by
  rw[List.map_fst_zip];omega
 have eo:ps=zhm (kz.zip vs):=by
  refine zq9 (q1.trans (zd4 _).symm) ?_ (by simpa using q3) (zgS _)
  have z:=q1.map Prod.fst
  rw[z.nodup_iff]
  rw[show (kz.zip vs).map Prod.fst=kz from hmap kz vs hlen]
  exact hnd
 have eout:((arrOf st).map (·.2)).toList=byK kz vs:=by
  have z:((if false=true then ((arrOf st).map (·.2)).reverse else (arrOf st).map (·.2)):Array Value).toList=ps.map Prod.snd:=q2
  rw[if_neg Bool.false_ne_true] at z
  rw[z,eo];rfl
 have J0:L2.Inv X pins σ H s:=J.unpinned
 unfold ksk_tail
 try dsimp only
 refine wpAny_bind (listUpdate_at nk rfl ?_ (by rw[hsz,sizeLine_eq];omega) (Nat.zero_le _))
 refine wpAny_bind (wpAny_letGo (wpAny_bind (seqEpoch_at na1 rfl ?_)))
 refine wpAny_bind (listUpdate_at na1 rfl ?_ (Nat.zero_le _) (by simp only[Bool.false_eq_true,if_false,Array.size_map];rw[hsz2,sizeLine_eq];omega))
 rw[hfl]
 simp only[bne_self_eq_false,Bool.false_eq_true,if_false]
 refine wpAny_pure (h _ s.toks (zot (fp:=[kS,a]) (s:=s) (t':=s.toks) J0 (fun b hb=>?_) (by simp) (fun b ob nb q=>?_) ⟨?_,byK kz vs,c2,zlB kz hv,?_⟩))
 ·simp only[List.mem_cons,List.not_mem_nil,or_false] at hb
  rcases hb with rfl | rfl
  ·exact fk
  ·exact fa
 ·simp only[List.mem_cons,List.not_mem_nil,or_false,not_or] at nb
  exact (s2.2 b nb.2).trans ((s1.2 b nb.1).trans q)
 ·have hl:=hv.length
  rw[zqO (by omega),zcV];omega
 ·rw[← eout,Array.toArray_toList];exact hc2
theorem ztX{keys:Array Value}{e:Nat}(J:L2.Inv X (pins ++ (kS,lo keys e) :: [(a,lo #[] e1)]) σ H s)(hka:kS≠a)(fk:zeL X pins H kS)(fa:zeL X pins H a)(hv:zbk xs vs)(hk:IntsAre keys.toList kz)(hlen:kz.length=vs.length)(h64:vs.length < 64)(hnd:kz.Nodup)
  (h:∀ h' tk,L2.Inv X pins σ (upd H a (.lst (byK kz xs))) { s with heap:=h',toks:=tk }→P (.done (.ret .none)) { s with heap:=h',toks:=tk }) :
  wpAny (model X.prog X.w) A (ksk_end a false vs.toArray e1 (.ref kS) keys) P E s:=by
 have hsz:keys.size=vs.length:=by
  have q:=hk.length
  rw[Array.length_toList] at q
  omega
 have hzs:(keys.zip vs.toArray).size=vs.length:=by rw[Array.size_zip,hsz,List.size_toArray,Nat.min_self]
 unfold ksk_end
 try dsimp only
 simp only[Bool.false_eq_true,if_false]
 by_cases h2:vs.toArray.size < 2
 ·rw[if_pos h2,if_pos h2]
  refine wpAny_bind (wpAny_pure ?_)
  rw[StateT.run_pure]
  refine wpAny_bind (wpAny_pure ?_)
  try dsimp only
  refine zpY (st:=SortSt.mk' general' (keys.zip vs.toArray) #[] 7 none) J hka fk fa hv hk hlen h64 hnd (Array.Perm.refl _) (fun i j hij hj=>?_) rfl h
  have hj2:j < (keys.zip vs.toArray).size:=hj
  rw[hzs] at hj2
  rw[List.size_toArray] at h2
  have:i=j:=by omega
  subst this
  exact Int.le_refl _
 ·rw[if_neg h2,if_neg h2]
  rw[List.size_toArray] at h2
  rw[ksk_kind hk (by rw[hsz];omega)]
  refine wpAny_bind (wpAny_pure (wpAny_bind (wpAny_mono (wpS_sortRuns (a₀:=keys.zip vs.toArray) (st:=SortSt.mk' oneType' (keys.zip vs.toArray) #[] 7 none)
   (Q:=fun _ st'=>(arrOf st').Perm (keys.zip vs.toArray)∧failedOf st'=none∧SortedTo (arrOf st') (keys.zip vs.toArray).size)
   (ksk_intKeys hk) ⟨Array.Perm.refl _,rfl,rfl,rfl⟩ (by rw[hzs];omega) (by rw[hzs];exact h64) fun st' a1 a2 a3=>⟨a1,a2,a3⟩) ?_ fun _ _ e=>e)))
  rintro ⟨⟨⟩,st'⟩ s' ⟨rfl,hp,hf,hs⟩
  try dsimp only
  exact zpY J hka fk fa hv hk hlen h64 hnd hp (by rw[hp.size_eq];exact hs) hf h
theorem zsR{f:Value}(J:L2.Inv X (pins ++ (kS,lo #[] 0) :: [(a,lo #[] e1)]) σ H s)(hka:kS≠a)(fk:zeL X pins H kS)(fa:zeL X pins H a)(hv:zbk xs vs)(hlen:kz.length=vs.length)(h64:vs.length < 64)(hnd:kz.Nodup)(hθ : Θ H)
  (turn:∀(i:Nat)(u:Value)(k:Int),vs[i]? = some u→kz[i]? = some k→∀(pins':List (Addr × Obj))(s':Shared)(H':Hp),L2.Inv X pins' σ H' s'→Θ H'→wpAny (model X.prog X.w) A (call f [u]) (fun r s2=>∃ t H2,r = .int k t∧L2.Inv X pins' σ H2 s2∧Θ H2) (fun _ _=>False) s')
  (h:∀ H2 s2,Θ H2→H2 a=none→L2.Inv X pins σ (upd H2 a (.lst (byK kz xs))) s2→P (.done (.ret .none)) s2) :
  wpAny (model X.prog X.w) A (ksk_rest a f false vs.toArray e1 (.ref kS)) P E s:=by
 unfold ksk_rest
 refine wpAny_bind (wpAny_rule ?_)
 first
  | rw[List.forIn_toArray]
  | (rw[← Array.forIn_toList];simp only[List.toList_toArray])
 refine wpAny_bind (ksk_fold (fun i s'=>∃ H' kA e,Θ H'∧L2.Inv X (pins ++ (kS,lo kA e) :: [(a,lo #[] e1)]) σ H' s'∧IntsAre kA.toList (kz.take i)) vs 0 s ⟨H,#[],0,hθ,J,by simpa using IntsAre.nil⟩ ?step ?done)
 case step =>
  rintro j x s' hx ⟨H',kA,e,hθ',J',hk⟩
  simp only[Nat.zero_add] at hk ⊢
  have hj:j < vs.length:=(List.getElem?_eq_some_iff.mp hx).1
  obtain ⟨k,hkj⟩ : ∃ k,kz[j]? = some k:=⟨_,List.getElem?_eq_getElem (by omega)⟩
  have hz:kA.size≤vs.length:=by
   have q:=hk.length
   rw[Array.length_toList,List.length_take] at q
   omega
  refine wpAny_bind (wpAny_attempt (wpAny_mono (turn j x k hx hkj _ s' H' J' hθ') (fun v s'' he=>?_) fun _ _ z=>z.elim))
  obtain ⟨t,H2,rfl,J2,hθ2⟩:=he
  try dsimp only
  have nk:=J2.pin (kS,lo kA e) (by simp)
  obtain ⟨c2,hc2⟩ : ∃ c2,(s''.heap.update kS (Obj.mapSeq (·.push (.int k t)))).get? kS=some (lo (kA.push (.int k t)) c2):=⟨_,get?_update_seq nk.1 (·.push (.int k t))⟩
  have s1:=Heap.SameBut.update s''.heap kS (Obj.mapSeq (·.push (.int k t)))
  refine wpAny_bind (listUpdate_at nk.1 rfl ?_ (by rw[sizeLine_eq];omega) (Nat.le_trans (Nat.le_of_eq (Array.size_push ..)) (by rw[sizeLine_eq];omega)))
  refine wpAny_pure ⟨rfl,H2,kA.push (.int k t),c2,hθ2,zuf (t':=s''.toks) J2 (zud fk nk.2.1 fun p hp=>?_) (fun b ob nb q=>(s1.2 b nb).trans q) hc2 (fun v z=>by cases z),?_⟩
  ·rcases List.mem_append.mp hp with z | z
   ·exact .inl z
   ·exact .inr (by rw[List.mem_singleton.mp z];exact hka.symm)
  ·have ek:kz.take (j + 1)=kz.take j ++ [k]:=by rw[List.take_add_one,hkj];simp
   have ea:(kA.push (Value.int k t)).toList=kA.toList ++ [Value.int k t]:=by simp
   rw[ea,ek];exact ksk_snoc hk
 case done =>
  rintro s' ⟨H',kA,e,hθ',J',hk⟩
  have hk':IntsAre kA.toList kz:=by
   rw[show kz.take (0 + vs.length)=kz from List.take_of_length_le (by omega)] at hk
   exact hk
  have nk:=J'.pin (kS,lo kA e) (by simp)
  have na:=J'.pin (a,lo #[] e1) (by simp)
  try dsimp only
  refine wpAny_bind (listItems_at nk.1 rfl ?_)
  exact ztX J' hka (zud fk nk.2.1 fun p hp=>.inl hp) (zud fa na.2.1 fun p hp=>.inl hp) hv hk' hlen h64 hnd fun h' tk IN=>h H' _ hθ' na.2.1 IN
end
section
variable{X:Cx}{pins:List (Addr × Obj)}{σ:L2.St}{H:Hp}{s:Shared}
theorem zmr{l f:Addr}{xs:List V}{vs:List Value}{kz:List Int}{Θ : Hp→Prop}{Q:VK}(I:L2.Inv X pins σ H s)(hl:s.heap.IsList l vs.toArray)(hv:zbk xs vs)(hlen:kz.length=vs.length)(h64:vs.length < 64)(hnd:kz.Nodup)(hθ : Θ H)
  (turn:∀(i:Nat)(u:Value)(k:Int),vs[i]? = some u→kz[i]? = some k→∀(pins':List (Addr × Obj))(s':Shared)(H':Hp),L2.Inv X pins' σ H' s'→Θ H'→wpAny (model X.prog X.w) X.A.in1.in1 (call (.ref f) [u]) (fun r s2=>∃ t H2,r = .int k t∧L2.Inv X pins' σ H2 s2∧Θ H2) (fun _ _=>False) s')
  (h:∀ H2 a,Θ H2→H a=none→H2 a=none→Q (.ref a) (upd H2 a (.lst (byK kz xs)))) :
  wpAny (model X.prog X.w) X.A (call (.builtin "sorted") [.ref l] [(Str.ofString "key",.ref f)]) (EP X pins σ Q) X.xe s:=by
 refine call_function_entry_kw kind_sorted plain_sorted entry_sorted (ksk_s1 _ _) ?_
 unfold Builtin.«sorted»
 refine wpAny_bind (m:=checkCount "sorted" 1 1 _) (wpAny_pure (wpAny_bind (collect_list hl ?_ (by rw[sizeLine_eq];omega))))
 refine wpAny_bind (wpAny_newList ?_ (by rw[sizeLine_eq];omega))
 have z1:((s.heap.push (seqObj "list" #[] 0)).update s.heap.objs.size (Obj.mapSeq (· ++ vs.toArray))).objs.size=s.heap.objs.size + 1:=by
  rw[Heap.size_update,size_push']
 have ka:(((s.heap.push (seqObj "list" #[] 0)).update s.heap.objs.size (Obj.mapSeq (· ++ vs.toArray))).push (seqObj "list" vs.toArray 0)).get? (s.heap.objs.size + 1)=some (seqObj "list" vs.toArray 0):=by
  rw[← z1];exact Heap.get?_push_size _ rfl
 have k0:∀ b o,s.heap.get? b=some o→(((s.heap.push (seqObj "list" #[] 0)).update s.heap.objs.size (Obj.mapSeq (· ++ vs.toArray))).push (seqObj "list" vs.toArray 0)).get? b=some o:=fun b o q=>by
  have lt:b < s.heap.objs.size:=Heap.lt_size q
  refine Heap.get?_push_of_some _ ?_
  rw[Heap.get?_update_ne _ _ _ _ (Nat.ne_of_lt lt)]
  exact Heap.get?_push_of_some _ q
 generalize hg:(((s.heap.push (seqObj "list" #[] 0)).update s.heap.objs.size (Obj.mapSeq (· ++ vs.toArray))).push (seqObj "list" vs.toArray 0))=g0 at ka k0
 have z2:g0.objs.size=s.heap.objs.size + 2:=by rw[← hg,size_push',z1]
 show wpAny _ _ _ _ _ { s with heap:=g0 }
 rw[z1]
 refine wpAny_bind (wpAny_holding (wpAny_call_entry_kw slot_list_sort ⟨_,ka,rfl⟩ entry_list_sort ?body (ksk_l1 _ _)))
 case body =>
  show wpAny (model X.prog X.w) X.A.in1.in1 (Builtin.«list.sort» ⟨[.ref (s.heap.objs.size + 1)],[(Str.ofString "key",.ref f)]⟩) _ _ _
  rw[ksk_t1]
  have sb:=Heap.SameBut.update g0 (s.heap.objs.size + 1) (Obj.mapSeq fun _=>(#[]:Array Value))
  obtain ⟨e1,ka1⟩ : ∃ e1,(g0.update (s.heap.objs.size + 1) (Obj.mapSeq fun _=>(#[]:Array Value))).get? (s.heap.objs.size + 1)=some (seqObj "list" #[] e1):=⟨_,get?_update_seq ka fun _=>#[]⟩
  unfold ksk_tree
  refine wpAny_bind (listItems_at ka rfl (wpAny_bind (listUpdate_at ka rfl ?_ (by rw[List.size_toArray,sizeLine_eq];omega) (Nat.zero_le _))))
  refine wpAny_bind (seqEpoch_at ka1 rfl (wpAny_bind (wpAny_newTuple ?_ (by show vs.length≤_;rw[sizeLine_eq];omega))))
  refine wpAny_bind (wpAny_newList ?_ (Nat.zero_le _))
  refine wpAny_holding ?_
  have z3:((g0.update (s.heap.objs.size + 1) (Obj.mapSeq fun _=>(#[]:Array Value))).push (seqObj "tuple" vs.toArray 0)).objs.size=s.heap.objs.size + 3:=by rw[size_push',Heap.size_update,z2]
  have k1:∀ b o,s.heap.get? b=some o→(((g0.update (s.heap.objs.size + 1) (Obj.mapSeq fun _=>(#[]:Array Value))).push (seqObj "tuple" vs.toArray 0)).push (seqObj "list" #[] 0)).get? b=some o:=fun b o q =>
   Heap.get?_push_of_some _ (Heap.get?_push_of_some _ ((sb.2 b (Nat.ne_of_lt (Nat.lt_succ_of_lt (Heap.lt_size q)))).trans (k0 b o q)))
  have ga:(((g0.update (s.heap.objs.size + 1) (Obj.mapSeq fun _=>(#[]:Array Value))).push (seqObj "tuple" vs.toArray 0)).push (seqObj "list" #[] 0)).get? (s.heap.objs.size + 1)=some (seqObj "list" #[] e1):=Heap.get?_push_of_some _ (Heap.get?_push_of_some _ ka1)
  have gk:(((g0.update (s.heap.objs.size + 1) (Obj.mapSeq fun _=>(#[]:Array Value))).push (seqObj "tuple" vs.toArray 0)).push (seqObj "list" #[] 0)).get? (s.heap.objs.size + 3)=some (seqObj "list" #[] 0):=by
   rw[← z3];exact Heap.get?_push_size _ rfl
  show wpAny _ _ (ksk_rest (s.heap.objs.size + 1) (.ref f) false vs.toArray e1 (.ref ((g0.update (s.heap.objs.size + 1) (Obj.mapSeq fun _=>(#[]:Array Value))).push (seqObj "tuple" vs.toArray 0)).objs.size)) _ _ { s with heap:=((g0.update (s.heap.objs.size + 1) (Obj.mapSeq fun _=>(#[]:Array Value))).push (seqObj "tuple" vs.toArray 0)).push (seqObj "list" #[] 0) }
  rw[z3]
  generalize ((g0.update (s.heap.objs.size + 1) (Obj.mapSeq fun _=>(#[]:Array Value))).push (seqObj "tuple" vs.toArray 0)).push (seqObj "list" #[] 0)=g3 at k1 ga gk
  have I3:L2.Inv X pins σ H { s with heap:=g3 }:=I.kept (t':=s.toks) k1
  have la:s.heap.objs.size≤s.heap.objs.size + 1:=Nat.le_add_right ..
  have lk:s.heap.objs.size≤s.heap.objs.size + 3:=Nat.le_add_right ..
  have fa:zeL X pins H (s.heap.objs.size + 1):=I.fpOk la (I.hok.fresh la)
  have fk:zeL X pins H (s.heap.objs.size + 3):=I.fpOk lk (I.hok.fresh lk)
  have J:L2.Inv X (pins ++ (s.heap.objs.size + 3,lo #[] 0) :: [(s.heap.objs.size + 1,lo #[] e1)]) σ H { s with heap:=g3 }:=I3.pins_of fun p hp=>by
   rcases List.mem_append.mp hp with z | z
   ·exact I3.pin p (List.mem_append_right _ z)
   ·rcases List.mem_cons.mp z with rfl | z
    ·exact ⟨gk,fk.1,fk.2.1,fk.2.2.1,fun v z=>by cases z⟩
    ·rw[List.mem_singleton.mp z]
     exact ⟨ga,fa.1,fa.2.1,fa.2.2.1,fun v z=>by cases z⟩
  refine zsR (Θ := Θ) J (fun z=>absurd (Nat.add_left_cancel z) (by decide)) fk fa hv hlen h64 hnd hθ turn fun H2 s2 t2 n2 IN=>⟨_,rfl,?_⟩
  exact wpAny_pure ⟨_,rfl,.ref (s.heap.objs.size + 1),_,IN,rfl,h H2 _ t2 fa.1 n2⟩
end
def zee(F:FD):List Dt→Option (List Int)
 | []=>some []
 | d :: r=>match F [.val d] with
  | .ok (.int k,_)=>(zee F r).map (k :: ·)
  | _=>none
theorem zh7{F:FD}:∀{ds:List Dt}{ks:List Int},zee F ds=some ks→ks.length=ds.length
 | [],ks,h=>by simp[zee] at h;subst h;rfl
 | d :: r,ks,h=>by
  unfold zee at h
  split at h
  ·simp only[Option.map_eq_some_iff] at h
   obtain ⟨k',h1,rfl⟩:=h
   simp[zh7 h1]
  ·cases h
theorem zh9{F:FD}:∀{ds:List Dt}{ks:List Int}{i:Nat}{k:Int}{d:Dt},zee F ds=some ks→ks[i]? = some k→ds[i]? = some d→∃ b,F [.val d] = .ok (.int k,b)
 | [],ks,i,k,d,h,e1,e2=>by simp at e2
 | d0 :: r,ks,i,k,d,h,e1,e2=>by
  unfold zee at h
  split at h
  ·rename_i k0 b0 ef
   simp only[Option.map_eq_some_iff] at h
   obtain ⟨k',h1,rfl⟩:=h
   cases i with
   | zero=>simp at e1 e2;subst e1;subst e2;exact ⟨_,ef⟩
   | succ i=>exact zh9 (i:=i) h1 (by simpa using e1) (by simpa using e2)
  ·cases h
def zgP:List Int→Bool
 | []=>true
 | a :: r=>!r.contains a && zgP r
theorem zjk:∀{l:List Int},zgP l=true→l.Nodup
 | [],_=>.nil
 | a :: r,h=>by
  unfold zgP at h
  rw[Bool.and_eq_true] at h
  refine List.nodup_cons.mpr ⟨fun z=>?_,zjk h.2⟩
  have:=h.1
  simp[z] at this
def zjG(F:FD)(fa:De):DN:=fun ρ=>(fa ρ).bind fun a=>match a.1 with
 | .lst ds=>match zee F ds with
  | some ks=>if (decide (ds.length < 64) && zgP ks)=true then .ok (byK ks ds,a.2) else .no
  | none=>.no
 | _=>.no
theorem zlA{d:Dt}{bs:List B}:∀{ρ:Ev}{k:Nat},zf0 [.d d] bs k ρ = ρ
 | [],_=>rfl
 | o :: r,k=>by
  show (match zdO [.d d] k with | some j=>bs[j]? | none=>o) :: zf0 [.d d] bs (k + 1) r=_
  rw[zlA (ρ:=r)];rfl
section
variable{X:Cx}{C:Cn}{CX:CXT}{k k':Nat}{Fd:FD}{x:Str}{p pf kp pos:Pos}{a:Expr}{fa:De}
theorem zpt(D:Dfn false X.prog X.w X.K X.mg X.base CX C.xv k x [false] Fd)(hr:zdf (k' + 2) X.A)(hk:k≤k')(hx:zcm CX { X with A:=X.A.in1.in1,xe:=fun _ _=>False } (fun _ _ _=>False))(hg:Gl X "sorted")(hm:X.mg "sorted"=none)(ha:JE X C a fa)(hgf:Gl X x:=by rfl)(hdb:(x == ("__debug__" : Str))=false:=by decide)
  (hs:starEach [a] X.env=(false,eval a X.env) :: starEach [] X.env:=by rfl) (he:backTo pos (starEach [a] X.env)=(false,eval a X.env) :: backTo pos (starEach [] X.env):=by rfl) (hplain:(backTo pos (starEach [a] X.env)).any (·.1)=false:=by rfl)
  (hall:(backToKw pos (keywordEach [⟨some "key",.Name x pf,kp⟩] X.env)).all (·.1.isSome)=true:=by rfl) (hkw:(backToKw pos (keywordEach [⟨some "key",.Name x pf,kp⟩] X.env)).any (·.1.isNone)=false:=by rfl)
  (hks:(backToKw pos (keywordEach [⟨some "key",.Name x pf,kp⟩] X.env)).filterMap (·.1)=[Str.ofString "key"]:=by rfl) :
  JN X C (.Call (.Name "sorted" p) [a] [⟨some "key",.Name x pf,kp⟩] pos) (zjG Fd fa):=by
 obtain ⟨f,fd,ps,h1,h2,h3,h4,h5⟩:=D.ex
 intro pins s σ H Q I ⟨G,w,ρ,r,pp⟩
 refine wpAny_Call_Name_kw (zf8 I hg hm boot_sorted ?_)
 refine callWith_kw (thn (zao ha zaF hs pos pins s σ H (fun vs H1=>∃ G1 w1 ad xs ds ks ρ1,vs=[.ref ad]∧zb9 G H w G1 H1 w1∧Rel X.K C G1 w1 ρ1 σ H1∧H1 ad=some (.lst xs)∧za6 X.K G1 ds xs∧zee Fd ds=some ks∧ds.length < 64∧ks.Nodup∧kN X.K C σ Q G1 H1 w1 (byK ks ds,ρ1)) I ?_) fun us s1 ⟨vs,H1,I1,r1,q1⟩=>?_) he hplain hall hkw
 ·refine ⟨G,w,ρ,r,?_⟩
  unfold zjG at pp
  unfold dA dA0
  cases e:fa ρ with
  | ok z =>
   obtain ⟨d,ρ1⟩:=z
   rw[e] at pp
   intro vs G1 H1 w1 s1 r1 q
   obtain ⟨v,t,rfl,q1,q2⟩:=q.cons_inv
   rw[q2.nil_inv]
   have p1:=zcu.step (κ:=fun G H w=>kN X.K C σ Q G H w) zeU s1 pp
   cases d with
   | lst ds =>
    simp only[R.bind_ok] at p1
    split at p1
    ·rename_i ks ek
     split at p1
     ·rename_i hl
      rw[Bool.and_eq_true] at hl
      obtain ⟨ad,zs,rfl,m1,m2⟩:=zbz q1
      exact ⟨G1,w1,ad,zs,ds,ks,ρ1,rfl,s1,r1,r1.gh _ _ m1,m2,ek,of_decide_eq_true hl.1,zjk hl.2,p1⟩
     ·exact False.elim p1
    ·exact False.elim p1
   | _=>exact False.elim p1
  | er n=>rw[e] at pp;exact pp
  | no=>rw[e] at pp;exact pp
 ·obtain ⟨G1,w1,ad,xs,ds,ks,ρ1,rfl,st1,rel1,hH,hreps,ek,hl,hnd,kk⟩:=q1
  obtain ⟨u,rfl,ru⟩:=zfO r1
  cases ru
  refine thn (zrB (nm:=some "key") (kpos:=kp) (zkB (v:=.ref f) (pos:=pf) hgf h2 rfl hdb) zrQ pos pins s1 σ H1 (fun vs H2=>vs=[.ref f]∧H2=H1) I1 ⟨rfl,rfl⟩) fun ws s2 ⟨zs,H2,I2,r2,e2,e3⟩=>?_
  subst e2;subst e3
  obtain ⟨u,rfl,ru⟩:=zfO r2
  cases ru
  rw[hks]
  show wpAny _ _ (call (.builtin "sorted") [.ref ad] [(Str.ofString "key",.ref f)]) _ _ _
  obtain ⟨zz,its,n,rv,hle,eo⟩:=I2.lstM hH
  have hld:=hreps.length
  have hlk:=zh7 ek
  refine zmr (xs:=xs) (vs:=its) (kz:=ks) (Θ := fun H3=>∃ G3 w3,zb9 G1 H2 w1 G3 H3 w3∧Rel X.K C G3 w3 ρ1 σ H3) I2 ⟨_,eo,rfl,n,rfl⟩ rv (by omega) (by omega) hnd ⟨G1,w1,.refl _ _ _,rel1⟩ ?_ ?_
  ·intro i u kk' hu hki pins' s' H' I' ⟨G3,w3,st3,rel3⟩
   have hi:i < ds.length:=by
    have:=(List.getElem?_eq_some_iff.mp hki).1
    omega
   have hd:ds[i]? = some ds[i]:=by simp[hi]
   obtain ⟨xv,hx1,hx2⟩:=hreps.get hd
   obtain ⟨u',hu1,hu2⟩:=rv.get hx1
   rw[hu] at hu1;cases hu1
   obtain ⟨bb,hF⟩:=zh9 ek hki hd
   have hx3:=hx2.same st3.g
   have IA:L2.Inv { X with A:=X.A.in1.in1,xe:=fun _ _=>False } pins' σ H' s':=zs5 I' rfl rfl
   have hrun:=zqr (X:={ X with A:=X.A.in1.in1,xe:=fun _ _=>False }) (CX:=CX) (us:=[u]) (vs:=[xv]) (E:=fun _ _ _=>False) (Q:=fun v H4=>v = .int kk'∧∃ G4 w4,zb9 G1 H2 w1 G4 H4 w4∧Rel X.K C G4 w4 ρ1 σ H4) h1 ((hr.in1.in1).mono hk) h4 .nil hx IA (.cons hu2 .nil) ?_
   ·refine wpAny_mono hrun (fun v s4 hq=>?_) fun _ _ z=>z
    obtain ⟨v4,H4,I4,rv4,e4,G4,w4,st4,rel4⟩:=hq
    subst e4
    obtain ⟨t,rfl⟩:=rv4
    exact ⟨t,H4,rfl,zrd I4 rfl rfl,G4,w4,st4,rel4⟩
   ·rw[List.append_nil]
    refine ⟨G3,wIn w3 [.d ds[i]],[.val ds[i]],rfl,rfl,⟨rel3.gh,fun b e=>rel3.wg b fun z=>e (by unfold wIn;rw[z];rfl),fun b e=>rel3.wh b fun z=>e (by unfold wIn;rw[z];rfl),rfl,fun j b v e1 e2=>?_⟩,?_⟩
    ·cases j with
     | zero=>simp at e1 e2;subst e1;subst e2;exact hx3
     | succ j=>simp at e1
    ·rw[hF]
     intro v G4 H4 w4 s4 pb q
     obtain ⟨r',st'⟩:=rel3.back (as:=[.d ds[i]]) (vs:=[xv]) (bs:=[.val ds[i]]) (ks:=[false]) rfl ⟨xv,[],rfl,hx3,rfl⟩ rfl rfl s4 pb
     rw[zlA] at r'
     exact ⟨zaE (K:=X.K) (G:=G4) q,G4,_,st3.trans st',r'⟩
  ·intro H3 b ⟨G3,w3,st3,rel3⟩ hb0 hb3
   have gr:ze9 G3 H3 G3 (upd H3 b (.lst (byK ks xs))):=.newH rel3.gh hb3
   exact kk b _ G3 _ w3 (st3.trans gr.step) (rel3.grow gr) hb0 zaj (rel3.gh.free hb3) (zdU rel3 hb3) (zoN ks (hreps.same st3.g))
end
end PV
end
section
namespace PV
open PySem PySem.Spec L2
def zsU(K:W.Frag)(H0:Hp)(D:Addr)(G H:Hp)(w:Wn)(dss:List (List Dt))(as:List Addr):Prop :=
 (D :: as).Nodup∧Paired (fun b ds=>H0 b=none∧G b=none∧w b=none∧∃ us,H b=some (.lst us)∧za6 K G ds us) as dss
theorem zsU.step{K:W.Frag}{H0 G H G' H':Hp}{w w':Wn}{D:Addr}{dss:List (List Dt)}{as:List Addr}(q:zsU K H0 D G H w dss as)(s:zb9 G H w G' H' w'):zsU K H0 D G' H' w' dss as :=
 ⟨q.1,zfF (fun b ds ⟨h1,h2,h3,us,h4,h5⟩=>by
  obtain ⟨k1,k2,k3⟩:=s.keep h2 h3 h4
  exact ⟨h1,k1,k2,us,k3,h5.same s.g⟩) q.2⟩
theorem zhO{α β:Type}{F:α→β→Prop}:∀{l:List α}{r:List β},Paired F l r→l.length=r.length
 | _,_,.nil=>rfl
 | _,_,.cons _ t=>by simp[zhO t]
theorem zsU.len{K:W.Frag}{H0 G H:Hp}{w:Wn}{D:Addr}{dss:List (List Dt)}{as:List Addr}(q:zsU K H0 D G H w dss as):as.length=dss.length:=zhO q.2
section
variable{X:Cx}{C:Cn}
end
section
variable{X:Cx}{C:Cn}{k:Expr}{fk:De}{pos ps py sp apos:Pos}{x y:Str}
end
theorem zsM:bootBuiltins "len"=some (.builtin "len"):=PySem.boot_len
theorem ztu:bootBuiltins "max"=some (.builtin "max"):=PyProof.Rows.boot_max
theorem zpX:bootBuiltins "min"=some (.builtin "min"):=PyProof.Rows.boot_min
theorem zsH:bootBuiltins "all"=some (.builtin "all"):=PyProof.Rows.boot_all
theorem zcW:bootBuiltins "isinstance"=some (.builtin "isinstance"):=PyProof.Rows.boot_isinstance
theorem zcM:bootBuiltins "tuple"=some (.type "tuple"):=by decide +kernel
theorem zhi:bootBuiltins "list"=some (.type "list"):=by decide +kernel
theorem zsG:bootBuiltins "int"=some (.type "int"):=by decide +kernel
theorem zkr:bootBuiltins "bool"=some (.type "bool"):=by decide +kernel
section
variable{X:Cx}{C:Cn}{a b e:Expr}{fa fb:De}{p pos:Pos}
theorem zgI(hm:X.mg "len"=none)(ha:JE X C e fa)(hg:Gl X "len":=by rfl)(hs:starEach [e] X.env=(false,eval e X.env) :: starEach [] X.env:=by rfl)(hpl:(backTo pos (starEach [] X.env)).any (·.1)=false:=by rfl):JE X C (.Call (.Name "len" p) [e] [] pos) (dFn zde (dA fa dA0)) :=
 zf2 zsE ztr (zfZ.or zj6) hg hm zsM (zao ha zaF hs) (by decide) (by decide) hs hpl
theorem zrS(hc:X.calm=true)(hm:X.mg "max"=none)(ha:JE X C a fa)(hb:JE X C b fb)(hg:Gl X "max":=by rfl)(hs:starEach [a,b] X.env=(false,eval a X.env) :: starEach [b] X.env:=by rfl)(hs2:starEach [b] X.env=(false,eval b X.env) :: starEach [] X.env:=by rfl)(hpl:(backTo pos (starEach [b] X.env)).any (·.1)=false:=by rfl):JE X C (.Call (.Name "max" p) [a,b] [] pos) (dFn zin (dA fa (dA fb dA0))) :=
 zf2 zqD zqY (znm hc) hg hm ztu (zao ha (zao hb zaF hs2) hs) (by decide) (by decide) hs hpl
theorem zqx(hc:X.calm=true)(hm:X.mg "min"=none)(ha:JE X C a fa)(hb:JE X C b fb)(hg:Gl X "min":=by rfl)(hs:starEach [a,b] X.env=(false,eval a X.env) :: starEach [b] X.env:=by rfl)(hs2:starEach [b] X.env=(false,eval b X.env) :: starEach [] X.env:=by rfl)(hpl:(backTo pos (starEach [b] X.env)).any (·.1)=false:=by rfl):JE X C (.Call (.Name "min" p) [a,b] [] pos) (dFn zfK (dA fa (dA fb dA0))) :=
 zf2 zqP zqV (znj hc) hg hm zpX (zao ha (zao hb zaF hs2) hs) (by decide) (by decide) hs hpl
theorem zl4(hc:X.calm=true)(hm:X.mg "min"=none)(ha:JE X C e fa)(hg:Gl X "min":=by rfl)(hs:starEach [e] X.env=(false,eval e X.env) :: starEach [] X.env:=by rfl)(hpl:(backTo pos (starEach [] X.env)).any (·.1)=false:=by rfl):JE X C (.Call (.Name "min" p) [e] [] pos) (dFn zdI (dA fa dA0)) :=
 zf2 zqE zre (zo2 hc) hg hm zpX (zao ha zaF hs) (by decide) (by decide) hs hpl
theorem zpI(hc:X.calm=true)(hm:X.mg "all"=none)(ha:JE X C e fa)(hg:Gl X "all":=by rfl)(hs:starEach [e] X.env=(false,eval e X.env) :: starEach [] X.env:=by rfl)(hpl:(backTo pos (starEach [] X.env)).any (·.1)=false:=by rfl):JE X C (.Call (.Name "all" p) [e] [] pos) (dFn zlT (dA fa dA0)) :=
 zf2 ztn zrP (zoc hc) hg hm zsH (zao ha zaF hs) (by decide) (by decide) hs hpl
theorem zcT(hm:X.mg "tuple"=none)(ha:JE X C e fa)(hg:Gl X "tuple":=by rfl)(hs:starEach [e] X.env=(false,eval e X.env) :: starEach [] X.env:=by rfl)(hpl:(backTo pos (starEach [] X.env)).any (·.1)=false:=by rfl):JE X C (.Call (.Name "tuple" p) [e] [] pos) (dFn zbn (dA fa dA0)) :=
 zn5 zpG zpz zir hg hm zcM (zao ha zaF hs) (by decide) (by decide) hs hpl
theorem zqn(hm:X.mg "list"=none)(ha:JE X C e fa)(hg:Gl X "list":=by rfl)(hs:starEach [e] X.env=(false,eval e X.env) :: starEach [] X.env:=by rfl)(hpl:(backTo pos (starEach [] X.env)).any (·.1)=false:=by rfl):JN X C (.Call (.Name "list" p) [e] [] pos) (zfq zgU (dA fa dA0)) :=
 znK zrc zra zjU hg hm zhi (zao ha zaF hs) (by decide) (by decide) hs hpl
end
theorem zdq{nw:Bool}{P:Program}{w:World}{K:W.Frag}{mg:Str→Option Value}{base:Heap}{CX:CXT}{xv:Nat→Value}{k:Nat}{x qual:Str}{st:Stmt}{f:Addr}{fd:FuncData}{ps:List Str}{ks:List Bool}(hl:ps.length=ks.length)(U:Fun K x qual st f fd)(hm:mg x=some (.ref f))(hb:zfA K fd ps []) :
  Dfn nw P w K mg base CX xv k x ks (fun _=>.no) :=
 ⟨f,fd,ps,⟨fun vs H Q E ⟨_,_,_,h,_⟩=>h.trans hl.symm,fun _ _ _ _ _ _ _ _ _ _ _ _ _ ⟨_,_,_,_,_,_,h⟩=>False.elim h⟩,hm,U.kp,hb,fun bs h=>absurd rfl h⟩
theorem zhY{k:Nat}{A:Around}(hr:zdf k A):A.units + 64 < cLine:=by have:=hr.un;omega
theorem zba{names:List (Str × NameKind)}(h:(names.all fun y=>y.2 != .cell)=true):∀ y∈names,y.2≠.cell:=fun y hy z=>by
 rw[List.all_eq_true] at h
 have:=h y hy
 rw[z] at this;simp at this
theorem zbM{names:List (Str × NameKind)}(h:(names.all fun y=>y.2 != .local || (names.lookup y.1 == some .local))=true):∀ y∈names,y.2 = .local→names.lookup y.1=some .local:=fun y hy z=>by
 rw[List.all_eq_true] at h
 have:=h y hy
 rw[z] at this;simpa using this
theorem zbq{names:List (Str × NameKind)}{env:Env}(h:(names.all fun y=>y.2 != .free || (env.kindOf y.1 == some .cell || env.kindOf y.1 == some .free))=true):∀ y∈names,y.2 = .free→env.kindOf y.1=some .cell∨env.kindOf y.1=some .free:=fun y hy z=>by
 rw[List.all_eq_true] at h
 have:=h y hy
 rw[z] at this;simpa using this
end PV
end
section
namespace PV
open PySem PySem.Spec L2 PyProof.Rows
theorem zn6{P:Program}{w:World}{H:Hp}{h h':Heap}(x:HOk P w H h)(k:∀ b u o,H b=some u→h.get? b=some o→h'.get? b=some o):HOk P w H h':=fun a o e =>
 (x a o e).stay (fun b u hb q=>by
  rcases hb with rfl | hb
  ·exact k _ _ _ e q
  ·exact k _ _ _ hb q) (fun _ z=>z) fun _ _ z=>z
theorem zto{P:Program}{w:World}{H:Hp}{h:Heap}{a:Addr}{o:HO}(x:zcr P w H h a o):∃ u,h.get? a=some u:=by
 induction o with
 | lst xs=>obtain ⟨_,_,_,_,e⟩:=x;exact ⟨_,e⟩
 | tup xs=>obtain ⟨_,_,_,_,e⟩:=x;exact ⟨_,e⟩
 | dK kvs=>obtain ⟨_,_,_,_,_,_,_,e,_⟩:=x;exact ⟨_,e⟩
 | dT kvs=>obtain ⟨_,_,_,_,_,_,_,e,_⟩:=x;exact ⟨_,e⟩
 | set S n=>obtain ⟨_,_,_,_,e,_⟩:=x;exact ⟨_,e⟩
 | ins C dx fs=>obtain ⟨_,_,_,e,_⟩:=x;exact ⟨_,e⟩
 | own y=>exact x
 | xd fs=>obtain ⟨_,⟨_,_,_,e,_⟩,_⟩:=x;exact ⟨_,e⟩
 | met f y=>exact ⟨_,x⟩
 | rng lo hi=>obtain ⟨_,_,_,e⟩:=x;exact ⟨_,e⟩
 | frz ob u ih=>exact ⟨_,x.1⟩
 | tbl ps=>exact ⟨_,x⟩
 | ext φ => exact x.2.1
def CXf(P:Program)(w:World):CXT:=fun outer H s E e s' =>
 ∃(l:Addr)(cls a0:Value)(B:Heap)(H':Hp),e = .ref l∧s'.os=s.os∧AllBare s'.gens∧Un (frs outer) [] H H' s.heap s'.heap∧HOk P w H' s'.heap∧Heap.FlyingW B outer l cls a0 s'.heap ∧
  (∀ b o,s.heap.get? b=some o→b∉frs outer→∃ u,B.get? b=some u)∧(∀ b u,H' b=some u→∃ o,B.get? b=some o)∧s.heap.get? l=none∧E cls none H'
def CXm:CXT:=fun _ H s E e s'=>∃(l:Addr)(cls:Value)(args:List Value)(h':Heap),e = .ref l∧s' = { s with heap:=h' }∧Heap.MadeExcOf s.heap h' l cls args∧E cls none H
def CXe(P:Program)(w:World):CXT:=fun outer H s E e s'=>CXf P w outer H s E e s'∨CXm outer H s E e s'
theorem CXf.imp{P:Program}{w:World}{outer:List Env}{H:Hp}{s s':Shared}{E E':XK}{e:Value}(h:CXf P w outer H s E e s')(k:∀ u a H',E u a H'→E' u a H'):CXf P w outer H s E' e s':=by
 obtain ⟨l,cls,a0,B,H',h1,h2,h3,h4,h5,h6,h7,h8,h9,h10⟩:=h
 exact ⟨l,cls,a0,B,H',h1,h2,h3,h4,h5,h6,h7,h8,h9,k _ _ _ h10⟩
theorem CXe.none{P:Program}{w:World}{outer:List Env}{H:Hp}{s s':Shared}{e:Value}(h:CXe P w outer H s (fun _ _ _=>False) e s'):False:=by
 rcases h with ⟨_,_,_,_,_,_,_,_,_,_,_,_,_,_,z⟩ | ⟨_,_,_,_,_,_,_,z⟩ <;> exact z
theorem zly{env:Env}{outer:List Env}{L:Addr}(h:env.frame=some L):frs (env :: outer)=L :: frs outer:=by
 unfold frs;rw[List.filterMap_cons,h]
theorem ziU{P:Program}{w:World}{base:Heap}{A:Around}{env:Env}{outer:List Env}{s0 s1 s2:Shared}{H0 H1:Hp}{E E':XK}{e:Value}
  (hf:env.frame=some env.locals) (hfr:A.frames=some (env :: outer)) (hL:s0.heap.objs.size≤env.locals) (os1:s1.os=s0.os) (bare1:AllBare s1.gens) (u01:Un (frs outer) [] H0 H1 s0.heap s1.heap) (frf:∀ b∈frs outer,H0 b=none)
  (fun1:s1.heap.FunFrames base (env :: outer)) (hok1:HOk P w H1 s1.heap) (fr1:∀ b∈frs (env :: outer),H1 b=none) (hx:CXe P w (env :: outer) H1 s1 E' e s2) (hE:∀ u a H',E' u a H'→E u a H') {M:Model} {EE:Value→Shared→Prop} :
  wpAny M A (leaving env e) (fun _ s3=>CXf P w outer H0 s0 E e s3) EE s2:=by
 have inS:∀{b:Addr}{o:Obj},s0.heap.get? b=some o→b∉frs outer→b∉frs (env :: outer):=fun {b o} e1 h1 h2=>by
  rw[zly hf] at h2
  rcases List.mem_cons.mp h2 with z | z
  ·have:=Heap.lt_size e1
   rw[z] at this
   exact absurd (Nat.lt_of_lt_of_le this hL) (Nat.lt_irrefl _)
  ·exact h1 z
 have newS:∀{b:Addr},s1.heap.get? b=none→s0.heap.get? b=none:=fun {b} e1=>by
  cases q:s0.heap.get? b with
  | none=>rfl
  | some o=>obtain ⟨o',e2⟩:=u01.there b o q (by simp);rw[e1] at e2;cases e2
 have outS:∀{b:Addr},b∈frs outer→b∈frs (env :: outer):=fun {b} h=>by rw[zly hf];exact List.mem_cons_of_mem _ h
 rcases hx with ⟨l,cls,a0,B,H',rfl,os,bare,un,hok,fl,hb1,hb2,hnw,he⟩ | ⟨l,cls,args,h',rfl,rfl,hm,he⟩
 ·refine wpAny_leaves_onW (base:=B) hfr hf fl fun h3 fl3 up=>?_
  have at3:∀{b:Addr}{u:Obj},B.get? b=some u→s2.heap.get? b=some u∧h3.get? b=some u:=fun {b u} e=>⟨fl.1 b u e,fl3.1 b u e⟩
  have slot:∀ b o,s0.heap.get? b=some o→b∈frs outer→∃ sl,h3.get? b=some { o with slots:=sl }:=fun b o e1 hb=>by
   obtain ⟨sl1,e2⟩:=u01.slot b o e1 (frf b hb) hb (by simp)
   obtain ⟨sl2,e3⟩:=un.slot b _ e2 (u01.free b o e1 (frf b hb) (by simp)) (outS hb) (by simp)
   obtain ⟨_,o4,e4,d4⟩:=fl.2.2.1.mem (b:=b) (outS hb)
   rw[e3] at e4;cases e4
   obtain ⟨sl3,e5⟩:=up b _ e3 d4
   exact ⟨sl3,e5⟩
  have hb1':∀ b o,s0.heap.get? b=some o→b∉frs outer→∃ u,B.get? b=some u:=fun b o e1 hb=>by
   obtain ⟨o1,e2⟩:=u01.there b o e1 (by simp)
   exact hb1 b o1 e2 (inS e1 hb)
  refine ⟨l,cls,a0,B,H',rfl,os.trans os1,bare,⟨fun b o e1 n hb _=>?_,fun b o e1 n hb _=>slot b o e1 hb,fun b o e1 n _=>?_,fun b o e1 _=>?_,fun b xs q=>un.tups b xs (u01.tups b xs q),fun b o u q=>un.frzs b o u (u01.frzs b o u q),fun b ps q=>?_⟩,zn6 hok fun b u o q1 q2=>?_,fl3,hb1',hb2,newS hnw,hE _ _ _ he⟩
  ·have e2:=u01.keep b o e1 n hb (by simp)
   have n2:=u01.free b o e1 n (by simp)
   have e3:=un.keep b o e2 n2 (inS e1 hb) (by simp)
   obtain ⟨u,hu⟩:=hb1' b o e1 hb
   obtain ⟨q1,q2⟩:=at3 hu
   rw[e3] at q1;cases q1;exact q2
  ·obtain ⟨o1,e2⟩:=u01.there b o e1 (by simp)
   exact un.free b o1 e2 (u01.free b o e1 n (by simp)) (by simp)
  ·by_cases hb:b∈frs outer
   ·obtain ⟨sl,e2⟩:=slot b o e1 hb;exact ⟨_,e2⟩
   ·obtain ⟨u,hu⟩:=hb1' b o e1 hb;exact ⟨u,(at3 hu).2⟩
  ·obtain ⟨m1,e1⟩:=u01.tbls b ps q
   obtain ⟨m2,e2⟩:=un.tbls b _ e1
   exact ⟨m1 ++ m2,by rw[e2,Array.append_assoc]⟩
  ·obtain ⟨o',ho'⟩:=hb2 b u q1
   obtain ⟨z1,z2⟩:=at3 ho'
   rw[q2] at z1;cases z1;exact z2
 ·
  let fs:=frs (env :: outer)
  have hin:∀ x∈env :: outer,∀ a,x.frame=some a→a∈fs:=fun x hx a ha=>List.mem_filterMap.mpr ⟨x,hx,ha⟩
  refine wpAny_leaves_madeW (base:=W.hideAll s1.heap fs) (h:=s1.heap) hfr hf (fun b o q=>W.of_hideAll _ q) (W.funFrames_hide fun1 hin) hm fun h3 t fl3 _ _ up=>?_
  have at3:∀{b:Addr}{u:Obj},s1.heap.get? b=some u→b∉fs→h3.get? b=some u:=fun {b u} e n=>fl3.1 b u (W.hideAll_get _ e n)
  have slot:∀ b o,s0.heap.get? b=some o→b∈frs outer→∃ sl,h3.get? b=some { o with slots:=sl }:=fun b o e1 hb=>by
   obtain ⟨sl1,e2⟩:=u01.slot b o e1 (frf b hb) hb (by simp)
   obtain ⟨_,o4,e4,d4⟩:=fun1.mem (b:=b) (outS hb)
   rw[e2] at e4;cases e4
   obtain ⟨sl3,e5⟩:=up b _ (hm.keeps _ _ e2) d4
   exact ⟨sl3,e5⟩
  have hb1':∀ b o,s0.heap.get? b=some o→b∉frs outer→∃ u,(W.hideAll s1.heap fs).get? b=some u:=fun b o e1 hb=>by
   obtain ⟨o1,e2⟩:=u01.there b o e1 (by simp)
   exact ⟨o1,W.hideAll_get _ e2 (inS e1 hb)⟩
  have tr:∀ b u,H1 b=some u→b∉fs:=fun b u e z=>by rw[fr1 b z] at e;cases e
  refine ⟨l,cls,.ref t,W.hideAll s1.heap fs,H1,rfl,os1,bare1,⟨fun b o e1 n hb _=>at3 (u01.keep b o e1 n hb (by simp)) (inS e1 hb),fun b o e1 n hb _=>slot b o e1 hb,fun b o e1 n _=>u01.free b o e1 n (by simp),fun b o e1 _=>?_,u01.tups,u01.frzs,u01.tbls⟩,zn6 hok1 fun b u o q1 q2=>at3 q2 (tr b u q1),fl3,hb1',fun b u q=>?_,newS hm.new,hE _ _ _ he⟩
  ·by_cases hb:b∈frs outer
   ·obtain ⟨sl,e2⟩:=slot b o e1 hb;exact ⟨_,e2⟩
   ·obtain ⟨u,hu⟩:=hb1' b o e1 hb;exact ⟨u,fl3.1 b u hu⟩
  ·obtain ⟨o,ho⟩:=zto (hok1 b u q)
   exact ⟨o,W.hideAll_get _ ho (tr b u q)⟩
theorem zaI{P:Program}{w:World}{K:W.Frag}{mg:Str→Option Value}{base:Heap}:zqw (CXe P w) P w K mg base:=fun N qual scope f cdv A outer s H E E' hk hE pins σ H1 s1 e s2 I hx=>by
 have I':=I
 refine wpAny_mono (ziU (base:=base) (s0:=s) (H0:=H) (E:=E) rfl I.ok.frames (Nat.le_refl _) I.os I.bare I.base I.ok.frf I.stack I.hok I.stkFree hx hE) (fun _ s3 h=>.inl h) fun _ _ h=>h
def zgD(n:Nat)(f:DA):DS:=fun ρ=>(f ρ).bind fun a=>if zem a.1=true then .er n else .no
structure Xcls(K:W.Frag)(C:Addr):Prop where
 ex:∃ bm N nm q bs hdct sn sub ab col dd k0 k1 k2 k3 k5,K.lookup C=some (excClassObj nm q C N bs bm hdct sn sub ab col dd k0 k1 k2 k3 k5 "ValueError.__new__")∧(∀ h:Heap,K.In h→∃ mN,h.Ns N mN∧mN "__init__"=none)∧(∀ h:Heap,K.In h→OwnTail h [.type "ValueError",.type "Exception",.type "BaseException",.type "object"] bm)
section
variable{X:Cx}{C:Cn}{x:Str}{Cc:Addr}{np cpos pos:Pos}{e:Expr}{es:List Expr}{fa:DA}{n:Nat}{P:Program}{w:World}
theorem zig(hx:zcm (CXe P w) X (EXc C))(hc:X.calm=true)(hcl:Xcls X.K Cc)(hm:X.mg x=some (.ref Cc))(hxv:C.xv n = .ref Cc)(ha:JA X C (e :: es) fa)(hg:Gl X x:=by rfl)(hd:(x == ("__debug__" : Str))=false:=by decide)
  (he:starEach (e :: es) X.env=(false,eval e X.env) :: starEach es X.env:=by rfl) (hpl:(backTo cpos (starEach es X.env)).any (·.1)=false:=by rfl):JS X C (.Raise (some (.Call (.Name x np) (e :: es) [] cpos)) none pos) (zgD n fa):=by
 intro pins s σ H D I ⟨G,w1,ρ,r,p⟩
 obtain ⟨tl,N,nm,q,bs,hdct,sn,sub,ab,col,dd,k0,k1,k2,k3,k5,lk,hN,hT⟩:=hcl.ex
 obtain ⟨mN,hNs,hni⟩:=hN _ I.mod.kin
 refine wpAny_Raise_call_subT (C:=Cc) (nm:=nm) (q:=q) (N:=N) (bs:=bs) (bm:=tl) (hdct:=hdct) (sn:=sn) (sub:=sub) (ab:=ab) (col:=col) (dd:=dd) (k0:=k0) (k1:=k1) (k2:=k2) (k3:=k3) (k5:=k5)
  F.excBase_ValueError (mN:=mN) ((hT _ I.kIn).hasType F.excBase_ValueError.hasBase) (I.ok.hd hc) (by rw[he];show (false || (backTo cpos (starEach es X.env)).any (·.1))=false;rw[hpl];rfl) hni (zfL I hg hm ⟨rfl,?_⟩ hd)
 suffices hh:wpAny (model X.prog X.w) X.A (spliced (backTo cpos (starEach (e :: es) X.env))) (fun vs s₂=>([]:List (Str × Value))=[]∧vs.length≤sizeLine∧s₂.heap.get? Cc=some (excClassObj nm q Cc N bs tl hdct sn sub ab col dd k0 k1 k2 k3 k5 "ValueError.__new__")∧s₂.heap.Ns N mN∧OwnTail s₂.heap [.type "ValueError",.type "Exception",.type "BaseException",.type "object"] tl ∧
   ∀ h' a,Heap.MadeExcOf s₂.heap h' a (.ref Cc) vs→X.xe (.ref a) { s₂ with heap:=h' }) X.xe s by
  rw[he] at hh ⊢
  exact Calls.evalArgs_plain hh
 refine thn (ha cpos pins s σ H (fun vs H2=>vs.length≤sizeLine∧EXc C (.ref Cc) none H2) I ?_) fun us s2 ⟨vs,H2,I2,rv,hz,hE⟩=>⟨rfl,by rw[← rv.length];exact hz,I2.kIn _ _ lk,hNs.keeps I2.bk,hT _ I2.kIn,fun h' a hm'=>?_⟩
 ·refine ⟨G,w1,ρ,r,?_⟩
  have p':zcu C.ex (kS X.K C D G H w1) ((fa ρ).bind fun a=>if zem a.1=true then R.er n else .no):=p
  cases ef:fa ρ with
  | ok z =>
   rw[ef,R.bind_ok] at p'
   intro vs G' H' w' st rel q1
   by_cases hf:zem z.1=true
   ·rw[if_pos hf] at p'
    exact ⟨by rw[← q1.length];exact zhh hf,rfl,n,hxv.symm,p',G',w',r.en.trans st⟩
   ·rw[if_neg hf] at p';exact p'.elim
  | er m=>rw[ef] at p';exact p'
  | no=>rw[ef] at p';exact p'.elim
 ·exact hx pins σ H2 s2 (.ref a) _ I2 (.inr ⟨a,.ref Cc,us,h',rfl,rfl,hm',hE⟩)
end
abbrev bmV:List Value:=[.type "ValueError",.type "Exception",.type "BaseException",.type "object"]
structure Xin(K:W.Frag)(D:Addr):Prop where
 exc:W.excIn K D bmV "ValueError.__new__"=true
 ga:W.findIn K (.ref D) "__getattribute__"=some (some (.builtin "BaseException.__getattribute__"))
 gh:W.findIn K (.ref D) "__getattr__"=some none
 gc:W.findIn K (.ref D) "__class__"=some (some (.builtin "object.__class__"))
 mb:W.subIn K (.ref D) (.type "BaseException")=some true
theorem ze8{K:W.Frag}{C:Addr}(q:W.excIn K C bmV "ValueError.__new__"=true):∃ bm N nm qn bs hd sn sub ab col dd k0 k1 k2 k3 k5,
  K.lookup C=some (excClassObj nm qn C N bs bm hd sn sub ab col dd k0 k1 k2 k3 k5 "ValueError.__new__")∧W.tailIn K bmV bm=true∧W.nsOkIn K N=true∧W.nsIn K N "__init__"=some none:=by
 unfold W.excIn at q
 split at q
 ·rename_i dd cd sl lk
  split at q
  ·rename_i C2 bm k0 k1 k2 k3 mk k5 em es
   simp only[Bool.and_eq_true,beq_iff_eq,Bool.not_eq_true'] at q
   obtain ⟨⟨⟨⟨⟨e1,e2⟩,e3⟩,e4⟩,e5⟩,e6⟩:=q
   subst e1 e2
   obtain ⟨nm,bs,mro,ns,qn,hd,sn,sub,ab,col,del⟩:=cd
   obtain ⟨sll⟩:=sl
   dsimp only at em es e3 e5 e6
   subst em e3 es
   exact ⟨bm,ns,nm,qn,bs,hd,sn,sub,ab,col,dd,k0,k1,k2,k3,k5,lk,e4,e5,e6⟩
  ·cases q
 ·cases q
theorem Xin.cls{K:W.Frag}{C:Addr}(x:Xin K C):Xcls K C:=by
 obtain ⟨bm,N,nm,qn,bs,hd,sn,sub,ab,col,dd,k0,k1,k2,k3,k5,lk,e4,e5,e6⟩:=ze8 x.exc
 exact ⟨bm,N,nm,qn,bs,hd,sn,sub,ab,col,dd,k0,k1,k2,k3,k5,lk,fun h X=>⟨_,.of_isNs (W.isNs_of_in X e5),W.nsMap_none_of_in X e5 e6⟩,fun h X=>W.tail_of_in X e4⟩
section
variable{prog:Program}{w:World}{A:Around}{E:Value→Shared→Prop}{hh:Heap}{gg:Array GenState}{dr:Drawn}{tt:Nat}{os:OsState}{l C:Addr}{ob:Obj}{K:W.Frag}
theorem zse{R:Result→Shared→Prop}(x:Xin K C)(X:K.In hh)(hl:hh.get? l=some ob)(hcl:ob.cls = .ref C)(hR:R (.ok (.ret (.ref C))) ⟨hh,gg,dr,tt,os⟩) :
  codeAny (model prog w) A (.call (.builtin "getset_descriptor.__get__") ⟨[.builtin "object.__class__",.ref l,.ref C],[]⟩) R ⟨hh,gg,dr,tt,os⟩:=by
 obtain ⟨bm,N,nm,qn,bs,hd,sn,sub,ab,col,dd,k0,k1,k2,k3,k5,lk,e4,e5,e6⟩:=ze8 x.exc
 have hCl:=X _ _ lk
 have TL:=W.tail_of_in X e4
 have ty5:(⟨hh,gg,dr,tt,os⟩ : Shared).TypeIs (.builtin "object.__class__") "getset_descriptor":=F.typeOf_object_class
 have inO:(Value.ref C :: bm).contains (.type (".".intercalate ("object.__class__".cutAt '.').dropLast))=true:=by
  rw[F.owner_object_class,List.contains_cons,TL.hasType (b:=true) (by decide)];rfl
 refine codeAny_call_builtin F.slot_gs_get.plain F.entry_gs_get (F.slot_gs_get.check _ _ _ _ _ _ _ _ ty5 (F.args_gs_get _ _ _) ?_)
 repeat (any_goals (first | (with_reducible refine wpAny_loadPart_at hl ?_;rw[hcl]) | (with_reducible refine wpAny_isSubtype_exc hCl ?_;rw[inO]) | assumption | wp_step))
 refine ⟨Code.quiet_builtin _ (by decide +kernel),codeAny_builtin F.entry_object_class ?_⟩
 repeat (any_goals (first | (with_reducible refine wpAny_loadPart_at hl ?_;rw[hcl]) | assumption | wp_step))
theorem zpp{tk:Tok}{Q:Fin→Shared→Prop}(x:Xin K C)(X:K.In hh)(hl:hh.get? l=some ob)(hcl:ob.cls = .ref C)(hQ:Q (.done (.ret (.ref C))) ⟨hh,gg,dr,tt,os⟩) :
  wpAny (model prog w) A (Builtin.«object.__getattribute__» ⟨[.ref l,.str "__class__" tk],[]⟩) Q E ⟨hh,gg,dr,tt,os⟩:=by
 have ty5:(⟨hh,gg,dr,tt,os⟩ : Shared).TypeIs (.builtin "object.__class__") "getset_descriptor":=F.typeOf_object_class
 have to5:=F.typeOf_object_class
 have lk6:=F.slot_gs_get.lookup
 have lk7:=F.slot_gs_set.lookup
 have L1:=W.looks_findIn (M:=model prog w) X x.gc
 repeat (any_goals (first | (with_reducible refine wpAny_loadPart_at hl ?_;rw[hcl]) | (with_reducible refine L1.at ?_) | assumption | wp_step))
 refine zse x X hl hcl ?_
 repeat (any_goals (first | assumption | wp_step))
theorem znk{M:Model}(hl:hh.get? l=some ob)(hcl:ob.cls = .ref C):W.Looks M hh (typeOf (.ref l)) (.ref C):=hcl ▸ (W.Looks.ld hl).andThen .now
theorem zpc{M:Model}{nameV:Value}{Q:Unit→Shared→Prop}(x:Xin K C)(X:K.In hh)(hl:hh.get? l=some ob)(hcl:ob.cls = .ref C)(hQ:Q () ⟨hh,gg,dr,tt,os⟩) :
  wpAny M A (checkBuiltinCall "BaseException.__getattribute__" ⟨[.ref l,nameV],[]⟩) Q E ⟨hh,gg,dr,tt,os⟩:=by
 have e1:builtinKind "BaseException.__getattribute__"=some .slot:=by decide +kernel
 have e2:splitId "BaseException.__getattribute__"=some ("BaseException","__getattribute__"):=by decide +kernel
 have e3:=F.args_bexc_ga (.ref l) nameV
 have e4:W.Looks M hh (isInstance (.ref l) (.type "BaseException")) true:=by
  unfold isInstance
  exact (znk hl hcl).andThen (W.looks_subIn X x.mb)
 simp only[checkBuiltinCall,e1,e2]
 refine wpAny_bind (W.Looks.at e4 ?_)
 repeat (first | exact hQ | wp_step)
theorem zua{tk:Tok}{Q:Value→Shared→Prop}(x:Xin K C)(X:K.In hh)(hl:hh.get? l=some ob)(hcl:ob.cls = .ref C)(hQ:Q (.ref C) ⟨hh,gg,dr,tt,os⟩) :
  wpAny (model prog w) A (getAttrBy (.ref l) (.str "__class__" tk) false false) Q E ⟨hh,gg,dr,tt,os⟩:=by
 have fb:=F.attrBase_ValueError.ga.bind (.ref l)
 have n0:(false && onTheHeap (Value.builtin "BaseException.__getattribute__"))=false:=rfl
 have n2:(Value.builtin "BaseException.__getattribute__" == Value.builtin "object.__getattribute__")=false:=by decide +kernel
 have n1:(onTheHeap (Value.ref C) && Value.builtin "BaseException.__getattribute__" == Value.builtin "object.__getattribute__")=false:=by rw[n2];rfl
 have L1:=W.looks_findIn (M:=model prog w) X x.ga
 have L2:=W.looks_findIn (M:=model prog w) X x.gh
 repeat (any_goals (first | (with_reducible refine wpAny_loadPart_at hl ?_;rw[hcl]) | (with_reducible refine W.Looks.at L1 ?_) | (with_reducible refine W.Looks.at L2 ?_) | assumption | wp_step))
 refine codeAny_call_builtin F.attrBase_ValueError.ga.plain F.entry_bexc_ga (zpc x X hl hcl (zpp x X hl hcl ?_))
 repeat (any_goals (first | assumption | wp_step))
theorem zqS{Q:Option Value→Shared→Prop}(x:Xin K C)(X:K.In hh)(hl:hh.get? l=some ob)(hcl:ob.cls = .ref C)(hQ:Q (some (.ref C)) ⟨hh,gg,dr,tt + 1,os⟩) :
  wpAny (model prog w) A (getAttr? (.ref l) "__class__") Q E ⟨hh,gg,dr,tt,os⟩:=by
 unfold getAttr? getAttrBy?
 repeat (any_goals (first | (with_reducible apply zua x X hl hcl) | assumption | wp_step))
end
def XAt(l C:Addr)(h:Heap):Prop:=∃ o vs,h.get? l=some o∧o.cls = .ref C∧o.data = .fields vs
theorem zpv{K:W.Frag}{l C:Addr}(x:Xin K C):W.KitX K (.ref l) (.ref C) (XAt l C) where
 ty:=fun M h X ⟨o,vs,h1,h2,h3⟩=>znk h1 h2
 it:=fun M h X _=>by
  obtain ⟨bm,N,nm,qn,bs,hd,sn,sub,ab,col,dd,k0,k1,k2,k3,k5,lk,e4,e5,e6⟩:=ze8 x.exc
  intro A' Q' E' s' k q
  unfold isType loadHead
  exact wpAny_bind (wpAny_loadPart (k _ _ (X _ _ lk)) (wpAny_pure q))
 ne:=fun h tp dd its n sl X htp=>by
  obtain ⟨bm,N,nm,qn,bs,hd,sn,sub,ab,col,dd',k0,k1,k2,k3,k5,lk,e4,e5,e6⟩:=ze8 x.exc
  refine Bool.eq_false_iff.mpr fun q=>?_
  obtain rfl:C=tp:=Value.ref.inj (beq_iff_eq.mp q)
  have z:=congrArg Obj.cls (Option.some.inj ((X _ _ lk).symm.trans htp))
  simp[excClassObj] at z
 ca:=fun {prog w A E Q s} X ⟨o,vs,h1,h2,h3⟩ k=>by
  obtain ⟨hh,gg,dr,tt,os⟩:=s
  exact zqS x X h1 h2 k
def zhq(i:Nat)(C:Addr)(b:Bool):De:=fun ρ=>match ρ[i]? with
 | some (some (.exc C'))=>if C'=C then .ok (.bl b,ρ) else .no
 | _=>.no
section
variable{X:Cx}{C:Cn}{i:Nat}{Cc C2:Addr}{b:Bool}{x x2:Str}{p px p2 pos:Pos}
theorem zld{v2:V}{u2:Value}(hxi:Xin X.K Cc)(hu:∀ u,zcD v2 u→u=u2)(hq:W.kitOne X.K (.ref Cc) u2=some b):zcO X (.builtin "isinstance") (fun xs H Q=>∃ l,xs=[.ref l,v2]∧H l=some (xHO l Cc)∧Q (.bl b) H):=by
 intro pins s σ H xs us Q I r h
 obtain ⟨l,rfl,hl,q⟩:=h
 obtain ⟨u,u',rfl,r1,r2⟩:=zji r
 cases r1
 obtain rfl:=hu u' r2
 have ok:zcr X.prog X.w H s.heap l (xHO l Cc):=I.hok l _ hl
 exact W.kia_one (zpv hxi) I.kIn ok.1 hq (by simp) fun tk=>⟨.bl b,H,I.tok tk,rfl,q⟩
theorem zl7{σ:L2.St}{H:Hp}{Q:VK}{v2:V}(h:tE X.K C (zhq i Cc b) σ H Q):∃ v,σ[i]? = some (some v)∧∃ l,v = .ref l∧H l=some (xHO l Cc)∧Q (.bl b) H:=by
 obtain ⟨G,w,ρ,r,p⟩:=h
 unfold zhq at p
 split at p
 ·rename_i C' e
  split at p
  ·rename_i hC
   subst hC
   obtain ⟨v,h1,l,h2,h3⟩:=r.sl i _ e
   exact ⟨v,h1,l,h2,r.gh _ _ h3,p _ G H w (.refl _ _ _) r (zcU _)⟩
  ·exact p.elim
 ·exact p.elim
theorem zge(i:Nat)(hxi:Xin X.K Cc)(hq:W.kitOne X.K (.ref Cc) (.ref C2)=some b)(hg:Gl X "isinstance")(hm:X.mg "isinstance"=none)(hg2:Gl X x2)(hm2:X.mg x2=some (.ref C2))(hN:X.N[i]? = some x:=by rfl)(hvs:Vis X.env.scope x:=by first | exact Or.inl rfl | exact Or.inr (Or.inl rfl) | exact Or.inr (Or.inr rfl))
  (hd:(x == ("__debug__" : Str))=false:=by decide) (hcd:(x == ("__classdict__" : Str))=false:=by decide) (hv:bootBuiltins "isinstance"=some (.builtin "isinstance"):=by rfl) (hn:("isinstance" : Str)≠"__name__":=by decide) (hdb:(("isinstance" : Str) == ("__debug__" : Str))=false:=by decide) (hdb2:(x2 == ("__debug__" : Str))=false:=by decide)
  (hs:starEach [.Name x px,.Name x2 p2] X.env=(false,eval (.Name x px) X.env) :: starEach [.Name x2 p2] X.env:=by rfl) (hs2:starEach [.Name x2 p2] X.env=(false,eval (.Name x2 p2) X.env) :: starEach [] X.env:=by rfl) (hpl:(backTo pos (starEach [.Name x2 p2] X.env)).any (·.1)=false:=by rfl) :
  JE X C (.Call (.Name "isinstance" p) [.Name x px,.Name x2 p2] [] pos) (zhq i Cc b) :=
 PE.weak (zdL (zld (v2:=.ref C2) hxi (fun u h=>h) hq) hg hm hv (zbe (zbR hN hvs hd hcd) (zbe (zkB (v:=.ref C2) hg2 hm2 rfl hdb2) zc4 hs2) hs) hn hdb hs hpl) fun σ H Q h=>by
  obtain ⟨v,h1,l,rfl,h2,h3⟩:=zl7 (v2:=.ref C2) h
  exact ⟨_,h1,l,rfl,h2,h3⟩
theorem zq3{T:String}(i:Nat)(hxi:Xin X.K Cc)(hq:W.kitOne X.K (.ref Cc) (.type T)=some b)(hg:Gl X "isinstance")(hm:X.mg "isinstance"=none)(hg2:Gl X x2)(hm2:X.mg x2=none)(hv2:bootBuiltins x2=some (.type T))(hN:X.N[i]? = some x:=by rfl)(hvs:Vis X.env.scope x:=by first | exact Or.inl rfl | exact Or.inr (Or.inl rfl) | exact Or.inr (Or.inr rfl))
  (hd:(x == ("__debug__" : Str))=false:=by decide) (hcd:(x == ("__classdict__" : Str))=false:=by decide) (hv:bootBuiltins "isinstance"=some (.builtin "isinstance"):=by rfl) (hn:("isinstance" : Str)≠"__name__":=by decide) (hdb:(("isinstance" : Str) == ("__debug__" : Str))=false:=by decide) (hn2:x2≠"__name__":=by decide) (hdb2:(x2 == ("__debug__" : Str))=false:=by decide)
  (hs:starEach [.Name x px,.Name x2 p2] X.env=(false,eval (.Name x px) X.env) :: starEach [.Name x2 p2] X.env:=by rfl) (hs2:starEach [.Name x2 p2] X.env=(false,eval (.Name x2 p2) X.env) :: starEach [] X.env:=by rfl) (hpl:(backTo pos (starEach [.Name x2 p2] X.env)).any (·.1)=false:=by rfl) :
  JE X C (.Call (.Name "isinstance" p) [.Name x px,.Name x2 p2] [] pos) (zhq i Cc b) :=
 PE.weak (zdL (zld (v2:=.ty T) hxi (fun u h=>h) hq) hg hm hv (zbe (zbR hN hvs hd hcd) (zbe (zhX (v:=.ty T) hg2 hm2 hv2 rfl hn2 hdb2) zc4 hs2) hs) hn hdb hs hpl) fun σ H Q h=>by
  obtain ⟨v,h1,l,rfl,h2,h3⟩:=zl7 (v2:=.ty T) h
  exact ⟨_,h1,l,rfl,h2,h3⟩
end
def zho(XR:Cx)(N:List Str)(scope:Scope)(cl:List (Str × Addr))(qual:Str)(Fa:Addr)(cdv:Value)(s:Shared)(H:Hp)(E:XK):Cx where
 prog:=XR.prog
 w:=XR.w
 K:=XR.K
 mg:=XR.mg
 base:=XR.base
 A:=XR.A.deeper (W.envX qual scope s.heap.objs.size Fa cdv cl)
 N:=N
 s₀:=s
 H₀:=H
 env:=W.envX qual scope s.heap.objs.size Fa cdv cl
 outer:=XR.stack
 stack:=W.envX qual scope s.heap.objs.size Fa cdv cl :: XR.stack
 ex:=[]
 fn:=fun _=>false
 calm:=true
 pn:=[]
 xe:=fun e s'=>wpAny (model XR.prog XR.w) (XR.A.deeper (W.envX qual scope s.heap.objs.size Fa cdv cl)) (leaving (W.envX qual scope s.heap.objs.size Fa cdv cl) e) (fun _ s''=>CXf XR.prog XR.w XR.stack H s E e s'') (fun _ _=>False) s'
def znD(names:List (Str × NameKind)):Bool:=names.all fun y=>match y.2 with
 | .free=>true
 | .globalImplicit=>true
 | _=>false
theorem zfI{names:List (Str × NameKind)}(h:znD names=true){x:Str}{k:NameKind}(e:names.lookup x=some k):k = .free∨k = .globalImplicit:=by
 have q:=List.all_eq_true.mp h (x,k) (zaX e)
 cases k <;> simp at q <;> simp
structure zgq(N:List Str)(names:List (Str × NameKind))(cl:List (Str × Addr))(σ:L2.St)(H:Hp)(h:Heap):Prop where
 inj:∀ x y c,cl.lookup x=some c→cl.lookup y=some c→x=y
 has:∀ x,names.lookup x=some .free→∃ c,cl.lookup x=some c
 is:∀ x c,cl.lookup x=some c→(∃ v,h.IsCell c v)∧H c=none
 val:∀(i:Nat)(x:Str)(v:V),N[i]? = some x→σ[i]? = some (some v)→names.lookup x=some .free→∃ u c,zcD v u∧cl.lookup x=some c∧h.IsCell c (some u)
section
variable{XR:Cx}{pins:List (Addr × Obj)}{σR σ:L2.St}{H:Hp}{s:Shared}{N:List Str}{scope:Scope}{cl:List (Str × Addr)}{qual name:Str}{Fa c':Addr}{params:Arguments}{body:Expr}{pm ctv:Value}{E:XK}
theorem znB{cdv:Value}{h₁:Heap}{tk:Nat}{mm:Str→Option Value}(J:L2.Inv XR pins σR H s)(hc:XR.calm=true)(hk:scope.kind = .function)(ho:znD scope.names=true)(L:zgq N scope.names cl σ H s.heap)(hl:σ.length=N.length)
  (hns:h₁.Ns s.heap.objs.size mm) (hkp:∀ b o,s.heap.get? b=some o→h₁.get? b=some o):L2.Inv (zho XR N scope cl qual Fa cdv s H E) [] σ H { s with heap:=h₁,toks:=tk }:=by
 have cellK:∀ c v,s.heap.IsCell c v→h₁.IsCell c v:=fun c v ⟨o,e1,e2⟩=>⟨o,hkp c o e1,e2⟩
 refine ⟨⟨J.ok.mod,hk,rfl,rfl,Nat.le_refl _,L.inj,fun x hx=>?_,fun x c h _=>absurd h (by simp[zho]),fun _=>J.ok.hd hc,Around.frames_deeper J.ok.frames,.inr ⟨rfl,rfl⟩,fun b hb=>absurd hb (by simp[zho]),J.bs,Nat.le_trans J.ok.bsz J.sz,fun b o e z=>absurd z (by simp[zho]),fun b z=>absurd z (by simp[zho]),J.stack,J.stkFree⟩,
  rfl,J.bare,Un.kept hkp,⟨mm,hns,fun i x v e1 e2 e3=>?_⟩,fun x c e=>?_,J.hok.fresh (Nat.le_refl _),fun x c e=>(L.is x c e).2,fun p hp=>absurd hp (by simp[zho]),J.hok.kept hkp,hl⟩
 ·have hx':scope.names.lookup x=some .cell∨scope.names.lookup x=some .free:=hx
  rcases hx' with z | z
  ·rcases zfI ho z with q | q <;> cases q
  ·exact L.has x z
 ·have e3':scope.names.lookup x=some .local∨scope.names.lookup x=some .cell∨scope.names.lookup x=some .free:=e3
  rcases e3' with z | z | z
  ·rcases zfI ho z with q | q <;> cases q
  ·rcases zfI ho z with q | q <;> cases q
  ·obtain ⟨u,c,r,hcl,ic⟩:=L.val i x v e1 e2 z
   exact ⟨u,r,.inr ⟨.inr z,c,hcl,cellK _ _ ic⟩⟩
 ·obtain ⟨⟨v,ic⟩,_⟩:=L.is x c e
  exact ⟨v,cellK _ _ ic⟩
theorem zlv{t:TE}(J:L2.Inv XR pins σR H s)(hc:XR.calm=true)(hroom:XR.A.depth < recursionLimit)(hk:scope.kind = .function)(ho:znD scope.names=true)(L:zgq N scope.names cl σ H s.heap)(hl:σ.length=N.length)
  (hF:s.heap.get? Fa=some (W.kla_obj name qual params body scope cl pm c' ctv)) (hcd:s.heap.CodeRec (.ref c') qual) (hbind:bindArgs (W.kla_fn name qual params body scope cl pm (.ref c') ctv) ⟨[],[]⟩=pure [])
  (hco:scope.isCoroutine=false) (hgen:scope.isGenerator=false) (hE:PE (zho XR N scope cl qual Fa (.ref c') s H E) body t) (ht:t σ H fun _ _=>False) :
  codeAny (model XR.prog XR.w) XR.A (.call (.ref Fa) ⟨[],[]⟩) (fun r s'=>∃ e,r = .error e∧CXf XR.prog XR.w XR.stack H s E e s') s:=by
 have hcell:∀ y∈scope.names,y.2≠.cell:=fun y hy z=>by
  have q:=List.all_eq_true.mp ho y hy
  rw[z] at q;simp at q
 refine W.kla_callFunE hroom hF rfl hco hgen rfl hcd ?_
 rw[hbind]
 refine wpAny_pure (wpAny_newFunctionEnv hcell (by intro y hy;simp at hy) (fun h₁ hns hsb=>?_) hk)
 have hkp:∀ b o,s.heap.get? b=some o→h₁.get? b=some o:=fun b o e=>(hsb.2 b (Nat.ne_of_lt (Heap.lt_size e))).trans (Heap.get?_push_of_some _ e)
 refine ⟨J.nolimit.keeps hkp,?_⟩
 show codeAny _ _ (.expr body (W.envX qual scope s.heap.objs.size Fa (.ref c') cl)) _ _
 refine W.kla_codeExpr (wpAny_mono (hE [] _ σ H (fun _ _=>False) (znB (tk:=s.toks + ([]:List (Str × Value)).length) J hc hk ho L hl hns hkp) ht) (fun v s' ⟨_,_,_,_,z⟩=>z.elim) fun e s' h=>?_)
 exact wpAny_mono h (fun _ s'' q=>⟨e,rfl,q⟩) fun _ _ z=>z.elim
theorem zhI{cdv:Value}{C:Cn}(hE:∀ u a H',EXc C u a H'→E u a H'):zcm (CXe XR.prog XR.w) (zho XR N scope cl qual Fa cdv s H E) (EXc C):=fun pins σ H1 s1 e s2 I hx =>
 ziU (base:=XR.base) (s0:=s) (H0:=H) rfl I.ok.frames (Nat.le_refl _) I.os I.bare I.base I.ok.frf I.stack I.hok I.stkFree hx hE
end
def zaJ(ρ:Ev):Ev:=ρ.map fun o=>match o with
 | some (.val d)=>some (.val d)
 | _=>none
theorem zp1{prog:Program}{w:World}{A:Around}{E:Value→Shared→Prop}{s:Shared}{K:W.Frag}{l C Cs:Addr}{Q:Bool→Shared→Prop}(X:K.In s.heap)(hx:XAt l C s.heap)(xs:Xin K Cs)(hsub:W.subIn K (.ref C) (.ref Cs)=some true)(hQ:Q true s) :
  wpAny (model prog w) A (excMatches (.ref l) (.ref Cs)) Q E s:=by
 obtain ⟨hh,gg,dr,tt,os⟩:=s
 obtain ⟨ob,vs,h1,h2,h3⟩:=hx
 obtain ⟨bm,N,nm,qn,bs,hd,sn,sub,ab,col,dd,k0,k1,k2,k3,k5,lk,e4,e5,e6⟩:=ze8 xs.exc
 have hCs:=X _ _ lk
 have inB:(Value.ref Cs :: bm).contains (.type "BaseException")=true:=by
  rw[List.contains_cons,(W.tail_of_in X e4).hasType (b:=true) (by decide)];rfl
 have nt:=tc_notTuple
 have L1:=W.looks_subIn (M:=model prog w) X hsub
 unfold excMatches
 repeat (first | (with_reducible refine wpAny_loadPart_at h1 ?_;rw[h2]) | (with_reducible refine W.Looks.at L1 ?_) | with_reducible refine wpAny_loadPart_at hCs ?_ | (with_reducible refine wpAny_isSubtype_exc hCs ?_;rw[inB]) | wp_step)
 exact hQ
section
variable{X:Cx}{pins:List (Addr × Obj)}{σ:L2.St}{H:Hp}{s:Shared}
theorem zlY{x:Str}{i:Nat}{h':Heap}{tk:Nat}{v:Option Value}(I:L2.Inv X pins σ H s)(hN:X.N.Nodup)(hi:X.N[i]? = some x)
  (hn:∀ m,s.heap.Ns X.env.locals m→h'.Ns X.env.locals (fun y=>if y=x then v else m y)) (hs:Heap.SameBut X.env.locals s.heap h'):L2.Inv X pins (σ.set i none) H { s with heap:=h',toks:=tk }:=by
 obtain ⟨m,hm,hl⟩:=id I.loc
 have cne:=I.cne
 have tr:HOk X.prog X.w H h':=zn6 I.hok fun b u o e q=>(hs.2 b fun z=>by subst z;rw[I.free] at e;cases e).trans q
 refine ⟨I.ok,I.os,I.bare,⟨fun b o e n hb hx=>?_,fun b o e n hb hx=>?_,I.base.free,fun b o e hx=>?_,I.base.tups,I.base.frzs,I.base.tbls⟩,⟨_,hn m hm,fun j y v' e1 e2 e3=>?_⟩,fun y c e=>?_,I.free,I.freeC,fun p hp=>?_,tr,by simpa using I.len⟩
 ·exact (hs.2 b (Nat.ne_of_lt (Nat.lt_of_lt_of_le (Heap.lt_size e) I.ok.above))).trans (I.base.keep b o e n hb hx)
 ·obtain ⟨sl,e1⟩:=I.base.slot b o e n hb hx
  exact ⟨sl,(hs.2 b (Nat.ne_of_lt (Nat.lt_of_lt_of_le (Heap.lt_size e) I.ok.above))).trans e1⟩
 ·obtain ⟨o',e1⟩:=I.base.there b o e hx
  exact ⟨o',(hs.2 b (Nat.ne_of_lt (Nat.lt_of_lt_of_le (Heap.lt_size e) I.ok.above))).trans e1⟩
 ·by_cases hj:j=i
  ·subst hj
   have hlt:j < σ.length:=by rw[I.len];exact (List.getElem?_eq_some_iff.mp hi).1
   rw[List.getElem?_set_self hlt] at e2
   cases e2
  ·rw[List.getElem?_set_ne (Ne.symm hj)] at e2
   obtain ⟨u',r',q⟩:=hl j y v' e1 e2 e3
   refine ⟨u',r',?_⟩
   rcases q with ⟨k,e⟩ | ⟨k,c,e,z⟩
   ·refine .inl ⟨k,?_⟩
    have:y≠x:=fun e=>hj (ziR hN e1 (e ▸ hi))
    simp[this,e]
   ·exact .inr ⟨k,c,e,z.sameBut hs (cne y c e)⟩
 ·obtain ⟨w',z⟩:=I.cell y c e
  exact ⟨w',z.sameBut hs (cne y c e)⟩
 ·obtain ⟨e,n,ne,nf,d⟩:=I.pin p hp
  exact ⟨(hs.2 p.1 ne).trans e,n,ne,nf,d⟩
theorem zhB{s1:Shared}{h:Heap}{l C:Addr}{a0:Value}{B:Heap}{H':Hp}(I:L2.Inv X pins σ H s)(os:s1.os=s.os)(bare:AllBare s1.gens)(un:Un (frs X.stack) [] H H' s.heap s1.heap)(hok:HOk X.prog X.w H' s1.heap)
  (fl:Heap.FlyingW B X.stack l (.ref C) a0 s1.heap) (hb1:∀ b o,s.heap.get? b=some o→b∉frs X.stack→∃ u,B.get? b=some u) (hb2:∀ b u,H' b=some u→∃ o,B.get? b=some o) (hnw:s.heap.get? l=none)
  (fl3:Heap.FlyingW B X.stack l (.ref C) a0 h) (up:s1.heap.UpToSlots h):H' l=none∧L2.Inv X pins σ (upd H' l (xHO l C)) { s1 with heap:=h }:=by
 have hl:H' l=none:=by
  cases q:H' l with
  | none=>rfl
  | some u=>obtain ⟨o,e⟩:=hb2 l u q;rw[fl.2.1] at e;cases e
 have at3:∀{b:Addr}{u:Obj},B.get? b=some u→s1.heap.get? b=some u∧h.get? b=some u:=fun {b u} e=>⟨fl.1 b u e,fl3.1 b u e⟩
 have slot:∀ b o,s.heap.get? b=some o→b∈frs X.stack→∃ sl,h.get? b=some { o with slots:=sl }:=fun b o e1 hb=>by
  obtain ⟨sl2,e3⟩:=un.slot b o e1 (I.stkFree b hb) hb (by simp)
  obtain ⟨_,o4,e4,d4⟩:=fl.2.2.1.mem (b:=b) hb
  rw[e3] at e4;cases e4
  obtain ⟨sl3,e5⟩:=up b _ e3 d4
  exact ⟨sl3,e5⟩
 refine ⟨hl,I.call' (s':={ s1 with heap:=h }) (ch:=[]) os ⟨fun b o e1 n hb _=>?_,fun b o e1 n hb _=>slot b o e1 hb,fun b o e1 n _=>?_,fun b o e1 _=>?_,fun b xs q=>?_,fun b o u q=>?_,fun b ps q=>?_⟩ (fun b u e=>?_) bare fun b hb=>absurd hb (by simp)⟩
 ·have e3:=un.keep b o e1 n hb (by simp)
  obtain ⟨u,hu⟩:=hb1 b o e1 hb
  obtain ⟨q1,q2⟩:=at3 hu
  rw[e3] at q1;cases q1;exact q2
 ·rw[zai (fun z=>by subst z;rw[hnw] at e1;cases e1)];exact un.free b o e1 n (by simp)
 ·by_cases hb:b∈frs X.stack
  ·obtain ⟨sl,e2⟩:=slot b o e1 hb;exact ⟨_,e2⟩
  ·obtain ⟨u,hu⟩:=hb1 b o e1 hb;exact ⟨u,(at3 hu).2⟩
 ·have:=un.tups b xs q
  rw[zai (zah this hl)];exact this
 ·have:=un.frzs b o u q
  rw[zai (zah this hl)];exact this
 ·obtain ⟨m,e⟩:=un.tbls b ps q
  exact ⟨m,by rw[zai (zah e hl)];exact e⟩
 ·by_cases hb:b=l
  ·subst hb
   rw[zaj] at e;cases e
   obtain ⟨oe,vs,e1,e2,e3,_⟩:=fl3.first
   exact ⟨⟨oe,vs,e1,e2,e3⟩,⟨oe,e1⟩,fun h1 h2 ⟨o,ws,q1,q2,q3⟩ k=>⟨o,ws,k o q1,q2,q3⟩⟩
  ·rw[zai hb] at e
   refine (hok b u e).stay (fun c o hc q=>?_) (fun c z=>?_) fun c xs z=>?_
   ·have hcu:∃ u',H' c=some u':=by
     rcases hc with rfl | hc
     ·exact ⟨_,e⟩
     ·exact ⟨_,hc⟩
    obtain ⟨u',hu'⟩:=hcu
    obtain ⟨o',ho'⟩:=hb2 c u' hu'
    obtain ⟨q1,q2⟩:=at3 ho'
    rw[q] at q1;cases q1;exact q2
   ·rw[zai (zah z hl)];exact z
   ·rw[zai (zah z hl)];exact z
end
def zmY(X:Cx)(e:Value)(E:Value→Shared→Prop):Cx:={ X with A:=X.A.mark (some e),calm:=false,xe:=E }
theorem zmU{X:Cx}{pins:List (Addr × Obj)}{σ:L2.St}{H:Hp}{s:Shared}{e:Value}{E:Value→Shared→Prop}(I:L2.Inv X pins σ H s):L2.Inv (zmY X e E) pins σ H s:=by
 have ok:=I.ok
 exact ⟨⟨ok.mod,ok.kind,ok.glob,ok.blt,ok.above,ok.inj,ok.has,ok.cab,fun h=>absurd h (by simp[zmY]),ok.frames,ok.stk,ok.exf,ok.bs,ok.bsz,ok.noex,ok.exfs,ok.funs,ok.frf⟩,I.os,I.bare,I.base,I.loc,I.cell,I.free,I.freeC,I.pin,I.hok,I.len⟩
theorem znN{X:Cx}{pins:List (Addr × Obj)}{σ:L2.St}{H:Hp}{s:Shared}{e:Value}{E:Value→Shared→Prop}(hok:X.Ok)(I:L2.Inv (zmY X e E) pins σ H s):L2.Inv X pins σ H s :=
 ⟨hok,I.os,I.bare,I.base,I.loc,I.cell,I.free,I.freeC,I.pin,I.hok,I.len⟩
def EL(Cc:Addr)(H:Hp):XK:=fun u _ H'=>u = .ref Cc∧zbG H H'
section
variable{X:Cx}{p1 p2 p3 p4 p5 p6 p7 p8 p9:Pos}{Cc Cs Fa:Addr}{H0:Hp}{iF ierr ie:Nat}{xF xerr xe xS:Str}
theorem znr(hc:X.calm=true)(hN:X.N.Nodup)(hst:X.stack=X.env :: X.outer)(hfrm:X.env.frame=some X.env.locals)
  (hF:∀ pins σ H s,L2.Inv X pins σ H s→zbG H0 H→codeAny (model X.prog X.w) X.A (.call (.ref Fa) ⟨[],[]⟩) (fun r s'=>∃ e,r = .error e∧CXf X.prog X.w X.stack H s (EL Cc H) e s') s)
  (hFn:∀ pins σ H s,L2.Inv X pins σ H s→zbG H0 H→W.FnAt Fa s.heap)
  (xs:Xin X.K Cs) (hsub:W.subIn X.K (.ref Cc) (.ref Cs)=some true) (hmS:X.mg xS=some (.ref Cs)) (hgS:Gl X xS)
  (hNF:X.N[iF]? = some xF) (hNerr:X.N[ierr]? = some xerr) (hNe:X.N[ie]? = some xe) (hie:ie≠ierr) (kF:X.env.scope.names.lookup xF=some .local) (kerr:X.env.scope.names.lookup xerr=some .local) (ke:X.env.scope.names.lookup xe=some .local)
  (hd1:(xF == ("__debug__" : Str))=false:=by decide) (hd2:(xF == ("__classdict__" : Str))=false:=by decide) (hd3:(xS == ("__debug__" : Str))=false:=by decide) (hd4:(xe == ("__debug__" : Str))=false:=by decide) (hd5:(xe == ("__classdict__" : Str))=false:=by decide)
  (hsw:swapsWith (.Call (.Name xF p1) [] [] p2) none p3.line X.env=pure false:=by rfl) (hsw2:swapsWith (.Name xe p6) (some (.Name xerr p5)) p7.line X.env=pure false:=by rfl) :
  PS X (.Try [.Expr (.Call (.Name xF p1) [] [] p2) p3] [.ExceptHandler (some (.Name xS p4)) (some xe) [.Assign [.Name xerr p5] (.Name xe p6) p7] p8] [] [] p9)
   (fun D σ H=>σ[iF]? = some (some (.ref Fa))∧zbG H0 H∧∀ l H',zbG H H'→H' l=none→D.nx (((σ.set ie (some (.ref l))).set ierr (some (.ref l))).set ie none) (upd H' l (xHO l Cc))):=by
 intro pins s σ H D I ⟨h0,eH,hD⟩
 refine wpAny_Try_except ?_
 refine wpAny_execs_cons ?_
 have hv:∀ EE:Value→Shared→Prop,wpAny (model X.prog X.w) X.A (eval (.Name xF p1) X.env) (EP (X.wish EE) pins σ fun v H'=>v = .ref Fa∧H'=H) EE s:=fun EE =>
  zbR (X:=X.wish EE) (pos:=p1) hNF (.inl kF) hd1 hd2 pins s σ H (fun v H'=>v = .ref Fa∧H'=H) (I.wish EE) ⟨_,h0,rfl,rfl⟩
 refine wpAny_Expr_any (wpAny_Call_Name_kw (wpAny_mono (hv _) (fun u s1 ⟨v,H1,I1,r,e1,e2⟩=>?_) fun _ _ z=>z)) I.quiet hsw
 subst e1 e2
 cases r
 have I1:=I1.unwish
 refine W.callWith_F0 (hFn _ _ _ _ I1 eH) (wpAny_call (codeAny_mono (hF _ _ _ _ I1 eH) fun r s2 ⟨e,er,hx⟩=>?_))
 subst er
 obtain ⟨l,cls,a0,B,H',rfl,os,bare,un,hok,fl,hb1,hb2,hnw,ecls,same⟩:=hx
 subst ecls
 show wpAny _ _ (noteFrame (.ref l) X.env) _ _ s2
 rw[hst] at fl
 refine wpAny_looks_onW (by rw[I1.ok.frames,hst]) hfrm fl fun h3 held3 up3=>?_
 refine wpAny_landsW held3 fun h4 fl4 up4=>?_
 rw[← hst] at fl fl4
 obtain ⟨hl,I4⟩:=zhB I1 os bare un hok fl hb1 hb2 hnw fl4 (up3.trans up4)
 refine wpAny_handleBy_cons (codeAny_handlers_test ?_) (by intro q;cases q)
 refine zfL (X:=zmY X (.ref l) fun _ _=>True) (zmU I4) hgS hmS ?_ hd3
 have xat:XAt l Cc h4:=by obtain ⟨oe,vs,q1,q2,q3,_⟩:=fl4.first;exact ⟨oe,vs,q1,q2,q3⟩
 refine zp1 (K:=X.K) I4.kIn xat xs hsub ?_
 refine codeAny_handlers_suite_as ?_
 refine lands_againW fl4 fun h5 fl5 up5=>?_
 obtain ⟨_,I5⟩:=zhB I1 os bare un hok fl hb1 hb2 hnw fl5 ((up3.trans up4).trans up5)
 refine zft I5 hN hNe (.inl ke) (v:=.ref l) rfl (fun s6 I6=>?_) (.inr ke)
 have hsuite:=fun EE:Value→Shared→Prop=>zo3 (X:=zmY X (.ref l) EE) (zl3 (pos:=p7) (pos':=p5) hN hNerr (.inl kerr) (zbR (pos:=p6) hNe (.inl ke) hd4 hd5) hsw2 (.inr kerr)) pins s6 (σ.set ie (some (.ref l))) (upd H' l (xHO l Cc)) { nx:=fun σ' H''=>σ'=(σ.set ie (some (.ref l))).set ierr (some (.ref l))∧H''=upd H' l (xHO l Cc),rt:=fun _ _=>False } (zmU I6) ⟨.ref l,by
  rw[List.getElem?_set_self (by rw[I5.len];exact (List.getElem?_eq_some_iff.mp hNe).1)],rfl,rfl⟩
 refine wpAny_mono (hsuite _) (fun f s7 h7=>?_) fun _ _ z=>z
 cases f with
 | next =>
  obtain ⟨σ',H'',I7,e1,e2⟩:=h7
  subst e1 e2
  have I7:=znN I4.ok I7
  obtain ⟨m7,hm7,_⟩:=I7.loc
  refine wpAny_nameGoes_keeps (env:=X.env) ke hm7 (by rw[I7.ok.kind];rfl) fun h8 v hn8 hs8=>?_
  refine ⟨_,_,zlY (x:=xe) (i:=ie) (v:=v) I7 hN hNe (fun m hm=>?_) hs8,hD l H' same hl⟩
  obtain ⟨o,es,ep,ho,hd,hk,hmm⟩:=hn8
  obtain ⟨o',es',ep',ho',hd',hk',hm'⟩:=hm
  obtain ⟨o7,es7,ep7,ho7,hd7,hk7,hm7'⟩:=hm7
  rw[ho'] at ho7;cases ho7
  rw[hd'] at hd7;cases hd7
  exact ⟨o,es,ep,ho,hd,hk,fun x=>by rw[hmm x];show (if x=xe then v else m7 x)=if x=xe then v else m x;rw[← hm7' x,hm' x]⟩
 | brk=>obtain ⟨_,_,_,z⟩:=h7;exact z.elim
 | cont=>obtain ⟨_,_,_,z⟩:=h7;exact z.elim
 | ret u=>obtain ⟨_,_,_,_,_,z⟩:=h7;exact z.elim
end
def fHO(a:Addr)(ob:Obj):HO:=.ext fun h=>h.get? a=some ob
structure zgC(X:Cx)(P:Addr):Prop where
 code:∃ c,X.env.code = .ref c∧W.CodeHd X.base c P
 blt:X.base.BuiltinsAt X.mg P
theorem zni{P:Program}{w:World}{H:Hp}{h:Heap}{a:Addr}{φ : Heap→Prop}{o:Obj}(h1:φ h)(h2:h.get? a=some o)(h3:∀ x y:Heap,φ x→(∀ o,x.get? a=some o→y.get? a=some o)→φ y):zcr P w H h a (.ext φ):=⟨h1,⟨o,h2⟩,h3⟩
theorem zkT{c:Addr}{q:Str}(x y:Heap)(h:x.CodeRec (.ref c) q)(k:∀ o,x.get? c=some o→y.get? c=some o):y.CodeRec (.ref c) q:=by
 obtain ⟨c',o,vs,t,e,h1,h2,h3⟩:=h
 cases e
 exact ⟨c,o,vs,t,rfl,k o h1,h2,h3⟩
structure zkH(P:Addr)(q:Str)(G H:Hp)(ps:Array Value):Prop where
 at_:H P=some (.tbl ps)
 tri:TriplesOk ps.toList
 cod:∀ pos cv,codeAmong pos ps.toList=some cv→∃ c,cv = .ref c∧G c=some (cHO c q)
section
variable{X:Cx}{pins:List (Addr × Obj)}{σ:L2.St}{H:Hp}{s:Shared}{P:Addr}{q:Str}{params:Arguments}{body:Expr}{scope:Scope}{pos:Pos}{cl:List (Str × Addr)}{ps:Array Value}{Q:VK}
theorem zqu(LB:zgC X P)(I:L2.Inv X pins σ H s)(hdef:defaultsOf params X.env=([],[]))(hcl:closureFor scope X.env=pure cl)(T:zkH P (X.env.qual ++ "<lambda>") H H ps)
  (hA:∀ c Fa ctv,codeAmong pos ps.toList=none→H c=none→H Fa=none→c≠Fa→Q (.ref Fa) (upd (upd (upd H P (.tbl (ps ++ #[rawInt pos.line,rawInt pos.col,.ref c]))) c (cHO c (X.env.qual ++ "<lambda>"))) Fa (fHO Fa (W.kla_obj "<lambda>" (X.env.qual ++ "<lambda>") params body scope cl ((X.mg "__name__").getD .none) c ctv))))
  (hB:∀ c Fa ctv,codeAmong pos ps.toList=some (.ref c)→H Fa=none→Q (.ref Fa) (upd H Fa (fHO Fa (W.kla_obj "<lambda>" (X.env.qual ++ "<lambda>") params body scope cl ((X.mg "__name__").getD .none) c ctv)))) :
  wpAny (model X.prog X.w) X.A (eval (.Lambda params body scope pos) X.env) (EP X pins σ Q) X.xe s:=by
 obtain ⟨c0,hc0,C0⟩:=LB.code
 have C0':=C0.keeps I.bk
 have hg:=I.mod.glob.keeps I.bk
 have oP:s.heap.get? P=some (W.tabObj ps):=I.hok P _ T.at_
 have nP:∀ b o,X.base.get? b=some o→b≠P:=fun b o e z=>by
  have:=(I.bs b o e).2
  rw[z,T.at_] at this;cases this
 have hgP:mainGlobals≠P:=by
  obtain ⟨o,es,ep,e,_⟩:=I.mod.glob
  exact nP _ _ e
 have hbl:s.heap.BuiltinsAt X.mg P:=by
  obtain ⟨bm,o,b1,b2,b3,b4,b5,b6⟩:=LB.blt
  exact ⟨bm,o,b1,b2,b3,b4,I.bk _ _ b5,b6⟩
 refine W.kla_eval hdef ?_
 cases hk:codeAmong pos ps.toList with
 | none =>
  refine W.kla_makeFunction (mg:=X.mg) hcl I.ok.glob hg hc0 C0' oP T.tri hk hgP hbl fun c' ctv h' tk hx hge hlt hrec htb=>?_
  have hcn:H c'=none:=I.hok.fresh hge
  have hFn:H h'.objs.size=none:=I.hok.fresh (Nat.le_trans hge (Nat.le_of_lt hlt))
  have hne:c'≠h'.objs.size:=Nat.ne_of_lt hlt
  have cP:c'≠P:=fun z=>by rw[z,T.at_] at hcn;cases hcn
  have fP:h'.objs.size≠P:=fun z=>by rw[z,T.at_] at hFn;cases hFn
  have kp:∀ b o,b≠P→s.heap.get? b=some o→(h'.push (W.kla_obj "<lambda>" (X.env.qual ++ "<lambda>") params body scope cl ((X.mg "__name__").getD .none) c' ctv)).get? b=some o:=fun b o hb e=>Heap.get?_push_of_some _ (hx b o hb e)
  have hq:=hA c' h'.objs.size ctv hk hcn hFn hne
  refine ⟨.ref h'.objs.size,_,I.call' (s':={ s with heap:=h'.push (W.kla_obj "<lambda>" (X.env.qual ++ "<lambda>") params body scope cl ((X.mg "__name__").getD .none) c' ctv),toks:=tk }) (ch:=[]) rfl ⟨fun b o e n _ _=>?_,fun b o e n _ _=>?_,fun b o e n _=>?_,fun b o e _=>?_,fun b xs z=>?_,fun b o u z=>?_,fun b pz z=>?_⟩ (fun b u e=>?_) I.bare fun b hb=>absurd hb (by simp),rfl,hq⟩
  ·exact kp b o (fun z=>by rw[z,T.at_] at n;cases n) e
  ·exact ⟨o.slots,kp b o (fun z=>by rw[z,T.at_] at n;cases n) e⟩
  ·have l1:=Heap.lt_size e
   rw[zai (Nat.ne_of_lt (Nat.lt_trans (Nat.lt_of_lt_of_le l1 hge) hlt)),zai (Nat.ne_of_lt (Nat.lt_of_lt_of_le l1 hge)),zai (fun z=>by rw[z,T.at_] at n;cases n)]
   exact n
  ·by_cases hb:b=P
   ·subst hb;exact ⟨_,Heap.get?_push_of_some _ htb⟩
   ·exact ⟨o,kp b o hb e⟩
  ·rw[zai (zah z hFn),zai (zah z hcn),zai (fun y=>by rw[y,T.at_] at z;cases z)];exact z
  ·rw[zai (zah z hFn),zai (zah z hcn),zai (fun y=>by rw[y,T.at_] at z;cases z)];exact z
  ·by_cases hb:b=P
   ·subst hb
    rw[T.at_] at z;cases z
    exact ⟨_,by rw[zai (Ne.symm fP),zai (Ne.symm cP),zaj]⟩
   ·exact ⟨#[],by rw[zai (zah z hFn),zai (zah z hcn),zai hb,z];simp⟩
  ·by_cases hbF:b=h'.objs.size
   ·rw[hbF,zaj] at e;cases e
    rw[hbF]
    exact zni (Heap.get?_push_size _ rfl) (Heap.get?_push_size _ rfl) fun x y h k=>k _ h
   ·rw[zai hbF] at e
    by_cases hbc:b=c'
    ·rw[hbc,zaj] at e;cases e
     rw[hbc]
     have hr:=hrec.push (W.kla_obj "<lambda>" (X.env.qual ++ "<lambda>") params body scope cl ((X.mg "__name__").getD .none) c' ctv)
     obtain ⟨c2,o2,_,_,e2,h2,_⟩:=id hr
     cases e2
     exact zni hr h2 zkT
    ·rw[zai hbc] at e
     by_cases hbP:b=P
     ·rw[hbP,zaj] at e;cases e
      rw[hbP]
      exact Heap.get?_push_of_some _ htb
     ·rw[zai hbP] at e
      refine (I.hok b u e).stay (fun d o hd z=>?_) (fun d z=>?_) fun d xs z=>?_
      ·refine kp d o (fun y=>?_) z
       rcases hd with hd | hd
       ·exact hbP (hd.symm.trans y)
       ·rw[y,T.at_] at hd;cases hd
      ·rw[zai (zah z hFn),zai (zah z hcn),zai (fun y=>by rw[y,T.at_] at z;cases z)];exact z
      ·rw[zai (zah z hFn),zai (zah z hcn),zai (fun y=>by rw[y,T.at_] at z;cases z)];exact z
 | some cv =>
  obtain ⟨c,rfl,hcG⟩:=T.cod pos cv hk
  refine W.kla_makeFunctionHit (mg:=X.mg) hcl I.ok.glob hg hc0 C0' oP T.tri hk hbl fun ctv h' tk hkp hsz=>?_
  have hFn:H h'.objs.size=none:=I.hok.fresh hsz
  exact ⟨.ref h'.objs.size,_,I.laid (t':=tk) (fun b u e=>Heap.get?_push_of_some _ (hkp b u e)) hsz (zni (Heap.get?_push_size _ rfl) (Heap.get?_push_size _ rfl) fun x y h k=>k _ h),rfl,hB c h'.objs.size ctv hk hFn⟩
end
def zo7(iF ierr ie:Nat)(Cc:Addr):DS:=fun ρ=>match ρ[iF]? with
 | some (some .opq)=>if ierr < ρ.length∧ie < ρ.length then .ok (.nx,(ρ.set ierr (some (.exc Cc))).set ie none) else .no
 | _=>.no
section
variable{X:Cx}{C:Cn}{p1 p2 p3 p4 p5 p6 p7 p8 p9:Pos}{Cc Cs Fa:Addr}{iF ierr ie:Nat}{xF xerr xe xS:Str}
theorem zn9(hc:X.calm=true)(hN:X.N.Nodup)(hst:X.stack=X.env :: X.outer)(hfrm:X.env.frame=some X.env.locals)(hw0:C.w₀=fun _=>none)(hpp:C.pp=[iF])(hσ0:C.σ₀[iF]? = some (some (.ref Fa)))
  (hF:∀ pins σ H s,L2.Inv X pins σ H s→zbG C.H₀ H→codeAny (model X.prog X.w) X.A (.call (.ref Fa) ⟨[],[]⟩) (fun r s'=>∃ e,r = .error e∧CXf X.prog X.w X.stack H s (EL Cc H) e s') s)
  (hFn:∀ pins σ H s,L2.Inv X pins σ H s→zbG C.H₀ H→W.FnAt Fa s.heap)
  (xs:Xin X.K Cs) (hsub:W.subIn X.K (.ref Cc) (.ref Cs)=some true) (hmS:X.mg xS=some (.ref Cs)) (hgS:Gl X xS)
  (hNF:X.N[iF]? = some xF) (hNerr:X.N[ierr]? = some xerr) (hNe:X.N[ie]? = some xe) (hie:ie≠ierr) (hF1:ierr≠iF) (hF2:ie≠iF) (kF:X.env.scope.names.lookup xF=some .local) (kerr:X.env.scope.names.lookup xerr=some .local) (ke:X.env.scope.names.lookup xe=some .local)
  (hd1:(xF == ("__debug__" : Str))=false:=by decide) (hd2:(xF == ("__classdict__" : Str))=false:=by decide) (hd3:(xS == ("__debug__" : Str))=false:=by decide) (hd4:(xe == ("__debug__" : Str))=false:=by decide) (hd5:(xe == ("__classdict__" : Str))=false:=by decide)
  (hsw:swapsWith (.Call (.Name xF p1) [] [] p2) none p3.line X.env=pure false:=by rfl) (hsw2:swapsWith (.Name xe p6) (some (.Name xerr p5)) p7.line X.env=pure false:=by rfl) :
  JS X C (.Try [.Expr (.Call (.Name xF p1) [] [] p2) p3] [.ExceptHandler (some (.Name xS p4)) (some xe) [.Assign [.Name xerr p5] (.Name xe p6) p7] p8] [] [] p9) (zo7 iF ierr ie Cc) :=
 PS.weak (znr hc hN hst hfrm hF hFn xs hsub hmS hgS hNF hNerr hNe hie kF kerr ke hd1 hd2 hd3 hd4 hd5 hsw hsw2) fun D σ H ⟨G,w,ρ,r,p⟩=>by
  unfold zo7 at p
  split at p
  ·split at p
   ·rename_i hlen
    have sm:zbG C.H₀ H:=fun b o e=>r.en.h b o e (by rw[hw0])
    refine ⟨by rw[r.pin iF (by rw[hpp];simp)];exact hσ0,sm,fun l H' same hl=>?_⟩
    have hHl:H l=none:=by
     cases q:H l with
     | none=>rfl
     | some u=>rw[same l u q] at hl;cases hl
    have hGl:G l=none:=by
     cases q:G l with
     | none=>rfl
     | some u=>rw[r.gh l u q] at hHl;cases hHl
    have wl:∀ b,w b≠none→b≠l:=fun b e z=>by subst z;exact r.wh b e hHl
    have sG:zbG G (upd G l (xHO l Cc)):=fun b u e=>by rw[zai (zah e hGl)];exact e
    have sH:zbG H (upd H' l (xHO l Cc)):=fun b u e=>by rw[zai (zah e hHl)];exact same b u e
    have st:zb9 G H w (upd G l (xHO l Cc)) (upd H' l (xHO l Cc)) w:=by
     refine ⟨sG,fun b o e=>?_,fun b o e _=>sH b o e,fun b e=>.inl e,fun b e=>?_⟩
     ·by_cases hb:b=l
      ·subst hb;exact .inr (.inl hHl)
      ·rw[zai hb] at e;exact .inl (by rw[e];simp)
     ·cases q:H b with
      | none=>rfl
      | some u=>rw[sH b u q] at e;cases e
    refine p _ _ _ _ st ⟨fun b u e=>?_,fun b e=>?_,fun b e z=>?_,by simpa using r.len,fun i b e=>?_,r.en.trans st,fun i hi=>?_⟩
    ·by_cases hb:b=l
     ·subst hb;rw[zaj] at e ⊢;exact e
     ·rw[zai hb] at e ⊢;exact same b u (r.gh b u e)
    ·rw[zai (wl b e)];exact r.wg b e
    ·cases q:H b with
     | none=>exact r.wh b e q
     | some u=>rw[sH b u q] at z;cases z
    ·by_cases h2:i=ie
     ·subst h2;rw[List.getElem?_set_self (by simpa using hlen.2)] at e;cases e
     ·rw[List.getElem?_set_ne (Ne.symm h2)] at e ⊢
      by_cases h1:i=ierr
      ·subst h1
       rw[List.getElem?_set_self hlen.1] at e;cases e
       refine ⟨.ref l,?_,l,rfl,zaj⟩
       rw[List.getElem?_set_self (by rw[List.length_set,← r.len];exact hlen.1)]
      ·rw[List.getElem?_set_ne (Ne.symm h1)] at e ⊢
       rw[List.getElem?_set_ne (Ne.symm h2)]
       obtain ⟨v,q1,q2⟩:=r.sl i b e
       exact ⟨v,q1,q2.grow sG fun a o e1 e2=>⟨sH a o e2,e1⟩⟩
    ·rw[hpp] at hi
     have:i=iF:=by simpa using hi
     subst this
     rw[List.getElem?_set_ne hF2,List.getElem?_set_ne hF1,List.getElem?_set_ne hF2]
     exact r.pin i (by rw[hpp];simp)
   ·exact p.elim
  ·exact p.elim
end
theorem zsO{CX:CXT}{P:Program}{w:World}{K:W.Frag}{mg:Str→Option Value}{base:Heap}{k:Nat}{f:Addr}{name qual:Str}{params:Arguments}{body:List Stmt}{scope:Scope}{dV kV doc pm cdv ct oc:Value}{an od:Option Addr}
  {osl:Array (Option Value)} {N ps:List Str} {A:Around} {outer:List Env} {s:Shared} {H:Hp} {args:Args} {us:List Value} {vs:List V} {Q:VK} {E:XK} (lk:K.lookup f=some ⟨oc,od,.func (W.fnOf name qual params body scope dV kV doc pm an cdv ct),osl⟩) (hcd:W.codeIn K cdv qual=true) (S:za1 N ps scope)
  (hr:zdf (k + 1) A) (e0:zp8 P w K mg base A outer s H) (hb:BindsTo s (W.fnOf name qual params body scope dV kV doc pm an cdv ct) args (ps.zip us)) (r:zbk vs us) (hl:vs.length=ps.length)
  (hbody:∃ t,PSs (zhs CX P w K mg base N qual scope f cdv A outer s H E) body t∧t { nx:=fun _ H'=>Q .non H',rt:=Q } (start N vs) H) :
  codeAny (model P w) A (.call (.ref f) args) (CR CX outer P w H s Q E) s:=by
 have hin:K.In s.heap:=e0.mod.kin.keeps fun b o e=>(e0.bs b o e).1
 have nolim:s.heap.NoLimit:=e0.mod.nolimit.keeps fun b o e=>(e0.bs b o e).1
 have zb5:∀ y∈ps.zip us,scope.names.lookup y.1=some .local∨(scope.names.lookup y.1=some .cell∧((cellsFrom (s.heap.objs.size + 1) scope.names []).lookup y.1).isSome=true):=fun ⟨n,v⟩ hy=>by
  rcases S.par n (List.of_mem_zip hy).1 with q | q
  ·exact .inl q
  ·exact .inr ⟨q,W.cellsFrom_some _ _ _ (.inl q)⟩
 have dp:A.depth < recursionLimit:=by have:=hr.dp;omega
 refine codeAny_call_function dp (hin _ _ lk) rfl S.co S.gen rfl (W.codeRec_of hin hcd) (hb _ _ _ _ ?_)
 refine wpAny_newFunctionEnv_cells S.kind zb5 fun env he s1 x=>?_
 subst he
 refine ⟨nolim.keeps x.toInCall.keep,codeAny_func ?_⟩
 obtain ⟨t,ht,hq⟩:=hbody
 have I:=zjh (CX:=CX) (K:=K) (mg:=mg) (base:=base) (E:=E) (qual:=qual) (f:=f) (cd:=cdv) S hr.hd e0 hl r x
 refine wpAny_mono (ht [] s1 (start N vs) H _ I hq) (fun fl s' hs=>?_) fun e s' hs=>hs
 cases fl with
 | ret u=>obtain ⟨v,σ',H',J,rv,q⟩:=hs;exact ⟨v,H',J.os,J.bare,J.base,J.hok,rv,q⟩
 | next=>obtain ⟨σ',H',J,q⟩:=hs;exact ⟨V.non,H',J.os,J.bare,J.base,J.hok,rfl,q⟩
 | brk=>obtain ⟨_,_,_,q⟩:=hs;exact q.elim
 | cont=>obtain ⟨_,_,_,q⟩:=hs;exact q.elim
theorem zje{a b:Int}{t u:Tok}{c:Value}:∀{l:List Value},TriplesOk l→TriplesOk (l ++ [.int a t,.int b u,c]):=by
 intro l h
 fun_induction TriplesOk l with
 | case1=>simp[TriplesOk]
 | case2 x1 x2 x3 x4 x5 zch ih=>simpa [TriplesOk] using ih h
 | case3=>exact h.elim
theorem zmm{p:Pos}{a b:Int}{t u:Tok}{c cv:Value}:∀{l:List Value},TriplesOk l→codeAmong p (l ++ [.int a t,.int b u,c])=some cv→codeAmong p l=some cv∨cv=c:=by
 intro l h e
 fun_induction TriplesOk l with
 | case1 =>
  simp only[List.nil_append,codeAmong] at e
  split at e
  ·exact .inr (Option.some.inj e).symm
  ·cases e
 | case2 x1 x2 x3 x4 x5 zch ih =>
  simp only[List.cons_append,codeAmong] at e ⊢
  split at e
  ·rename_i hh;rw[if_pos hh];exact .inl e
  ·rename_i hh;rw[if_neg hh];exact ih h e
 | case3=>exact h.elim
section
variable{K:W.Frag}{C:Cn}{G H:Hp}{w:Wn}{ρ:Ev}{σ:L2.St}{j:Nat}{q:Str}{P c Fa:Addr}{ps:Array Value}{a b:Int}{t u:Tok}{ob:Obj}
theorem Rel.lamA(r:Rel K C G w ρ σ H)(hj:ρ[j]? = some (some (.tab q)))(hσ:σ[j]? = some (some (.ref P)))(hw:w P=some j)(T:zkH P q G H ps)(hc:H c=none)(hF:H Fa=none)(hne:c≠Fa) :
  Rel K C (upd (upd G c (cHO c q)) Fa (fHO Fa ob)) w ρ σ (upd (upd (upd H P (.tbl (ps ++ #[.int a t,.int b u,.ref c]))) c (cHO c q)) Fa (fHO Fa ob)) ∧
   zb9 G H w (upd (upd G c (cHO c q)) Fa (fHO Fa ob)) (upd (upd (upd H P (.tbl (ps ++ #[.int a t,.int b u,.ref c]))) c (cHO c q)) Fa (fHO Fa ob)) w:=by
 have gf:∀{x:Addr},H x=none→G x=none:=fun {x} e=>r.gh.free e
 have cP:c≠P:=fun z=>by rw[z,T.at_] at hc;cases hc
 have fP:Fa≠P:=fun z=>by rw[z,T.at_] at hF;cases hF
 have gP:G P=none:=r.wg P (by rw[hw];simp)
 have sG:zbG G (upd (upd G c (cHO c q)) Fa (fHO Fa ob)):=fun x o e=>by rw[zai (zah e (gf hF)),zai (zah e (gf hc))];exact e
 have oth:∀{x:Addr}{o:HO},x≠P→H x=some o→upd (upd (upd H P (.tbl (ps ++ #[.int a t,.int b u,.ref c]))) c (cHO c q)) Fa (fHO Fa ob) x=some o:=fun {x o} hx e=>by
  rw[zai (zah e hF),zai (zah e hc),zai hx];exact e
 have dom:∀ x,upd (upd (upd H P (.tbl (ps ++ #[.int a t,.int b u,.ref c]))) c (cHO c q)) Fa (fHO Fa ob) x=none→H x=none:=fun x e=>by
  by_cases h1:x=Fa
  ·rw[h1,zaj] at e;cases e
  ·rw[zai h1] at e
   by_cases h2:x=c
   ·rw[h2,zaj] at e;cases e
   ·rw[zai h2] at e
    by_cases h3:x=P
    ·rw[h3,zaj] at e;cases e
    ·rw[zai h3] at e;exact e
 have st:zb9 G H w (upd (upd G c (cHO c q)) Fa (fHO Fa ob)) (upd (upd (upd H P (.tbl (ps ++ #[.int a t,.int b u,.ref c]))) c (cHO c q)) Fa (fHO Fa ob)) w:=by
  refine ⟨sG,fun x o e=>?_,fun x o e z=>oth (fun y=>by rw[y,hw] at z;cases z) e,fun x e=>.inl e,dom⟩
  by_cases h1:x=Fa
  ·rw[h1];exact .inr (.inl hF)
  ·rw[zai h1] at e
   by_cases h2:x=c
   ·rw[h2];exact .inr (.inl hc)
   ·rw[zai h2] at e;exact .inl (by rw[e];simp)
 refine ⟨⟨fun x o e=>?_,fun x e=>?_,fun x e z=>r.wh x e (dom x z),r.len,fun i bb e=>?_,r.en.trans st,r.pin⟩,st⟩
 ·by_cases h1:x=Fa
  ·rw[h1,zaj] at e ⊢;exact e
  ·rw[zai h1] at e ⊢
   by_cases h2:x=c
   ·rw[h2,zaj] at e ⊢;exact e
   ·rw[zai h2] at e ⊢
    rw[zai (fun y=>by rw[y,gP] at e;cases e)]
    exact r.gh x o e
 ·have:=r.wh x e
  rw[zai (fun y=>this (by rw[y];exact hF)),zai (fun y=>this (by rw[y];exact hc))]
  exact r.wg x e
 ·obtain ⟨v,e1,e2⟩:=r.sl i bb e
  by_cases hi:i=j
  ·subst hi
   rw[hj] at e;cases e
   rw[hσ] at e1;cases e1
   refine ⟨_,hσ,P,ps ++ #[.int a t,.int b u,.ref c],rfl,hw,?_,?_,fun p cv hcv=>?_⟩
   ·rw[zai (Ne.symm fP),zai (Ne.symm cP),zaj]
   ·rw[Array.toList_append];exact zje T.tri
   ·rw[Array.toList_append] at hcv
    rcases zmm T.tri hcv with z | z
    ·obtain ⟨c2,q1,q2⟩:=T.cod p cv z
     exact ⟨c2,q1,sG _ _ q2⟩
    ·exact ⟨c,z,by rw[zai hne,zaj]⟩
  ·refine ⟨v,e1,e2.grow sG fun x o z1 z2=>⟨oth (fun y=>?_) z2,z1⟩⟩
   rw[y,hw] at z1
   exact hi (Option.some.inj z1).symm
theorem Rel.lamB(r:Rel K C G w ρ σ H)(hF:H Fa=none):Rel K C (upd G Fa (fHO Fa ob)) w ρ σ (upd H Fa (fHO Fa ob))∧zb9 G H w (upd G Fa (fHO Fa ob)) (upd H Fa (fHO Fa ob)) w :=
 let gr:ze9 G H (upd G Fa (fHO Fa ob)) (upd H Fa (fHO Fa ob)):=.new r.gh hF
 ⟨r.grow gr,gr.step⟩
theorem Rel.valsAt{C':Cn}{H':Hp}(r:Rel K C G w ρ σ H)(sm:zbG H H')(h1:C'.G₀=G)(h2:C'.H₀=H')(h3:C'.w₀=fun _=>none)(h4:C'.pp=[]):Rel K C' G (fun _=>none) (zaJ ρ) σ H':=by
 refine ⟨r.gh.trans sm,fun b e=>absurd rfl e,fun b e=>absurd rfl e,by unfold zaJ;rw[List.length_map];exact r.len,fun i b e=>?_,by rw[h1,h2,h3];exact .refl _ _ _,fun i hi=>by rw[h4] at hi;simp at hi⟩
 unfold zaJ at e
 rw[List.getElem?_map] at e
 cases q:ρ[i]? with
 | none=>rw[q] at e;cases e
 | some o =>
  rw[q] at e
  simp only[Option.map_some,Option.some.injEq] at e
  split at e
  ·rename_i d
   cases e
   obtain ⟨v,e1,e2⟩:=r.sl i _ q
   exact ⟨v,e1,e2⟩
  ·cases e
theorem ziN{bs:List B}:∀{ρ:Ev}{k:Nat},zf0 [] bs k ρ = ρ
 | [],_=>rfl
 | o :: r,k=>by unfold zf0;rw[ziN (ρ:=r)];rfl
end
def zk7(j:Nat)(q:Str)(fE:De):DN:=fun ρ=>match ρ[j]? with
 | some (some (.tab q'))=>if q'=q then match fE (zaJ ρ) with
   | .er n=>if n < 8 then .ok ([.int n],ρ) else .no
   | _=>.no
  else .no
 | _=>.no
def zjV(C:Cn)(G H:Hp)(σ:L2.St):Cn:=⟨G,H,fun _=>none,[0],σ,fun _=>False,C.xv,true⟩
def zmj(C:Cn)(G H:Hp)(σ:L2.St)(n:Nat):Cn:=⟨G,H,fun _=>none,[],σ,fun m=>m=n,C.xv,false⟩
section
variable{X:Cx}{C:Cn}{P f:Addr}{fd:FuncData}{st:Stmt}{xq xr:Str}{NR:List Str}{m k j:Nat}{p pos lpos:Pos}{params:Arguments}{body:Expr}{scope:Scope}{fE:De}{dB:Nat→Addr→DS}
theorem znc(LB:zgC X P)(hfn:X.fn=fun _=>true)(hpp:j∈C.pp)(hσ0:C.σ₀[j]? = some (some (.ref P)))(cls:Nat→Addr)(hxv:∀ n,n < 8→C.xv n = .ref (cls n))
  (Fu:Fun X.K xq xr st f fd) (S:za1 NR ["call"] (zac st)) (hNR:NR.length=m + 1) (hb:zfA X.K fd ["call"] []) (hm:X.mg xr=some (.ref f)) (hr:zdf (k + 2) X.A)
  (hB:∀(XR:Cx)(CR:Cn)(n:Nat)(Fa:Addr),n < 8→(∃ cdv A outer s H E,XR=zhs (CXe X.prog X.w) X.prog X.w X.K X.mg X.base NR xr (zac st) f cdv A outer s H E)→(∃ G H,CR=zjV C G H (start NR [.ref Fa]))→zdf (k + 1) XR.A →
   (∀ pins σ H s,L2.Inv XR pins σ H s→zbG CR.H₀ H→codeAny (model XR.prog XR.w) XR.A (.call (.ref Fa) ⟨[],[]⟩) (fun r s'=>∃ e,r = .error e∧CXf XR.prog XR.w XR.stack H s (EL (cls n) H) e s') s) →
   (∀ pins σ H s,L2.Inv XR pins σ H s→zbG CR.H₀ H→W.FnAt Fa s.heap)→JSs XR CR (zaw st) (dB n (cls n)))
  (hden:∀ n C',n < 8→∃ ρ',dB n C' (some .opq :: List.replicate m none) = .ok (.rt (.lst [.int n]),ρ'))
  (hE:∀(XL:Cx)(CL:Cn),(∃ XR cl Fa cdv s H E,XR.prog=X.prog∧XR.w=X.w∧XR.K=X.K∧XR.mg=X.mg∧XR.base=X.base∧XL=zho XR X.N scope cl (X.env.qual ++ "<lambda>") Fa cdv s H E)→CL.xv=C.xv→zdf k XL.A→zcm (CXe X.prog X.w) XL (EXc CL)→JE XL CL body fE)
  (hdef:defaultsOf params X.env=([],[]):=by rfl) (hk:scope.kind = .function:=by rfl) (ho:znD scope.names=true:=by rfl) (hfr:∀ y∈scope.names,y.2 = .free→X.env.kindOf y.1=some .cell∨X.env.kindOf y.1=some .free)
  (hbind:∀ cl pm cdv ctv,bindArgs (W.kla_fn "<lambda>" (X.env.qual ++ "<lambda>") params body scope cl pm cdv ctv) ⟨[],[]⟩=pure []) (hco:scope.isCoroutine=false:=by rfl) (hgen:scope.isGenerator=false:=by rfl)
  (hg:Gl X xr:=by rfl) (hdb:(xr == ("__debug__" : Str))=false:=by decide) (he:starEach [.Lambda params body scope lpos] X.env=(false,eval (.Lambda params body scope lpos) X.env) :: starEach [] X.env:=by rfl) (hpl:(backTo pos (starEach [] X.env)).any (·.1)=false:=by rfl) :
  JN X C (.Call (.Name xr p) [.Lambda params body scope lpos] [] pos) (zk7 j (X.env.qual ++ "<lambda>") fE):=by
 intro pins s σ H Q I ⟨G,w,ρ,r,pst⟩
 unfold zk7 at pst
 split at pst
 case h_2=>exact pst.elim
 rename_i q' hj
 split at pst
 case isFalse=>exact pst.elim
 rename_i hq'
 subst hq'
 split at pst
 case h_2=>exact pst.elim
 rename_i n hfE
 split at pst
 case isFalse=>exact pst.elim
 rename_i hn8
 have kn:kN X.K C σ Q G H w ([.int n],ρ):=pst
 obtain ⟨cl,hclos,hcl,hcf⟩:=zcd (scope:=scope) (env:=X.env) fun y hy hf=>I.ok.has y.1 (hfr y hy hf)
 obtain ⟨vP,eP1,P',ps,rfl,hwP,hHP,htri,hcod⟩:=r.sl j _ hj
 have hσj:σ[j]? = some (some (.ref P)):=by rw[r.pin j hpp];exact hσ0
 rw[hσj] at eP1
 obtain rfl:P=P':=by injection eP1 with e1;injection e1 with e2;injection e2
 have T:zkH P (X.env.qual ++ "<lambda>") G H ps:=⟨hHP,htri,hcod⟩
 have TH:zkH P (X.env.qual ++ "<lambda>") H H ps:=⟨hHP,htri,fun q cv z=>let ⟨c,z1,z2⟩:=hcod q cv z;⟨c,z1,r.gh _ _ z2⟩⟩
 refine wpAny_Call_Name_kw (zfL I hg hm ?_ hdb)
 let Made:V→Hp→Prop:=fun v H1=>∃ Fa c ctv G1,v = .ref Fa∧Rel X.K C G1 w ρ σ H1∧zb9 G H w G1 H1 w∧H1 Fa=some (fHO Fa (W.kla_obj "<lambda>" (X.env.qual ++ "<lambda>") params body scope cl ((X.mg "__name__").getD .none) c ctv))∧H1 c=some (cHO c (X.env.qual ++ "<lambda>"))
 refine W.callWith_K (h₀:=X.base) I.ok.mod.kin Fu.kp ?_ he hpl
 rw[he]
 refine Calls.spliced_cons (thn (zqu (pos:=lpos) (Q:=Made) LB I hdef hclos TH (fun c Fa ctv _ hc hF hne=>?_) fun c Fa ctv hk' hF=>?_) fun u s1 hEP=>?_)
 ·obtain ⟨rel1,st1⟩:=r.lamA (ob:=W.kla_obj "<lambda>" (X.env.qual ++ "<lambda>") params body scope cl ((X.mg "__name__").getD .none) c ctv) (a:=lpos.line) (b:=lpos.col) (t:=_) (u:=_) hj hσj hwP T hc hF hne
  exact ⟨Fa,c,ctv,_,rfl,rel1,st1,zaj,by rw[zai hne,zaj]⟩
 ·obtain ⟨rel1,st1⟩:=r.lamB (ob:=W.kla_obj "<lambda>" (X.env.qual ++ "<lambda>") params body scope cl ((X.mg "__name__").getD .none) c ctv) hF
  obtain ⟨c2,e1,e2⟩:=hcod _ _ hk'
  cases e1
  have hcH:=r.gh _ _ e2
  exact ⟨Fa,c,ctv,_,rfl,rel1,st1,zaj,by rw[zai (zah hcH hF)];exact hcH⟩
 obtain ⟨v,H1,I1,rv,Fa,c,ctv,G1,rfl,rel1,st1,hHF,hHc⟩:=hEP
 cases rv
 show wpAny _ _ (spliced []) _ _ s1
 refine Calls.spliced_nil ⟨I1.kIn,?_⟩
 obtain ⟨oc,od,kV,doc,pm,an,cdv,ct,osl,rfl,lk,hcd⟩:=Fu.ex
 refine wpAny_call (codeAny_mono (zsO (CX:=CXe X.prog X.w) (k:=k + 1) (E:=fun _ _ _=>False) (us:=[.ref Fa]) (vs:=[.ref Fa]) (N:=NR) (Q:=Q) lk hcd S hr I1.env0 (by simpa using hb s1 [.ref Fa] I1.kIn rfl) (.cons rfl .nil) rfl ?_) fun rr s2 hq=>?_)
 ·
  let XR:=zhs (CXe X.prog X.w) X.prog X.w X.K X.mg X.base NR xr (zac st) f cdv X.A X.stack s1 H1 (fun _ _ _=>False)
  let CR:=zjV C G1 H1 (start NR [.ref Fa])
  have frs0:∀ x cc,cl.lookup x=some cc→cc∉frs X.stack:=fun x cc e hmem=>by
   rcases List.mem_cons.mp (I1.stkSub cc hmem) with z | z
   ·exact I1.cne x cc (hcl x cc e) z
   ·obtain ⟨_,o,ho',_⟩:=I1.ok.funs.mem z
    exact absurd (Heap.lt_size ho') (Nat.not_lt.mpr (I1.ok.cab x cc (by rw[hfn]) (hcl x cc e)))
  have cells:∀ pinsR σR H2 s2,L2.Inv XR pinsR σR H2 s2→zgq X.N scope.names cl σ H2 s2.heap:=fun pinsR σR H2 s2 J=>by
   have mv:∀ x cc v,cl.lookup x=some cc→s1.heap.IsCell cc v→s2.heap.IsCell cc v:=fun x cc v e ⟨o,e1,e2⟩ =>
    ⟨o,J.base.keep cc o e1 (I1.freeC x cc (hcl x cc e)) (frs0 x cc e) (by show cc∉([]:List Addr);simp),e2⟩
   refine ⟨fun x y cc h1 h2=>I1.ok.inj x y cc (hcl x cc h1) (hcl y cc h2),fun x e=>hcf _ (zaX e) rfl,fun x cc e=>?_,fun i x v e1 e2 e3=>?_⟩
   ·obtain ⟨v,ic⟩:=I1.cell x cc (hcl x cc e)
    obtain ⟨o,e1,_⟩:=id ic
    exact ⟨⟨v,mv x cc v e ic⟩,J.base.free cc o e1 (I1.freeC x cc (hcl x cc e)) (by show cc∉([]:List Addr);simp)⟩
   ·have hmem:=zaX e3
    have kc:=hfr _ hmem rfl
    obtain ⟨m0,hn0,hl0⟩:=I1.loc
    obtain ⟨u,ru,lk'⟩:=hl0 i x v e1 e2 (kc.elim (fun z=>.inr (.inl z)) fun z=>.inr (.inr z))
    obtain ⟨cc,hcc⟩:=hcf _ hmem rfl
    refine ⟨u,cc,ru,hcc,?_⟩
    rcases lk' with ⟨z,_⟩ | ⟨_,c',e',ic⟩
    ·rcases kc with y | y <;> (rw[y] at z;cases z)
    ·rw[hcl _ _ hcc] at e';cases e'
     exact mv x cc _ hcc ic
  have objs:∀ pinsR σR H2 s2,L2.Inv XR pinsR σR H2 s2→zbG H1 H2→s2.heap.get? Fa=some (W.kla_obj "<lambda>" (X.env.qual ++ "<lambda>") params body scope cl ((X.mg "__name__").getD .none) c ctv)∧s2.heap.CodeRec (.ref c) (X.env.qual ++ "<lambda>"):=fun pinsR σR H2 s2 J sm=>by
   have o1:zcr XR.prog XR.w H2 s2.heap Fa (fHO Fa _):=J.hok Fa _ (sm _ _ hHF)
   have o2:zcr XR.prog XR.w H2 s2.heap c (cHO c _):=J.hok c _ (sm _ _ hHc)
   exact ⟨o1.1,o2.1⟩
  have hrR:zdf (k + 1) XR.A:=hr.deeper _
  have hjs:=hB XR CR n Fa hn8 ⟨cdv,X.A,X.stack,s1,H1,fun _ _ _=>False,rfl⟩ ⟨G1,H1,rfl⟩ hrR (fun pinsR σR H2 s2 J sm=>?_) fun pinsR σR H2 s2 J sm=>?_
  ·refine ⟨_,hjs,G1,fun _=>none,some .opq :: List.replicate m none,?_,?_⟩
   ·refine ⟨rel1.gh,fun b e=>absurd rfl e,fun b e=>absurd rfl e,?_,fun i b e=>?_,.refl _ _ _,fun i _=>rfl⟩
    ·unfold L2.start;simp[hNR]
    ·cases i with
     | zero =>
      simp at e;subst e
      exact ⟨.ref Fa,rfl,trivial⟩
     | succ i =>
      rw[List.getElem?_cons_succ,List.getElem?_replicate] at e
      split at e <;> cases e
   ·obtain ⟨ρ',e⟩:=hden n (cls n) hn8
    rw[e]
    intro v σ' G' H' w' st' rel' rt
    obtain ⟨l,pp,us,e1,rfl,e3,e4,e5,e6,e7⟩:=rt
    injection e1 with e1
    subst e1
    have win:wIn w []=fun _=>none:=by
     funext b;unfold wIn;cases w b <;> rfl
    obtain ⟨r2,st2⟩:=rel1.back (as:=[]) (vs:=[]) (bs:=[]) (bs':=[]) (ks:=[]) rfl rfl rfl rfl (by rw[win];exact st') ⟨rel'.gh,rel'.wg,rel'.wh,fun j' v' z=>by simp at z⟩
    rw[ziN] at r2
    have w1p:w pp=none:=by
     cases zz:w pp with
     | none=>rfl
     | some kk=>exact absurd e3 (rel1.wh pp (by rw[zz];simp))
    exact kn pp us G' H' _ (st1.trans st2) r2 (st1.k pp e3) e4 e5 (by unfold zmZ;rw[e6,w1p];rfl) e7
  ·
   obtain ⟨o1,o2⟩:=objs _ _ _ _ J sm
   have CLx:=zmj C G1 H2 σ n
   refine zlv (σ:=σ) (N:=X.N) (t:=tE X.K (zmj C G1 H2 σ n) fE) J rfl (by have:=hrR.dp;omega) hk ho (cells _ _ _ _ J) I1.len o1 o2 (hbind _ _ _ _) hco hgen ?_ ?_
   ·refine hE _ (zmj C G1 H2 σ n) ⟨XR,cl,Fa,.ref c,s2,H2,EL (cls n) H2,rfl,rfl,rfl,rfl,rfl,rfl⟩ rfl (hrR.deeper _) (zhI fun u a H' ⟨ea,n',eu,en,G',w',s'⟩=>?_)
    have en':n'=n:=en
    subst en'
    exact ⟨eu.trans (hxv n' hn8),fun b o e=>s'.h b o e rfl⟩
   ·refine ⟨G1,fun _=>none,zaJ ρ,rel1.valsAt sm rfl rfl rfl rfl,?_⟩
    rw[hfE]
    rfl
  ·obtain ⟨o1,_⟩:=objs _ _ _ _ J sm
   exact ⟨_,_,_,_,o1⟩
 ·cases rr with
  | error e=>exact (CXe.none hq).elim
  | ok fl =>
   cases fl with
   | ret u=>exact I1.after hq
   | next=>exact False.elim hq
   | brk=>exact False.elim hq
   | cont=>exact False.elim hq
end
theorem znb{P:Program}{w:World}{K:W.Frag}{mg mb:Str→Option Value}{CX:CXT}{k:Nat}{fa a PT cL:Addr}{fd:FuncData}{x:Str}{sp:Sp}{s₁:Shared}{vs:List Value}{ns:List Int}
  (KX:K.In s₁.heap) (hns:s₁.heap.Ns mainGlobals mg) (hb:s₁.heap.Ns builtinsNs mb) (hbb:∀ x:Str,x≠"__name__"→mb x=bootBuiltins x) (hlim:s₁.heap.NoLimit) (hg:s₁.gens = #[])
  (ha:s₁.heap.get? a=some { cls:=.type "list",data:=.seq vs.toArray }) (hi:IntsAre vs ns) (hl:ns.length≤sizeLine) (hr:zdf k callerA)
  (hPT:s₁.heap.get? PT=some (W.tabObj #[])) (hnt:W.noTabs K=true) (hcode:W.codeHdIn K cL PT=true) (hbm:s₁.heap.BuiltinsAt mg PT)
  (F:∀ base:Heap,K.In base→base.Ns mainGlobals mg→base.BuiltinsAt mg PT→zfl P w K mg base CX k fa fd [x] sp) (hbind:∀(s:Shared)(u:Value),BindsTo s fd ⟨[u],[]⟩ [(x,u)])
  (hsp:∀ H:Hp,H PT=some (.tbl #[])→SqL K H a (ns.map V.int)→sp [.ref a] H (fun v _=>v = .bl true) fun _ _ _=>False)
  (hCX:∀ H e s',CX [] H s₁ (fun _ _ _=>False) e s'→False) :
  codeAny (model P w) callerA (.call (.ref fa) ⟨[.ref a],[]⟩) (fun r s'=>r = .ok (.ret (.bool true))∧OldK s₁.heap s'.heap∧s'.os=s₁.os∧AllBare s'.gens) s₁:=by
 have rv:=vals_ints hi
 have lenV:=hi.length
 have aP:a≠PT:=fun z=>by
  rw[z,hPT] at ha
  have:=congrArg Obj.cls (Option.some.inj ha)
  cases this
 have kP:K.lookup PT=none:=by
  cases q:K.lookup PT with
  | none=>rfl
  | some o =>
   have e:=KX _ _ q
   rw[hPT] at e
   have h2:=List.all_eq_true.mp hnt (PT,o) (W.mem_of_lookupK q)
   cases e
   exact absurd (show false=true from h2) Bool.false_ne_true
 have core:∀ H:Hp,(∀ b,b≠PT→H b=none∨∃ o xs,H b=some (.frz o (.lst xs)))→H PT=some (.tbl #[])→SqL K H a (ns.map V.int)→HOk P w H s₁.heap→(∀ b,H b≠none→b=a∨b=PT)→(H a≠none→K.lookup a=none) →
   codeAny (model P w) callerA (.call (.ref fa) ⟨[.ref a],[]⟩) (fun r s'=>r = .ok (.ret (.bool true))∧OldK s₁.heap s'.heap∧s'.os=s₁.os∧AllBare s'.gens) s₁:=by
  intro H hO hP hS hok hA hK
  have base_of:∀{b:Addr}{o:Obj},s₁.heap.get? b=some o→H b=none→(zoD s₁.heap H).get? b=some o:=fun e n=>zp7 e n
  have other:∀{b:Addr}{o:Obj},s₁.heap.get? b=some o→o.cls≠.type "list"→o.cls≠.none→H b=none:=fun {b o} e d1 d2=>by
   cases q:H b with
   | none=>rfl
   | some u =>
    rcases hA b (by rw[q];simp) with z | z
    ·rw[z,ha] at e;cases e;exact absurd rfl d1
    ·rw[z,hPT] at e;cases e;exact absurd rfl d2
  have noA:∀{b:Addr}{o:Obj}{es:Array DictEntry}{ep:Nat},s₁.heap.get? b=some o→o.data = .dict es ep→H b=none:=fun {b o es ep} e d=>by
   cases q:H b with
   | none=>rfl
   | some u =>
    rcases hA b (by rw[q];simp) with z | z
    ·rw[z,ha] at e;cases e;cases d
    ·rw[z,hPT] at e;cases e;cases d
  have nsK:∀{b:Addr}{m:Str→Option Value},s₁.heap.Ns b m→(zoD s₁.heap H).Ns b m:=fun {b m} ⟨o,es,ep,e,d,r⟩=>⟨o,es,ep,base_of e (noA e d),d,r⟩
  have hKb:K.In (zoD s₁.heap H):=fun b o e=>base_of (KX b o e) (by
   cases q:H b with
   | none=>rfl
   | some u =>
    rcases hA b (by rw[q];simp) with z | z
    ·subst z
     rw[hK (by rw[q];simp)] at e;cases e
    ·rw[z,kP] at e;cases e)
  have hM:Mod K mg (zoD s₁.heap H):=⟨hKb,nsK hns,⟨mb,nsK hb,hbb⟩,let ⟨mc,h1,h2⟩:=hlim;⟨mc,nsK h1,h2⟩⟩
  have hbm':(zoD s₁.heap H).BuiltinsAt mg PT:=by
   obtain ⟨bm,o,b1,b2,b3,b4,b5,b6,b7⟩:=hbm
   exact ⟨bm,o,b1,b2,b3,b4,base_of b5 (other b5 (by rw[b6];decide) (by rw[b6];intro z;cases z)),b6,b7⟩
  have e0:zp8 P w K mg (zoD s₁.heap H) callerA [] s₁ H:=⟨rfl,hM,fun b o e=>zqB e,Nat.le_of_eq (zn3 _ _),trivial,fun b hb=>absurd (show b∈([]:List Addr) from hb) (by simp),hok,.of_eq hg⟩
  refine codeAny_mono ((F _ hKb (nsK hns) hbm').run callerA [] s₁ H ⟨[.ref a],[]⟩ [.ref a] [.ref a] _ _ hr e0 (hbind s₁ (.ref a)) (.cons rfl .nil) (hsp H hP hS)) fun r s' h=>?_
  cases r with
  | error e=>exact (hCX H e s' h).elim
  | ok fl =>
   cases fl with
   | next=>exact False.elim h
   | brk=>exact False.elim h
   | cont=>exact False.elim h
   | ret u =>
    obtain ⟨v,H',os,bare,un,hok',r',q⟩:=h
    have q':v = .bl true:=q
    subst q'
    obtain rfl:u=Value.bool true:=r'
    have kept:∀ b o,b≠PT→s₁.heap.get? b=some o→s'.heap.get? b=some o:=fun b o hb e=>by
     cases q:H b with
     | none=>exact un.keep b o e q (by intro z;exact absurd (show b∈([]:List Addr) from z) (by simp)) (by simp)
     | some u =>
      rcases hO b hb with z | ⟨ob,xs,z⟩
      ·rw[q] at z;cases z
      ·have z2:=un.frzs b ob _ z
       obtain ⟨e1,_⟩:=hok b _ z
       obtain ⟨e2,_⟩:=hok' b _ z2
       rw[e] at e1;cases e1
       exact e2
    obtain ⟨more,hm⟩:=un.tbls PT #[] hP
    have hPT':s'.heap.get? PT=some (W.tabObj (#[] ++ more)):=hok' PT _ hm
    have tab:=(W.codeHd_of_K KX hcode).tab hPT
    refine ⟨rfl,⟨fun b o e=>?_,fun b o e=>?_⟩,os,bare⟩
    ·by_cases hb:b=PT
     ·subst hb
      rw[hPT] at e;cases e
      exact .inr (.inl ⟨tab.isCodeTable,rfl,#[],more,rfl,hPT'⟩)
     ·exact .inl (kept b o hb e)
    ·by_cases hb:b=PT
     ·subst hb;exact ⟨_,hPT'⟩
     ·exact ⟨o,kept b o hb e⟩
 cases hk:K.lookup a with
 | some o =>
  have e:=KX a o hk
  rw[ha] at e
  cases e
  refine core (fun b=>if b=PT then some (.tbl #[]) else none) (fun b hb=>.inl (if_neg hb)) (if_pos rfl) (.inr ⟨_,vs.toArray,_,hk,rfl,rfl,rfl,by rw[List.size_toArray,lenV];exact hl,by simpa using rv⟩) (fun b u z=>?_) (fun b z=>?_) fun z=>absurd (if_neg aP) z
  ·by_cases hb:b=PT
   ·have z':=(if_pos hb).symm.trans z
    cases z'
    subst hb
    exact hPT
   ·have z':=(if_neg hb).symm.trans z
    cases z'
  ·by_cases hb:b=PT
   ·exact .inr hb
   ·exact absurd (if_neg hb) z
 | none =>
  refine core (fun b=>if b=PT then some (.tbl #[]) else if b=a then some (.frz { cls:=.type "list",data:=.seq vs.toArray } (.lst (ns.map V.int))) else none) (fun b hb=>?_) (if_pos rfl) (.inl (.inr ⟨{ cls:=.type "list",data:=.seq vs.toArray },(if_neg aP).trans (if_pos rfl)⟩)) (fun b u z=>?_) (fun b z=>?_) fun _=>hk
  ·by_cases hba:b=a
   ·exact .inr ⟨_,_,(if_neg hb).trans (if_pos hba)⟩
   ·exact .inl ((if_neg hb).trans (if_neg hba))
  ·by_cases hb:b=PT
   ·have z':=(if_pos hb).symm.trans z
    cases z'
    subst hb
    exact hPT
   ·have z:=(if_neg hb).symm.trans z
    by_cases hba:b=a
    ·have z':=(if_pos hba).symm.trans z
     cases z'
     subst hba
     exact ⟨ha,by rw[List.length_map];exact hl,vs,_,rv,ha⟩
    ·have z':=(if_neg hba).symm.trans z
     cases z'
  ·by_cases hb:b=PT
   ·exact .inr hb
   ·by_cases hba:b=a
    ·exact .inl hba
    ·exact absurd ((if_neg hb).trans (if_neg hba)) z
theorem zpj{l:W.OpenLaw}{n k:Nat}{q:Program}{loose:List Str}{XP:(Str→Option Value)→Heap→Prop}{YP:World→Heap→Prop}{d:DefRec}{K:Params→W.Frag}{CX:World→CXT}{sp:World→Sp}{x:Str}{PT:Addr}
  (hn:l.most=some n) (hn2:n≤sizeLine) (hdf:d.params.defaults=[]) (hr:zdf k callerA)
  (hY:∀(w:World)(h:Heap),YP w h→(K w.params).In h) (hYT:∀(w:World)(h:Heap),YP w h→h.get? PT=some (W.tabObj #[])) (hnt:∀ w:World,W.noTabs (K w.params)=true)
  (F:∀(w:World)(mg:Str→Option Value)(fa:Addr)(h:Heap),(K w.params).In h→h.Ns mainGlobals mg→mg d.name=some (.ref fa) →
   ∃(fd:FuncData)(cL:Addr),(∀(s:Shared)(u:Value),BindsTo s fd ⟨[u],[]⟩ [(x,u)])∧W.codeHdIn (K w.params) cL PT=true ∧
    ∀ base:Heap,(K w.params).In base→base.Ns mainGlobals mg→base.BuiltinsAt mg PT→zfl l.prog w (K w.params) mg base (CX w) k fa fd [x] (sp w))
  (hsp:∀(w:World)(H:Hp)(a:Addr)(ns:List Int),ns.length≤n→H PT=some (.tbl #[])→SqL (K w.params) H a (ns.map V.int)→sp w [.ref a] H (fun v _=>v = .bl true) fun _ _ _=>False)
  (hCX:∀(w:World)(H:Hp)(s:Shared)(e:Value)(s':Shared),CX w [] H s (fun _ _ _=>False) e s'→False) :
  W.WalkO q loose XP YP l.row.toRowW d [] (fun f vs=>PySem.call f vs):=by
 refine Att.attach_call hn hdf fun w s₀ s₁ mg mb fa o pm cd doc a vs ns G Y ho hd hcd hmg hobj hints hlen hg=>?_
 have KX:=hY w _ Y
 have hPT:=hYT w _ Y
 obtain ⟨fd,cL,hb,hcode,hF⟩:=F w mg fa _ KX G.T.g hmg
 have hbm:s₁.heap.BuiltinsAt mg PT:=by
  obtain ⟨bm,ob,b1,b2,b3,b4,b5,b6⟩:=G.T.bmain
  refine ⟨bm,ob,b1,b2,fun z=>?_,fun z=>?_,b3,b4,b5,b6⟩
  ·obtain ⟨o',es,ep,e,hd',_⟩:=G.T.g
   rw[z,e] at b3;cases b3;rw[hd'] at b6;cases b6
  ·rw[z,hPT] at b3;cases b3;cases b4
 exact znb KX G.T.g G.T.b G.T.builtins G.T.nolimit hg hobj hints (Nat.le_trans hlen hn2) hr hPT (hnt w) hcode hbm hF hb (fun H hP hS=>hsp w H a ns hlen hP hS) fun H e s'=>hCX w H s₁ e s'
theorem zjq{X:Cx}{pins:List (Addr × Obj)}{σ:L2.St}{H:Hp}{s:Shared}{j:Nat}{x:Str}{o:Option V}(I:L2.Inv X pins σ H s)(hj:X.N[j]? = some x)(hv:¬ Vis X.env.scope x):L2.Inv X pins (σ.set j o) H s:=by
 refine ⟨I.ok,I.os,I.bare,I.base,?_,I.cell,I.free,I.freeC,I.pin,I.hok,by simpa using I.len⟩
 obtain ⟨m,hn,hl⟩:=I.loc
 refine ⟨m,hn,fun i y v e1 e2 e3=>?_⟩
 by_cases hi:i=j
 ·subst hi
  rw[hj] at e1;cases e1
  exact absurd e3 hv
 ·rw[List.getElem?_set_ne (Ne.symm hi)] at e2
  exact hl i y v e1 e2 e3
def spT(K:W.Frag)(PT:Addr)(ok:List Int→Prop):Sp:=fun vs H Q _=>∃ a ns,vs=[.ref a]∧SqL K H a (ns.map V.int)∧H PT=some (.tbl #[])∧ok ns∧∀ H',Q (.bl true) H'
def zrL(m:Nat)(q:Str)(fb:DS)(ns:List Int):Prop:=∃ ρ',fb (some (.val (.scr ns)) :: (List.replicate m none ++ [some (.tab q)])) = .ok (.rt (.bl true),ρ')
theorem znR{P:Program}{w:World}{X:Cx}{C:Cn}(h:∀ n,¬ C.ex n):zcm (CXe P w) X (EXc C):=fun _ _ _ _ _ _ _ hx=>by
 rcases hx with ⟨_,_,_,_,_,_,_,_,_,_,_,_,_,_,_,n,_,z,_⟩ | ⟨_,_,_,_,_,_,_,_,n,_,z,_⟩ <;> exact (h n z).elim
theorem psF{P:Program}{w:World}{X:Cx}:zcm (CXe P w) X (fun _ _ _=>False):=fun _ _ _ _ _ _ _ hx=>(CXe.none hx).elim
section
variable{X:Cx}{C:Cn}{a b:Expr}{fa fb:De}{pos:Pos}
def zfE:Dt→Dt→R Dt
 | .tup x,.tup y=>if x.length + y.length≤16777216 then .ok (.tup (x ++ y)) else .no
 | _,_=>.no
def zrU(K:W.Frag):R2:=fun x y H Q=>∃ a b xs ys,x = .ref a∧y = .ref b∧SqT K H a xs∧SqT K H b ys∧xs.length + ys.length≤sizeLine ∧
 (xs=[]→Q (.ref b) H)∧(xs≠[]→ys=[]→Q (.ref a) H)∧(xs≠[]→ys≠[]→∀ p,H p=none→Q (.ref p) (upd H p (.tup (xs ++ ys))))
theorem zoP{prog:Program}{w:World}{A:Around}{E:Value→Shared→Prop}{s:Shared}{t b:Addr}{ws:List Value}{Q:Value→Shared→Prop}(ht:IsTup s.heap t ([]:List Value).toArray)(hb:IsTup s.heap b ws.toArray)(h:Q (.ref b) s) :
  wpAny (model prog w) A (binaryOp .Add (.ref t) (.ref b)) Q E s:=by
 obtain ⟨⟨c1,d1,dt1,sl1⟩,e1,q1,n1,r1⟩:=id ht
 obtain ⟨⟨c2,d2,dt2,sl2⟩,e2,q2,n2,r2⟩:=id hb
 simp only at q1 r1 q2 r2
 subst q1 r1 q2 r2
 exact concat_meets ⟨_,e1,rfl⟩ ⟨_,e2,rfl⟩ noFill_tuple_add seq_tuple_add F.slot_tuple_add F.entry_tuple_add (F.args_tuple_add_2 _ _) (tuple_addW0 t b ([]:List Value).toArray ws.toArray n1 n2 d1 d2 sl1 sl2 rfl) ⟨e1,e2,h⟩
theorem zr4:OpR X (binaryOp .Add) (zrU X.K):=by
 intro pins s σ H x y v u Q I rx ry h
 obtain ⟨a,b,xs,ys,rfl,rfl,ha,hb,hz,q0,q1,q2⟩:=h
 by_cases hx:xs=[]
 ·subst hx
  cases rx
  cases ry
  obtain ⟨its,r1,p1,_⟩:=I.tuple ha
  obtain ⟨its2,r2,p2,_⟩:=I.tuple hb
  obtain rfl:its=[]:=by cases r1;rfl
  exact zoP p1 p2 ⟨.ref b,H,I,rfl,q0 rfl⟩
 ·exact zrA pins s σ H _ _ v u Q I rx ry ⟨a,b,xs,ys,rfl,rfl,ha,hb,hx,hz,q1 hx,q2 hx⟩
theorem zoK:Op2 X.K (zrU X.K) zfE:=fun G H x y dx dy z Q sm hx hy e k=>by
 unfold zfE at e
 split at e
 ·rename_i l l'
  split at e
  ·rename_i hl
   cases e
   obtain ⟨a,vs,rfl,h1,h2⟩:=zcG hx
   obtain ⟨b,us,rfl,h3,h4⟩:=zcG hy
   have nil_of:∀{m:List Dt}{ws:List V},za6 X.K G m ws→ws=[]→m=[]:=fun {m ws} r z=>by
    have:=r.length;rw[z] at this;exact List.length_eq_zero_iff.mp this
   refine ⟨a,b,vs,us,rfl,rfl,zaM sm h1,zaM sm h3,by rw[← h2.length,← h4.length,zcV];exact hl,fun z=>?_,fun _ z=>?_,fun _ _ p hp=>?_⟩
   ·rw[nil_of h2 z] at k;exact k _ G H (.refl sm) hy
   ·rw[nil_of h4 z,List.append_nil] at k;exact k _ G H (.refl sm) hx
   ·have gr:ze9 G H (upd G p (.tup (vs ++ us))) (upd H p (.tup (vs ++ us))):=.new sm hp
    exact k _ _ _ gr (by unfold Rep;exact ⟨p,_,rfl,zjT.of zaj,(h2.same gr.g).append (h4.same gr.g)⟩)
  ·cases e
 ·cases e
theorem zos:zia zfE:=fun x y n h=>by
 unfold zfE at h
 split at h
 ·split at h <;> cases h
 ·cases h
theorem zk0(ha:JE X C a fa)(hb:JE X C b fb):JE X C (.BinOp a .Add b pos) (dOp zfE fa fb):=zkx zr4 zoK zos ha hb
theorem znS{p:Pos}:JE X C (.Dict [] [] p) (dC .dct):=fun pins s σ H Q I ⟨G,w,ρ,r,q⟩=>by
 have big:sysModules < s.heap.objs.size:=Nat.lt_trans (by decide) (I.mod.glob.keeps I.bk).lt
 have hf:H s.heap.objs.size=none:=I.hok.fresh (Nat.le_refl _)
 have ok:zcr X.prog X.w (upd H s.heap.objs.size (.dK [])) (s.heap.push { cls:=.type "dict",data:=.dict #[] }) s.heap.objs.size (.dK []):=⟨Nat.zero_le _,beq_eq_false_iff_ne.mpr (Ne.symm (Nat.ne_of_lt big)),[],.nil,Heap.DictOf.new s.heap⟩
 refine wpAny_Dict_empty ⟨.ref s.heap.objs.size,_,I.laid (t':=s.toks) (fun _ _ z=>Heap.get?_push_of_some _ z) (Nat.le_refl _) ok,rfl,?_⟩
 have gr:ze9 G H (upd G s.heap.objs.size (.dK [])) (upd H s.heap.objs.size (.dK [])):=.new r.gh hf
 exact q _ _ _ w gr.step (r.grow gr) (by unfold Rep;exact ⟨_,rfl,zaj⟩)
end
def dAC(ds:List Dt):DA:=fun ρ=>.ok (ds,ρ)
mutual
def zjn:Nat→Expr→Option Dt
 | 0,_=>none
 | k + 1,e=>match e with
  | .Constant (.int i) _ _=>some (.int i)
  | .Constant (.bool b) _ _=>some (.bl b)
  | .Constant .none _ _=>some .non
  | .Constant (.str x) _ _=>some (.str x)
  | .UnaryOp .USub (.Constant (.int i) _ _) _=>some (.int (-i))
  | .Tuple es _ _=>(zfb k es).bind fun ds=>if zem ds=true then some (.tup ds) else none
  | .List es _=>(zfb k es).bind fun ds=>if zem ds=true then some (.lst ds) else none
  | .Dict [] [] _=>some .dct
  | _=>none
def zfb:Nat→List Expr→Option (List Dt)
 | _,[]=>some []
 | 0,_ :: _=>none
 | k + 1,e :: es=>(zjn k e).bind fun d=>(zfb k es).bind fun ds=>some (d :: ds)
end
section
variable{X:Cx}{C:Cn}
theorem JE.eq{e:Expr}{f g:De}(h:JE X C e f)(q:f=g):JE X C e g:=q ▸ h
theorem JA.eq{e:List Expr}{f g:DA}(h:JA X C e f)(q:f=g):JA X C e g:=q ▸ h
mutual
theorem znW:∀(k:Nat){e:Expr}{d:Dt},zjn k e=some d→JE X C e (dC d)∧∀ es,starEach (e :: es) X.env=(false,eval e X.env) :: starEach es X.env
 | 0,e,d,h=>by simp[zjn] at h
 | k + 1,e,d,h=>by
  unfold zjn at h
  split at h
  ·cases h;exact ⟨zan,fun _=>rfl⟩
  ·cases h;exact ⟨zf3,fun _=>rfl⟩
  ·cases h;exact ⟨znn,fun _=>rfl⟩
  ·cases h;exact ⟨zga,fun _=>rfl⟩
  ·cases h;exact ⟨(zlK zan).eq rfl,fun _=>rfl⟩
  ·rename_i es x1 pos
   obtain ⟨ds,hds,h⟩:=Option.bind_eq_some_iff.mp h
   split at h
   ·rename_i hf
    cases h
    refine ⟨(zeS (zi9 k hds)).eq ?_,fun _=>rfl⟩
    funext ρ
    show (if zem ds=true then _ else _)=_
    rw[if_pos hf];rfl
   ·cases h
  ·rename_i es pos
   obtain ⟨ds,hds,h⟩:=Option.bind_eq_some_iff.mp h
   split at h
   ·rename_i hf
    cases h
    refine ⟨(zaD (zcn (zi9 k hds))).eq ?_,fun _=>rfl⟩
    funext ρ
    show (R.bind (if zem ds=true then _ else _) _)=_
    rw[if_pos hf];rfl
   ·cases h
  ·cases h;exact ⟨znS,fun _=>rfl⟩
  ·cases h
theorem zi9:∀(k:Nat){es:List Expr}{ds:List Dt},zfb k es=some ds→JA X C es (dAC ds)
 | k,[],ds,h=>by
  unfold zfb at h
  cases h
  exact zaF
 | 0,_ :: _,ds,h=>by simp[zfb] at h
 | k + 1,e :: es,ds,h=>by
  unfold zfb at h
  obtain ⟨d,h1,h⟩:=Option.bind_eq_some_iff.mp h
  obtain ⟨ds',h2,h⟩:=Option.bind_eq_some_iff.mp h
  cases h
  obtain ⟨j1,j2⟩:=znW k h1
  exact (zao j1 (zi9 k h2) (j2 es)).eq rfl
end
theorem jd(k:Nat){e:Expr}{d:Dt}(h:zjn k e=some d):JE X C e (dC d):=(znW k h).1
end
section
variable{X:Cx}{C:Cn}{a b:Expr}{fa fb:De}{pos:Pos}
end
end PV
end
section
namespace PV
open PySem PySem.Spec L2
open AutoSeq1 (wpAny_loadPart')
section
variable{X:Cx}{C:Cn}{a b o e:Expr}{es:List Expr}{fa fb:De}{pos apos cpos:Pos}{name:Str}{id:String}{to:TE}{t:TA}{r:V→List V→Hp→VK→Prop}
end
section
variable{X:Cx}{C:Cn}{e1 e2:Expr}{fk fv:De}{pos ps apos:Pos}{x:Str}
def zrq:V→List V→Hp→VK→Prop:=fun x vs H Q=>∃ l xs k y,x = .ref l∧vs=[.int k,y]∧H l=some (.lst xs)∧0≤k∧k.toNat≤xs.length∧xs.length < sizeLine∧Q .non (upd H l (.lst (xs.take k.toNat ++ y :: xs.drop k.toNat)))
theorem zji{y1 y2:V}{us:List Value}(h:zbk [y1,y2] us):∃ u1 u2,us=[u1,u2]∧zcD y1 u1∧zcD y2 u2:=by
 cases h with
 | cons h1 t=>cases t with
  | cons h2 t2=>cases t2;exact ⟨_,_,rfl,h1,h2⟩
theorem zjp:∀(k:Nat){xs:List V}{us:List Value},zbk xs us→zbk (xs.take k) (us.take k)
 | 0,_,_,_=>by simpa using Paired.nil
 | k + 1,_,_,.nil=>by simpa using Paired.nil
 | k + 1,_,_,.cons h t=>by simpa using Paired.cons h (zjp k t)
theorem ziX:∀(k:Nat){xs:List V}{us:List Value},zbk xs us→zbk (xs.drop k) (us.drop k)
 | 0,_,_,h=>by simpa using h
 | k + 1,_,_,.nil=>by simpa using Paired.nil
 | k + 1,_,_,.cons h t=>by simpa using ziX k t
theorem zr1{k:Int}(h0:0≤k)(h:k.toNat < 16777216):¬ (!Builtin.List.listFitsIndex k)=true:=by
 have:Builtin.List.listFitsIndex k=true:=fitsIndex_both (by omega) (by omega)
 rw[this];exact Bool.false_ne_true
theorem zqR(its:List Value)(k:Int)(u2:Value)(h0:0≤k)(hk:k.toNat≤its.length):(have m:=if k < 0 then (k + (its.toArray.size:Int)).toNat else min k.toNat its.toArray.size;(its.toArray.extract 0 m).push u2 ++ its.toArray.extract m)=(its.take k.toNat ++ u2 :: its.drop k.toNat).toArray:=by
 have e:(if k < 0 then (k + (its.toArray.size:Int)).toNat else min k.toNat its.toArray.size)=k.toNat:=by
  rw[if_neg (by omega),List.size_toArray,Nat.min_eq_left hk]
 dsimp only
 rw[e]
 apply Array.ext'
 simp
 rw[List.take_of_length_le (by simp)]
theorem zn2:MtM X "list.insert" zrq:=by
 intro pins s σ H x vs v us Q I rx rv h
 obtain ⟨l,xs,k,y,rfl,rfl,hH,h0,hk,hz,q⟩:=h
 cases rx
 obtain ⟨u1,u2,rfl,⟨t,ru1⟩,ru2⟩:=zji rv
 subst ru1
 obtain ⟨z,its,n,r,hl,e⟩:=I.lstM hH
 have hfit:=zr1 h0 (show k.toNat < 16777216 by rw[← zcV];omega)
 have hsz0:its.toArray.size≤sizeLine:=by rw[List.size_toArray];omega
 refine call_meets F.slot_list_insert ⟨_,e,rfl⟩ F.entry_list_insert (F.args_list_insert_3 _ _ _) (AutoSeq1.list_insert_list_int_val_1 l its.toArray n k t u2 hfit hsz0) ⟨e,?_⟩
 refine ⟨.non,_,I.lset (its':=its.take k.toNat ++ u2 :: its.drop k.toNat) hH e (zqR its k u2 h0 (by omega)) ((zjp _ r).append (.cons ru2 (ziX _ r))) ?_,rfl,q⟩
 rw[List.length_append,List.length_cons,List.length_take,List.length_drop]
 omega
def zpC(i:Nat)(fk fv:De):De:=fun ρ=>match ρ[i]? with
 | some (some (.own _))=>(fk ρ).bind fun k=>(fv k.2).bind fun v=>match v.2[i]?,k.1 with
  | some (some (.own ds)),.int n=>if 0≤n∧n≤ds.length∧ds.length < 16777216 then .ok (.non,v.2.set i (some (.own (ds.take n.toNat ++ v.1 :: ds.drop n.toNat)))) else .no
  | _,_=>.no
 | _=>.no
theorem zry(i:Nat)(hk:JE X C e1 fk)(hw:JE X C e2 fv)(hN:X.N[i]? = some x:=by rfl)(hv:Vis X.env.scope x:=by first | exact Or.inl rfl | exact Or.inr (Or.inl rfl) | exact Or.inr (Or.inr rfl))(hd:(x == ("__debug__" : Str))=false:=by decide)(hcd:(x == ("__classdict__" : Str))=false:=by decide)
  (hbase:attributeBase (.Name x ps) "insert" X.env (eval (.Name x ps) X.env)=eval (.Name x ps) X.env:=by rfl)
  (hfew:((backTo pos (starEach [e1,e2] X.env)).all (fun x=>!x.1) && (backToKw pos (keywordEach [] X.env)).all (fun x=>x.1.isSome) && decide ([e1,e2].length + ([]:List Keyword).length + (if ([]:List Keyword).isEmpty then 0 else 1) < 30))=true:=by rfl)
  (hline:(apos.endLine == pos.line)=true:=by rfl) (hs:starEach [e1,e2] X.env=(false,eval e1 X.env) :: starEach [e2] X.env:=by rfl) (hs2:starEach [e2] X.env=(false,eval e2 X.env) :: starEach [] X.env:=by rfl) (hplain:(backTo pos (starEach [e2] X.env)).any (·.1)=false:=by rfl) :
  JE X C (.Call (.Attribute (.Name x ps) "insert" apos) [e1,e2] [] pos) (zpC i fk fv) :=
 PE.weak (zmg PySem.F.plainAttrs_list PySem.F.slot_list_insert PySem.F.type_list_insert zn2 (zbR hN hv hd hcd) (zbe hk (zbe hw zc4 hs2) hs) hbase hfew hline hs hplain) fun σ H Q ⟨G,w,ρ,r,p⟩=>by
  unfold zpC at p
  split at p
  ·rename_i ds0 e0
   obtain ⟨a,vs,h1,h2,h3,h4⟩:=zc7 r e0
   refine ⟨.ref a,h1,.inl ⟨rfl,vs,SqL.of h3⟩,?_⟩
   refine zez (κ:=fun G H w=>kE X.K C σ Q G H w) zcA r p fun dk ρ1 v1 G1 H1 w1 r1 s1 q1 p1=>?_
   refine zez (κ:=fun G H w=>kE X.K C σ Q G H w) zcA r1 p1 fun dv ρ2 v2 G2 H2 w2 r2 s2 q2 p2=>?_
   dsimp only at p2
   split at p2
   ·rename_i ds n e2
    obtain ⟨a',vs',k1,k2,k3,k4⟩:=zc7 r2 e2
    rw[h1] at k1;cases k1
    split at p2
    ·rename_i hl
     obtain ⟨r',s'⟩:=r2.mutate e2 h1 k2 ((k4.take n.toNat).append (za6.cons q2 (k4.drop n.toNat)))
     have hlen:=k4.length
     exact ⟨a,vs',n,v2,rfl,by rw[zaE q1],k3,hl.1,by omega,by rw[← hlen,zcV];exact hl.2.2,p2 _ _ _ _ s' r' (by unfold Rep;rfl)⟩
    ·exact p2.elim
   ·exact p2.elim
  ·exact p.elim
end
structure Ep(h:Heap)(e it l:Addr)(i:Nat):Prop where
 e:∃ old,IsEnum h e it i old
 a:h.IsListIter it l i
theorem Ep.keep{h h':Heap}{e it l:Addr}{i:Nat}(p:Ep h e it l i)(k:∀ b∈[e,it],∀ o,h.get? b=some o→h'.get? b=some o):Ep h' e it l i :=
 ⟨let ⟨old,q⟩:=p.e;⟨old,k e (by simp) _ q⟩,p.a.at fun o q=>k it (by simp) o q⟩
theorem zlc{X:Cx}{pins:List (Addr × Obj)}{σ:L2.St}{H:Hp}{s:Shared}{a b:Addr}{xs:List V}(I:L2.Inv X pins σ H s)(hf:zeL X pins H b)(hs:SqL X.K H a xs):b≠a:=by
 rintro rfl
 rcases hs with (h | ⟨o,h⟩) | ⟨o,its,n,h,_⟩
 ·rw[hf.1] at h;cases h
 ·rw[hf.1] at h;cases h
 ·have hb:=I.mod.kin b o h
  rcases hf.2.2.2.1 with z | z
  ·exact I.ok.noex b o hb z
  ·exact absurd (Nat.lt_of_lt_of_le (Heap.lt_size hb) (Nat.le_trans I.ok.bsz z)) (Nat.lt_irrefl _)
section
variable{X:Cx}{C:Cn}{elts:List Expr}{x1:Nat}{pt:Pos}{a:Expr}{fa:De}{p pos:Pos}
end
end PV
end
section
namespace PV
open PySem PySem.Spec L2 PyProof.Rows
section
variable{X:Cx}{C:Cn}{a b:Expr}{fa fb:De}{pos:Pos}
end
section
variable{prog:Program}{w:World}{A:Around}{E:Value→Shared→Prop}{s:Shared}
theorem zfg{t sl:Addr}{items:Array Value}{vl vu:Value}{lo hi:Option Int}{Q:Value→Shared→Prop}(ht:IsTup s.heap t items)(hs:s.heap.IsSliceOf sl vl vu .none)(pl:IsPart vl lo)(pu:IsPart vu hi)
  (hw:HT.sIx items.size 0 lo=0∧HT.sIx items.size items.size hi=items.size) (h:Q (.ref t) s):wpAny (model prog w) A (getItem (.ref t) (.ref sl)) Q E s:=by
 obtain ⟨os,hos,hcs,hds⟩:=id hs
 have hTs:s.TypeIs (.ref sl) "slice":=⟨os,hos,hcs⟩
 unfold getItem
 try with_reducible refine wpAny_holding ?_
 first | refine wpAny_bind (wpAny_pure ?_) | skip
 refine wpAny_bind (wpAny_sequenceKey ht.typeIs (by decide) ?_)
 refine wpAny_bind (wpAny_callSpecial?_slot (name:=Str.ofString "__getitem__") ht.typeIs PyProof.Rows.slot_tuple_getitem
  (wpAny_call_entry PyProof.Rows.slot_tuple_getitem ht.typeIs entry_tuple_getitem ?_ (args_tuple_getitem _ _)))
 show wpAny _ _ (Builtin.Tuple.tupleItemsOf (.ref t) >>= _) _ _ s
 refine wpAny_bind (tupleItemsOf_ ht ?_)
 refine wpAny_bind (wpAny_typeOf hTs ?_)
 rw[if_pos (by decide)]
 refine wpAny_bind (HT.sliceApplied_gen hs pl pu ?_)
 have hyes:(((HT.sIx items.size 0 lo:Nat):Int) == 0 && (1:Int) == 1 && (HT.sIx items.size items.size hi - HT.sIx items.size 0 lo) == items.size)=true:=by
  rw[hw.1,hw.2];simp
 show wpAny _ _ (if (((HT.sIx items.size 0 lo:Nat):Int) == 0 && (1:Int) == 1 && (HT.sIx items.size items.size hi - HT.sIx items.size 0 lo) == items.size)=true then _ else _) _ _ s
 rw[if_pos hyes]
 refine wpAny_bind ?_
 unfold Builtin.Tuple.tupleIsExact
 refine wpAny_bind (wpAny_typeOf ht.typeIs (wpAny_pure ?_))
 rw[if_pos (by decide)]
 refine wpAny_bind (wpAny_rule ?_)
 exact wpAny_pure ⟨_,rfl,wpAny_pure h⟩
end
section
variable{X:Cx}{C:Cn}{a b e:Expr}{fa fb:De}{pos:Pos}
def rSlW(K:W.Frag):V→Option Int→Option Int→Hp→VK→Prop:=fun x lo hi H Q=>∃ a xs,x = .ref a∧SqT K H a xs ∧
 (HT.sIx xs.length 0 lo=0∧HT.sIx xs.length xs.length hi=xs.length)∧Q (.ref a) H
theorem zpA:SlR X (rSlW X.K):=by
 intro pins s σ H x v vl vu lo hi sl Q I rx hs pl pu h
 obtain ⟨a,xs,rfl,hx,hw,q⟩:=h
 cases rx
 obtain ⟨its,r,ht,hz⟩:=I.tuple hx
 have hlen:its.toArray.size=xs.length:=by rw[List.size_toArray];exact r.length.symm
 refine ⟨"tuple",_,PyProof.Rows.slot_tuple_getitem.lookup,ht.typeIs,?_⟩
 exact zfg ht hs pl pu (by rw[hlen];exact hw) ⟨.ref a,H,I,rfl,q⟩
def zes(fa:De)(fl fh:DO):De:=fun ρ=>(fa ρ).bind fun a=>(fl a.2).bind fun l=>(fh l.2).bind fun h=>match a.1 with
 | .tup ds=>.ok (.tup (zgO ds l.1 h.1),h.2)
 | _=>.no
theorem zii{lo hi:Option Expr}{fl fh:DO}{p2:Pos}(ha:JE X C a fa)(hl:JO X C lo fl)(hh:JO X C hi fh):JE X C (.Subscript a (.Slice lo hi none p2) pos) (zes fa fl fh) :=
 PE.weak (zl8 (zsm.or zpA) ha hl hh) fun σ H Q ⟨G,w,ρ,r,p⟩=>by
  refine zez (κ:=fun G H w=>kE X.K C σ Q G H w) zcA r p fun d ρ1 v G1 H1 w1 r1 s1 q1 p1=>?_
  refine zt0 (κ:=fun G H w=>kE X.K C σ Q G H w) zcA r1 p1 fun l ρ2 G2 H2 w2 r2 s2 p2=>?_
  refine zt0 (κ:=fun G H w=>kE X.K C σ Q G H w) zcA r2 p2 fun h ρ3 G3 H3 w3 r3 s3 p3=>?_
  cases d with
  | tup ds =>
   have q3:=q1.same (s2.g.trans s3.g)
   obtain ⟨ad,vs,rfl,h1,h2⟩:=zfs q3
   dsimp only at p3
   by_cases hw:HT.sIx ds.length 0 l=0∧HT.sIx ds.length ds.length h=ds.length
   ·refine .inr ⟨ad,vs,rfl,zaM r3.gh h1.sq,by rw[← h2.length];exact hw,?_⟩
    have e:zgO ds l h=ds:=by
     unfold zgO
     rw[hw.1,hw.2,List.drop_zero,Nat.sub_zero,List.take_length]
    rw[e] at p3
    exact p3 _ G3 H3 w3 (.refl _ _ _) r3 q3
   ·have fin:∀ p,H3 p=none→Q (.ref p) (upd H3 p (.tup (zmN vs l h))):=fun p hp=>by
     have gr:ze9 G3 H3 (upd G3 p (.tup (zmN vs l h))) (upd H3 p (.tup (zmN vs l h))):=.new r3.gh hp
     exact p3 _ _ _ w3 gr.step (r3.grow gr) (by unfold Rep;exact ⟨p,_,rfl,zjT.of zaj,(zlk h2 l h).same gr.g⟩)
    exact .inl ⟨ad,vs,rfl,zaM r3.gh h1.sq,by rw[← h2.length];exact hw,fin⟩
  | _=>exact p3.elim
end
section
variable{prog:Program}{w:World}{A:Around}{E:Value→Shared→Prop}{s:Shared}
theorem zkz{l:Addr}{vs:List Value}{Q:List Value→Shared→Prop}(hl:s.heap.IsTuple l vs.toArray)
  (h:Q vs { s with heap:=(s.heap.push (seqObj "list" #[] 0)).update s.heap.objs.size (Obj.mapSeq (· ++ vs.toArray)) }) (hsz:vs.length≤sizeLine) :
  wpAny (model prog w) A (collect (.ref l)) Q E s:=by
 obtain ⟨o,ho,hc,n,hd⟩:=id hl
 unfold collect
 refine wpAny_bind (wpAny_runValue (codeAny_builtin entry_proto_collect' ?_))
 show wpAny _ _ (do again (.builtin "list.__iadd__" ⟨[← newList [],.ref l],[]⟩)) _ _ s
 refine wpAny_bind (wpAny_newList (wpAny_pure ⟨Code.quiet_builtin _ (by decide +kernel),codeAny_builtin entry_list_iadd' ?_⟩))
 show wpAny _ _ (Builtin.List.listExtendWith (.ref s.heap.objs.size) (.ref l) (.ref s.heap.objs.size)) _ _ { s with heap:=s.heap.push (seqObj "list" #[] 0) }
 unfold Builtin.List.listExtendWith
 have ho':(s.heap.push (seqObj "list" #[] 0)).get? l=some o:=Heap.get?_push_of_some _ ho
 refine wpAny_bind (wpAny_typeOf (T:="tuple") ⟨o,ho',hc⟩ ?_)
 have ht:(Value.type "tuple" == Value.type "tuple")=true:=by rfl
 rw[if_pos (by rw[ht];simp)]
 refine wpAny_bind (listItems_at ho' hd ?_)
 refine wpAny_bind (listItems_at (xs:=#[]) (n:=0) (Heap.get?_push_size _ rfl) rfl ?_)
 rw[if_neg (by simp)]
 refine wpAny_bind (listUpdate_at (xs:=#[]) (n:=0) (Heap.get?_push_size _ rfl) rfl ?_ (Nat.zero_le _) (by show (#[] ++ vs.toArray).size≤sizeLine + 1;simp only[Array.size_append,List.size_toArray,List.length_nil];omega))
 refine wpAny_pure ?_
 show wpAny (model prog w) A (do
   let o ← load s.heap.objs.size
   match o.data with
   | .seq xs _=>pure xs.toList
   | _=>unsupported "internal:collect") Q E { s with heap:=(s.heap.push (seqObj "list" #[] 0)).update s.heap.objs.size (Obj.mapSeq (· ++ vs.toArray)) }
 refine wpAny_bind (wpAny_load (get?_update_seq (Heap.get?_push_size _ rfl) _) ?_)
 show wpAny _ _ (pure ((#[]:Array Value) ++ vs.toArray).toList) Q E _
 rw[show ((#[]:Array Value) ++ vs.toArray).toList=vs by simp]
 exact wpAny_pure h
theorem zj4{l:Addr}{vs:List Value}{ns:List Int}{Q:Value→Shared→Prop}(hl:s.heap.IsTuple l vs.toArray)(hI:IntsAre vs ns)(h64:vs.length < 64)
  (h:∀(out:Array Value)(ns':List Int),IntsAre out.toList ns'→ns'.Perm ns→ns'.Pairwise (· ≤ ·)→Q (.ref (s.heap.objs.size + 1)) { s with heap:=sortedAll s.heap vs out }) :
  wpAny (model prog w) A (call (.builtin "sorted") [.ref l]) Q E s:=by
 refine Calls.call_function_entry kind_sorted plain_sorted entry_sorted (args_sorted1 _) ?_
 unfold Builtin.«sorted»
 refine wpAny_bind (m:=checkCount "sorted" 1 1 _) (wpAny_pure ?_)
 refine wpAny_bind (zkz hl ?_ (by rw[zcV];omega))
 refine wpAny_bind (wpAny_newList ?_)
 have hsz:((s.heap.push (seqObj "list" #[] 0)).update s.heap.objs.size (Obj.mapSeq (· ++ vs.toArray))).objs.size=s.heap.objs.size + 1:=by
  rw[Heap.size_update,size_push']
 have hoL:(((s.heap.push (seqObj "list" #[] 0)).update s.heap.objs.size (Obj.mapSeq (· ++ vs.toArray))).push (seqObj "list" vs.toArray 0)).get? (s.heap.objs.size + 1)=some (seqObj "list" vs.toArray 0):=by
  rw[← hsz];exact Heap.get?_push_size _ rfl
 show wpAny _ _ _ _ _ { s with heap:=((s.heap.push (seqObj "list" #[] 0)).update s.heap.objs.size (Obj.mapSeq (· ++ vs.toArray))).push (seqObj "list" vs.toArray 0) }
 rw[hsz]
 refine wpAny_bind (wpAny_holding (wpAny_call_entry slot_list_sort ⟨_,hoL,rfl⟩ entry_list_sort (list_sort_tree hoL hI h64 fun out ns' a1 a2 a3=>⟨_,rfl,?_⟩) (args_list_sort _)))
 exact wpAny_pure ⟨_,rfl,h out ns' a1 a2 a3⟩
end
section
variable{X:Cx}{C:Cn}{a b e:Expr}{fa fb:De}{pos:Pos}
theorem zmE:zcO X (.builtin "sorted") (fun xs H Q=>∃(p:Addr)(ns:List Int),xs=[.ref p]∧SqT X.K H p (ns.map V.int)∧ns.length < 64∧∀ l,H l=none→Q (.ref l) (upd H l (.lst ((zbt ns).map V.int)))):=by
 intro pins s σ H xs us Q I r h
 obtain ⟨p,ns,rfl,hq,hl,q⟩:=h
 obtain ⟨u,rfl,ru⟩:=zfO r
 cases ru
 obtain ⟨its,rv,pl,hz⟩:=I.tuple hq
 have hlen:its.length=ns.length:=by rw[← rv.length];simp
 refine zj4 (show s.heap.IsTuple p its.toArray from pl) (PV.intsAre_of rv) (by omega) fun out ns' a1 a2 a3=>?_
 have e:ns'=zbt ns:=W.lks_uniq (a2.trans (zbj ns).symm) a3 (zdA ns)
 subst e
 obtain ⟨c,hc⟩:=PyProof.Rows.sortedAll_at s.heap its out
 refine ⟨.ref (s.heap.objs.size + 1),_,I.laid (t':=s.toks) (fun b o=>PyProof.Rows.sortedAll_old) (Nat.le_succ _) (o:=.lst ((zbt ns).map V.int)) ⟨?_,out.toList,c,PV.vals_ints a1,?_⟩,rfl,q _ (I.hok.fresh (Nat.le_succ _))⟩
 ·rw[List.length_map,(zbj ns).length_eq,zcV];omega
 ·simpa using hc
def zcJ:List Dt→R (List Dt)
 | [.tup l]=>match zh3 l with
  | some ns=>if ns.length < 64 then .ok ((zbt ns).map .int) else .no
  | none=>.no
 | _=>.no
theorem zoM{K:W.Frag}:FnN K (fun xs H Q=>∃(p:Addr)(ns:List Int),xs=[.ref p]∧SqT K H p (ns.map V.int)∧ns.length < 64∧∀ l,H l=none→Q (.ref l) (upd H l (.lst ((zbt ns).map V.int)))) zcJ:=fun G H vs ds z Q gh hr e k=>by
 unfold zcJ at e
 split at e
 ·split at e
  ·rename_i ns en
   split at e
   ·rename_i hl
    obtain ⟨v,rfl,h1⟩:=zfR hr
    obtain ⟨a,us,rfl,h2,h3⟩:=zfs h1
    cases e
    rw[zic h3 en] at h2
    exact ⟨a,ns,rfl,zaM gh h2.sq,hl,fun l hl=>k l _ hl (zgz _)⟩
   ·cases e
  ·cases e
 ·cases e
theorem zoR:zkM zcJ:=fun x n h=>by
 unfold zcJ at h
 split at h
 ·split at h
  ·split at h <;> cases h
  ·cases h
 ·cases h
theorem ziK{x:Expr}{p:Pos}(hg:Gl X "sorted")(hm:X.mg "sorted"=none)(ha:JE X C x fa)(hs:starEach [x] X.env=(false,eval x X.env) :: starEach [] X.env:=by rfl)(hpl:(backTo pos (starEach [] X.env)).any (·.1)=false:=by rfl) :
  JN X C (.Call (.Name "sorted" p) [x] [] pos) (zfq zcJ (dA fa dA0)) :=
 zlN zoM zoR zmE hg hm PyProof.Rows.boot_sorted (zao ha zaF hs) (by decide) (by decide) hs hpl
end
def spH(PT:Addr)(sp:Sp):Sp:=fun vs H Q E=>sp (vs ++ [.ref PT]) H Q E
def dRT(j:Nat)(fr:DAr):DAr:=fun ρ=>(fr ρ).bind fun b=>.ok (b.1 ++ [.s j],b.2)
theorem zfC{K:W.Frag}{G:Hp}{σ:L2.St}{i:Nat}{v:V}(hi:σ[i]? = some (some v)):∀{as:List Arg}{vs:List V},zdb K G σ as vs→zdb K G σ (as ++ [.s i]) (vs ++ [v])
 | [],vs,h=>by cases h;exact ⟨v,[],rfl,hi,rfl⟩
 | .d x :: r,vs,⟨v0,t,e,h2,h3⟩=>by subst e;exact ⟨v0,t ++ [v],rfl,h2,zfC hi h3⟩
 | .s k :: r,vs,⟨v0,t,e,h2,h3⟩=>by subst e;exact ⟨v0,t ++ [v],rfl,h2,zfC hi h3⟩
section
variable{X:Cx}{C:Cn}{CX:CXT}{k k':Nat}{ks:List Bool}{Fd:FD}{x:Str}{p pos:Pos}{e:Expr}{es:List Expr}{far:DAr}{j:Nat}{PT:Addr}
theorem zlR{σ:L2.St}{H:Hp}{Q:VK}(hpp:j∈C.pp)(hσ0:C.σ₀[j]? = some (some (.ref PT)))(h:tE X.K C (zaf Fd (dRT j far)) σ H Q)(hks:∀ bs,Fd bs≠.no→zb5 bs=ks):zpm (spH PT (zpQ false X.K C.xv ks Fd)) [] (EXc C) (tAr X.K C far) σ H Q:=by
 obtain ⟨G,w,ρ,r,p⟩:=h
 unfold zaf dRT at p
 rw[R.bind_assoc] at p
 simp only[R.bind_ok] at p
 refine znd (κ:=fun G H w=>kE X.K C σ Q G H w) zcA r p fun as0 ρ1 vs0 G1 H1 w1 r1 s1 q0 p1=>?_
 rw[List.append_nil]
 have hσj:σ[j]? = some (some (.ref PT)):=by rw[r1.pin j hpp];exact hσ0
 have q1:=zfC hσj q0
 dsimp only at p1
 generalize as0 ++ [Arg.s j]=as at p1 q1
 unfold spH
 generalize vs0 ++ [V.ref PT]=vs at q1
 by_cases hu:zhk as=true
 ·simp only[hu,if_true] at p1
  cases er:za0 ρ1 as with
  | ok bs =>
   rw[er,R.bind_ok] at p1
   have hk:zb5 bs=ks:=by
    refine hks bs fun z=>?_
    rw[z] at p1;exact p1
   have hl:bs.length=vs.length:=zf4 q1 er
   refine ⟨G1,wIn w1 as,bs,by rw[← hk,← hl];simp[zb5],hk,⟨r1.gh,fun b e=>r1.wg b fun z=>e (by unfold wIn;rw[z];rfl),fun b e=>r1.wh b fun z=>e (by unfold wIn;rw[z];rfl),hl,fun j b v e1 e2=>?_⟩,?_⟩
   ·have:=zgW r1 (as:=as) (k:=0) (j:=j) (fun m i e=>by rw[Nat.zero_add];exact ziE hu e) q1 er e1 e2
    rw[Nat.zero_add] at this;exact this
   ·cases ef:Fd bs with
    | ok z =>
     rw[ef,R.bind_ok] at p1
     intro v G' H' w' s' pb q
     obtain ⟨r',st⟩:=r1.back hu q1 er hk s' pb
     exact p1 v G' H' _ st r' q
    | er n =>
     rw[ef] at p1
     intro G' H' w' s'
     refine ⟨rfl,n,rfl,p1,G',fun _=>none,r1.en.trans ⟨s'.g,fun b o e=>?_,fun b o e z=>s'.h b o e (by unfold wIn;rw[z];rfl),fun b e=>absurd rfl e,s'.k⟩⟩
     rcases s'.fr b o e with q | q | q
     ·exact .inl q
     ·exact .inr (.inl q)
     ·exact .inr (.inr fun z=>q (by unfold wIn;rw[z];rfl))
    | no=>rw[ef] at p1;exact p1.elim
  | er n=>exact absurd er zd8
  | no=>rw[er] at p1;exact p1.elim
 ·simp only[hu] at p1;exact p1.elim
structure ztZ(P:Program)(w:World)(K:W.Frag)(mg:Str→Option Value)(base:Heap)(CX:CXT)(xv:Nat→Value)(k:Nat)(x:Str)(ks:List Bool)(PT:Addr)(F:FD):Prop where
 ex:∃(f:Addr)(fd:FuncData)(ps:List Str),zfl P w K mg base CX k f fd ps (spH PT (zpQ false K xv ks F))∧mg x=some (.ref f)∧W.keepIn K (.ref f)=true∧zfA K fd ps []∧∀ bs,F bs≠.no→zb5 bs=ks
theorem zs3(D:ztZ X.prog X.w X.K X.mg X.base CX C.xv k x ks PT Fd)(hr:zdf k' X.A)(hk:k≤k')(hx:zcm CX X (EXc C))(hpp:j∈C.pp)(hσ0:C.σ₀[j]? = some (some (.ref PT)))(ha:JAr X C (e :: es) far)(hg:Gl X x:=by rfl)(hdb:(x == ("__debug__" : Str))=false:=by decide)(he:starEach (e :: es) X.env=(false,eval e X.env) :: starEach es X.env:=by rfl)
  (hpl:(backTo pos (starEach es X.env)).any (·.1)=false:=by rfl):JE X C (.Call (.Name x p) (e :: es) [] pos) (zaf Fd (dRT j far)):=by
 obtain ⟨f,fd,ps,h1,h2,h3,h4,h5⟩:=D.ex
 exact PE.weak (zi7 h1 (hr.mono hk) hg h2 h3 h4 .nil hx ha hdb he hpl) fun σ H Q h=>zlR hpp hσ0 h h5
end
theorem zn1{N:List Str}{vs:List V}{v:V}(h:vs.length < N.length):(L2.start N vs).set vs.length (some v)=L2.start N (vs ++ [v]):=by
 unfold L2.start
 obtain ⟨m,hm⟩ : ∃ m,N.length - vs.length=m + 1:=⟨N.length - vs.length - 1,by omega⟩
 rw[hm,List.replicate_succ,List.length_append,List.length_singleton,show N.length - (vs.length + 1)=m by omega,List.map_append]
 rw[List.set_append_right _ _ (by simp)]
 simp
theorem zpr{P:Program}{w:World}{K:W.Frag}{mg:Str→Option Value}{base:Heap}{xq qual xt:Str}{st:Stmt}{N ps:List Str}{xv:Nat→Value}{m k:Nat}{ks:List Bool}{fb:DS}{f PT cL:Addr}{fd:FuncData}(Fu:Fun K xq qual st f fd)(hcL:fd.code = .ref cL)(hch:W.codeHdIn K cL PT=true)
  (S:za1 N ps (zac st)) (hl:ps.length=ks.length) (hm:N.length=(ks ++ [true]).length + m) (hj:N[ks.length]? = some xt) (hv:¬ Vis (zac st) xt) (hbm:base.BuiltinsAt mg PT) (hKb:K.In base)
  (hbody:∀(X:Cx)(C:Cn),(∃ cdv A outer s H E,X=zhs (CXe P w) P w K mg base N qual (zac st) f cdv A outer s H E)→C.pp=zaZ (ks ++ [true])→C.σ₀[ks.length]? = some (some (.ref PT))→C.xv=xv→C.nw=false→zdf k X.A→zcm (CXe P w) X (EXc C)→PassesOwn (model X.prog X.w) X.A X.env X.xe→zgC X PT→JSs X C (zaw st) fb) :
  zfl P w K mg base (CXe P w) (k + 1) f fd ps (spH PT (zpQ false K xv (ks ++ [true]) (zas false (ks ++ [true]) m fb))):=by
 obtain ⟨oc,od,kV,doc,pm,an,cdv,ct,osl,rfl,lk,hcd⟩:=Fu.ex
 obtain rfl:cdv = .ref cL:=hcL
 refine zoQ lk hcd S (fun vs H Q E ⟨_,_,_,h,_⟩=>by simp at h;omega) fun A outer s H vs0 Q E hr hsp=>?_
 obtain ⟨G,w0,bs,hv',hk,pr,hF⟩:=hsp
 have hlen0:vs0.length=ks.length:=by simpa using hv'
 have hNl:vs0.length < N.length:=by rw[hm,hlen0];simp;omega
 have hset:=zn1 (N:=N) (vs:=vs0) (v:=V.ref PT) hNl
 rw[hlen0] at hset
 generalize hvs:vs0 ++ [V.ref PT]=vs at hv' pr hF hset
 have hlast:vs[ks.length]? = some (.ref PT):=by rw[← hvs,← hlen0];simp
 generalize hks':ks ++ [true]=ks' at *
 let X:=zhs (CXe P w) P w K mg base N qual (zac st) f (.ref cL) A outer s H E
 let C:Cn:=⟨G,H,w0,zaZ ks',L2.start N vs,fun n=>zas false ks' m fb bs = .er n,xv,false⟩
 have hE:∀ u a H',EXc C u a H'→E u a H':=fun u a H' ⟨ea,n,eu,en,G',w',s'⟩=>by
  subst ea;subst eu
  have en':zas false ks' m fb bs = .er n:=en
  rw[en'] at hF
  exact hF G' H' w' s'
 have hσ:(L2.start N vs)[ks.length]? = some (some (.ref PT)):=by
  unfold L2.start
  rw[List.getElem?_append_left (by simpa using (List.getElem?_eq_some_iff.mp hlast).1),List.getElem?_map,hlast];rfl
 have hb:=hbody X C ⟨.ref cL,A,outer,s,H,E,rfl⟩ rfl hσ rfl rfl hr (zaI N qual (zac st) f (.ref cL) A outer s H E (EXc C) S.kind hE) PassesOwn.leaving ⟨⟨cL,rfl,W.codeHd_of_K hKb hch⟩,hbm⟩
 refine ⟨fun D σ H=>tS K C fb D (σ.set ks.length (some (.ref PT))) H,fun pins s' σ H' D I h=>hb pins s' _ H' D (zjq I hj hv) h,?_⟩
 show tS K C fb _ ((L2.start N vs0).set ks.length (some (V.ref PT))) H
 rw[hset]
 refine ⟨G,w0,bs.map some ++ List.replicate m none,?_,?_⟩
 ·refine ⟨pr.gh,pr.wg,pr.wh,?_,fun i b e=>?_,.refl _ _ _,fun i _=>rfl⟩
  ·unfold L2.start
   simp only[List.length_append,List.length_map,List.length_replicate]
   have:=pr.len
   omega
  ·have hi:i < bs.length:=by
    by_cases hi:i < bs.length
    ·exact hi
    ·rw[List.getElem?_append_right (by simpa using hi),List.getElem?_replicate] at e
     split at e <;> cases e
   rw[List.getElem?_append_left (by simpa using hi),List.getElem?_map] at e
   have eb:bs[i]? = some b:=by
    cases q:bs[i]? with
    | none=>rw[q] at e;cases e
    | some z=>rw[q] at e;cases e;rfl
   have hiv:i < vs.length:=by rw[← pr.len];exact hi
   refine ⟨vs[i],?_,pr.sl i b vs[i] eb (by simp[hiv])⟩
   unfold L2.start
   rw[List.getElem?_append_left (by simpa using hiv),List.getElem?_map]
   simp[hiv]
 ·have hF':match zas false ks' m fb bs with
   | .ok a=>∀ v G' H' w',zb9 G H w0 G' H' w'→zm3 K G' H' w' ks' a.2 vs→RtG false K H G' H' w' a.1 v→Q v H'
   | .er n=>∀ G' H' w',zb9 G H w0 G' H' w'→E (xv n) none H'
   | .no=>False:=hF
  have er:zas false ks' m fb bs=(fb (bs.map some ++ List.replicate m none)).bind fun a=>match a.1 with
   | .nx=>if false=true then .no else (zay ks' a.2).bind fun l=>.ok (.non,l)
   | .rt d=>(zay ks' a.2).bind fun l=>.ok (d,l)
   | _=>.no:=by unfold zas;exact if_pos hk
  have back:∀{ρ':Ev}{l:List B}{σ':L2.St}{G' H':Hp}{w':Wn},zay ks' ρ' = .ok l→Rel K C G' w' ρ' σ' H'→zm3 K G' H' w' ks' l vs:=fun {ρ' l σ' G' H' w'} eb r'=>by
   refine ⟨r'.gh,r'.wg,r'.wh,fun j v e1 e2=>?_⟩
   obtain ⟨b,h1,h2⟩:=zdS eb e1
   obtain ⟨v',h3,h4⟩:=r'.sl j b h2
   have hj:j < ks'.length:=(List.getElem?_eq_some_iff.mp e1).1
   have hp:σ'[j]? = (L2.start N vs)[j]? := r'.pin j (by
    show j∈zaZ ks'
    unfold zaZ
    rw[List.mem_filter]
    exact ⟨List.mem_range.mpr hj,by simp[e1]⟩)
   have hs:(L2.start N vs)[j]? = some (some v):=by
    unfold L2.start
    rw[List.getElem?_append_left (by simpa using (List.getElem?_eq_some_iff.mp e2).1),List.getElem?_map,e2];rfl
   rw[hp,hs] at h3;cases h3
   exact ⟨b,h1,h4⟩
  cases ef:fb (bs.map some ++ List.replicate m none) with
  | ok z =>
   obtain ⟨fl,ρ'⟩:=z
   rw[ef,R.bind_ok] at er
   cases fl with
   | nx =>
    intro σ' G' H' w' s' r'
    have er:zas false ks' m fb bs=(zay ks' ρ').bind fun l=>.ok (.non,l):=er
    cases eb:zay ks' ρ' with
    | ok l =>
     rw[er] at hF';simp only[eb,R.bind_ok] at hF'
     exact hF' _ G' H' w' s' (back eb r') (by unfold RtG Rep;rfl)
    | er n=>exact absurd eb zcQ
    | no =>
     have er':zas false ks' m fb bs = .no:=by rw[er];show ((zay ks' ρ').bind _)=_;rw[eb];rfl
     rw[er'] at hF';exact hF'.elim
   | rt d =>
    intro v σ' G' H' w' s' r' q
    cases eb:zay ks' ρ' with
    | ok l =>
     rw[er] at hF';simp only[eb,R.bind_ok] at hF'
     exact hF' _ G' H' w' s' (back eb r') q
    | er n=>exact absurd eb zcQ
    | no =>
     have er':zas false ks' m fb bs = .no:=by rw[er];show ((zay ks' ρ').bind _)=_;rw[eb];rfl
     rw[er'] at hF';exact hF'.elim
   | bk=>rw[er] at hF';exact hF'.elim
   | ct=>rw[er] at hF';exact hF'.elim
  | er n =>
   show zas false ks' m fb bs = .er n
   rw[er,ef];rfl
  | no=>rw[er,ef] at hF';exact hF'.elim
theorem zr2{P:Program}{w:World}{K:W.Frag}{mg:Str→Option Value}{base:Heap}{xq qual xs xt q:Str}{st:Stmt}{N:List Str}{xv:Nat→Value}{m k:Nat}{fb:DS}{f PT:Addr}{fd:FuncData}
  (Fu:Fun K xq qual st f fd) (S:za1 N [xs] (zac st)) (hm:N.length=m + 2) (hj:N[m + 1]? = some xt) (hv:¬ Vis (zac st) xt)
  (hbody:∀(X:Cx)(C:Cn),(∃ cdv A outer s H E,X=zhs (CXe P w) P w K mg base N qual (zac st) f cdv A outer s H E)→C.pp=[m + 1]→C.σ₀[m + 1]? = some (some (.ref PT))→C.xv=xv→C.nw=false→zdf k X.A→zcm (CXe P w) X (EXc C)→PassesOwn (model X.prog X.w) X.A X.env X.xe→JSs X C (zaw st) fb) :
  zfl P w K mg base (CXe P w) (k + 1) f fd [xs] (spT K PT (zrL m q fb)):=by
 obtain ⟨oc,od,kV,doc,pm,an,cdv,ct,osl,rfl,lk,hcd⟩:=Fu.ex
 refine zoQ lk hcd S (fun vs H Q E ⟨a,ns,h,_⟩=>by rw[h];rfl) fun A outer s H vs Q E hr hsp=>?_
 obtain ⟨a,ns,rfl,hS,hP,⟨ρ',hok⟩,hQ⟩:=hsp
 let X:=zhs (CXe P w) P w K mg base N qual (zac st) f cdv A outer s H E
 let G:Hp:=fun b=>if b=PT then none else H b
 let w0:Wn:=fun b=>if b=PT then some (m + 1) else none
 let σ1:L2.St:=(L2.start N [.ref a]).set (m + 1) (some (.ref PT))
 let C:Cn:=⟨G,H,w0,[m + 1],σ1,fun _=>False,xv,false⟩
 have lS:(L2.start N [V.ref a]).length=m + 2:=by unfold L2.start;simp[hm]
 have hb:=hbody X C ⟨cdv,A,outer,s,H,E,rfl⟩ rfl (by show σ1[m + 1]? = _;rw[List.getElem?_set_self (by rw[lS];omega)]) rfl rfl hr
  (zaI N qual (zac st) f cdv A outer s H E (EXc C) S.kind fun u b H' ⟨_,n,_,z,_⟩=>z.elim) PassesOwn.leaving
 refine ⟨fun D σ H=>tS K C fb D (σ.set (m + 1) (some (.ref PT))) H,fun pins s' σ H' D I h=>hb pins s' _ H' D (zjq I hj hv) h,G,w0,some (.val (.scr ns)) :: (List.replicate m none ++ [some (.tab q)]),?_,?_⟩
 ·have gP:G PT=none:=if_pos rfl
  have gO:∀{b:Addr},b≠PT→G b=H b:=fun h=>if_neg h
  have wP:w0 PT=some (m + 1):=if_pos rfl
  have wO:∀ b,w0 b≠none→b=PT:=fun b e=>by
   by_cases hb:b=PT
   ·exact hb
   ·exact absurd (if_neg hb) e
  refine ⟨fun b o e=>?_,fun b e=>by rw[wO b e];exact gP,fun b e=>by rw[wO b e,hP];simp,by simp[lS],fun i b e=>?_,.refl _ _ _,fun i _=>rfl⟩
  ·by_cases hb:b=PT
   ·rw[hb,gP] at e;cases e
   ·rw[gO hb] at e;exact e
  ·cases i with
   | zero =>
    simp at e;subst e
    refine ⟨.ref a,?_,?_⟩
    ·rw[List.getElem?_set_ne (by omega)];unfold L2.start;simp
    ·show Rep K G (.scr ns) (.ref a)
     unfold Rep
     refine ⟨a,rfl,?_⟩
     rcases hS with (h | ⟨o,h⟩) | h
     ·exact .inl (.inl ((gO fun z=>by rw[z,hP] at h;cases h).trans h))
     ·exact .inl (.inr ⟨o,(gO fun z=>by rw[z,hP] at h;cases h).trans h⟩)
     ·exact .inr h
   | succ i =>
    rw[List.getElem?_cons_succ] at e
    by_cases hi:i < m
    ·rw[List.getElem?_append_left (by simpa using hi),List.getElem?_replicate] at e
     split at e <;> cases e
    ·rw[List.getElem?_append_right (by simpa using hi)] at e
     simp only[List.length_replicate] at e
     have him:i=m:=by
      by_cases h:i - m=0
      ·omega
      ·obtain ⟨y,hy⟩:=Nat.exists_eq_succ_of_ne_zero h
       rw[hy] at e;simp at e
     subst him
     simp at e
     subst e
     refine ⟨.ref PT,by rw[List.getElem?_set_self (by rw[lS];omega)],PT,#[],rfl,wP,hP,trivial,fun pos cv z=>?_⟩
     simp[codeAmong] at z
 ·rw[hok]
  intro v σ' G' H' w' _ _ rt
  have:v = .bl true:=zfr (K:=K) (G:=G') rt
  subst this
  exact hQ H'
section
variable{X:Cx}{C:Cn}{a b e:Expr}{fa fb:De}{pos apos:Pos}{zch:List Expr}
def tOrL(K:W.Frag)(ta tb:TE):TE:=fun σ H Q=>ta σ H fun x H1=>∃ ad xs,x = .ref ad∧SqL K H1 ad xs∧if xs.isEmpty=true then tb σ H1 Q else Q (.ref ad) H1
theorem zsA{ta tb:TE}(ha:PE X a ta)(hb:PE X (.BoolOp .Or (b :: zch) pos) tb):PE X (.BoolOp .Or (a :: b :: zch) pos) (tOrL X.K ta tb):=by
 intro pins s σ H Q I h
 refine BoolOp_or (thn (ha pins s σ H _ I h) fun v s1 ⟨x,H1,I1,r1,q1⟩=>?_)
 obtain ⟨ad,xs,rfl,hx,q1⟩:=q1
 cases r1
 obtain ⟨its,rv,pl,hz⟩:=I1.list hx
 have hlen:=rv.length
 have hz':xs.length≤16777216:=by rw[← zcV];exact hz
 refine wpAny_truthy_list pl.isList (by simp only[List.size_toArray];omega) ?_
 have I2:L2.Inv X pins σ H1 { s1 with toks:=s1.toks + 1 + 1 }:=I1.kept (t':=s1.toks + 1 + 1) fun _ _ q=>q
 cases rv with
 | nil=>exact hb pins _ σ H1 Q I2 q1
 | cons h1 t=>exact ⟨.ref ad,H1,I2,rfl,q1⟩
def zrI(fa fb:De):De:=fun ρ=>(fa ρ).bind fun a=>match a.1 with
 | .lst []=>fb a.2
 | .lst (x :: r)=>.ok (.lst (x :: r),a.2)
 | _=>.no
theorem ztf(ha:JE X C a fa)(hb:JE X C (.BoolOp .Or (b :: zch) pos) fb):JE X C (.BoolOp .Or (a :: b :: zch) pos) (zrI fa fb):=(zsA ha hb).weak fun σ H Q ⟨G,w,ρ,r,p⟩=>by
 refine zez (κ:=fun G H w=>kE X.K C σ Q G H w) zcA r p fun d ρ1 v G1 H1 w1 r1 s1 q1 p1=>?_
 cases d with
 | lst l =>
  obtain ⟨ad,vs,rfl,h1,h2⟩:=zbz q1
  refine ⟨ad,vs,rfl,SqL.of (r1.gh _ _ h1),?_⟩
  cases l with
  | nil =>
   rw[h2.nil_inv]
   exact ⟨G1,w1,ρ1,r1,p1⟩
  | cons x r =>
   obtain ⟨v,t,rfl,_,_⟩:=h2.cons_inv
   exact p1 _ G1 H1 w1 (.refl _ _ _) r1 q1
 | _=>exact p1.elim
end
end PV
end
section
namespace PV
open PySem PySem.Spec L2
structure ZpL(h:Heap)(z TI TO i1 i2 l1 l2:Addr)(f0:Value)(k:Nat):Prop where
 z:IsZip h z TI TO f0
 ti:IsPair h TI (.ref i1) (.ref i2)
 to:∃ a b,IsPair h TO a b
 a1:h.IsListIter i1 l1 k
 a2:h.IsListIter i2 l2 k
theorem ZpL.keep{h h':Heap}{z TI TO i1 i2 l1 l2:Addr}{f0:Value}{k:Nat}(p:ZpL h z TI TO i1 i2 l1 l2 f0 k)(e:∀ b∈[z,TI,TO,i1,i2],∀ o,h.get? b=some o→h'.get? b=some o):ZpL h' z TI TO i1 i2 l1 l2 f0 k :=
 ⟨e z (by simp) _ p.z,e TI (by simp) _ p.ti,let ⟨a,b,q⟩:=p.to;⟨a,b,e TO (by simp) _ q⟩,p.a1.at fun o q=>e i1 (by simp) o q,p.a2.at fun o q=>e i2 (by simp) o q⟩
theorem zl5{z TI TO i1 i2 l1 l2:Addr}(D:ZpD z TI TO i1 i2)(n1:∀ b∈[z,TI,TO,i1,i2],b≠l1)(n2:∀ b∈[z,TI,TO,i1,i2],b≠l2):ZipApart z TI TO i1 i2 l1 l2 :=
 ⟨D.d1,D.d2,D.d3,D.d4,D.d5,D.d6,D.d7,D.d8,D.d9,D.d0,(n1 z (by simp)).symm,(n1 TO (by simp)).symm,(n1 i1 (by simp)).symm,(n1 i2 (by simp)).symm,(n2 z (by simp)).symm,(n2 TO (by simp)).symm,(n2 i1 (by simp)).symm,(n2 i2 (by simp)).symm⟩
def Itl(K:W.Frag)(a b:Addr):It :=
 ⟨fun i H=>∃ xs ys x y,SqL K H a xs∧SqL K H b ys∧xs[i]? = some x∧ys[i]? = some y,
   fun i H v H'=>∃ p x y,v = .ref p∧H p=none∧H'=upd H p (.tup [x,y])∧(∀ xs,SqL K H a xs→xs[i]? = some x)∧∀ ys,SqL K H b ys→ys[i]? = some y,
   fun i H=>∃ xs ys,SqL K H a xs∧SqL K H b ys∧xs.length≤i⟩
theorem zo0{P:Program}{w:World}{K:W.Frag}{elts:List Expr}{x1}{ps:Pos}{a b z TI TO i1 i2:Addr}(D:ZpD z TI TO i1 i2):zpT P w K (.Tuple elts x1 ps) (Itl K a b) [z,TI,TO,i1,i2] z (fun i h=>ZpL h z TI TO i1 i2 a b .none i) where
 mem:=by simp
 obj:=fun i h st c hc=>by
  obtain ⟨s1,s2,⟨oa,ob,s3⟩,⟨o4,s4,_,d4⟩,⟨o5,s5,_,d5⟩⟩:=st
  simp only[List.mem_cons,List.not_mem_nil,or_false] at hc
  rcases hc with rfl | rfl | rfl | rfl | rfl
  ·exact ⟨_,s1,fun v q=>by cases q⟩
  ·exact ⟨_,s2,fun v q=>by cases q⟩
  ·exact ⟨_,s3,fun v q=>by cases q⟩
  ·exact ⟨_,s4,fun v q=>by rw[d4] at q;cases q⟩
  ·exact ⟨_,s5,fun v q=>by rw[d5] at q;cases q⟩
 keep:=fun i h h' st k=>st.keep k
 item:=by
  intro X hP hw hK hc i pins s σ H E I hf st hg
  subst hP hw hK
  obtain ⟨xs,ys,x,y,q1,q2,hx,hy⟩:=hg
  obtain ⟨its,rv,p,hz⟩:=I.list q1
  obtain ⟨jts,rw',p',hz'⟩:=I.list q2
  obtain ⟨u,hu,ru⟩:=rv.get hx
  obtain ⟨v,hv,rv'⟩:=rw'.get hy
  obtain ⟨oa0,ob0,hto⟩:=st.to
  have AP:=zl5 D (fun c hc=>zlc I (hf c hc) q1) (fun c hc=>zlc I (hf c hc) q2)
  refine wpAny_pyNext_zip_item (x:=u) (y:=v) AP st.z st.ti hto st.a1 st.a2 p.isList p'.isList (by simpa using hu) (by simpa using hv) fun h' b1 b2 b3 b4 ht b6 hk=>?_
  refine ⟨_,rfl,wpAny_letOwnedTupleGo_zip b1 fun h2 hz2 sb=>?_⟩
  have hzp:∀ c∈[z,TI,TO,i1,i2],c≠s.heap.objs.size:=fun c hc q=>by
   obtain ⟨s1,s2,⟨oa,ob,s3⟩,⟨o4,s4,_⟩,⟨o5,s5,_⟩⟩:=st
   simp only[List.mem_cons,List.not_mem_nil,or_false] at hc
   subst q
   rcases hc with rfl | rfl | rfl | rfl | rfl
   ·exact absurd (Heap.lt_size s1) (Nat.lt_irrefl _)
   ·exact absurd (Heap.lt_size s2) (Nat.lt_irrefl _)
   ·exact absurd (Heap.lt_size s3) (Nat.lt_irrefl _)
   ·exact absurd (Heap.lt_size s4) (Nat.lt_irrefl _)
   ·exact absurd (Heap.lt_size s5) (Nat.lt_irrefl _)
  have st2:ZpL h2 z TI TO i1 i2 a b .none (i + 1) :=
   ⟨hz2,sb.extBut _ _ D.d1 (hk TI _ D.d1 D.d5 D.d6 D.d7 st.ti),⟨_,_,sb.extBut _ _ D.d2 b2⟩,b3.extBut sb.extBut D.d3,b4.extBut sb.extBut D.d4⟩
  have hk2:∀ c ob,c∉[z,TI,TO,i1,i2]→s.heap.get? c=some ob→h2.get? c=some ob:=fun c ob nc e=>by
   simp only[List.mem_cons,List.not_mem_nil,or_false,not_or] at nc
   exact sb.extBut _ _ nc.1 (hk c ob nc.1 nc.2.2.1 nc.2.2.2.1 nc.2.2.2.2 e)
  have hth:∀ c ob,s.heap.get? c=some ob→∃ ob',h2.get? c=some ob':=fun c ob e=>by
   by_cases nc:c∈[z,TI,TO,i1,i2]
   ·obtain ⟨s1,s2,⟨oa,ob,s3⟩,⟨o4,s4,_⟩,⟨o5,s5,_⟩⟩:=st2
    simp only[List.mem_cons,List.not_mem_nil,or_false] at nc
    rcases nc with rfl | rfl | rfl | rfl | rfl
    ·exact ⟨_,s1⟩
    ·exact ⟨_,s2⟩
    ·exact ⟨_,s3⟩
    ·exact ⟨_,s4⟩
    ·exact ⟨_,s5⟩
   ·exact ⟨ob,hk2 c ob nc e⟩
  have hnew:h2.get? s.heap.objs.size=some { cls:=.type "tuple",data:=.seq #[u,v] }:=sb.extBut _ _ (Ne.symm (hzp z (by simp))) ht
  have IN:L2.Inv X pins σ (upd H s.heap.objs.size (.tup [x,y])) { s with heap:=h2 }:=zgV (s:=s) (t':=s.toks) (o:=.tup [x,y]) I hf hk2 (Nat.le_refl _) hth ⟨by show 2≤sizeLine;decide,[u,v],.cons ru (.cons rv' .nil),0,hnew⟩
  exact ⟨.ref s.heap.objs.size,_,IN,rfl,
   ⟨_,x,y,rfl,I.hok.fresh (Nat.le_refl _),rfl,fun zs q=>by rw[I.list_inj q q1];exact hx,fun zs q=>by rw[I.list_inj q q2];exact hy⟩,st2,fun c hc=>by rw[zai (hzp c hc)];exact (hf c hc).1⟩
 done:=by
  intro X hP hw hK hc i pins s σ H E I hf st hg
  subst hP hw hK
  obtain ⟨xs,ys,q1,q2,hx⟩:=hg
  obtain ⟨its,rv,p,hz⟩:=I.list q1
  obtain ⟨jts,rw',p',hz'⟩:=I.list q2
  have hl:=rv.length
  obtain ⟨oa0,ob0,hto⟩:=st.to
  have AP:=zl5 D (fun c hc=>zlc I (hf c hc) q1) (fun c hc=>zlc I (hf c hc) q2)
  refine wpAny_pyNext_zip_end (I.ok.hd hc) AP st.z st.ti hto st.a1 st.a2 p.isList p'.isList (.inl (by simp;omega)) fun h' hk=>⟨rfl,?_⟩
  refine zfe (t':=s.toks) I hf fun c ob nc e=>?_
  simp only[List.mem_cons,List.not_mem_nil,or_false,not_or] at nc
  exact hk c ob nc.1 nc.2.2.1 nc.2.2.2.1 nc.2.2.2.2 e
 self:=fun _ _ _ _ _ st h=>wpAny_pyIter_zip st.z h
theorem zti{K:W.Frag}{G:Hp}{a b:Addr}{vs us:List V}{ds es:List Dt}(hs:G a=some (.lst vs))(ht:G b=some (.lst us))(q:za6 K G ds vs)(q':za6 K G es us)(hl:ds.length=es.length):zoB K (Itl K a b) G ((ds.zip es).map fun z=>.tup [z.1,z.2]):=fun i G1 H s1 s2=>by
 have h1:SqL K H a vs:=SqL.of (s2 _ _ (s1 _ _ hs))
 have h2:SqL K H b us:=SqL.of (s2 _ _ (s1 _ _ ht))
 refine ⟨fun d e=>?_,fun h=>⟨vs,us,h1,h2,?_⟩⟩
 ·rw[List.getElem?_map] at e
  have hi:i < ds.length:=by
   by_cases hi:i < ds.length
   ·exact hi
   ·rw[List.getElem?_eq_none (by rw[List.length_zip];omega)] at e;cases e
  have z1:ds[i]? = some ds[i]:=by simp[hi]
  have z2:es[i]? = some (es[i]'(by omega)):=by simp[show i < es.length by omega]
  obtain ⟨v,e1,e2⟩:=q.get z1
  obtain ⟨u,e3,e4⟩:=q'.get z2
  have ed:d = .tup [ds[i],es[i]'(by omega)]:=by
   rw[(List.getElem?_zip_eq_some (z:=(ds[i],es[i]'(by omega)))).mpr ⟨z1,z2⟩] at e
   exact (Option.some.inj e).symm
  refine ⟨⟨vs,us,v,u,h1,h2,e1,e3⟩,fun x H' y=>?_⟩
  obtain ⟨p,x',y',rfl,hp,rfl,k1,k2⟩:=y
  have kx:=k1 vs h1
  have ky:=k2 us h2
  rw[e1] at kx;rw[e3] at ky
  cases kx;cases ky
  have gr:ze9 G1 H (upd G1 p (.tup [v,u])) (upd H p (.tup [v,u])):=.new s2 hp
  refine ⟨_,gr,?_⟩
  rw[ed]
  unfold Rep
  exact ⟨p,[v,u],rfl,zjT.of zaj,za6.cons ((e2.same s1).same gr.g) (za6.cons ((e4.same s1).same gr.g) za6.nil)⟩
 ·rw[← q.length]
  simpa [hl] using h
def zkC(fa fb:De):DA:=fun ρ=>(fa ρ).bind fun a=>(fb a.2).bind fun b=>match a.1,b.1 with
 | .tup l,.tup r=>if l.length=r.length then .ok ((l.zip r).map fun z=>.tup [z.1,z.2],b.2) else .no
 | .lst l,.lst r=>if l.length=r.length then .ok ((l.zip r).map fun z=>.tup [z.1,z.2],b.2) else .no
 | _,_=>.no
section
variable{X:Cx}{C:Cn}{elts:List Expr}{x1:Nat}{pt:Pos}{a b:Expr}{fa fb:De}{p pos:Pos}
theorem zrE(hg:Gl X "zip")(hm:X.mg "zip"=none)(ha:JE X C a fa)(hb:JE X C b fb)(hs:starEach [a,b] X.env=(false,eval a X.env) :: starEach [b] X.env:=by rfl)(hs2:starEach [b] X.env=(false,eval b X.env) :: starEach [] X.env:=by rfl)(hpl:(backTo pos (starEach [b] X.env)).any (·.1)=false:=by rfl) :
  JI X C (.Tuple elts x1 pt) (.Call (.Name "zip" p) [a,b] [] pos) (zkC fa fb):=by
 intro pins s σ H R I ⟨G,w,ρ,r,pp⟩
 refine PyProof.Rows.Call_ (zf8 I hg hm PyProof.Rows.boot_zip (PyProof.Rows.callWith_type1 (thn (zao ha (zao hb zaF hs2) hs pos pins s σ H (fun vs H1=>∃(l1 l2:Addr)(xs ys:List V),vs=[.ref l1,.ref l2]∧((SqT X.K H1 l1 xs∧SqT X.K H1 l2 ys∧R (Itz X.K l1 l2) H1)∨(SqL X.K H1 l1 xs∧SqL X.K H1 l2 ys∧R (Itl X.K l1 l2) H1))) I ?_) fun us s1 ⟨vs,H1,I1,r1,q1⟩=>?_) hs hpl))
 ·refine ⟨G,w,ρ,r,?_⟩
  unfold zkC at pp
  unfold dA dA0
  cases e:fa ρ with
  | ok x =>
   obtain ⟨d,ρ1⟩:=x
   rw[e] at pp
   simp only[PV.R.bind_ok] at pp ⊢
   cases e2:fb ρ1 with
   | ok y =>
    obtain ⟨d2,ρ2⟩:=y
    rw[e2] at pp
    simp only[PV.R.bind_ok] at pp ⊢
    intro vs G1 H1 w1 s1 r1 q
    obtain ⟨v,u,rfl,k1,k2⟩:=zq5 q
    cases d with
    | tup l =>
     cases d2 with
     | tup l' =>
      dsimp only at pp
      by_cases hl:l.length=l'.length
      ·rw[if_pos hl] at pp
       obtain ⟨a1,xs,rfl,m1,m2⟩:=zcG k1
       obtain ⟨a2,ys,rfl,m3,m4⟩:=zcG k2
       exact ⟨a1,a2,xs,ys,rfl,.inl ⟨zaM r1.gh m1,zaM r1.gh m3,pp _ G1 H1 w1 s1 r1 (zsg m1 m3 m2 m4 hl)⟩⟩
      ·rw[if_neg hl] at pp;exact pp.elim
     | _=>exact False.elim pp
    | lst l =>
     cases d2 with
     | lst l' =>
      dsimp only at pp
      by_cases hl:l.length=l'.length
      ·rw[if_pos hl] at pp
       obtain ⟨a1,xs,rfl,m1,m2⟩:=zbz k1
       obtain ⟨a2,ys,rfl,m3,m4⟩:=zbz k2
       exact ⟨a1,a2,xs,ys,rfl,.inr ⟨SqL.of (r1.gh _ _ m1),SqL.of (r1.gh _ _ m3),pp _ G1 H1 w1 s1 r1 (zti m1 m3 m2 m4 hl)⟩⟩
      ·rw[if_neg hl] at pp;exact pp.elim
     | _=>exact False.elim pp
    | _=>exact False.elim pp
   | er n=>rw[e2] at pp;exact pp
   | no=>rw[e2] at pp;exact pp
  | er n=>rw[e] at pp;exact pp
  | no=>rw[e] at pp;exact pp
 ·obtain ⟨l1,l2,xs,ys,rfl,q⟩:=q1
  obtain ⟨u1,u2,rfl,c1,c2⟩ : ∃ u1 u2,us=[u1,u2]∧zcD (.ref l1) u1∧zcD (.ref l2) u2:=by
   cases r1 with
   | cons h1 t=>cases t with
    | cons h2 t2=>cases t2;exact ⟨_,_,rfl,h1,h2⟩
  cases c1;cases c2
  have D:ZpD (s1.heap.objs.size + 4) (s1.heap.objs.size + 2) (s1.heap.objs.size + 3) s1.heap.objs.size (s1.heap.objs.size + 1):=zsw _
  have hfp:∀ c∈[s1.heap.objs.size + 4,s1.heap.objs.size + 2,s1.heap.objs.size + 3,s1.heap.objs.size,s1.heap.objs.size + 1],zeL X pins H1 c:=fun c hc=>by
   have hle:s1.heap.objs.size≤c:=by
    simp only[List.mem_cons,List.not_mem_nil,or_false] at hc
    rcases hc with rfl | rfl | rfl | rfl | rfl
    ·exact Nat.le_add_right ..
    ·exact Nat.le_add_right ..
    ·exact Nat.le_add_right ..
    ·exact Nat.le_refl _
    ·exact Nat.le_add_right ..
   exact I1.fpOk hle (I1.hok.fresh hle)
  rcases q with ⟨k1,k2,q⟩ | ⟨k1,k2,q⟩
  ·obtain ⟨its,rv,p1,_⟩:=I1.tuple k1
   obtain ⟨jts,rw',p2,_⟩:=I1.tuple k2
   refine zrz (show s1.heap.IsTuple l1 its.toArray from p1) (show s1.heap.IsTuple l2 jts.toArray from p2) fun h' zp hk=>?_
   refine wpAny_pyIter_zip zp.z ?_
   exact ⟨s1.heap.objs.size + 4,[s1.heap.objs.size + 4,s1.heap.objs.size + 2,s1.heap.objs.size + 3,s1.heap.objs.size,s1.heap.objs.size + 1],_,_,H1,rfl,I1.kept (t':=s1.toks) hk,zpw D,zp,hfp,q⟩
  ·obtain ⟨its,rv,p1,_⟩:=I1.list k1
   obtain ⟨jts,rw',p2,_⟩:=I1.list k2
   refine call_zip_2 p1.isList p2.isList fun h' b1 b2 b3 b4 b5 b6 hk=>?_
   refine wpAny_pyIter_zip b1 ?_
   exact ⟨s1.heap.objs.size + 4,[s1.heap.objs.size + 4,s1.heap.objs.size + 2,s1.heap.objs.size + 3,s1.heap.objs.size,s1.heap.objs.size + 1],_,_,H1,rfl,I1.kept (t':=s1.toks) hk,zo0 D,⟨b1,b2,⟨_,_,b3⟩,b4,b5⟩,hfp,q⟩
end
end PV
end
section
namespace PV
open PySem PySem.Spec L2 PyProof.Rows
def zsy(i j:Nat)(f:DA):DS:=fun ρ=>(f ρ).bind fun a=>match a.1 with
 | [d,e]=>if i < a.2.length∧j < a.2.length then .ok (.nx,(a.2.set i (some (.val d))).set j (some (.val e))) else .no
 | _=>.no
section
variable{X:Cx}{C:Cn}{pos:Pos}
theorem zsX{i j:Nat}{x y:Str}{a b:Expr}{f:DA}{px py pt:Pos}{kt k2 pt2}(hc:X.calm=true)(hN:X.N.Nodup)(hi:X.N[i]? = some x)(hj:X.N[j]? = some y)(hij:i≠j)
  (hx:X.env.scope.names.lookup x=some .local) (hy:X.env.scope.names.lookup y=some .local) (hp:i∉C.pp) (hq:j∉C.pp) (ha:JA X C [a,b] f)
  (hw:swappedStores [.Tuple [.Name x px,.Name y py] kt pt] (.Tuple [a,b] k2 pt2) X.env=pure (some [x,y]))
  (hs:swapsWithSole [.Tuple [.Name x px,.Name y py] kt pt] (.Tuple [a,b] k2 pt2) pos.line X.env=pure false:=by rfl) :
  JS X C (.Assign [.Tuple [.Name x px,.Name y py] kt pt] (.Tuple [a,b] k2 pt2) pos) (zsy i j f) :=
 PS.weak (zsp hc hN hi hj hij hx hy ha hw hs) fun D σ H ⟨G,w,ρ,r,p⟩=>by
  refine zrM (κ:=fun G H w=>kS X.K C D G H w) zeb r p fun ds ρ1 vs G1 H1 w1 r1 s1 q1 p1=>?_
  dsimp only at p1
  split at p1
  ·obtain ⟨v1,t,rfl,qa,q2⟩:=q1.cons_inv
   obtain ⟨v2,t2,rfl,qb,q4⟩:=q2.cons_inv
   rw[q4.nil_inv]
   by_cases hl:i < ρ1.length∧j < ρ1.length
   ·rw[if_pos hl] at p1
    exact ⟨v1,v2,rfl,p1 _ G1 H1 w1 (.refl _ _ _) ((r1.setVal hl.1 hp qa).setVal (by simpa using hl.2) hq qb)⟩
   ·rw[if_neg hl] at p1
    exact p1.elim
  ·exact p1.elim
def zsu(f:De)(g:DG):DS:=fun ρ=>(f ρ).bind fun a=>(g a.1 a.2).bind fun ρ1=>.ok (.nx,ρ1)
theorem zs0{tg e:Expr}{fa:De}{g:DG}(he:JE X C e fa)(hg:JG X C tg g)(hs:swapsWithSole [tg] e pos.line X.env=pure false:=by rfl)(hw:swappedStores [tg] e X.env=pure none:=by rfl)
  (h1:(assignEach [tg] X.env).map (·.2)=[assign tg X.env]:=by rfl):JS X C (.Assign [tg] e pos) (zsu fa g) :=
 PS.weak (zqk he hg hs hw h1) fun D σ H ⟨G,w,ρ,r,p⟩=>by
  refine zez (κ:=fun G H w=>kS X.K C D G H w) zeb r p fun d ρ1 v G1 H1 w1 r1 s1 q1 p1=>?_
  refine ⟨G1,w1,ρ1,d,r1,q1,?_⟩
  dsimp only at p1
  cases hgd:g d ρ1 with
  | ok ρ2=>rw[hgd] at p1;exact p1
  | er n=>rw[hgd] at p1;exact p1
  | no=>rw[hgd] at p1;exact p1
end
def zlV(i j:Nat)(F:FD):De:=fun ρ=>match ρ[i]?,ρ[j]? with
 | some (some (.own l)),some (some (.val d))=>match F [.val (.lst l),.val d] with
  | .ok (.bl b,_)=>.ok (.bl b,ρ)
  | _=>.no
 | _,_=>.no
section
variable{X:Cx}{C:Cn}{CX:CXT}{k k':Nat}{ks:List Bool}{Fd:FD}{x a b:Str}{p pos pa pb:Pos}
theorem zqJ(i j:Nat)(D:Dfn false X.prog X.w X.K X.mg X.base CX C.xv k x ks Fd)(hr:zdf k' X.A)(hk:k≤k')(hx:zcm CX X (EXc C))(hN:X.N[i]? = some a:=by rfl)(hM:X.N[j]? = some b:=by rfl)
  (hv:Vis X.env.scope a:=by first | exact Or.inl rfl | exact Or.inr (Or.inl rfl) | exact Or.inr (Or.inr rfl)) (hu:Vis X.env.scope b:=by first | exact Or.inl rfl | exact Or.inr (Or.inl rfl) | exact Or.inr (Or.inr rfl))
  (d1:(a == ("__debug__" : Str))=false:=by decide) (d2:(a == ("__classdict__" : Str))=false:=by decide) (d3:(b == ("__debug__" : Str))=false:=by decide) (d4:(b == ("__classdict__" : Str))=false:=by decide)
  (hg:Gl X x:=by rfl) (hdb:(x == ("__debug__" : Str))=false:=by decide) (he:starEach [.Name a pa,.Name b pb] X.env=(false,eval (.Name a pa) X.env) :: starEach [.Name b pb] X.env:=by rfl) (he2:starEach [.Name b pb] X.env=(false,eval (.Name b pb) X.env) :: starEach [] X.env:=by rfl)
  (hpl:(backTo pos (starEach [.Name b pb] X.env)).any (·.1)=false:=by rfl):JE X C (.Call (.Name x p) [.Name a pa,.Name b pb] [] pos) (zlV i j Fd):=by
 obtain ⟨f,fd,ps,h1,h2,h3,h4,h5⟩:=D.ex
 refine PE.weak (zi7 h1 (hr.mono hk) hg h2 h3 h4 .nil hx (zbe (zbR (i:=i) hN hv d1 d2) (zbe (zbR (i:=j) hM hu d3 d4) zc4 he2) he) hdb he hpl) fun σ H Q ⟨G,w,ρ,r,q⟩=>?_
 unfold zlV at q
 split at q
 case h_2=>exact q.elim
 rename_i l d ei ej
 obtain ⟨al,vs,e1,e2,e3,e4⟩:=zc7 r ei
 obtain ⟨v,f1,f2⟩:=r.sl j _ ej
 have hgl:G al=none:=r.wg al (by rw[e2];simp)
 have sg:zbG G (upd G al (.lst vs)):=fun b u e=>by rw[zai (zah e hgl)];exact e
 refine ⟨.ref al,e1,v,f1,?_⟩
 split at q
 case h_2=>exact q.elim
 rename_i bb bs' eF
 have hks:zb5 [.val (.lst l),.val d]=ks:=h5 _ (by rw[eF];exact fun z=>by cases z)
 refine ⟨upd G al (.lst vs),fun _=>none,[.val (.lst l),.val d],by rw[← hks];rfl,hks,⟨fun b u e=>?_,fun b e=>absurd rfl e,fun b e=>absurd rfl e,rfl,fun jj bz vz g1 g2=>?_⟩,?_⟩
 ·by_cases hb:b=al
  ·subst hb;rw[zaj] at e;cases e;exact e3
  ·rw[zai hb] at e;exact r.gh b u e
 ·match jj with
  | 0 =>
   cases g1;cases g2
   show Rep X.K _ (.lst l) (.ref al)
   unfold Rep
   exact ⟨al,vs,rfl,zaj,e4.same sg⟩
  | 1 =>
   cases g1;cases g2
   exact Rep.same sg f2
  | n + 2=>simp at g1
 ·rw[eF]
  intro v' G' H' w' s' pb rt
  have ev:v' = .bl bb:=zfr (K:=X.K) (G:=G') rt
  subst ev
  have st:zb9 G H w G H' w:=⟨.refl _,fun b u e=>.inl (by rw[e];simp),fun b u e _=>s'.h b u e rfl,fun _ e=>.inl e,s'.k⟩
  refine q _ G H' w st ⟨fun b u e=>s'.h b u (r.gh b u e) rfl,r.wg,fun b e z=>r.wh b e (s'.k b z),r.len,fun i' b' e=>?_,r.en.trans st,r.pin⟩ (by unfold Rep;rfl)
  obtain ⟨v2,g1,g2⟩:=r.sl i' b' e
  exact ⟨v2,g1,g2.grow (.refl _) fun a' o q1 q2=>⟨s'.h a' o q2 rfl,q1⟩⟩
end
def zkG:Dt→Dt→R Dt:=fun x y=>match x,y with
 | .dct,.tup _=>.ok (.bl false)
 | _,_=>gEq false x y
theorem zix(l b:Addr)(data:Data)(items2:Array Value)(n2:Nat)(dd dd2:Option Addr)(sl sl2:Array (Option Value)) :
  Meets (Builtin.«dict.__eq__» ⟨[.ref l,.ref b],[]⟩) (fun _ R s=>s.heap.get? l=some { cls:=.type "dict",dict:=dd,data:=data,slots:=sl }∧s.heap.get? b=some { cls:=.type "tuple",dict:=dd2,data:=.seq items2 n2,slots:=sl2 }∧R (.ok (.ret .notImplemented)) s) :=
 .of_wp fun prog w A R s h=>by obtain ⟨hp,g,d,tk,os⟩:=s;obtain ⟨hl,hb,h⟩:=h;have f1:=F.sub_tuple_dict;wp_walk using wpAny_loadPart' hl,wpAny_loadPart' hb;exact ⟨_,rfl,h⟩
theorem zhp(l b:Addr)(data:Data)(items2:Array Value)(n2:Nat)(dd dd2:Option Addr)(sl sl2:Array (Option Value)) :
  Meets (Builtin.«tuple.__eq__» ⟨[.ref b,.ref l],[]⟩) (fun _ R s=>s.heap.get? l=some { cls:=.type "dict",dict:=dd,data:=data,slots:=sl }∧s.heap.get? b=some { cls:=.type "tuple",dict:=dd2,data:=.seq items2 n2,slots:=sl2 }∧R (.ok (.ret .notImplemented)) s) :=
 .of_wp fun prog w A R s h=>by obtain ⟨hp,g,d,tk,os⟩:=s;obtain ⟨hl,hb,h⟩:=h;have f1:=F.sub_dict_tuple;wp_walk using wpAny_loadPart' hl,wpAny_loadPart' hb;exact ⟨_,rfl,h⟩
theorem ziM{A:Around}{s:Shared}{l b:Addr}{o o2:Obj}{its:Array Value}{n:Nat}(ho:s.heap.get? l=some o)(hc:o.cls = .type "dict")(ho2:s.heap.get? b=some o2)(hc2:o2.cls = .type "tuple")(hd2:o2.data = .seq its n)(hu:A.units < cLine):SeqAt.RcAt A s (.ref l) (.ref b) false:=fun prog w E Q h=>by
 have hne:l≠b:=fun e=>by
  subst e
  rw[ho] at ho2
  cases ho2
  rw[hc] at hc2
  exact absurd hc2 (by simp)
 obtain ⟨cls,dd,data,sl⟩:=o
 obtain ⟨cls2,dd2,data2,sl2⟩:=o2
 simp only at hc hc2 hd2
 subst hc hc2 hd2
 exact (SeqAt.rc_eq_decline_or (k:=false) ⟨_,ho,rfl⟩ ⟨_,ho2,rfl⟩ (by decide) F.sub_tuple_dict F.slot_dict_eq F.slot_tuple_eq_refl
  (fun _ hq=>call_meets F.slot_dict_eq ⟨_,ho,rfl⟩ F.entry_dict_eq (F.args_dict_eq_2 _ _) (zix l b data its n dd dd2 sl sl2) ⟨ho,ho2,hq⟩)
  (fun _ hq=>call_meets F.slot_tuple_eq_refl ⟨_,ho2,rfl⟩ F.entry_tuple_eq (F.args_tuple_eq_2 _ _) (zhp l b data its n dd dd2 sl sl2) ⟨ho,ho2,hq⟩)
  (fun _ hq=>wpAny_isSame_ref_other hne ho ho2 (by simp) hq) (.inr hu) h)
def rEqT(K:W.Frag):R2:=fun x y H Q=>zth K false x y H Q∨∃ a b xs,x = .ref a∧y = .ref b∧H a=some (.dK [])∧SqT K H b xs∧Q (.bl false) H
section
variable{X:Cx}{C:Cn}{a b:Expr}{fa fb:De}{pos:Pos}
theorem zso(hu:X.A.units + 64 < cLine):OpR X (compareOp .Eq) (rEqT X.K):=by
 intro pins s σ H x y v u Q I rx ry h
 rcases h with h | h
 ·exact zou hu pins s σ H x y v u Q I rx ry h
 ·obtain ⟨a,b,xs,rfl,rfl,h1,h2,q⟩:=h
  cases rx
  cases ry
  obtain ⟨_,_,_,_,o,_,_,e,ex,_⟩:=I.hok a _ h1
  obtain ⟨its,r,⟨o2,e2,c2,n2,d2⟩,_⟩:=I.tuple h2
  show wpAny _ X.A (richCompare .Eq _ _) _ _ s
  exact ziM e ex.1 e2 c2 d2 (by omega) _ _ _ _ ⟨.bl false,H,I,rfl,q⟩
theorem zqC:Op2 X.K (rEqT X.K) zkG:=fun G H x y dx dy z Q sm hx hy e k=>by
 unfold zkG at e
 split at e
 ·rename_i l
  cases e
  unfold Rep at hx
  obtain ⟨a,rfl,h1⟩:=hx
  obtain ⟨b,vs,rfl,h3,h4⟩:=zcG hy
  exact .inr ⟨a,b,vs,rfl,rfl,sm _ _ h1,zaM sm h3,k _ G H (.refl sm) (by unfold Rep;rfl)⟩
 ·exact .inl (zl6 false G H x y dx dy z Q sm hx hy e k)
theorem zpV:zia zkG:=fun x y n h=>by
 unfold zkG at h
 split at h
 ·cases h
 ·exact ziw false _ _ _ h
theorem zqi(hu:X.A.units + 64 < cLine)(ha:JE X C a fa)(hb:JE X C b fb):JT X C (.Compare a [.Eq] [b] pos) (dTB (dOp zkG fa fb)):=zhC (zso hu) zqC zpV ha hb (zeT _)
end
def PTs(X:Cx)(ifs:List Expr)(t:TT):Prop :=
 ∀(pins:List (Addr × Obj))(s:Shared)(σ:L2.St)(H:Hp)(Q:Bool→Hp→Prop),L2.Inv X pins σ H s→t σ H Q →
  wpAny (model X.prog X.w) X.A (forIn ifs true fun c r=>if r=true then do let ok ← isTrue c X.env (eval c X.env);pure (ForInStep.yield ok) else pure (ForInStep.yield r)) (TP X pins σ Q) X.xe s
section
variable{X:Cx}
theorem zls{tg iter elt:Expr}{ifs:List Expr}{scope:Scope}{pos:Pos}{N':List Str}{m n:Nat}{tgt:TG}{tts:TT}{te:TE}(hc:X.calm=true)(hb:zfn X.N N' scope.names m=true)
  (hkind:scope.kind = .function) (hcell:∀ y∈scope.names,y.2≠.cell) (hfr:∀ y∈scope.names,y.2 = .free→X.env.kindOf y.1=some .cell∨X.env.kindOf y.1=some .free)
  {pins:List (Addr × Obj)} {σ:L2.St} {s2:Shared} {cl:List (Str × Addr)} {RR:Value→Addr→Result→Shared→Prop} {E:Value→Shared→Prop}
  (hblk:∀ L s H fp,L2.Inv X pins σ H s→(∀ b∈fp,zeL X pins H b)→s.heap.objs.size≤L→PG (zbs X N' scope cl L s H fp) tg tgt∧PTs (zbs X N' scope cl L s H fp) ifs tts∧PE (zbs X N' scope cl L s H fp) elt te)
  (hcl:∀ x c,cl.lookup x=some c→X.env.cells.lookup x=some c) (hcf:∀ y∈scope.names,y.2 = .free→∃ c,cl.lookup y.1=some c)
  {it:Addr} {fp:List Addr} {tn:Nat→Heap→Prop} {J:It} {H2:Hp} (I2:L2.Inv X pins σ H2 s2) (T:zpT X.prog X.w X.K tg J fp it tn) (st2:tn 0 s2.heap) (f2:∀ b∈fp,zeL X pins H2 b)
  (W:Addr→Nat→L2.St→Hp→List V→Prop) (w0:∀ D,H2 D=none→W D 0 (σ ++ List.replicate m none) (upd H2 D (.lst [])) [])
  (hstep:∀ D i σ' H' vs,H2 D=none→W D i σ' H' vs→H' D=some (.lst vs)→i < n→J.go i H'∧∀ x H7,J.yld i H' x H7→tgt x σ' H7 fun σ8 H8=>tts σ8 H8 fun b H9=>if b=true then te σ8 H9 fun v H10=>H10 D=some (.lst vs)∧vs.length < sizeLine∧W D (i + 1) σ8 (upd H10 D (.lst (vs ++ [v]))) (vs ++ [v]) else H9 D=some (.lst vs)∧W D (i + 1) σ8 H9 vs)
  (hstop:∀ D σ' H' vs,W D n σ' H' vs→J.stop n H')
  (fin:∀(D L:Addr)(s':Shared)(vs:List V)(σ':L2.St)(H':Hp),L2.Inv X pins σ H' s'→zn7 X pins H' L s'→H2 D=none→H' D=some (.lst vs)→σ'.length=X.N.length + m→W D n σ' H' vs→RR (.ref D) L (.ok .next) s') :
  wpAny (model X.prog X.w) X.A (newList []) (fun acc s₃=>wpAny (model X.prog X.w) X.A (newFunctionEnv scope X.env.globals cl [] X.env.qual none .none (some X.env)) (fun cenv s₄ =>
   codeAny (model X.prog X.w) X.A (.compStart (.ListComp elt [⟨tg,iter,ifs,0⟩] scope pos) 0 (.ref it) acc { cenv with scope:=relabel scope X.env }) (RR acc cenv.locals) s₄) E s₃) E s2:=by
 have hD:H2 s2.heap.objs.size=none:=I2.hok.fresh (Nat.le_refl _)
 refine wpAny_newObj_type (wpAny_newFunctionEnv hcell (by intro y hy;simp at hy) (fun h₁ hns₁ hsb₁=>?_) hkind)
 dsimp only at hns₁ hsb₁ ⊢
 have I3:L2.Inv X pins σ (upd H2 s2.heap.objs.size (.lst [])) { s2 with heap:=s2.heap.push { cls:=.type "list",dict:=none,data:=.seq ([]:List Value).toArray } } :=
  I2.laid (t':=s2.toks) (fun b u e=>Heap.get?_push_of_some _ e) (Nat.le_refl _) ⟨Nat.zero_le _,[],0,.nil,Heap.get?_push_size _ rfl⟩
 have hob:∀ b∈fp,∃ o,s2.heap.get? b=some o:=fun b hb=>let ⟨o,e,_⟩:=T.obj 0 _ st2 b hb;⟨o,e⟩
 have hbD:∀ b∈fp,b≠s2.heap.objs.size:=fun b hb z=>by obtain ⟨o,e⟩:=hob b hb;exact absurd (Heap.lt_size e) (by rw[z];exact Nat.lt_irrefl _)
 have f3:∀ b∈fp,zeL X pins (upd H2 s2.heap.objs.size (.lst [])) b:=fun b hb=>⟨by rw[zai (hbD b hb)];exact (f2 b hb).1,(f2 b hb).2⟩
 have hk3:∀ b o,(s2.heap.push { cls:=.type "list",dict:=none,data:=.seq ([]:List Value).toArray }).get? b=some o→h₁.get? b=some o:=fun b o e =>
  (hsb₁.2 b (Nat.ne_of_lt (Heap.lt_size e))).trans (Heap.get?_push_of_some _ e)
 have J4:=zjb (N':=N') (scope:=scope) (cl:=cl) (m:=m) (fp:=fp) (tk:=s2.toks + ([]:List (Str × Value)).length) I3 f3 (fun b hb=>by obtain ⟨o,e⟩:=hob b hb;exact ⟨o,Heap.get?_push_of_some _ e⟩) hb hkind hcell hfr hcl hcf hns₁ hk3
 have st4:tn 0 h₁:=T.keep _ _ _ st2 fun b hb o e=>hk3 b o (Heap.get?_push_of_some _ e)
 generalize hX':zbs X N' scope cl (s2.heap.push { cls:=.type "list",dict:=none,data:=.seq ([]:List Value).toArray }).objs.size { s2 with heap:=s2.heap.push { cls:=.type "list",dict:=none,data:=.seq ([]:List Value).toArray } } (upd H2 s2.heap.objs.size (.lst [])) fp=X' at J4
 have eP:X'.prog=X.prog:=by rw[← hX'];rfl
 have eW:X'.w=X.w:=by rw[← hX'];rfl
 have eK:X'.K=X.K:=by rw[← hX'];rfl
 have eA:X'.A=X.A:=by rw[← hX'];rfl
 have eC:X'.calm=true:=by rw[← hX'];exact hc
 have eE:X'.xe=fun _ _=>False:=by rw[← hX'];rfl
 have ePn:X'.pn=[]:=by rw[← hX'];rfl
 have eN:X'.N.length=X.N.length + m:=by
  rw[← hX'];show N'.length=_
  unfold zfn at hb;rw[Bool.and_eq_true] at hb;exact of_decide_eq_true hb.1
 have eEx:X'.ex=fp:=by rw[← hX'];rfl
 have hlenσ:σ.length=X.N.length:=I2.len
 obtain ⟨hg,hts,he⟩:=hblk (s2.heap.push { cls:=.type "list",dict:=none,data:=.seq ([]:List Value).toArray }).objs.size { s2 with heap:=s2.heap.push { cls:=.type "list",dict:=none,data:=.seq ([]:List Value).toArray } } (upd H2 s2.heap.objs.size (.lst [])) fp I3 f3 (Nat.le_refl _)
 rw[hX'] at hg hts he
 have stat:∀{H':Hp},(∀ b∈fp,H' b=none)→∀ b∈fp,zeL X' [] H' b:=fun hn b hb=>by
  have q:=J4.ok.exf b (by rw[eEx];exact hb)
  exact ⟨hn b hb,q.1,J4.ok.exfs b (by rw[eEx];exact hb),.inl (by rw[eEx];exact hb),q.2,fun p hp=>by rw[ePn] at hp;simp at hp⟩
 have loop:∀ s₃:Shared,s₃ = { s2 with heap:=h₁,toks:=s2.toks + ([]:List (Str × Value)).length } →
   codeAny (model X.prog X.w) X.A (.compLoop (.ListComp elt [⟨tg,iter,ifs,0⟩] scope pos) 0 (.ref it) (.ref s2.heap.objs.size) X'.env) (RR (.ref s2.heap.objs.size) (s2.heap.push { cls:=.type "list",dict:=none,data:=.seq ([]:List Value).toArray }).objs.size) s₃:=by
  rintro s₃ rfl
  refine zgd (fun k s'=>∃ i σ' H' vs,L2.Inv X' [] σ' H' s'∧tn i s'.heap∧(∀ b∈fp,H' b=none)∧k=n - i∧i≤n∧H' s2.heap.objs.size=some (.lst vs)∧W s2.heap.objs.size i σ' H' vs) ?_ n
   ⟨0,σ ++ List.replicate m none,_,[],J4,st4,fun b hb=>(f3 b hb).1,by simp,Nat.zero_le _,zaj,w0 _ hD⟩
  rintro k s' ⟨i,σ',H',vs,J5,st5,fr5,rfl,hil,hd5,q5⟩
  by_cases hlt:i < n
  ·obtain ⟨go,yl⟩:=hstep _ i σ' H' vs hD q5 hd5 hlt
   have hIt:=T.item X' eP eW eK eC i [] s' σ' H' (fun _ _=>False) J5 (stat fr5) st5 go
   rw[eA] at hIt
   refine thn hIt fun rr s6 ⟨u,hr,h6⟩=>?_
   subst hr
   refine thn h6 fun _ s7 ⟨x,H7,J7,rx7,y7,st7,fr7⟩=>?_
   have q7:=yl x H7 y7
   have J7':=J7.pinned (stat fr7) (T.obj _ _ st7)
   have hG:=hg ([] ++ zdh fp s7.heap) s7 σ' H7 x u _ J7' rx7 q7
   rw[eP,eW,eA,eE] at hG
   refine thn hG fun _ s8 ⟨σ8,H8,J8,q8⟩=>?_
   have hT:=hts ([] ++ zdh fp s7.heap) s8 σ8 H8 _ J8 q8
   rw[eP,eW,eA,eE] at hT
   refine thn hT fun ok s9 ⟨H9,J9,q9⟩=>?_
   have after:∀{σa:L2.St}{Ha:Hp}{sa:Shared},L2.Inv X' ([] ++ zdh fp s7.heap) σa Ha sa→tn (i + 1) sa.heap∧∀ b∈fp,Ha b=none:=fun {σa Ha sa} Ja =>
    ⟨T.keep _ _ _ st7 fun b hb o e=>(Ja.pin (b,o) (List.mem_append_right _ (List.mem_append_right _ (zcR hb e)))).1,fun b hb=>by
     obtain ⟨o,e,_⟩:=T.obj _ _ st7 b hb
     exact (Ja.pin (b,o) (List.mem_append_right _ (List.mem_append_right _ (zcR hb e)))).2.1⟩
   cases ok with
   | false =>
    rw[if_neg Bool.false_ne_true]
    rw[if_neg Bool.false_ne_true] at q9
    obtain ⟨k1,k2⟩:=after J9
    exact ⟨n - (i + 1),by omega,i + 1,σ8,H9,vs,J9.unpinned,k1,k2,rfl,hlt,q9.1,q9.2⟩
   | true =>
    rw[if_pos rfl]
    rw[if_pos rfl] at q9
    have hEl:=he ([] ++ zdh fp s7.heap) s9 σ8 H9 _ J9 q9
    rw[eP,eW,eA,eE] at hEl
    refine thn hEl fun xv s10 ⟨vy,H10,J10,ry,q10⟩=>?_
    have hAp:=ze5 (X:=X') ([] ++ zdh fp s7.heap) s10 σ8 H10 (.ref s2.heap.objs.size) [vy] (.ref s2.heap.objs.size) [xv] (fun v H11=>H11=upd H10 s2.heap.objs.size (.lst (vs ++ [vy]))) J10 rfl (.cons ry .nil)
     ⟨s2.heap.objs.size,vs,vy,rfl,rfl,q10.1,q10.2.1,rfl⟩
    rw[eP,eW,eA,eE] at hAp
    refine thn hAp fun _ s11 ⟨v11,H11,J11,_,e11⟩=>?_
    subst e11
    obtain ⟨k1,k2⟩:=after J11
    exact ⟨n - (i + 1),by omega,i + 1,σ8,_,vs ++ [vy],J11.unpinned,k1,k2,rfl,hlt,zaj,q10.2.2⟩
  ·have e:i=n:=by omega
   subst e
   have hDn:=T.done X' eP eW eK eC i [] s' σ' H' (fun _ _=>False) J5 (stat fr5) st5 (hstop _ _ _ _ q5)
   rw[eA] at hDn
   refine thn hDn fun rr s6 ⟨hr,J6⟩=>?_
   subst hr
   have hl6:σ'.length=X.N.length + m:=by rw[J6.len,eN]
   obtain ⟨m6,hn6,_⟩:=id J6.loc
   have eL:X'.env.locals=(s2.heap.push { cls:=.type "list",dict:=none,data:=.seq ([]:List Value).toArray }).objs.size:=by rw[← hX'];rfl
   rw[eL] at hn6
   have frL:H' (s2.heap.push { cls:=.type "list",dict:=none,data:=.seq ([]:List Value).toArray }).objs.size=none:=by rw[← eL];exact J6.free
   rw[← hX'] at J6
   have IX:L2.Inv X pins σ H' s6:=zkI (h':=s6.heap) I3 f3 (Nat.le_refl _) J6 ⟨rfl,fun _ _=>rfl⟩
   have hLs:∀ b o,(s2.heap.push { cls:=.type "list",dict:=none,data:=.seq ([]:List Value).toArray }).get? b=some o→(s2.heap.push { cls:=.type "list",dict:=none,data:=.seq ([]:List Value).toArray }).objs.size≠b:=fun b o e z=>absurd (Heap.lt_size e) (by rw[z];exact Nat.lt_irrefl _)
   have lo:zn7 X pins H' (s2.heap.push { cls:=.type "list",dict:=none,data:=.seq ([]:List Value).toArray }).objs.size s6:=by
    refine ⟨frL,fun z=>?_,.inr I3.sz,fun x c e z=>?_,fun p hp z=>?_,m6,hn6⟩
    ·exact absurd I3.lt (by rw[← z];exact Nat.lt_irrefl _)
    ·obtain ⟨v,q⟩:=I3.cell x c e
     exact absurd q.lt (by rw[z];exact Nat.lt_irrefl _)
    ·exact hLs p.1 p.2 (I3.pin p hp).1 z.symm
   exact fin _ _ s6 vs σ' H' IX lo hD hd5 hl6 q5
 have envEq:X'.env=compEnvC scope cl (s2.heap.push { cls:=.type "list",dict:=none,data:=.seq ([]:List Value).toArray }).objs.size X.env:=by rw[← hX'];rfl
 rw[envEq] at loop
 exact codeAny_compStart_list (loop _ rfl) (T.self X.A 0 _ _ _ st4 (loop _ rfl))
end
def zsb(i:Nat):DA:=fun ρ=>match ρ[i]? with
 | some (some (.own ds))=>.ok (ds,ρ)
 | _=>.no
structure zqX(i:Nat)(g:DG)(ft:DT)(fe:De):Prop where
 t:∀ d ρ ρ1 b ρ2,g d ρ = .ok ρ1→ft ρ1 = .ok (b,ρ2)→ρ2[i]? = ρ[i]?
 e:∀ ρ y ρ1,fe ρ = .ok (y,ρ1)→ρ1[i]? = ρ[i]?
section
variable{X:Cx}{C:Cn}
theorem zlZ{tg iter elt:Expr}{ifs:List Expr}{scope:Scope}{pos:Pos}{N':List Str}{m io:Nat}{g:DG}{ft:DT}{fe:De}(hc:X.calm=true)(hb:zfn X.N N' scope.names m=true)
  (hkind:scope.kind = .function) (hcell:∀ y∈scope.names,y.2≠.cell) (hfr:∀ y∈scope.names,y.2 = .free→X.env.kindOf y.1=some .cell∨X.env.kindOf y.1=some .free)
  (hblk:∀ cl L s H fp G H' w σ,JG (zbs X N' scope cl L s H fp) (zd0 C X.N.length G H' w σ) tg g∧JTs (zbs X N' scope cl L s H fp) (zd0 C X.N.length G H' w σ) ifs ft∧JE (zbs X N' scope cl L s H fp) (zd0 C X.N.length G H' w σ) elt fe) (hko:zqX io g ft fe)
  {pins:List (Addr × Obj)} {σ:L2.St} {s2:Shared} {cl:List (Str × Addr)} {RR:Value→Addr→Result→Shared→Prop} {E:Value→Shared→Prop}
  (hcl:∀ x c,cl.lookup x=some c→X.env.cells.lookup x=some c) (hcf:∀ y∈scope.names,y.2 = .free→∃ c,cl.lookup y.1=some c)
  {it p:Addr} {fp:List Addr} {tn:Nat→Heap→Prop} {H2:Hp} (I2:L2.Inv X pins σ H2 s2) (T:zpT X.prog X.w X.K tg (L2.Itl X.K p) fp it tn) (st2:tn 0 s2.heap) (f2:∀ b∈fp,zeL X pins H2 b)
  {ds zs:List Dt} {ρ1 ρf:Ev} {G1:Hp} {w1:Wn} (r1:Rel X.K C G1 w1 ρ1 σ H2) (hio:ρ1[io]? = some (some (.own ds))) (hsp:σ[io]? = some (some (.ref p))) (hfi:zem ds=true) (ec:zbA g ft fe ds (ρ1 ++ List.replicate m none) = .ok (zs,ρf))
  (fin:∀(D L:Addr)(s':Shared)(vs:List V)(G' H':Hp)(w':Wn),L2.Inv X pins σ H' s'→zn7 X pins H' L s'→zb9 G1 H2 w1 G' H' w'→Rel X.K C G' w' (ρf.take ρ1.length) σ H'→H2 D=none→H' D=some (.lst vs)→G' D=none→w' D=none→za6 X.K G' zs vs→RR (.ref D) L (.ok .next) s') :
  wpAny (model X.prog X.w) X.A (newList []) (fun acc s₃=>wpAny (model X.prog X.w) X.A (newFunctionEnv scope X.env.globals cl [] X.env.qual none .none (some X.env)) (fun cenv s₄ =>
   codeAny (model X.prog X.w) X.A (.compStart (.ListComp elt [⟨tg,iter,ifs,0⟩] scope pos) 0 (.ref it) acc { cenv with scope:=relabel scope X.env }) (RR acc cenv.locals) s₄) E s₃) E s2:=by
 generalize hC':zd0 C X.N.length G1 H2 w1 (σ ++ List.replicate m none)=C'
 have c0:C'.H₀=H2:=by rw[← hC'];rfl
 have hlenσ:σ.length=X.N.length:=I2.len
 have hioN:io < X.N.length:=by
  rw[← hlenσ]
  exact (List.getElem?_eq_some_iff.mp hsp).1
 refine zls (iter:=iter) (pos:=pos) (n:=ds.length) (tgt:=tG X.K C' g) (tts:=tT X.K C' ft) (te:=tE X.K C' fe) hc hb hkind hcell hfr (fun L s H fp _ _ _=>by
  obtain ⟨a1,a2,a3⟩:=hblk cl L s H fp G1 H2 w1 (σ ++ List.replicate m none)
  rw[hC'] at a1 a2 a3
  exact ⟨a1,a2,a3⟩) hcl hcf I2 T st2 f2
  (fun D i σ' H' vs=>∃ ρ' G' w' ac,Rel X.K C' G' w' ρ' σ' H'∧H' D=some (.lst vs)∧G' D=none∧w' D=none∧za6 X.K G' ac vs∧ac.length≤i∧ρ'[io]? = some (some (.own ds))∧∃ z,zbA g ft fe (ds.drop i) ρ' = .ok z∧ac ++ z.1=zs∧z.2 = ρf) (fun D hD=>?_) (fun D i σ' H' vs hD q5 hd5 hlt=>?_) (fun D σ' H' vs q5=>?_) fun D L s' vs σ' H' IX lo hD hd5 hl6 q5=>?_
 ·have w0:w1 D=none:=by
   cases q:w1 D with
   | none=>rfl
   | some k=>exact absurd hD (r1.wh _ (by rw[q];simp))
  have base:Rel X.K C' G1 w1 (ρ1 ++ List.replicate m none) (σ ++ List.replicate m none) H2:=by
   refine ⟨r1.gh,r1.wg,r1.wh,by simp[r1.len],fun i b e=>?_,by rw[← hC'];exact .refl _ _ _,fun i _=>by rw[← hC'];rfl⟩
   have hi':i < ρ1.length:=by
    by_cases hi':i < ρ1.length
    ·exact hi'
    ·rw[List.getElem?_append_right (by omega),List.getElem?_replicate] at e
     split at e <;> cases e
   rw[List.getElem?_append_left hi'] at e
   obtain ⟨v,h1,h2⟩:=r1.sl i b e
   exact ⟨v,by rw[List.getElem?_append_left (by rw[← r1.len];exact hi')];exact h1,h2⟩
  refine ⟨ρ1 ++ List.replicate m none,G1,w1,[],base.upd_new (r1.gh.free hD) w0 (by rw[c0];exact hD),zaj,r1.gh.free hD,w0,za6.nil,Nat.zero_le _,?_,(zs,ρf),by simpa using ec,by simp,rfl⟩
  rw[List.getElem?_append_left (by rw[r1.len,hlenσ];exact hioN)]
  exact hio
 ·obtain ⟨ρ',G',w',ac,r5,_,gd5,wd5,q5,hac,hown,z,ez,ez1,ez2⟩:=q5
  obtain ⟨pa,us,k1,k2,k3,k4⟩:=zc7 r5 hown
  have hpin:σ'[io]? = some (some (.ref p)):=by
   rw[r5.pin io (by rw[← hC'];exact List.mem_range.mpr hioN),← hC']
   show (σ ++ List.replicate m none)[io]? = _
   rw[List.getElem?_append_left (by rw[hlenσ];exact hioN)]
   exact hsp
  rw[hpin] at k1
  cases k1
  have ed:ds.drop i=ds[i] :: ds.drop (i + 1):=List.drop_eq_getElem_cons hlt
  obtain ⟨x0,hx0,rx0⟩:=k4.get (List.getElem?_eq_getElem hlt)
  refine ⟨⟨us,x0,SqL.of k3,hx0⟩,fun x H7 y7=>?_⟩
  obtain ⟨rfl,y7⟩:=y7
  have hx:=y7 us (SqL.of k3)
  rw[hx0] at hx
  cases hx
  rw[ed] at ez
  unfold zbA at ez
  obtain ⟨ρ3,e3,ez⟩:=zdo ez
  obtain ⟨t4,e4,ez⟩:=zdo ez
  obtain ⟨b4,ρ4⟩:=t4
  have hk4:ρ4[io]? = some (some (.own ds)):=(hko.t _ _ _ _ _ e3 e4).trans hown
  refine ⟨G',w',ρ',ds[i],r5,rx0,?_⟩
  rw[e3]
  intro σ8 G8 H8 w8 s8s r8
  have keep8:=s8s.keep gd5 wd5 hd5
  refine ⟨G8,w8,ρ3,r8,?_⟩
  rw[e4]
  intro G9 H9 w9 s9s r9
  have keep9:=s9s.keep keep8.1 keep8.2.1 keep8.2.2
  cases b4 with
  | false =>
   show (if false=true then _ else _)
   rw[if_neg Bool.false_ne_true]
   simp only[Bool.false_eq_true,if_false] at ez
   exact ⟨keep9.2.2,ρ4,G9,w9,ac,r9,keep9.2.2,keep9.1,keep9.2.1,q5.same (s8s.g.trans s9s.g),by omega,hk4,z,ez,ez1,ez2⟩
  | true =>
   show (if true=true then _ else _)
   rw[if_pos rfl]
   simp only[if_true] at ez
   obtain ⟨y10,e10,ez⟩:=zdo ez
   obtain ⟨yd,ρ10⟩:=y10
   obtain ⟨z',ez',ez3⟩:=zdo ez
   refine ⟨G9,w9,ρ4,r9,?_⟩
   rw[e10]
   intro v G10 H10 w10 s10s r10 q10
   have keep10:=s10s.keep keep9.1 keep9.2.1 keep9.2.2
   cases ez3
   refine ⟨keep10.2.2,?_,ρ10,G10,w10,ac ++ [yd],r10.upd_new keep10.1 keep10.2.1 (by rw[c0];exact hD),zaj,keep10.1,keep10.2.1,(q5.same ((s8s.g.trans s9s.g).trans s10s.g)).append (za6.cons q10 za6.nil),by simp;omega,(hko.e _ _ _ e10).trans hk4,z',ez',by rw[← ez1];simp,ez2⟩
   have:=q5.length
   have:=zhh hfi
   omega
 ·obtain ⟨ρ',G',w',ac,r5,_,gd5,wd5,q5,hac,hown,z,ez,ez1,ez2⟩:=q5
  obtain ⟨pa,us,k1,k2,k3,k4⟩:=zc7 r5 hown
  have hpin:σ'[io]? = some (some (.ref p)):=by
   rw[r5.pin io (by rw[← hC'];exact List.mem_range.mpr hioN),← hC']
   show (σ ++ List.replicate m none)[io]? = _
   rw[List.getElem?_append_left (by rw[hlenσ];exact hioN)]
   exact hsp
  rw[hpin] at k1
  cases k1
  exact ⟨us,SqL.of k3,by rw[← k4.length];exact Nat.le_refl _⟩
 ·obtain ⟨ρ',G',w',ac,r5,_,gd5,wd5,q5,hac,hown,z,ez,ez1,ez2⟩:=q5
  simp only[List.drop_length] at ez
  unfold zbA at ez
  cases ez
  simp only[List.append_nil] at ez1
  subst ez1
  subst ez2
  have cG:C'.G₀=G1:=by rw[← hC'];rfl
  have cw:C'.w₀=w1:=by rw[← hC'];rfl
  have en':zb9 G1 H2 w1 G' H' w':=by have:=r5.en;rw[cG,c0,cw] at this;exact this
  have hρlen:ρ'.length=X.N.length + m:=by rw[r5.len,hl6]
  refine fin _ _ s' vs G' H' w' IX lo en' ⟨r5.gh,r5.wg,r5.wh,?_,fun i b e=>?_,r1.en.trans en',r1.pin⟩ hD hd5 gd5 wd5 q5
  ·rw[List.length_take,hρlen,r1.len,hlenσ];omega
  ·have hi':i < ρ1.length:=by
    by_cases hi':i < ρ1.length
    ·exact hi'
    ·rw[List.getElem?_eq_none (by rw[List.length_take];omega)] at e;cases e
   rw[List.getElem?_take_of_lt hi'] at e
   obtain ⟨v,h1,h2⟩:=r5.sl i b e
   refine ⟨v,?_,h2⟩
   have hpi:=r5.pin i (by rw[← hC'];exact List.mem_range.mpr (by rw[← hlenσ,← r1.len];exact hi'))
   rw[h1] at hpi
   rw[← hC'] at hpi
   have hpi':some (some v)=(σ ++ List.replicate m none)[i]? := hpi
   rw[List.getElem?_append_left (by rw[← r1.len];exact hi')] at hpi'
   exact hpi'.symm
theorem zkn{tg elt:Expr}{ifs:List Expr}{scope:Scope}{pos spos ipos:Pos}{N':List Str}{m i io:Nat}{x xi:Str}{px:Pos}{g:DG}{ft:DT}{fe:De}(hN:X.N.Nodup)(hix:X.N[i]? = some x)(hx:Loc X.env.scope x)(hp:i∉C.pp)(hio:X.N[io]? = some xi)(hvi:Vis X.env.scope xi)(hc:X.calm=true)(hb:zfn X.N N' scope.names m=true)
  (hkind:scope.kind = .function) (hcell:∀ y∈scope.names,y.2≠.cell) (hfr:∀ y∈scope.names,y.2 = .free→X.env.kindOf y.1=some .cell∨X.env.kindOf y.1=some .free) (hnames:∀ y∈scope.names,y.2 = .local→scope.names.lookup y.1=some .local)
  (hblk:∀ cl L s H fp G H' w σ,JG (zbs X N' scope cl L s H fp) (zd0 C X.N.length G H' w σ) tg g∧JTs (zbs X N' scope cl L s H fp) (zd0 C X.N.length G H' w σ) ifs ft∧JE (zbs X N' scope cl L s H fp) (zd0 C X.N.length G H' w σ) elt fe) (hko:zqX io g ft fe)
  (hsw:swapsWith (.ListComp elt [⟨tg,.Name xi ipos,ifs,0⟩] scope pos) (some (.Name x px)) spos.line X.env=pure true:=by rfl) (hf:X.fn x=true∨X.env.scope.names.lookup x=some .local:=by first | exact .inl rfl | exact .inr rfl | assumption)
  (hs:∀ x,foldedSetIterable (.Name xi ipos) X.env x=pure x:=by intro _;rfl) (hd:(xi == ("__debug__" : Str))=false:=by decide) (hcd:(xi == ("__classdict__" : Str))=false:=by decide):JS X C (.Assign [.Name x px] (.ListComp elt [⟨tg,.Name xi ipos,ifs,0⟩] scope pos) spos) (zbg i (dFz (zaO (zsb io) g ft fe m))):=by
 intro pins s σ H D I ⟨G,w,ρ,r,p⟩
 unfold zbg dFz zaO zsb at p
 split at p
 case h_2=>exact p.elim
 rename_i ds eo
 obtain ⟨pa,us,k1,k2,k3,k4⟩:=zc7 r eo
 simp only[R.bind_ok] at p
 split at p
 case isFalse=>exact p.elim
 rename_i hfi
 split at p
 case h_2=>exact p.elim
 rename_i z ez
 simp only[R.bind_ok] at p
 obtain ⟨cl,hclos,hcl,hcf⟩:=zcd (scope:=scope) (env:=X.env) fun y hy hf=>I.ok.has y.1 (hfr y hy hf)
 rw[exec_Assign_Name_used _ _ _ _ hsw]
 refine wpAny_bind (wpAny_standAt (wpAny_bind ?_))
 show wpAny _ X.A (do let _ ← comprehension (.ListComp elt [⟨tg,.Name xi ipos,ifs,0⟩] scope pos) scope X.env _ (newList []) false (eval (.Name xi ipos) X.env) (some (assign (.Name x px) X.env))) _ _ s
 refine wpAny_bind (wpAny_mono (wpAny_comprehension_free (use:=some (assign (.Name x px) X.env)) (Q:=fun _ s'=>SP X pins D .next s') rfl hs hclos hkind hnames ?_) (fun _ s' hq=>wpAny_pure (wpAny_pure hq)) fun _ _ e=>e)
 refine thn (zkf (tg:=tg) (zbR (i:=io) hio hvi hd hcd) pins s σ H (fun J H2=>J=L2.Itl X.K pa∧H2=H) I ⟨.ref pa,k1,pa,rfl,⟨us,SqL.of k3⟩,rfl,rfl⟩) fun v s1 h1=>thn h1 fun itv s2 h2=>?_
 obtain ⟨it,fp,tn,J,H2,rfl,I2,T,st2,f2,rfl,rfl⟩:=h2
 refine zlZ (RR:=fun acc C=>compPost (model X.prog X.w) X.A X.xe (some (assign (.Name x px) X.env)) (fun _ s'=>SP X pins D .next s') acc C) hc hb hkind hcell hfr hblk hko hcl hcf I2 T st2 f2 r eo k1 hfi ez fun Da L s' vs G' H' w' I' lo st rel h0 h1 h2 h3 q=>?_
 show wpAny _ X.A (assign (.Name x px) X.env (.ref Da)) _ _ _
 refine wpAny_assign_Name (zg5 I' hN hix hx (v:=.ref Da) rfl (fun s'' I'' hch=>?_) hf)
 obtain ⟨mm,hn⟩:=lo.ns
 obtain ⟨a,sb,ha⟩:=hch
 have hLa:L≠a:=by
  rcases ha with z | z
  ·rw[z];exact lo.nl
  ·exact fun y=>lo.nc x a z y.symm
 refine ⟨mm,hn.sameBut sb hLa,fun h' hsb=>⟨σ.set i (some (.ref Da)),H',?_,?_⟩⟩
 ·exact I''.turned (t':=s''.toks) (fun b o hb e=>(hsb.2 b hb).trans e) lo.fr lo.nl lo.nw lo.nc lo.np
 ·by_cases hl:i < (z.2.take ρ.length).length
  ·rw[if_pos hl] at p
   obtain ⟨r',s'⟩:=rel.know h1 h2 h3 _ G w st h0 (.inl (r.en.k Da h0))
   have sg:zbG G' (upd G' Da (.lst vs)):=fun b u e=>by rw[zai (zah e h2)];exact e
   exact p _ _ _ _ s' (r'.setVal hl hp (by unfold Rep;exact ⟨Da,vs,rfl,zaj,q.same sg⟩))
  ·rw[if_neg hl] at p;exact False.elim p
end
def PuE(f:De):Prop:=∀ ρ y ρ1,f ρ = .ok (y,ρ1)→ρ1 = ρ
theorem zof(i:Nat):PuE (zab i):=fun ρ y ρ1 h=>by
 unfold zab at h
 split at h
 ·cases h;rfl
 ·cases h
theorem zlu{F:FD}{f:De}(hf:PuE f):PuE (zaf F (dR f dR0)):=fun ρ y ρ1 h=>by
 unfold zaf dR dR0 at h
 cases hd:f ρ with
 | ok d =>
  obtain ⟨d1,ρ2⟩:=d
  have e:=hf _ _ _ hd
  subst e
  rw[hd] at h
  simp only[R.bind_ok,zhk,zaU,if_true,za0] at h
  cases hz:F [.val d1] with
  | ok z =>
   rw[hz] at h
   simp only[R.bind_ok,zlA] at h
   cases h
   rfl
  | er k=>rw[hz] at h;cases h
  | no=>rw[hz] at h;cases h
 | er k=>rw[hd] at h;cases h
 | no=>rw[hd] at h;cases h
theorem ztj{g:List Dt→R Dt}{f:De}(hf:PuE f):PuE (dFn g (dA f dA0)):=fun ρ y ρ1 h=>by
 unfold dFn dA dA0 at h
 cases hd:f ρ with
 | ok d =>
  obtain ⟨d1,ρ2⟩:=d
  have e:=hf _ _ _ hd
  subst e
  rw[hd] at h
  simp only[R.bind_ok] at h
  cases hz:g [d1] with
  | ok z =>
   rw[hz] at h
   cases h
   rfl
  | er k=>rw[hz] at h;cases h
  | no=>rw[hz] at h;cases h
 | er k=>rw[hd] at h;cases h
 | no=>rw[hd] at h;cases h
theorem ztU{g:Dt→Dt→R Dt}{f f':De}(hf:PuE f)(hf':PuE f'):PuE (dOp g f f'):=fun ρ y ρ1 h=>by
 unfold dOp at h
 cases hd:f ρ with
 | ok d =>
  obtain ⟨d1,ρ2⟩:=d
  have e:=hf _ _ _ hd
  subst e
  rw[hd] at h
  simp only[R.bind_ok] at h
  cases hd2:f' ρ2 with
  | ok d2 =>
   obtain ⟨d3,ρ3⟩:=d2
   have e:=hf' _ _ _ hd2
   subst e
   rw[hd2] at h
   simp only[R.bind_ok] at h
   cases hz:g d1 d3 with
   | ok z =>
    rw[hz] at h
    cases h
    rfl
   | er k=>rw[hz] at h;cases h
   | no=>rw[hz] at h;cases h
  | er k=>rw[hd2] at h;cases h
  | no=>rw[hd2] at h;cases h
 | er k=>rw[hd] at h;cases h
 | no=>rw[hd] at h;cases h
theorem zp9{i j:Nat}{f fe:De}(hij:i≠j)(hf:PuE f)(he:PuE fe):zqX i (zbo j) (dTB f) fe:=by
 refine ⟨fun d ρ ρ1 b ρ2 h1 h2=>?_,fun ρ y ρ1 h=>by rw[he _ _ _ h]⟩
 have e2:ρ2 = ρ1:=by
  unfold dTB at h2
  cases hd:f ρ1 with
  | ok a =>
   obtain ⟨d1,ρa⟩:=a
   have e:=hf _ _ _ hd
   subst e
   rw[hd] at h2
   simp only[R.bind_ok] at h2
   split at h2
   ·cases h2;rfl
   ·cases h2
  | er k=>rw[hd] at h2;cases h2
  | no=>rw[hd] at h2;cases h2
 subst e2
 unfold zbo at h1
 split at h1
 ·cases h1
  rw[List.getElem?_set_ne (Ne.symm hij)]
 ·cases h1
def zpZ(n:Nat)(r:R (Dt × Ev)):Bool:=match r with
 | .er k=>k == n
 | _=>false
theorem zke{n:Nat}{r:R (Dt × Ev)}(h:zpZ n r=true):r = .er n:=by
 cases r with
 | er k=>rw[show k=n by simpa [zpZ] using h]
 | ok a=>cases h
 | no=>cases h
def ziV(j ci:Nat)(q:Str)(n:Nat)(f1 f2 f3:De):DS:=fun ρ=>match ρ[j]?,ρ[ci]? with
 | some (some (.tab q')),some none=>if q'=q∧n < 8∧zpZ n (f1 (zaJ ρ))=true∧zpZ n (f2 (zaJ ρ))=true∧zpZ n (f3 (zaJ ρ))=true then .ok (.nx,ρ) else .no
 | _,_=>.no
structure zlh(X:Cx)(xv:Nat→Value)(k:Nat)(params:Arguments)(body:Expr)(scope:Scope)(fE:De):Prop where
 hE:∀(XL:Cx)(CL:Cn),(∃ XR cl Fa cdv s H E,XR.prog=X.prog∧XR.w=X.w∧XR.K=X.K∧XR.mg=X.mg∧XR.base=X.base∧XL=zho XR X.N scope cl (X.env.qual ++ "<lambda>") Fa cdv s H E)→CL.xv=xv→zdf k XL.A→zcm (CXe X.prog X.w) XL (EXc CL)→JE XL CL body fE
 hfr:∀ y∈scope.names,y.2 = .free→X.env.kindOf y.1=some .cell∨X.env.kindOf y.1=some .free
 hbind:∀ cl pm cdv ctv,bindArgs (W.kla_fn "<lambda>" (X.env.qual ++ "<lambda>") params body scope cl pm cdv ctv) ⟨[],[]⟩=pure []
 hdef:defaultsOf params X.env=([],[]):=by rfl
 hk:scope.kind = .function:=by rfl
 ho:znD scope.names=true:=by rfl
 hco:scope.isCoroutine=false:=by rfl
 hgen:scope.isGenerator=false:=by rfl
structure zk5(X:Cx)(xv:Nat→Value)(k n:Nat)(ρ:Ev)(G:Hp)(Fa:Addr):Prop where
 ex:∃ params body scope cl c ctv fE,zlh X xv k params body scope fE∧(∀ x cc,cl.lookup x=some cc→X.env.cells.lookup x=some cc)∧(∀ y∈scope.names,y.2 = .free→∃ c,cl.lookup y.1=some c) ∧
  G Fa=some (fHO Fa (W.kla_obj "<lambda>" (X.env.qual ++ "<lambda>") params body scope cl ((X.mg "__name__").getD .none) c ctv))∧G c=some (cHO c (X.env.qual ++ "<lambda>"))∧fE (zaJ ρ) = .er n
theorem zk5.same{X:Cx}{xv:Nat→Value}{k n:Nat}{ρ:Ev}{G G':Hp}{Fa:Addr}(L:zk5 X xv k n ρ G Fa)(e:zbG G G'):zk5 X xv k n ρ G' Fa:=by
 obtain ⟨params,body,scope,cl,c,ctv,fE,h1,h2,h3,h4,h5,h6⟩:=L.ex
 exact ⟨params,body,scope,cl,c,ctv,fE,h1,h2,h3,e _ _ h4,e _ _ h5,h6⟩
section
variable{X:Cx}{C CY:Cn}{f:Addr}{fd:FuncData}{st:Stmt}{xq xr:Str}{NR:List Str}{m k n:Nat}{dB:Nat→Addr→DS}
theorem zpy(cls:Nat→Addr)(hxv:∀ n,n < 8→C.xv n = .ref (cls n))(hfn:X.fn=fun _=>true)
  (Fu:Fun X.K xq xr st f fd) (S:za1 NR ["call"] (zac st)) (hNR:NR.length=m + 1) (hb:zfA X.K fd ["call"] []) (hr:zdf (k + 2) X.A)
  (hB:∀(XR:Cx)(CR:Cn)(n:Nat)(Fa:Addr),n < 8→(∃ cdv A outer s H E,XR=zhs (CXe X.prog X.w) X.prog X.w X.K X.mg X.base NR xr (zac st) f cdv A outer s H E)→(∃ G H,CR=zjV C G H (start NR [.ref Fa]))→zdf (k + 1) XR.A →
   (∀ pins σ H s,L2.Inv XR pins σ H s→zbG CR.H₀ H→codeAny (model XR.prog XR.w) XR.A (.call (.ref Fa) ⟨[],[]⟩) (fun r s'=>∃ e,r = .error e∧CXf XR.prog XR.w XR.stack H s (EL (cls n) H) e s') s) →
   (∀ pins σ H s,L2.Inv XR pins σ H s→zbG CR.H₀ H→W.FnAt Fa s.heap)→JSs XR CR (zaw st) (dB n (cls n)))
  (hden:∀ n C',n < 8→∃ ρ',dB n C' (some .opq :: List.replicate m none) = .ok (.rt (.lst [.int n]),ρ')) (hn8:n < 8)
  {N':List Str} {bscope:Scope} {bcl:List (Str × Addr)} {bL:Addr} {bs:Shared} {bH:Hp} {bfp:List Addr} {pins pinsY:List (Addr × Obj)} {σ σY:L2.St} {H1:Hp} {s1:Shared} (I1:L2.Inv X pins σ H1 s1) (J1:L2.Inv (zbs X N' bscope bcl bL bs bH bfp) pinsY σY H1 s1)
  {G1:Hp} {w:Wn} {ρY ρ:Ev} {Fa:Addr} (rel1:Rel X.K CY G1 w ρY σY H1) (hval:∀(i:Nat)(d:Dt),ρ[i]? = some (some (.val d))→∃ v,σ[i]? = some (some v)∧Rep X.K G1 d v) (hlen:ρ.length = σ.length) (L:zk5 X C.xv k n ρ G1 Fa) {Q:VK} (kn:kN X.K CY σY Q G1 H1 w ([.int n],ρY)) :
  codeAny (model X.prog X.w) X.A (.call (.ref f) ⟨[.ref Fa],[]⟩) (L2.CR (CXe X.prog X.w) X.stack X.prog X.w H1 s1 Q (fun _ _ _=>False)) s1:=by
 obtain ⟨params,body,scope,cl,c,ctv,fE,A,hcl,hcf,gF,gc,hfE⟩:=L.ex
 have hHF:=rel1.gh _ _ gF
 have hHc:=rel1.gh _ _ gc
 obtain ⟨oc,od,kV,doc,pm,an,cdv,ct,osl,rfl,lk,hcd⟩:=Fu.ex
 have e0:zp8 X.prog X.w X.K X.mg X.base X.A X.stack s1 H1:=J1.env0
 refine zsO (CX:=CXe X.prog X.w) (k:=k + 1) (E:=fun _ _ _=>False) (us:=[.ref Fa]) (vs:=[.ref Fa]) (N:=NR) (Q:=Q) lk hcd S hr e0 (by simpa using hb s1 [.ref Fa] I1.kIn rfl) (.cons rfl .nil) rfl ?_
 let XR:=zhs (CXe X.prog X.w) X.prog X.w X.K X.mg X.base NR xr (zac st) f cdv X.A X.stack s1 H1 (fun _ _ _=>False)
 let CRR:=zjV C G1 H1 (start NR [.ref Fa])
 have frs0:∀ x cc,cl.lookup x=some cc→cc∉frs X.stack:=fun x cc e hmem=>by
  rcases List.mem_cons.mp (I1.stkSub cc hmem) with z | z
  ·exact I1.cne x cc (hcl x cc e) z
  ·obtain ⟨_,o,ho',_⟩:=I1.ok.funs.mem z
   exact absurd (Heap.lt_size ho') (Nat.not_lt.mpr (I1.ok.cab x cc (by rw[hfn]) (hcl x cc e)))
 have cells:∀ pinsR σR H2 s2,L2.Inv XR pinsR σR H2 s2→zgq X.N scope.names cl σ H2 s2.heap:=fun pinsR σR H2 s2 J=>by
  have mv:∀ x cc v,cl.lookup x=some cc→s1.heap.IsCell cc v→s2.heap.IsCell cc v:=fun x cc v e ⟨o,e1,e2⟩ =>
   ⟨o,J.base.keep cc o e1 (I1.freeC x cc (hcl x cc e)) (frs0 x cc e) (by show cc∉([]:List Addr);simp),e2⟩
  refine ⟨fun x y cc h1 h2=>I1.ok.inj x y cc (hcl x cc h1) (hcl y cc h2),fun x e=>hcf _ (zaX e) rfl,fun x cc e=>?_,fun i x v e1 e2 e3=>?_⟩
  ·obtain ⟨v,ic⟩:=I1.cell x cc (hcl x cc e)
   obtain ⟨o,e1,_⟩:=id ic
   exact ⟨⟨v,mv x cc v e ic⟩,J.base.free cc o e1 (I1.freeC x cc (hcl x cc e)) (by show cc∉([]:List Addr);simp)⟩
  ·have hmem:=zaX e3
   have kc:=A.hfr _ hmem rfl
   obtain ⟨m0,hn0,hl0⟩:=I1.loc
   obtain ⟨u,ru,lk'⟩:=hl0 i x v e1 e2 (kc.elim (fun z=>.inr (.inl z)) fun z=>.inr (.inr z))
   obtain ⟨cc,hcc⟩:=hcf _ hmem rfl
   refine ⟨u,cc,ru,hcc,?_⟩
   rcases lk' with ⟨z,_⟩ | ⟨_,c',e',ic⟩
   ·rcases kc with y | y <;> (rw[y] at z;cases z)
   ·rw[hcl _ _ hcc] at e';cases e'
    exact mv x cc _ hcc ic
 have objs:∀ pinsR σR H2 s2,L2.Inv XR pinsR σR H2 s2→zbG H1 H2→s2.heap.get? Fa=some (W.kla_obj "<lambda>" (X.env.qual ++ "<lambda>") params body scope cl ((X.mg "__name__").getD .none) c ctv)∧s2.heap.CodeRec (.ref c) (X.env.qual ++ "<lambda>"):=fun pinsR σR H2 s2 J sm=>by
  have o1:zcr XR.prog XR.w H2 s2.heap Fa (fHO Fa _):=J.hok Fa _ (sm _ _ hHF)
  have o2:zcr XR.prog XR.w H2 s2.heap c (cHO c _):=J.hok c _ (sm _ _ hHc)
  exact ⟨o1.1,o2.1⟩
 have hrR:zdf (k + 1) XR.A:=hr.deeper _
 have hjs:=hB XR CRR n Fa hn8 ⟨cdv,X.A,X.stack,s1,H1,fun _ _ _=>False,rfl⟩ ⟨G1,H1,rfl⟩ hrR (fun pinsR σR H2 s2 J sm=>?_) fun pinsR σR H2 s2 J sm=>?_
 ·refine ⟨_,hjs,G1,fun _=>none,some .opq :: List.replicate m none,?_,?_⟩
  ·refine ⟨rel1.gh,fun b e=>absurd rfl e,fun b e=>absurd rfl e,?_,fun i b e=>?_,.refl _ _ _,fun i _=>rfl⟩
   ·unfold L2.start;simp[hNR]
   ·cases i with
    | zero =>
     simp at e;subst e
     exact ⟨.ref Fa,rfl,trivial⟩
    | succ i =>
     rw[List.getElem?_cons_succ,List.getElem?_replicate] at e
     split at e <;> cases e
  ·obtain ⟨ρ',e⟩:=hden n (cls n) hn8
   rw[e]
   intro v σ' G' H' w' st' rel' rt
   obtain ⟨l,pp,us,e1,rfl,e3,e4,e5,e6,e7⟩:=rt
   injection e1 with e1
   subst e1
   have win:wIn w []=fun _=>none:=by
    funext b;unfold wIn;cases w b <;> rfl
   obtain ⟨r2,st2⟩:=rel1.back (as:=[]) (vs:=[]) (bs:=[]) (bs':=[]) (ks:=[]) rfl rfl rfl rfl (by rw[win];exact st') ⟨rel'.gh,rel'.wg,rel'.wh,fun j' v' z=>by simp at z⟩
   rw[ziN] at r2
   have w1p:w pp=none:=by
    cases zz:w pp with
    | none=>rfl
    | some kk=>exact absurd e3 (rel1.wh pp (by rw[zz];simp))
   exact kn pp us G' H' _ st2 r2 e3 e4 e5 (by unfold zmZ;rw[e6,w1p];rfl) e7
 ·
  obtain ⟨o1,o2⟩:=objs _ _ _ _ J sm
  refine zlv (σ:=σ) (N:=X.N) (t:=tE X.K (zmj C G1 H2 σ n) fE) J rfl (by have:=hrR.dp;omega) A.hk A.ho (cells _ _ _ _ J) I1.len o1 o2 (A.hbind _ _ _ _) A.hco A.hgen ?_ ?_
  ·refine A.hE _ (zmj C G1 H2 σ n) ⟨XR,cl,Fa,.ref c,s2,H2,EL (cls n) H2,rfl,rfl,rfl,rfl,rfl,rfl⟩ rfl (hrR.deeper _) (zhI fun u a H' ⟨ea,n',eu,en,G',w',s'⟩=>?_)
   have en':n'=n:=en
   subst en'
   exact ⟨eu.trans (hxv n' hn8),fun b o e=>s'.h b o e rfl⟩
  ·refine ⟨G1,fun _=>none,zaJ ρ,⟨rel1.gh.trans sm,fun b e=>absurd rfl e,fun b e=>absurd rfl e,by unfold zaJ;rw[List.length_map];exact hlen,fun i b e=>?_,.refl _ _ _,fun i hi=>by simp[zmj] at hi⟩,?_⟩
   ·unfold zaJ at e
    rw[List.getElem?_map] at e
    cases q:ρ[i]? with
    | none=>rw[q] at e;cases e
    | some o =>
     rw[q] at e
     simp only[Option.map_some,Option.some.injEq] at e
     split at e
     ·cases e
      obtain ⟨v,e1,e2⟩:=hval i _ q
      exact ⟨v,e1,e2⟩
     ·cases e
   ·rw[hfE]
    rfl
 ·obtain ⟨o1,_⟩:=objs _ _ _ _ J sm
  exact ⟨_,_,_,_,o1⟩
end
section
variable{X:Cx}{C:Cn}{f:Addr}{fd:FuncData}{st:Stmt}{xq xr xc xl:Str}{NR:List Str}{m k n ci:Nat}{dB:Nat→Addr→DS}
theorem Rel.setNone{K:W.Frag}{G H:Hp}{w:Wn}{ρ:Ev}{σ:L2.St}{i:Nat}{v:V}(r:Rel K C G w ρ σ H)(hi:ρ[i]? = some none)(hp:i∉C.pp):Rel K C G w ρ (σ.set i (some v)) H:=by
 refine ⟨r.gh,r.wg,r.wh,by rw[List.length_set];exact r.len,fun j b e=>?_,r.en,fun j hj=>?_⟩
 ·obtain ⟨u,h1,h2⟩:=r.sl j b e
  have hne:i≠j:=fun z=>by subst z;rw[hi] at e;cases e
  exact ⟨u,by rw[List.getElem?_set_ne hne];exact h1,h2⟩
 ·rw[List.getElem?_set_ne (fun z=>by subst z;exact hp hj)]
  exact r.pin j hj
theorem zqU{X:Cx}:PTs X [] (fun _ H Q=>Q true H):=fun pins s σ H Q I h=>wpAny_tests_nil ⟨H,I,h⟩
theorem zpu(cls:Nat→Addr)(hxv:∀ n,n < 8→C.xv n = .ref (cls n))(hfn:X.fn=fun _=>true)(hc:X.calm=true)
  (Fu:Fun X.K xq xr st f fd) (S:za1 NR ["call"] (zac st)) (hNR:NR.length=m + 1) (hbi:zfA X.K fd ["call"] []) (hm:X.mg xr=some (.ref f)) (hr:zdf (k + 2) X.A)
  (hB:∀(XR:Cx)(CR:Cn)(n:Nat)(Fa:Addr),n < 8→(∃ cdv A outer s H E,XR=zhs (CXe X.prog X.w) X.prog X.w X.K X.mg X.base NR xr (zac st) f cdv A outer s H E)→(∃ G H,CR=zjV C G H (start NR [.ref Fa]))→zdf (k + 1) XR.A →
   (∀ pins σ H s,L2.Inv XR pins σ H s→zbG CR.H₀ H→codeAny (model XR.prog XR.w) XR.A (.call (.ref Fa) ⟨[],[]⟩) (fun r s'=>∃ e,r = .error e∧CXf XR.prog XR.w XR.stack H s (EL (cls n) H) e s') s) →
   (∀ pins σ H s,L2.Inv XR pins σ H s→zbG CR.H₀ H→W.FnAt Fa s.heap)→JSs XR CR (zaw st) (dB n (cls n)))
  (hden:∀ n C',n < 8→∃ ρ',dB n C' (some .opq :: List.replicate m none) = .ok (.rt (.lst [.int n]),ρ')) (hn8:n < 8)
  (hpp:C.pp=List.range X.N.length) {p:Addr} {Fs:List Addr} (hσ:C.σ₀[ci]? = some (some (.ref p))) (hG:C.G₀ p=some (.lst (Fs.map V.ref))) {ρ0:Ev} (hF:∀ Fa∈Fs,zk5 X C.xv k n ρ0 C.G₀ Fa)
  (hval:∀(i:Nat)(d:Dt),ρ0[i]? = some (some (.val d))→∃ v,C.σ₀[i]? = some (some v)∧Rep X.K C.G₀ d v) (hlen:ρ0.length=X.N.length) (hlF:Fs.length≤1000)
  (hci:X.N[ci]? = some xl) (hvl:Vis X.env.scope xl) {scope:Scope} {N':List Str} {p1 p2 p3 p4 p5 pos:Pos} (hb:zfn X.N N' scope.names 1=true)
  (hkind:scope.kind = .function) (hcell:∀ y∈scope.names,y.2≠.cell) (hfr:∀ y∈scope.names,y.2 = .free→X.env.kindOf y.1=some .cell∨X.env.kindOf y.1=some .free) (hnames:∀ y∈scope.names,y.2 = .local→scope.names.lookup y.1=some .local)
  (hN':N'.Nodup) (hcs:N'[X.N.length]? = some xc) (hxl:scope.names.lookup xc=some .local)
  (hgl:∀ cl L s H fp,Gl (zbs X N' scope cl L s H fp) xr) (he:∀ cl L s H fp,starEach [.Name xc p2] (zbs X N' scope cl L s H fp).env=(false,eval (.Name xc p2) (zbs X N' scope cl L s H fp).env) :: starEach [] (zbs X N' scope cl L s H fp).env) (hpl:∀ cl L s H fp,(backTo p3 (starEach [] (zbs X N' scope cl L s H fp).env)).any (·.1)=false)
  (hvx:∀ cl L s H fp,Vis (zbs X N' scope cl L s H fp).env.scope xc∧Loc (zbs X N' scope cl L s H fp).env.scope xc∧(zbs X N' scope cl L s H fp).env.scope.names.lookup xc=some .local)
  (hdb:(xr == ("__debug__" : Str))=false:=by decide) (hdc:(xc == ("__debug__" : Str))=false:=by decide) (hdd:(xc == ("__classdict__" : Str))=false:=by decide) (hdl:(xl == ("__debug__" : Str))=false:=by decide) (hdm:(xl == ("__classdict__" : Str))=false:=by decide)
  (hs:∀ x,foldedSetIterable (.Name xl p5) X.env x=pure x:=by intro _;rfl) :
  JN X C (.ListComp (.Call (.Name xr p1) [.Name xc p2] [] p3) [⟨.Name xc p4,.Name xl p5,[],0⟩] scope pos) (fun ρ=>if ρ.length=X.N.length then .ok (List.replicate Fs.length (.lst [.int n]),ρ) else .no):=by
 intro pins s σ H Q I ⟨G,w,ρ,r,p0⟩
 dsimp only at p0
 split at p0
 case isFalse=>exact p0.elim
 rename_i hρl
 have kn:kN X.K C σ Q G H w (List.replicate Fs.length (.lst [.int n]),ρ):=p0
 obtain ⟨cl,hclos,hcl,hcf⟩:=zcd (scope:=scope) (env:=X.env) fun y hy hf=>I.ok.has y.1 (hfr y hy hf)
 have hlenσ:σ.length=X.N.length:=I.len
 have hciN:ci < X.N.length:=(List.getElem?_eq_some_iff.mp hci).1
 have pinN:∀ i,i < X.N.length→σ[i]? = C.σ₀[i]? := fun i hi=>r.pin i (by rw[hpp];exact List.mem_range.mpr hi)
 have hσp:σ[ci]? = some (some (.ref p)):=by rw[pinN ci hciN];exact hσ
 have gG:G p=some (.lst (Fs.map V.ref)):=r.en.g _ _ hG
 refine wpAny_comprehension_free (use:=none) rfl hs hclos hkind hnames ?_
 refine thn (zkf (tg:=.Name xc p4) (zbR (i:=ci) hci hvl hdl hdm) pins s σ H (fun J H2=>J=L2.Itl X.K p∧H2=H) I ⟨.ref p,hσp,p,rfl,⟨_,SqL.of (r.gh _ _ gG)⟩,rfl,rfl⟩) fun v s1 h1=>thn h1 fun itv s2 h2=>?_
 obtain ⟨it,fp,tn,J,H2,rfl,I2,T,st2,f2,rfl,rfl⟩:=h2
 generalize hCY:zd0 C X.N.length G H2 w (σ ++ List.replicate 1 none)=CY
 have cxv:CY.xv=C.xv:=by rw[← hCY];rfl
 have c0:CY.H₀=H2:=by rw[← hCY];rfl
 have cG:CY.G₀=G:=by rw[← hCY];rfl
 have cw:CY.w₀=w:=by rw[← hCY];rfl
 have cpp:CY.pp=List.range X.N.length:=by rw[← hCY];rfl
 have csp:X.N.length∉CY.pp:=by rw[cpp];simp
 let ρY:Ev:=ρ ++ [none]
 have hns:ρY[X.N.length]? = some none:=by
  show (ρ ++ [none])[X.N.length]? = _
  rw[List.getElem?_append_right (by omega),hρl];simp
 refine zls (RR:=fun acc C=>compPost (model X.prog X.w) X.A X.xe none (EP X pins σ Q) acc C) (iter:=.Name xl p5) (pos:=pos) (n:=Fs.length) (tgt:=zrs X.N.length) (tts:=fun _ H Q=>Q true H)
  (te:=fun σY H1 Q=>∃ Fa G1 w1,σY[X.N.length]? = some (some (.ref Fa))∧Rel X.K CY G1 w1 ρY σY H1∧zbG G G1∧zk5 X C.xv k n ρ0 G1 Fa∧kN X.K CY σY Q G1 H1 w1 ([.int n],ρY)) hc hb hkind hcell hfr (fun L s H fp I0 f0 hL=>⟨?_,zqU,?_⟩) hcl hcf I2 T st2 f2
  (fun D i σ' H' vs=>∃ G' w',Rel X.K CY G' w' ρY σ' H'∧G' D=none∧w' D=none∧za6 X.K G' (List.replicate i (.lst [.int n])) vs) (fun D hD=>?_) (fun D i σ' H' vs hD q5 hd5 hlt=>?_) (fun D σ' H' vs q5=>?_) fun D L s' vs σ' H' IX lo hD hd5 hl6 q5=>?_
 ·exact zil hN' hcs (hvx cl L s H fp).2.1 (.inr (hvx cl L s H fp).2.2)
 ·intro pinsY s1 σY H1 Q1 J1 ⟨Fa,G1,w1,q1,q2,qg,q3,q4⟩
  refine wpAny_Call_Name_kw (zfL J1 (hgl cl L s H fp) hm ?_ hdb)
  refine W.callWith_K (h₀:=X.base) J1.ok.mod.kin Fu.kp ?_ (he cl L s H fp) (hpl cl L s H fp)
  rw[he cl L s H fp]
  refine Calls.spliced_cons (thn (zbR (X:=zbs X N' scope cl L s H fp) (i:=X.N.length) hcs (hvx cl L s H fp).1 hdc hdd pinsY s1 σY H1 (fun v H'=>v = .ref Fa∧H'=H1) J1 ⟨.ref Fa,q1,rfl,rfl⟩) fun u s2 hEP=>?_)
  obtain ⟨v,H',J2,rv,ev,eH⟩:=hEP
  subst ev
  subst eH
  cases rv
  show wpAny _ _ (spliced []) _ _ s2
  refine Calls.spliced_nil ⟨J2.kIn,?_⟩
  have I2':L2.Inv X pins σ H' s2:=zkI (h':=s2.heap) I0 f0 hL J2 ⟨rfl,fun _ _=>rfl⟩
  refine wpAny_call (codeAny_mono (zpy (CY:=CY) cls hxv hfn Fu S hNR hbi hr hB hden hn8 I2' J2 q2 (fun i d e=>?_) (by rw[hlen,hlenσ]) q3 q4) fun rr s3 hq=>?_)
  ·obtain ⟨v,h1,h2⟩:=hval i d e
   have hi:i < X.N.length:=by rw[← hlen];exact (List.getElem?_eq_some_iff.mp e).1
   exact ⟨v,by rw[pinN i hi];exact h1,h2.same (r.en.g.trans qg)⟩
  ·cases rr with
   | error e=>exact (CXe.none hq).elim
   | ok fl =>
    cases fl with
    | ret u=>exact J2.after hq
    | next=>exact False.elim hq
    | brk=>exact False.elim hq
    | cont=>exact False.elim hq
 ·have w0:w D=none:=zdU r hD
  have base:Rel X.K CY G w ρY (σ ++ List.replicate 1 none) H2:=by
   refine ⟨r.gh,r.wg,r.wh,by simp[ρY,r.len],fun i b e=>?_,by rw[← hCY];exact .refl _ _ _,fun i _=>by rw[← hCY];rfl⟩
   have hi':i < ρ.length:=by
    by_cases hi':i < ρ.length
    ·exact hi'
    ·have e':(ρ ++ List.replicate 1 none)[i]? = some (some b):=e
     rw[List.getElem?_append_right (by omega),List.getElem?_replicate] at e'
     split at e' <;> cases e'
   have e':(ρ ++ [none])[i]? = some (some b):=e
   rw[List.getElem?_append_left hi'] at e'
   obtain ⟨v,h1,h2⟩:=r.sl i b e'
   exact ⟨v,by rw[List.getElem?_append_left (by rw[← r.len];exact hi')];exact h1,h2⟩
  exact ⟨G,w,base.upd_new (r.gh.free hD) w0 (by rw[c0];exact hD),r.gh.free hD,w0,za6.nil⟩
 ·obtain ⟨G',w',r5,gd5,wd5,q5⟩:=q5
  have sG:zbG G G':=by have:=r5.en.g;rw[cG] at this;exact this
  have hHp:H' p=some (.lst (Fs.map V.ref)):=r5.gh _ _ (sG _ _ gG)
  refine ⟨⟨Fs.map V.ref,.ref Fs[i],SqL.of hHp,by rw[List.getElem?_map,List.getElem?_eq_getElem hlt];rfl⟩,fun x H7 y7=>?_⟩
  obtain ⟨rfl,y7⟩:=y7
  have hx:=y7 _ (SqL.of hHp)
  rw[List.getElem?_map,List.getElem?_eq_getElem hlt] at hx
  have ex:V.ref Fs[i]=x:=by simpa using hx
  subst ex
  have r6:Rel X.K CY G' w' ρY (σ'.set X.N.length (some (.ref Fs[i]))) H7:=r5.setNone hns csp
  have hsl:X.N.length < σ'.length:=by rw[← r5.len];simp[ρY,hρl]
  show ∃ Fa G1 w1,_∧_∧_∧_∧_
  refine ⟨Fs[i],G',w',by rw[List.getElem?_set_self hsl],r6,sG,(hF _ (List.getElem_mem hlt)).same (r.en.g.trans sG),?_⟩
  intro q us G2 H3 w2 s2s r7 h0 h1 h2 h3 h4
  have keep:=s2s.keep gd5 wd5 hd5
  have qD:q≠D:=fun z=>by subst z;rw[hd5] at h0;cases h0
  obtain ⟨r8,s8⟩:=r7.know h1 h2 h3 _ G' w' s2s h0 (.inl (by rw[c0];exact (by have:=r5.en.k q h0;rw[c0] at this;exact this)))
  have sg:zbG G2 (upd G2 q (.lst us)):=fun b u e=>by rw[zai (zah e h2)];exact e
  have gd:upd G2 q (.lst us) D=none:=by rw[zai (Ne.symm qD)];exact keep.1
  refine ⟨keep.2.2,?_,upd G2 q (.lst us),w2,r8.upd_new gd keep.2.1 (by rw[c0];exact hD),gd,keep.2.1,?_⟩
  ·have:=q5.length
   rw[List.length_replicate] at this
   have:=zcV
   omega
  ·rw[List.replicate_succ']
   exact (q5.same (s2s.g.trans sg)).append (za6.cons (by unfold Rep;exact ⟨q,us,rfl,zaj,h4.same sg⟩) za6.nil)
 ·obtain ⟨G',w',r5,gd5,wd5,q5⟩:=q5
  have sG:zbG G G':=by have:=r5.en.g;rw[cG] at this;exact this
  have hHp:H' p=some (.lst (Fs.map V.ref)):=r5.gh _ _ (sG _ _ gG)
  exact ⟨_,SqL.of hHp,by simp⟩
 ·obtain ⟨G',w',r5,gd5,wd5,q5⟩:=q5
  obtain ⟨mm,hn⟩:=lo.ns
  have en':zb9 G H2 w G' H' w':=by have:=r5.en;rw[cG,c0,cw] at this;exact this
  refine ⟨mm,hn,fun h' hsb=>⟨.ref D,H',?_,rfl,kn D vs G' H' w' en' ⟨r5.gh,r5.wg,r5.wh,r.len,fun i b e=>?_,r.en.trans en',r.pin⟩ hD hd5 gd5 wd5 q5⟩⟩
  ·exact IX.turned (t':=s'.toks) (fun b o hb e=>(hsb.2 b hb).trans e) lo.fr lo.nl lo.nw lo.nc lo.np
  ·have hi':i < ρ.length:=(List.getElem?_eq_some_iff.mp e).1
   obtain ⟨v,h1,h2⟩:=r5.sl i b (by show (ρ ++ [none])[i]? = _;rw[List.getElem?_append_left hi'];exact e)
   refine ⟨v,?_,h2⟩
   have hpi:=r5.pin i (by rw[cpp];exact List.mem_range.mpr (by rw[← hρl];exact hi'))
   rw[h1] at hpi
   rw[← hCY] at hpi
   have hpi':some (some v)=(σ ++ List.replicate 1 none)[i]? := hpi
   rw[List.getElem?_append_left (by rw[hlenσ,← hρl];exact hi')] at hpi'
   exact hpi'.symm
end
def tLam(X:Cx)(P:Addr)(params:Arguments)(body:Expr)(scope:Scope)(lpos:Pos)(cl:List (Str × Addr)):TE:=fun σ H Q=>∃ ps:Array Value,zkH P (X.env.qual ++ "<lambda>") H H ps ∧
 (∀ c Fa ctv,codeAmong lpos ps.toList=none→H c=none→H Fa=none→c≠Fa→Q (.ref Fa) (upd (upd (upd H P (.tbl (ps ++ #[rawInt lpos.line,rawInt lpos.col,.ref c]))) c (cHO c (X.env.qual ++ "<lambda>"))) Fa (fHO Fa (W.kla_obj "<lambda>" (X.env.qual ++ "<lambda>") params body scope cl ((X.mg "__name__").getD .none) c ctv)))) ∧
 ∀ c Fa ctv,codeAmong lpos ps.toList=some (.ref c)→H Fa=none→Q (.ref Fa) (upd H Fa (fHO Fa (W.kla_obj "<lambda>" (X.env.qual ++ "<lambda>") params body scope cl ((X.mg "__name__").getD .none) c ctv)))
theorem zb9.upd{G H G' H':Hp}{w w':Wn}{p:Addr}{o:HO}(s:zb9 G H w G' H' w')(hp:H p=none):zb9 G H w G' (L2.upd H' p o) w' :=
 ⟨s.g,s.fr,fun b u e z=>by rw[zai (zah e hp)];exact s.h b u e z,s.w,fun b e=>by
  by_cases hb:b=p
  ·subst hb;exact hp
  ·rw[zai hb] at e;exact s.k b e⟩
section
variable{X:Cx}{C:Cn}{P:Addr}{params:Arguments}{body:Expr}{scope:Scope}{lpos:Pos}{cl:List (Str × Addr)}
theorem znQ(LB:zgC X P)(hdef:defaultsOf params X.env=([],[]))(hcl:closureFor scope X.env=pure cl):PE X (.Lambda params body scope lpos) (tLam X P params body scope lpos cl):=fun pins s σ H Q I ⟨ps,T,hA,hB⟩=>zqu LB I hdef hcl T hA hB
theorem zi3{G H:Hp}{w:Wn}{ρ:Ev}{σ:L2.St}{j:Nat}{Q:VK}(r:Rel X.K C G w ρ σ H)(hj:ρ[j]? = some (some (.tab (X.env.qual ++ "<lambda>"))))(hσj:σ[j]? = some (some (.ref P)))
  (k:∀ Fa c ctv G1 H1,Rel X.K C G1 w ρ σ H1→zb9 G H w G1 H1 w→G1 Fa=some (fHO Fa (W.kla_obj "<lambda>" (X.env.qual ++ "<lambda>") params body scope cl ((X.mg "__name__").getD .none) c ctv))→G1 c=some (cHO c (X.env.qual ++ "<lambda>"))→Q (.ref Fa) H1):tLam X P params body scope lpos cl σ H Q:=by
 obtain ⟨vP,eP1,P',ps,rfl,hwP,hHP,htri,hcod⟩:=r.sl j _ hj
 rw[hσj] at eP1
 obtain rfl:P=P':=by injection eP1 with e1;injection e1 with e2;injection e2
 have T:zkH P (X.env.qual ++ "<lambda>") G H ps:=⟨hHP,htri,hcod⟩
 have TH:zkH P (X.env.qual ++ "<lambda>") H H ps:=⟨hHP,htri,fun q cv z=>let ⟨c,z1,z2⟩:=hcod q cv z;⟨c,z1,r.gh _ _ z2⟩⟩
 refine ⟨ps,TH,fun c Fa ctv _ hc hF hne=>?_,fun c Fa ctv hk' hF=>?_⟩
 ·obtain ⟨rel1,st1⟩:=r.lamA (ob:=W.kla_obj "<lambda>" (X.env.qual ++ "<lambda>") params body scope cl ((X.mg "__name__").getD .none) c ctv) (a:=lpos.line) (b:=lpos.col) (t:=_) (u:=_) hj hσj hwP T hc hF hne
  exact k Fa c ctv _ _ rel1 st1 zaj (by rw[zai hne,zaj])
 ·obtain ⟨rel1,st1⟩:=r.lamB (ob:=W.kla_obj "<lambda>" (X.env.qual ++ "<lambda>") params body scope cl ((X.mg "__name__").getD .none) c ctv) hF
  obtain ⟨c2,e1,e2⟩:=hcod _ _ hk'
  cases e1
  have hcH:=r.gh _ _ e2
  exact k Fa c ctv _ _ rel1 st1 zaj (by rw[zai (zah hcH hF)];exact e2)
end
theorem eq3(n:Int):gEq true (.lst (List.replicate 3 (.lst [.int n]))) (.lst [.lst [.int n],.lst [.int n],.lst [.int n]]) = .ok (.bl false):=by
 show gEq true (.lst [.lst [.int n],.lst [.int n],.lst [.int n]]) (.lst [.lst [.int n],.lst [.int n],.lst [.int n]])=_
 unfold gEq
 rw[if_pos rfl]
 have e1:eqD (.lst [.int n]) (.lst [.int n])=true:=by rw[eqD,zgp,zgp,eqD];simp
 have e2:eqD (.lst [.lst [.int n],.lst [.int n],.lst [.int n]]) (.lst [.lst [.int n],.lst [.int n],.lst [.int n]])=true:=by
  rw[eqD,zgp,zgp,zgp,zgp,e1];rfl
 rw[e2]
 rfl
section
variable{X:Cx}{C:Cn}{P f:Addr}{fd:FuncData}{st:Stmt}{xq xr xc xl:Str}{NR:List Str}{m k n ci j:Nat}{dB:Nat→Addr→DS}
theorem znM(LB:zgC X P)(hjp:j∈C.pp)(hσ0:C.σ₀[j]? = some (some (.ref P)))(hip:ci∉C.pp)(cls:Nat→Addr)(hxv:∀ n,n < 8→C.xv n = .ref (cls n))(hfn:X.fn=fun _=>true)(hc:X.calm=true)
  (Fu:Fun X.K xq xr st f fd) (S:za1 NR ["call"] (zac st)) (hNR:NR.length=m + 1) (hbi:zfA X.K fd ["call"] []) (hm:X.mg xr=some (.ref f)) (hr:zdf (k + 2) X.A) (hu:X.A.units + 64 < cLine)
  (hB:∀(C:Cn),(∀ n,n < 8→C.xv n = .ref (cls n))→∀(XR:Cx)(CR:Cn)(n:Nat)(Fa:Addr),n < 8→(∃ cdv A outer s H E,XR=zhs (CXe X.prog X.w) X.prog X.w X.K X.mg X.base NR xr (zac st) f cdv A outer s H E)→(∃ G H,CR=zjV C G H (start NR [.ref Fa]))→zdf (k + 1) XR.A →
   (∀ pins σ H s,L2.Inv XR pins σ H s→zbG CR.H₀ H→codeAny (model XR.prog XR.w) XR.A (.call (.ref Fa) ⟨[],[]⟩) (fun r s'=>∃ e,r = .error e∧CXf XR.prog XR.w XR.stack H s (EL (cls n) H) e s') s) →
   (∀ pins σ H s,L2.Inv XR pins σ H s→zbG CR.H₀ H→W.FnAt Fa s.heap)→JSs XR CR (zaw st) (dB n (cls n)))
  (hden:∀ n C',n < 8→∃ ρ',dB n C' (some .opq :: List.replicate m none) = .ok (.rt (.lst [.int n]),ρ'))
  {pa1 pa2 pa3:Arguments} {b1 b2 b3:Expr} {s1 s2 s3:Scope} {f1 f2 f3:De} (A1:zlh X C.xv k pa1 b1 s1 f1) (A2:zlh X C.xv k pa2 b2 s2 f2) (A3:zlh X C.xv k pa3 b3 s3 f3)
  (hN:X.N.Nodup) (hci:X.N[ci]? = some xl) (hlx:Loc X.env.scope xl) (hvl:Vis X.env.scope xl) {scope:Scope} {N':List Str} {p1 p2 p3 p4 p5 pos:Pos} (hb:zfn X.N N' scope.names 1=true)
  (hkind:scope.kind = .function) (hcell:∀ y∈scope.names,y.2≠.cell) (hfr:∀ y∈scope.names,y.2 = .free→X.env.kindOf y.1=some .cell∨X.env.kindOf y.1=some .free) (hnames:∀ y∈scope.names,y.2 = .local→scope.names.lookup y.1=some .local)
  (hN':N'.Nodup) (hcs:N'[X.N.length]? = some xc) (hxl:scope.names.lookup xc=some .local)
  (hgl:∀ cl L s H fp,Gl (zbs X N' scope cl L s H fp) xr) (he:∀ cl L s H fp,starEach [.Name xc p2] (zbs X N' scope cl L s H fp).env=(false,eval (.Name xc p2) (zbs X N' scope cl L s H fp).env) :: starEach [] (zbs X N' scope cl L s H fp).env) (hpl:∀ cl L s H fp,(backTo p3 (starEach [] (zbs X N' scope cl L s H fp).env)).any (·.1)=false)
  (hvx:∀ cl L s H fp,Vis (zbs X N' scope cl L s H fp).env.scope xc∧Loc (zbs X N' scope cl L s H fp).env.scope xc∧(zbs X N' scope cl L s H fp).env.scope.names.lookup xc=some .local)
  {rhs:Expr} {fR:De} (hR:∀ C,JE X C rhs fR) (hRd:∀ ρ,fR ρ = .ok (.lst [.lst [.int n],.lst [.int n],.lst [.int n]],ρ))
  {ret:Stmt} {zch:List Stmt} {grest:DS} (hrest:JSs X C zch grest) {l1 l2 l3 q1 q2 q3 q4 q5 q6 q7 q8 q9 q10 q11 q12 q13:Pos}
  (hsw1:swapsWith (.List [.Lambda pa1 b1 s1 l1] q2) (some (.Name xl q1)) q3.line X.env=pure false) (hse1:starEach [.Lambda pa1 b1 s1 l1] X.env=(false,eval (.Lambda pa1 b1 s1 l1) X.env) :: starEach [] X.env)
  (hsw2:swapsWith (.Call (.Attribute (.Name xl q4) "append" q5) [.Lambda pa2 b2 s2 l2] [] q6) none q7.line X.env=pure false) (hse2:starEach [.Lambda pa2 b2 s2 l2] X.env=(false,eval (.Lambda pa2 b2 s2 l2) X.env) :: starEach [] X.env)
  (hba2:attributeBase (.Name xl q4) "append" X.env (eval (.Name xl q4) X.env)=eval (.Name xl q4) X.env) (hfw2:((backTo q6 (starEach [.Lambda pa2 b2 s2 l2] X.env)).all (fun x=>!x.1) && (backToKw q6 (keywordEach [] X.env)).all (fun x=>x.1.isSome) && decide ([Expr.Lambda pa2 b2 s2 l2].length + ([]:List Keyword).length + (if ([]:List Keyword).isEmpty then 0 else 1) < 30))=true)
  (hln2:(q5.endLine == q6.line)=true) (hpl2:(backTo q6 (starEach [] X.env)).any (·.1)=false)
  (hsw3:swapsWith (.Call (.Attribute (.Name xl q8) "append" q9) [.Lambda pa3 b3 s3 l3] [] q10) none q11.line X.env=pure false) (hse3:starEach [.Lambda pa3 b3 s3 l3] X.env=(false,eval (.Lambda pa3 b3 s3 l3) X.env) :: starEach [] X.env)
  (hba3:attributeBase (.Name xl q8) "append" X.env (eval (.Name xl q8) X.env)=eval (.Name xl q8) X.env) (hfw3:((backTo q10 (starEach [.Lambda pa3 b3 s3 l3] X.env)).all (fun x=>!x.1) && (backToKw q10 (keywordEach [] X.env)).all (fun x=>x.1.isSome) && decide ([Expr.Lambda pa3 b3 s3 l3].length + ([]:List Keyword).length + (if ([]:List Keyword).isEmpty then 0 else 1) < 30))=true)
  (hln3:(q9.endLine == q10.line)=true) (hpl3:(backTo q10 (starEach [] X.env)).any (·.1)=false)
  (hs:∀ x,foldedSetIterable (.Name xl p5) X.env x=pure x)
  (hdb:(xr == ("__debug__" : Str))=false:=by decide) (hdc:(xc == ("__debug__" : Str))=false:=by decide) (hdd:(xc == ("__classdict__" : Str))=false:=by decide) (hdl:(xl == ("__debug__" : Str))=false:=by decide) (hdm:(xl == ("__classdict__" : Str))=false:=by decide) :
  JSs X C (.Assign [.Name xl q1] (.List [.Lambda pa1 b1 s1 l1] q2) q3 :: .Expr (.Call (.Attribute (.Name xl q4) "append" q5) [.Lambda pa2 b2 s2 l2] [] q6) q7 :: .Expr (.Call (.Attribute (.Name xl q8) "append" q9) [.Lambda pa3 b3 s3 l3] [] q10) q11 ::
   .If (.Compare (.ListComp (.Call (.Name xr p1) [.Name xc p2] [] p3) [⟨.Name xc p4,.Name xl p5,[],0⟩] scope pos) [.NotEq] [rhs] q12) [ret] [] q13 :: zch) (za4 (ziV j ci (X.env.qual ++ "<lambda>") n f1 f2 f3) grest):=by
 intro pins s σ H D I ⟨G,w,ρ,r,p0⟩
 obtain ⟨hn8,hj,hci0,hf1,hf2,hf3,p1'⟩ : n < 8∧ρ[j]? = some (some (.tab (X.env.qual ++ "<lambda>")))∧ρ[ci]? = some none∧f1 (zaJ ρ) = .er n∧f2 (zaJ ρ) = .er n∧f3 (zaJ ρ) = .er n∧zcu C.ex (kS X.K C D G H w) (grest ρ):=by
  unfold za4 ziV at p0
  split at p0
  ·rename_i q' e1 e2
   split at p0
   ·rename_i hcond
    obtain ⟨c1,c2,c3,c4,c5⟩:=hcond
    subst c1
    exact ⟨c2,e1,e2,zke c3,zke c4,zke c5,p0⟩
   ·exact p0.elim
  ·exact p0.elim
 have hσj:σ[j]? = some (some (.ref P)):=by rw[r.pin j hjp];exact hσ0
 have hlenσ:σ.length=X.N.length:=I.len
 have hρl:ρ.length=X.N.length:=by rw[r.len,hlenσ]
 have hciN:ci < X.N.length:=(List.getElem?_eq_some_iff.mp hci).1
 have hjc:j≠ci:=fun z=>hip (z ▸ hjp)
 obtain ⟨cl1,hclos1,hcl1,hcf1⟩:=zcd (scope:=s1) (env:=X.env) fun y hy hf=>I.ok.has y.1 (A1.hfr y hy hf)
 obtain ⟨cl2,hclos2,hcl2,hcf2⟩:=zcd (scope:=s2) (env:=X.env) fun y hy hf=>I.ok.has y.1 (A2.hfr y hy hf)
 obtain ⟨cl3,hclos3,hcl3,hcf3⟩:=zcd (scope:=s3) (env:=X.env) fun y hy hf=>I.ok.has y.1 (A3.hfr y hy hf)
 let f4:DS:=dIf (dTB (dOp (gEq true) (dFz (fun ρ=>if ρ.length=X.N.length then .ok (List.replicate 3 (.lst [.int n]),ρ) else .no)) fR)) dNo dNx
 let T4:TS:=fun D σ H=>∃(C4:Cn)(p F1 F2 F3:Addr),C4.xv=C.xv∧C4.pp=List.range X.N.length∧C4.σ₀[ci]? = some (some (.ref p))∧C4.G₀ p=some (.lst [.ref F1,.ref F2,.ref F3])∧(∀ Fa∈[F1,F2,F3],zk5 X C.xv k n ρ C4.G₀ Fa)∧(∀(i:Nat)(d:Dt),ρ[i]? = some (some (.val d))→∃ v,C4.σ₀[i]? = some (some v)∧Rep X.K C4.G₀ d v)∧tS X.K C4 f4 D σ H
 have h4:PS X (.If (.Compare (.ListComp (.Call (.Name xr p1) [.Name xc p2] [] p3) [⟨.Name xc p4,.Name xl p5,[],0⟩] scope pos) [.NotEq] [rhs] q12) [ret] [] q13) T4:=by
  intro pins s σ H D I ⟨C4,p,F1,F2,F3,e1,e2,e3,e4,e5,e6,t⟩
  have hj4:=zpu (C:=C4) (k:=k) (n:=n) (dB:=dB) cls (by rw[e1];exact hxv) hfn hc Fu S hNR hbi hm hr (hB C4 (by rw[e1];exact hxv)) hden hn8 e2 (Fs:=[F1,F2,F3]) e3 e4 (ρ0:=ρ) (by rw[e1];exact e5) e6 hρl (by simp) hci hvl (p1:=p1) (p2:=p2) (p3:=p3) (p4:=p4) (p5:=p5) (pos:=pos) hb hkind hcell hfr hnames hN' hcs hxl hgl he hpl hvx hdb hdc hdd hdl hdm hs
  exact (zbV (zmJ hu (zaD hj4) (hR C4)) (zak zlQ) zaP) pins s σ H D I t
 refine (zfo (zl3 (i:=ci) hN hci hlx (zqg (zbe (znQ LB A1.hdef hclos1) zc4 hse1)) hsw1 (.inl (by rw[hfn])))
  (zfo (zkv (zmg PySem.F.plainAttrs_list PySem.F.slot_list_append PySem.F.type_list_append ze5 (zbR (i:=ci) hci hvl hdl hdm) (zbe (znQ LB A2.hdef hclos2) zc4 hse2) hba2 hfw2 hln2 hse2 hpl2) hsw2)
   (zfo (zkv (zmg PySem.F.plainAttrs_list PySem.F.slot_list_append PySem.F.type_list_append ze5 (zbR (i:=ci) hci hvl hdl hdm) (zbe (znQ LB A3.hdef hclos3) zc4 hse3) hba3 hfw3 hln3 hse3 hpl3) hsw3)
    (zfo h4 hrest)))) pins s σ H D I ?_
 unfold tSeq zug tLst zq8 ztc tBM
 refine zi3 r hj hσj fun F1 c1 ctv1 G1 H1 r1 st1 gF1 gc1=>⟨by show 1≤sizeLine;decide,fun p hp=>?_⟩
 have hH0:H p=none:=st1.k p hp
 have hC0:C.H₀ p=none:=r.en.k p hH0
 have wp:w p=none:=zdU r1 hp
 have gp1:G1 p=none:=r1.gh.free hp
 let σ1:L2.St:=σ.set ci (some (.ref p))
 have hs1:σ1[ci]? = some (some (.ref p)):=by
  show (σ.set ci (some (.ref p)))[ci]? = _
  rw[List.getElem?_set_self (by rw[hlenσ];exact hciN)]
 have hs1j:σ1[j]? = some (some (.ref P)):=by
  show (σ.set ci (some (.ref p)))[j]? = _
  rw[List.getElem?_set_ne (Ne.symm hjc)];exact hσj
 have r2:Rel X.K C G1 w ρ σ1 (upd H1 p (.lst [.ref F1])):=(r1.upd_new gp1 wp hC0).setNone hci0 hip
 have S1:zb9 G H w G1 (upd H1 p (.lst [.ref F1])) w:=st1.upd hH0
 refine ⟨.ref p,hs1,.inl ⟨rfl,_,SqL.of zaj⟩,?_⟩
 refine zi3 r2 hj hs1j fun F2 c2 ctv2 G2 H3 r3 st3 gF2 gc2=>?_
 have k3:=st3.keep gp1 wp zaj
 have r4:Rel X.K C G2 w ρ σ1 (upd H3 p (.lst [.ref F1,.ref F2])):=r3.upd_new k3.1 wp hC0
 have S2:zb9 G H w G2 (upd H3 p (.lst [.ref F1,.ref F2])) w:=(S1.trans st3).upd hH0
 refine ⟨p,[.ref F1],.ref F2,rfl,rfl,k3.2.2,by show 1 < sizeLine;decide,?_⟩
 refine ⟨.ref p,hs1,.inl ⟨rfl,_,SqL.of zaj⟩,?_⟩
 refine zi3 r4 hj hs1j fun F3 c3 ctv3 G3 H5 r5 st5 gF3 gc3=>?_
 have k5:=st5.keep k3.1 wp zaj
 have r6:Rel X.K C G3 w ρ σ1 (upd H5 p (.lst [.ref F1,.ref F2,.ref F3])):=r5.upd_new k5.1 wp hC0
 have S3:zb9 G H w G3 (upd H5 p (.lst [.ref F1,.ref F2,.ref F3])) w:=(S2.trans st5).upd hH0
 refine ⟨p,[.ref F1,.ref F2],.ref F3,rfl,rfl,k5.2.2,by show 2 < sizeLine;decide,?_⟩
 obtain ⟨rK,SK⟩:=r6.know zaj k5.1 wp H G w S3 hH0 (.inl hC0)
 have sg:zbG G3 (upd G3 p (.lst [.ref F1,.ref F2,.ref F3])):=fun b u e=>by rw[zai (zah e k5.1)];exact e
 have g13:zbG G1 (upd G3 p (.lst [.ref F1,.ref F2,.ref F3])):=(st3.g.trans st5.g).trans sg
 have g23:zbG G2 (upd G3 p (.lst [.ref F1,.ref F2,.ref F3])):=st5.g.trans sg
 refine ⟨⟨upd G3 p (.lst [.ref F1,.ref F2,.ref F3]),upd H5 p (.lst [.ref F1,.ref F2,.ref F3]),w,List.range X.N.length,σ1,C.ex,C.xv,C.nw⟩,p,F1,F2,F3,rfl,rfl,hs1,zaj,fun Fa hFa=>?_,fun i d e=>?_,?_⟩
 ·simp only[List.mem_cons,List.not_mem_nil,or_false] at hFa
  rcases hFa with rfl | rfl | rfl
  ·exact ⟨_,_,_,cl1,c1,ctv1,_,A1,hcl1,hcf1,g13 _ _ gF1,g13 _ _ gc1,hf1⟩
  ·exact ⟨_,_,_,cl2,c2,ctv2,_,A2,hcl2,hcf2,g23 _ _ gF2,g23 _ _ gc2,hf2⟩
  ·exact ⟨_,_,_,cl3,c3,ctv3,_,A3,hcl3,hcf3,sg _ _ gF3,sg _ _ gc3,hf3⟩
 ·obtain ⟨v,h1,h2⟩:=rK.sl i _ e
  exact ⟨v,h1,h2⟩
 ·refine ⟨upd G3 p (.lst [.ref F1,.ref F2,.ref F3]),w,ρ,⟨rK.gh,rK.wg,rK.wh,rK.len,rK.sl,.refl _ _ _,fun _ _=>rfl⟩,?_⟩
  have e4:f4 ρ = .ok (.nx,ρ):=by
   show dIf _ _ _ ρ=_
   unfold dIf dTB dOp dFz
   simp only[hρl,if_true,R.bind_ok,hRd,eq3]
   rfl
  rw[e4]
  intro σ' G' H' w' st' r'
  have sl':σ'.length=X.N.length:=by rw[← r'.len,hρl]
  refine ⟨G',w',ρ,⟨r'.gh,r'.wg,r'.wh,r'.len,r'.sl,rK.en.trans st',fun i hi=>?_⟩,zcu.step zeb (SK.trans st') p1'⟩
  have h1:=rK.pin i hi
  by_cases hiN:i < X.N.length
  ·rw[← h1]
   exact r'.pin i (List.mem_range.mpr hiN)
  ·rw[← h1,List.getElem?_eq_none (by omega),List.getElem?_eq_none (by show (σ.set ci _).length≤i;rw[List.length_set];omega)]
end
end PV
end
section
namespace Lw
open PySem PySem.Spec L2 PV
def top(i:Nat):Stmt:=PySem.Challenge.pw_standtogether_k60_guests_named_anew.main.body.getD i (.Pass ⟨0,0,0,0⟩)
def xvC(cls:Nat→Addr):Nat→Value:=fun n=>.ref (cls n)
abbrev zdV:Str:=((Str.ofString "_law_refusals_right") ++ ".<locals>.") ++ "<lambda>"
structure Tx(K:W.Frag)(mg:Str→Option Value)(cls:Nat→Addr):Prop where
 xc:∀ n,n < 8→Xin K (cls n)
 xm0:mg (Str.ofString "NoGuests")=some (.ref (cls 0))
 xm1:mg (Str.ofString "NoParties")=some (.ref (cls 1))
 xm2:mg (Str.ofString "NoNumber")=some (.ref (cls 2))
 xm3:mg (Str.ofString "NoText")=some (.ref (cls 3))
 xm4:mg (Str.ofString "NoLine")=some (.ref (cls 4))
 xm5:mg (Str.ofString "NoDeed")=some (.ref (cls 5))
 xm6:mg (Str.ofString "NoWeb")=some (.ref (cls 6))
 xm7:mg (Str.ofString "NoOrder")=some (.ref (cls 7))
 xS:∃ Cs,Xin K Cs∧mg (Str.ofString "SeatError")=some (.ref Cs)∧∀ n,n < 8→W.subIn K (.ref (cls n)) (.ref Cs)=some true
 xi:∀ n k,n < 8→k < 8→W.kitOne K (.ref (cls n)) (.ref (cls k))=some (n == k)
 xV:∀ n,n < 8→W.kitOne K (.ref (cls n)) (.type "ValueError")=some true
 u_is_whole:∃ f fd,Fun K (Str.ofString "is_whole") (Str.ofString "is_whole") (top 13) f fd∧mg (Str.ofString "is_whole")=some (.ref f)
 u_check_guests:∃ f fd,Fun K (Str.ofString "check_guests") (Str.ofString "check_guests") (top 14) f fd∧mg (Str.ofString "check_guests")=some (.ref f)
 u_is_guest:∃ f fd,Fun K (Str.ofString "is_guest") (Str.ofString "is_guest") (top 16) f fd∧mg (Str.ofString "is_guest")=some (.ref f)
 u_are_guests:∃ f fd,Fun K (Str.ofString "are_guests") (Str.ofString "are_guests") (top 17) f fd∧mg (Str.ofString "are_guests")=some (.ref f)
 u_rises:∃ f fd,Fun K (Str.ofString "rises") (Str.ofString "rises") (top 18) f fd∧mg (Str.ofString "rises")=some (.ref f)
 u_is_party:∃ f fd,Fun K (Str.ofString "is_party") (Str.ofString "is_party") (top 19) f fd∧mg (Str.ofString "is_party")=some (.ref f)
 u_is_parties:∃ f fd,Fun K (Str.ofString "is_parties") (Str.ofString "is_parties") (top 20) f fd∧mg (Str.ofString "is_parties")=some (.ref f)
 u_check_parties:∃ f fd,Fun K (Str.ofString "check_parties") (Str.ofString "check_parties") (top 15) f fd∧mg (Str.ofString "check_parties")=some (.ref f)
 u_is_seating:∃ f fd,Fun K (Str.ofString "is_seating") (Str.ofString "is_seating") (top 21) f fd∧mg (Str.ofString "is_seating")=some (.ref f)
 u_is_leaf:∃ f fd,Fun K (Str.ofString "is_leaf") (Str.ofString "is_leaf") (top 23) f fd∧mg (Str.ofString "is_leaf")=some (.ref f)
 u_row_as_written:∃ f fd,Fun K (Str.ofString "row_as_written") (Str.ofString "row_as_written") (top 24) f fd∧mg (Str.ofString "row_as_written")=some (.ref f)
 u_guests_in:∃ f fd,Fun K (Str.ofString "guests_in") (Str.ofString "guests_in") (top 25) f fd∧mg (Str.ofString "guests_in")=some (.ref f)
 u_least_guest:∃ f fd,Fun K (Str.ofString "least_guest") (Str.ofString "least_guest") (top 26) f fd∧mg (Str.ofString "least_guest")=some (.ref f)
 u_put_least:∃ f fd,Fun K (Str.ofString "put_least") (Str.ofString "put_least") (top 27) f fd∧mg (Str.ofString "put_least")=some (.ref f)
 u_check_order:∃ f fd,Fun K (Str.ofString "check_order") (Str.ofString "check_order") (top 29) f fd∧mg (Str.ofString "check_order")=some (.ref f)
 u_named:∃ f fd,Fun K (Str.ofString "named") (Str.ofString "named") (top 30) f fd∧mg (Str.ofString "named")=some (.ref f)
 u_parties_named:∃ f fd,Fun K (Str.ofString "parties_named") (Str.ofString "parties_named") (top 31) f fd∧mg (Str.ofString "parties_named")=some (.ref f)
 u_seating_named:∃ f fd,Fun K (Str.ofString "seating_named") (Str.ofString "seating_named") (top 32) f fd∧mg (Str.ofString "seating_named")=some (.ref f)
 u_with_steads:∃ f fd,Fun K (Str.ofString "with_steads") (Str.ofString "with_steads") (top 33) f fd∧mg (Str.ofString "with_steads")=some (.ref f)
 u_tree_named:∃ f fd,Fun K (Str.ofString "tree_named") (Str.ofString "tree_named") (top 34) f fd∧mg (Str.ofString "tree_named")=some (.ref f)
 u__law_cell_at:∃ f fd,Fun K (Str.ofString "_law_cell_at") (Str.ofString "_law_cell_at") (top 38) f fd∧mg (Str.ofString "_law_cell_at")=some (.ref f)
 u__law_state:∃ f fd,Fun K (Str.ofString "_law_state") (Str.ofString "_law_state") (top 39) f fd∧mg (Str.ofString "_law_state")=some (.ref f)
 u__law_take:∃ f fd,Fun K (Str.ofString "_law_take") (Str.ofString "_law_take") (top 36) f fd∧mg (Str.ofString "_law_take")=some (.ref f)
 u__law_refused:∃ f fd,Fun K (Str.ofString "_law_refused") (Str.ofString "_law_refused") (top 37) f fd∧mg (Str.ofString "_law_refused")=some (.ref f)
 u__law_order:∃ f fd,Fun K (Str.ofString "_law_order") (Str.ofString "_law_order") (top 40) f fd∧mg (Str.ofString "_law_order")=some (.ref f)
 u__law_parties:∃ f fd,Fun K (Str.ofString "_law_parties") (Str.ofString "_law_parties") (top 41) f fd∧mg (Str.ofString "_law_parties")=some (.ref f)
 u__law_tree:∃ f fd,Fun K (Str.ofString "_law_tree") (Str.ofString "_law_tree") (top 42) f fd∧mg (Str.ofString "_law_tree")=some (.ref f)
 u__law_same:∃ f fd,Fun K (Str.ofString "_law_same") (Str.ofString "_law_same") (top 43) f fd∧mg (Str.ofString "_law_same")=some (.ref f)
 u__law_leaves:∃ f fd,Fun K (Str.ofString "_law_leaves") (Str.ofString "_law_leaves") (top 44) f fd∧mg (Str.ofString "_law_leaves")=some (.ref f)
 u__law_least:∃ f fd,Fun K (Str.ofString "_law_least") (Str.ofString "_law_least") (top 45) f fd∧mg (Str.ofString "_law_least")=some (.ref f)
 u__law_led:∃ f fd,Fun K (Str.ofString "_law_led") (Str.ofString "_law_led") (top 46) f fd∧mg (Str.ofString "_law_led")=some (.ref f)
 u__law_refusals_right:∃ f fd,Fun K (Str.ofString "_law_refusals_right") (Str.ofString "_law_refusals_right") (top 47) f fd∧mg (Str.ofString "_law_refusals_right")=some (.ref f)
 u_law:∃ f fd,Fun K (Str.ofString "law") (Str.ofString "law") (top 48) f fd∧mg (Str.ofString "law")=some (.ref f)
 b_ValueError:mg (Str.ofString "ValueError")=none
 b_all:mg (Str.ofString "all")=none
 b_bool:mg (Str.ofString "bool")=none
 b_int:mg (Str.ofString "int")=none
 b_isinstance:mg (Str.ofString "isinstance")=none
 b_len:mg (Str.ofString "len")=none
 b_list:mg (Str.ofString "list")=none
 b_max:mg (Str.ofString "max")=none
 b_min:mg (Str.ofString "min")=none
 b_range:mg (Str.ofString "range")=none
 b_reversed:mg (Str.ofString "reversed")=none
 b_sorted:mg (Str.ofString "sorted")=none
 b_tuple:mg (Str.ofString "tuple")=none
 b_zip:mg (Str.ofString "zip")=none
 g_MOST_GUESTS:∃ t,mg (Str.ofString "MOST_GUESTS")=some (.int 7 t)
 g_MOST_PARTIES:∃ t,mg (Str.ofString "MOST_PARTIES")=some (.int 8 t)
section
variable{P:Program}{w:World}{K:W.Frag}{mg:Str→Option Value}{base:Heap}{xv:Nat→Value}{cls:Nat→Addr}
abbrev zmh:List Str:=["thing"]
abbrev zfB:List Str:=["thing"]
theorem zkt:za1 zmh zfB (zac (top 13)):=⟨rfl,rfl,rfl,by decide +kernel,rfl,by decide +kernel,by decide +kernel⟩
def zhT:DS:=(zb2 (zjf (ze2 "int" (zab 0)) (ztx (ze2 "bool" (zab 0)))))
def zce:FD:=zas false [false] 0 zhT
theorem zhD(T:Tx K mg cls):Dfn false P w K mg base (CXe P w) (xvC cls) 3 (Str.ofString "is_whole") [false] zce:=by
  obtain ⟨f,fd,U,hm⟩:=T.u_is_whole
  refine ⟨f,fd,zfB,?_,hm,U.kp,U.binds (ps:=zfB) fun _ _ _ _ _ _ us hl=>match us,hl with | [_],_=>rfl,zav⟩
  refine zaN (k:=2) false zaI U zkt rfl rfl fun X C hX hpp hxv hnw hr hx hpo=>?_
  obtain ⟨cG,cH,cw,cpp,cσ,cex,cxv,cnw⟩:=C
  dsimp only at hpp hxv hnw
  subst hpp hxv hnw
  have hnw:(false:Bool)=false:=rfl
  obtain ⟨cdv,A,outer,s,H,E,rfl⟩:=hX
  exact (zak (by exact (zaA hnw (zgF (zdi zru rfl T.b_isinstance zcW rfl T.b_int zsG (zaa 0)) (zgA (zqo (zdi ziH rfl T.b_isinstance zcW rfl T.b_bool zkr (zaa 0))))))))
abbrev zh2:List Str:=["n"]
abbrev zd2:List Str:=["n"]
theorem zgN:za1 zh2 zd2 (zac (top 14)):=⟨rfl,rfl,rfl,by decide +kernel,rfl,by decide +kernel,by decide +kernel⟩
def zbT:DS:=(dIf (zk6 (zb0 (dTB (zaf zce (dR (zab 0) dR0)))) (zk6 (dTB (dOp gLt (zab 0) (dC (.int 1)))) (dTB (dOp gGt (zab 0) (dC (.int 7)))))) (zgD 0 (dA (dC (.str (Str.ofString "the guests are no whole number from 1 to 7"))) dA0)) dNx)
def za2:FD:=zas false [false] 0 zbT
theorem zdy(T:Tx K mg cls):Dfn false P w K mg base (CXe P w) (xvC cls) 6 (Str.ofString "check_guests") [false] za2:=by
  obtain ⟨f,fd,U,hm⟩:=T.u_check_guests
  refine ⟨f,fd,zd2,?_,hm,U.kp,U.binds (ps:=zd2) fun _ _ _ _ _ _ us hl=>match us,hl with | [_],_=>rfl,zav⟩
  refine zaN (k:=5) false zaI U zgN rfl rfl fun X C hX hpp hxv hnw hr hx hpo=>?_
  obtain ⟨cG,cH,cw,cpp,cσ,cex,cxv,cnw⟩:=C
  dsimp only at hpp hxv hnw
  subst hpp hxv hnw
  have hnw:(false:Bool)=false:=rfl
  obtain ⟨cdv,A,outer,s,H,E,rfl⟩:=hX
  exact (zak (by exact (zbV (JW.jt (zox (zeg (zcq (zaB (zhD T) hr (by omega) hx (zae (zaa 0) zaq)))) (zox (znU (zaa 0) zan) (zlp (znV (zaa 0) (znG rfl T.g_MOST_GUESTS.choose_spec)))))) (zak (by exact (zig hx rfl (T.xc 0 (by decide)).cls T.xm0 rfl (zao zga zaF)))) zaP)))
abbrev zmc:List Str:=["n","thing"]
abbrev zfT:List Str:=["n","thing"]
theorem zkg:za1 zmc zfT (zac (top 16)):=⟨rfl,rfl,rfl,by decide +kernel,rfl,by decide +kernel,by decide +kernel⟩
def zeH:DS:=(zb2 (zjf (zaf zce (dR (zab 1) dR0)) (zjY gLe gLt (dC (.int 0)) (zab 1) (zab 0))))
def zcw:FD:=zas false [false,false] 0 zeH
theorem zmo(T:Tx K mg cls):Dfn false P w K mg base (CXe P w) (xvC cls) 6 (Str.ofString "is_guest") [false,false] zcw:=by
  obtain ⟨f,fd,U,hm⟩:=T.u_is_guest
  refine ⟨f,fd,zfT,?_,hm,U.kp,U.binds (ps:=zfT) fun _ _ _ _ _ _ us hl=>match us,hl with | [_,_],_=>rfl,zav⟩
  refine zaN (k:=5) false zaI U zkg rfl rfl fun X C hX hpp hxv hnw hr hx hpo=>?_
  obtain ⟨cG,cH,cw,cpp,cσ,cex,cxv,cnw⟩:=C
  dsimp only at hpp hxv hnw
  subst hpp hxv hnw
  have hnw:(false:Bool)=false:=rfl
  obtain ⟨cdv,A,outer,s,H,E,rfl⟩:=hX
  exact (zak (by exact (zaA hnw (zgF (zaB (zhD T) hr (by omega) hx (zae (zaa 1) zaq)) (zgA (zoY ztW zeV zdP zqW zeV zdP zan (zaa 1) (zaa 0)))))))
abbrev zjS:List Str:=["n","thing"]
abbrev zet:List Str:=["n","thing"]
theorem ziL:za1 zjS zet (zac (top 17)):=⟨rfl,rfl,rfl,by decide +kernel,rfl,by decide +kernel,by decide +kernel⟩
abbrev zd9:List Str:=["n","thing","part"]
theorem zg9:zd9.Nodup:=by decide +kernel
def zdm:DS:=(zb2 (zjf (ze2 "tuple" (zab 1)) (dFn zlT (dA (dFz (zaO (dIt (zab 1)) (zbo 2) dTT (zaf zcw (dR (zab 0) (dR (zab 2) dR0))) 1)) dA0))))
def zb7:FD:=zas false [false,false] 0 zdm
theorem zgf(T:Tx K mg cls):Dfn false P w K mg base (CXe P w) (xvC cls) 9 (Str.ofString "are_guests") [false,false] zb7:=by
  obtain ⟨f,fd,U,hm⟩:=T.u_are_guests
  refine ⟨f,fd,zet,?_,hm,U.kp,U.binds (ps:=zet) fun _ _ _ _ _ _ us hl=>match us,hl with | [_,_],_=>rfl,zav⟩
  refine zaN (k:=8) false zaI U ziL rfl rfl fun X C hX hpp hxv hnw hr hx hpo=>?_
  obtain ⟨cG,cH,cw,cpp,cσ,cex,cxv,cnw⟩:=C
  dsimp only at hpp hxv hnw
  subst hpp hxv hnw
  have hnw:(false:Bool)=false:=rfl
  obtain ⟨cdv,A,outer,s,H,E,rfl⟩:=hX
  exact (zak (by exact (zaA hnw (zgF (zdi zc8 rfl T.b_isinstance zcW rfl T.b_tuple zcM (zaa 1)) (zgA (zpI rfl T.b_all (zaD (zcF (zdj (zaa 1)) rfl (N':=zd9) (m:=1) (by kernel_rfl) rfl (zba (by kernel_rfl)) (zbq (by kernel_rfl)) (zbM (by kernel_rfl)) (fun cl L s H fp G H' w σ=>⟨(zbr (i:=2) zg9 rfl (by first | exact Or.inl rfl | exact Or.inr rfl) (show 2∉List.range 2 by decide)),zcv,(zaB (zmo T) hr (by omega) (znR fun _ z=>z) (zae (zaa 0) (zae (zaa 2) zaq)))⟩)))))))))
abbrev zqG:List Str:=["numbers"]
abbrev zkm:List Str:=["numbers"]
theorem zpR:za1 zqG zkm (zac (top 18)):=⟨rfl,rfl,rfl,by decide +kernel,rfl,by decide +kernel,by decide +kernel⟩
abbrev zgg:List Str:=["numbers","k"]
theorem zlW:zgg.Nodup:=by decide +kernel
def zk8:DS:=(zb2 (dFn zlT (dA (dFz (zaO (zbO (dOp zed (dFn zde (dA (zab 0) dA0)) (dC (.int 1)))) (zbo 1) dTT (dOp gLt (dOp gIx (zab 0) (zab 1)) (dOp gIx (zab 0) (dOp zbF (zab 1) (dC (.int 1))))) 1)) dA0)))
def zkS:FD:=zas false [false] 0 zk8
theorem zr7(T:Tx K mg cls):Dfn false P w K mg base (CXe P w) (xvC cls) 3 (Str.ofString "rises") [false] zkS:=by
  obtain ⟨f,fd,U,hm⟩:=T.u_rises
  refine ⟨f,fd,zkm,?_,hm,U.kp,U.binds (ps:=zkm) fun _ _ _ _ _ _ us hl=>match us,hl with | [_],_=>rfl,zav⟩
  refine zaN (k:=2) false zaI U zpR rfl rfl fun X C hX hpp hxv hnw hr hx hpo=>?_
  obtain ⟨cG,cH,cw,cpp,cσ,cex,cxv,cnw⟩:=C
  dsimp only at hpp hxv hnw
  subst hpp hxv hnw
  have hnw:(false:Bool)=false:=rfl
  obtain ⟨cdv,A,outer,s,H,E,rfl⟩:=hX
  exact (zak (by exact (zaA hnw (zpI rfl T.b_all (zaD (zcF (zcS rfl T.b_range (zfz (zgI T.b_len (zaa 0)) zan)) rfl (N':=zgg) (m:=1) (by kernel_rfl) rfl (zba (by kernel_rfl)) (zbq (by kernel_rfl)) (zbM (by kernel_rfl)) (fun cl L s H fp G H' w σ=>⟨(zbr (i:=1) zlW rfl (by first | exact Or.inl rfl | exact Or.inr rfl) (show 1∉List.range 1 by decide)),zcv,(zub (zbU (zaa 0) (zaa 1)) (zbU (zaa 0) (zcI (zaa 1) zan)))⟩)))))))
abbrev zmn:List Str:=["n","thing"]
abbrev zfU:List Str:=["n","thing"]
theorem zkj:za1 zmn zfU (zac (top 19)):=⟨rfl,rfl,rfl,by decide +kernel,rfl,by decide +kernel,by decide +kernel⟩
def zfD:DS:=(za4 (dEx (zaf za2 (dR (zab 0) dR0))) (zb2 (zjf (zaf zb7 (dR (zab 0) (dR (zab 1) dR0))) (zjf (dOp gGt (dFn zde (dA (zab 1) dA0)) (dC (.int 0))) (zaf zkS (dR (zab 1) dR0))))))
def zeI:FD:=zas false [false,false] 0 zfD
theorem zma(T:Tx K mg cls):Dfn false P w K mg base (CXe P w) (xvC cls) 12 (Str.ofString "is_party") [false,false] zeI:=by
  obtain ⟨f,fd,U,hm⟩:=T.u_is_party
  refine ⟨f,fd,zfU,?_,hm,U.kp,U.binds (ps:=zfU) fun _ _ _ _ _ _ us hl=>match us,hl with | [_,_],_=>rfl,zav⟩
  refine zaN (k:=11) false zaI U zkj rfl rfl fun X C hX hpp hxv hnw hr hx hpo=>?_
  obtain ⟨cG,cH,cw,cpp,cσ,cex,cxv,cnw⟩:=C
  dsimp only at hpp hxv hnw
  subst hpp hxv hnw
  have hnw:(false:Bool)=false:=rfl
  obtain ⟨cdv,A,outer,s,H,E,rfl⟩:=hX
  exact (zag (by exact (zci (zaB (zdy T) hr (by omega) hx (zae (zaa 0) zaq)))) (zak (by exact (zaA hnw (zgF (zaB (zgf T) hr (by omega) hx (zae (zaa 0) (zae (zaa 1) zaq))) (zgF (zuk (zgI T.b_len (zaa 1)) zan) (zgA (zaB (zr7 T) hr (by omega) hx (zae (zaa 1) zaq)))))))))
abbrev zjZ:List Str:=["n","thing"]
abbrev ze0:List Str:=["n","thing"]
theorem zis:za1 zjZ ze0 (zac (top 20)):=⟨rfl,rfl,rfl,by decide +kernel,rfl,by decide +kernel,by decide +kernel⟩
abbrev zdC:List Str:=["n","thing","part"]
theorem zhb:zdC.Nodup:=by decide +kernel
def zcB:DS:=(za4 (dEx (zaf za2 (dR (zab 0) dR0))) (za4 (dIf (zk6 (zb0 (dTB (ze2 "list" (zab 1)))) (dTB (dOp gGt (dFn zde (dA (zab 1) dA0)) (dC (.int 8))))) (zb2 (dC (.bl false))) dNx) (zb2 (dFn zlT (dA (dFz (zaO (dIt (zab 1)) (zbo 2) dTT (zaf zeI (dR (zab 0) (dR (zab 2) dR0))) 1)) dA0)))))
def zb6:FD:=zas false [false,false] 0 zcB
theorem zj1(T:Tx K mg cls):Dfn false P w K mg base (CXe P w) (xvC cls) 15 (Str.ofString "is_parties") [false,false] zb6:=by
  obtain ⟨f,fd,U,hm⟩:=T.u_is_parties
  refine ⟨f,fd,ze0,?_,hm,U.kp,U.binds (ps:=ze0) fun _ _ _ _ _ _ us hl=>match us,hl with | [_,_],_=>rfl,zav⟩
  refine zaN (k:=14) false zaI U zis rfl rfl fun X C hX hpp hxv hnw hr hx hpo=>?_
  obtain ⟨cG,cH,cw,cpp,cσ,cex,cxv,cnw⟩:=C
  dsimp only at hpp hxv hnw
  subst hpp hxv hnw
  have hnw:(false:Bool)=false:=rfl
  obtain ⟨cdv,A,outer,s,H,E,rfl⟩:=hX
  exact (zag (by exact (zci (zaB (zdy T) hr (by omega) hx (zae (zaa 0) zaq)))) (zag (by exact (zbV (JW.jt (zox (zeg (zcq (zdi zgs rfl T.b_isinstance zcW rfl T.b_list zhi (zaa 1)))) (zlp (znV (zgI T.b_len (zaa 1)) (znG rfl T.g_MOST_PARTIES.choose_spec))))) (zak (by exact (zaA hnw zf3))) zaP)) (zak (by exact (zaA hnw (zpI rfl T.b_all (zaD (zcF (zdj (zaa 1)) rfl (N':=zdC) (m:=1) (by kernel_rfl) rfl (zba (by kernel_rfl)) (zbq (by kernel_rfl)) (zbM (by kernel_rfl)) (fun cl L s H fp G H' w σ=>⟨(zbr (i:=2) zhb rfl (by first | exact Or.inl rfl | exact Or.inr rfl) (show 2∉List.range 2 by decide)),zcv,(zaB (zma T) hr (by omega) (znR fun _ z=>z) (zae (zaa 0) (zae (zaa 2) zaq)))⟩)))))))))
abbrev zgY:List Str:=["n","thing"]
abbrev zdc:List Str:=["n","thing"]
theorem zgm:za1 zgY zdc (zac (top 15)):=⟨rfl,rfl,rfl,by decide +kernel,rfl,by decide +kernel,by decide +kernel⟩
def zbp:DS:=(dIf (zb0 (dTB (zaf zb6 (dR (zab 0) (dR (zab 1) dR0))))) (zgD 1 (dA (dC (.str (Str.ofString "these are no parties of so many guests"))) dA0)) dNx)
def zaC:FD:=zas false [false,false] 0 zbp
theorem zgG(T:Tx K mg cls):Dfn false P w K mg base (CXe P w) (xvC cls) 18 (Str.ofString "check_parties") [false,false] zaC:=by
  obtain ⟨f,fd,U,hm⟩:=T.u_check_parties
  refine ⟨f,fd,zdc,?_,hm,U.kp,U.binds (ps:=zdc) fun _ _ _ _ _ _ us hl=>match us,hl with | [_,_],_=>rfl,zav⟩
  refine zaN (k:=17) false zaI U zgm rfl rfl fun X C hX hpp hxv hnw hr hx hpo=>?_
  obtain ⟨cG,cH,cw,cpp,cσ,cex,cxv,cnw⟩:=C
  dsimp only at hpp hxv hnw
  subst hpp hxv hnw
  have hnw:(false:Bool)=false:=rfl
  obtain ⟨cdv,A,outer,s,H,E,rfl⟩:=hX
  exact (zak (by exact (zbV (zeg (zcq (zaB (zj1 T) hr (by omega) hx (zae (zaa 0) (zae (zaa 1) zaq))))) (zak (by exact (zig hx rfl (T.xc 1 (by decide)).cls T.xm1 rfl (zao zga zaF)))) zaP)))
abbrev ziW:List Str:=["n","thing"]
abbrev ze1:List Str:=["n","thing"]
theorem zih:za1 ziW ze1 (zac (top 21)):=⟨rfl,rfl,rfl,by decide +kernel,rfl,by decide +kernel,by decide +kernel⟩
def zc5:DS:=(za4 (dEx (zaf za2 (dR (zab 0) dR0))) (zb2 (zjf (zaf zb7 (dR (zab 0) (dR (zab 1) dR0))) (dOp (gEq false) (dFz (zfq zcJ (dA (zab 1) dA0))) (dFz (zi5 (zab 0)))))))
def zb8:FD:=zas false [false,false] 0 zc5
theorem zjc(T:Tx K mg cls):Dfn false P w K mg base (CXe P w) (xvC cls) 12 (Str.ofString "is_seating") [false,false] zb8:=by
  obtain ⟨f,fd,U,hm⟩:=T.u_is_seating
  refine ⟨f,fd,ze1,?_,hm,U.kp,U.binds (ps:=ze1) fun _ _ _ _ _ _ us hl=>match us,hl with | [_,_],_=>rfl,zav⟩
  refine zaN (k:=11) false zaI U zih rfl rfl fun X C hX hpp hxv hnw hr hx hpo=>?_
  obtain ⟨cG,cH,cw,cpp,cσ,cex,cxv,cnw⟩:=C
  dsimp only at hpp hxv hnw
  subst hpp hxv hnw
  have hnw:(false:Bool)=false:=rfl
  obtain ⟨cdv,A,outer,s,H,E,rfl⟩:=hX
  exact (zag (by exact (zci (zaB (zdy T) hr (by omega) hx (zae (zaa 0) zaq)))) (zak (by exact (zaA hnw (zgF (zaB (zgf T) hr (by omega) hx (zae (zaa 0) (zae (zaa 1) zaq))) (zgA (zoE (zhY hr) (zaD (ziK rfl T.b_sorted (zaa 1))) (zaD (znE rfl rfl T.b_list rfl T.b_range (zaa 0))))))))))
abbrev zom:List Str:=["tree"]
abbrev zhd:List Str:=["tree"]
theorem zm2:za1 zom zhd (zac (top 23)):=⟨rfl,rfl,rfl,by decide +kernel,rfl,by decide +kernel,by decide +kernel⟩
def zow:DS:=(zb2 (ztx (ze2 "tuple" (zab 0))))
def zbI:FD:=zas false [false] 0 zow
theorem zgK(T:Tx K mg cls):Dfn false P w K mg base (CXe P w) (xvC cls) 3 (Str.ofString "is_leaf") [false] zbI:=by
  obtain ⟨f,fd,U,hm⟩:=T.u_is_leaf
  refine ⟨f,fd,zhd,?_,hm,U.kp,U.binds (ps:=zhd) fun _ _ _ _ _ _ us hl=>match us,hl with | [_],_=>rfl,zav⟩
  refine zaN (k:=2) false zaI U zm2 rfl rfl fun X C hX hpp hxv hnw hr hx hpo=>?_
  obtain ⟨cG,cH,cw,cpp,cσ,cex,cxv,cnw⟩:=C
  dsimp only at hpp hxv hnw
  subst hpp hxv hnw
  have hnw:(false:Bool)=false:=rfl
  obtain ⟨cdv,A,outer,s,H,E,rfl⟩:=hX
  exact (zak (by exact (zaA hnw (zqo (zdi zc8 rfl T.b_isinstance zcW rfl T.b_tuple zcM (zaa 0))))))
abbrev zgj:List Str:=["tree","guests","branch"]
abbrev zbX:List Str:=["tree"]
theorem zct:za1 zgj zbX (zac (top 24)):=⟨rfl,rfl,rfl,by decide +kernel,rfl,by decide +kernel,by decide +kernel⟩
def zcE(F_self:FD):DS:=(za4 (dIf (dTB (zaf zbI (dR (zab 0) dR0))) (zb2 (dFz (zdl (dA (zab 0) dA0)))) dNx) (za4 (zcg 1 (zdl dA0)) (za4 (zgh (dIt (dOp gIx (zab 0) (dC (.int 1)))) (zbo 2) (dEx (zja 1 (zaf F_self (dR (zab 2) dR0))))) (zb2 (zhH 1)))))
def zaW:Nat→FD
 | 0=>fun _=>.no
 | n + 1=>zas false [false] 2 (zcE (zaW n))
theorem zej(T:Tx K mg cls):∀ n,Dfn false P w K mg base (CXe P w) (xvC cls) (n + 5) (Str.ofString "row_as_written") [false] (zaW n)
 | 0=>by
  obtain ⟨f,fd,U,hm⟩:=T.u_row_as_written
  exact zdq rfl U hm (U.binds (ps:=zbX) fun _ _ _ _ _ _ us hl=>match us,hl with | [_],_=>rfl)
 | n + 1=>by
  have DS:=zej T n
  obtain ⟨f,fd,U,hm⟩:=T.u_row_as_written
  refine ⟨f,fd,zbX,?_,hm,U.kp,U.binds (ps:=zbX) fun _ _ _ _ _ _ us hl=>match us,hl with | [_],_=>rfl,zav⟩
  refine zfl.mono (j:=(n + 5) + 1) ?_ (by omega)
  refine zaN (k:=n + 5) false zaI U zct rfl rfl fun X C hX hpp hxv hnw hr hx hpo=>?_
  obtain ⟨cG,cH,cw,cpp,cσ,cex,cxv,cnw⟩:=C
  dsimp only at hpp hxv hnw
  subst hpp hxv hnw
  have hnw:(false:Bool)=false:=rfl
  obtain ⟨cdv,A,outer,s,H,E,rfl⟩:=hX
  exact (zag (by exact (zbV (zcq (zaB (zgK T) hr (by omega) hx (zae (zaa 0) zaq))) (zak (by exact (zaA hnw (zaD (zcn (zao (zaa 0) zaF)))))) zaP)) (zag (by exact (zeA (i:=1) zct.nd rfl (by first | exact Or.inl rfl | exact Or.inr rfl) (show 1∉zaZ [false] by decide) (zcn zaF))) (zag (by exact (zgT hpo rfl (zdj (zbU (zaa 0) zan)) (zbr (i:=2) zct.nd rfl (by first | exact Or.inl rfl | exact Or.inr rfl) (show 2∉zaZ [false] by decide)) (zak (by exact (zci (zr5 1 (zaB DS hr (Nat.le_refl _) hx (zae (zaa 2) zaq)))))))) (zak (by exact (zaA hnw (zjD 1)))))))
abbrev zkb:List Str:=["tree"]
abbrev zfh:List Str:=["tree"]
theorem zjr:za1 zkb zfh (zac (top 25)):=⟨rfl,rfl,rfl,by decide +kernel,rfl,by decide +kernel,by decide +kernel⟩
def zfd:DS:=(zb2 (dFz (zfq zd5 (dA (zaf (zaW 8) (dR (zab 0) dR0)) dA0))))
def zea:FD:=zas false [false] 0 zfd
theorem zks(T:Tx K mg cls):Dfn false P w K mg base (CXe P w) (xvC cls) 16 (Str.ofString "guests_in") [false] zea:=by
  obtain ⟨f,fd,U,hm⟩:=T.u_guests_in
  refine ⟨f,fd,zfh,?_,hm,U.kp,U.binds (ps:=zfh) fun _ _ _ _ _ _ us hl=>match us,hl with | [_],_=>rfl,zav⟩
  refine zaN (k:=15) false zaI U zjr rfl rfl fun X C hX hpp hxv hnw hr hx hpo=>?_
  obtain ⟨cG,cH,cw,cpp,cσ,cex,cxv,cnw⟩:=C
  dsimp only at hpp hxv hnw
  subst hpp hxv hnw
  have hnw:(false:Bool)=false:=rfl
  obtain ⟨cdv,A,outer,s,H,E,rfl⟩:=hX
  exact (zak (by exact (zaA hnw (zaD (zlJ rfl T.b_sorted (zaB (zej T 8) hr (by omega) hx (zae (zaa 0) zaq)))))))
abbrev ziA:List Str:=["tree"]
abbrev zdM:List Str:=["tree"]
theorem zht:za1 ziA zdM (zac (top 26)):=⟨rfl,rfl,rfl,by decide +kernel,rfl,by decide +kernel,by decide +kernel⟩
def zdZ:DS:=(zb2 (dOp gIx (zaf zea (dR (zab 0) dR0)) (dC (.int 0))))
def za3:FD:=zas false [false] 0 zdZ
theorem zdR(T:Tx K mg cls):Dfn false P w K mg base (CXe P w) (xvC cls) 19 (Str.ofString "least_guest") [false] za3:=by
  obtain ⟨f,fd,U,hm⟩:=T.u_least_guest
  refine ⟨f,fd,zdM,?_,hm,U.kp,U.binds (ps:=zdM) fun _ _ _ _ _ _ us hl=>match us,hl with | [_],_=>rfl,zav⟩
  refine zaN (k:=18) false zaI U zht rfl rfl fun X C hX hpp hxv hnw hr hx hpo=>?_
  obtain ⟨cG,cH,cw,cpp,cσ,cex,cxv,cnw⟩:=C
  dsimp only at hpp hxv hnw
  subst hpp hxv hnw
  have hnw:(false:Bool)=false:=rfl
  obtain ⟨cdv,A,outer,s,H,E,rfl⟩:=hX
  exact (zak (by exact (zaA hnw (zbU (zaB (zks T) hr (by omega) hx (zae (zaa 0) zaq)) zan))))
abbrev zk9:List Str:=["tree","branches"]
abbrev zdQ:List Str:=["tree"]
theorem zdn:za1 zk9 zdQ (zac (top 27)):=⟨rfl,rfl,rfl,by decide +kernel,rfl,by decide +kernel,by decide +kernel⟩
abbrev zef:List Str:=["tree","branches","branch"]
theorem zhw:zef.Nodup:=by decide +kernel
def zfc(F_self:FD):DS:=(za4 (dIf (dTB (zaf zbI (dR (zab 0) dR0))) (zb2 (zab 0)) dNx) (za4 (zbg 1 (dFz (zaO (dIt (dOp gIx (zab 0) (dC (.int 1)))) (zbo 2) dTT (zaf F_self (dR (zab 2) dR0)) 1))) (za4 (dIf (dTB (dOp (gEq false) (dOp gIx (zab 0) (dC (.int 0))) (dC (.str (Str.ofString "any"))))) (zbg 1 (dFz (zjG za3 (zab 1)))) (dIf (dTB (dOp gGt (zaf za3 (dR (dOp gIx (zab 1) (dC (.int 0))) dR0)) (zaf za3 (dR (dOp gIx (zab 1) (zm5 (dC (.int 1)))) dR0)))) (zbg 1 (dFz (zjI (zab 1)))) dNx)) (zb2 (zhP (dA (dOp gIx (zab 0) (dC (.int 0))) (dA (dFn zbn (dA (zab 1) dA0)) dA0)))))))
def zcc:Nat→FD
 | 0=>fun _=>.no
 | n + 1=>zas false [false] 1 (zfc (zcc n))
theorem zg4(T:Tx K mg cls):∀ n,Dfn false P w K mg base (CXe P w) (xvC cls) (n + 21) (Str.ofString "put_least") [false] (zcc n)
 | 0=>by
  obtain ⟨f,fd,U,hm⟩:=T.u_put_least
  exact zdq rfl U hm (U.binds (ps:=zdQ) fun _ _ _ _ _ _ us hl=>match us,hl with | [_],_=>rfl)
 | n + 1=>by
  have DS:=zg4 T n
  obtain ⟨f,fd,U,hm⟩:=T.u_put_least
  refine ⟨f,fd,zdQ,?_,hm,U.kp,U.binds (ps:=zdQ) fun _ _ _ _ _ _ us hl=>match us,hl with | [_],_=>rfl,zav⟩
  refine zfl.mono (j:=(n + 21) + 1) ?_ (by omega)
  refine zaN (k:=n + 21) false zaI U zdn rfl rfl fun X C hX hpp hxv hnw hr hx hpo=>?_
  obtain ⟨cG,cH,cw,cpp,cσ,cex,cxv,cnw⟩:=C
  dsimp only at hpp hxv hnw
  subst hpp hxv hnw
  have hnw:(false:Bool)=false:=rfl
  obtain ⟨cdv,A,outer,s,H,E,rfl⟩:=hX
  exact (zag (by exact (zbV (zcq (zaB (zgK T) hr (by omega) hx (zae (zaa 0) zaq))) (zak (by exact (zaA hnw (zaa 0)))) zaP)) (zag (by exact (zfJ (i:=1) zdn.nd rfl (by first | exact Or.inl rfl | exact Or.inr rfl) (show 1∉zaZ [false] by decide) (zdj (zbU (zaa 0) zan)) rfl (N':=zef) (m:=1) (by kernel_rfl) rfl (zba (by kernel_rfl)) (zbq (by kernel_rfl)) (zbM (by kernel_rfl)) (fun cl L s H fp G H' w σ=>⟨(zbr (i:=2) zhw rfl (by first | exact Or.inl rfl | exact Or.inr rfl) (show 2∉List.range 2 by decide)),zcv,(zaB DS hr (Nat.le_refl _) (znR fun _ z=>z) (zae (zaa 2) zaq))⟩))) (zag (by exact (zbV (zmH (zhY hr) (zbU (zaa 0) zan) zga) (zak (by exact (zbm (i:=1) zdn.nd rfl (by first | exact Or.inl rfl | exact Or.inr rfl) (show 1∉zaZ [false] by decide) (zaD (zpt (zdR T) hr (by omega) psF rfl T.b_sorted (zaa 1)))))) (zak (by exact (zbV (znV (zaB (zdR T) hr (by omega) hx (zae (zbU (zaa 1) zan) zaq)) (zaB (zdR T) hr (by omega) hx (zae (zbU (zaa 1) (zlK zan)) zaq))) (zak (by exact (zbm (i:=1) zdn.nd rfl (by first | exact Or.inl rfl | exact Or.inr rfl) (show 1∉zaZ [false] by decide) (zaD (zrv rfl rfl T.b_list rfl T.b_reversed (zaa 1)))))) zaP))))) (zak (by exact (zaA hnw (zeS (zao (zbU (zaa 0) zan) (zao (zcT T.b_tuple (zaa 1)) zaF)))))))))
end
section
variable{P:Program}{w:World}{K:W.Frag}{mg:Str→Option Value}{base:Heap}{xv:Nat→Value}{cls:Nat→Addr}
abbrev ziF:List Str:=["n","thing"]
abbrev zdG:List Str:=["n","thing"]
theorem zh1:za1 ziF zdG (zac (top 29)):=⟨rfl,rfl,rfl,by decide +kernel,rfl,by decide +kernel,by decide +kernel⟩
def zbD:DS:=(dIf (zb0 (dTB (zaf zb8 (dR (zab 0) (dR (zab 1) dR0))))) (zgD 7 (dA (dC (.str (Str.ofString "this is no order of so many guests"))) dA0)) dNx)
def za8:FD:=zas false [false,false] 0 zbD
theorem zec(T:Tx K mg cls):Dfn false P w K mg base (CXe P w) (xvC cls) 15 (Str.ofString "check_order") [false,false] za8:=by
  obtain ⟨f,fd,U,hm⟩:=T.u_check_order
  refine ⟨f,fd,zdG,?_,hm,U.kp,U.binds (ps:=zdG) fun _ _ _ _ _ _ us hl=>match us,hl with | [_,_],_=>rfl,zav⟩
  refine zaN (k:=14) false zaI U zh1 rfl rfl fun X C hX hpp hxv hnw hr hx hpo=>?_
  obtain ⟨cG,cH,cw,cpp,cσ,cex,cxv,cnw⟩:=C
  dsimp only at hpp hxv hnw
  subst hpp hxv hnw
  have hnw:(false:Bool)=false:=rfl
  obtain ⟨cdv,A,outer,s,H,E,rfl⟩:=hX
  exact (zak (by exact (zbV (zeg (zcq (zaB (zjc T) hr (by omega) hx (zae (zaa 0) (zae (zaa 1) zaq))))) (zak (by exact (zig hx rfl (T.xc 7 (by decide)).cls T.xm7 rfl (zao zga zaF)))) zaP)))
abbrev zqQ:List Str:=["guests","order"]
abbrev zkR:List Str:=["guests","order"]
theorem zpJ:za1 zqQ zkR (zac (top 30)):=⟨rfl,rfl,rfl,by decide +kernel,rfl,by decide +kernel,by decide +kernel⟩
abbrev zfX:List Str:=["guests","order","guest"]
theorem zmp:zfX.Nodup:=by decide +kernel
def zkF:DS:=(zb2 (dFn zbn (dA (dFz (zaO (dIt (zab 0)) (zbo 2) dTT (dOp gIx (zab 1) (zab 2)) 1)) dA0)))
def zfN:FD:=zas false [false,false] 0 zkF
theorem zol(T:Tx K mg cls):Dfn false P w K mg base (CXe P w) (xvC cls) 3 (Str.ofString "named") [false,false] zfN:=by
  obtain ⟨f,fd,U,hm⟩:=T.u_named
  refine ⟨f,fd,zkR,?_,hm,U.kp,U.binds (ps:=zkR) fun _ _ _ _ _ _ us hl=>match us,hl with | [_,_],_=>rfl,zav⟩
  refine zaN (k:=2) false zaI U zpJ rfl rfl fun X C hX hpp hxv hnw hr hx hpo=>?_
  obtain ⟨cG,cH,cw,cpp,cσ,cex,cxv,cnw⟩:=C
  dsimp only at hpp hxv hnw
  subst hpp hxv hnw
  have hnw:(false:Bool)=false:=rfl
  obtain ⟨cdv,A,outer,s,H,E,rfl⟩:=hX
  exact (zak (by exact (zaA hnw (zcT T.b_tuple (zaD (zcF (zdj (zaa 0)) rfl (N':=zfX) (m:=1) (by kernel_rfl) rfl (zba (by kernel_rfl)) (zbq (by kernel_rfl)) (zbM (by kernel_rfl)) (fun cl L s H fp G H' w σ=>⟨(zbr (i:=2) zmp rfl (by first | exact Or.inl rfl | exact Or.inr rfl) (show 2∉List.range 2 by decide)),zcv,(zbU (zaa 1) (zaa 2))⟩)))))))
abbrev zg0:List Str:=["n","parties","order"]
abbrev zda:List Str:=["n","parties","order"]
theorem zgk:za1 zg0 zda (zac (top 31)):=⟨rfl,rfl,rfl,by decide +kernel,rfl,by decide +kernel,by decide +kernel⟩
abbrev zcK:List Str:=["n","parties","order","party"]
theorem zf9:zcK.Nodup:=by decide +kernel
def zaR:DS:=(za4 (dEx (zaf zaC (dR (zab 0) (dR (zab 1) dR0)))) (za4 (dEx (zaf za8 (dR (zab 0) (dR (zab 2) dR0)))) (zeN (zaO (dIt (zab 1)) (zbo 3) dTT (dFn zbn (dA (dFz (zfq zcJ (dA (zaf zfN (dR (zab 3) (dR (zab 2) dR0))) dA0))) dA0)) 1))))
def zat:FD:=zas true [false,false,false] 0 zaR
theorem zck(T:Tx K mg cls):Dfn true P w K mg base (CXe P w) (xvC cls) 21 (Str.ofString "parties_named") [false,false,false] zat:=by
  obtain ⟨f,fd,U,hm⟩:=T.u_parties_named
  refine ⟨f,fd,zda,?_,hm,U.kp,U.binds (ps:=zda) fun _ _ _ _ _ _ us hl=>match us,hl with | [_,_,_],_=>rfl,zav⟩
  refine zaN (k:=20) true zaI U zgk rfl rfl fun X C hX hpp hxv hnw hr hx hpo=>?_
  obtain ⟨cG,cH,cw,cpp,cσ,cex,cxv,cnw⟩:=C
  dsimp only at hpp hxv hnw
  subst hpp hxv hnw
  have hnw:(true:Bool)=true:=rfl
  obtain ⟨cdv,A,outer,s,H,E,rfl⟩:=hX
  exact (zag (by exact (zci (zaB (zgG T) hr (by omega) hx (zae (zaa 0) (zae (zaa 1) zaq))))) (zag (by exact (zci (zaB (zec T) hr (by omega) hx (zae (zaa 0) (zae (zaa 2) zaq))))) (zak (by exact (zhZ hnw (zcF (zdj (zaa 1)) rfl (N':=zcK) (m:=1) (by kernel_rfl) rfl (zba (by kernel_rfl)) (zbq (by kernel_rfl)) (zbM (by kernel_rfl)) (fun cl L s H fp G H' w σ=>⟨(zbr (i:=3) zf9 rfl (by first | exact Or.inl rfl | exact Or.inr rfl) (show 3∉List.range 3 by decide)),zcv,(zcT T.b_tuple (zaD (ziK rfl T.b_sorted (zaB (zol T) hr (by omega) (znR fun _ z=>z) (zae (zaa 3) (zae (zaa 2) zaq))))))⟩)))))))
abbrev zgR:List Str:=["n","seating","order"]
abbrev zcZ:List Str:=["n","seating","order"]
theorem zgn:za1 zgR zcZ (zac (top 32)):=⟨rfl,rfl,rfl,by decide +kernel,rfl,by decide +kernel,by decide +kernel⟩
def zbK:DS:=(za4 (dEx (zaf za8 (dR (zab 0) (dR (zab 2) dR0)))) (zb2 (zaf zfN (dR (zab 1) (dR (zab 2) dR0)))))
def zbc:FD:=zas false [false,false,false] 0 zbK
theorem ze3(T:Tx K mg cls):Dfn false P w K mg base (CXe P w) (xvC cls) 18 (Str.ofString "seating_named") [false,false,false] zbc:=by
  obtain ⟨f,fd,U,hm⟩:=T.u_seating_named
  refine ⟨f,fd,zcZ,?_,hm,U.kp,U.binds (ps:=zcZ) fun _ _ _ _ _ _ us hl=>match us,hl with | [_,_,_],_=>rfl,zav⟩
  refine zaN (k:=17) false zaI U zgn rfl rfl fun X C hX hpp hxv hnw hr hx hpo=>?_
  obtain ⟨cG,cH,cw,cpp,cσ,cex,cxv,cnw⟩:=C
  dsimp only at hpp hxv hnw
  subst hpp hxv hnw
  have hnw:(false:Bool)=false:=rfl
  obtain ⟨cdv,A,outer,s,H,E,rfl⟩:=hX
  exact (zag (by exact (zci (zaB (zec T) hr (by omega) hx (zae (zaa 0) (zae (zaa 2) zaq))))) (zak (by exact (zaA hnw (zaB (zol T) hr (by omega) hx (zae (zaa 1) (zae (zaa 2) zaq)))))))
abbrev ziy:List Str:=["tree","steads"]
abbrev zcL:List Str:=["tree","steads"]
theorem zhn:za1 ziy zcL (zac (top 33)):=⟨rfl,rfl,rfl,by decide +kernel,rfl,by decide +kernel,by decide +kernel⟩
abbrev zdw:List Str:=["tree","steads","branch"]
theorem zgl:zdw.Nodup:=by decide +kernel
def zcl(F_self:FD):DS:=(za4 (dIf (dTB (zaf zbI (dR (zab 0) dR0))) (zb2 (dOp gIx (zab 1) (zab 0))) dNx) (zb2 (zhP (dA (dOp gIx (zab 0) (dC (.int 0))) (dA (dFn zbn (dA (dFz (zaO (dIt (dOp gIx (zab 0) (dC (.int 1)))) (zbo 2) dTT (zaf F_self (dR (zab 2) (dR (zab 1) dR0))) 1)) dA0)) dA0)))))
def zbE:Nat→FD
 | 0=>fun _=>.no
 | n + 1=>zas false [false,false] 0 (zcl (zbE n))
theorem zfv(T:Tx K mg cls):∀ n,Dfn false P w K mg base (CXe P w) (xvC cls) (n + 5) (Str.ofString "with_steads") [false,false] (zbE n)
 | 0=>by
  obtain ⟨f,fd,U,hm⟩:=T.u_with_steads
  exact zdq rfl U hm (U.binds (ps:=zcL) fun _ _ _ _ _ _ us hl=>match us,hl with | [_,_],_=>rfl)
 | n + 1=>by
  have DS:=zfv T n
  obtain ⟨f,fd,U,hm⟩:=T.u_with_steads
  refine ⟨f,fd,zcL,?_,hm,U.kp,U.binds (ps:=zcL) fun _ _ _ _ _ _ us hl=>match us,hl with | [_,_],_=>rfl,zav⟩
  refine zfl.mono (j:=(n + 5) + 1) ?_ (by omega)
  refine zaN (k:=n + 5) false zaI U zhn rfl rfl fun X C hX hpp hxv hnw hr hx hpo=>?_
  obtain ⟨cG,cH,cw,cpp,cσ,cex,cxv,cnw⟩:=C
  dsimp only at hpp hxv hnw
  subst hpp hxv hnw
  have hnw:(false:Bool)=false:=rfl
  obtain ⟨cdv,A,outer,s,H,E,rfl⟩:=hX
  exact (zag (by exact (zbV (zcq (zaB (zgK T) hr (by omega) hx (zae (zaa 0) zaq))) (zak (by exact (zaA hnw (zbU (zaa 1) (zaa 0))))) zaP)) (zak (by exact (zaA hnw (zeS (zao (zbU (zaa 0) zan) (zao (zcT T.b_tuple (zaD (zcF (zdj (zbU (zaa 0) zan)) rfl (N':=zdw) (m:=1) (by kernel_rfl) rfl (zba (by kernel_rfl)) (zbq (by kernel_rfl)) (zbM (by kernel_rfl)) (fun cl L s H fp G H' w σ=>⟨(zbr (i:=2) zgl rfl (by first | exact Or.inl rfl | exact Or.inr rfl) (show 2∉List.range 2 by decide)),zcv,(zaB DS hr (Nat.le_refl _) (znR fun _ z=>z) (zae (zaa 2) (zae (zaa 1) zaq)))⟩)))) zaF)))))))
abbrev zjo:List Str:=["n","tree","order"]
abbrev zeo:List Str:=["n","tree","order"]
theorem zi4:za1 zjo zeo (zac (top 34)):=⟨rfl,rfl,rfl,by decide +kernel,rfl,by decide +kernel,by decide +kernel⟩
def zbL:DS:=(za4 (dEx (zaf za8 (dR (zab 0) (dR (zab 2) dR0)))) (zb2 (zaf (zcc 8) (dR (zaf (zbE 8) (dR (zab 1) (dR (zab 2) dR0))) dR0))))
def zbi:FD:=zas false [false,false,false] 0 zbL
theorem zeu(T:Tx K mg cls):Dfn false P w K mg base (CXe P w) (xvC cls) 32 (Str.ofString "tree_named") [false,false,false] zbi:=by
  obtain ⟨f,fd,U,hm⟩:=T.u_tree_named
  refine ⟨f,fd,zeo,?_,hm,U.kp,U.binds (ps:=zeo) fun _ _ _ _ _ _ us hl=>match us,hl with | [_,_,_],_=>rfl,zav⟩
  refine zaN (k:=31) false zaI U zi4 rfl rfl fun X C hX hpp hxv hnw hr hx hpo=>?_
  obtain ⟨cG,cH,cw,cpp,cσ,cex,cxv,cnw⟩:=C
  dsimp only at hpp hxv hnw
  subst hpp hxv hnw
  have hnw:(false:Bool)=false:=rfl
  obtain ⟨cdv,A,outer,s,H,E,rfl⟩:=hX
  exact (zag (by exact (zci (zaB (zec T) hr (by omega) hx (zae (zaa 0) (zae (zaa 2) zaq))))) (zak (by exact (zaA hnw (zaB (zg4 T 8) hr (by omega) hx (zae (zaB (zfv T 8) hr (by omega) hx (zae (zaa 1) (zae (zaa 2) zaq))) zaq))))))
end
section
variable{P:Program}{w:World}{K:W.Frag}{mg:Str→Option Value}{base:Heap}{xv:Nat→Value}{cls:Nat→Addr}
abbrev zhr:List Str:=["script","k"]
abbrev zd3:List Str:=["script","k"]
theorem zhg:za1 zhr zd3 (zac (top 38)):=⟨rfl,rfl,rfl,by decide +kernel,rfl,by decide +kernel,by decide +kernel⟩
def zbW:DS:=(za4 (dIf (dTB (dOp gLt (zab 1) (dFn zde (dA (zab 0) dA0)))) (zb2 (dOp gIx (zab 0) (zab 1))) dNx) (zb2 (dC (.int 0))))
def zc0:FD:=zas false [false,false] 0 zbW
theorem zhx(T:Tx K mg cls):Dfn false P w K mg base (CXe P w) (xvC cls) 3 (Str.ofString "_law_cell_at") [false,false] zc0:=by
  obtain ⟨f,fd,U,hm⟩:=T.u__law_cell_at
  refine ⟨f,fd,zd3,?_,hm,U.kp,U.binds (ps:=zd3) fun _ _ _ _ _ _ us hl=>match us,hl with | [_,_],_=>rfl,zav⟩
  refine zaN (k:=2) false zaI U zhg rfl rfl fun X C hX hpp hxv hnw hr hx hpo=>?_
  obtain ⟨cG,cH,cw,cpp,cσ,cex,cxv,cnw⟩:=C
  dsimp only at hpp hxv hnw
  subst hpp hxv hnw
  have hnw:(false:Bool)=false:=rfl
  obtain ⟨cdv,A,outer,s,H,E,rfl⟩:=hX
  exact (zag (by exact (zbV (znU (zaa 1) (zgI T.b_len (zaa 0))) (zak (by exact (zaA hnw (zbU (zaa 0) (zaa 1))))) zaP)) (zak (by exact (zaA hnw zan))))
abbrev zjs:List Str:=["script","k","cell"]
abbrev zeB:List Str:=["script","k"]
theorem zfw:za1 zjs zeB (zac (top 39)):=⟨rfl,rfl,rfl,by decide +kernel,rfl,by decide +kernel,by decide +kernel⟩
def zc6:DS:=(za4 (zbg 2 (zaf zc0 (dR (zab 0) (dR (zab 1) dR0)))) (za4 (dIf (dTB (dOp gGe (zab 2) (dOp zpP (dC (.int 10)) (dC (.int 18))))) (zeN (zdl (dA (dOp zed (zab 2) (dOp zpP (dC (.int 10)) (dC (.int 18)))) (dA (dC (.bl true)) dA0)))) dNx) (zeN (zdl (dA (dOp zlX (zab 2) (dC (.int 2147483647))) (dA (dC (.bl false)) dA0))))))
def zc3:FD:=zas true [false,false] 1 zc6
theorem zjR(T:Tx K mg cls):Dfn true P w K mg base (CXe P w) (xvC cls) 6 (Str.ofString "_law_state") [false,false] zc3:=by
  obtain ⟨f,fd,U,hm⟩:=T.u__law_state
  refine ⟨f,fd,zeB,?_,hm,U.kp,U.binds (ps:=zeB) fun _ _ _ _ _ _ us hl=>match us,hl with | [_,_],_=>rfl,zav⟩
  refine zaN (k:=5) true zaI U zfw rfl rfl fun X C hX hpp hxv hnw hr hx hpo=>?_
  obtain ⟨cG,cH,cw,cpp,cσ,cex,cxv,cnw⟩:=C
  dsimp only at hpp hxv hnw
  subst hpp hxv hnw
  have hnw:(true:Bool)=true:=rfl
  obtain ⟨cdv,A,outer,s,H,E,rfl⟩:=hX
  exact (zag (by exact (zbm (i:=2) zfw.nd rfl (by first | exact Or.inl rfl | exact Or.inr rfl) (show 2∉zaZ [false,false] by decide) (zaB (zhx T) hr (by omega) hx (zae (zaa 0) (zae (zaa 1) zaq))))) (zag (by exact (zbV (ztR (zaa 2) (zqy zan zan)) (zak (by exact (zhZ hnw (zcn (zao (zfz (zaa 2) (zqy zan zan)) (zao zf3 zaF)))))) zaP)) (zak (by exact (zhZ hnw (zcn (zao (zhJ (zaa 2) zan) (zao zf3 zaF))))))))
abbrev zkU:List Str:=["state","many","found","stirred"]
abbrev zfa:List Str:=["state","many"]
theorem zdk:za1 zkU zfa (zac (top 36)):=⟨rfl,rfl,rfl,by decide +kernel,rfl,by decide +kernel,by decide +kernel⟩
def zeX:DS:=(za4 (dIf (dTB (zn8 0 (dC (.int 1)))) (za4 (zbg 2 (dOp zlX (zn8 0 (dC (.int 0))) (zab 1))) (za4 (znu 0 (dOp zpB (zn8 0 (dC (.int 0))) (zab 1)) (dC (.int 0))) (zb2 (zab 2)))) dNx) (za4 (znu 0 (dOp zlX (dOp zbF (dOp zng (zn8 0 (dC (.int 0))) (dC (.int 48271))) (dC (.int 29))) (dC (.int 2147483647))) (dC (.int 0))) (za4 (zbg 3 (dOp zlX (dOp zbF (dOp zbF (dOp zng (zn8 0 (dC (.int 0))) (zn8 0 (dC (.int 0)))) (dOp zng (dC (.int 39373)) (zn8 0 (dC (.int 0))))) (dC (.int 7))) (dC (.int 2147483629)))) (za4 (zbg 3 (dOp zlX (dOp zbF (dOp zng (zab 3) (zab 3)) (dOp zng (dC (.int 16807)) (zab 3))) (dC (.int 2147483587)))) (zb2 (dOp zlX (dOp zpB (zab 3) (dC (.int 8))) (zab 1)))))))
def zad:FD:=zas false [true,false] 2 zeX
theorem zaK(T:Tx K mg cls):Dfn false P w K mg base (CXe P w) (xvC cls) 3 (Str.ofString "_law_take") [true,false] zad:=by
  obtain ⟨f,fd,U,hm⟩:=T.u__law_take
  refine ⟨f,fd,zfa,?_,hm,U.kp,U.binds (ps:=zfa) fun _ _ _ _ _ _ us hl=>match us,hl with | [_,_],_=>rfl,zav⟩
  refine zaN (k:=2) false zaI U zdk rfl rfl fun X C hX hpp hxv hnw hr hx hpo=>?_
  obtain ⟨cG,cH,cw,cpp,cσ,cex,cxv,cnw⟩:=C
  dsimp only at hpp hxv hnw
  subst hpp hxv hnw
  have hnw:(false:Bool)=false:=rfl
  obtain ⟨cdv,A,outer,s,H,E,rfl⟩:=hX
  exact (zag (by exact (zbV (zcq (zgJ 0 (hb:=zan))) (zag (by exact (zbm (i:=2) zdk.nd rfl (by first | exact Or.inl rfl | exact Or.inr rfl) (show 2∉zaZ [true,false] by decide) (zhJ (zgJ 0 (hb:=zan)) (zaa 1)))) (zag (by exact (zmT 0 (zqj (zgJ 0 (hb:=zan)) (zaa 1)) zan)) (zak (by exact (zaA hnw (zaa 2)))))) zaP)) (zag (by exact (zmT 0 (zhJ (zcI (zj5 (zgJ 0 (hb:=zan)) zan) zan) zan) zan)) (zag (by exact (zbm (i:=3) zdk.nd rfl (by first | exact Or.inl rfl | exact Or.inr rfl) (show 3∉zaZ [true,false] by decide) (zhJ (zcI (zcI (zj5 (zgJ 0 (hb:=zan)) (zgJ 0 (hb:=zan))) (zj5 zan (zgJ 0 (hb:=zan)))) zan) zan))) (zag (by exact (zbm (i:=3) zdk.nd rfl (by first | exact Or.inl rfl | exact Or.inr rfl) (show 3∉zaZ [true,false] by decide) (zhJ (zcI (zj5 (zaa 3) (zaa 3)) (zj5 zan (zaa 3))) zan))) (zak (by exact (zaA hnw (zhJ (zqj (zaa 3) zan) (zaa 1)))))))))
abbrev zc1:List Str:=["call","error","e","kinds"]
theorem zaT:za1 zc1 ["call"] (zac (top 37)):=⟨rfl,rfl,rfl,by decide +kernel,rfl,by decide +kernel,by decide +kernel⟩
abbrev zcX:List Str:=["call","error","e","kinds","k"]
theorem zfH:zcX.Nodup:=by decide +kernel
def zaQ(n:Nat)(Cc:Addr):DS:=(za4 (zbg 1 (dC .non)) (za4 (zo7 0 1 2 Cc) (za4 (zbg 3 (dFz (zdl (dA (zhq 1 Cc (n == 0)) (dA (zhq 1 Cc (n == 1)) (dA (zhq 1 Cc (n == 2)) dA0)))))) (za4 (zbg 3 (dFz (zj8 (zab 3) (dFz (zdl (dA (zhq 1 Cc (n == 3)) (dA (zhq 1 Cc (n == 4)) (dA (zhq 1 Cc (n == 5)) dA0)))))))) (za4 (zbg 3 (dFz (zj8 (zab 3) (dFz (zdl (dA (zhq 1 Cc (n == 6)) (dA (zhq 1 Cc (n == 7)) dA0))))))) (za4 (dIf (zb0 (dTB (zhq 1 Cc true))) dNo dNx) (zeN (zaO (zbO (dC (.int 8))) (zbo 4) (dTB (dOp gIx (zab 3) (zab 4))) (zab 4) 1))))))))
theorem zcx(T:Tx K mg cls){C:Cn}{k:Nat}{f:Addr}(XR:Cx)(CR:Cn)(n:Nat)(Fa:Addr)(hn:n < 8)(hX:∃ cdv A outer s H E,XR=zhs (CXe P w) P w K mg base zc1 (Str.ofString "_law_refused") (zac (top 37)) f cdv A outer s H E)(hC:∃ G H,CR=zjV C G H (L2.start zc1 [.ref Fa]))(hr:zdf (k + 1) XR.A)
  (hF:∀ pins σ H s,L2.Inv XR pins σ H s→zbG CR.H₀ H→codeAny (model XR.prog XR.w) XR.A (.call (.ref Fa) ⟨[],[]⟩) (fun r s'=>∃ e,r = .error e∧CXf XR.prog XR.w XR.stack H s (EL (cls n) H) e s') s)
  (hFn:∀ pins σ H s,L2.Inv XR pins σ H s→zbG CR.H₀ H→W.FnAt Fa s.heap):JSs XR CR (zaw (top 37)) (zaQ n (cls n)):=by
  obtain ⟨cdv,A,outer,s,H,E,rfl⟩:=hX
  obtain ⟨G,H',rfl⟩:=hC
  obtain ⟨Cs,xs,hmS,hsub⟩:=T.xS
  have hnw:(zjV C G H' (L2.start zc1 [.ref Fa])).nw=true:=rfl
  exact (zag (by exact (zbm (i:=1) zaT.nd rfl (by first | exact Or.inl rfl | exact Or.inr rfl) (show 1∉([0]:List Nat) by decide) znn)) (zag (by exact (zn9 rfl zaT.nd rfl rfl rfl rfl rfl hF hFn xs (hsub n hn) hmS rfl rfl rfl rfl (by decide) (by decide) (by decide) rfl rfl rfl)) (zag (by exact (zbm (i:=3) zaT.nd rfl (by first | exact Or.inl rfl | exact Or.inr rfl) (show 3∉([0]:List Nat) by decide) (zaD (zcn (zao (zge 1 (T.xc n hn) (T.xi n 0 hn (by decide)) rfl T.b_isinstance rfl T.xm0) (zao (zge 1 (T.xc n hn) (T.xi n 1 hn (by decide)) rfl T.b_isinstance rfl T.xm1) (zao (zge 1 (T.xc n hn) (T.xi n 2 hn (by decide)) rfl T.b_isinstance rfl T.xm2) zaF))))))) (zag (by exact (zbm (i:=3) zaT.nd rfl (by first | exact Or.inl rfl | exact Or.inr rfl) (show 3∉([0]:List Nat) by decide) (zaD (by refine zoj (zaa 3) ?_;exact (zaD (zcn (zao (zge 1 (T.xc n hn) (T.xi n 3 hn (by decide)) rfl T.b_isinstance rfl T.xm3) (zao (zge 1 (T.xc n hn) (T.xi n 4 hn (by decide)) rfl T.b_isinstance rfl T.xm4) (zao (zge 1 (T.xc n hn) (T.xi n 5 hn (by decide)) rfl T.b_isinstance rfl T.xm5) zaF))))))))) (zag (by exact (zbm (i:=3) zaT.nd rfl (by first | exact Or.inl rfl | exact Or.inr rfl) (show 3∉([0]:List Nat) by decide) (zaD (by refine zoj (zaa 3) ?_;exact (zaD (zcn (zao (zge 1 (T.xc n hn) (T.xi n 6 hn (by decide)) rfl T.b_isinstance rfl T.xm6) (zao (zge 1 (T.xc n hn) (T.xi n 7 hn (by decide)) rfl T.b_isinstance rfl T.xm7) zaF)))))))) (zag (by exact (zbV (zeg (zcq (zq3 1 (T.xc n hn) (T.xV n hn) rfl T.b_isinstance rfl T.b_ValueError rfl))) (zak zlQ) zaP)) (zak (by exact (zhZ hnw (zcF (zcS rfl T.b_range zan) rfl (N':=zcX) (m:=1) (by kernel_rfl) rfl (zba (by kernel_rfl)) (zbq (by kernel_rfl)) (zbM (by kernel_rfl)) (fun cl L s H fp G H' w σ=>⟨(zbr (i:=4) zfH rfl (by first | exact Or.inl rfl | exact Or.inr rfl) (show 4∉List.range 4 by decide)),(zko (zcq (zbU (zaa 3) (zaa 4)))),(zaa 4)⟩)))))))))))
theorem zbZ:∀(n:Nat)(Cc:Addr),n < 8→∃ ρ,zaQ n Cc (some .opq :: List.replicate 3 none) = .ok (.rt (.lst [.int n]),ρ):=by
 intro n Cc h
 match n,h with
 | 0,_=>exact ⟨_,by simp[zaQ,za4,zo7,zhq,zbg,zcg,dFz,zdl,dA,dA0,dC,zj8,zab,zhH,dIf,zb0,dTB,dNx,dNo,zeN,zaO,zbA,zbO,zbh,zbo,dOp,gIx,ixN,zem,R.bind];try rfl⟩
 | 1,_=>exact ⟨_,by simp[zaQ,za4,zo7,zhq,zbg,zcg,dFz,zdl,dA,dA0,dC,zj8,zab,zhH,dIf,zb0,dTB,dNx,dNo,zeN,zaO,zbA,zbO,zbh,zbo,dOp,gIx,ixN,zem,R.bind];try rfl⟩
 | 2,_=>exact ⟨_,by simp[zaQ,za4,zo7,zhq,zbg,zcg,dFz,zdl,dA,dA0,dC,zj8,zab,zhH,dIf,zb0,dTB,dNx,dNo,zeN,zaO,zbA,zbO,zbh,zbo,dOp,gIx,ixN,zem,R.bind];try rfl⟩
 | 3,_=>exact ⟨_,by simp[zaQ,za4,zo7,zhq,zbg,zcg,dFz,zdl,dA,dA0,dC,zj8,zab,zhH,dIf,zb0,dTB,dNx,dNo,zeN,zaO,zbA,zbO,zbh,zbo,dOp,gIx,ixN,zem,R.bind];try rfl⟩
 | 4,_=>exact ⟨_,by simp[zaQ,za4,zo7,zhq,zbg,zcg,dFz,zdl,dA,dA0,dC,zj8,zab,zhH,dIf,zb0,dTB,dNx,dNo,zeN,zaO,zbA,zbO,zbh,zbo,dOp,gIx,ixN,zem,R.bind];try rfl⟩
 | 5,_=>exact ⟨_,by simp[zaQ,za4,zo7,zhq,zbg,zcg,dFz,zdl,dA,dA0,dC,zj8,zab,zhH,dIf,zb0,dTB,dNx,dNo,zeN,zaO,zbA,zbO,zbh,zbo,dOp,gIx,ixN,zem,R.bind];try rfl⟩
 | 6,_=>exact ⟨_,by simp[zaQ,za4,zo7,zhq,zbg,zcg,dFz,zdl,dA,dA0,dC,zj8,zab,zhH,dIf,zb0,dTB,dNx,dNo,zeN,zaO,zbA,zbO,zbh,zbo,dOp,gIx,ixN,zem,R.bind];try rfl⟩
 | 7,_=>exact ⟨_,by simp[zaQ,za4,zo7,zhq,zbg,zcg,dFz,zdl,dA,dA0,dC,zj8,zab,zhH,dIf,zb0,dTB,dNx,dNo,zeN,zaO,zbA,zbO,zbh,zbo,dOp,gIx,ixN,zem,R.bind];try rfl⟩
abbrev zjE:List Str:=["state","n","left","found"]
abbrev zep:List Str:=["state","n"]
theorem zdJ:za1 zjE zep (zac (top 40)):=⟨rfl,rfl,rfl,by decide +kernel,rfl,by decide +kernel,by decide +kernel⟩
def ze7:DS:=(za4 (zcg 2 (zi5 (zab 1))) (za4 (zcg 3 (zdl dA0)) (za4 (zek (dTB (zrJ true 2 (dFz (zdl dA0)))) (dEx (zer 3 (zhQ 2 (zaf zad (dRO 0 (dR (zm7 2) dR0)))))) 10) (zb2 (dFn zbn (dA (zhH 3) dA0))))))
def zaV:FD:=zas false [true,false] 2 ze7
theorem zdr(T:Tx K mg cls):Dfn false P w K mg base (CXe P w) (xvC cls) 6 (Str.ofString "_law_order") [true,false] zaV:=by
  obtain ⟨f,fd,U,hm⟩:=T.u__law_order
  refine ⟨f,fd,zep,?_,hm,U.kp,U.binds (ps:=zep) fun _ _ _ _ _ _ us hl=>match us,hl with | [_,_],_=>rfl,zav⟩
  refine zaN (k:=5) false zaI U zdJ rfl rfl fun X C hX hpp hxv hnw hr hx hpo=>?_
  obtain ⟨cG,cH,cw,cpp,cσ,cex,cxv,cnw⟩:=C
  dsimp only at hpp hxv hnw
  subst hpp hxv hnw
  have hnw:(false:Bool)=false:=rfl
  obtain ⟨cdv,A,outer,s,H,E,rfl⟩:=hX
  exact (zag (by exact (zeA (i:=2) zdJ.nd rfl (by first | exact Or.inl rfl | exact Or.inr rfl) (show 2∉zaZ [true,false] by decide) (znE rfl rfl T.b_list rfl T.b_range (zaa 1)))) (zag (by exact (zeA (i:=3) zdJ.nd rfl (by first | exact Or.inl rfl | exact Or.inr rfl) (show 3∉zaZ [true,false] by decide) (zcn zaF))) (zag (by exact (zpE 10 hpo (zsV 2 (zhY hr) (zaD (zcn zaF))) (zak (by exact (zci (zg3 3 (zoW 2 (zaB (zaK T) hr (by omega) hx (zbH 0 (zae (zqI 2 rfl T.b_len) zaq)))))))))) (zak (by exact (zaA hnw (zcT T.b_tuple (zjD 3))))))))
end
section
variable{P:Program}{w:World}{K:W.Frag}{mg:Str→Option Value}{base:Heap}{xv:Nat→Value}{cls:Nat→Addr}
abbrev zhz:List Str:=["state","n","most","row","way","found","turn","low","party"]
abbrev zdz:List Str:=["state","n","most"]
theorem zbb:za1 zhz zdz (zac (top 41)):=⟨rfl,rfl,rfl,by decide +kernel,rfl,by decide +kernel,by decide +kernel⟩
abbrev zcY:List Str:=["state","n","most","row","way","found","turn","low","party","guest"]
theorem zfM:zcY.Nodup:=by decide +kernel
def zd1:DS:=(za4 (zbg 3 (zaf zaV (dRO 0 (dR (zab 1) dR0)))) (za4 (zbg 4 (zaf zad (dRO 0 (dR (dC (.int 4)) dR0)))) (za4 (zcg 5 (zdl dA0)) (za4 (zgh (zbO (zaf zad (dRO 0 (dR (dOp zbF (zab 2) (dC (.int 1))) dR0)))) (zbo 6) (za4 (zbg 7 (zaf zad (dRO 0 (dR (zab 1) dR0)))) (za4 (zbg 8 (dFz (zfq zcJ (dA (zes (zab 3) (dO1 (zab 7)) (dO1 (dOp zbF (dOp zbF (zab 7) (dC (.int 1))) (zaf zad (dRO 0 (dR (dOp zed (zab 1) (zab 7)) dR0)))))) dA0)))) (za4 (dIf (zfu (dTB (dOp gGt (zab 4) (dC (.int 1)))) (dTB (dOp gLt (zaf zad (dRO 0 (dR (dC (.int 3)) dR0))) (dOp zed (zab 4) (dC (.int 1)))))) (zbg 8 (zrI (dFz (zaO (zbO (zab 1)) (zbo 9) (dTB (dOp (gEq false) (zaf zad (dRO 0 (dR (dC (.int 2)) dR0))) (dC (.int 1)))) (zab 9) 1)) (zab 8))) dNx) (dEx (zer 5 (dFn zbn (dA (zab 8) dA0)))))))) (zb2 (zhH 5))))))
def zc2:FD:=zas false [true,false,false] 6 zd1
theorem zhv(T:Tx K mg cls):Dfn false P w K mg base (CXe P w) (xvC cls) 9 (Str.ofString "_law_parties") [true,false,false] zc2:=by
  obtain ⟨f,fd,U,hm⟩:=T.u__law_parties
  refine ⟨f,fd,zdz,?_,hm,U.kp,U.binds (ps:=zdz) fun _ _ _ _ _ _ us hl=>match us,hl with | [_,_,_],_=>rfl,zav⟩
  refine zaN (k:=8) false zaI U zbb rfl rfl fun X C hX hpp hxv hnw hr hx hpo=>?_
  obtain ⟨cG,cH,cw,cpp,cσ,cex,cxv,cnw⟩:=C
  dsimp only at hpp hxv hnw
  subst hpp hxv hnw
  have hnw:(false:Bool)=false:=rfl
  obtain ⟨cdv,A,outer,s,H,E,rfl⟩:=hX
  exact (zag (by exact (zbm (i:=3) zbb.nd rfl (by first | exact Or.inl rfl | exact Or.inr rfl) (show 3∉zaZ [true,false,false] by decide) (zaB (zdr T) hr (by omega) hx (zbH 0 (zae (zaa 1) zaq))))) (zag (by exact (zbm (i:=4) zbb.nd rfl (by first | exact Or.inl rfl | exact Or.inr rfl) (show 4∉zaZ [true,false,false] by decide) (zaB (zaK T) hr (by omega) hx (zbH 0 (zae zan zaq))))) (zag (by exact (zeA (i:=5) zbb.nd rfl (by first | exact Or.inl rfl | exact Or.inr rfl) (show 5∉zaZ [true,false,false] by decide) (zcn zaF))) (zag (by exact (zgT hpo rfl (zcS rfl T.b_range (zaB (zaK T) hr (by omega) hx (zbH 0 (zae (zcI (zaa 2) zan) zaq)))) (zbr (i:=6) zbb.nd rfl (by first | exact Or.inl rfl | exact Or.inr rfl) (show 6∉zaZ [true,false,false] by decide)) (zag (by exact (zbm (i:=7) zbb.nd rfl (by first | exact Or.inl rfl | exact Or.inr rfl) (show 7∉zaZ [true,false,false] by decide) (zaB (zaK T) hr (by omega) hx (zbH 0 (zae (zaa 1) zaq))))) (zag (by exact (zbm (i:=8) zbb.nd rfl (by first | exact Or.inl rfl | exact Or.inr rfl) (show 8∉zaZ [true,false,false] by decide) (zaD (ziK rfl T.b_sorted (zii (zaa 3) (zeZ (zaa 7)) (zeZ (zcI (zcI (zaa 7) zan) (zaB (zaK T) hr (by omega) hx (zbH 0 (zae (zfz (zaa 1) (zaa 7)) zaq)))))))))) (zag (by exact (zbV (JW.jt (zov (znV (zaa 4) zan) (zki (znU (zaB (zaK T) hr (by omega) hx (zbH 0 (zae zan zaq))) (zfz (zaa 4) zan))))) (zak (by exact (zbm (i:=8) zbb.nd rfl (by first | exact Or.inl rfl | exact Or.inr rfl) (show 8∉zaZ [true,false,false] by decide) (ztf (zaD (zcF (zcS rfl T.b_range (zaa 1)) rfl (N':=zcY) (m:=1) (by kernel_rfl) rfl (zba (by kernel_rfl)) (zbq (by kernel_rfl)) (zbM (by kernel_rfl)) (fun cl L s H fp G H' w σ=>⟨(zbr (i:=9) zfM rfl (by first | exact Or.inl rfl | exact Or.inr rfl) (show 9∉List.range 9 by decide)),(zko (zmH (zhY hr) (zaB (zaK T) hr (by omega) (znR fun _ z=>z) (zbH 0 (zae zan zaq))) zan)),(zaa 9)⟩))) (zgA (zaa 8)))))) zaP)) (zak (by exact (zci (zg3 5 (zcT T.b_tuple (zaa 8))))))))))) (zak (by exact (zaA hnw (zjD 5))))))))
abbrev zk2:List Str:=["state","guests","many","left","branches","turn","size","word"]
abbrev zdF:List Str:=["state","guests"]
theorem zbv:za1 zk2 zdF (zac (top 42)):=⟨rfl,rfl,rfl,by decide +kernel,rfl,by decide +kernel,by decide +kernel⟩
def zdW(F_self:FD):DS:=(za4 (dIf (dTB (dOp (gEq false) (dFn zde (dA (zab 1) dA0)) (dC (.int 1)))) (zb2 (dOp gIx (zab 1) (dC (.int 0)))) dNx) (za4 (zbg 2 (dFn zfK (dA (dFn zde (dA (zab 1) dA0)) (dA (dOp zbF (dC (.int 2)) (zaf zad (dRO 0 (dR (dC (.int 3)) dR0)))) dA0)))) (za4 (zbg 3 (dFz (zfq zgU (dA (zab 1) dA0)))) (za4 (zcg 4 (zdl dA0)) (za4 (zgh (zbO (dOp zed (zab 2) (dC (.int 1)))) (zbo 5) (za4 (zbg 6 (dOp zbF (dC (.int 1)) (zaf zad (dRO 0 (dR (dOp zed (dFn zde (dA (zab 3) dA0)) (dOp zed (dOp zed (zab 2) (dC (.int 1))) (zab 5))) dR0))))) (za4 (dEx (zer 4 (zaf F_self (dRO 0 (dR (dFz (zoC (zab 3) dO0 (dO1 (zab 6)))) dR0))))) (zbg 3 (dFz (zoC (zab 3) (dO1 (zab 6)) dO0)))))) (za4 (dEx (zer 4 (zaf F_self (dRO 0 (dR (zab 3) dR0))))) (za4 (zbg 7 (dC (.str (Str.ofString "any")))) (za4 (dIf (zfu (dTB (dOp gGt (zab 2) (dC (.int 2)))) (dTB (dOp (gEq false) (zaf zad (dRO 0 (dR (dC (.int 2)) dR0))) (dC (.int 0))))) (zbg 7 (dC (.str (Str.ofString "row")))) dNx) (zb2 (zhP (dA (zab 7) (dA (dFn zbn (dA (zhH 4) dA0)) dA0))))))))))))
def zbf:Nat→FD
 | 0=>fun _=>.no
 | n + 1=>zas false [true,false] 6 (zdW (zbf n))
theorem zgy(T:Tx K mg cls):∀ n,Dfn false P w K mg base (CXe P w) (xvC cls) (n + 5) (Str.ofString "_law_tree") [true,false] (zbf n)
 | 0=>by
  obtain ⟨f,fd,U,hm⟩:=T.u__law_tree
  exact zdq rfl U hm (U.binds (ps:=zdF) fun _ _ _ _ _ _ us hl=>match us,hl with | [_,_],_=>rfl)
 | n + 1=>by
  have DS:=zgy T n
  obtain ⟨f,fd,U,hm⟩:=T.u__law_tree
  refine ⟨f,fd,zdF,?_,hm,U.kp,U.binds (ps:=zdF) fun _ _ _ _ _ _ us hl=>match us,hl with | [_,_],_=>rfl,zav⟩
  refine zfl.mono (j:=(n + 5) + 1) ?_ (by omega)
  refine zaN (k:=n + 5) false zaI U zbv rfl rfl fun X C hX hpp hxv hnw hr hx hpo=>?_
  obtain ⟨cG,cH,cw,cpp,cσ,cex,cxv,cnw⟩:=C
  dsimp only at hpp hxv hnw
  subst hpp hxv hnw
  have hnw:(false:Bool)=false:=rfl
  obtain ⟨cdv,A,outer,s,H,E,rfl⟩:=hX
  exact (zag (by exact (zbV (zmH (zhY hr) (zgI T.b_len (zaa 1)) zan) (zak (by exact (zaA hnw (zbU (zaa 1) zan)))) zaP)) (zag (by exact (zbm (i:=2) zbv.nd rfl (by first | exact Or.inl rfl | exact Or.inr rfl) (show 2∉zaZ [true,false] by decide) (zqx rfl T.b_min (zgI T.b_len (zaa 1)) (zcI zan (zaB (zaK T) hr (by omega) hx (zbH 0 (zae zan zaq))))))) (zag (by exact (zbm (i:=3) zbv.nd rfl (by first | exact Or.inl rfl | exact Or.inr rfl) (show 3∉zaZ [true,false] by decide) (zaD (zqn T.b_list (zaa 1))))) (zag (by exact (zeA (i:=4) zbv.nd rfl (by first | exact Or.inl rfl | exact Or.inr rfl) (show 4∉zaZ [true,false] by decide) (zcn zaF))) (zag (by exact (zgT hpo rfl (zcS rfl T.b_range (zfz (zaa 2) zan)) (zbr (i:=5) zbv.nd rfl (by first | exact Or.inl rfl | exact Or.inr rfl) (show 5∉zaZ [true,false] by decide)) (zag (by exact (zbm (i:=6) zbv.nd rfl (by first | exact Or.inl rfl | exact Or.inr rfl) (show 6∉zaZ [true,false] by decide) (zcI zan (zaB (zaK T) hr (by omega) hx (zbH 0 (zae (zfz (zgI T.b_len (zaa 3)) (zfz (zfz (zaa 2) zan) (zaa 5))) zaq)))))) (zag (by exact (zci (zg3 4 (zaB DS hr (Nat.le_refl _) hx (zbH 0 (zae (zaD (zqh (zaa 3) zgH (zeZ (zaa 6)))) zaq)))))) (zak (by exact (zbm (i:=3) zbv.nd rfl (by first | exact Or.inl rfl | exact Or.inr rfl) (show 3∉zaZ [true,false] by decide) (zaD (zqh (zaa 3) (zeZ (zaa 6)) zgH))))))))) (zag (by exact (zci (zg3 4 (zaB DS hr (Nat.le_refl _) hx (zbH 0 (zae (zaa 3) zaq)))))) (zag (by exact (zbm (i:=7) zbv.nd rfl (by first | exact Or.inl rfl | exact Or.inr rfl) (show 7∉zaZ [true,false] by decide) zga)) (zag (by exact (zbV (JW.jt (zov (znV (zaa 2) zan) (zki (zmH (zhY hr) (zaB (zaK T) hr (by omega) hx (zbH 0 (zae zan zaq))) zan)))) (zak (by exact (zbm (i:=7) zbv.nd rfl (by first | exact Or.inl rfl | exact Or.inr rfl) (show 7∉zaZ [true,false] by decide) zga))) zaP)) (zak (by exact (zaA hnw (zeS (zao (zaa 7) (zao (zcT T.b_tuple (zjD 4)) zaF))))))))))))))
abbrev zk3:List Str:=["found","due"]
abbrev zdX:List Str:=["found","due"]
theorem zjw:za1 zk3 zdX (zac (top 43)):=⟨rfl,rfl,rfl,by decide +kernel,rfl,by decide +kernel,by decide +kernel⟩
abbrev zeh:List Str:=["found","due","one","other"]
theorem zhu:zeh.Nodup:=by decide +kernel
def zca(F_self:FD):DS:=(za4 (dIf (dTB (zrk "tuple" "list" (zab 1))) (za4 (dIf (zk6 (dTB (dOp (gEq true) (ze2 "tuple" (zab 0)) (ze2 "tuple" (zab 1)))) (dTB (dOp (gEq true) (ze2 "list" (zab 0)) (ze2 "list" (zab 1))))) (zb2 (dC (.bl false))) dNx) (za4 (dIf (dTB (dOp (gEq true) (dFn zde (dA (zab 0) dA0)) (dFn zde (dA (zab 1) dA0)))) (zb2 (dC (.bl false))) dNx) (zb2 (dFn zlT (dA (dFz (zaO (zkC (zab 0) (zab 1)) (zgi 2 3) dTT (zaf F_self (dR (zab 2) (dR (zab 3) dR0))) 2)) dA0))))) dNx) (zb2 (zjf (dOp (gEq false) (zab 0) (zab 1)) (dOp (gEq false) (ze2 "bool" (zab 0)) (ze2 "bool" (zab 1))))))
def zap:Nat→FD
 | 0=>fun _=>.no
 | n + 1=>zas false [false,false] 0 (zca (zap n))
theorem zdY(T:Tx K mg cls):∀ n,Dfn false P w K mg base (CXe P w) (xvC cls) (n + 2) (Str.ofString "_law_same") [false,false] (zap n)
 | 0=>by
  obtain ⟨f,fd,U,hm⟩:=T.u__law_same
  exact zdq rfl U hm (U.binds (ps:=zdX) fun _ _ _ _ _ _ us hl=>match us,hl with | [_,_],_=>rfl)
 | n + 1=>by
  have DS:=zdY T n
  obtain ⟨f,fd,U,hm⟩:=T.u__law_same
  refine ⟨f,fd,zdX,?_,hm,U.kp,U.binds (ps:=zdX) fun _ _ _ _ _ _ us hl=>match us,hl with | [_,_],_=>rfl,zav⟩
  refine zfl.mono (j:=(n + 2) + 1) ?_ (by omega)
  refine zaN (k:=n + 2) false zaI U zjw rfl rfl fun X C hX hpp hxv hnw hr hx hpo=>?_
  obtain ⟨cG,cH,cw,cpp,cσ,cex,cxv,cnw⟩:=C
  dsimp only at hpp hxv hnw
  subst hpp hxv hnw
  have hnw:(false:Bool)=false:=rfl
  obtain ⟨cdv,A,outer,s,H,E,rfl⟩:=hX
  exact (zag (by exact (zbV (zcq (zrD zc8 zgs rfl T.b_isinstance zcW rfl T.b_tuple zcM rfl T.b_list zhi (zaa 1))) (zag (by exact (zbV (JW.jt (zox (zmJ (zhY hr) (zdi zc8 rfl T.b_isinstance zcW rfl T.b_tuple zcM (zaa 0)) (zdi zc8 rfl T.b_isinstance zcW rfl T.b_tuple zcM (zaa 1))) (zlp (zmJ (zhY hr) (zdi zgs rfl T.b_isinstance zcW rfl T.b_list zhi (zaa 0)) (zdi zgs rfl T.b_isinstance zcW rfl T.b_list zhi (zaa 1)))))) (zak (by exact (zaA hnw zf3))) zaP)) (zag (by exact (zbV (zmJ (zhY hr) (zgI T.b_len (zaa 0)) (zgI T.b_len (zaa 1))) (zak (by exact (zaA hnw zf3))) zaP)) (zak (by exact (zaA hnw (zpI rfl T.b_all (zaD (zcF (zrE rfl T.b_zip (zaa 0) (zaa 1)) rfl (N':=zeh) (m:=2) (by kernel_rfl) rfl (zba (by kernel_rfl)) (zbq (by kernel_rfl)) (zbM (by kernel_rfl)) (fun cl L s H fp G H' w σ=>⟨(zo6 (i:=2) (j:=3) rfl zhu rfl rfl (by first | exact Or.inl rfl | exact Or.inr rfl) (by first | exact Or.inl rfl | exact Or.inr rfl) (show 2∉List.range 2 by decide) (show 3∉List.range 2 by decide)),zcv,(zaB DS hr (Nat.le_refl _) (znR fun _ z=>z) (zae (zaa 2) (zae (zaa 3) zaq)))⟩))))))))) zaP)) (zak (by exact (zaA hnw (zgF (zoE (zhY hr) (zaa 0) (zaa 1)) (zgA (zoE (zhY hr) (zdi ziH rfl T.b_isinstance zcW rfl T.b_bool zkr (zaa 0)) (zdi ziH rfl T.b_isinstance zcW rfl T.b_bool zkr (zaa 1)))))))))
abbrev zit:List Str:=["tree","found","branch"]
abbrev zcN:List Str:=["tree"]
theorem zcz:za1 zit zcN (zac (top 44)):=⟨rfl,rfl,rfl,by decide +kernel,rfl,by decide +kernel,by decide +kernel⟩
def zdT(F_self:FD):DS:=(za4 (dIf (zb0 (dTB (ze2 "tuple" (zab 0)))) (zb2 (dFz (zdl (dA (zab 0) dA0)))) dNx) (za4 (zbg 1 (dFz (zdl dA0))) (za4 (zgh (dIt (dOp gIx (zab 0) (dC (.int 1)))) (zbo 2) (zbg 1 (dFz (zj8 (zab 1) (zaf F_self (dR (zab 2) dR0)))))) (zb2 (zab 1)))))
def zax:Nat→FD
 | 0=>fun _=>.no
 | n + 1=>zas false [false] 2 (zdT (zax n))
theorem zcj(T:Tx K mg cls):∀ n,Dfn false P w K mg base (CXe P w) (xvC cls) (n + 2) (Str.ofString "_law_leaves") [false] (zax n)
 | 0=>by
  obtain ⟨f,fd,U,hm⟩:=T.u__law_leaves
  exact zdq rfl U hm (U.binds (ps:=zcN) fun _ _ _ _ _ _ us hl=>match us,hl with | [_],_=>rfl)
 | n + 1=>by
  have DS:=zcj T n
  obtain ⟨f,fd,U,hm⟩:=T.u__law_leaves
  refine ⟨f,fd,zcN,?_,hm,U.kp,U.binds (ps:=zcN) fun _ _ _ _ _ _ us hl=>match us,hl with | [_],_=>rfl,zav⟩
  refine zfl.mono (j:=(n + 2) + 1) ?_ (by omega)
  refine zaN (k:=n + 2) false zaI U zcz rfl rfl fun X C hX hpp hxv hnw hr hx hpo=>?_
  obtain ⟨cG,cH,cw,cpp,cσ,cex,cxv,cnw⟩:=C
  dsimp only at hpp hxv hnw
  subst hpp hxv hnw
  have hnw:(false:Bool)=false:=rfl
  obtain ⟨cdv,A,outer,s,H,E,rfl⟩:=hX
  exact (zag (by exact (zbV (zeg (zcq (zdi zc8 rfl T.b_isinstance zcW rfl T.b_tuple zcM (zaa 0)))) (zak (by exact (zaA hnw (zaD (zcn (zao (zaa 0) zaF)))))) zaP)) (zag (by exact (zbm (i:=1) zcz.nd rfl (by first | exact Or.inl rfl | exact Or.inr rfl) (show 1∉zaZ [false] by decide) (zaD (zcn zaF)))) (zag (by exact (zgT hpo rfl (zdj (zbU (zaa 0) zan)) (zbr (i:=2) zcz.nd rfl (by first | exact Or.inl rfl | exact Or.inr rfl) (show 2∉zaZ [false] by decide)) (zak (by exact (zbm (i:=1) zcz.nd rfl (by first | exact Or.inl rfl | exact Or.inr rfl) (show 1∉zaZ [false] by decide) (zaD (by refine zoj (zaa 1) ?_;exact (zaB DS hr (Nat.le_refl _) hx (zae (zaa 2) zaq))))))))) (zak (by exact (zaA hnw (zaa 1)))))))
end
section
variable{P:Program}{w:World}{K:W.Frag}{mg:Str→Option Value}{base:Heap}{xv:Nat→Value}{cls:Nat→Addr}
abbrev zjz:List Str:=["tree","branches","found","branch","ahead"]
abbrev zdu:List Str:=["tree"]
theorem zbC:za1 zjz zdu (zac (top 45)):=⟨rfl,rfl,rfl,by decide +kernel,rfl,by decide +kernel,by decide +kernel⟩
abbrev zd6:List Str:=["tree","branches","found","%3","ahead","branch"]
theorem zhc:zd6.Nodup:=by decide +kernel
abbrev zdE:List Str:=["tree","branches","found","branch","ahead","one"]
theorem zg6:zdE.Nodup:=by decide +kernel
def zeC(F_self:FD):DS:=(za4 (dIf (zb0 (dTB (ze2 "tuple" (zab 0)))) (zb2 (zab 0)) dNx) (za4 (zbg 1 (dFz (zaO (dIt (dOp gIx (zab 0) (dC (.int 1)))) (zbo 5) dTT (zaf F_self (dR (zab 5) dR0)) 1))) (za4 (dIf (dTB (dOp (gEq false) (dOp gIx (zab 0) (dC (.int 0))) (dC (.str (Str.ofString "any"))))) (za4 (zcg 2 (zdl dA0)) (za4 (zgh (dIt (zab 1)) (zbo 3) (za4 (zbg 4 (dFz (zaO (zsb 2) (zbo 5) (dTB (dOp gLt (dFn zdI (dA (zaf (zax 8) (dR (zab 5) dR0)) dA0)) (dFn zdI (dA (zaf (zax 8) (dR (zab 3) dR0)) dA0)))) (zab 5) 1))) (dEx (zpC 2 (dFn zde (dA (zab 4) dA0)) (zab 3))))) (zbg 1 (zhH 2)))) (dIf (dTB (dOp gLt (dFn zdI (dA (zaf (zax 8) (dR (dOp gIx (zab 1) (zm5 (dC (.int 1)))) dR0)) dA0)) (dFn zdI (dA (zaf (zax 8) (dR (dOp gIx (zab 1) (dC (.int 0))) dR0)) dA0)))) (zbg 1 (dFz (zjI (zab 1)))) dNx)) (zb2 (zhP (dA (dOp gIx (zab 0) (dC (.int 0))) (dA (dFn zbn (dA (zab 1) dA0)) dA0)))))))
def zbw:Nat→FD
 | 0=>fun _=>.no
 | n + 1=>zas false [false] 4 (zeC (zbw n))
theorem zgb(T:Tx K mg cls):∀ n,Dfn false P w K mg base (CXe P w) (xvC cls) (n + 12) (Str.ofString "_law_least") [false] (zbw n)
 | 0=>by
  obtain ⟨f,fd,U,hm⟩:=T.u__law_least
  exact zdq rfl U hm (U.binds (ps:=zdu) fun _ _ _ _ _ _ us hl=>match us,hl with | [_],_=>rfl)
 | n + 1=>by
  have DS:=zgb T n
  obtain ⟨f,fd,U,hm⟩:=T.u__law_least
  refine ⟨f,fd,zdu,?_,hm,U.kp,U.binds (ps:=zdu) fun _ _ _ _ _ _ us hl=>match us,hl with | [_],_=>rfl,zav⟩
  refine zfl.mono (j:=(n + 12) + 1) ?_ (by omega)
  refine zaN (k:=n + 12) false zaI U zbC rfl rfl fun X C hX hpp hxv hnw hr hx hpo=>?_
  obtain ⟨cG,cH,cw,cpp,cσ,cex,cxv,cnw⟩:=C
  dsimp only at hpp hxv hnw
  subst hpp hxv hnw
  have hnw:(false:Bool)=false:=rfl
  obtain ⟨cdv,A,outer,s,H,E,rfl⟩:=hX
  exact (zag (by exact (zbV (zeg (zcq (zdi zc8 rfl T.b_isinstance zcW rfl T.b_tuple zcM (zaa 0)))) (zak (by exact (zaA hnw (zaa 0)))) zaP)) (zag (by exact (zfJ (i:=1) zbC.nd rfl (by first | exact Or.inl rfl | exact Or.inr rfl) (show 1∉zaZ [false] by decide) (zdj (zbU (zaa 0) zan)) rfl (N':=zd6) (m:=1) (by kernel_rfl) rfl (zba (by kernel_rfl)) (zbq (by kernel_rfl)) (zbM (by kernel_rfl)) (fun cl L s H fp G H' w σ=>⟨(zbr (i:=5) zhc rfl (by first | exact Or.inl rfl | exact Or.inr rfl) (show 5∉List.range 5 by decide)),zcv,(zaB DS hr (Nat.le_refl _) (znR fun _ z=>z) (zae (zaa 5) zaq))⟩))) (zag (by exact (zbV (zmH (zhY hr) (zbU (zaa 0) zan) zga) (zag (by exact (zeA (i:=2) zbC.nd rfl (by first | exact Or.inl rfl | exact Or.inr rfl) (show 2∉zaZ [false] by decide) (zcn zaF))) (zag (by exact (zgT hpo rfl (zdj (zaa 1)) (zbr (i:=3) zbC.nd rfl (by first | exact Or.inl rfl | exact Or.inr rfl) (show 3∉zaZ [false] by decide)) (zag (by exact (zkn (i:=4) (io:=2) zbC.nd rfl (by first | exact Or.inl rfl | exact Or.inr rfl) (show 4∉zaZ [false] by decide) rfl (Or.inl rfl) rfl (N':=zdE) (m:=1) (by kernel_rfl) rfl (zba (by kernel_rfl)) (zbq (by kernel_rfl)) (zbM (by kernel_rfl)) (fun cl L s H fp G H' w σ=>⟨(zbr (i:=5) zg6 rfl (by first | exact Or.inl rfl | exact Or.inr rfl) (show 5∉List.range 5 by decide)),(zko (znU (zl4 rfl T.b_min (zaB (zcj T 8) hr (by omega) (znR fun _ z=>z) (zae (zaa 5) zaq))) (zl4 rfl T.b_min (zaB (zcj T 8) hr (by omega) (znR fun _ z=>z) (zae (zaa 3) zaq))))),(zaa 5)⟩) (zp9 (by decide) (ztU (ztj (zlu (zof 5))) (ztj (zlu (zof 3)))) (zof 5)))) (zak (by exact (zci (zry 2 (zgI T.b_len (zaa 4)) (zaa 3)))))))) (zak (by exact (zbm (i:=1) zbC.nd rfl (by first | exact Or.inl rfl | exact Or.inr rfl) (show 1∉zaZ [false] by decide) (zjD 2)))))) (zak (by exact (zbV (znU (zl4 rfl T.b_min (zaB (zcj T 8) hr (by omega) hx (zae (zbU (zaa 1) (zlK zan)) zaq))) (zl4 rfl T.b_min (zaB (zcj T 8) hr (by omega) hx (zae (zbU (zaa 1) zan) zaq)))) (zak (by exact (zbm (i:=1) zbC.nd rfl (by first | exact Or.inl rfl | exact Or.inr rfl) (show 1∉zaZ [false] by decide) (zaD (zte (zaa 1)))))) zaP))))) (zak (by exact (zaA hnw (zeS (zao (zbU (zaa 0) zan) (zao (zcT T.b_tuple (zaa 1)) zaF)))))))))
abbrev zmw:List Str:=["tree","names"]
abbrev zeE:List Str:=["tree","names"]
theorem zkc:za1 zmw zeE (zac (top 46)):=⟨rfl,rfl,rfl,by decide +kernel,rfl,by decide +kernel,by decide +kernel⟩
abbrev zey:List Str:=["tree","names","branch"]
theorem zim:zey.Nodup:=by decide +kernel
def zdD(F_self:FD):DS:=(za4 (dIf (zb0 (dTB (ze2 "tuple" (zab 0)))) (zb2 (dOp gIx (zab 1) (zab 0))) dNx) (zb2 (zhP (dA (dOp gIx (zab 0) (dC (.int 0))) (dA (dFn zbn (dA (dFz (zaO (dIt (dOp gIx (zab 0) (dC (.int 1)))) (zbo 2) dTT (zaf F_self (dR (zab 2) (dR (zab 1) dR0))) 1)) dA0)) dA0)))))
def zbP:Nat→FD
 | 0=>fun _=>.no
 | n + 1=>zas false [false,false] 0 (zdD (zbP n))
theorem zhK(T:Tx K mg cls):∀ n,Dfn false P w K mg base (CXe P w) (xvC cls) (n + 2) (Str.ofString "_law_led") [false,false] (zbP n)
 | 0=>by
  obtain ⟨f,fd,U,hm⟩:=T.u__law_led
  exact zdq rfl U hm (U.binds (ps:=zeE) fun _ _ _ _ _ _ us hl=>match us,hl with | [_,_],_=>rfl)
 | n + 1=>by
  have DS:=zhK T n
  obtain ⟨f,fd,U,hm⟩:=T.u__law_led
  refine ⟨f,fd,zeE,?_,hm,U.kp,U.binds (ps:=zeE) fun _ _ _ _ _ _ us hl=>match us,hl with | [_,_],_=>rfl,zav⟩
  refine zfl.mono (j:=(n + 2) + 1) ?_ (by omega)
  refine zaN (k:=n + 2) false zaI U zkc rfl rfl fun X C hX hpp hxv hnw hr hx hpo=>?_
  obtain ⟨cG,cH,cw,cpp,cσ,cex,cxv,cnw⟩:=C
  dsimp only at hpp hxv hnw
  subst hpp hxv hnw
  have hnw:(false:Bool)=false:=rfl
  obtain ⟨cdv,A,outer,s,H,E,rfl⟩:=hX
  exact (zag (by exact (zbV (zeg (zcq (zdi zc8 rfl T.b_isinstance zcW rfl T.b_tuple zcM (zaa 0)))) (zak (by exact (zaA hnw (zbU (zaa 1) (zaa 0))))) zaP)) (zak (by exact (zaA hnw (zeS (zao (zbU (zaa 0) zan) (zao (zcT T.b_tuple (zaD (zcF (zdj (zbU (zaa 0) zan)) rfl (N':=zey) (m:=1) (by kernel_rfl) rfl (zba (by kernel_rfl)) (zbq (by kernel_rfl)) (zbM (by kernel_rfl)) (fun cl L s H fp G H' w σ=>⟨(zbr (i:=2) zim rfl (by first | exact Or.inl rfl | exact Or.inr rfl) (show 2∉List.range 2 by decide)),zcv,(zaB DS hr (Nat.le_refl _) (znR fun _ z=>z) (zae (zaa 2) (zae (zaa 1) zaq)))⟩)))) zaF)))))))
end
section
variable{P:Program}{w:World}{K:W.Frag}{mg:Str→Option Value}{base:Heap}{xv:Nat→Value}{cls:Nat→Addr}
abbrev zeq:List Str:=["state","n","parties","tree","order","<tab>","at","odd","some","bad","none","calls"]
abbrev zbN:List Str:=["state","n","parties","tree","order"]
theorem za7:za1 zeq zbN (zac (top 47)):=⟨rfl,rfl,rfl,by decide +kernel,rfl,by decide +kernel,by decide +kernel⟩
abbrev zbS:List Str:=["state","n","parties","tree","order","<tab>","at","odd","some","bad","none","calls","call"]
theorem zdB:zbS.Nodup:=by decide +kernel
def zbJ:DS:=(za4 (zbg 6 (zaf zad (dRO 0 (dR (zab 1) dR0)))) (za4 (zbg 7 (dOp gIx (dFz (zdl (dA (dOp gIx (zab 4) (dOp zed (zab 6) (dC (.int 1)))) (dA (zab 1) (dAC [(.int (-1)),(.bl true),.non,(.str (Str.ofString "0")),(.tup [(.int 0)])]))))) (zaf zad (dRO 0 (dR (dC (.int 7)) dR0))))) (za4 (zbg 8 (dFz (zdl (dA (zes (zab 4) dO0 (dO1 (zm5 (dC (.int 1))))) (dA (dOp zfE (zab 4) (zhP (dA (zab 1) dA0))) (dA (dFz (zfq zgU (dA (zab 4) dA0))) (dA (dC .non) (dA (dC .dct) (dA (dC (.int 0)) (dA (dOp zfE (dOp zfE (zes (zab 4) dO0 (dO1 (zab 6))) (zhP (dA (zab 7) dA0))) (zes (zab 4) (dO1 (dOp zbF (zab 6) (dC (.int 1)))) dO0)) dA0)))))))))) (za4 (zbg 9 (dOp gIx (zab 8) (dOp gIx (dC (.lst [(.int 0),(.int 1),(.int 2),(.int 3),(.int 4),(.int 5),(.int 6),(.int 6),(.int 6)])) (zaf zad (dRO 0 (dR (dC (.int 9)) dR0)))))) (za4 (dIf (zk6 (dTB (dOp zkG (zab 9) (zab 4))) (zfu (dTB (dOp (gEq false) (zab 1) (dC (.int 1)))) (dTB (dOp zkG (zab 9) (dC (.tup [(.int 0)])))))) (zb2 (dC (.bl true))) dNx) (za4 (ziV 5 11 zdV 7 (dFz (zbQ zat (dR (zab 1) (dR (zab 2) (dR (zab 9) dR0))))) (zaf zbc (dR (zab 1) (dR (zab 4) (dR (zab 9) dR0)))) (zaf zbi (dR (zab 1) (dR (zab 3) (dR (zab 9) dR0))))) (za4 (zbg 10 (dOp gIx (dC (.lst [(.int 0),(.int 8),(.int (-1)),(.bl true),.non,(.str (Str.ofString "3"))])) (zaf zad (dRO 0 (dR (dC (.int 6)) dR0))))) (za4 (dIf (dTB (dOp (gEq true) (dFz (zk7 5 zdV (zaf zbi (dR (zab 10) (dR (zab 3) (dR (zab 4) dR0)))))) (dC (.lst [(.int 0)])))) (zb2 (dC (.bl false))) dNx) (za4 (dIf (dTB (dOp (gEq true) (dFz (zk7 5 zdV (dFz (zbQ zat (dR (zab 10) (dR (dFz (zdl dA0)) (dR (zab 4) dR0))))))) (dC (.lst [(.int 0)])))) (zb2 (dC (.bl false))) dNx) (zb2 (dOp (gEq false) (dFz (zk7 5 zdV (dFz (zbQ zat (dR (zab 1) (dR (dFz (zdl (dA (zhP (dA (zab 1) dA0)) dA0))) (dR (zab 4) dR0))))))) (dC (.lst [(.int 1)])))))))))))))
def za9:FD:=zas false ([true,false,false,false,false] ++ [true]) 6 zbJ
theorem zew(T:Tx K mg cls){f PT cL:Addr}{fd:FuncData}(U:Fun K (Str.ofString "_law_refusals_right") (Str.ofString "_law_refusals_right") (top 47) f fd)(hmx:mg (Str.ofString "_law_refusals_right")=some (.ref f))(hcL:fd.code = .ref cL)(hch:W.codeHdIn K cL PT=true)(hbm:base.BuiltinsAt mg PT)(hKb:K.In base):ztZ P w K mg base (CXe P w) (xvC cls) 38 (Str.ofString "_law_refusals_right") ([true,false,false,false,false] ++ [true]) PT za9:=by
  obtain ⟨fR,fdR,UR,hmR⟩:=T.u__law_refused
  refine ⟨f,fd,zbN,?_,hmx,U.kp,U.binds (ps:=zbN) fun _ _ _ _ _ _ us hl=>match us,hl with | [_,_,_,_,_],_=>rfl,zav⟩
  refine zpr (k:=37) (ks:=[true,false,false,false,false]) (m:=6) (xt:="<tab>") U hcL hch za7 rfl rfl rfl (by unfold Vis;decide +kernel) hbm hKb fun X C hX hpp hσ0 hxv hnw hr hx hpo hLB=>?_
  obtain ⟨cdv,A,outer,s,H,E,rfl⟩:=hX
  obtain ⟨cG,cH,cw,cpp,cσ,cex,cxv,cnw⟩:=C
  dsimp only at hpp hσ0 hxv hnw
  subst hpp hxv hnw
  have hnw:(false:Bool)=false:=rfl
  refine zag ?_ ?_
  ·exact (zbm (i:=6) za7.nd rfl (by first | exact Or.inl rfl | exact Or.inr rfl) (show 6∉zaZ ([true,false,false,false,false] ++ [true]) by decide) (zaB (zaK T) hr (by omega) hx (zbH 0 (zae (zaa 1) zaq))))
  refine zag ?_ ?_
  ·exact (zbm (i:=7) za7.nd rfl (by first | exact Or.inl rfl | exact Or.inr rfl) (show 7∉zaZ ([true,false,false,false,false] ++ [true]) by decide) (zbU (zaD (zcn (zao (zbU (zaa 4) (zfz (zaa 6) zan)) (zao (zaa 1) (by refine zi9 40 ?_;kernel_rfl))))) (zaB (zaK T) hr (by omega) hx (zbH 0 (zae zan zaq)))))
  refine zag ?_ ?_
  ·refine zbm (i:=8) ?_ ?_ ?_ ?_ ?_ ?_ ?_
   ·exact za7.nd
   ·kernel_rfl
   ·exact Or.inl (by kernel_rfl)
   ·exact (show 8∉zaZ ([true,false,false,false,false] ++ [true]) by decide)
   ·refine zaD ?_
    refine zcn ?_
    refine zao ?_ ?_
    ·exact (zii (zaa 4) zgH (zeZ (zlK zan)))
    refine zao ?_ ?_
    ·exact (zk0 (zaa 4) (zeS (zao (zaa 1) zaF)))
    refine zao ?_ ?_
    ·exact (zaD (zqn T.b_list (zaa 4)))
    refine zao ?_ ?_
    ·exact znn
    refine zao ?_ ?_
    ·exact znS
    refine zao ?_ ?_
    ·exact zan
    refine zao ?_ ?_
    ·exact (zk0 (zk0 (zii (zaa 4) zgH (zeZ (zaa 6))) (zeS (zao (zaa 7) zaF))) (zii (zaa 4) (zeZ (zcI (zaa 6) zan)) zgH))
    exact zaF
   ·kernel_rfl
   ·exact Or.inl rfl
  refine zag ?_ ?_
  ·exact (zbm (i:=9) za7.nd rfl (by first | exact Or.inl rfl | exact Or.inr rfl) (show 9∉zaZ ([true,false,false,false,false] ++ [true]) by decide) (zbU (zaa 8) (zbU (by refine jd 40 ?_;kernel_rfl) (zaB (zaK T) hr (by omega) hx (zbH 0 (zae zan zaq))))))
  refine zag ?_ ?_
  ·exact (zbV (JW.jt (zox (zqi (zhY hr) (zaa 9) (zaa 4)) (zlp (JW.jt (zov (zmH (zhY hr) (zaa 1) zan) (zki (zqi (zhY hr) (zaa 9) (by refine jd 40 ?_;kernel_rfl)))))))) (zak (by exact (zaA hnw zf3))) zaP)
  refine znM (fR:=dFz (dRep (dC (.lst [(.lst [(.int 7)])])) (dC (.int 3)))) (k:=32) (n:=7) (j:=5) (ci:=11) (xc:="call") (N':=zbS) (st:=top 37) hLB (show 5∈zaZ ([true,false,false,false,false] ++ [true]) by decide) hσ0 (show 11∉zaZ ([true,false,false,false,false] ++ [true]) by decide) cls (fun _ _=>rfl) rfl rfl UR zaT rfl (UR.binds (ps:=["call"]) fun _ _ _ _ _ _ us hl=>match us,hl with | [_],_=>rfl) hmR (hr.mono (by omega)) (zhY hr) ?_ zbZ ?_ ?_ ?_ za7.nd ?_ ?_ ?_ ?_ ?_ ?_ ?_ ?_ ?_ ?_ ?_ ?_ ?_ ?_ ?_ ?_ ?_ ?_ ?_ ?_ ?_ ?_ ?_ ?_ ?_ ?_ ?_ ?_ ?_ ?_ ?_ ?_ ?_
  ·exact fun _ _=>zcx T
  ·refine ⟨fun XL CL hXL hcv hr hx=>?_,zbq (by kernel_rfl),fun _ _ _ _=>rfl,rfl,rfl,rfl,rfl,rfl⟩
   obtain ⟨⟨xp,xw,xK,xmg,xb,xA,xN,xs,xH,xenv,xo,xst,xex,xfn,xc,xpn,xxe⟩,cl,Fa,cdv,s,H,E,e1,e2,e3,e4,e5,rfl⟩:=hXL
   obtain ⟨cG,cH,cw,cpp,cσ,cex,cxv,cnw⟩:=CL
   dsimp only at e1 e2 e3 e4 e5 hcv
   subst e1 e2 e3 e4 e5 hcv
   exact (zaD (zmX (zck T) hr (by omega) hx (zae (zaa 1) (zae (zaa 2) (zae (zaa 9) zaq)))))
  ·refine ⟨fun XL CL hXL hcv hr hx=>?_,zbq (by kernel_rfl),fun _ _ _ _=>rfl,rfl,rfl,rfl,rfl,rfl⟩
   obtain ⟨⟨xp,xw,xK,xmg,xb,xA,xN,xs,xH,xenv,xo,xst,xex,xfn,xc,xpn,xxe⟩,cl,Fa,cdv,s,H,E,e1,e2,e3,e4,e5,rfl⟩:=hXL
   obtain ⟨cG,cH,cw,cpp,cσ,cex,cxv,cnw⟩:=CL
   dsimp only at e1 e2 e3 e4 e5 hcv
   subst e1 e2 e3 e4 e5 hcv
   exact (zaB (ze3 T) hr (by omega) hx (zae (zaa 1) (zae (zaa 4) (zae (zaa 9) zaq))))
  ·refine ⟨fun XL CL hXL hcv hr hx=>?_,zbq (by kernel_rfl),fun _ _ _ _=>rfl,rfl,rfl,rfl,rfl,rfl⟩
   obtain ⟨⟨xp,xw,xK,xmg,xb,xA,xN,xs,xH,xenv,xo,xst,xex,xfn,xc,xpn,xxe⟩,cl,Fa,cdv,s,H,E,e1,e2,e3,e4,e5,rfl⟩:=hXL
   obtain ⟨cG,cH,cw,cpp,cσ,cex,cxv,cnw⟩:=CL
   dsimp only at e1 e2 e3 e4 e5 hcv
   subst e1 e2 e3 e4 e5 hcv
   exact (zaB (zeu T) hr (by omega) hx (zae (zaa 1) (zae (zaa 3) (zae (zaa 9) zaq))))
  ·exact rfl
  ·first | exact Or.inl rfl | exact Or.inr rfl
  ·first | exact Or.inl rfl | exact Or.inr (Or.inl rfl) | exact Or.inr (Or.inr rfl)
  ·kernel_rfl
  ·exact rfl
  ·exact zba (by kernel_rfl)
  ·exact zbq (by kernel_rfl)
  ·exact zbM (by kernel_rfl)
  ·exact zdB
  ·exact rfl
  ·kernel_rfl
  ·exact fun _ _ _ _ _=>rfl
  ·exact fun _ _ _ _ _=>rfl
  ·exact fun _ _ _ _ _=>rfl
  ·exact fun _ _ _ _ _=>⟨Or.inl rfl,Or.inl rfl,rfl⟩
  ·exact fun C=>zaD (by refine zsd (by refine jd 40 ?_;kernel_rfl) ?_;exact zan)
  ·exact fun _=>rfl
  ·refine zag ?_ ?_
   ·exact (zbm (i:=10) za7.nd rfl (by first | exact Or.inl rfl | exact Or.inr rfl) (show 10∉zaZ ([true,false,false,false,false] ++ [true]) by decide) (zbU (by refine jd 40 ?_;kernel_rfl) (zaB (zaK T) hr (by omega) hx (zbH 0 (zae zan zaq)))))
   refine zag ?_ ?_
   ·exact (zbV (zmJ (zhY hr) (zaD (znc (k:=32) (st:=top 37) hLB rfl (show 5∈zaZ ([true,false,false,false,false] ++ [true]) by decide) hσ0 cls (fun _ _=>rfl) UR zaT rfl (UR.binds (ps:=["call"]) fun _ _ _ _ _ _ us hl=>match us,hl with | [_],_=>rfl) hmR (hr.mono (by omega)) (zcx T) zbZ (fun XL CL hXL hcv hr hx=>by
    obtain ⟨⟨xp,xw,xK,xmg,xb,xA,xN,xs,xH,xenv,xo,xst,xex,xfn,xc,xpn,xxe⟩,cl,Fa,cdv,s,H,E,e1,e2,e3,e4,e5,rfl⟩:=hXL
    obtain ⟨cG,cH,cw,cpp,cσ,cex,cxv,cnw⟩:=CL
    dsimp only at e1 e2 e3 e4 e5 hcv
    subst e1 e2 e3 e4 e5 hcv
    exact (zaB (zeu T) hr (by omega) hx (zae (zaa 10) (zae (zaa 3) (zae (zaa 4) zaq))))) (hfr:=zbq (by kernel_rfl)) (hbind:=fun _ _ _ _=>rfl))) (by refine jd 40 ?_;kernel_rfl)) (zak (by exact (zaA hnw zf3))) zaP)
   refine zag ?_ ?_
   ·exact (zbV (zmJ (zhY hr) (zaD (znc (k:=21) (st:=top 37) hLB rfl (show 5∈zaZ ([true,false,false,false,false] ++ [true]) by decide) hσ0 cls (fun _ _=>rfl) UR zaT rfl (UR.binds (ps:=["call"]) fun _ _ _ _ _ _ us hl=>match us,hl with | [_],_=>rfl) hmR (hr.mono (by omega)) (zcx T) zbZ (fun XL CL hXL hcv hr hx=>by
    obtain ⟨⟨xp,xw,xK,xmg,xb,xA,xN,xs,xH,xenv,xo,xst,xex,xfn,xc,xpn,xxe⟩,cl,Fa,cdv,s,H,E,e1,e2,e3,e4,e5,rfl⟩:=hXL
    obtain ⟨cG,cH,cw,cpp,cσ,cex,cxv,cnw⟩:=CL
    dsimp only at e1 e2 e3 e4 e5 hcv
    subst e1 e2 e3 e4 e5 hcv
    exact (zaD (zmX (zck T) hr (by omega) hx (zae (zaa 10) (zae (zaD (zcn zaF)) (zae (zaa 4) zaq)))))) (hfr:=zbq (by kernel_rfl)) (hbind:=fun _ _ _ _=>rfl))) (by refine jd 40 ?_;kernel_rfl)) (zak (by exact (zaA hnw zf3))) zaP)
   refine zak ?_
   exact (zaA hnw (zoE (zhY hr) (zaD (znc (k:=21) (st:=top 37) hLB rfl (show 5∈zaZ ([true,false,false,false,false] ++ [true]) by decide) hσ0 cls (fun _ _=>rfl) UR zaT rfl (UR.binds (ps:=["call"]) fun _ _ _ _ _ _ us hl=>match us,hl with | [_],_=>rfl) hmR (hr.mono (by omega)) (zcx T) zbZ (fun XL CL hXL hcv hr hx=>by
    obtain ⟨⟨xp,xw,xK,xmg,xb,xA,xN,xs,xH,xenv,xo,xst,xex,xfn,xc,xpn,xxe⟩,cl,Fa,cdv,s,H,E,e1,e2,e3,e4,e5,rfl⟩:=hXL
    obtain ⟨cG,cH,cw,cpp,cσ,cex,cxv,cnw⟩:=CL
    dsimp only at e1 e2 e3 e4 e5 hcv
    subst e1 e2 e3 e4 e5 hcv
    exact (zaD (zmX (zck T) hr (by omega) hx (zae (zaa 1) (zae (zaD (zcn (zao (zeS (zao (zaa 1) zaF)) zaF))) (zae (zaa 4) zaq)))))) (hfr:=zbq (by kernel_rfl)) (hbind:=fun _ _ _ _=>rfl))) (by refine jd 40 ?_;kernel_rfl)))
  ·kernel_rfl
  ·kernel_rfl
  ·kernel_rfl
  ·kernel_rfl
  ·kernel_rfl
  ·kernel_rfl
  ·kernel_rfl
  ·kernel_rfl
  ·kernel_rfl
  ·kernel_rfl
  ·kernel_rfl
  ·kernel_rfl
  ·kernel_rfl
  ·kernel_rfl
  ·exact fun _=>rfl
end
section
variable{P:Program}{w:World}{K:W.Frag}{mg:Str→Option Value}{base:Heap}{xv:Nat→Value}{cls:Nat→Addr}
abbrev ztB:List Str:=["script","k","state","n","parties","order","tree","seating","due","turn","found","<tab>"]
abbrev zs6:List Str:=["script"]
theorem zfm:za1 ztB zs6 (zac (top 48)):=⟨rfl,rfl,rfl,by decide +kernel,rfl,by decide +kernel,by decide +kernel⟩
abbrev zhF:List Str:=["script","k","state","n","parties","order","tree","seating","due","turn","found","<tab>","party"]
theorem zpe:zhF.Nodup:=by decide +kernel
abbrev zhV:List Str:=["script","k","state","n","parties","order","tree","seating","due","turn","found","<tab>","party","guest"]
theorem zoJ:zhV.Nodup:=by decide +kernel
abbrev zhA:List Str:=["script","k","state","n","parties","order","tree","seating","due","turn","found","<tab>","guest"]
theorem zpd:zhA.Nodup:=by decide +kernel
def zkh:DS:=(za4 (zgh (zbO (dFn zin (dA (dC (.int 1)) (dA (dFn zfK (dA (dFn zde (dA (zab 0) dA0)) (dA (dC (.int 8)) dA0))) dA0)))) (zbo 1) (za4 (zcg 2 (zbQ zc3 (dR (zab 0) (dR (zab 1) dR0)))) (za4 (zbg 3 (dOp zbF (dC (.int 1)) (zaf zad (dRO 2 (dR (dC (.int 7)) dR0))))) (za4 (zsu (zhP (dA (zaf zc2 (dRO 2 (dR (zab 3) (dR (dC (.int 8)) dR0)))) (dA (zaf zaV (dRO 2 (dR (zab 3) dR0))) dA0))) (zgi 4 5)) (za4 (zsy 6 7 (dA (zaf (zbf 8) (dRO 2 (dR (zaf zaV (dRO 2 (dR (zab 3) dR0))) dR0))) (dA (zaf zaV (dRO 2 (dR (zab 3) dR0))) dA0))) (za4 (zbg 8 (dFz (zaO (dIt (zab 4)) (zbo 12) dTT (dFn zbn (dA (dFz (zfq zd5 (dA (dFz (zaO (dIt (zab 12)) (zbo 13) dTT (dOp gIx (zab 5) (zab 13)) 1)) dA0))) dA0)) 1))) (za4 (zgh (zbO (dC (.int 2))) (zbo 9) (za4 (zcg 10 (zbQ zat (dR (zab 3) (dR (zab 4) (dR (zab 5) dR0))))) (za4 (dIf (zb0 (dTB (zlV 10 8 (zap 16)))) (zb2 (dC (.bl false))) dNx) (dEx (zer 10 (dC (.int 0))))))) (za4 (dIf (zb0 (dTB (zaf (zap 16) (dR (zaf zbc (dR (zab 3) (dR (zab 7) (dR (zab 5) dR0)))) (dR (dFn zbn (dA (dFz (zaO (dIt (zab 7)) (zbo 12) dTT (dOp gIx (zab 5) (zab 12)) 1)) dA0)) dR0))))) (zb2 (dC (.bl false))) dNx) (za4 (dIf (zb0 (dTB (zaf (zap 16) (dR (zaf zbi (dR (zab 3) (dR (zab 6) (dR (zab 5) dR0)))) (dR (zaf (zbw 8) (dR (zaf (zbP 8) (dR (zab 6) (dR (zab 5) dR0))) dR0)) dR0))))) (zb2 (dC (.bl false))) dNx) (dIf (zb0 (dTB (zaf za9 (dRT 11 (dRO 2 (dR (zab 3) (dR (zab 4) (dR (zab 6) (dR (zab 5) dR0))))))))) (zb2 (dC (.bl false))) dNx)))))))))) (zb2 (dC (.bl true))))
theorem ztP(T:Tx K mg cls){f PT:Addr}{fd:FuncData}(U:Fun K "law" "law" (top 48) f fd)(DT:ztZ P w K mg base (CXe P w) (xvC cls) 38 (Str.ofString "_law_refusals_right") ([true,false,false,false,false] ++ [true]) PT za9):zfl P w K mg base (CXe P w) 41 f fd zs6 (spT K PT (zrL 10 zdV zkh)):=by
  refine zr2 (k:=40) (m:=10) (xt:="<tab>") (xv:=xvC cls) U zfm rfl rfl (by unfold Vis;decide +kernel) fun X C hX hpp hσ0 hxv hnw hr hx hpo=>?_
  obtain ⟨cdv,A,outer,s,H,E,rfl⟩:=hX
  obtain ⟨cG,cH,cw,cpp,cσ,cex,cxv,cnw⟩:=C
  dsimp only at hpp hσ0 hxv hnw
  subst hpp hxv hnw
  have hnw:(false:Bool)=false:=rfl
  exact (zag (by exact (zgT hpo rfl (zcS rfl T.b_range (zrS rfl T.b_max zan (zqx rfl T.b_min (zgI T.b_len (zaa 0)) zan))) (zbr (i:=1) zfm.nd rfl (by first | exact Or.inl rfl | exact Or.inr rfl) (show 1∉([11]:List Nat) by decide)) (zag (by exact (zeA (i:=2) zfm.nd rfl (by first | exact Or.inl rfl | exact Or.inr rfl) (show 2∉([11]:List Nat) by decide) (zmX (zjR T) hr (by omega) hx (zae (zaa 0) (zae (zaa 1) zaq))))) (zag (by exact (zbm (i:=3) zfm.nd rfl (by first | exact Or.inl rfl | exact Or.inr rfl) (show 3∉([11]:List Nat) by decide) (zcI zan (zaB (zaK T) hr (by omega) hx (zbH 2 (zae zan zaq)))))) (zag (by exact (zs0 (zeS (zao (zaB (zhv T) hr (by omega) hx (zbH 2 (zae (zaa 3) (zae zan zaq)))) (zao (zaB (zdr T) hr (by omega) hx (zbH 2 (zae (zaa 3) zaq))) zaF))) (zo6 (i:=4) (j:=5) rfl zfm.nd rfl rfl (by first | exact Or.inl rfl | exact Or.inr rfl) (by first | exact Or.inl rfl | exact Or.inr rfl) (show 4∉([11]:List Nat) by decide) (show 5∉([11]:List Nat) by decide)) (hw:=by kernel_rfl))) (zag (by exact (zsX (i:=6) (j:=7) rfl zfm.nd rfl rfl (by decide) rfl rfl (show 6∉([11]:List Nat) by decide) (show 7∉([11]:List Nat) by decide) (zao (zaB (zgy T 8) hr (by omega) hx (zbH 2 (zae (zaB (zdr T) hr (by omega) hx (zbH 2 (zae (zaa 3) zaq))) zaq))) (zao (zaB (zdr T) hr (by omega) hx (zbH 2 (zae (zaa 3) zaq))) zaF)) (by kernel_rfl))) (zag (by exact (zfJ (i:=8) zfm.nd rfl (by first | exact Or.inl rfl | exact Or.inr rfl) (show 8∉([11]:List Nat) by decide) (zdj (zaa 4)) rfl (N':=zhF) (m:=1) (by kernel_rfl) rfl (zba (by kernel_rfl)) (zbq (by kernel_rfl)) (zbM (by kernel_rfl)) (fun cl L s H fp G H' w σ=>⟨(zbr (i:=12) zpe rfl (by first | exact Or.inl rfl | exact Or.inr rfl) (show 12∉List.range 12 by decide)),zcv,(zcT T.b_tuple (zaD (zlJ rfl T.b_sorted (zaD (zcF (zdj (zaa 12)) rfl (N':=zhV) (m:=1) (by kernel_rfl) rfl (zba (by kernel_rfl)) (zbq (by kernel_rfl)) (zbM (by kernel_rfl)) (fun cl L s H fp G H' w σ=>⟨(zbr (i:=13) zoJ rfl (by first | exact Or.inl rfl | exact Or.inr rfl) (show 13∉List.range 13 by decide)),zcv,(zbU (zaa 5) (zaa 13))⟩))))))⟩))) (zag (by exact (zgT hpo rfl (zcS rfl T.b_range zan) (zbr (i:=9) zfm.nd rfl (by first | exact Or.inl rfl | exact Or.inr rfl) (show 9∉([11]:List Nat) by decide)) (zag (by exact (zeA (i:=10) zfm.nd rfl (by first | exact Or.inl rfl | exact Or.inr rfl) (show 10∉([11]:List Nat) by decide) (zmX (zck T) hr (by omega) hx (zae (zaa 3) (zae (zaa 4) (zae (zaa 5) zaq)))))) (zag (by exact (zbV (zeg (zcq (zqJ 10 8 (zdY T 16) hr (by omega) hx))) (zak (by exact (zaA hnw zf3))) zaP)) (zak (by exact (zci (zg3 10 zan)))))))) (zag (by exact (zbV (zeg (zcq (zaB (zdY T 16) hr (by omega) hx (zae (zaB (ze3 T) hr (by omega) hx (zae (zaa 3) (zae (zaa 7) (zae (zaa 5) zaq)))) (zae (zcT T.b_tuple (zaD (zcF (zdj (zaa 7)) rfl (N':=zhA) (m:=1) (by kernel_rfl) rfl (zba (by kernel_rfl)) (zbq (by kernel_rfl)) (zbM (by kernel_rfl)) (fun cl L s H fp G H' w σ=>⟨(zbr (i:=12) zpd rfl (by first | exact Or.inl rfl | exact Or.inr rfl) (show 12∉List.range 12 by decide)),zcv,(zbU (zaa 5) (zaa 12))⟩)))) zaq))))) (zak (by exact (zaA hnw zf3))) zaP)) (zag (by exact (zbV (zeg (zcq (zaB (zdY T 16) hr (by omega) hx (zae (zaB (zeu T) hr (by omega) hx (zae (zaa 3) (zae (zaa 6) (zae (zaa 5) zaq)))) (zae (zaB (zgb T 8) hr (by omega) hx (zae (zaB (zhK T 8) hr (by omega) hx (zae (zaa 6) (zae (zaa 5) zaq))) zaq)) zaq))))) (zak (by exact (zaA hnw zf3))) zaP)) (zak (by exact (zbV (zeg (zcq (zs3 DT hr (by omega) hx (show 11∈([11]:List Nat) by decide) hσ0 (zbH 2 (zae (zaa 3) (zae (zaa 4) (zae (zaa 6) (zae (zaa 5) zaq)))))))) (zak (by exact (zaA hnw zf3))) zaP))))))))))))) (zak (by exact (zaA hnw zf3))))
end
theorem zkQ{x y:Dt}{bs:List B}:∀{ρ:Ev}{k:Nat},zf0 [.d x,.d y] bs k ρ = ρ
 | [],_=>rfl
 | o :: r,k=>by
  show (match zdO [.d x,.d y] k with | some j=>bs[j]? | none=>o) :: zf0 [.d x,.d y] bs (k + 1) r=_
  rw[zkQ (ρ:=r)];rfl
theorem zdg{F:FD}{fa:De}{ρ ρ':Ev}{d y:Dt}{l:List B}(h:fa ρ = .ok (d,ρ'))(hF:F [.val d] = .ok (y,l)):zaf F (dR fa dR0) ρ = .ok (y,ρ'):=by
 unfold zaf dR dR0
 rw[h]
 simp only[R.bind_ok,zhk,zaU,if_true,za0,hF]
 rw[zlA]
theorem zcP{F:FD}{fa fb:De}{ρ ρ' ρ'':Ev}{d e y:Dt}{l:List B}(h:fa ρ = .ok (d,ρ'))(h2:fb ρ' = .ok (e,ρ''))(hF:F [.val d,.val e] = .ok (y,l)):zaf F (dR fa (dR fb dR0)) ρ = .ok (y,ρ''):=by
 unfold zaf dR dR0
 rw[h]
 simp only[R.bind_ok,h2,zhk,zaU,if_true,za0,hF]
 rw[zkQ]
theorem ziD{i k:Nat}{d:Dt}:zdO [.s i,.d d] k=if i=k then some 0 else none:=by
 unfold zdO zdH
 split <;> rfl
theorem zoe{i:Nat}{d:Dt}{b:B}{bs:List B}:∀{ρ:Ev}{k:Nat},k≤i→zf0 [.s i,.d d] (b :: bs) k ρ = ρ.set (i - k) (some b)
 | [],k,_=>by simp[zf0]
 | o :: r,k,h=>by
  unfold zf0
  rw[ziD]
  by_cases e:i=k
  ·subst e
   simp only[if_true,Nat.sub_self,List.set_cons_zero]
   have:∀(r:Ev)(m:Nat),i < m→zf0 [.s i,.d d] (b :: bs) m r=r:=by
    intro r
    induction r with
    | nil=>intro m _;rfl
    | cons o r ih =>
     intro m hm
     unfold zf0
     rw[ziD,if_neg (by omega),ih (m + 1) (by omega)]
   rw[this r (i + 1) (by omega)];rfl
  ·rw[if_neg e,zoe (k:=k + 1) (by omega)]
   have:i - k=(i - (k + 1)) + 1:=by omega
   rw[this,List.set_cons_succ]
theorem ziY{F:FD}{fb:De}{i:Nat}{ρ:Ev}{d y:Dt}{st st':List Dt}{l:List B}(hi:ρ[i]? = some (some (.own st)))(h:fb ρ = .ok (d,ρ))(hF:F [.own st,.val d] = .ok (y,.own st' :: l)):zaf F (dRO i (dR fb dR0)) ρ = .ok (y,ρ.set i (some (.own st'))):=by
 have u:zhk [.s i,.d d]=true:=by
  unfold zhk zaU
  rw[ziD]
  simp[zaU]
 unfold zaf dRO dR dR0
 simp only[hi,h,R.bind_ok,u,if_true,za0,zjH,hF]
 rw[zoe (Nat.zero_le _)]
 rfl
theorem zar{nw:Bool}{ks:List Bool}{m:Nat}{body:DS}{bs:List B}{d:Dt}{ρ':Ev}{l:List B}(hk:zb5 bs=ks)(hb:body (bs.map some ++ List.replicate m none) = .ok (.rt d,ρ'))(hl:zay ks ρ' = .ok l):zas nw ks m body bs = .ok (d,l):=by
 unfold zas
 rw[if_pos hk,hb]
 simp only[R.bind_ok,hl]
theorem zjL{ks:List Bool}{m:Nat}{body:DS}{bs:List B}{ρ':Ev}{l:List B}(hk:zb5 bs=ks)(hb:body (bs.map some ++ List.replicate m none) = .ok (.nx,ρ'))(hl:zay ks ρ' = .ok l):zas false ks m body bs = .ok (.non,l):=by
 unfold zas
 rw[if_pos hk,hb]
 simp only[R.bind_ok,hl]
 rfl
def St(st:List Dt):Prop:=∃ s b,st=[.int s,.bl b]
theorem zbl{st:List Dt}{m:Int}(h:St st)(h0:0 < m)(h1:m < 1073741824):∃(v:Int)(st':List Dt),zad [.own st,.val (.int m)] = .ok (.int v,[.own st',.val .non])∧St st'∧0≤v∧v < m:=by
 obtain ⟨s,b,rfl⟩:=h
 cases b with
 | true =>
  refine ⟨s % m,[.int (s / m),.bl true],?_,⟨_,_,rfl⟩,Int.emod_nonneg _ (by omega),Int.emod_lt_of_pos _ h0⟩
  unfold zad zas zeX
  simp[zb5,zjH,za4,dIf,dTB,zn8,dC,atI,ixN,zbg,dOp,zlX,zab,znu,zpB,zb2,zay,h0,h1]
 | false =>
  have e1:∃ a,(s * 48271 + 29) % 2147483647=a∧0≤a∧a < 2147483647:=⟨_,rfl,Int.emod_nonneg _ (by decide),Int.emod_lt_of_pos _ (by decide)⟩
  obtain ⟨a,ea,a0,a1⟩:=e1
  have e2:∃ c,(a * a + 39373 * a + 7) % 2147483629=c∧0≤c∧c < 2147483629:=⟨_,rfl,Int.emod_nonneg _ (by decide),Int.emod_lt_of_pos _ (by decide)⟩
  obtain ⟨c,ec,c0,c1⟩:=e2
  have sa:zdd a=true:=by unfold zdd;simp;omega
  have sc:zdd c=true:=by unfold zdd;simp;omega
  have s1:zdd 48271=true:=by decide
  have s2:zdd 39373=true:=by decide
  have s3:zdd 16807=true:=by decide
  refine ⟨(c * c + 16807 * c) % 2147483587 / 8 % m,[.int a,.bl false],?_,⟨_,_,rfl⟩,Int.emod_nonneg _ (by omega),Int.emod_lt_of_pos _ h0⟩
  unfold zad zas zeX
  simp[zb5,zjH,za4,dIf,dTB,zn8,dC,atI,ixN,zbg,dOp,zlX,zng,zbF,zab,znu,zpB,zb2,dNx,zay,h0,h1,ea,ec,sa,sc,s1,s2,s3]
theorem zfy:∀(n:Nat)(d:Dt),okN n d=true→okN (n + 1) d=true
 | _,.non,_=>by simp[okN]
 | _,.bl _,_=>by simp[okN]
 | _,.int _,_=>by simp[okN]
 | n,.str x,h=>by cases n <;> simpa [okN] using h
 | 0,.tup l,h=>by simp[okN] at h
 | 0,.lst l,h=>by simp[okN] at h
 | n + 1,.tup l,h=>by
  simp only[okN,List.all_eq_true] at h ⊢
  exact fun d hd=>zfy n d (h d hd)
 | n + 1,.lst l,h=>by
  simp only[okN,List.all_eq_true] at h ⊢
  exact fun d hd=>zfy n d (h d hd)
 | n,.dct,h=>by cases n <;> simp[okN] at h
 | n,.scr _,h=>by cases n <;> simp[okN] at h
theorem zsk{n m:Nat}{d:Dt}(h:okN n d=true)(hl:n≤m):okN m d=true:=by
 induction hl with
 | refl=>exact h
 | step _ ih=>exact zfy _ _ ih
theorem znx{n:Nat}{v:Int}(h0:0≤v)(h1:v < n):ixN n v=some v.toNat:=by
 unfold ixN
 rw[if_pos h0,if_pos h1]
theorem zh5{α:Type}:∀{l:List α}{j:Nat}{d:α},l[j]? = some d→(d :: l.eraseIdx j).Perm l
 | [],_,_,h=>by simp at h
 | a :: l,0,d,h=>by simp at h;subst h;exact .refl _
 | a :: l,j + 1,d,h=>by
  have:=zh5 (l:=l) (j:=j) (d:=d) (by simpa using h)
  exact (List.Perm.swap a d _).trans (this.cons a)
theorem zdt{neg:Bool}{x y:Dt}(h1:okN 60 x=true)(h2:okN 60 y=true):gEq neg x y = .ok (.bl (if neg then !eqD x y else eqD x y)):=by
 unfold gEq
 rw[h1,h2];rfl
theorem zj7{d:Dt}{l:List Dt}:eqD (.lst (d :: l)) (.lst [])=false:=by rw[eqD];simp[zgp]
theorem zk1:eqD (.lst []) (.lst [])=true:=by rw[eqD,zgp]
theorem zsj{st found l:List Dt}{o:Option B}{b:Bool}(h:okN 60 (.lst l)=true)(e:(!eqD (.lst l) (.lst []))=b):dTB (zrJ true 2 (dFz (zdl dA0))) [some (.own st),o,some (.own l),some (.own found)] = .ok (b,[some (.own st),o,some (.own l),some (.own found)]):=by
 show (((gEq true (.lst l) (.lst [])).bind fun z=>.ok (z,[some (.own st),o,some (.own l),some (.own found)])).bind fun (a:Dt × Ev)=>match a.1 with | .bl b=>.ok (b,a.2) | _=>.no)=_
 rw[zdt h rfl]
 simp only[if_true,e]
 rfl
theorem zhS{things:Option B}:∀(n:Nat)(left found:List Dt)(st:List Dt),left.length < n→left.length + found.length≤1000→(∀ d∈left,okN 59 d=true)→St st→∃ st' p,St st'∧p.Perm left ∧
  zek (dTB (zrJ true 2 (dFz (zdl dA0)))) (dEx (zer 3 (zhQ 2 (zaf zad (dRO 0 (dR (zm7 2) dR0)))))) n [some (.own st),things,some (.own left),some (.own found)] = .ok (.nx,[some (.own st'),things,some (.own []),some (.own (found ++ p))])
 | 0,left,found,st,h,_,_,_=>absurd h (Nat.not_lt_zero _)
 | n + 1,[],found,st,h,hl,hk,hs=>by
  refine ⟨st,[],hs,.refl _,?_⟩
  unfold zek
  rw[zsj (b:=false) rfl (by rw[zk1];rfl)]
  simp
 | n + 1,d :: left,found,st,h,hl,hk,hs=>by
  obtain ⟨v,st1,e,hs1,v0,v1⟩:=zbl (m:=((d :: left).length:Nat)) hs (by simp only[List.length_cons];omega) (by simp only[List.length_cons] at hl ⊢;omega)
  have hv:v.toNat < (d :: left).length:=by omega
  have hget:(d :: left)[v.toNat]? = some (d :: left)[v.toNat]:=by simp[hv]
  have hel:=zh5 hget
  have hlen:((d :: left).eraseIdx v.toNat).length=left.length:=by
   have:=hel.length_eq
   simp only[List.length_cons] at this
   omega
  obtain ⟨st',p,hs',hp,hw⟩:=zhS (things:=things) n ((d :: left).eraseIdx v.toNat) (found ++ [(d :: left)[v.toNat]]) st1 (by simp only[List.length_cons] at h;omega) (by simp only[List.length_append,List.length_cons,List.length_nil] at hl ⊢;omega)
   (fun x hx=>hk x (hel.mem_iff.mp (List.mem_cons_of_mem _ hx))) hs1
  refine ⟨st',(d :: left)[v.toNat] :: p,hs',((hp.cons _).trans hel),?_⟩
  have hall:((d :: left).all (okN 59))=true:=List.all_eq_true.mpr hk
  have ec:zaf zad (dRO 0 (dR (zm7 2) dR0)) [some (.own st),things,some (.own (d :: left)),some (.own found)] = .ok (.int v,[some (.own st1),things,some (.own (d :: left)),some (.own found)]):=ziY (ρ:=[some (.own st),things,some (.own (d :: left)),some (.own found)]) rfl rfl e
  have hm:zeY v=true:=by unfold zeY;simp;simp only[List.length_cons] at hl v1;omega
  unfold zek
  have t1:=zsj (st:=st) (found:=found) (l:=d :: left) (o:=things) (b:=true) (show okN 60 (.lst (d :: left))=true from hall) (by rw[zj7];rfl)
  rw[t1]
  simp only[R.bind_ok,if_true]
  have t2:dEx (zer 3 (zhQ 2 (zaf zad (dRO 0 (dR (zm7 2) dR0))))) [some (.own st),things,some (.own (d :: left)),some (.own found)] = .ok (.nx,[some (.own st1),things,some (.own ((d :: left).eraseIdx v.toNat)),some (.own (found ++ [(d :: left)[v.toNat]]))]):=by
   have hpop:zp0 (d :: left) v=some ((d :: left)[v.toNat],(d :: left).eraseIdx v.toNat):=by
    unfold zp0
    rw[if_pos hm,znx v0 v1]
    simp only[hget]
   unfold dEx zer zhQ
   simp only[List.getElem?_cons_succ,List.getElem?_cons_zero,ec,R.bind_ok,hpop,List.set_cons_succ,List.set_cons_zero]
   rw[if_pos (by omega)]
   rfl
  rw[t2]
  simp only[R.bind_ok]
  rw[hw]
  simp
theorem zaz{g:Dt→Dt→R Dt}{fa fb:De}{ρ ρ1 ρ2:Ev}{d e z:Dt}(h1:fa ρ = .ok (d,ρ1))(h2:fb ρ1 = .ok (e,ρ2))(h3:g d e = .ok z):dOp g fa fb ρ = .ok (z,ρ2):=by
 unfold dOp
 rw[h1]
 simp only[R.bind_ok,h2,h3]
theorem zbd{f:De}{ρ ρ1:Ev}{b:Bool}(h:f ρ = .ok (.bl b,ρ1)):dTB f ρ = .ok (b,ρ1):=by
 unfold dTB
 rw[h];rfl
theorem zev{c:DT}{f g:DS}{ρ ρ1:Ev}(h:c ρ = .ok (true,ρ1)):dIf c f g ρ=f ρ1:=by
 unfold dIf
 rw[h];rfl
theorem zcH{c:DT}{f g:DS}{ρ ρ1:Ev}(h:c ρ = .ok (false,ρ1)):dIf c f g ρ=g ρ1:=by
 unfold dIf
 rw[h];rfl
theorem zal{f g:DS}{ρ ρ1:Ev}(h:f ρ = .ok (.nx,ρ1)):za4 f g ρ=g ρ1:=by
 unfold za4
 rw[h];rfl
theorem zdx{f g:DS}{ρ ρ1:Ev}{d:Dt}(h:f ρ = .ok (.rt d,ρ1)):za4 f g ρ = .ok (.rt d,ρ1):=by
 unfold za4
 rw[h];rfl
theorem zb3{f:De}{ρ ρ1:Ev}{d:Dt}(h:f ρ = .ok (d,ρ1)):zb2 f ρ = .ok (.rt d,ρ1):=by
 unfold zb2
 rw[h];rfl
theorem zby{f:De}{i:Nat}{ρ ρ1:Ev}{d:Dt}(h:f ρ = .ok (d,ρ1))(hi:i < ρ1.length):zbg i f ρ = .ok (.nx,ρ1.set i (some (.val d))):=by
 unfold zbg
 rw[h]
 simp only[R.bind_ok,hi,if_true]
theorem zgt{f:DN}{i:Nat}{ρ ρ1:Ev}{d:List Dt}(h:f ρ = .ok (d,ρ1))(hi:i < ρ1.length):zcg i f ρ = .ok (.nx,ρ1.set i (some (.own d))):=by
 unfold zcg
 rw[h]
 simp only[R.bind_ok,hi,if_true]
theorem zb1{f:DN}{ρ ρ1:Ev}{d:List Dt}(h:f ρ = .ok (d,ρ1)):dFz f ρ = .ok (.lst d,ρ1):=by
 unfold dFz
 rw[h];rfl
theorem zei{f:De}{ρ ρ1:Ev}{d:Dt}(h:f ρ = .ok (d,ρ1)):dEx f ρ = .ok (.nx,ρ1):=by
 unfold dEx
 rw[h];rfl
theorem zcp{g:List Dt→R Dt}{f:De}{ρ ρ1:Ev}{d z:Dt}(h:f ρ = .ok (d,ρ1))(hg:g [d] = .ok z):dFn g (dA f dA0) ρ = .ok (z,ρ1):=by
 unfold dFn dA dA0
 rw[h]
 simp only[R.bind_ok,hg]
theorem zjX{f g:DT}{ρ ρ1:Ev}(h:f ρ = .ok (false,ρ1)):zk6 f g ρ=g ρ1:=by
 unfold zk6
 rw[h];rfl
theorem zqq{f g:DT}{ρ ρ1:Ev}(h:f ρ = .ok (true,ρ1)):zk6 f g ρ = .ok (true,ρ1):=by
 unfold zk6
 rw[h];rfl
theorem zgB{f g:DT}{ρ ρ1:Ev}(h:f ρ = .ok (true,ρ1)):zfu f g ρ=g ρ1:=by
 unfold zfu
 rw[h];rfl
theorem zkd{f g:DT}{ρ ρ1:Ev}(h:f ρ = .ok (false,ρ1)):zfu f g ρ = .ok (false,ρ1):=by
 unfold zfu
 rw[h];rfl
theorem zds{f:DT}{ρ ρ1:Ev}{b:Bool}(h:f ρ = .ok (b,ρ1)):zb0 f ρ = .ok (!b,ρ1):=by
 unfold zb0
 rw[h];rfl
theorem zq4{ρ0:Ev}{o:Option B}{d:Dt}:zbo ρ0.length d (ρ0 ++ [o]) = .ok (ρ0 ++ [some (.val d)]):=by
 unfold zbo
 rw[if_pos (by simp)]
 simp
theorem ziZ{α:Type}{u f:α→Dt}{fe:De}{ρ0:Ev}:∀{l:List α}{o:Option B},(∀ a∈l,fe (ρ0 ++ [some (.val (u a))]) = .ok (f a,ρ0 ++ [some (.val (u a))]))→∃ o',zbA (zbo ρ0.length) dTT fe (l.map u) (ρ0 ++ [o]) = .ok (l.map f,ρ0 ++ [o'])
 | [],o,_=>⟨o,rfl⟩
 | a :: l,o,h=>by
  obtain ⟨o',e⟩:=ziZ (l:=l) (o:=some (.val (u a))) fun b hb=>h b (by simp[hb])
  refine ⟨o',?_⟩
  rw[List.map_cons,zbA,zq4]
  simp only[R.bind_ok,dTT,if_true]
  rw[h a (by simp)]
  simp only[R.bind_ok]
  rw[e]
  rfl
theorem zbu{α:Type}{u f:α→Dt}{fe:De}{ρ0:Ev}{fi:DA}{l:List α}{ds:List Dt}(hi:fi ρ0 = .ok (ds,ρ0))(hd:ds=l.map u)(hl:l.length≤1000)(h:∀ a∈l,fe (ρ0 ++ [some (.val (u a))]) = .ok (f a,ρ0 ++ [some (.val (u a))])){j:Nat}(hj:j = ρ0.length) :
  zaO fi (zbo j) dTT fe 1 ρ0 = .ok (l.map f,ρ0):=by
 subst hd;subst hj
 obtain ⟨o',e⟩:=ziZ (o:=none) h
 unfold zaO
 rw[hi]
 simp only[R.bind_ok]
 rw[if_pos (by unfold zem;simp;omega)]
 show (match zbA (zbo ρ0.length) dTT fe (l.map u) (ρ0 ++ [none]) with | .ok z=>R.ok (z.1,z.2.take ρ0.length) | _=>.no)=_
 rw[e]
 simp
theorem zl1{α:Type}{a:α}{l:List α}:atI (a :: l) 0=some a:=by
 unfold atI ixN
 simp
theorem eqI{a b:Int}:eqD (.int a) (.int b)=(a == b):=by rw[eqD]
theorem zsr{F:FD}{fb:De}{i:Nat}{ρ ρ1:Ev}{d y:Dt}{b0:B}{st st':List Dt}{l:List B}(hi0:ρ[i]? = some (some b0))(h:fb ρ = .ok (d,ρ1))(hi:ρ1[i]? = some (some (.own st)))(hF:F [.own st,.val d] = .ok (y,.own st' :: l)):zaf F (dRO i (dR fb dR0)) ρ = .ok (y,ρ1.set i (some (.own st'))):=by
 have u:zhk [.s i,.d d]=true:=by
  unfold zhk zaU
  rw[ziD]
  simp[zaU]
 unfold zaf dRO dR dR0
 simp only[hi0,h,R.bind_ok,u,if_true,za0,hi,zjH,hF]
 rw[zoe (Nat.zero_le _)]
 rfl
theorem zla{x:Option B}{zch:Ev}{o:Option B}{d:Dt}:zbo (zch.length + 1) d (x :: (zch ++ [o])) = .ok (x :: (zch ++ [some (.val d)])):=by
 unfold zbo
 rw[if_pos (by simp)]
 simp
theorem zjO{p:List Dt}{l:List Int}(h:p.Perm (l.map .int)):∃ q:List Int,q.Perm l∧p=q.map .int:=by
 refine ⟨p.map fun d=>match d with | .int i=>i | _=>0,?_,?_⟩
 ·have:=h.map fun d=>match d with | .int i=>i | _=>0
  rw[List.map_map] at this
  have e:((fun d=>match d with | .int i=>i | _=>0) ∘ Dt.int)=(id:Int→Int):=rfl
  rw[e,List.map_id] at this
  exact this
 ·rw[List.map_map]
  conv=>lhs;rw[← List.map_id p]
  refine List.map_congr_left fun d hd=>?_
  obtain ⟨i,_,rfl⟩:=List.mem_map.mp (h.mem_iff.mp hd)
  rfl
def isW:Dt→Bool
 | .int _=>true
 | _=>false
theorem zfS(d:Dt):zce [.val d] = .ok (.bl (isW d),[.val .non]):=by
 cases d <;> simp[zce,zas,zhT,zb5,zjH,zb2,zjf,ze2,zab,ztx,zhE,tyD,zay,isW]
theorem ziC{n:Int}(h1:1≤n)(h7:n≤7):za2 [.val (.int n)] = .ok (.non,[.val .non]):=by
 have e:zaf zce (dR (zab 0) dR0) [some (.val (.int n))] = .ok (.bl true,[some (.val (.int n))]):=zdg (ρ':=[some (.val (.int n))]) rfl (zfS _)
 have a1:decide (n < 1)=false:=by simp;omega
 have a2:decide (7 < n)=false:=by simp;omega
 simp[za2,zas,zbT,zb5,zjH,dIf,zk6,zb0,dTB,e,dOp,zab,dC,zmB,a1,a2,dNx,zay]
theorem zjN{d:Dt}(h:isW d=false∨∃ n,d = .int n∧(n < 1∨7 < n)):za2 [.val d] = .er 0:=by
 have e:zaf zce (dR (zab 0) dR0) [some (.val d)] = .ok (.bl (isW d),[some (.val d)]):=zdg (ρ':=[some (.val d)]) rfl (zfS _)
 rcases h with h | ⟨n,rfl,h⟩
 ·simp[za2,zas,zbT,zb5,zjH,dIf,zk6,zb0,dTB,e,h,zgD,dA,dC,dA0,zem]
 ·have hw:isW (.int n)=true:=rfl
  by_cases h1:n < 1
  ·simp[za2,zas,zbT,zb5,zjH,dIf,zk6,zb0,dTB,e,hw,dOp,zab,dC,zmB,h1,zgD,dA,dA0,zem]
  ·have h7:7 < n:=by omega
   simp[za2,zas,zbT,zb5,zjH,dIf,zk6,zb0,dTB,e,hw,dOp,zab,dC,zmB,h1,h7,zgD,dA,dA0,zem]
def isG(n:Int):Dt→Bool
 | .int i=>decide (0≤i) && decide (i < n)
 | _=>false
theorem zmC(n:Int)(d:Dt):zcw [.val (.int n),.val d] = .ok (.bl (isG n d),[.val .non,.val .non]):=by
 have e:zaf zce (dR (zab 1) dR0) [some (.val (.int n)),some (.val d)] = .ok (.bl (isW d),[some (.val (.int n)),some (.val d)]):=zdg (ρ':=[some (.val (.int n)),some (.val d)]) rfl (zfS _)
 cases d with
 | int i =>
  by_cases h:0≤i
  ·simp[zcw,zas,zeH,zb5,zjH,zb2,zjf,e,isW,zjY,dC,zab,zmB,h,isG,zay]
  ·simp[zcw,zas,zeH,zb5,zjH,zb2,zjf,e,isW,zjY,dC,zab,zmB,h,isG,zay]
 | _=>simp[zcw,zas,zeH,zb5,zjH,zb2,zjf,e,isW,isG,zay]
theorem ztz{neg:Bool}{i j:Int}:gEq neg (.int i) (.int j) = .ok (.bl (if neg then !(i == j) else (i == j))):=by
 rw[zdt rfl rfl,eqI]
theorem zpk{ρ0:Ev}{o:Option B}{d:Dt}:zbo ρ0.length d (ρ0 ++ [o]) = .ok (ρ0 ++ [some (.val d)]):=by
 unfold zbo
 rw[if_pos (by simp)]
 simp
theorem zlx:∀ a b:List Int,zgp (a.map .int) (b.map .int)=(a == b)
 | [],[]=>by rw[List.map_nil,zgp];rfl
 | [],b :: r=>by rw[List.map_nil,List.map_cons,zgp];rfl;all_goals (intros;simp at *)
 | a :: r,[]=>by rw[List.map_nil,List.map_cons,zgp];rfl;all_goals (intros;simp at *)
 | a :: r,b :: q=>by rw[List.map_cons,List.map_cons,zgp,eqI,zlx r q];rfl
theorem zlP(l:List Int)(n:Nat):okN (n + 1) (.lst (l.map .int))=true:=by
 simp[okN]
def zaL(n:Nat):List Int:=(List.range n).map fun (k:Nat)=>(k:Int)
theorem zlt(n:Nat):zbh 0 n=(zaL n).map .int:=by
 unfold zbh zaL
 rw[List.map_map]
 refine List.map_congr_left fun k _=>?_
 simp
theorem zeJ:∀(a b:List Int),a.Nodup→(∀ x∈a,x∈b)→b.length≤a.length→a.Perm b
 | [],b,_,_,h=>by
  have:b=[]:=List.length_eq_zero_iff.mp (by simpa using h)
  subst this;exact .refl _
 | x :: a,b,hn,hs,hl=>by
  rw[List.nodup_cons] at hn
  have hx:x∈b:=hs x (by simp)
  have hp:=List.perm_cons_erase hx
  have hlen:=hp.length_eq
  simp only[List.length_cons] at hlen hl
  have:=zeJ a (b.erase x) hn.2 (fun y hy=>(List.mem_erase_of_ne (fun (e:y=x)=>hn.1 (e ▸ hy))).mpr (hs y (by simp[hy]))) (by omega)
  exact (this.cons x).trans hp.symm
theorem zb4{n:Nat}{x:Int}:x∈zaL n ↔ 0≤x∧x < n:=by
 unfold zaL
 rw[List.mem_map]
 constructor
 ·rintro ⟨k,hk,rfl⟩
  have:=List.mem_range.mp hk
  omega
 ·rintro ⟨h0,h1⟩
  exact ⟨x.toNat,List.mem_range.mpr (by omega),by omega⟩
theorem zaG(n:Nat):(zaL n).length=n:=by unfold zaL;simp
theorem zmd(n:Nat):(zaL n).Pairwise (· ≤ ·):=by
 unfold zaL
 rw[List.pairwise_map]
 refine List.Pairwise.imp (R:=fun a b=>a < b) (fun {a b} h=>by omega) List.pairwise_lt_range
theorem zcf(n:Nat):(zaL n).Nodup:=by
 unfold zaL
 unfold List.Nodup
 rw[List.pairwise_map]
 refine List.Pairwise.imp (R:=fun a b=>a < b) (fun {a b} h=>by omega) List.pairwise_lt_range
theorem zm9{n:Nat}{l:List Int}:zbt l=zaL n ↔ l.Nodup∧(∀ x∈l,0≤x∧x < n)∧l.length=n:=by
 constructor
 ·intro h
  have hp:l.Perm (zaL n):=by rw[← h];exact (zbj l).symm
  exact ⟨hp.nodup_iff.mpr (zcf n),fun x hx=>zb4.mp (hp.mem_iff.mp hx),by rw[hp.length_eq,zaG]⟩
 ·rintro ⟨h1,h2,h3⟩
  have hp:l.Perm (zaL n):=zeJ _ _ h1 (fun x hx=>zb4.mpr (h2 x hx)) (by rw[zaG];omega)
  exact W.lks_uniq ((zbj l).trans hp) (zdA l) (zmd n)
theorem ziG{α:Type}{l:List α}{v:Int}(h0:0≤v)(h1:v < l.length):atI l v=l[v.toNat]? := by
 unfold atI
 rw[znx h0 h1];rfl
theorem zi6{l:List Dt}{v:Int}{d:Dt}(h0:0≤v)(h1:v < l.length)(hd:l[v.toNat]? = some d):gIx (.tup l) (.int v) = .ok d:=by
 unfold gIx
 simp only[ziG h0 h1,hd]
theorem zkK{l:List Dt}{v:Int}{d:Dt}(h0:0≤v)(h1:v < l.length)(hd:l[v.toNat]? = some d):gIx (.lst l) (.int v) = .ok d:=by
 unfold gIx
 simp only[ziG h0 h1,hd]
theorem zsv{F:FD}{fb fc:De}{i:Nat}{ρ:Ev}{d d2 y:Dt}{st st':List Dt}{l:List B}(hi:ρ[i]? = some (some (.own st)))(h:fb ρ = .ok (d,ρ))(h2:fc ρ = .ok (d2,ρ))(hF:F [.own st,.val d,.val d2] = .ok (y,.own st' :: l)):zaf F (dRO i (dR fb (dR fc dR0))) ρ = .ok (y,ρ.set i (some (.own st'))):=by
 have hp:∀ k,zdO [.s i,.d d,.d d2] k=if i=k then some 0 else none:=by
  intro k
  unfold zdO zdH
  split <;> rfl
 have u:zhk [.s i,.d d,.d d2]=true:=by
  unfold zhk zaU
  rw[hp]
  simp[zaU]
 have hput:∀(ρ:Ev)(k:Nat)(b:B)(bs:List B),k≤i→zf0 [.s i,.d d,.d d2] (b :: bs) k ρ = ρ.set (i - k) (some b):=by
  intro ρ
  induction ρ with
  | nil=>intro k b bs _;simp[zf0]
  | cons o r ih =>
   intro k b bs h
   unfold zf0
   rw[hp]
   by_cases e:i=k
   ·subst e
    simp only[if_true,Nat.sub_self,List.set_cons_zero]
    have:∀(r:Ev)(m:Nat),i < m→zf0 [.s i,.d d,.d d2] (b :: bs) m r=r:=by
     intro r
     induction r with
     | nil=>intro m _;rfl
     | cons o r ih =>
      intro m hm
      unfold zf0
      rw[hp,if_neg (by omega),ih (m + 1) (by omega)]
    rw[this r (i + 1) (by omega)];rfl
   ·rw[if_neg e,ih (k + 1) b bs (by omega)]
    have:i - k=(i - (k + 1)) + 1:=by omega
    rw[this,List.set_cons_succ]
 unfold zaf dRO dR dR0
 simp only[hi,h,h2,R.bind_ok,u,if_true,za0,zjH,hF]
 rw[hput _ _ _ _ (Nat.zero_le _)]
 rfl
theorem zcs{fa:De}{fr:DA}{ρ ρ1 ρ2:Ev}{d:Dt}{ds:List Dt}(h1:fa ρ = .ok (d,ρ1))(h2:fr ρ1 = .ok (ds,ρ2)):dA fa fr ρ = .ok (d :: ds,ρ2):=by
 unfold dA
 rw[h1];simp only[R.bind_ok]
 rw[h2];rfl
theorem zn0{f:DA}{ρ ρ1:Ev}{ds:List Dt}(h:f ρ = .ok (ds,ρ1))(hl:ds.length≤16777216):zdl f ρ = .ok (ds,ρ1):=by
 unfold zdl
 rw[h];simp only[R.bind_ok]
 rw[if_pos (by unfold zem;simpa using hl)]
theorem zfj{f:DA}{ρ ρ1:Ev}{ds:List Dt}(h:f ρ = .ok (ds,ρ1))(hl:ds.length≤16777216):zhP f ρ = .ok (.tup ds,ρ1):=by
 unfold zhP
 rw[h];simp only[R.bind_ok]
 rw[if_pos (by unfold zem;simpa using hl)]
theorem zo1{ns:List Int}{k:Nat}:∃ c:Int,zc0 [.val (.scr ns),.val (.int k)] = .ok (.int c,[.val .non,.val .non]):=by
 have e0:dTB (dOp gLt (zab 1) (dFn zde (dA (zab 0) dA0))) [some (.val (.scr ns)),some (.val (.int k))] = .ok (decide ((k:Int) < ns.length),[some (.val (.scr ns)),some (.val (.int k))]):=zbd (zaz (d:=.int k) (e:=.int ns.length) rfl rfl rfl)
 by_cases h:k < ns.length
 ·refine ⟨ns[k],zar (ρ':=[some (.val (.scr ns)),some (.val (.int k))]) rfl ?_ rfl⟩
  show zbW [some (.val (.scr ns)),some (.val (.int k))]=_
  unfold zbW
  refine zdx ?_
  rw[zev (by rw[e0,decide_eq_true (by omega)])]
  refine zb3 (zaz (d:=.scr ns) (e:=.int k) rfl rfl ?_)
  unfold gIx
  simp only[ziG (l:=ns) (v:=(k:Int)) (by omega) (by omega),Int.toNat_natCast,List.getElem?_eq_getElem h]
 ·refine ⟨0,zar (ρ':=[some (.val (.scr ns)),some (.val (.int k))]) rfl ?_ rfl⟩
  show zbW [some (.val (.scr ns)),some (.val (.int k))]=_
  unfold zbW
  rw[zal (ρ1:=[some (.val (.scr ns)),some (.val (.int k))]) (by rw[zcH (by rw[e0,decide_eq_false (by omega)])];rfl)]
  rfl
theorem zmI{ns:List Int}{k:Nat}:∃ st,St st∧zc3 [.val (.scr ns),.val (.int k)] = .ok (.lst st,[.val .non,.val .non]):=by
 obtain ⟨c,hc⟩:=zo1 (ns:=ns) (k:=k)
 have e1:zbg 2 (zaf zc0 (dR (zab 0) (dR (zab 1) dR0))) [some (.val (.scr ns)),some (.val (.int k)),none] = .ok (.nx,[some (.val (.scr ns)),some (.val (.int k)),some (.val (.int c))]):=zby (zcP (ρ':=[some (.val (.scr ns)),some (.val (.int k)),none]) (ρ'':=[some (.val (.scr ns)),some (.val (.int k)),none]) rfl rfl hc) (by simp)
 have ep:dOp zpP (dC (.int 10)) (dC (.int 18)) [some (.val (.scr ns)),some (.val (.int k)),some (.val (.int c))] = .ok (.int 1000000000000000000,[some (.val (.scr ns)),some (.val (.int k)),some (.val (.int c))]):=by
  refine zaz rfl rfl ?_
  show (if 0≤(18:Int)∧(18:Int)≤1000∧(10:Int).natAbs < 18446744073709551616 then R.ok (Dt.int ((10:Int) ^ (18:Int).toNat)) else R.no)=_
  rw[if_pos (by decide)]
  rfl
 have e2:dTB (dOp gGe (zab 2) (dOp zpP (dC (.int 10)) (dC (.int 18)))) [some (.val (.scr ns)),some (.val (.int k)),some (.val (.int c))] = .ok (decide ((1000000000000000000:Int)≤c),[some (.val (.scr ns)),some (.val (.int k)),some (.val (.int c))]):=zbd (zaz (d:=.int c) rfl ep rfl)
 by_cases h:(1000000000000000000:Int)≤c
 ·refine ⟨[.int (c - 1000000000000000000),.bl true],⟨_,_,rfl⟩,zar (ρ':=[some (.val (.scr ns)),some (.val (.int k)),some (.val (.int c))]) rfl ?_ rfl⟩
  show zc6 [some (.val (.scr ns)),some (.val (.int k)),none]=_
  unfold zc6
  rw[zal e1]
  refine zdx ?_
  rw[zev (by rw[e2,decide_eq_true h])]
  unfold zeN zdl
  rw[dA,zaz (d:=.int c) (z:=.int (c - 1000000000000000000)) rfl ep rfl]
  rfl
 ·refine ⟨[.int (c % 2147483647),.bl false],⟨_,_,rfl⟩,zar (ρ':=[some (.val (.scr ns)),some (.val (.int k)),some (.val (.int c))]) rfl ?_ rfl⟩
  show zc6 [some (.val (.scr ns)),some (.val (.int k)),none]=_
  unfold zc6
  rw[zal e1,zal (ρ1:=[some (.val (.scr ns)),some (.val (.int k)),some (.val (.int c))]) (by rw[zcH (by rw[e2,decide_eq_false h])];rfl)]
  unfold zeN zdl
  rw[dA,zaz (d:=.int c) (z:=.int (c % 2147483647)) rfl rfl rfl]
  rfl
theorem zs1{F:FD}{fa fb:De}{ρ ρ' ρ'':Ev}{d e:Dt}{y:List Dt}{l:List B}(h:fa ρ = .ok (d,ρ'))(h2:fb ρ' = .ok (e,ρ''))(hF:F [.val d,.val e] = .ok (.lst y,l)):zbQ F (dR fa (dR fb dR0)) ρ = .ok (y,ρ''):=by
 unfold zbQ dR dR0
 rw[h]
 simp only[R.bind_ok,h2,zhk,zaU,if_true,za0,hF]
 rw[zkQ]
theorem zif{g:DG}{body:DS}{I:Ev→Prop}:∀{ds:List Dt}{ρ:Ev},(∀ d∈ds,∀ ρ,I ρ→∃ ρ1 ρ2,g d ρ = .ok ρ1∧body ρ1 = .ok (.nx,ρ2)∧I ρ2)→I ρ→∃ ρ',I ρ'∧ziB g body ds ρ = .ok (.nx,ρ')
 | [],ρ,_,h=>⟨ρ,h,rfl⟩
 | d :: ds,ρ,hb,h=>by
  obtain ⟨ρ1,ρ2,e1,e2,h2⟩:=hb d (by simp) ρ h
  obtain ⟨ρ',h',e⟩:=zif (ds:=ds) (ρ:=ρ2) (fun c hc=>hb c (List.mem_cons_of_mem _ hc)) h2
  refine ⟨ρ',h',?_⟩
  rw[ziB,e1]
  simp only[R.bind_ok]
  rw[e2]
  exact e
theorem zdp{F:FD}{fa fb:De}{ρ ρ' ρ'':Ev}{d e:Dt}{n:Nat}(h:fa ρ = .ok (d,ρ'))(h2:fb ρ' = .ok (e,ρ''))(hF:F [.val d,.val e] = .er n):zaf F (dR fa (dR fb dR0)) ρ = .er n:=by
 unfold zaf dR dR0
 rw[h]
 simp only[R.bind_ok,h2,zhk,zaU,if_true,za0,hF,R.bind_er]
def tz(p:List Int):Dt:=.tup (p.map .int)
theorem zcC(l:List Int)(n:Nat):(l.map Dt.int).all (okN n)=true:=by
 rw[List.all_eq_true]
 intro d hd
 obtain ⟨i,_,rfl⟩:=List.mem_map.mp hd
 cases n <;> rfl
theorem zrG{α:Type}{l:List α}{f m:Nat}(h:f≤l.length):zgO l (some (f:Int)) (some ((f:Int) + m))=(l.drop f).take m:=by
 unfold zgO
 rw[show (f:Int) + m=((f + m:Nat):Int) from rfl,HT.sIx_nat,HT.sIx_nat,Nat.min_eq_left h]
 by_cases z:f + m≤l.length
 ·rw[Nat.min_eq_left z,show f + m - f=m by omega]
 ·rw[Nat.min_eq_right (by omega),List.take_of_length_le (by simp),List.take_of_length_le (by simp;omega)]
theorem znq{m:Nat}(hm:m≤1000):zeY (m:Int)=true:=by
 unfold zeY
 rw[Bool.and_eq_true,decide_eq_true_eq,decide_eq_true_eq]
 omega
def Pty(n:Nat)(p:List Int):Prop:=p≠[]∧p.Pairwise (· < ·)∧∀ x∈p,0≤x∧x < n
theorem zlz{ft:DT}{zch:Ev}:∀{l:List Dt}{st:List Dt}{o:Option B},(∀ d∈l,∀ st,St st→∃ b st',St st'∧ft (some (.own st) :: (zch ++ [some (.val d)])) = .ok (b,some (.own st') :: (zch ++ [some (.val d)])))→St st →
  ∃ ys st' o',St st'∧ys.Sublist l∧zbA (zbo (zch.length + 1)) ft (zab (zch.length + 1)) l (some (.own st) :: (zch ++ [o])) = .ok (ys,some (.own st') :: (zch ++ [o']))
 | [],st,o,_,hs=>⟨[],st,o,hs,.slnil,rfl⟩
 | d :: l,st,o,h,hs=>by
  obtain ⟨b,st1,hs1,e1⟩:=h d (by simp) st hs
  obtain ⟨ys,st',o',hs',hp,e⟩:=zlz (l:=l) (st:=st1) (o:=some (.val d)) (fun b hb=>h b (List.mem_cons_of_mem _ hb)) hs1
  have hv:zab (zch.length + 1) (some (.own st1) :: (zch ++ [some (.val d)])) = .ok (d,some (.own st1) :: (zch ++ [some (.val d)])):=by
   simp[zab]
  cases b with
  | true =>
   refine ⟨d :: ys,st',o',hs',hp.cons_cons d,?_⟩
   rw[zbA,zla]
   simp only[R.bind_ok]
   rw[e1]
   simp only[R.bind_ok,if_true]
   rw[hv]
   simp only[R.bind_ok]
   rw[e]
   rfl
  | false =>
   refine ⟨ys,st',o',hs',hp.cons d,?_⟩
   rw[zbA,zla]
   simp only[R.bind_ok]
   rw[e1]
   simp only[R.bind_ok,Bool.false_eq_true,if_false]
   exact e
theorem znI(n:Nat):(zaL n).Pairwise (· < ·):=by
 unfold zaL
 rw[List.pairwise_map]
 refine List.Pairwise.imp (R:=fun a b=>a < b) (fun {a b} h=>by omega) List.pairwise_lt_range
theorem zfP{zch:Ev}{st:List Dt}{fb:De}{m:Int}{v:Int}{st':List Dt}(e:zad [.own st,.val (.int m)] = .ok (.int v,[.own st',.val .non]))(h:fb (some (.own st) :: zch) = .ok (.int m,some (.own st) :: zch)):zaf zad (dRO 0 (dR fb dR0)) (some (.own st) :: zch) = .ok (.int v,some (.own st') :: zch) :=
 ziY (ρ:=some (.own st) :: zch) rfl h e
theorem zo9{α:Type}{l:List α}(h:l.length≤1000):zem l=true:=by
 unfold zem
 rw[decide_eq_true_eq]
 omega
def ztK(j:Int)(ρ:Ev):R (List Dt × Ev):=if zeY j=true then .ok (zbh 0 j.toNat,ρ) else .no
theorem zkX{j:Int}{ρ:Ev}(h:zeY j=true):ztK j ρ = .ok (zbh 0 j.toNat,ρ):=if_pos h
theorem znh{fa:De}{ρ ρ1:Ev}{j:Int}(h:fa ρ = .ok (.int j,ρ1)):zbO fa ρ=ztK j ρ1:=by
 unfold zbO ztK
 rw[h]
 rfl
theorem zib{fa:De}{ρ ρ1:Ev}{j:Nat}(h:fa ρ = .ok (.int j,ρ1))(hj:j≤1000):zbO fa ρ = .ok (zbh 0 j,ρ1):=by
 rw[znh h,zkX (znq hj),Int.toNat_natCast]
def zoA(n:Nat)(ps:List (List Int)):Prop:=∀ p∈ps,Pty n p
def lp(ps:List (List Int)):List Dt:=ps.map tz
theorem zoo{fa:De}{ρ ρ1:Ev}{n:Nat}(h:fa ρ = .ok (.int n,ρ1))(hn:n≤1000):zi5 fa ρ = .ok ((zaL n).map .int,ρ1):=by
 have hc:(0:Int)≤n∧(n:Int)≤16777216:=by omega
 unfold zi5
 rw[h]
 show (if 0≤(n:Int)∧(n:Int)≤16777216 then R.ok (zbh 0 (n:Int).toNat,ρ1) else .no)=_
 rw[if_pos hc,Int.toNat_natCast,zlt]
theorem zl9{α:Type}(f:α→Bool):∀ l:List α,zeK (l.map fun d=>.bl (f d))=some (l.map f)
 | []=>rfl
 | a :: r=>by rw[List.map_cons,zeK,zl9 f r];rfl
theorem znH{α:Type}(f:α→Bool)(l:List α):zlT [.lst (l.map fun d=>.bl (f d))] = .ok (.bl (l.all f)):=by
 unfold zlT
 simp only[zl9]
 rw[List.all_map]
 rfl
theorem zkE:∀ l:List Int,l.Pairwise (· < ·) ↔ ∀ k (h:k + 1 < l.length),l[k] < l[k + 1]
 | []=>by simp
 | [a]=>by simp
 | a :: b :: r=>by
  rw[List.pairwise_cons,zkE (b :: r)]
  constructor
  ·rintro ⟨h1,h2⟩ k hk
   cases k with
   | zero=>exact h1 b (by simp)
   | succ k=>exact h2 k (by simpa using hk)
  ·intro h
   have h2:∀ k (hk:k + 1 < (b :: r).length),(b :: r)[k] < (b :: r)[k + 1]:=fun k hk=>h (k + 1) (by simpa using hk)
   refine ⟨fun x hx=>?_,h2⟩
   have hab:a < b:=h 0 (by simp)
   have:=(zkE (b :: r)).mpr h2
   rw[List.pairwise_cons] at this
   rcases List.mem_cons.mp hx with rfl | hx
   ·exact hab
   ·have:=this.1 x hx;omega
theorem zmi(p:List Int)(hl:p.length≤1000):zkS [.val (tz p)] = .ok (.bl (decide (p.Pairwise (· < ·))),[.val .non]):=by
 let ρ0:Ev:=[some (.val (tz p))]
 have elen:dFn zde (dA (zab 0) dA0) ρ0 = .ok (.int p.length,ρ0):=zcp (d:=tz p) rfl (by simp[tz,zde])
 obtain ⟨m,hm,em⟩ : ∃ m:Nat,m=p.length - 1∧zbO (dOp zed (dFn zde (dA (zab 0) dA0)) (dC (.int 1))) ρ0 = .ok (zbh 0 m,ρ0):=by
  refine ⟨p.length - 1,rfl,?_⟩
  have es:dOp zed (dFn zde (dA (zab 0) dA0)) (dC (.int 1)) ρ0 = .ok (.int ((p.length:Int) - 1),ρ0):=zaz elen rfl rfl
  cases p with
  | nil=>rfl
  | cons a r =>
   have e':((a :: r).length:Int) - 1=((r.length:Nat):Int):=by simp
   rw[e'] at es
   rw[zib es (by simp at hl;omega)]
   rfl
 let f:Nat→Bool:=fun k=>decide (p.getD k 0 < p.getD (k + 1) 0)
 have hc:zaO (zbO (dOp zed (dFn zde (dA (zab 0) dA0)) (dC (.int 1)))) (zbo 1) dTT (dOp gLt (dOp gIx (zab 0) (zab 1)) (dOp gIx (zab 0) (dOp zbF (zab 1) (dC (.int 1))))) 1 ρ0 = .ok ((List.range m).map fun k=>.bl (f k),ρ0):=by
  refine zbu (l:=List.range m) (u:=fun k=>.int (0 + (k:Nat))) (f:=fun k=>.bl (f k)) (ds:=zbh 0 m) em rfl (by rw[List.length_range];omega) (fun k hk=>?_) rfl
  have hkm:=List.mem_range.mp hk
  show dOp gLt (dOp gIx (zab 0) (zab 1)) (dOp gIx (zab 0) (dOp zbF (zab 1) (dC (.int 1)))) [some (.val (tz p)),some (.val (.int (0 + (k:Nat))))]=_
  have hk1:k < p.length:=by omega
  have hk2:k + 1 < p.length:=by omega
  have g1:gIx (tz p) (.int (0 + (k:Nat))) = .ok (.int (p.getD k 0)):=by
   refine zi6 (by omega) (by simp;omega) ?_
   rw[show (0 + ((k:Nat):Int)).toNat=k by omega,List.getElem?_map,List.getElem?_eq_getElem hk1,List.getD_eq_getElem?_getD,List.getElem?_eq_getElem hk1]
   rfl
  have g2:gIx (tz p) (.int (0 + (k:Nat) + 1)) = .ok (.int (p.getD (k + 1) 0)):=by
   refine zi6 (by omega) (by simp;omega) ?_
   rw[show (0 + ((k:Nat):Int) + 1).toNat=k + 1 by omega,List.getElem?_map,List.getElem?_eq_getElem hk2,List.getD_eq_getElem?_getD,List.getElem?_eq_getElem hk2]
   rfl
  exact zaz (zaz rfl rfl g1) (zaz rfl (zaz rfl rfl rfl) g2) rfl
 refine zar (ρ':=ρ0) rfl ?_ rfl
 show zk8 ρ0=_
 unfold zk8
 refine zb3 (zcp (zb1 hc) ?_)
 rw[znH]
 congr 2
 rw[Bool.eq_iff_iff,List.all_eq_true,decide_eq_true_eq,zkE]
 constructor
 ·intro h k hk
  have:=h k (List.mem_range.mpr (by omega))
  simp only[f,decide_eq_true_eq,List.getD_eq_getElem?_getD,List.getElem?_eq_getElem hk,List.getElem?_eq_getElem (show k < p.length by omega),Option.getD_some] at this
  exact this
 ·intro h k hk
  have hkm:=List.mem_range.mp hk
  have hk2:k + 1 < p.length:=by omega
  have:=h k hk2
  simp only[f,decide_eq_true_eq,List.getD_eq_getElem?_getD,List.getElem?_eq_getElem hk2,List.getElem?_eq_getElem (show k < p.length by omega),Option.getD_some]
  exact this
theorem zlf(n:Int)(d:Dt)(hl:∀ l,d = .tup l→l.length≤1000):zb7 [.val (.int n),.val d] = .ok (.bl (match d with | .tup l=>l.all (isG n) | _=>false),[.val .non,.val .non]):=by
 cases d with
 | tup l =>
  let ρ0:Ev:=[some (.val (.int n)),some (.val (.tup l))]
  have hc:zaO (dIt (zab 1)) (zbo 2) dTT (zaf zcw (dR (zab 0) (dR (zab 2) dR0))) 1 ρ0 = .ok (l.map fun x=>.bl (isG n x),ρ0):=by
   refine zbu (l:=l) (u:=id) (f:=fun x=>.bl (isG n x)) (ds:=l) rfl (by rw[List.map_id]) (hl l rfl) (fun x hx=>?_) rfl
   exact zcP (ρ':=[some (.val (.int n)),some (.val (.tup l)),some (.val x)]) (ρ'':=[some (.val (.int n)),some (.val (.tup l)),some (.val x)]) rfl rfl (zmC n x)
  refine zar (ρ':=ρ0) rfl ?_ rfl
  show zdm ρ0=_
  unfold zdm
  refine zb3 ?_
  unfold zjf
  have e1:ze2 "tuple" (zab 1) ρ0 = .ok (.bl true,ρ0):=by simp[ze2,zab,ρ0,zhE,tyD]
  rw[e1]
  simp only[R.bind_ok]
  exact zcp (zb1 hc) (znH _ _)
 | _=>simp[zb7,zas,zdm,zb5,zjH,zb2,zjf,ze2,zab,zhE,tyD,zay]
theorem zgv{n:Int}:∀{l:List Dt},l.all (isG n)=true→∃ zs:List Int,l=zs.map .int∧∀ x∈zs,0≤x∧x < n
 | [],_=>⟨[],rfl,by simp⟩
 | d :: r,h=>by
  rw[List.all_cons,Bool.and_eq_true] at h
  obtain ⟨zs,rfl,hz⟩:=zgv h.2
  have h1:=h.1
  unfold isG at h1
  split at h1
  ·rename_i i
   simp only[Bool.and_eq_true,decide_eq_true_eq] at h1
   exact ⟨i :: zs,rfl,fun x hx=>by
    rcases List.mem_cons.mp hx with rfl | hx
    ·exact h1
    ·exact hz x hx⟩
  ·cases h1
def zlD(n:Int):Dt→Bool
 | .tup l=>l.all (isG n) && (match zh3 l with | some zs=>decide (0 < zs.length) && decide (zs.Pairwise (· < ·)) | none=>false)
 | _=>false
theorem zj3{n:Nat}(h1:1≤n)(h7:n≤7)(d:Dt)(hl:∀ l,d = .tup l→l.length≤1000):zeI [.val (.int n),.val d] = .ok (.bl (zlD n d),[.val .non,.val .non]):=by
 let ρ0:Ev:=[some (.val (.int n)),some (.val d)]
 have ec:dEx (zaf za2 (dR (zab 0) dR0)) ρ0 = .ok (.nx,ρ0):=zei (zdg (ρ':=ρ0) rfl (ziC (by omega) (by omega)))
 refine zar (ρ':=ρ0) rfl ?_ rfl
 show zfD ρ0=_
 unfold zfD
 rw[zal ec]
 refine zb3 ?_
 have ea:zaf zb7 (dR (zab 0) (dR (zab 1) dR0)) ρ0 = .ok (.bl (match d with | .tup l=>l.all (isG n) | _=>false),ρ0):=zcP (ρ':=ρ0) (ρ'':=ρ0) rfl rfl (zlf n d hl)
 unfold zjf
 rw[ea]
 simp only[R.bind_ok]
 cases d with
 | tup l =>
  cases ha:l.all (isG n) with
  | false =>
   simp only[ha]
   show R.ok (Dt.bl false,ρ0)=R.ok (Dt.bl (zlD n (.tup l)),ρ0)
   have:zlD n (.tup l)=false:=by
    show (l.all (isG n) && _)=false
    rw[ha];rfl
   rw[this]
  | true =>
   obtain ⟨zs,rfl,hz⟩:=zgv ha
   simp only[ha]
   have hpt:zlD n (.tup (zs.map .int))=(decide (0 < zs.length) && decide (zs.Pairwise (· < ·))):=by
    show ((zs.map Dt.int).all (isG n) && (match zh3 (zs.map Dt.int) with | some zs=>decide (0 < zs.length) && decide (zs.Pairwise (· < ·)) | none=>false))=_
    rw[ha,zeR]
    rfl
   rw[hpt]
   have hlz:zs.length≤1000:=by have:=hl _ rfl;simpa using this
   have e2:dOp gGt (dFn zde (dA (zab 1) dA0)) (dC (.int 0)) ρ0 = .ok (.bl (decide (0 < zs.length)),ρ0):=by
    refine zaz (d:=.int zs.length) (e:=.int 0) (ρ1:=ρ0) (zcp (d:=.tup (zs.map .int)) rfl (by simp[zde])) rfl ?_
    show R.ok (Dt.bl (decide ((0:Int) < (zs.length:Nat))))=_
    congr 2
    by_cases h:0 < zs.length
    ·rw[decide_eq_true h,decide_eq_true (by omega)]
    ·rw[decide_eq_false h,decide_eq_false (by omega)]
   rw[e2]
   simp only[R.bind_ok]
   cases hp:decide (0 < zs.length) with
   | false=>simp
   | true =>
    simp only[Bool.true_and]
    exact zdg (ρ':=ρ0) rfl (zmi zs hlz)
 | _=>rfl
theorem zrg{n:Nat}{p:List Int}(h:Pty n p):zlD n (tz p)=true:=by
 obtain ⟨h1,h2,h3⟩:=h
 unfold zlD tz
 simp only[zeR,Bool.and_eq_true,decide_eq_true_eq,List.all_eq_true]
 refine ⟨fun d hd=>?_,List.length_pos_iff.mpr h1,h2⟩
 obtain ⟨i,hi,rfl⟩:=List.mem_map.mp hd
 have:=h3 i hi
 unfold isG
 simp only[Bool.and_eq_true,decide_eq_true_eq]
 exact this
def zjB(n:Int):Dt→Bool
 | .lst l=>decide (l.length≤8) && l.all (zlD n)
 | _=>false
def zrK:Dt→Prop
 | .lst l=>∀ d∈l,∀ t,d = .tup t→t.length≤1000
 | .scr _=>False
 | _=>True
theorem zeO{n:Nat}(h1:1≤n)(h7:n≤7)(d:Dt)(hl:zrK d):zb6 [.val (.int n),.val d] = .ok (.bl (zjB n d),[.val .non,.val .non]):=by
 let ρ0:Ev:=[some (.val (.int n)),some (.val d)]
 have ec:dEx (zaf za2 (dR (zab 0) dR0)) ρ0 = .ok (.nx,ρ0):=zei (zdg (ρ':=ρ0) rfl (ziC (by omega) (by omega)))
 refine zar (ρ':=ρ0) rfl ?_ rfl
 show zcB ρ0=_
 unfold zcB
 rw[zal ec]
 cases d with
 | lst l =>
  have t1:zb0 (dTB (ze2 "list" (zab 1))) ρ0 = .ok (false,ρ0):=by simp[zb0,dTB,ze2,zab,ρ0,zhE,tyD]
  have t2:dTB (dOp gGt (dFn zde (dA (zab 1) dA0)) (dC (.int 8))) ρ0 = .ok (decide (8 < l.length),ρ0):=by
   refine zbd (zaz (d:=.int l.length) (e:=.int 8) (ρ1:=ρ0) (zcp (d:=.lst l) rfl rfl) rfl ?_)
   show R.ok (Dt.bl (decide ((8:Int) < (l.length:Nat))))=_
   congr 2
   by_cases h:8 < l.length
   ·rw[decide_eq_true h,decide_eq_true (by omega)]
   ·rw[decide_eq_false h,decide_eq_false (by omega)]
  by_cases h8:l.length≤8
  ·rw[decide_eq_false (by omega)] at t2
   rw[zal (ρ1:=ρ0) (by rw[zcH (by rw[zjX t1];exact t2)];rfl)]
   have hc:zaO (dIt (zab 1)) (zbo 2) dTT (zaf zeI (dR (zab 0) (dR (zab 2) dR0))) 1 ρ0 = .ok (l.map fun x=>.bl (zlD n x),ρ0):=by
    refine zbu (l:=l) (u:=id) (f:=fun x=>.bl (zlD n x)) (ds:=l) rfl (by rw[List.map_id]) (by omega) (fun x hx=>?_) rfl
    exact zcP (ρ':=[some (.val (.int n)),some (.val (.lst l)),some (.val x)]) (ρ'':=[some (.val (.int n)),some (.val (.lst l)),some (.val x)]) rfl rfl (zj3 h1 h7 x (hl x hx))
   refine zb3 (zcp (zb1 hc) ?_)
   rw[znH]
   have:zjB n (.lst l)=l.all (zlD n):=by
    show (decide (l.length≤8) && l.all (zlD n))=_
    rw[decide_eq_true h8,Bool.true_and]
   rw[this]
  ·rw[decide_eq_true (by omega)] at t2
   rw[zdx (ρ1:=ρ0) (d:=.bl false) (by rw[zev (by rw[zjX t1];exact t2)];rfl)]
   have:zjB n (.lst l)=false:=by
    show (decide (l.length≤8) && l.all (zlD n))=_
    rw[decide_eq_false h8,Bool.false_and]
   rw[this]
 | scr _=>exact hl.elim
 | _ =>
  rw[zdx (ρ1:=ρ0) (d:=.bl false)]
  ·rfl
  ·rw[zev (ρ1:=ρ0) (zqq (by simp[zb0,dTB,ze2,zab,ρ0,zhE,tyD]))];rfl
theorem ziP{d t:Dt}(h:isW d=false∨∃ n,d = .int n∧(n < 1∨7 < n)):zb6 [.val d,.val t] = .er 0:=by
 have ec:dEx (zaf za2 (dR (zab 0) dR0)) [some (.val d),some (.val t)] = .er 0:=by
  unfold dEx zaf dR dR0
  simp only[zab,List.getElem?_cons_zero,R.bind_ok,zhk,zaU,if_true,za0,zjN h,R.bind_er]
 unfold zb6 zas
 rw[if_pos (show zb5 [.val d,.val t]=[false,false] from rfl)]
 show (zcB [some (.val d),some (.val t)]).bind _=_
 unfold zcB za4
 rw[ec]
 rfl
theorem zjt{n:Nat}(h1:1≤n)(h7:n≤7){d:Dt}(hl:zrK d)(hp:zjB n d=true):zaC [.val (.int n),.val d] = .ok (.non,[.val .non,.val .non]):=by
 let ρ0:Ev:=[some (.val (.int n)),some (.val d)]
 refine zjL (ρ':=ρ0) rfl ?_ rfl
 show zbp ρ0=_
 unfold zbp
 have e:zaf zb6 (dR (zab 0) (dR (zab 1) dR0)) ρ0 = .ok (.bl true,ρ0):=by
  have:=zeO h1 h7 d hl
  rw[hp] at this
  exact zcP (ρ':=ρ0) (ρ'':=ρ0) rfl rfl this
 rw[zcH (zds (b:=true) (zbd e))]
 rfl
theorem zmS{n:Nat}(h1:1≤n)(h7:n≤7){d:Dt}(hl:zrK d)(hp:zjB n d=false):zaC [.val (.int n),.val d] = .er 1:=by
 let ρ0:Ev:=[some (.val (.int n)),some (.val d)]
 have e:zaf zb6 (dR (zab 0) (dR (zab 1) dR0)) ρ0 = .ok (.bl false,ρ0):=by
  have:=zeO h1 h7 d hl
  rw[hp] at this
  exact zcP (ρ':=ρ0) (ρ'':=ρ0) rfl rfl this
 unfold zaC zas
 rw[if_pos (show zb5 [.val (.int n),.val d]=[false,false] from rfl)]
 show (zbp ρ0).bind _=_
 unfold zbp
 rw[zev (zds (b:=false) (zbd e))]
 rfl
theorem zlS{d t:Dt}(h:isW d=false∨∃ n,d = .int n∧(n < 1∨7 < n)):zaC [.val d,.val t] = .er 0:=by
 have e:zaf zb6 (dR (zab 0) (dR (zab 1) dR0)) [some (.val d),some (.val t)] = .er 0:=zdp (ρ':=[some (.val d),some (.val t)]) (ρ'':=[some (.val d),some (.val t)]) rfl rfl (ziP h)
 unfold zaC zas
 rw[if_pos (show zb5 [.val d,.val t]=[false,false] from rfl)]
 show (zbp [some (.val d),some (.val t)]).bind _=_
 unfold zbp dIf zb0 dTB
 rw[e]
 rfl
def ztG(n:Int):Dt→Bool
 | .tup l=>l.all (isG n)
 | _=>false
theorem zoh(n:Int)(d:Dt)(hl:∀ l,d = .tup l→l.length≤1000):zb7 [.val (.int n),.val d] = .ok (.bl (ztG n d),[.val .non,.val .non]):=by
 have:=zlf n d hl
 cases d <;> exact this
def zd7(n:Nat):Dt→Bool
 | .tup l=>l.all (isG n) && (match zh3 l with | some zs=>zbt zs == zaL n | none=>false)
 | _=>false
theorem zrr{ρ:Ev}{n:Nat}(h:ρ[0]? = some (some (.val (.int n))))(hn:n≤7):dFz (zi5 (zab 0)) ρ = .ok (.lst ((zaL n).map .int),ρ) :=
 zb1 (zoo (by simp[zab,h]) (by omega))
theorem zp3{ρ:Ev}{zs:List Int}(h:ρ[1]? = some (some (.val (tz zs))))(hl:zs.length < 64):dFz (zfq zcJ (dA (zab 1) dA0)) ρ = .ok (.lst ((zbt zs).map .int),ρ):=by
 refine zb1 ?_
 unfold zfq
 rw[zcs (fa:=zab 1) (fr:=dA0) (d:=tz zs) (ds:=[]) (ρ1:=ρ) (ρ2:=ρ) (by simp[zab,h]) rfl]
 simp only[R.bind_ok]
 unfold zcJ tz
 simp only[zeR]
 rw[if_pos hl]
 rfl
theorem zsQ{ρ:Ev}{n:Nat}{zs:List Int}(h0:ρ[0]? = some (some (.val (.int n))))(hn:n≤7)(h:ρ[1]? = some (some (.val (tz zs))))(hl:zs.length < 64):dOp (gEq false) (dFz (zfq zcJ (dA (zab 1) dA0))) (dFz (zi5 (zab 0))) ρ = .ok (.bl (zbt zs == zaL n),ρ):=by
 refine zaz (zp3 h hl) (zrr h0 hn) ?_
 rw[zdt (zlP _ _) (zlP _ _),eqD,zlx];rfl
theorem zgc{n:Nat}(h1:1≤n)(h7:n≤7)(d:Dt)(hl:∀ l,d = .tup l→l.length≤60):zb8 [.val (.int n),.val d] = .ok (.bl (zd7 n d),[.val .non,.val .non]):=by
 let ρ0:Ev:=[some (.val (.int n)),some (.val d)]
 have ec:dEx (zaf za2 (dR (zab 0) dR0)) ρ0 = .ok (.nx,ρ0):=zei (zdg (ρ':=ρ0) rfl (ziC (by omega) (by omega)))
 refine zar (ρ':=ρ0) rfl ?_ rfl
 show zc5 ρ0=_
 unfold zc5
 rw[zal ec]
 refine zb3 ?_
 have ea:zaf zb7 (dR (zab 0) (dR (zab 1) dR0)) ρ0 = .ok (.bl (ztG n d),ρ0):=zcP (ρ':=ρ0) (ρ'':=ρ0) rfl rfl (zoh n d (fun l e=>by have:=hl l e;omega))
 unfold zjf
 rw[ea]
 simp only[R.bind_ok]
 cases d with
 | tup l =>
  have hab:ztG n (.tup l)=l.all (isG n):=rfl
  rw[hab]
  cases ha:l.all (isG n) with
  | false =>
   have:zd7 n (.tup l)=false:=by
    show (l.all (isG n) && _)=false
    rw[ha];rfl
   rw[this]
  | true =>
   obtain ⟨zs,rfl,hz⟩:=zgv ha
   have hpt:zd7 n (.tup (zs.map .int))=(zbt zs == zaL n):=by
    show ((zs.map Dt.int).all (isG n) && (match zh3 (zs.map Dt.int) with | some zs=>zbt zs == zaL n | none=>false))=_
    rw[ha,zeR]
    rfl
   rw[hpt]
   have hlz:zs.length≤60:=by have:=hl _ rfl;simpa using this
   exact zsQ (ρ:=ρ0) rfl h7 rfl (by omega)
 | _=>rfl
theorem zoi{fa:De}{fl fh:DO}{ρ:Ev}{ds:List Dt}{lo hi:Option Int}(h1:fa ρ = .ok (.lst ds,ρ))(h2:fl ρ = .ok (lo,ρ))(h3:fh ρ = .ok (hi,ρ)):zoC fa fl fh ρ = .ok (zgO ds lo hi,ρ):=by
 unfold zoC
 rw[h1];simp only[R.bind_ok]
 rw[h2];simp only[R.bind_ok]
 rw[h3];rfl
theorem zik{fa:De}{fl fh:DO}{ρ:Ev}{ds:List Dt}{lo hi:Option Int}(h1:fa ρ = .ok (.tup ds,ρ))(h2:fl ρ = .ok (lo,ρ))(h3:fh ρ = .ok (hi,ρ)):zes fa fl fh ρ = .ok (.tup (zgO ds lo hi),ρ):=by
 unfold zes
 rw[h1];simp only[R.bind_ok]
 rw[h2];simp only[R.bind_ok]
 rw[h3];rfl
theorem ziI{l:List Int}{lo hi:Option Int}:zgO (l.map Dt.int) lo hi=(zgO l lo hi).map .int:=by
 unfold zgO
 rw[List.length_map,List.map_take,List.map_drop]
theorem zkD{x y:List Dt}(h:x.length + y.length≤16777216):zfE (.tup x) (.tup y) = .ok (.tup (x ++ y)):=by
 unfold zfE
 simp only[h,if_true]
theorem zsc(p:List Int):okN 59 (tz p)=true∧okN 60 (tz p)=true:=by
 unfold tz
 constructor <;> (simp only[okN,List.all_eq_true];intro d hd;obtain ⟨i,_,rfl⟩:=List.mem_map.mp hd;rfl)
theorem znp{n:Nat}{p:List Int}(h7:n≤7)(h:Pty n p):p.length≤60:=by
 by_cases z:p.length≤(zaL n).length
 ·rw[zaG] at z;omega
 ·have h1:p.Nodup:=h.2.1.imp (fun h=>by omega)
  have:=(zeJ p (zaL n) h1 (fun x hx=>zb4.mpr (h.2.2 x hx)) (by omega)).length_eq
  omega
theorem zkO{d t:Dt}(h:isW d=false∨∃ n,d = .int n∧(n < 1∨7 < n)):zb8 [.val d,.val t] = .er 0:=by
 have ec:dEx (zaf za2 (dR (zab 0) dR0)) [some (.val d),some (.val t)] = .er 0:=by
  unfold dEx zaf dR dR0
  simp only[zab,List.getElem?_cons_zero,R.bind_ok,zhk,zaU,if_true,za0,zjN h,R.bind_er]
 unfold zb8 zas
 rw[if_pos (show zb5 [.val d,.val t]=[false,false] from rfl)]
 show (zc5 [some (.val d),some (.val t)]).bind _=_
 unfold zc5 za4
 rw[ec]
 rfl
theorem zsC(ps:List (List Int)):(lp ps).length=ps.length:=by unfold lp;rw[List.length_map]
theorem zop{j:Nat}{q:Str}{fE:De}{ρ:Ev}{n:Nat}(h0:ρ[j]? = some (some (.tab q)))(h:fE (zaJ ρ) = .er n)(hn:n < 8):zk7 j q fE ρ = .ok ([.int n],ρ):=by
 unfold zk7
 rw[h0]
 simp only[if_true,h,hn]
theorem zij{x y z:Dt}{bs:List B}:∀{ρ:Ev}{k:Nat},zf0 [.d x,.d y,.d z] bs k ρ = ρ
 | [],_=>rfl
 | o :: r,k=>by
  show (match zdO [.d x,.d y,.d z] k with | some j=>bs[j]? | none=>o) :: zf0 [.d x,.d y,.d z] bs (k + 1) r=_
  rw[zij (ρ:=r)];rfl
theorem zrO{F:FD}{fa fb fc:De}{ρ ρ1 ρ2 ρ3:Ev}{d e g y:Dt}{l:List B}(h:fa ρ = .ok (d,ρ1))(h2:fb ρ1 = .ok (e,ρ2))(h3:fc ρ2 = .ok (g,ρ3))(hF:F [.val d,.val e,.val g] = .ok (y,l)):zaf F (dR fa (dR fb (dR fc dR0))) ρ = .ok (y,ρ3):=by
 unfold zaf dR dR0
 rw[h]
 simp only[R.bind_ok,h2,h3,zhk,zaU,if_true,za0,hF]
 rw[zij]
theorem zi2{F:FD}{fa fb fc:De}{ρ ρ1 ρ2 ρ3:Ev}{d e g:Dt}{n:Nat}(h:fa ρ = .ok (d,ρ1))(h2:fb ρ1 = .ok (e,ρ2))(h3:fc ρ2 = .ok (g,ρ3))(hF:F [.val d,.val e,.val g] = .er n):zaf F (dR fa (dR fb (dR fc dR0))) ρ = .er n:=by
 unfold zaf dR dR0
 rw[h]
 simp only[R.bind_ok,h2,h3,zhk,zaU,if_true,za0,hF,R.bind_er]
theorem zmQ{n:Nat}{ps:List (List Int)}(h7:n≤7)(hp:zoA n ps):zrK (.lst (lp ps)):=by
 intro d hd t ht
 obtain ⟨p,hpm,rfl⟩:=List.mem_map.mp hd
 have hpp:=hp p hpm
 unfold tz at ht
 cases ht
 rw[List.length_map]
 by_cases z:p.length≤(zaL n).length
 ·rw[zaG] at z;omega
 ·have h1:p.Nodup:=hpp.2.1.imp (fun h=>by omega)
  have:=(zeJ p (zaL n) h1 (fun x hx=>zb4.mpr (hpp.2.2 x hx)) (by omega)).length_eq
  omega
theorem zkY{n:Nat}{ps:List (List Int)}(hl:ps.length≤8)(hp:zoA n ps):zjB n (.lst (lp ps))=true:=by
 show (decide ((lp ps).length≤8) && (lp ps).all (zlD n))=true
 rw[Bool.and_eq_true,decide_eq_true_eq,List.all_eq_true]
 refine ⟨by unfold lp;rw[List.length_map];exact hl,fun d hd=>?_⟩
 obtain ⟨p,hpm,rfl⟩:=List.mem_map.mp hd
 exact zrg (hp p hpm)
theorem zeF{n:Nat}{st:List Dt}(h7:n≤7)(hs:St st):∃(row:List Int)(st':List Dt),St st'∧row.Perm (zaL n)∧zaV [.own st,.val (.int n)] = .ok (tz row,[.own st',.val .non]):=by
 obtain ⟨st',p,hs',hp,e⟩:=zhS (things:=some (.val (.int n))) 10 ((zaL n).map .int) [] st (by rw[List.length_map,zaG];omega) (by rw[List.length_map,zaG];simp;omega) (fun d hd=>by obtain ⟨x,_,rfl⟩:=List.mem_map.mp hd;rfl) hs
 obtain ⟨q,hq,rfl⟩:=zjO hp
 refine ⟨q,st',hs',hq,zar (ρ':=[some (.own st'),some (.val (.int n)),some (.own []),some (.val (.lst (q.map .int)))]) rfl ?_ rfl⟩
 let ρ0:Ev:=[some (.own st),some (.val (.int n)),none,none]
 show ze7 ρ0=_
 unfold ze7
 have x1:zcg 2 (zi5 (zab 1)) ρ0 = .ok (.nx,[some (.own st),some (.val (.int n)),some (.own ((zaL n).map .int)),none]):=zgt (i:=2) (zoo (ρ1:=ρ0) rfl (by omega)) (by simp[ρ0])
 rw[zal x1]
 rw[zal (ρ1:=[some (.own st),some (.val (.int n)),some (.own ((zaL n).map .int)),some (.own [])]) rfl,zal e]
 rfl
def zk4:DS:=(za4 (zbg 7 (zaf zad (dRO 0 (dR (zab 1) dR0)))) (za4 (zbg 8 (dFz (zfq zcJ (dA (zes (zab 3) (dO1 (zab 7)) (dO1 (dOp zbF (dOp zbF (zab 7) (dC (.int 1))) (zaf zad (dRO 0 (dR (dOp zed (zab 1) (zab 7)) dR0)))))) dA0)))) (za4 (dIf (zfu (dTB (dOp gGt (zab 4) (dC (.int 1)))) (dTB (dOp gLt (zaf zad (dRO 0 (dR (dC (.int 3)) dR0))) (dOp zed (zab 4) (dC (.int 1)))))) (zbg 8 (zrI (dFz (zaO (zbO (zab 1)) (zbo 9) (dTB (dOp (gEq false) (zaf zad (dRO 0 (dR (dC (.int 2)) dR0))) (dC (.int 1)))) (zab 9) 1)) (zab 8))) dNx) (dEx (zer 5 (dFn zbn (dA (zab 8) dA0)))))))
theorem zmV:zd1=(za4 (zbg 3 (zaf zaV (dRO 0 (dR (zab 1) dR0)))) (za4 (zbg 4 (zaf zad (dRO 0 (dR (dC (.int 4)) dR0)))) (za4 (zcg 5 (zdl dA0)) (za4 (zgh (zbO (zaf zad (dRO 0 (dR (dOp zbF (zab 2) (dC (.int 1))) dR0)))) (zbo 6) zk4) (zb2 (zhH 5)))))):=rfl
theorem znw{fa:De}{fl fh:DO}{ρ ρ1 ρ2 ρ3:Ev}{ds:List Dt}{lo hi:Option Int}(h1:fa ρ = .ok (.tup ds,ρ1))(h2:fl ρ1 = .ok (lo,ρ2))(h3:fh ρ2 = .ok (hi,ρ3)):zes fa fl fh ρ = .ok (.tup (zgO ds lo hi),ρ3):=by
 unfold zes
 rw[h1];simp only[R.bind_ok]
 rw[h2];simp only[R.bind_ok]
 rw[h3];simp only[R.bind_ok]
theorem zrV{fa:De}{ρ ρ1:Ev}{i:Int}(h:fa ρ = .ok (.int i,ρ1)):dO1 fa ρ = .ok (some i,ρ1):=by
 unfold dO1;rw[h];rfl
theorem zkZ{fa:De}{ρ ρ1:Ev}{zs:List Int}(h:fa ρ = .ok (tz zs,ρ1))(hl:zs.length < 64):dFz (zfq zcJ (dA fa dA0)) ρ = .ok (.lst ((zbt zs).map .int),ρ1):=by
 refine zb1 ?_
 unfold zfq
 rw[zcs (fr:=dA0) (d:=tz zs) (ds:=[]) (ρ1:=ρ1) (ρ2:=ρ1) h rfl]
 simp only[R.bind_ok]
 unfold zcJ tz
 simp only[zeR]
 rw[if_pos hl]
 rfl
abbrev EP(s n m r w f t l p:Option B):Ev:=[s,n,m,r,w,f,t,l,p]
theorem zmk{n:Nat}{row:List Int}{way:Int}{M t o7 o8:Option B}{st:List Dt}{acc:List (List Int)}(h1:1≤n)(h7:n≤7)(hr:row.Perm (zaL n))(hs:St st)(ha:zoA n acc)(hl:acc.length≤100) :
  ∃ p st' b7 b8,St st'∧Pty n p∧zk4 (EP (some (.own st)) (some (.val (.int n))) M (some (.val (tz row))) (some (.val (.int way))) (some (.own (lp acc))) t o7 o8) = .ok (.nx,EP (some (.own st')) (some (.val (.int n))) M (some (.val (tz row))) (some (.val (.int way))) (some (.own (lp (acc ++ [p])))) t b7 b8):=by
 let N:Option B:=some (.val (.int n))
 let Rw:Option B:=some (.val (tz row))
 let W:Option B:=some (.val (.int way))
 let A:Option B:=some (.own (lp acc))
 have hrl:row.length=n:=by rw[hr.length_eq,zaG]
 obtain ⟨v,st1,e1,hs1,v0,v1⟩:=zbl (m:=(n:Nat)) hs (by omega) (by omega)
 obtain ⟨f,rfl⟩ : ∃ f:Nat,v=f:=⟨v.toNat,by omega⟩
 have x1:zbg 7 (zaf zad (dRO 0 (dR (zab 1) dR0))) (EP (some (.own st)) N M Rw W A t o7 o8) = .ok (.nx,EP (some (.own st1)) N M Rw W A t (some (.val (.int f))) o8) :=
  zby (i:=7) (zfP e1 rfl) (by simp)
 obtain ⟨u,st2,e2,hs2,u0,u1⟩:=zbl (m:=(n:Int) - f) hs1 (by omega) (by omega)
 obtain ⟨g,rfl⟩ : ∃ g:Nat,u=g:=⟨u.toNat,by omega⟩
 let c:List Int:=(row.drop f).take (1 + g)
 have hsubl:c.Sublist row:=(List.take_sublist _ _).trans (List.drop_sublist _ _)
 have hcl:c.length=1 + g:=by
  show ((row.drop f).take (1 + g)).length=_
  rw[List.length_take,List.length_drop,hrl]
  omega
 have hnd:c.Nodup:=(hr.nodup_iff.mpr (zcf n)).sublist hsubl
 have hsp:=zbj c
 have hP:Pty n (zbt c):=by
  refine ⟨fun h=>?_,?_,fun x hx=>?_⟩
  ·have:=hsp.length_eq
   rw[h,hcl] at this
   simp at this
   omega
  ·have h2:(zbt c).Nodup:=hsp.nodup_iff.mpr hnd
   exact (List.Pairwise.and (zdA c) h2).imp (fun h=>by omega)
  ·exact zb4.mp (hr.mem_iff.mp (hsubl.subset (hsp.mem_iff.mp hx)))
 have x2:zbg 8 (dFz (zfq zcJ (dA (zes (zab 3) (dO1 (zab 7)) (dO1 (dOp zbF (dOp zbF (zab 7) (dC (.int 1))) (zaf zad (dRO 0 (dR (dOp zed (zab 1) (zab 7)) dR0)))))) dA0))) (EP (some (.own st1)) N M Rw W A t (some (.val (.int f))) o8) = .ok (.nx,EP (some (.own st2)) N M Rw W A t (some (.val (.int f))) (some (.val (.lst ((zbt c).map .int))))):=by
  refine zby (i:=8) (ρ1:=EP (some (.own st2)) N M Rw W A t (some (.val (.int f))) o8) (zkZ (zs:=c) ?_ (by omega)) (by simp)
  have:=znw (fa:=zab 3) (fl:=dO1 (zab 7)) (fh:=dO1 (dOp zbF (dOp zbF (zab 7) (dC (.int 1))) (zaf zad (dRO 0 (dR (dOp zed (zab 1) (zab 7)) dR0))))) (ρ:=EP (some (.own st1)) N M Rw W A t (some (.val (.int f))) o8) (ρ1:=EP (some (.own st1)) N M Rw W A t (some (.val (.int f))) o8) (ρ2:=EP (some (.own st1)) N M Rw W A t (some (.val (.int f))) o8) (ρ3:=EP (some (.own st2)) N M Rw W A t (some (.val (.int f))) o8) (ds:=row.map .int) (lo:=some (f:Int)) (hi:=some ((f:Int) + 1 + g)) rfl rfl
   (zrV (zaz (d:=.int ((f:Int) + 1)) (ρ1:=EP (some (.own st1)) N M Rw W A t (some (.val (.int f))) o8) rfl (zfP e2 rfl) rfl))
  rw[this,ziI]
  have hh:((f:Int) + 1 + g)=(f:Int) + ((1 + g:Nat):Int):=by omega
  rw[hh,zrG (by omega)]
  rfl
 obtain ⟨p,st3,hs3,hp,x3⟩ : ∃ p st3,St st3∧Pty n p∧dIf (zfu (dTB (dOp gGt (zab 4) (dC (.int 1)))) (dTB (dOp gLt (zaf zad (dRO 0 (dR (dC (.int 3)) dR0))) (dOp zed (zab 4) (dC (.int 1)))))) (zbg 8 (zrI (dFz (zaO (zbO (zab 1)) (zbo 9) (dTB (dOp (gEq false) (zaf zad (dRO 0 (dR (dC (.int 2)) dR0))) (dC (.int 1)))) (zab 9) 1)) (zab 8))) dNx (EP (some (.own st2)) N M Rw W A t (some (.val (.int f))) (some (.val (.lst ((zbt c).map .int))))) = .ok (.nx,EP (some (.own st3)) N M Rw W A t (some (.val (.int f))) (some (.val (.lst (p.map .int))))):=by
  let ρ2:Ev:=EP (some (.own st2)) N M Rw W A t (some (.val (.int f))) (some (.val (.lst ((zbt c).map .int))))
  by_cases hw:(1:Int) < way
  ·obtain ⟨z,st3,e3,hs3,z0,z1⟩:=zbl (m:=3) hs2 (by decide) (by decide)
   have c1:dTB (dOp gGt (zab 4) (dC (.int 1))) ρ2 = .ok (true,ρ2):=zbd (zaz (d:=.int way) (e:=.int 1) (ρ1:=ρ2) rfl rfl (by show R.ok (Dt.bl (decide ((1:Int) < way)))=_;rw[decide_eq_true hw]))
   let ρ3:Ev:=EP (some (.own st3)) N M Rw W A t (some (.val (.int f))) (some (.val (.lst ((zbt c).map .int))))
   have c2:dTB (dOp gLt (zaf zad (dRO 0 (dR (dC (.int 3)) dR0))) (dOp zed (zab 4) (dC (.int 1)))) ρ2 = .ok (decide (z < way - 1),ρ3):=zbd (zaz (zfP e3 rfl) (e:=.int (way - 1)) rfl rfl)
   by_cases hz:z < way - 1
   ·rw[decide_eq_true hz] at c2
    obtain ⟨ys,st4,o',hs4,hsub,e⟩:=zlz (ft:=dTB (dOp (gEq false) (zaf zad (dRO 0 (dR (dC (.int 2)) dR0))) (dC (.int 1)))) (zch:=[N,M,Rw,W,A,t,some (.val (.int f)),some (.val (.lst ((zbt c).map .int)))]) (l:=zbh 0 n) (st:=st3) (o:=none) (fun d _ st hs=>by
     obtain ⟨v,st',e,hs',v0,v1⟩:=zbl (m:=2) hs (by decide) (by decide)
     exact ⟨v == 1,st',hs',zbd (zaz (zfP e rfl) rfl (by rw[ztz];rfl))⟩) hs3
    rw[zlt] at hsub
    obtain ⟨zs,hzs,rfl⟩:=List.sublist_map_iff.mp hsub
    let ρ4:Ev:=EP (some (.own st4)) N M Rw W A t (some (.val (.int f))) (some (.val (.lst ((zbt c).map .int))))
    have hc:zaO (zbO (zab 1)) (zbo 9) (dTB (dOp (gEq false) (zaf zad (dRO 0 (dR (dC (.int 2)) dR0))) (dC (.int 1)))) (zab 9) 1 ρ3 = .ok (zs.map .int,ρ4):=by
     unfold zaO
     rw[show zbO (zab 1) ρ3 = .ok (zbh 0 n,ρ3) from zib (j:=n) rfl (by omega)]
     simp only[R.bind_ok]
     rw[if_pos (zo9 (by unfold zbh;rw[List.length_map,List.length_range];omega))]
     show (match zbA (zbo 9) _ (zab 9) (zbh 0 n) (some (.own st3) :: ([N,M,Rw,W,A,t,some (.val (.int f)),some (.val (.lst ((zbt c).map .int)))] ++ [none])) with | .ok z=>R.ok (z.1,z.2.take 9) | _=>.no)=_
     have e':zbA (zbo 9) (dTB (dOp (gEq false) (zaf zad (dRO 0 (dR (dC (.int 2)) dR0))) (dC (.int 1)))) (zab 9) (zbh 0 n) (some (.own st3) :: ([N,M,Rw,W,A,t,some (.val (.int f)),some (.val (.lst ((zbt c).map .int)))] ++ [none]))=_:=e
     rw[e']
     rfl
    have hpw:zs.Pairwise (· < ·):=(znI n).sublist hzs
    have hin:∀ x∈zs,0≤x∧x < n:=fun x hx=>zb4.mp (hzs.subset hx)
    have cc:zfu (dTB (dOp gGt (zab 4) (dC (.int 1)))) (dTB (dOp gLt (zaf zad (dRO 0 (dR (dC (.int 3)) dR0))) (dOp zed (zab 4) (dC (.int 1))))) ρ2 = .ok (true,ρ3):=by rw[zgB c1];exact c2
    cases zs with
    | nil =>
     refine ⟨zbt c,st4,hs4,hP,?_⟩
     rw[zev cc]
     refine zby (i:=8) (ρ1:=ρ4) ?_ (by simp[ρ4])
     unfold zrI
     rw[zb1 hc]
     rfl
    | cons a r =>
     refine ⟨a :: r,st4,hs4,⟨by simp,hpw,hin⟩,?_⟩
     rw[zev cc]
     refine zby (i:=8) (ρ1:=ρ4) ?_ (by simp[ρ4])
     unfold zrI
     rw[zb1 hc]
     rfl
   ·rw[decide_eq_false hz] at c2
    refine ⟨zbt c,st3,hs3,hP,?_⟩
    rw[zcH (ρ1:=ρ3) (by rw[zgB c1];exact c2)]
    rfl
  ·have c1:dTB (dOp gGt (zab 4) (dC (.int 1))) ρ2 = .ok (false,ρ2):=zbd (zaz (d:=.int way) (e:=.int 1) (ρ1:=ρ2) rfl rfl (by show R.ok (Dt.bl (decide ((1:Int) < way)))=_;rw[decide_eq_false hw]))
   refine ⟨zbt c,st2,hs2,hP,?_⟩
   rw[zcH (ρ1:=ρ2) (zkd c1)]
   rfl
 refine ⟨p,st3,some (.val (.int f)),some (.val (.lst (p.map .int))),hs3,hp,?_⟩
 unfold zk4
 rw[zal x1,zal x2,zal x3]
 refine zei (d:=.non) ?_
 unfold zer
 have ec:dFn zbn (dA (zab 8) dA0) (EP (some (.own st3)) N M Rw W A t (some (.val (.int f))) (some (.val (.lst (p.map .int))))) = .ok (tz p,EP (some (.own st3)) N M Rw W A t (some (.val (.int f))) (some (.val (.lst (p.map .int))))):=rfl
 simp only[EP,A,List.getElem?_cons_succ,List.getElem?_cons_zero] at ec ⊢
 rw[ec]
 simp only[R.bind_ok,List.getElem?_cons_succ,List.getElem?_cons_zero]
 rw[if_pos (by unfold lp;rw[List.length_map];omega)]
 simp[lp,N,Rw,W]
theorem zsD{n:Nat}{row:List Int}{way:Int}{M:Option B}(h1:1≤n)(h7:n≤7)(hr:row.Perm (zaL n)):∀(ds:List Dt)(acc:List (List Int))(st:List Dt)(t o7 o8:Option B),St st→zoA n acc→acc.length + ds.length≤8 →
  ∃ ps st' b6 b7 b8,St st'∧zoA n ps∧ps.length≤8∧ziB (zbo 6) zk4 ds (EP (some (.own st)) (some (.val (.int n))) M (some (.val (tz row))) (some (.val (.int way))) (some (.own (lp acc))) t o7 o8) = .ok (.nx,EP (some (.own st')) (some (.val (.int n))) M (some (.val (tz row))) (some (.val (.int way))) (some (.own (lp ps))) b6 b7 b8)
 | [],acc,st,t,o7,o8,hs,ha,hl=>⟨acc,st,t,o7,o8,hs,ha,by simpa using hl,rfl⟩
 | d :: ds,acc,st,t,o7,o8,hs,ha,hl=>by
  simp only[List.length_cons] at hl
  obtain ⟨p,st1,b7,b8,hs1,hp,e⟩:=zmk (way:=way) (M:=M) (t:=some (.val d)) (o7:=o7) (o8:=o8) h1 h7 hr hs ha (by omega)
  obtain ⟨ps,st2,c6,c7,c8,hs2,hps,hpl,e2⟩:=zsD (way:=way) (M:=M) h1 h7 hr ds (acc ++ [p]) st1 (some (.val d)) b7 b8 hs1 (fun q hq=>by
   rcases List.mem_append.mp hq with h | h
   ·exact ha q h
   ·have:q=p:=by simpa using h
    rw[this];exact hp) (by rw[List.length_append];simp;omega)
  refine ⟨ps,st2,c6,c7,c8,hs2,hps,hpl,?_⟩
  rw[ziB]
  show ((zk4 (EP (some (.own st)) (some (.val (.int n))) M (some (.val (tz row))) (some (.val (.int way))) (some (.own (lp acc))) (some (.val d)) o7 o8)).bind _)=_
  rw[show zk4 (EP (some (.own st)) (some (.val (.int n))) M (some (.val (tz row))) (some (.val (.int way))) (some (.own (lp acc))) (some (.val d)) o7 o8)=_ from e]
  exact e2
theorem zjF{n:Nat}{st:List Dt}(h1:1≤n)(h7:n≤7)(hs:St st):∃ ps st',St st'∧zoA n ps∧ps.length≤8∧zc2 [.own st,.val (.int n),.val (.int 8)] = .ok (.lst (lp ps),[.own st',.val .non,.val .non]):=by
 let N:Option B:=some (.val (.int n))
 let M:Option B:=some (.val (.int 8))
 obtain ⟨row,st1,hs1,hr,e1⟩:=zeF h7 hs
 obtain ⟨way,st2,e2,hs2,w0,w1⟩:=zbl (m:=4) hs1 (by decide) (by decide)
 obtain ⟨v,st3,e3,hs3,v0,v1⟩:=zbl (m:=8 + 1) hs2 (by decide) (by decide)
 obtain ⟨ps,st4,b6,b7,b8,hs4,hps,hpl,e4⟩:=zsD (way:=way) (M:=M) h1 h7 hr (zbh 0 v.toNat) [] st3 none none none hs3 (fun q hq=>by cases hq) (by unfold zbh;simp;omega)
 refine ⟨ps,st4,hs4,hps,hpl,zar (ρ':=EP (some (.own st4)) N M (some (.val (tz row))) (some (.val (.int way))) (some (.val (.lst (lp ps)))) b6 b7 b8) rfl ?_ rfl⟩
 show zd1 (EP (some (.own st)) N M none none none none none none)=_
 rw[zmV]
 rw[zal (ρ1:=EP (some (.own st1)) N M (some (.val (tz row))) none none none none none) (zby (i:=3) (ziY (ρ:=EP (some (.own st)) N M none none none none none none) rfl rfl e1) (by simp))]
 rw[zal (ρ1:=EP (some (.own st2)) N M (some (.val (tz row))) (some (.val (.int way))) none none none none) (zby (i:=4) (zfP e2 rfl) (by simp))]
 rw[zal (ρ1:=EP (some (.own st2)) N M (some (.val (tz row))) (some (.val (.int way))) (some (.own (lp []))) none none none) rfl]
 have x4:zgh (zbO (zaf zad (dRO 0 (dR (dOp zbF (zab 2) (dC (.int 1))) dR0)))) (zbo 6) zk4 (EP (some (.own st2)) N M (some (.val (tz row))) (some (.val (.int way))) (some (.own (lp []))) none none none) = .ok (.nx,EP (some (.own st4)) N M (some (.val (tz row))) (some (.val (.int way))) (some (.own (lp ps))) b6 b7 b8):=by
  unfold zgh
  rw[znh (zfP e3 rfl),zkX (by unfold zeY;rw[Bool.and_eq_true,decide_eq_true_eq,decide_eq_true_eq];omega)]
  exact e4
 rw[zal x4]
 rfl
inductive Tr where
 | lf (i:Int) | nd (row:Bool) (l:List Tr)
def wd(r:Bool):Str:=if r then Str.ofString "row" else Str.ofString "any"
mutual
def toD:Tr→Dt
 | .lf i=>.int i
 | .nd r l=>.tup [.str (wd r),.tup (zfk l)]
def zfk:List Tr→List Dt
 | []=>[]
 | t :: r=>toD t :: zfk r
end
mutual
def zam:Tr→List Int
 | .lf i=>[i]
 | .nd _ l=>zau l
def zau:List Tr→List Int
 | []=>[]
 | t :: r=>zam t ++ zau r
end
mutual
def dep:Tr→Nat
 | .lf _=>1
 | .nd _ l=>zel l + 1
def zel:List Tr→Nat
 | []=>0
 | t :: r=>max (dep t) (zel r)
end
mutual
def okT:Tr→Bool
 | .lf _=>true
 | .nd r l=>decide ((if r then 3 else 2)≤l.length) && zhy l
def zhy:List Tr→Bool
 | []=>true
 | t :: r=>okT t && zhy r
end
theorem zbY:∀ l:List Tr,zfk l=l.map toD
 | []=>by simp[zfk]
 | t :: r=>by simp[zfk,zbY r]
theorem zbx:∀ l:List Tr,zau l=l.flatMap zam
 | []=>by simp[zau]
 | t :: r=>by simp[zau,zbx r]
theorem zco:∀ l:List Tr,zhy l=l.all okT
 | []=>by simp[zhy]
 | t :: r=>by simp[zhy,zco r]
theorem zcb{n:Nat}:∀{l:List Tr},zel l≤n ↔ ∀ t∈l,dep t≤n
 | []=>by simp[zel]
 | t :: r=>by
  have:=zcb (n:=n) (l:=r)
  simp only[zel,List.mem_cons,forall_eq_or_imp]
  rw[← this]
  omega
def mn(t:Tr):Int:=(zbt (zam t)).headD 0
def zlo(r:Bool)(l:List Tr):List Tr:=if r then (if mn (l.headD (.lf 0)) > mn (l.getLastD (.lf 0)) then l.reverse else l) else byK (l.map mn) l
mutual
def zaS:Tr→Tr
 | .lf i=>.lf i
 | .nd r l=>.nd r (zlo r (zju l))
def zju:List Tr→List Tr
 | []=>[]
 | t :: r=>zaS t :: zju r
end
theorem zeG:∀ l:List Tr,zju l=l.map zaS
 | []=>by simp[zju]
 | t :: r=>by simp[zju,zeG r]
theorem zex:∀(n:Nat)(t:Tr),dep t≤n→okT t=true→zam t≠[]
 | n,.lf i,_,_=>by simp[zam]
 | 0,.nd r l,h,_=>by simp[dep] at h
 | n + 1,.nd r l,h,ho=>by
  simp only[dep,okT,Bool.and_eq_true,decide_eq_true_eq] at h ho
  cases l with
  | nil=>have:=ho.1;cases r <;> simp at this
  | cons t q =>
   simp only[zhy,Bool.and_eq_true] at ho
   have:=zex n t (by simp only[zel] at h;omega) ho.2.1
   simp only[zam,zau]
   intro z
   exact this (List.append_eq_nil_iff.mp z).1
theorem zlm{l:List Int}(h:l≠[]):(zbt l).headD 0∈l:=by
 have hp:=zbj l
 cases e:zbt l with
 | nil=>rw[e] at hp;exact absurd hp.symm.eq_nil h
 | cons a r=>rw[e] at hp;exact hp.mem_iff.mp (by simp)
theorem zr6{l:List Int}{x:Int}(h:x∈l):(zbt l).headD 0≤x:=by
 have hp:=zbj l
 have ha:=zdA l
 cases e:zbt l with
 | nil=>rw[e] at hp;rw[hp.symm.eq_nil] at h;cases h
 | cons a r =>
  rw[e] at hp ha
  rcases List.mem_cons.mp (hp.mem_iff.mpr h) with rfl | z
  ·simp
  ·simpa using (List.pairwise_cons.mp ha).1 x z
theorem ztp{t:Tr}(h:zam t≠[]):mn t∈zam t:=zlm h
inductive Tn:Tr→Tr→Prop
 | lf (i:Int):Tn (.lf i) (.lf i)
 | any {l l1 l2:List Tr}:Paired Tn l l1→l1.Perm l2→Tn (.nd false l) (.nd false l2)
 | row {l l1 l2:List Tr}:Paired Tn l l1→(l2=l1∨l2=l1.reverse)→Tn (.nd true l) (.nd true l2)
theorem zoG{l1 l2:List Tr}(h:l2=l1∨l2=l1.reverse):l1.Perm l2:=by
 rcases h with rfl | rfl
 ·exact .refl _
 ·exact (List.reverse_perm _).symm
theorem znF{l1 l2:List Tr}(h:l1.Perm l2):zhy l2=zhy l1∧(zau l2).Perm (zau l1)∧(∀ n,zel l1≤n→zel l2≤n)∧l2.length=l1.length:=by
 refine ⟨?_,?_,fun n hn=>?_,h.length_eq.symm⟩
 ·rw[zco,zco,Bool.eq_iff_iff,List.all_eq_true,List.all_eq_true]
  exact ⟨fun k t ht=>k t (h.mem_iff.mp ht),fun k t ht=>k t (h.mem_iff.mpr ht)⟩
 ·rw[zbx,zbx]
  exact (h.flatMap_right zam).symm
 ·rw[zcb] at hn ⊢
  exact fun t ht=>hn t (h.mem_iff.mpr ht)
theorem zdv{n:Nat}(ih:∀ t t',dep t≤n→Tn t t'→okT t'=okT t∧(zam t').Perm (zam t)∧dep t'≤dep t):∀{l l1:List Tr},Paired Tn l l1→zel l≤n→zhy l1=zhy l∧(zau l1).Perm (zau l)∧zel l1≤zel l∧l1.length=l.length
 | _,_,.nil,_=>by simp[zau,zel]
 | t :: l,t' :: l1,.cons h r,hd=>by
  simp only[zel] at hd
  obtain ⟨a1,a2,a3⟩:=ih t t' (by omega) h
  obtain ⟨b1,b2,b3,b4⟩:=zdv ih r (by omega)
  simp only[zhy,zau,zel,List.length_cons]
  exact ⟨by rw[a1,b1],a2.append b2,by omega,by omega⟩
theorem zgo(n:Nat):∀(t t':Tr),dep t≤n→Tn t t'→okT t'=okT t∧(zam t').Perm (zam t)∧dep t'≤dep t:=by
 induction n with
 | zero =>
  intro t t' hd h
  cases t <;> simp[dep] at hd
 | succ n ih =>
  intro t t' hd h
  cases h with
  | lf i=>exact ⟨rfl,.refl _,Nat.le_refl _⟩
  | any hp hq =>
   simp only[dep] at hd
   obtain ⟨b1,b2,b3,b4⟩:=zdv ih hp (by omega)
   obtain ⟨c1,c2,c3,c4⟩:=znF hq
   simp only[okT,zam,dep]
   refine ⟨by rw[c1,b1,c4,b4],c2.trans b2,?_⟩
   have:=c3 _ b3
   omega
  | row hp hq =>
   simp only[dep] at hd
   obtain ⟨b1,b2,b3,b4⟩:=zdv ih hp (by omega)
   obtain ⟨c1,c2,c3,c4⟩:=znF (zoG hq)
   simp only[okT,zam,dep]
   refine ⟨by rw[c1,b1,c4,b4],c2.trans b2,?_⟩
   have:=c3 _ b3
   omega
theorem zoX{α:Type}{ks:List Int}{l:List α}(h:ks.length=l.length):(byK ks l).Perm l:=by
 have:=(zd4 (ks.zip l)).map Prod.snd
 rw[List.map_snd_zip (by omega)] at this
 exact this
theorem zfV{α β:Type}{F:α→β→Prop}(f:α→β):∀{l:List α},(∀ a∈l,F a (f a))→Paired F l (l.map f)
 | [],_=>.nil
 | a :: l,h=>.cons (h a (by simp)) (zfV f fun b hb=>h b (by simp[hb]))
theorem zf7:∀(n:Nat)(t:Tr),dep t≤n→Tn t (zaS t)
 | n,.lf i,_=>by simp only[zaS];exact .lf i
 | 0,.nd r l,h=>by simp[dep] at h
 | n + 1,.nd r l,h=>by
  simp only[dep] at h
  have hp:Paired Tn l (l.map zaS):=zfV zaS fun t ht=>zf7 n t (zcb.mp (by omega:zel l≤n) t ht)
  simp only[zaS]
  rw[zeG]
  cases r with
  | false =>
   refine .any hp ?_
   show (l.map zaS).Perm (byK _ _)
   exact (zoX (by simp)).symm
  | true =>
   refine .row hp ?_
   unfold zlo
   simp only[if_true]
   split
   ·exact .inr rfl
   ·exact .inl rfl
theorem zh8{f:Tr→Int}:∀{l:List Tr},(∀ t∈l,f t∈zam t)→(zau l).Nodup→(l.map f).Nodup
 | [],_,_=>by simp
 | t :: r,hm,hn=>by
  simp only[zau] at hn
  rw[List.nodup_append] at hn
  rw[List.map_cons,List.nodup_cons]
  refine ⟨fun z=>?_,zh8 (fun u hu=>hm u (by simp[hu])) hn.2.1⟩
  obtain ⟨u,hu,e⟩:=List.mem_map.mp z
  have h1:=hm t (by simp)
  have h2:f t∈zau r:=by
   rw[zbx,List.mem_flatMap]
   exact ⟨u,hu,by rw[← e];exact hm u (by simp[hu])⟩
  exact hn.2.2 _ h1 _ h2 rfl
theorem ziz{n:Nat}{l:List Tr}(hd:zel l≤n)(ho:zhy l=true):∀ t∈l.map zaS,mn t∈zam t:=fun u hu=>by
 obtain ⟨t,ht,rfl⟩:=List.mem_map.mp hu
 have h1:=zcb.mp hd t ht
 rw[zco,List.all_eq_true] at ho
 have h2:=zgo n t (zaS t) h1 (zf7 n t h1)
 exact ztp (zex n _ (Nat.le_trans h2.2.2 h1) (by rw[h2.1];exact ho t ht))
theorem zgZ{n:Nat}{l:List Tr}(hd:zel l≤n)(ho:zhy l=true)(hn:(zau l).Nodup):((l.map zaS).map mn).Nodup:=by
 refine zh8 (ziz hd ho) ?_
 have:=(zdv (zgo n) (zfV zaS fun t ht=>zf7 n t (zcb.mp hd t ht)) hd).2.1
 exact this.nodup_iff.mpr hn
theorem zg2:∀{l:List Tr}{t:Tr},t∈l→(zau l).Nodup→(zam t).Nodup
 | [],_,h,_=>by cases h
 | u :: l,t,h,hn=>by
  simp only[zau] at hn
  rw[List.nodup_append] at hn
  rcases List.mem_cons.mp h with rfl | h
  ·exact hn.1
  ·exact zg2 h hn.2.1
theorem zi0(r:Bool):PySem.PyData.strOk (wd r)=true:=by cases r <;> decide +kernel
theorem znf:∀(n:Nat)(t:Tr),dep t≤n→okN (2 * n) (toD t)=true
 | n,.lf i,_=>by simp[toD,okN]
 | 0,.nd r l,h=>by simp[dep] at h
 | n + 1,.nd r l,h=>by
  simp only[dep] at h
  have e:2 * (n + 1)=(2 * n + 1) + 1:=by omega
  rw[e,toD]
  have h2:okN (2 * n + 1) (.tup (zfk l))=true:=by
   simp only[okN,zbY,List.all_eq_true,List.mem_map]
   rintro d ⟨t,ht,rfl⟩
   exact znf n t (zcb.mp (by omega:zel l≤n) t ht)
  have h1:okN (2 * n + 1) (.str (wd r))=true:=by
   rw[okN];exact zi0 r
  rw[okN]
  simp only[List.all_cons,List.all_nil,h1,h2,Bool.and_self]
theorem ok60{t:Tr}(h:dep t≤9):okN 59 (toD t)=true:=zsk (znf 9 t h) (by decide)
def isLf:Tr→Bool
 | .lf _=>true
 | .nd _ _=>false
theorem zf5(t:Tr):zbI [.val (toD t)] = .ok (.bl (isLf t),[.val .non]):=by
 cases t with
 | lf i=>rw[toD];rfl
 | nd r l=>rw[toD];rfl
theorem zdN:∀{l:List Tr}{t:Tr},t∈l→(zam t).length≤(zau l).length
 | [],_,h=>by cases h
 | u :: l,t,h=>by
  simp only[zau,List.length_append]
  rcases List.mem_cons.mp h with rfl | h
  ·omega
  ·have:=zdN h;omega
theorem zfY{F:FD}{x:Option B}:∀{l:List Tr}{acc:List Int}{o:Option B},(∀ t∈l,F [.val (toD t)] = .ok (.lst ((zam t).map .int),[.val .non]))→acc.length + (zau l).length≤1000 →
  ∃ o',ziB (zbo 2) (dEx (zja 1 (zaf F (dR (zab 2) dR0)))) (zfk l) [x,some (.own (acc.map .int)),o] = .ok (.nx,[x,some (.own ((acc ++ zau l).map .int)),o'])
 | [],acc,o,_,_=>⟨o,by simp[zfk,ziB,zau]⟩
 | t :: l,acc,o,h,hl=>by
  simp only[zau,List.length_append] at hl
  obtain ⟨o',e⟩:=zfY (F:=F) (x:=x) (l:=l) (acc:=acc ++ zam t) (o:=some (.val (toD t))) (fun u hu=>h u (by simp[hu])) (by simp only[List.length_append];omega)
  refine ⟨o',?_⟩
  rw[zfk,ziB]
  show ((dEx (zja 1 (zaf F (dR (zab 2) dR0)))) [x,some (.own (acc.map .int)),some (.val (toD t))]).bind _=_
  have e1:dEx (zja 1 (zaf F (dR (zab 2) dR0))) [x,some (.own (acc.map .int)),some (.val (toD t))] = .ok (.nx,[x,some (.own ((acc ++ zam t).map .int)),some (.val (toD t))]):=by
   have ec:=zdg (F:=F) (fa:=zab 2) (ρ:=[x,some (.own (acc.map .int)),some (.val (toD t))]) (ρ':=[x,some (.own (acc.map .int)),some (.val (toD t))]) rfl (h t (by simp))
   unfold dEx zja
   simp only[List.getElem?_cons_succ,List.getElem?_cons_zero,ec,R.bind_ok,zqf]
   rw[if_pos (by simp only[List.length_map];omega)]
   simp
  rw[e1]
  simp only[R.bind_ok]
  rw[e,zau,List.append_assoc]
theorem zfW:∀(n:Nat)(t:Tr),dep t≤n→(zam t).length < 64→zaW n [.val (toD t)] = .ok (.lst ((zam t).map .int),[.val .non])
 | 0,t,h,_=>by cases t <;> simp[dep] at h
 | n + 1,.lf i,h,hl=>by
  refine zar (ρ':=[some (.val (.int i)),none,none]) rfl ?_ rfl
  rw[toD]
  rfl
 | n + 1,.nd r l,h,hl=>by
  simp only[dep] at h
  simp only[zam] at hl ⊢
  have hsub:∀ t∈l,(zam t).length≤(zau l).length:=fun t ht=>zdN ht
  obtain ⟨o',e⟩:=zfY (F:=zaW n) (x:=some (.val (toD (.nd r l)))) (l:=l) (acc:=[]) (o:=none) (fun t ht=>zfW n t (zcb.mp (by omega:zel l≤n) t ht) (by have:=hsub t ht;omega)) (by simp;omega)
  refine zar (ρ':=[some (.val (toD (.nd r l))),some (.val (.lst ((zau l).map .int))),o']) rfl ?_ rfl
  show zcE (zaW n) [some (.val (toD (.nd r l))),none,none]=_
  unfold zcE
  have e0:dIf (dTB (zaf zbI (dR (zab 0) dR0))) (zb2 (dFz (zdl (dA (zab 0) dA0)))) dNx [some (.val (toD (.nd r l))),none,none] = .ok (.nx,[some (.val (toD (.nd r l))),none,none]):=by
   have ec:=zdg (F:=zbI) (fa:=zab 0) (ρ:=[some (.val (toD (.nd r l))),none,none]) (ρ':=[some (.val (toD (.nd r l))),none,none]) rfl (zf5 (.nd r l))
   unfold dIf dTB
   rw[ec]
   rfl
  have e1:zcg 1 (zdl dA0) [some (.val (toD (.nd r l))),none,none] = .ok (.nx,[some (.val (toD (.nd r l))),some (.own []),none]):=rfl
  have e2:zgh (dIt (dOp gIx (zab 0) (dC (.int 1)))) (zbo 2) (dEx (zja 1 (zaf (zaW n) (dR (zab 2) dR0)))) [some (.val (toD (.nd r l))),some (.own []),none] = .ok (.nx,[some (.val (toD (.nd r l))),some (.own ((zau l).map .int)),o']):=by
   unfold zgh
   have:dIt (dOp gIx (zab 0) (dC (.int 1))) [some (.val (toD (.nd r l))),some (.own []),none] = .ok (zfk l,[some (.val (toD (.nd r l))),some (.own []),none]):=by rw[toD];rfl
   rw[this]
   simpa using e
  unfold za4
  rw[e0]
  simp only[R.bind_ok]
  rw[e1]
  simp only[R.bind_ok]
  rw[e2]
  rfl
theorem zkk(t:Tr)(h:dep t≤8)(hl:(zam t).length < 64):zea [.val (toD t)] = .ok (.lst ((zbt (zam t)).map .int),[.val .non]):=by
 refine zar (ρ':=[some (.val (toD t))]) rfl ?_ rfl
 show zfd [some (.val (toD t))]=_
 have ec:=zdg (F:=zaW 8) (fa:=zab 0) (ρ:=[some (.val (toD t))]) (ρ':=[some (.val (toD t))]) rfl (zfW 8 t h hl)
 unfold zfd zb2 dFz zfq dA dA0
 rw[ec]
 simp only[R.bind_ok]
 unfold zd5
 simp only[zeR]
 rw[if_pos hl]
 rfl
theorem zff{t:Tr}(h:dep t≤8)(hl:(zam t).length < 64)(hne:zam t≠[]):za3 [.val (toD t)] = .ok (.int (mn t),[.val .non]):=by
 refine zar (ρ':=[some (.val (toD t))]) rfl ?_ rfl
 show zdZ [some (.val (toD t))]=_
 have ec:=zdg (F:=zea) (fa:=zab 0) (ρ:=[some (.val (toD t))]) (ρ':=[some (.val (toD t))]) rfl (zkk t h hl)
 unfold zdZ zb2 dOp
 rw[ec]
 have hne':zbt (zam t)≠[]:=fun z=>hne (by have:=zbj (zam t);rw[z] at this;exact this.symm.eq_nil)
 cases e:zbt (zam t) with
 | nil=>exact absurd e hne'
 | cons a q =>
  simp only[R.bind_ok,dC,List.map_cons]
  have:gIx (.lst (.int a :: q.map .int)) (.int 0) = .ok (.int a):=by
   unfold gIx
   simp only[zl1]
  rw[this]
  simp only[R.bind_ok]
  unfold mn
  rw[e]
  rfl
theorem zoq{L:List Tr}(h:L≠[]):gIx (.lst (L.map toD)) (.int 0) = .ok (toD (L.headD (.lf 0))):=by
 cases L with
 | nil=>exact absurd rfl h
 | cons a q =>
  unfold gIx
  simp only[List.map_cons,zl1]
  rfl
theorem ziQ{α:Type}{l:List α}(h:l≠[]):atI l (-1)=l.getLast? := by
 unfold atI ixN
 have hl:0 < l.length:=List.length_pos_iff.mpr h
 rw[if_neg (by decide),if_pos (by omega)]
 have e:((-1:Int) + (l.length:Nat)).toNat=l.length - 1:=by omega
 rw[e,Option.bind_some,List.getLast?_eq_getElem?]
theorem znl{L:List Tr}(h:L≠[]):gIx (.lst (L.map toD)) (.int (-1)) = .ok (toD (L.getLastD (.lf 0))):=by
 unfold gIx
 have:atI (L.map toD) (-1)=some (toD (L.getLastD (.lf 0))):=by
  rw[ziQ (by simpa using h),List.getLast?_map,List.getLastD_eq_getLast?]
  cases e:L.getLast? with
  | none=>exact absurd (List.getLast?_eq_none_iff.mp e) h
  | some a=>rfl
 simp only[this]
theorem zjg:∀{l:List Int},l.Nodup→zgP l=true
 | [],_=>rfl
 | a :: r,h=>by
  rw[List.nodup_cons] at h
  unfold zgP
  rw[zjg h.2,Bool.and_true]
  simpa using h.1
theorem zlE{α β:Type}(f:α→β)(p:Int × α):∀ l:List (Int × α),zms (p.1,f p.2) (l.map fun q=>(q.1,f q.2))=(zms p l).map fun q=>(q.1,f q.2)
 | []=>rfl
 | q :: r=>by
  simp only[List.map_cons,zms]
  split
  ·rfl
  ·simp only[List.map_cons,zlE f p r]
theorem zjJ{α β:Type}(f:α→β):∀ l:List (Int × α),zhm (l.map fun q=>(q.1,f q.2))=(zhm l).map fun q=>(q.1,f q.2)
 | []=>rfl
 | q :: r=>by
  simp only[List.map_cons,zhm,zjJ f r]
  exact zlE f q _
theorem zq0{α β:Type}(f:α→β)(ks:List Int)(l:List α):byK ks (l.map f)=(byK ks l).map f:=by
 unfold byK
 have:ks.zip (l.map f)=(ks.zip l).map fun q=>(q.1,f q.2):=by
  rw[List.zip_map_right]
  rfl
 rw[this,zjJ,List.map_map,List.map_map]
 rfl
theorem ziT:∀{L:List Tr},(∀ t∈L,dep t≤8∧(zam t).length < 64∧zam t≠[])→zee za3 (L.map toD)=some (L.map mn)
 | [],_=>rfl
 | t :: r,h=>by
  have ht:=h t (by simp)
  have ih:zee za3 (r.map toD)=some (r.map mn):=ziT fun u hu=>h u (List.mem_cons_of_mem _ hu)
  rw[List.map_cons,zee,zff ht.1 ht.2.1 ht.2.2]
  simp only[ih]
  rfl
theorem eqS{x y:Str}:eqD (.str x) (.str y)=(x == y):=by rw[eqD]
theorem ztw(r:Bool):(wd r == Str.ofString "any") = !r:=by cases r <;> decide +kernel
theorem znz:PySem.PyData.strOk (Str.ofString "any")=true:=by decide +kernel
theorem zqa{D:List Dt}{r:Bool}{x:Dt}{ρ:Ev}{i:Nat}(h:ρ[i]? = some (some (.val (.tup [.str (wd r),x])))):dTB (dOp (gEq false) (dOp gIx (zab i) (dC (.int 0))) (dC (.str (Str.ofString "any")))) ρ = .ok (!r,ρ):=by
 have e:dOp gIx (zab i) (dC (.int 0)) ρ = .ok (.str (wd r),ρ):=by
  unfold dOp zab
  rw[h]
  rfl
 unfold dTB
 rw[dOp,e]
 simp only[R.bind_ok,dC]
 rw[zdt (by rw[okN];exact zi0 r) (by rw[okN];exact znz),eqS,ztw]
 rfl
theorem zle{n:Nat}{r:Bool}{l:List Tr}(hd:zel l≤n)(ho:okT (.nd r l)=true)(hn:(zau l).Nodup)(hl:(zau l).length < 64) :
  (∀ t∈l.map zaS,dep t≤n∧(zam t).length < 64∧zam t≠[])∧((l.map zaS).map mn).Nodup∧l.map zaS≠[]∧2≤(l.map zaS).length∧(l.map zaS).length < 64:=by
 simp only[okT,Bool.and_eq_true,decide_eq_true_eq] at ho
 have h2:2≤l.length:=by have:=ho.1;cases r <;> simp at this <;> omega
 refine ⟨fun u hu=>?_,zgZ hd ho.2 hn,?_,by simpa using h2,?_⟩
 ·obtain ⟨t,ht,rfl⟩:=List.mem_map.mp hu
  have h1:=zcb.mp hd t ht
  have ho':=ho.2
  rw[zco,List.all_eq_true] at ho'
  obtain ⟨q1,q2,q3⟩:=zgo n t (zaS t) h1 (zf7 n t h1)
  refine ⟨Nat.le_trans q3 h1,?_,zex n _ (Nat.le_trans q3 h1) (by rw[q1];exact ho' t ht)⟩
  have:=zdN ht
  rw[q2.length_eq]
  omega
 ·intro z
  rw[List.map_eq_nil_iff] at z
  rw[z] at h2;simp at h2
 ·rw[List.length_map]
  have:l.length≤(zau l).length:=by
   have hok:=ho.2
   have:∀(l:List Tr),zel l≤n→zhy l=true→l.length≤(zau l).length:=by
    intro l
    induction l with
    | nil=>intros;simp
    | cons t q ih =>
     intro hd ho
     simp only[zel] at hd
     simp only[zhy,Bool.and_eq_true] at ho
     have h1:=List.length_pos_iff.mpr (zex n t (by omega) ho.1)
     have h2:=ih (by omega) ho.2
     simp only[zau,List.length_append,List.length_cons]
     omega
   exact this l hd hok
  omega
theorem zlw:∀(n:Nat)(t:Tr),n≤8→dep t≤n→okT t=true→(zam t).Nodup→(zam t).length < 64→zcc n [.val (toD t)] = .ok (toD (zaS t),[.val .non])
 | 0,t,_,h,_,_,_=>by cases t <;> simp[dep] at h
 | n + 1,.lf i,h8,h,ho,hn,hl=>by
  refine zar (ρ':=[some (.val (.int i)),none]) rfl ?_ rfl
  rw[toD,zaS]
  rfl
 | n + 1,.nd r l,h8,h,ho,hn,hl=>by
  simp only[dep] at h
  simp only[zam] at hl hn
  have hd:zel l≤n:=by omega
  obtain ⟨B1,B2,B3,B4,B5⟩:=zle hd ho hn hl
  have ho2:∀ t∈l,okT t=true:=by
   simp only[okT,Bool.and_eq_true] at ho
   have:=ho.2
   rw[zco,List.all_eq_true] at this
   exact this
  have hn2:∀ t∈l,(zam t).Nodup:=fun t ht=>zg2 ht hn
  have hD:toD (.nd r l) = .tup [.str (wd r),.tup (zfk l)]:=by rw[toD]
  have e0:dIf (dTB (zaf zbI (dR (zab 0) dR0))) (zb2 (zab 0)) dNx [some (.val (toD (.nd r l))),none] = .ok (.nx,[some (.val (toD (.nd r l))),none]):=by
   have ec:=zdg (F:=zbI) (fa:=zab 0) (ρ:=[some (.val (toD (.nd r l))),none]) (ρ':=[some (.val (toD (.nd r l))),none]) rfl (zf5 (.nd r l))
   unfold dIf dTB
   rw[ec]
   rfl
  have e1:zbg 1 (dFz (zaO (dIt (dOp gIx (zab 0) (dC (.int 1)))) (zbo 2) dTT (zaf (zcc n) (dR (zab 2) dR0)) 1)) [some (.val (toD (.nd r l))),none] = .ok (.nx,[some (.val (toD (.nd r l))),some (.val (.lst ((l.map zaS).map toD)))]):=by
   have:=zbu (ρ0:=[some (.val (toD (.nd r l))),none]) (fi:=dIt (dOp gIx (zab 0) (dC (.int 1)))) (fe:=zaf (zcc n) (dR (zab 2) dR0)) (l:=l) (u:=toD) (f:=fun t=>toD (zaS t)) (ds:=zfk l) (j:=2) (by rw[hD];rfl) (zbY l) (by simp only[List.length_map] at B5;omega)
    (fun t ht=>zdg (ρ':=[some (.val (toD (.nd r l))),none] ++ [some (.val (toD t))]) rfl (zlw n t (by omega) (zcb.mp hd t ht) (ho2 t ht) (hn2 t ht) (by have:=zdN ht;omega))) rfl
   unfold zbg dFz
   rw[this]
   simp only[R.bind_ok]
   rw[List.map_map]
   rfl
  have e2:dIf (dTB (dOp (gEq false) (dOp gIx (zab 0) (dC (.int 0))) (dC (.str (Str.ofString "any"))))) (zbg 1 (dFz (zjG za3 (zab 1)))) (dIf (dTB (dOp gGt (zaf za3 (dR (dOp gIx (zab 1) (dC (.int 0))) dR0)) (zaf za3 (dR (dOp gIx (zab 1) (zm5 (dC (.int 1)))) dR0)))) (zbg 1 (dFz (zjI (zab 1)))) dNx) [some (.val (toD (.nd r l))),some (.val (.lst ((l.map zaS).map toD)))] = .ok (.nx,[some (.val (toD (.nd r l))),some (.val (.lst ((zlo r (l.map zaS)).map toD)))]):=by
   unfold dIf
   rw[zqa (D:=[]) (r:=r) (x:=.tup (zfk l)) (by rw[hD];rfl)]
   simp only[R.bind_ok]
   cases r with
   | false =>
    simp only[Bool.not_false,if_true]
    unfold zbg dFz zjG
    show ((((match zee za3 ((l.map zaS).map toD) with | some ks=>if (decide (((l.map zaS).map toD).length < 64) && zgP ks)=true then R.ok (byK ks ((l.map zaS).map toD),_) else .no | none=>.no):R (List Dt × Ev)).bind _).bind _)=_
    rw[ziT fun t ht=>by
     have:=B1 t ht
     exact ⟨by omega,this.2⟩]
    simp only
    rw[zjg B2,if_pos (by simp only[Bool.and_true,decide_eq_true_eq,List.length_map] at B5 ⊢;exact B5)]
    rw[zq0]
    rfl
   | true =>
    rw[if_neg (by decide)]
    have c1:=zdg (F:=za3) (fa:=dOp gIx (zab 1) (dC (.int 0))) (ρ:=[some (.val (toD (.nd true l))),some (.val (.lst ((l.map zaS).map toD)))]) (ρ':=[some (.val (toD (.nd true l))),some (.val (.lst ((l.map zaS).map toD)))]) (d:=toD ((l.map zaS).headD (.lf 0))) (by
      show ((gIx (.lst ((l.map zaS).map toD)) (.int 0)).bind _)=_
      rw[zoq B3];rfl) (by
      have hm:(l.map zaS).headD (.lf 0)∈l.map zaS:=by
       cases e:l.map zaS with
       | nil=>exact absurd e B3
       | cons a q=>simp
      have:=B1 _ hm
      exact zff (by omega) this.2.1 this.2.2)
    have c2:=zdg (F:=za3) (fa:=dOp gIx (zab 1) (zm5 (dC (.int 1)))) (ρ:=[some (.val (toD (.nd true l))),some (.val (.lst ((l.map zaS).map toD)))]) (ρ':=[some (.val (toD (.nd true l))),some (.val (.lst ((l.map zaS).map toD)))]) (d:=toD ((l.map zaS).getLastD (.lf 0))) (by
      show ((gIx (.lst ((l.map zaS).map toD)) (.int (-1))).bind _)=_
      rw[znl B3];rfl) (by
      have hm:(l.map zaS).getLastD (.lf 0)∈l.map zaS:=by
       rw[List.getLastD_eq_getLast?]
       cases e:(l.map zaS).getLast? with
       | none=>exact absurd (List.getLast?_eq_none_iff.mp e) B3
       | some a=>exact List.mem_of_getLast? e
      have:=B1 _ hm
      exact zff (by omega) this.2.1 this.2.2)
    have c3:dTB (dOp gGt (zaf za3 (dR (dOp gIx (zab 1) (dC (.int 0))) dR0)) (zaf za3 (dR (dOp gIx (zab 1) (zm5 (dC (.int 1)))) dR0))) [some (.val (toD (.nd true l))),some (.val (.lst ((l.map zaS).map toD)))] = .ok (decide (mn ((l.map zaS).getLastD (.lf 0)) < mn ((l.map zaS).headD (.lf 0))),[some (.val (toD (.nd true l))),some (.val (.lst ((l.map zaS).map toD)))]):=by
     exact zbd (zaz c1 c2 rfl)
    rw[c3]
    simp only[R.bind_ok]
    unfold zlo
    rw[if_pos rfl]
    by_cases hgt:mn ((l.map zaS).getLastD (.lf 0)) < mn ((l.map zaS).headD (.lf 0))
    ·rw[if_pos (decide_eq_true hgt),if_pos hgt]
     rw[List.map_reverse]
     rfl
    ·rw[if_neg (by simpa using hgt),if_neg hgt]
     rfl
  refine zar (ρ':=[some (.val (toD (.nd r l))),some (.val (.lst ((zlo r (l.map zaS)).map toD)))]) rfl ?_ rfl
  show zfc (zcc n) [some (.val (toD (.nd r l))),none]=_
  unfold zfc za4
  rw[e0]
  simp only[R.bind_ok]
  rw[e1]
  simp only[R.bind_ok]
  rw[e2]
  simp only[R.bind_ok]
  rw[zaS,zeG,hD,toD]
  simp only[zbY]
  rfl
theorem zg1{F:FD}{x:Option B}:∀{l:List Tr}{acc:List Int}{o:Option B},(∀ t∈l,F [.val (toD t)] = .ok (.lst ((zam t).map .int),[.val .non]))→acc.length + (zau l).length≤1000 →
  ∃ o',ziB (zbo 2) (zbg 1 (dFz (zj8 (zab 1) (zaf F (dR (zab 2) dR0))))) (zfk l) [x,some (.val (.lst (acc.map .int))),o] = .ok (.nx,[x,some (.val (.lst ((acc ++ zau l).map .int))),o'])
 | [],acc,o,_,_=>⟨o,by simp[zfk,ziB,zau]⟩
 | t :: l,acc,o,h,hl=>by
  simp only[zau,List.length_append] at hl
  obtain ⟨o',e⟩:=zg1 (F:=F) (x:=x) (l:=l) (acc:=acc ++ zam t) (o:=some (.val (toD t))) (fun u hu=>h u (List.mem_cons_of_mem _ hu)) (by simp only[List.length_append];omega)
  refine ⟨o',?_⟩
  rw[zfk,ziB]
  show ((zbg 1 (dFz (zj8 (zab 1) (zaf F (dR (zab 2) dR0))))) [x,some (.val (.lst (acc.map .int))),some (.val (toD t))]).bind _=_
  have e1:zbg 1 (dFz (zj8 (zab 1) (zaf F (dR (zab 2) dR0)))) [x,some (.val (.lst (acc.map .int))),some (.val (toD t))] = .ok (.nx,[x,some (.val (.lst ((acc ++ zam t).map .int))),some (.val (toD t))]):=by
   have ec:=zdg (F:=F) (fa:=zab 2) (ρ:=[x,some (.val (.lst (acc.map .int))),some (.val (toD t))]) (ρ':=[x,some (.val (.lst (acc.map .int))),some (.val (toD t))]) rfl (h t (by simp))
   have e2:zj8 (zab 1) (zaf F (dR (zab 2) dR0)) [x,some (.val (.lst (acc.map .int))),some (.val (toD t))] = .ok ((acc ++ zam t).map .int,[x,some (.val (.lst (acc.map .int))),some (.val (toD t))]):=by
    have ev:zab 1 [x,some (.val (.lst (acc.map .int))),some (.val (toD t))] = .ok (.lst (acc.map .int),[x,some (.val (.lst (acc.map .int))),some (.val (toD t))]):=rfl
    unfold zj8
    rw[ev]
    simp only[R.bind_ok]
    rw[ec]
    simp only[R.bind_ok]
    rw[if_pos (by simp only[List.length_map];omega),List.map_append]
   exact zby (zb1 e2) (by simp)
  rw[e1]
  simp only[R.bind_ok]
  rw[e,zau,List.append_assoc]
theorem zgQ:∀(n:Nat)(t:Tr),dep t≤n→(zam t).length≤1000→zax n [.val (toD t)] = .ok (.lst ((zam t).map .int),[.val .non])
 | 0,t,h,_=>by cases t <;> simp[dep] at h
 | n + 1,.lf i,h,hl=>by
  refine zar (ρ':=[some (.val (.int i)),none,none]) rfl ?_ rfl
  rw[toD,zam]
  rfl
 | n + 1,.nd r l,h,hl=>by
  simp only[dep] at h
  simp only[zam] at hl ⊢
  obtain ⟨o',e⟩:=zg1 (F:=zax n) (x:=some (.val (toD (.nd r l)))) (l:=l) (acc:=[]) (o:=none) (fun t ht=>zgQ n t (zcb.mp (by omega:zel l≤n) t ht) (by have:=zdN ht;omega)) (by simp;omega)
  have hD:toD (.nd r l) = .tup [.str (wd r),.tup (zfk l)]:=by rw[toD]
  refine zar (ρ':=[some (.val (toD (.nd r l))),some (.val (.lst ((zau l).map .int))),o']) rfl ?_ rfl
  show zdT (zax n) [some (.val (toD (.nd r l))),none,none]=_
  unfold zdT
  rw[zal (ρ1:=[some (.val (toD (.nd r l))),none,none]) (by rw[hD];rfl)]
  rw[zal (ρ1:=[some (.val (toD (.nd r l))),some (.val (.lst [])),none]) rfl]
  rw[zal (ρ1:=[some (.val (toD (.nd r l))),some (.val (.lst ((zau l).map .int))),o'])]
  ·rfl
  ·unfold zgh
   have:dIt (dOp gIx (zab 0) (dC (.int 1))) [some (.val (toD (.nd r l))),some (.val (.lst [])),none] = .ok (zfk l,[some (.val (toD (.nd r l))),some (.val (.lst [])),none]):=by rw[hD];rfl
   rw[this]
   simpa using e
theorem zq6{l:List Int}(h:l≠[]):zmO l=(zbt l).headD 0:=(zql (zlm h) fun a ha=>zr6 ha).symm
def tdN:Nat→Dt→Bool
 | _,.int _=>true
 | _,.str x=>PySem.PyData.strOk x
 | n + 1,.tup l=>decide (l.length≤1000) && l.all (tdN n)
 | _,_=>false
theorem ziO{n:Nat}:∀(l:List Tr),zel l≤n→zhy l=true→l.length≤(zau l).length
 | [],_,_=>by simp
 | t :: q,hd,ho=>by
  simp only[zel] at hd
  simp only[zhy,Bool.and_eq_true] at ho
  have h1:=List.length_pos_iff.mpr (zex n t (by omega) ho.1)
  have h2:=ziO (n:=n) q (by omega) ho.2
  simp only[zau,List.length_append,List.length_cons]
  omega
theorem znA:∀(n:Nat)(t:Tr),dep t≤n→okT t=true→(zam t).length < 64→tdN (2 * n) (toD t)=true
 | n,.lf i,_,_,_=>by rw[toD];cases n <;> rfl
 | 0,.nd r l,h,_,_=>by simp[dep] at h
 | n + 1,.nd r l,h,ho,hl=>by
  simp only[dep] at h
  simp only[okT,Bool.and_eq_true] at ho
  simp only[zam] at hl
  have e:2 * (n + 1)=(2 * n + 1) + 1:=by omega
  rw[e,toD]
  have hk:=ziO (n:=n) l (by omega) ho.2
  have ho2:=ho.2
  rw[zco,List.all_eq_true] at ho2
  have h2:tdN (2 * n + 1) (.tup (zfk l))=true:=by
   rw[tdN,zbY,Bool.and_eq_true,List.all_eq_true]
   refine ⟨by simp only[List.length_map,decide_eq_true_eq];omega,fun d hd=>?_⟩
   obtain ⟨t,ht,rfl⟩:=List.mem_map.mp hd
   exact znA n t (zcb.mp (by omega:zel l≤n) t ht) (ho2 t ht) (by have:=zdN ht;omega)
  have h1:tdN (2 * n + 1) (.str (wd r))=true:=zi0 r
  rw[tdN]
  simp only[List.all_cons,List.all_nil,h1,h2,Bool.and_self,List.length_cons,List.length_nil]
  rfl
theorem okB{b:Bool}:okN 60 (.bl b)=true:=rfl
theorem eqB{a b:Bool}:eqD (.bl a) (.bl b)=(a == b):=by rw[eqD]
theorem ziu{f:Dt→Dt}{fe:De}{a b:Option B}:∀{l:List Dt}{o o2:Option B},(∀ d∈l,fe [a,b,some (.val d),some (.val d)] = .ok (f d,[a,b,some (.val d),some (.val d)]))→∃ o' o2',zbA (zgi 2 3) dTT fe (l.map fun d=>.tup [d,d]) [a,b,o,o2] = .ok (l.map f,[a,b,o',o2'])
 | [],o,o2,_=>⟨o,o2,rfl⟩
 | d :: l,o,o2,h=>by
  obtain ⟨o',o2',e⟩:=ziu (l:=l) (o:=some (.val d)) (o2:=some (.val d)) fun c hc=>h c (List.mem_cons_of_mem _ hc)
  refine ⟨o',o2',?_⟩
  rw[List.map_cons,zbA]
  show (((fe [a,b,some (.val d),some (.val d)]).bind fun y=>(zbA (zgi 2 3) dTT fe (l.map fun d=>.tup [d,d]) y.2).bind fun z=>R.ok (y.1 :: z.1,z.2)):R _)=_
  rw[h d (by simp)]
  simp only[R.bind_ok]
  rw[e]
  rfl
theorem zfG:∀(l:List Dt),zeK (l.map fun _=>Dt.bl true)=some (l.map fun _=>true)
 | []=>rfl
 | d :: l=>by simp[zeK,zfG l]
theorem zjK{F:FD}{d:Dt}(h1:(zhE (tyD d) "tuple" || zhE (tyD d) "list")=false)(h2:okN 60 d=true)(h3:eqD d d=true):zca F [some (.val d),some (.val d)] = .ok (.rt (.bl true),[some (.val d),some (.val d)]):=by
 unfold zca
 have e0:dTB (zrk "tuple" "list" (zab 1)) [some (.val d),some (.val d)] = .ok (false,[some (.val d),some (.val d)]):=by
  show R.ok ((zhE (tyD d) "tuple" || zhE (tyD d) "list"),[some (B.val d),some (.val d)])=_
  rw[h1]
 rw[zal (ρ1:=[some (.val d),some (.val d)]) (by rw[zcH e0];rfl)]
 refine zb3 ?_
 have e1:dOp (gEq false) (zab 0) (zab 1) [some (.val d),some (.val d)] = .ok (.bl true,[some (.val d),some (.val d)]):=zaz rfl rfl (by rw[zdt h2 h2,h3];rfl)
 have e2:dOp (gEq false) (ze2 "bool" (zab 0)) (ze2 "bool" (zab 1)) [some (.val d),some (.val d)] = .ok (.bl true,[some (.val d),some (.val d)]):=zaz rfl rfl (by
  rw[zdt okB okB,eqB];simp)
 unfold zjf
 rw[e1]
 simp only[R.bind_ok]
 rw[e2]
theorem zlC{n:Nat}{l:List Dt}(hl:l.length≤1000)(hs:∀ d∈l,zap (n + 1) [.val d,.val d] = .ok (.bl true,[.val .non,.val .non])):zap (n + 2) [.val (.tup l),.val (.tup l)] = .ok (.bl true,[.val .non,.val .non]):=by
  refine zar (ρ':=[some (.val (.tup l)),some (.val (.tup l))]) rfl ?_ rfl
  show zca (zap (n + 1)) [some (.val (.tup l)),some (.val (.tup l))]=_
  unfold zca
  refine zdx ?_
  rw[zev (ρ1:=[some (.val (.tup l)),some (.val (.tup l))]) rfl]
  have t1:dTB (dOp (gEq true) (ze2 "tuple" (zab 0)) (ze2 "tuple" (zab 1))) [some (.val (.tup l)),some (.val (.tup l))] = .ok (false,[some (.val (.tup l)),some (.val (.tup l))]):=zbd (zaz rfl rfl (by rw[zdt okB okB,eqB];simp))
  have t2:dTB (dOp (gEq true) (ze2 "list" (zab 0)) (ze2 "list" (zab 1))) [some (.val (.tup l)),some (.val (.tup l))] = .ok (false,[some (.val (.tup l)),some (.val (.tup l))]):=zbd (zaz rfl rfl (by rw[zdt okB okB,eqB];simp))
  have t3:dTB (dOp (gEq true) (dFn zde (dA (zab 0) dA0)) (dFn zde (dA (zab 1) dA0))) [some (.val (.tup l)),some (.val (.tup l))] = .ok (false,[some (.val (.tup l)),some (.val (.tup l))]):=zbd (zaz (d:=.int l.length) (e:=.int l.length) rfl rfl (by rw[zdt rfl rfl,eqI];simp))
  rw[zal (ρ1:=[some (.val (.tup l)),some (.val (.tup l))]) (by rw[zcH (ρ1:=[some (.val (.tup l)),some (.val (.tup l))]) (by rw[zjX t1,t2])];rfl)]
  rw[zal (ρ1:=[some (.val (.tup l)),some (.val (.tup l))]) (by rw[zcH t3];rfl)]
  refine zb3 ?_
  obtain ⟨o',o2',e⟩:=ziu (a:=some (.val (.tup l))) (b:=some (.val (.tup l))) (fe:=zaf (zap (n + 1)) (dR (zab 2) (dR (zab 3) dR0))) (f:=fun _=>.bl true) (l:=l) (o:=none) (o2:=none) fun d hd =>
   zcP (ρ':=[some (.val (.tup l)),some (.val (.tup l)),some (.val d),some (.val d)]) rfl rfl (hs d hd)
  have ez:∀(l:List Dt),(l.zip l).map (fun z=>Dt.tup [z.1,z.2])=l.map fun d=>.tup [d,d]:=fun l=>by
   induction l with
   | nil=>rfl
   | cons d l ih=>simp[ih]
  have ec:dFz (zaO (zkC (zab 0) (zab 1)) (zgi 2 3) dTT (zaf (zap (n + 1)) (dR (zab 2) (dR (zab 3) dR0))) 2) [some (.val (.tup l)),some (.val (.tup l))] = .ok (.lst (l.map fun _=>.bl true),[some (.val (.tup l)),some (.val (.tup l))]):=by
   refine zb1 ?_
   have eZ:zkC (zab 0) (zab 1) [some (.val (.tup l)),some (.val (.tup l))] = .ok (l.map fun d=>.tup [d,d],[some (.val (.tup l)),some (.val (.tup l))]):=by
    show (if l.length=l.length then R.ok ((l.zip l).map (fun z=>Dt.tup [z.1,z.2]),[some (B.val (.tup l)),some (.val (.tup l))]) else .no)=_
    rw[if_pos rfl,ez]
   unfold zaO
   rw[eZ]
   simp only[R.bind_ok]
   rw[if_pos (by unfold zem;simp only[List.length_map,decide_eq_true_eq];omega)]
   show (match zbA (zgi 2 3) dTT (zaf (zap (n + 1)) (dR (zab 2) (dR (zab 3) dR0))) (l.map fun d=>.tup [d,d]) [some (.val (.tup l)),some (.val (.tup l)),none,none] with | .ok z=>R.ok (z.1,z.2.take 2) | _=>.no)=_
   rw[e]
   rfl
  refine zcp ec ?_
  unfold zlT
  simp only[zfG]
  simp
theorem zpg{n:Nat}{l:List Dt}(hl:l.length≤1000)(hs:∀ d∈l,zap (n + 1) [.val d,.val d] = .ok (.bl true,[.val .non,.val .non])):zap (n + 2) [.val (.lst l),.val (.lst l)] = .ok (.bl true,[.val .non,.val .non]):=by
  refine zar (ρ':=[some (.val (.lst l)),some (.val (.lst l))]) rfl ?_ rfl
  show zca (zap (n + 1)) [some (.val (.lst l)),some (.val (.lst l))]=_
  unfold zca
  refine zdx ?_
  rw[zev (ρ1:=[some (.val (.lst l)),some (.val (.lst l))]) rfl]
  have t1:dTB (dOp (gEq true) (ze2 "tuple" (zab 0)) (ze2 "tuple" (zab 1))) [some (.val (.lst l)),some (.val (.lst l))] = .ok (false,[some (.val (.lst l)),some (.val (.lst l))]):=zbd (zaz rfl rfl (by rw[zdt okB okB,eqB];simp))
  have t2:dTB (dOp (gEq true) (ze2 "list" (zab 0)) (ze2 "list" (zab 1))) [some (.val (.lst l)),some (.val (.lst l))] = .ok (false,[some (.val (.lst l)),some (.val (.lst l))]):=zbd (zaz rfl rfl (by rw[zdt okB okB,eqB];simp))
  have t3:dTB (dOp (gEq true) (dFn zde (dA (zab 0) dA0)) (dFn zde (dA (zab 1) dA0))) [some (.val (.lst l)),some (.val (.lst l))] = .ok (false,[some (.val (.lst l)),some (.val (.lst l))]):=zbd (zaz (d:=.int l.length) (e:=.int l.length) rfl rfl (by rw[zdt rfl rfl,eqI];simp))
  rw[zal (ρ1:=[some (.val (.lst l)),some (.val (.lst l))]) (by rw[zcH (ρ1:=[some (.val (.lst l)),some (.val (.lst l))]) (by rw[zjX t1,t2])];rfl)]
  rw[zal (ρ1:=[some (.val (.lst l)),some (.val (.lst l))]) (by rw[zcH t3];rfl)]
  refine zb3 ?_
  obtain ⟨o',o2',e⟩:=ziu (a:=some (.val (.lst l))) (b:=some (.val (.lst l))) (fe:=zaf (zap (n + 1)) (dR (zab 2) (dR (zab 3) dR0))) (f:=fun _=>.bl true) (l:=l) (o:=none) (o2:=none) fun d hd =>
   zcP (ρ':=[some (.val (.lst l)),some (.val (.lst l)),some (.val d),some (.val d)]) rfl rfl (hs d hd)
  have ez:∀(l:List Dt),(l.zip l).map (fun z=>Dt.tup [z.1,z.2])=l.map fun d=>.tup [d,d]:=fun l=>by
   induction l with
   | nil=>rfl
   | cons d l ih=>simp[ih]
  have ec:dFz (zaO (zkC (zab 0) (zab 1)) (zgi 2 3) dTT (zaf (zap (n + 1)) (dR (zab 2) (dR (zab 3) dR0))) 2) [some (.val (.lst l)),some (.val (.lst l))] = .ok (.lst (l.map fun _=>.bl true),[some (.val (.lst l)),some (.val (.lst l))]):=by
   refine zb1 ?_
   have eZ:zkC (zab 0) (zab 1) [some (.val (.lst l)),some (.val (.lst l))] = .ok (l.map fun d=>.tup [d,d],[some (.val (.lst l)),some (.val (.lst l))]):=by
    show (if l.length=l.length then R.ok ((l.zip l).map (fun z=>Dt.tup [z.1,z.2]),[some (B.val (.lst l)),some (.val (.lst l))]) else .no)=_
    rw[if_pos rfl,ez]
   unfold zaO
   rw[eZ]
   simp only[R.bind_ok]
   rw[if_pos (by unfold zem;simp only[List.length_map,decide_eq_true_eq];omega)]
   show (match zbA (zgi 2 3) dTT (zaf (zap (n + 1)) (dR (zab 2) (dR (zab 3) dR0))) (l.map fun d=>.tup [d,d]) [some (.val (.lst l)),some (.val (.lst l)),none,none] with | .ok z=>R.ok (z.1,z.2.take 2) | _=>.no)=_
   rw[e]
   rfl
  refine zcp ec ?_
  unfold zlT
  simp only[zfG]
  simp
theorem zg7:∀(n:Nat)(d:Dt),tdN n d=true→okN 60 d=true→zap (n + 1) [.val d,.val d] = .ok (.bl true,[.val .non,.val .non])
 | n,.int i,ht,ho=>zar rfl (zjK rfl ho (by rw[eqI];simp)) rfl
 | n,.str x,ht,ho=>zar rfl (zjK rfl ho (by rw[eqS];simp)) rfl
 | 0,.tup l,ht,ho=>by simp[tdN] at ht
 | n + 1,.tup l,ht,ho=>by
  rw[tdN,Bool.and_eq_true,List.all_eq_true,decide_eq_true_eq] at ht
  exact zlC ht.1 fun d hd=>zg7 n d (ht.2 d hd) (by
   rw[okN,List.all_eq_true] at ho
   exact zfy _ _ (ho d hd))
 | n,.non,ht,ho=>by cases n <;> simp[tdN] at ht
 | n,.bl _,ht,ho=>by cases n <;> simp[tdN] at ht
 | n,.lst _,ht,ho=>by cases n <;> simp[tdN] at ht
 | n,.dct,ht,ho=>by cases n <;> simp[tdN] at ht
 | n,.scr _,ht,ho=>by cases n <;> simp[tdN] at ht
theorem zlM:∀(n:Nat)(d:Dt),tdN n d=true→tdN (n + 1) d=true
 | n,.int _,_=>rfl
 | n,.str x,h=>by cases n <;> simpa [tdN] using h
 | 0,.tup l,h=>by simp[tdN] at h
 | n + 1,.tup l,h=>by
  rw[tdN,Bool.and_eq_true,List.all_eq_true] at h ⊢
  exact ⟨h.1,fun d hd=>zlM n d (h.2 d hd)⟩
 | n,.non,h=>by cases n <;> simp[tdN] at h
 | n,.bl _,h=>by cases n <;> simp[tdN] at h
 | n,.lst _,h=>by cases n <;> simp[tdN] at h
 | n,.dct,h=>by cases n <;> simp[tdN] at h
 | n,.scr _,h=>by cases n <;> simp[tdN] at h
theorem zor{t:Tr}(h:dep t≤7)(ho:okT t=true)(hl:(zam t).length < 64):zap 16 [.val (toD t),.val (toD t)] = .ok (.bl true,[.val .non,.val .non]) :=
 zg7 15 _ (zlM _ _ (znA 7 t h ho hl)) (zfy _ _ (ok60 (by omega)))
theorem znX{k:Nat}(p:List Int)(hl:p.length≤1000):zap (k + 2) [.val (tz p),.val (tz p)] = .ok (.bl true,[.val .non,.val .non]):=by
 unfold tz
 refine zlC (by simpa using hl) fun d hd=>?_
 obtain ⟨i,_,rfl⟩:=List.mem_map.mp hd
 exact zg7 k (.int i) (by cases k <;> rfl) rfl
theorem zqH{k:Nat}(ps:List (List Int))(hl:ps.length≤1000)(h:∀ p∈ps,p.length≤1000):zap (k + 3) [.val (.lst (lp ps)),.val (.lst (lp ps))] = .ok (.bl true,[.val .non,.val .non]):=by
 refine zpg (by unfold lp;simpa using hl) fun d hd=>?_
 obtain ⟨p,hp,rfl⟩:=List.mem_map.mp hd
 exact znX p (h p hp)
def zmP(t:Tr):List Tr→List Tr
 | []=>[t]
 | a :: r=>if mn a < mn t then a :: zmP t r else t :: a :: r
def ze4(t:Tr)(l:List Tr):List Tr:=l.filter fun o=>decide (mn o < mn t)
theorem zqp(t:Tr):∀(l:List Tr),l.Pairwise (fun a b=>mn a≤mn b)→l.take (ze4 t l).length ++ t :: l.drop (ze4 t l).length=zmP t l
 | [],_=>rfl
 | a :: r,h=>by
  have ih:=zqp t r h.tail
  unfold zmP
  by_cases hm:mn a < mn t
  ·rw[if_pos hm]
   have e:ze4 t (a :: r)=a :: ze4 t r:=by unfold ze4;rw[List.filter_cons_of_pos (by simpa using hm)]
   rw[e]
   simp only[List.length_cons,List.take_succ_cons,List.drop_succ_cons,List.cons_append,ih]
  ·rw[if_neg hm]
   have e:ze4 t (a :: r)=[]:=by
    unfold ze4
    rw[List.filter_eq_nil_iff]
    intro o ho
    rcases List.mem_cons.mp ho with rfl | ho
    ·simpa using hm
    ·have:=(List.pairwise_cons.mp h).1 o ho
     simp only[decide_eq_true_eq]
     omega
   rw[e]
   rfl
theorem zen(t:Tr):∀ l:List Tr,(zmP t l).Perm (t :: l)
 | []=>.refl _
 | a :: r=>by
  unfold zmP
  split
  ·exact ((zen t r).cons a).trans (.swap ..)
  ·exact .refl _
theorem zie(t:Tr):∀ l:List Tr,l.Pairwise (fun a b=>mn a≤mn b)→(zmP t l).Pairwise (fun a b=>mn a≤mn b)
 | [],_=>by simp[zmP]
 | a :: r,h=>by
  obtain ⟨h1,h2⟩:=List.pairwise_cons.mp h
  unfold zmP
  split
  ·rename_i hm
   refine List.pairwise_cons.mpr ⟨fun b hb=>?_,zie t r h2⟩
   rcases List.mem_cons.mp ((zen t r).mem_iff.mp hb) with rfl | hb
   ·omega
   ·exact h1 b hb
  ·rename_i hm
   refine List.pairwise_cons.mpr ⟨fun b hb=>?_,h⟩
   rcases List.mem_cons.mp hb with rfl | hb
   ·omega
   ·have:=h1 b hb;omega
def zeQ:List Tr→List Tr→List Tr
 | [],acc=>acc
 | t :: r,acc=>zeQ r (zmP t acc)
theorem zjW:∀(l acc:List Tr),acc.Pairwise (fun a b=>mn a≤mn b)→(zeQ l acc).Perm (l ++ acc)∧(zeQ l acc).Pairwise (fun a b=>mn a≤mn b)
 | [],acc,h=>⟨.refl _,h⟩
 | t :: r,acc,h=>by
  obtain ⟨h1,h2⟩:=zjW r (zmP t acc) (zie t acc h)
  refine ⟨?_,h2⟩
  unfold zeQ
  refine h1.trans (((zen t acc).append_left r).trans ?_)
  exact List.perm_middle
theorem zmF{l:List Tr}(hn:(l.map mn).Nodup):zeQ l []=byK (l.map mn) l:=by
 obtain ⟨h1,h2⟩:=zjW l [] .nil
 rw[List.append_nil] at h1
 have hz:∀ l:List Tr,(l.map mn).zip l=l.map fun t=>(mn t,t):=fun l=>by
  induction l with
  | nil=>rfl
  | cons a r ih=>simp[ih]
 unfold byK
 rw[hz]
 have hp:((zeQ l []).map fun t=>(mn t,t)).Perm (zhm (l.map fun t=>(mn t,t))):=(h1.map _).trans (zd4 _).symm
 have hq:((zeQ l []).map fun t=>(mn t,t)).Pairwise (fun x y:Int × Tr=>x.1≤y.1):=by
  rw[List.pairwise_map];exact h2
 rw[← zq9 hp ?_ hq (zgS _),List.map_map]
 ·exact (List.map_id _).symm
 ·rw[List.map_map]
  exact ((h1.map mn).nodup_iff).mpr hn
theorem zhN{α:Type}{u:α→Dt}{p:α→Bool}{ft:DT}{fe:De}{ρ0:Ev}:∀{l:List α}{o:Option B},(∀ a∈l,ft (ρ0 ++ [some (.val (u a))]) = .ok (p a,ρ0 ++ [some (.val (u a))]))→(∀ a∈l,fe (ρ0 ++ [some (.val (u a))]) = .ok (u a,ρ0 ++ [some (.val (u a))])) →
  ∃ o',zbA (zbo ρ0.length) ft fe (l.map u) (ρ0 ++ [o]) = .ok ((l.filter p).map u,ρ0 ++ [o'])
 | [],o,_,_=>⟨o,rfl⟩
 | a :: l,o,h,h2=>by
  obtain ⟨o',e⟩:=zhN (l:=l) (o:=some (.val (u a))) (fun b hb=>h b (List.mem_cons_of_mem _ hb)) (fun b hb=>h2 b (List.mem_cons_of_mem _ hb))
  refine ⟨o',?_⟩
  rw[List.map_cons,zbA,zpk]
  simp only[R.bind_ok]
  rw[h a (by simp)]
  simp only[R.bind_ok]
  by_cases hp:p a=true
  ·rw[if_pos hp,h2 a (by simp)]
   simp only[R.bind_ok]
   rw[e]
   simp only[R.bind_ok]
   rw[List.filter_cons_of_pos hp]
   rfl
  ·rw[if_neg hp,e,List.filter_cons_of_neg hp]
def zn4:DT:=(dTB (dOp gLt (dFn zdI (dA (zaf (zax 8) (dR (zab 5) dR0)) dA0)) (dFn zdI (dA (zaf (zax 8) (dR (zab 3) dR0)) dA0))))
def zjv:DS:=(za4 (zbg 4 (dFz (zaO (zsb 2) (zbo 5) zn4 (zab 5) 1))) (dEx (zpC 2 (dFn zde (dA (zab 4) dA0)) (zab 3))))
theorem zmq(F:FD):zeC F=(za4 (dIf (zb0 (dTB (ze2 "tuple" (zab 0)))) (zb2 (zab 0)) dNx) (za4 (zbg 1 (dFz (zaO (dIt (dOp gIx (zab 0) (dC (.int 1)))) (zbo 5) dTT (zaf F (dR (zab 5) dR0)) 1))) (za4 (dIf (dTB (dOp (gEq false) (dOp gIx (zab 0) (dC (.int 0))) (dC (.str (Str.ofString "any"))))) (za4 (zcg 2 (zdl dA0)) (za4 (zgh (dIt (zab 1)) (zbo 3) zjv) (zbg 1 (zhH 2)))) (dIf (dTB (dOp gLt (dFn zdI (dA (zaf (zax 8) (dR (dOp gIx (zab 1) (zm5 (dC (.int 1)))) dR0)) dA0)) (dFn zdI (dA (zaf (zax 8) (dR (dOp gIx (zab 1) (dC (.int 0))) dR0)) dA0)))) (zbg 1 (dFz (zjI (zab 1)))) dNx)) (zb2 (zhP (dA (dOp gIx (zab 0) (dC (.int 0))) (dA (dFn zbn (dA (zab 1) dA0)) dA0))))))):=rfl
theorem zf1{fa:De}{ρ ρ1:Ev}{t:Tr}(h:fa ρ = .ok (toD t,ρ1))(hd:dep t≤8)(hl:(zam t).length≤1000)(hne:zam t≠[]):dFn zdI (dA (zaf (zax 8) (dR fa dR0)) dA0) ρ = .ok (.int (mn t),ρ1) :=
 zcp (zdg h (zgQ 8 t hd hl)) (by
  unfold zdI
  simp only[zeR]
  have hz:=zq6 hne
  show _=R.ok (Dt.int ((zbt (zam t)).headD 0))
  rw[← hz]
  cases hq:zam t with
  | nil=>exact absurd hq hne
  | cons a q=>rfl)
def zs2(t:Tr):Prop:=dep t≤8∧(zam t).length≤1000∧zam t≠[]
theorem zmf{A Bv o4:Option B}{t:Tr}{f:List Tr}(ht:zs2 t)(hf:∀ o∈f,zs2 o)(hs:f.Pairwise (fun a b=>mn a≤mn b))(hl:f.length≤1000) :
  ∃ b4,zjv [A,Bv,some (.own (f.map toD)),some (.val (toD t)),o4] = .ok (.nx,[A,Bv,some (.own ((zmP t f).map toD)),some (.val (toD t)),b4]):=by
 let ρ:Ev:=[A,Bv,some (.own (f.map toD)),some (.val (toD t)),o4]
 obtain ⟨o',e⟩:=zhN (u:=toD) (p:=fun o=>decide (mn o < mn t)) (ft:=zn4) (fe:=zab 5) (ρ0:=ρ) (l:=f) (o:=none) (fun o ho=>by
  have e1:=zf1 (fa:=zab 5) (ρ:=ρ ++ [some (.val (toD o))]) (ρ1:=ρ ++ [some (.val (toD o))]) (t:=o) rfl (hf o ho).1 (hf o ho).2.1 (hf o ho).2.2
  have e2:=zf1 (fa:=zab 3) (ρ:=ρ ++ [some (.val (toD o))]) (ρ1:=ρ ++ [some (.val (toD o))]) (t:=t) rfl ht.1 ht.2.1 ht.2.2
  exact zbd (zaz e1 e2 rfl)) (fun o ho=>rfl)
 have ec:zaO (zsb 2) (zbo 5) zn4 (zab 5) 1 ρ = .ok ((ze4 t f).map toD,ρ):=by
  unfold zaO
  show (if zem (f.map toD)=true then (match zbA (zbo 5) zn4 (zab 5) (f.map toD) (ρ ++ [none]) with | .ok z=>R.ok (z.1,z.2.take 5) | _=>.no) else .no)=_
  rw[if_pos (zo9 (by simpa using hl))]
  have e':zbA (zbo 5) zn4 (zab 5) (f.map toD) (ρ ++ [none])=_:=e
  rw[e']
  rfl
 have hle:(ze4 t f).length≤f.length:=List.length_filter_le _ _
 refine ⟨some (.val (.lst ((ze4 t f).map toD))),?_⟩
 show zjv ρ=_
 unfold zjv
 rw[zal (zby (i:=4) (zb1 ec) (by simp[ρ]))]
 refine zei (d:=.non) ?_
 have el:((ze4 t f).map toD).length=(ze4 t f).length:=List.length_map _
 show (if 0≤((((ze4 t f).map toD).length:Nat):Int)∧((((ze4 t f).map toD).length:Nat):Int)≤((f.map toD).length:Nat)∧(f.map toD).length < 16777216 then R.ok (Dt.non,([A,Bv,some (B.own ((f.map toD).take ((((ze4 t f).map toD).length:Nat):Int).toNat ++ toD t :: (f.map toD).drop ((((ze4 t f).map toD).length:Nat):Int).toNat)),some (.val (toD t)),some (.val (.lst ((ze4 t f).map toD)))]:Ev)) else .no)=_
 rw[el,List.length_map,if_pos (by omega),Int.toNat_natCast,← List.map_take,← List.map_drop,← zqp t f hs,List.map_append,List.map_cons]
theorem ztm{A Bv:Option B}:∀(l f:List Tr)(o3 o4:Option B),(∀ t∈l,zs2 t)→(∀ o∈f,zs2 o)→f.Pairwise (fun a b=>mn a≤mn b)→f.length + l.length≤1000 →
  ∃ b3 b4,ziB (zbo 3) zjv (l.map toD) [A,Bv,some (.own (f.map toD)),o3,o4] = .ok (.nx,[A,Bv,some (.own ((zeQ l f).map toD)),b3,b4])
 | [],f,o3,o4,_,_,_,_=>⟨o3,o4,rfl⟩
 | t :: r,f,o3,o4,h1,h2,h3,h4=>by
  obtain ⟨b4,e⟩:=zmf (A:=A) (Bv:=Bv) (o4:=o4) (h1 t (by simp)) h2 h3 (by simp at h4;omega)
  obtain ⟨c3,c4,e2⟩:=ztm (A:=A) (Bv:=Bv) r (zmP t f) (some (.val (toD t))) b4 (fun x hx=>h1 x (List.mem_cons_of_mem _ hx)) (fun o ho=>by
   rcases List.mem_cons.mp ((zen t f).mem_iff.mp ho) with rfl | ho
   ·exact h1 _ (by simp)
   ·exact h2 o ho) (zie t f h3) (by rw[(zen t f).length_eq];simp at h4 ⊢;omega)
  refine ⟨c3,c4,?_⟩
  show ((zbo 3 (toD t) [A,Bv,some (.own (f.map toD)),o3,o4]).bind _)=_
  show ((zjv [A,Bv,some (.own (f.map toD)),some (.val (toD t)),o4]).bind _)=_
  rw[e]
  exact e2
theorem zgL:∀(n:Nat)(t:Tr),n≤8→dep t≤n→okT t=true→(zam t).Nodup→(zam t).length < 64→zbw n [.val (toD t)] = .ok (toD (zaS t),[.val .non])
 | 0,t,_,h,_,_,_=>by cases t <;> simp[dep] at h
 | n + 1,.lf i,h8,h,ho,hn,hl=>by
  refine zar (ρ':=[some (.val (.int i)),none,none,none,none]) rfl ?_ rfl
  rw[toD,zaS]
  rfl
 | n + 1,.nd r l,h8,h,ho,hn,hl=>by
  simp only[dep] at h
  simp only[zam] at hl hn
  have hd:zel l≤n:=by omega
  obtain ⟨B1,B2,B3,B4,B5⟩:=zle hd ho hn hl
  have ho2:∀ t∈l,okT t=true:=by
   simp only[okT,Bool.and_eq_true] at ho
   have:=ho.2
   rw[zco,List.all_eq_true] at this
   exact this
  have hn2:∀ t∈l,(zam t).Nodup:=fun t ht=>zg2 ht hn
  have hD:toD (.nd r l) = .tup [.str (wd r),.tup (zfk l)]:=by rw[toD]
  have hll:l.length≤1000:=by simp only[List.length_map] at B5;omega
  let T:Option B:=some (.val (toD (.nd r l)))
  let L:List Tr:=l.map zaS
  have hG:∀ t∈L,zs2 t:=fun t ht=>by have:=B1 t ht;exact ⟨by omega,by omega,this.2.2⟩
  let ρ0:Ev:=[T,none,none,none,none]
  let ρ1:Ev:=[T,some (.val (.lst (L.map toD))),none,none,none]
  have e0:dIf (zb0 (dTB (ze2 "tuple" (zab 0)))) (zb2 (zab 0)) dNx ρ0 = .ok (.nx,ρ0):=by
   show dIf (zb0 (dTB (ze2 "tuple" (zab 0)))) (zb2 (zab 0)) dNx [some (.val (toD (.nd r l))),none,none,none,none] = .ok (.nx,[some (.val (toD (.nd r l))),none,none,none,none])
   rw[hD];rfl
  have e1:zbg 1 (dFz (zaO (dIt (dOp gIx (zab 0) (dC (.int 1)))) (zbo 5) dTT (zaf (zbw n) (dR (zab 5) dR0)) 1)) ρ0 = .ok (.nx,ρ1):=by
   have:=zbu (ρ0:=ρ0) (fi:=dIt (dOp gIx (zab 0) (dC (.int 1)))) (fe:=zaf (zbw n) (dR (zab 5) dR0)) (l:=l) (u:=toD) (f:=fun t=>toD (zaS t)) (ds:=zfk l) (j:=5) (by
     show dIt (dOp gIx (zab 0) (dC (.int 1))) [some (.val (toD (.nd r l))),none,none,none,none] = .ok (zfk l,[some (.val (toD (.nd r l))),none,none,none,none])
     rw[hD];rfl) (zbY l) hll
    (fun t ht=>zdg (ρ':=ρ0 ++ [some (.val (toD t))]) rfl (zgL n t (by omega) (zcb.mp hd t ht) (ho2 t ht) (hn2 t ht) (by have:=zdN ht;omega))) rfl
   rw[show l.map (fun t=>toD (zaS t))=L.map toD by rw[List.map_map];rfl] at this
   exact zby (zb1 this) (by simp[ρ0])
  obtain ⟨c2,c3,c4,e2⟩ : ∃ c2 c3 c4,dIf (dTB (dOp (gEq false) (dOp gIx (zab 0) (dC (.int 0))) (dC (.str (Str.ofString "any"))))) (za4 (zcg 2 (zdl dA0)) (za4 (zgh (dIt (zab 1)) (zbo 3) zjv) (zbg 1 (zhH 2)))) (dIf (dTB (dOp gLt (dFn zdI (dA (zaf (zax 8) (dR (dOp gIx (zab 1) (zm5 (dC (.int 1)))) dR0)) dA0)) (dFn zdI (dA (zaf (zax 8) (dR (dOp gIx (zab 1) (dC (.int 0))) dR0)) dA0)))) (zbg 1 (dFz (zjI (zab 1)))) dNx) ρ1 = .ok (.nx,[T,some (.val (.lst ((zlo r L).map toD))),c2,c3,c4]):=by
   have ea:=zqa (D:=[]) (r:=r) (x:=.tup (zfk l)) (ρ:=ρ1) (i:=0) (by show some (some (B.val (toD (.nd r l))))=_;rw[hD])
   cases r with
   | false =>
    obtain ⟨b3,b4,ef⟩:=ztm (A:=T) (Bv:=some (.val (.lst (L.map toD)))) L [] none none hG (by simp) .nil (by simp[L];omega)
    refine ⟨some (.val (.lst ((zeQ L []).map toD))),b3,b4,?_⟩
    rw[zev ea,zal (zgt (i:=2) (d:=[]) (ρ1:=ρ1) rfl (by simp[ρ1])),zal (show zgh (dIt (zab 1)) (zbo 3) zjv (ρ1.set 2 (some (.own [])))=_ from ef)]
    rw[show zlo false L=zeQ L [] from by unfold zlo;rw[if_neg (by decide),zmF B2]]
    rfl
   | true =>
    refine ⟨none,none,none,?_⟩
    rw[zcH ea]
    have mh:(L.headD (.lf 0))∈L:=by
     cases e:L with
     | nil=>exact absurd e B3
     | cons a q=>simp
    have ml:(L.getLastD (.lf 0))∈L:=by
     rw[List.getLastD_eq_getLast?]
     cases e:L.getLast? with
     | none=>exact absurd (List.getLast?_eq_none_iff.mp e) B3
     | some a=>exact List.mem_of_getLast? e
    have k1:=zf1 (fa:=dOp gIx (zab 1) (zm5 (dC (.int 1)))) (ρ:=ρ1) (ρ1:=ρ1) (t:=L.getLastD (.lf 0)) (zaz (d:=.lst (L.map toD)) (e:=.int (-1)) (ρ1:=ρ1) rfl rfl (znl B3)) (hG _ ml).1 (hG _ ml).2.1 (hG _ ml).2.2
    have k2:=zf1 (fa:=dOp gIx (zab 1) (dC (.int 0))) (ρ:=ρ1) (ρ1:=ρ1) (t:=L.headD (.lf 0)) (zaz (d:=.lst (L.map toD)) (e:=.int 0) (ρ1:=ρ1) rfl rfl (zoq B3)) (hG _ mh).1 (hG _ mh).2.1 (hG _ mh).2.2
    have kt:dTB (dOp gLt (dFn zdI (dA (zaf (zax 8) (dR (dOp gIx (zab 1) (zm5 (dC (.int 1)))) dR0)) dA0)) (dFn zdI (dA (zaf (zax 8) (dR (dOp gIx (zab 1) (dC (.int 0))) dR0)) dA0))) ρ1 = .ok (decide (mn (L.getLastD (.lf 0)) < mn (L.headD (.lf 0))),ρ1):=zbd (zaz k1 k2 rfl)
    unfold zlo
    rw[if_pos rfl]
    by_cases hgt:mn (L.headD (.lf 0)) > mn (L.getLastD (.lf 0))
    ·rw[decide_eq_true hgt] at kt
     rw[zev kt,if_pos hgt,List.map_reverse]
     rfl
    ·rw[decide_eq_false hgt] at kt
     rw[zcH kt,if_neg hgt]
     rfl
  refine zar (ρ':=[T,some (.val (.lst ((zlo r L).map toD))),c2,c3,c4]) rfl ?_ rfl
  show zeC (zbw n) ρ0=_
  rw[zmq,zal e0,zal e1,zal e2]
  refine zb3 ?_
  have ew:dOp gIx (zab 0) (dC (.int 0)) [T,some (.val (.lst ((zlo r L).map toD))),c2,c3,c4] = .ok (.str (wd r),[T,some (.val (.lst ((zlo r L).map toD))),c2,c3,c4]):=by
   refine zaz (d:=toD (.nd r l)) (e:=.int 0) rfl rfl ?_
   rw[hD];rfl
  rw[zfj (zcs ew (zcs (fr:=dA0) (zcp (g:=zbn) (d:=.lst ((zlo r L).map toD)) (z:=.tup ((zlo r L).map toD)) rfl rfl) rfl)) (by simp)]
  rw[zaS,zeG]
  simp only[toD,zbY]
  rfl
theorem zc9{nw:Bool}{ks:List Bool}{m:Nat}{body:DS}{bs:List B}{n:Nat}(hk:zb5 bs=ks)(hb:body (bs.map some ++ List.replicate m none) = .er n):zas nw ks m body bs = .er n:=by
 unfold zas
 rw[if_pos hk,hb]
 rfl
def nm(o:List Int)(g:Int):Int:=(o[g.toNat]?).getD 0
theorem znY{o:List Int}{g:Int}(h0:0≤g)(h1:g < o.length):gIx (tz o) (.int g) = .ok (.int (nm o g)):=by
 refine zi6 h0 (by simpa using h1) ?_
 have hl:g.toNat < o.length:=by omega
 unfold nm
 rw[List.getElem?_map,List.getElem?_eq_getElem hl]
 rfl
theorem ztg{o:List Int}(hn:o.Nodup){a b:Int}(a0:0≤a)(a1:a < o.length)(b0:0≤b)(b1:b < o.length)(h:nm o a=nm o b):a=b:=by
 have ha:a.toNat < o.length:=by omega
 have hb:b.toNat < o.length:=by omega
 unfold nm at h
 rw[List.getElem?_eq_getElem ha,List.getElem?_eq_getElem hb] at h
 have hp:=List.pairwise_iff_getElem.mp hn
 simp only[Option.getD_some] at h
 rcases Nat.lt_trichotomy a.toNat b.toNat with q | q | q
 ·exact absurd h (hp _ _ ha hb q)
 ·omega
 ·exact absurd h.symm (hp _ _ hb ha q)
theorem zh4{p o:List Int}(hp:∀ x∈p,0≤x∧x < o.length)(hl:p.length≤1000):zfN [.val (tz p),.val (tz o)] = .ok (tz (p.map (nm o)),[.val .non,.val .non]):=by
 let ρ0:Ev:=[some (.val (tz p)),some (.val (tz o))]
 refine zar (ρ':=ρ0) rfl ?_ rfl
 show zkF ρ0=_
 have hc:zaO (dIt (zab 0)) (zbo 2) dTT (dOp gIx (zab 1) (zab 2)) 1 ρ0 = .ok (p.map fun g=>.int (nm o g),ρ0) :=
  zbu (l:=p) (u:=Dt.int) (f:=fun g=>.int (nm o g)) (ds:=p.map .int) (j:=2) rfl rfl hl (fun g hg=>zaz (d:=tz o) (e:=.int g) (ρ1:=ρ0 ++ [some (.val (.int g))]) rfl rfl (znY (hp g hg).1 (hp g hg).2)) rfl
 unfold zkF
 rw[show (p.map fun g=>Dt.int (nm o g))=(p.map (nm o)).map .int by rw[List.map_map];rfl] at hc
 exact zb3 (zcp (d:=.lst ((p.map (nm o)).map .int)) (zb1 hc) rfl)
theorem zjd{n:Nat}{d:Dt}(h:zd7 n d=true):∃ zs:List Int,d=tz zs∧zs.Perm (zaL n):=by
 cases d with
 | tup l =>
  unfold zd7 at h
  rw[Bool.and_eq_true] at h
  obtain ⟨zs,rfl,_⟩:=zgv h.1
  rw[zeR] at h
  have h2:zbt zs=zaL n:=by simpa using h.2
  exact ⟨zs,rfl,by rw[← h2];exact (zbj zs).symm⟩
 | _=>cases h
theorem zoI{n:Nat}{o:List Int}(h:o.Perm (zaL n)):zd7 n (tz o)=true:=by
 unfold tz zd7
 rw[Bool.and_eq_true,zeR]
 constructor
 ·rw[List.all_eq_true]
  intro d hd
  obtain ⟨i,hi,rfl⟩:=List.mem_map.mp hd
  have:=zb4.mp (h.mem_iff.mp hi)
  simp[isG];omega
 ·rw[beq_iff_eq]
  exact zm9.mpr ⟨h.nodup_iff.mpr (zcf n),fun x hx=>zb4.mp (h.mem_iff.mp hx),by rw[h.length_eq,zaG]⟩
theorem zgE{n:Nat}(h1:1≤n)(h7:n≤7){o:List Int}(h:o.Perm (zaL n)):za8 [.val (.int n),.val (tz o)] = .ok (.non,[.val .non,.val .non]):=by
 let ρ0:Ev:=[some (.val (.int n)),some (.val (tz o))]
 refine zjL (ρ':=ρ0) rfl ?_ rfl
 show zbD ρ0=_
 unfold zbD
 have hl:o.length=n:=by rw[h.length_eq,zaG]
 have e:zaf zb8 (dR (zab 0) (dR (zab 1) dR0)) ρ0 = .ok (.bl true,ρ0):=by
  have:=zgc h1 h7 (tz o) (fun l hl'=>by unfold tz at hl';cases hl';rw[List.length_map];omega)
  rw[zoI h] at this
  exact zcP (ρ':=ρ0) (ρ'':=ρ0) rfl rfl this
 rw[zcH (zds (b:=true) (zbd e))]
 rfl
theorem zg8{n:Nat}(h1:1≤n)(h7:n≤7){d:Dt}(hl:∀ l,d = .tup l→l.length≤60)(h:zd7 n d=false):za8 [.val (.int n),.val d] = .er 7:=by
 let ρ0:Ev:=[some (.val (.int n)),some (.val d)]
 have e:zaf zb8 (dR (zab 0) (dR (zab 1) dR0)) ρ0 = .ok (.bl false,ρ0):=by
  have:=zgc h1 h7 d hl
  rw[h] at this
  exact zcP (ρ':=ρ0) (ρ'':=ρ0) rfl rfl this
 have ed:zbD ρ0 = .er 7:=by
  unfold zbD
  rw[zev (zds (b:=false) (zbd e))]
  rfl
 exact zc9 rfl ed
theorem zme{d t:Dt}(h:isW d=false∨∃ n,d = .int n∧(n < 1∨7 < n)):za8 [.val d,.val t] = .er 0:=by
 let ρ0:Ev:=[some (.val d),some (.val t)]
 have e:zaf zb8 (dR (zab 0) (dR (zab 1) dR0)) ρ0 = .er 0:=zdp (ρ':=ρ0) (ρ'':=ρ0) rfl rfl (zkO h)
 have ed:zbD ρ0 = .er 0:=by
  unfold zbD dIf zb0 dTB
  rw[e]
  rfl
 exact zc9 rfl ed
def pn(o:List Int)(p:List Int):List Int:=zbt (p.map (nm o))
theorem zss(o p:List Int):(pn o p).length=p.length:=by unfold pn;rw[(zbj _).length_eq,List.length_map]
theorem zkq{n:Nat}(h1:1≤n)(h7:n≤7){o:List Int}(h:o.Perm (zaL n)){ps:List (List Int)}(hp:zoA n ps)(hl:ps.length≤8) :
  zat [.val (.int n),.val (.lst (lp ps)),.val (tz o)] = .ok (.lst (lp (ps.map (pn o))),[.val .non,.val .non,.val .non]):=by
 let ρ0:Ev:=[some (.val (.int n)),some (.val (.lst (lp ps))),some (.val (tz o))]
 have hol:o.length=n:=by rw[h.length_eq,zaG]
 refine zar (ρ':=ρ0) rfl ?_ rfl
 show zaR ρ0=_
 have e1:dEx (zaf zaC (dR (zab 0) (dR (zab 1) dR0))) ρ0 = .ok (.nx,ρ0):=zei (zcP (ρ':=ρ0) (ρ'':=ρ0) rfl rfl (zjt h1 h7 (zmQ h7 hp) (zkY hl hp)))
 have e2:dEx (zaf za8 (dR (zab 0) (dR (zab 2) dR0))) ρ0 = .ok (.nx,ρ0):=zei (zcP (ρ':=ρ0) (ρ'':=ρ0) rfl rfl (zgE h1 h7 h))
 have hc:zaO (dIt (zab 1)) (zbo 3) dTT (dFn zbn (dA (dFz (zfq zcJ (dA (zaf zfN (dR (zab 3) (dR (zab 2) dR0))) dA0))) dA0)) 1 ρ0 = .ok (ps.map fun p=>tz (pn o p),ρ0):=by
  refine zbu (l:=ps) (u:=tz) (f:=fun p=>tz (pn o p)) (ds:=lp ps) (j:=3) rfl rfl (by omega) (fun p hpp=>?_) rfl
  have hP:=hp p hpp
  have hpl:=znp h7 hP
  have ec:zaf zfN (dR (zab 3) (dR (zab 2) dR0)) (ρ0 ++ [some (.val (tz p))]) = .ok (tz (p.map (nm o)),ρ0 ++ [some (.val (tz p))]):=zcP (ρ':=ρ0 ++ [some (.val (tz p))]) (ρ'':=ρ0 ++ [some (.val (tz p))]) rfl rfl (zh4 (fun x hx=>by have:=hP.2.2 x hx;omega) (by omega))
  exact zcp (d:=.lst ((pn o p).map .int)) (zkZ ec (by rw[List.length_map];omega)) rfl
 unfold zaR
 rw[zal e1,zal e2]
 unfold zeN
 rw[hc]
 simp only[R.bind_ok]
 unfold lp
 rw[List.map_map]
 rfl
theorem zm1{d t u:Dt}(h:isW d=false∨∃ n,d = .int n∧(n < 1∨7 < n)):zat [.val d,.val t,.val u] = .er 0:=by
 let ρ0:Ev:=[some (.val d),some (.val t),some (.val u)]
 have ed:zaR ρ0 = .er 0:=by
  have e:zaf zaC (dR (zab 0) (dR (zab 1) dR0)) ρ0 = .er 0:=zdp (ρ':=ρ0) (ρ'':=ρ0) rfl rfl (zlS h)
  unfold zaR za4 dEx
  rw[e]
  rfl
 exact zc9 rfl ed
theorem zm8{n:Nat}(h1:1≤n)(h7:n≤7){t u:Dt}(hl:zrK t)(h:zjB n t=false):zat [.val (.int n),.val t,.val u] = .er 1:=by
 let ρ0:Ev:=[some (.val (.int n)),some (.val t),some (.val u)]
 have ed:zaR ρ0 = .er 1:=by
  have e:zaf zaC (dR (zab 0) (dR (zab 1) dR0)) ρ0 = .er 1:=zdp (ρ':=ρ0) (ρ'':=ρ0) rfl rfl (zmS h1 h7 hl h)
  unfold zaR za4 dEx
  rw[e]
  rfl
 exact zc9 rfl ed
theorem zmD{n:Nat}(h1:1≤n)(h7:n≤7){ps:List (List Int)}(hp:zoA n ps)(hl:ps.length≤8){d:Dt}(hd:∀ l,d = .tup l→l.length≤60)(h:zd7 n d=false):zat [.val (.int n),.val (.lst (lp ps)),.val d] = .er 7:=by
 let ρ0:Ev:=[some (.val (.int n)),some (.val (.lst (lp ps))),some (.val d)]
 have e1:dEx (zaf zaC (dR (zab 0) (dR (zab 1) dR0))) ρ0 = .ok (.nx,ρ0):=zei (zcP (ρ':=ρ0) (ρ'':=ρ0) rfl rfl (zjt h1 h7 (zmQ h7 hp) (zkY hl hp)))
 have ed:zaR ρ0 = .er 7:=by
  have e:zaf za8 (dR (zab 0) (dR (zab 2) dR0)) ρ0 = .er 7:=zdp (ρ':=ρ0) (ρ'':=ρ0) rfl rfl (zg8 h1 h7 hd h)
  unfold zaR
  rw[zal e1]
  unfold za4 dEx
  rw[e]
  rfl
 exact zc9 rfl ed
theorem zkV{n:Nat}(h1:1≤n)(h7:n≤7){o s:List Int}(h:o.Perm (zaL n))(hs:s.Perm (zaL n)):zbc [.val (.int n),.val (tz s),.val (tz o)] = .ok (tz (s.map (nm o)),[.val .non,.val .non,.val .non]):=by
 let ρ0:Ev:=[some (.val (.int n)),some (.val (tz s)),some (.val (tz o))]
 have hol:o.length=n:=by rw[h.length_eq,zaG]
 have hsl:s.length=n:=by rw[hs.length_eq,zaG]
 refine zar (ρ':=ρ0) rfl ?_ rfl
 show zbK ρ0=_
 have e2:dEx (zaf za8 (dR (zab 0) (dR (zab 2) dR0))) ρ0 = .ok (.nx,ρ0):=zei (zcP (ρ':=ρ0) (ρ'':=ρ0) rfl rfl (zgE h1 h7 h))
 unfold zbK
 rw[zal e2]
 exact zb3 (zcP (ρ':=ρ0) (ρ'':=ρ0) rfl rfl (zh4 (fun x hx=>by have:=zb4.mp (hs.mem_iff.mp hx);omega) (by omega)))
theorem zm4{n:Nat}(h1:1≤n)(h7:n≤7){t d:Dt}(hd:∀ l,d = .tup l→l.length≤60)(h:zd7 n d=false):zbc [.val (.int n),.val t,.val d] = .er 7:=by
 let ρ0:Ev:=[some (.val (.int n)),some (.val t),some (.val d)]
 have ed:zbK ρ0 = .er 7:=by
  have e:zaf za8 (dR (zab 0) (dR (zab 2) dR0)) ρ0 = .er 7:=zdp (ρ':=ρ0) (ρ'':=ρ0) rfl rfl (zg8 h1 h7 hd h)
  unfold zbK za4 dEx
  rw[e]
  rfl
 exact zc9 rfl ed
mutual
def ren(f:Int→Int):Tr→Tr
 | .lf i=>.lf (f i)
 | .nd r l=>.nd r (zoz f l)
def zoz(f:Int→Int):List Tr→List Tr
 | []=>[]
 | t :: r=>ren f t :: zoz f r
end
theorem ziq(f:Int→Int):∀ l:List Tr,zoz f l=l.map (ren f)
 | []=>by simp[zoz]
 | t :: r=>by simp[zoz,ziq f r]
theorem zj2(f:Int→Int):∀(n:Nat)(t:Tr),dep t≤n→okT (ren f t)=okT t∧zam (ren f t)=(zam t).map f∧dep (ren f t)=dep t
 | 0,t,h=>by cases t <;> simp[dep] at h
 | n + 1,.lf i,_=>by simp[ren,okT,zam,dep]
 | n + 1,.nd r l,h=>by
  simp only[dep] at h
  have hs:∀ l:List Tr,zel l≤n→zhy (zoz f l)=zhy l∧zau (zoz f l)=(zau l).map f∧zel (zoz f l)=zel l∧(zoz f l).length=l.length:=by
   intro l
   induction l with
   | nil=>intro _;simp[zoz,zhy,zau,zel]
   | cons t q ih =>
    intro hd
    simp only[zel] at hd
    obtain ⟨a1,a2,a3⟩:=zj2 f n t (by omega)
    obtain ⟨b1,b2,b3,b4⟩:=ih (by omega)
    simp[zoz,zhy,zau,zel,a1,a2,a3,b1,b2,b3,b4]
  obtain ⟨b1,b2,b3,b4⟩:=hs l (by omega)
  simp[ren,okT,zam,dep,b1,b2,b3,b4]
theorem zha{o:List Int}:∀(n:Nat)(t:Tr),n≤8→dep t≤n→okT t=true→(zam t).length < 64→(∀ x∈zam t,0≤x∧x < o.length)→zbE n [.val (toD t),.val (tz o)] = .ok (toD (ren (nm o) t),[.val .non,.val .non])
 | 0,t,_,h,_,_,_=>by cases t <;> simp[dep] at h
 | n + 1,.lf i,_,_,_,_,hx=>by
  let ρ0:Ev:=[some (.val (.int i)),some (.val (tz o))]
  have hi:=hx i (by simp[zam])
  refine zar (ρ':=ρ0) rfl ?_ rfl
  rw[toD,ren,toD]
  show zcl (zbE n) ρ0=_
  unfold zcl
  have ec:zaf zbI (dR (zab 0) dR0) ρ0 = .ok (.bl true,ρ0):=zdg (ρ':=ρ0) rfl (zf5 (.lf i))
  refine zdx ?_
  rw[zev (zbd ec)]
  exact zb3 (zaz (d:=tz o) (e:=.int i) (ρ1:=ρ0) rfl rfl (znY hi.1 hi.2))
 | n + 1,.nd r l,h8,h,ho,hl,hx=>by
  simp only[dep] at h
  simp only[zam] at hl hx
  simp only[okT,Bool.and_eq_true] at ho
  have hd:zel l≤n:=by omega
  have hk:=ziO (n:=n) l (by omega) ho.2
  have ho2:=ho.2
  rw[zco,List.all_eq_true] at ho2
  have hsub:∀ t∈l,∀ x∈zam t,x∈zau l:=fun t ht x hx=>by rw[zbx];exact List.mem_flatMap.mpr ⟨t,ht,hx⟩
  let ρ0:Ev:=[some (.val (.tup [.str (wd r),.tup (zfk l)])),some (.val (tz o))]
  refine zar (ρ':=ρ0) rfl ?_ rfl
  rw[show toD (.nd r l) = .tup [.str (wd r),.tup (zfk l)] by rw[toD]]
  show zcl (zbE n) ρ0=_
  have ec:zaf zbI (dR (zab 0) dR0) ρ0 = .ok (.bl false,ρ0):=by
   have:=zf5 (.nd r l)
   rw[show toD (.nd r l) = .tup [.str (wd r),.tup (zfk l)] by rw[toD]] at this
   exact zdg (ρ':=ρ0) rfl this
  have hc:zaO (dIt (dOp gIx (zab 0) (dC (.int 1)))) (zbo 2) dTT (zaf (zbE n) (dR (zab 2) (dR (zab 1) dR0))) 1 ρ0 = .ok (l.map fun t=>toD (ren (nm o) t),ρ0) :=
   zbu (l:=l) (u:=toD) (f:=fun t=>toD (ren (nm o) t)) (ds:=zfk l) (j:=2) rfl (zbY l) (by omega) (fun t ht=>zcP (ρ':=ρ0 ++ [some (.val (toD t))]) (ρ'':=ρ0 ++ [some (.val (toD t))]) rfl rfl (zha n t (by omega) (zcb.mp hd t ht) (ho2 t ht) (by have:=zdN ht;omega) (fun x hx'=>hx x (hsub t ht x hx')))) rfl
  unfold zcl
  rw[zal (ρ1:=ρ0) (by rw[zcH (zbd ec)];rfl)]
  refine zb3 ?_
  rw[zfj (zcs (ρ1:=ρ0) (d:=.str (wd r)) rfl (zcs (fr:=dA0) (zcp (g:=zbn) (d:=.lst _) (z:=.tup _) (zb1 hc) rfl) rfl)) (by simp)]
  rw[ren,toD,zbY,ziq,List.map_map]
  rfl
theorem zlI{o:List Int}:∀(n:Nat)(t:Tr),n≤8→dep t≤n→okT t=true→(zam t).length < 64→(∀ x∈zam t,0≤x∧x < o.length)→zbP n [.val (toD t),.val (tz o)] = .ok (toD (ren (nm o) t),[.val .non,.val .non])
 | 0,t,_,h,_,_,_=>by cases t <;> simp[dep] at h
 | n + 1,.lf i,_,_,_,_,hx=>by
  let ρ0:Ev:=[some (.val (.int i)),some (.val (tz o))]
  have hi:=hx i (by simp[zam])
  refine zar (ρ':=ρ0) rfl ?_ rfl
  rw[toD,ren,toD]
  show zdD (zbP n) ρ0=_
  unfold zdD
  refine zdx ?_
  rw[zev (ρ1:=ρ0) rfl]
  exact zb3 (zaz (d:=tz o) (e:=.int i) (ρ1:=ρ0) rfl rfl (znY hi.1 hi.2))
 | n + 1,.nd r l,h8,h,ho,hl,hx=>by
  simp only[dep] at h
  simp only[zam] at hl hx
  simp only[okT,Bool.and_eq_true] at ho
  have hd:zel l≤n:=by omega
  have hk:=ziO (n:=n) l (by omega) ho.2
  have ho2:=ho.2
  rw[zco,List.all_eq_true] at ho2
  have hsub:∀ t∈l,∀ x∈zam t,x∈zau l:=fun t ht x hx=>by rw[zbx];exact List.mem_flatMap.mpr ⟨t,ht,hx⟩
  let ρ0:Ev:=[some (.val (.tup [.str (wd r),.tup (zfk l)])),some (.val (tz o))]
  refine zar (ρ':=ρ0) rfl ?_ rfl
  rw[show toD (.nd r l) = .tup [.str (wd r),.tup (zfk l)] by rw[toD]]
  show zdD (zbP n) ρ0=_
  have hc:zaO (dIt (dOp gIx (zab 0) (dC (.int 1)))) (zbo 2) dTT (zaf (zbP n) (dR (zab 2) (dR (zab 1) dR0))) 1 ρ0 = .ok (l.map fun t=>toD (ren (nm o) t),ρ0) :=
   zbu (l:=l) (u:=toD) (f:=fun t=>toD (ren (nm o) t)) (ds:=zfk l) (j:=2) rfl (zbY l) (by omega) (fun t ht=>zcP (ρ':=ρ0 ++ [some (.val (toD t))]) (ρ'':=ρ0 ++ [some (.val (toD t))]) rfl rfl (zlI n t (by omega) (zcb.mp hd t ht) (ho2 t ht) (by have:=zdN ht;omega) (fun x hx'=>hx x (hsub t ht x hx')))) rfl
  unfold zdD
  rw[zal (ρ1:=ρ0) rfl]
  refine zb3 ?_
  rw[zfj (zcs (ρ1:=ρ0) (d:=.str (wd r)) rfl (zcs (fr:=dA0) (zcp (g:=zbn) (d:=.lst _) (z:=.tup _) (zb1 hc) rfl) rfl)) (by simp)]
  rw[ren,toD,zbY,ziq,List.map_map]
  rfl
theorem zkP{n:Nat}(h1:1≤n)(h7:n≤7){o:List Int}(h:o.Perm (zaL n)){t:Tr}(hd:dep t≤7)(ho:okT t=true)(hn:(zam t).Nodup)(hl:(zam t).length < 64)(hx:∀ x∈zam t,0≤x∧x < n) :
  zbi [.val (.int n),.val (toD t),.val (tz o)] = .ok (toD (zaS (ren (nm o) t)),[.val .non,.val .non,.val .non])∧zbw 8 [.val (toD (ren (nm o) t))] = .ok (toD (zaS (ren (nm o) t)),[.val .non])∧zbP 8 [.val (toD t),.val (tz o)] = .ok (toD (ren (nm o) t),[.val .non,.val .non])∧zap 16 [.val (toD (zaS (ren (nm o) t))),.val (toD (zaS (ren (nm o) t)))] = .ok (.bl true,[.val .non,.val .non]):=by
 have hol:o.length=n:=by rw[h.length_eq,zaG]
 obtain ⟨r1,r2,r3⟩:=zj2 (nm o) 7 t hd
 have hoN:o.Nodup:=h.nodup_iff.mpr (zcf n)
 have hx':∀ x∈zam t,0≤x∧x < o.length:=fun x hx0=>by have:=hx x hx0;omega
 have k1:okT (ren (nm o) t)=true:=by rw[r1];exact ho
 have k2:(zam (ren (nm o) t)).Nodup:=by
  rw[r2]
  refine List.pairwise_map.mpr ?_
  have:=hn
  refine List.Pairwise.imp_of_mem ?_ this
  intro a b ha hb hab e
  exact hab (ztg hoN (hx' a ha).1 (hx' a ha).2 (hx' b hb).1 (hx' b hb).2 e)
 have k3:(zam (ren (nm o) t)).length < 64:=by rw[r2,List.length_map];exact hl
 have k4:dep (ren (nm o) t)≤8:=by omega
 let ρ0:Ev:=[some (.val (.int n)),some (.val (toD t)),some (.val (tz o))]
 refine ⟨zar (ρ':=ρ0) rfl ?_ rfl,zgL 8 _ (by omega) k4 k1 k2 k3,zlI 8 t (by omega) (by omega) ho hl hx',?_⟩
 ·show zbL ρ0=_
  have e2:dEx (zaf za8 (dR (zab 0) (dR (zab 2) dR0))) ρ0 = .ok (.nx,ρ0):=zei (zcP (ρ':=ρ0) (ρ'':=ρ0) rfl rfl (zgE h1 h7 h))
  unfold zbL
  rw[zal e2]
  exact zb3 (zdg (zcP (ρ':=ρ0) (ρ'':=ρ0) rfl rfl (zha 8 t (by omega) (by omega) ho hl hx')) (zlw 8 _ (by omega) k4 k1 k2 k3))
 ·obtain ⟨q1,q2,q3⟩:=zgo 8 _ _ k4 (zf7 8 _ k4)
  exact zor (by omega) (by rw[q1];exact k1) (by rw[q2.length_eq];exact k3)
theorem zmM{n:Nat}(h1:1≤n)(h7:n≤7){t d:Dt}(hd:∀ l,d = .tup l→l.length≤60)(h:zd7 n d=false):zbi [.val (.int n),.val t,.val d] = .er 7:=by
 let ρ0:Ev:=[some (.val (.int n)),some (.val t),some (.val d)]
 have ed:zbL ρ0 = .er 7:=by
  have e:zaf za8 (dR (zab 0) (dR (zab 2) dR0)) ρ0 = .er 7:=zdp (ρ':=ρ0) (ρ'':=ρ0) rfl rfl (zg8 h1 h7 hd h)
  unfold zbL za4 dEx
  rw[e]
  rfl
 exact zc9 rfl ed
theorem zmy{d t u:Dt}(h:isW d=false∨∃ n,d = .int n∧(n < 1∨7 < n)):zbi [.val d,.val t,.val u] = .er 0:=by
 let ρ0:Ev:=[some (.val d),some (.val t),some (.val u)]
 have ed:zbL ρ0 = .er 0:=by
  have e:zaf za8 (dR (zab 0) (dR (zab 2) dR0)) ρ0 = .er 0:=zdp (ρ':=ρ0) (ρ'':=ρ0) rfl rfl (zme h)
  unfold zbL za4 dEx
  rw[e]
  rfl
 exact zc9 rfl ed
theorem zqb{α:Type}{l:List α}{j:Nat}(h:j≤l.length):zgO l none (some (j:Int))=l.take j:=by
 unfold zgO
 rw[HT.sIx_none,HT.sIx_nat,List.drop_zero,Nat.sub_zero,Nat.min_eq_left h]
theorem zlF{α:Type}{l:List α}{j:Nat}(h:j≤l.length):zgO l (some (j:Int)) none=l.drop j:=by
 unfold zgO
 rw[HT.sIx_none,HT.sIx_nat,Nat.min_eq_left h]
 rw[List.take_of_length_le (by rw[List.length_drop];omega)]
def TrE(gs:List Int)(t:Tr):Prop:=okT t=true∧zam t=gs∧dep t≤gs.length
def zm0(F:FD):DS:=(za4 (zbg 6 (dOp zbF (dC (.int 1)) (zaf zad (dRO 0 (dR (dOp zed (dFn zde (dA (zab 3) dA0)) (dOp zed (dOp zed (zab 2) (dC (.int 1))) (zab 5))) dR0))))) (za4 (dEx (zer 4 (zaf F (dRO 0 (dR (dFz (zoC (zab 3) dO0 (dO1 (zab 6)))) dR0))))) (zbg 3 (dFz (zoC (zab 3) (dO1 (zab 6)) dO0)))))
theorem zlr(F:FD):zdW F=(za4 (dIf (dTB (dOp (gEq false) (dFn zde (dA (zab 1) dA0)) (dC (.int 1)))) (zb2 (dOp gIx (zab 1) (dC (.int 0)))) dNx) (za4 (zbg 2 (dFn zfK (dA (dFn zde (dA (zab 1) dA0)) (dA (dOp zbF (dC (.int 2)) (zaf zad (dRO 0 (dR (dC (.int 3)) dR0)))) dA0)))) (za4 (zbg 3 (dFz (zfq zgU (dA (zab 1) dA0)))) (za4 (zcg 4 (zdl dA0)) (za4 (zgh (zbO (dOp zed (zab 2) (dC (.int 1)))) (zbo 5) (zm0 F)) (za4 (dEx (zer 4 (zaf F (dRO 0 (dR (zab 3) dR0))))) (za4 (zbg 7 (dC (.str (Str.ofString "any")))) (za4 (dIf (zfu (dTB (dOp gGt (zab 2) (dC (.int 2)))) (dTB (dOp (gEq false) (zaf zad (dRO 0 (dR (dC (.int 2)) dR0))) (dC (.int 0))))) (zbg 7 (dC (.str (Str.ofString "row")))) dNx) (zb2 (zhP (dA (zab 7) (dA (dFn zbn (dA (zhH 4) dA0)) dA0)))))))))))):=rfl
theorem appS{F:FD}{fb:De}{st st':List Dt}{d y:Dt}{G M Lf o5 o6 o7:Option B}{bs:List Dt}(h:fb [some (.own st),G,M,Lf,some (.own bs),o5,o6,o7] = .ok (d,[some (.own st),G,M,Lf,some (.own bs),o5,o6,o7]))(hF:F [.own st,.val d] = .ok (y,[.own st',.val .non]))(hl:bs.length < 1000) :
  dEx (zer 4 (zaf F (dRO 0 (dR fb dR0)))) [some (.own st),G,M,Lf,some (.own bs),o5,o6,o7] = .ok (.nx,[some (.own st'),G,M,Lf,some (.own (bs ++ [y])),o5,o6,o7]):=by
 have e:=ziY (F:=F) (fb:=fb) (i:=0) (ρ:=[some (.own st),G,M,Lf,some (.own bs),o5,o6,o7]) rfl h hF
 refine zei (d:=.non) ?_
 unfold zer
 show ((zaf F (dRO 0 (dR fb dR0)) [some (.own st),G,M,Lf,some (.own bs),o5,o6,o7]).bind _)=_
 rw[e]
 show (if bs.length < 16777216 then R.ok (Dt.non,([some (B.own st'),G,M,Lf,some (.own (bs ++ [y])),o5,o6,o7]:Ev)) else .no)=_
 rw[if_pos (by omega)]
theorem zjM{F:FD}{L many:Nat}{G o7:Option B}(hF:∀(gs:List Int)(st:List Dt),1≤gs.length→gs.length < L→St st→∃ t st',St st'∧TrE gs t∧F [.own st,.val (.lst (gs.map .int))] = .ok (toD t,[.own st',.val .non]))(hL:L≤7) :
  ∀(r k:Nat)(left:List Int)(bs:List Tr)(st:List Dt)(o5 o6:Option B),k + r + 1=many→r + 1≤left.length→left.length + k≤L→(∀ t∈bs,okT t=true∧dep t + 1≤L)→bs.length + r≤100→St st →
  ∃ left' bs' st' b5 b6,St st'∧1≤left'.length∧left'.length + (many - 1)≤L∧zau bs' ++ left'=zau bs ++ left∧bs'.length=bs.length + r∧(∀ t∈bs',okT t=true∧dep t + 1≤L) ∧
   ziB (zbo 5) (zm0 F) ((List.range' k r).map fun (i:Nat)=>Dt.int ((0:Int) + i)) [some (.own st),G,some (.val (.int many)),some (.val (.lst (left.map .int))),some (.own (bs.map toD)),o5,o6,o7] = .ok (.nx,[some (.own st'),G,some (.val (.int many)),some (.val (.lst (left'.map .int))),some (.own (bs'.map toD)),b5,b6,o7])
 | 0,k,left,bs,st,o5,o6,hk,h1,h2,hb,hc,hs=>⟨left,bs,st,o5,o6,hs,by omega,by omega,rfl,rfl,hb,rfl⟩
 | r + 1,k,left,bs,st,o5,o6,hk,h1,h2,hb,hc,hs=>by
  let M:Option B:=some (.val (.int many))
  let T5:Option B:=some (.val (.int ((0:Int) + k)))
  obtain ⟨v,st1,e1,hs1,v0,v1⟩:=zbl (m:=(left.length:Int) - (((many:Int) - 1) - ((0:Int) + k))) hs (by omega) (by omega)
  obtain ⟨s,hsz⟩ : ∃ s:Nat,(s:Int)=1 + v:=⟨(1 + v).toNat,by omega⟩
  have hs1':1≤s:=by omega
  have hs2':s + (r + 1)≤left.length:=by omega
  let Lf:Option B:=some (.val (.lst (left.map .int)))
  have x1:zbg 6 (dOp zbF (dC (.int 1)) (zaf zad (dRO 0 (dR (dOp zed (dFn zde (dA (zab 3) dA0)) (dOp zed (dOp zed (zab 2) (dC (.int 1))) (zab 5))) dR0)))) [some (.own st),G,M,Lf,some (.own (bs.map toD)),T5,o6,o7] = .ok (.nx,[some (.own st1),G,M,Lf,some (.own (bs.map toD)),T5,some (.val (.int s)),o7]):=by
   have e1':zad [.own st,.val (.int (((left.map Dt.int).length:Nat) - (((many:Int) - 1) - ((0:Int) + k))))] = .ok (.int v,[.own st1,.val .non]):=by rw[List.length_map];exact e1
   have:=zfP (zch:=[G,M,Lf,some (.own (bs.map toD)),T5,o6,o7]) (fb:=dOp zed (dFn zde (dA (zab 3) dA0)) (dOp zed (dOp zed (zab 2) (dC (.int 1))) (zab 5))) e1' rfl
   refine zby (i:=6) (zaz (d:=.int 1) rfl this (z:=.int s) ?_) (by simp)
   rw[hsz];rfl
  obtain ⟨t,st2,hs2,ht,e2⟩:=hF (left.take s) st1 (by rw[List.length_take];omega) (by rw[List.length_take];omega) hs1
  have htl:(left.take s).length=s:=by rw[List.length_take];omega
  have c1:dFz (zoC (zab 3) dO0 (dO1 (zab 6))) [some (.own st1),G,M,Lf,some (.own (bs.map toD)),T5,some (.val (.int s)),o7] = .ok (.lst ((left.take s).map .int),[some (.own st1),G,M,Lf,some (.own (bs.map toD)),T5,some (.val (.int s)),o7]):=by
   refine zb1 ?_
   rw[zoi (ds:=left.map .int) (lo:=none) (hi:=some (s:Int)) rfl rfl rfl,zqb (by rw[List.length_map];omega),List.map_take]
  have x2:=appS (F:=F) c1 e2 (by rw[List.length_map];omega)
  have x3:zbg 3 (dFz (zoC (zab 3) (dO1 (zab 6)) dO0)) [some (.own st2),G,M,Lf,some (.own (bs.map toD ++ [toD t])),T5,some (.val (.int s)),o7] = .ok (.nx,[some (.own st2),G,M,some (.val (.lst ((left.drop s).map .int))),some (.own ((bs ++ [t]).map toD)),T5,some (.val (.int s)),o7]):=by
   have c2:dFz (zoC (zab 3) (dO1 (zab 6)) dO0) [some (.own st2),G,M,Lf,some (.own (bs.map toD ++ [toD t])),T5,some (.val (.int s)),o7] = .ok (.lst ((left.drop s).map .int),[some (.own st2),G,M,Lf,some (.own (bs.map toD ++ [toD t])),T5,some (.val (.int s)),o7]):=by
    refine zb1 ?_
    rw[zoi (ds:=left.map .int) (lo:=some (s:Int)) (hi:=none) rfl rfl rfl,zlF (by rw[List.length_map];omega),List.map_drop]
   rw[zby (i:=3) c2 (by simp),List.map_append]
   rfl
  obtain ⟨left',bs',st',b5,b6,k1,k2,k3,k4,k5,k6,k7⟩:=zjM (many:=many) (G:=G) (o7:=o7) hF hL r (k + 1) (left.drop s) (bs ++ [t]) st2 T5 (some (.val (.int s))) (by omega) (by rw[List.length_drop];omega) (by rw[List.length_drop];omega) (fun x hx=>by
   rcases List.mem_append.mp hx with hx | hx
   ·exact hb x hx
   ·have:x=t:=by simpa using hx
    subst this
    refine ⟨ht.1,?_⟩
    have:=ht.2.2
    rw[htl] at this
    omega) (by simp;omega) hs2
  refine ⟨left',bs',st',b5,b6,k1,k2,k3,?_,by rw[k5,List.length_append];simp only[List.length_cons,List.length_nil];omega,k6,?_⟩
  ·rw[k4,zbx,zbx,List.flatMap_append,List.append_assoc]
   congr 1
   show (zam t ++ []) ++ left.drop s=left
   rw[ht.2.1,List.append_nil,List.take_append_drop]
  ·rw[List.range'_succ,List.map_cons]
   show ((zbo 5 (.int ((0:Int) + k)) [some (.own st),G,M,Lf,some (.own (bs.map toD)),o5,o6,o7]).bind _)=_
   show ((zm0 F [some (.own st),G,M,Lf,some (.own (bs.map toD)),T5,o6,o7]).bind _)=_
   have eb:zm0 F [some (.own st),G,M,Lf,some (.own (bs.map toD)),T5,o6,o7] = .ok (.nx,[some (.own st2),G,M,some (.val (.lst ((left.drop s).map .int))),some (.own ((bs ++ [t]).map toD)),T5,some (.val (.int s)),o7]):=by
    unfold zm0
    rw[zal x1,zal x2]
    exact x3
   rw[eb]
   exact k7
def Sq(gs:List Int)(d:Dt):Prop:=d=tz gs∨d = .lst (gs.map .int)
theorem zka:∀(n:Nat)(gs:List Int)(d:Dt)(st:List Dt),Sq gs d→gs.length≤n→n≤8→1≤gs.length→gs.length≤7→St st→∃ t st',St st'∧TrE gs t∧zbf n [.own st,.val d] = .ok (toD t,[.own st',.val .non])
 | 0,gs,d,st,_,h,_,h1,_,_=>by omega
 | n + 1,gs,d,st,hd,h,h8,h1,h7,hs=>by
  let G:Option B:=some (.val d)
  have hlen:dFn zde (dA (zab 1) dA0) [some (.own st),G,none,none,none,none,none,none] = .ok (.int gs.length,[some (.own st),G,none,none,none,none,none,none]):=by
   refine zcp (d:=d) rfl ?_
   rcases hd with rfl | rfl <;> simp[zde,tz]
  have ht:dTB (dOp (gEq false) (dFn zde (dA (zab 1) dA0)) (dC (.int 1))) [some (.own st),G,none,none,none,none,none,none] = .ok ((gs.length:Int) == 1,[some (.own st),G,none,none,none,none,none,none]):=zbd (zaz hlen rfl (by rw[ztz];rfl))
  by_cases hone:gs.length=1
  ·obtain ⟨g,rfl⟩:=List.length_eq_one_iff.mp hone
   refine ⟨.lf g,st,hs,⟨rfl,rfl,by simp[dep]⟩,zar (ρ':=[some (.own st),G,none,none,none,none,none,none]) rfl ?_ rfl⟩
   show zdW (zbf n) [some (.own st),G,none,none,none,none,none,none]=_
   rw[zlr]
   refine zdx ?_
   rw[zev (by rw[ht];rfl),toD]
   refine zb3 (zaz (d:=d) (e:=.int 0) rfl rfl ?_)
   rcases hd with rfl | rfl <;> rfl
  ·have ht':dTB (dOp (gEq false) (dFn zde (dA (zab 1) dA0)) (dC (.int 1))) [some (.own st),G,none,none,none,none,none,none] = .ok (false,[some (.own st),G,none,none,none,none,none,none]):=by
    rw[ht,show ((gs.length:Int) == 1)=false from by rw[beq_eq_false_iff_ne];omega]
   have x0:dIf (dTB (dOp (gEq false) (dFn zde (dA (zab 1) dA0)) (dC (.int 1)))) (zb2 (dOp gIx (zab 1) (dC (.int 0)))) dNx [some (.own st),G,none,none,none,none,none,none] = .ok (.nx,[some (.own st),G,none,none,none,none,none,none]):=by rw[zcH ht'];rfl
   obtain ⟨v,st1,e1,hs1,v0,v1⟩:=zbl (m:=3) hs (by decide) (by decide)
   obtain ⟨many,hm⟩ : ∃ many:Nat,(many:Int)=(if 2 + v < (gs.length:Int) then 2 + v else gs.length):=⟨(if 2 + v < (gs.length:Int) then 2 + v else gs.length).toNat,by split <;> omega⟩
   have hm2:2≤many∧many≤gs.length:=by
    split at hm <;> omega
   let M:Option B:=some (.val (.int many))
   have x1:zbg 2 (dFn zfK (dA (dFn zde (dA (zab 1) dA0)) (dA (dOp zbF (dC (.int 2)) (zaf zad (dRO 0 (dR (dC (.int 3)) dR0)))) dA0))) [some (.own st),G,none,none,none,none,none,none] = .ok (.nx,[some (.own st1),G,M,none,none,none,none,none]):=by
    have et:=zfP (zch:=[G,none,none,none,none,none,none]) (fb:=dC (.int 3)) e1 rfl
    have ea:dA (dFn zde (dA (zab 1) dA0)) (dA (dOp zbF (dC (.int 2)) (zaf zad (dRO 0 (dR (dC (.int 3)) dR0)))) dA0) [some (.own st),G,none,none,none,none,none,none] = .ok ([.int gs.length,.int (2 + v)],[some (.own st1),G,none,none,none,none,none,none]):=zcs hlen (zcs (fr:=dA0) (zaz (d:=.int 2) rfl et rfl) rfl)
    refine zby (i:=2) (d:=.int many) (ρ1:=[some (.own st1),G,none,none,none,none,none,none]) ?_ (by simp)
    show ((dA (dFn zde (dA (zab 1) dA0)) (dA (dOp zbF (dC (.int 2)) (zaf zad (dRO 0 (dR (dC (.int 3)) dR0)))) dA0) [some (.own st),G,none,none,none,none,none,none]).bind fun a=>(zfK a.1).bind fun z=>R.ok (z,a.2))=_
    rw[ea]
    show R.ok (Dt.int (if 2 + v < (gs.length:Int) then 2 + v else gs.length),_)=_
    rw[← hm]
   have x2:zbg 3 (dFz (zfq zgU (dA (zab 1) dA0))) [some (.own st1),G,M,none,none,none,none,none] = .ok (.nx,[some (.own st1),G,M,some (.val (.lst (gs.map .int))),none,none,none,none]):=by
    refine zby (i:=3) (d:=.lst (gs.map .int)) (ρ1:=[some (.own st1),G,M,none,none,none,none,none]) (zb1 ?_) (by simp)
    show ((zgU [d]).bind _)=_
    rcases hd with rfl | rfl <;> rfl
   have x3:zcg 4 (zdl dA0) [some (.own st1),G,M,some (.val (.lst (gs.map .int))),none,none,none,none] = .ok (.nx,[some (.own st1),G,M,some (.val (.lst (gs.map .int))),some (.own []),none,none,none]):=rfl
   have hF:∀(gs':List Int)(st:List Dt),1≤gs'.length→gs'.length < gs.length→St st→∃ t st',St st'∧TrE gs' t∧zbf n [.own st,.val (.lst (gs'.map .int))] = .ok (toD t,[.own st',.val .non]):=fun gs' st a1 a2 a3=>zka n gs' _ st (.inr rfl) (by omega) (by omega) a1 (by omega) a3
   obtain ⟨left',bs',st2,b5,b6,k1,k2,k3,k4,k5,k6,k7⟩:=zjM (F:=zbf n) (L:=gs.length) (many:=many) (G:=G) (o7:=none) hF h7 (many - 1) 0 gs [] st1 none none (by omega) (by omega) (by omega) (by simp) (by simp;omega) hs1
   have x4:zgh (zbO (dOp zed (zab 2) (dC (.int 1)))) (zbo 5) (zm0 (zbf n)) [some (.own st1),G,M,some (.val (.lst (gs.map .int))),some (.own []),none,none,none] = .ok (.nx,[some (.own st2),G,M,some (.val (.lst (left'.map .int))),some (.own (bs'.map toD)),b5,b6,none]):=by
    unfold zgh
    rw[zib (j:=many - 1) (ρ1:=[some (.own st1),G,M,some (.val (.lst (gs.map .int))),some (.own []),none,none,none]) (by
     refine zaz (d:=.int many) (e:=.int 1) rfl rfl ?_
     show R.ok (Dt.int ((many:Int) - 1))=_
     congr 2;omega) (by omega)]
    show ziB (zbo 5) _ (zbh 0 (many - 1)) _=_
    unfold zbh
    rw[List.range_eq_range']
    exact k7
   obtain ⟨t,st3,hs3,ht3,e3⟩:=hF left' st2 k2 (by omega) k1
   have x5:=appS (F:=zbf n) (fb:=zab 3) (st:=st2) (st':=st3) (G:=G) (M:=M) (Lf:=some (.val (.lst (left'.map .int)))) (o5:=b5) (o6:=b6) (o7:=none) (bs:=bs'.map toD) (d:=.lst (left'.map .int)) rfl e3 (by rw[List.length_map,k5];simp;omega)
   let A:Option B:=some (.val (.str (Str.ofString "any")))
   let Lf:Option B:=some (.val (.lst (left'.map .int)))
   have x6:zbg 7 (dC (.str (Str.ofString "any"))) [some (.own st3),G,M,Lf,some (.own (bs'.map toD ++ [toD t])),b5,b6,none] = .ok (.nx,[some (.own st3),G,M,Lf,some (.own (bs'.map toD ++ [toD t])),b5,b6,A]):=rfl
   obtain ⟨r,st4,hs4,hr,x7⟩ : ∃(r:Bool)(st4:List Dt),St st4∧(r=true→3≤many)∧dIf (zfu (dTB (dOp gGt (zab 2) (dC (.int 2)))) (dTB (dOp (gEq false) (zaf zad (dRO 0 (dR (dC (.int 2)) dR0))) (dC (.int 0))))) (zbg 7 (dC (.str (Str.ofString "row")))) dNx [some (.own st3),G,M,Lf,some (.own (bs'.map toD ++ [toD t])),b5,b6,A] = .ok (.nx,[some (.own st4),G,M,Lf,some (.own (bs'.map toD ++ [toD t])),b5,b6,some (.val (.str (wd r)))]):=by
    have g1:dTB (dOp gGt (zab 2) (dC (.int 2))) [some (.own st3),G,M,Lf,some (.own (bs'.map toD ++ [toD t])),b5,b6,A] = .ok (decide ((2:Int) < many),[some (.own st3),G,M,Lf,some (.own (bs'.map toD ++ [toD t])),b5,b6,A]):=zbd (zaz (d:=.int many) (e:=.int 2) rfl rfl rfl)
    by_cases hgt:(2:Int) < many
    ·rw[decide_eq_true hgt] at g1
     obtain ⟨u,st4,e4,hs4,u0,u1⟩:=zbl (m:=2) hs3 (by decide) (by decide)
     have et:=zfP (zch:=[G,M,Lf,some (.own (bs'.map toD ++ [toD t])),b5,b6,A]) (fb:=dC (.int 2)) e4 rfl
     have g2:dTB (dOp (gEq false) (zaf zad (dRO 0 (dR (dC (.int 2)) dR0))) (dC (.int 0))) [some (.own st3),G,M,Lf,some (.own (bs'.map toD ++ [toD t])),b5,b6,A] = .ok (u == 0,[some (.own st4),G,M,Lf,some (.own (bs'.map toD ++ [toD t])),b5,b6,A]):=zbd (zaz et rfl (by rw[ztz];rfl))
     refine ⟨u == 0,st4,hs4,fun _=>by omega,?_⟩
     by_cases hu:u=0
     ·rw[show (u == 0)=true from by simpa using hu] at g2 ⊢
      rw[zev (by rw[zgB g1];exact g2)]
      rfl
     ·rw[show (u == 0)=false from by simpa using hu] at g2 ⊢
      rw[zcH (by rw[zgB g1];exact g2)]
      rfl
    ·rw[decide_eq_false hgt] at g1
     refine ⟨false,st3,hs3,(fun z=>by cases z),?_⟩
     rw[zcH (zkd g1)]
     rfl
   let B':List Tr:=bs' ++ [t]
   have hB:bs'.map toD ++ [toD t]=B'.map toD:=by simp[B']
   refine ⟨.nd r B',st4,hs4,⟨?_,?_,?_⟩,zar (ρ':=[some (.own st4),G,M,Lf,some (.val (.lst (B'.map toD))),b5,b6,some (.val (.str (wd r)))]) rfl ?_ rfl⟩
   ·simp only[okT,Bool.and_eq_true,decide_eq_true_eq,zco,List.all_eq_true]
    refine ⟨?_,fun x hx=>?_⟩
    ·simp only[B',List.length_append,k5,List.length_cons,List.length_nil]
     cases r with
     | true=>have:=hr rfl;simp;omega
     | false=>simp;omega
    ·rcases List.mem_append.mp hx with hx | hx
     ·exact (k6 x hx).1
     ·have:x=t:=by simpa using hx
      subst this;exact ht3.1
   ·simp only[zam,B',zbx,List.flatMap_append]
    rw[zbx] at k4
    simp only[zau,List.nil_append] at k4
    show bs'.flatMap zam ++ (zam t ++ [])=gs
    rw[ht3.2.1,List.append_nil,k4]
   ·have hdp:zel B'≤gs.length - 1:=zcb.mpr fun x hx=>by
     rcases List.mem_append.mp hx with hx | hx
     ·have:=(k6 x hx).2;omega
     ·have:x=t:=by simpa using hx
      subst this
      have:=ht3.2.2
      omega
    simp only[dep]
    omega
   ·show zdW (zbf n) [some (.own st),G,none,none,none,none,none,none]=_
    rw[zlr,zal x0,zal x1,zal x2,zal x3,zal x4,zal x5,zal x6,zal x7,hB]
    refine zb3 ?_
    have eu:zhH 4 [some (.own st4),G,M,Lf,some (.own (B'.map toD)),b5,b6,some (.val (.str (wd r)))] = .ok (.lst (B'.map toD),[some (.own st4),G,M,Lf,some (.val (.lst (B'.map toD))),b5,b6,some (.val (.str (wd r)))]):=rfl
    rw[zfj (zcs (d:=.str (wd r)) (ρ1:=[some (.own st4),G,M,Lf,some (.own (B'.map toD)),b5,b6,some (.val (.str (wd r)))]) rfl (zcs (fr:=dA0) (zcp (g:=zbn) (z:=.tup (B'.map toD)) eu rfl) rfl)) (by simp)]
    rw[toD,zbY]
def Tl(d:Dt):Prop:=∀ l,d = .tup l→l.length≤60
def Bd(n:Nat)(o:List Int)(d:Dt):Prop:=Tl d∧(∃ b,zkG d (tz o) = .ok (.bl b))∧(∃ b,zkG d (.tup [.int 0]) = .ok (.bl b))∧(zkG d (tz o) = .ok (.bl false)→zd7 n d=false)
theorem znZ{d y:Dt}(h1:okN 60 d=true)(h2:okN 60 y=true):zkG d y = .ok (.bl (eqD d y)):=by
 have e:gEq false d y = .ok (.bl (eqD d y)):=by rw[zdt h1 h2];rfl
 cases d with
 | dct=>cases h1
 | _=>exact e
theorem zmv{n:Nat}{o:List Int}{d:Dt}(ht:Tl d)(hk:okN 60 d=true)(h:eqD d (tz o)=false→zd7 n d=false):Bd n o d:=by
 refine ⟨ht,⟨_,znZ hk (zsc o).2⟩,⟨_,znZ hk rfl⟩,fun e=>h ?_⟩
 rw[znZ hk (zsc o).2] at e
 injection e with e
 injection e
theorem zlL{n:Nat}{l:List Dt}(h:l.length≠n):zd7 n (.tup l)=false:=by
 cases e:zd7 n (.tup l) with
 | false=>rfl
 | true =>
  obtain ⟨zs,h1,h2⟩:=zjd e
  unfold tz at h1
  cases h1
  rw[List.length_map,h2.length_eq,zaG] at h
  exact absurd rfl h
theorem zoU{n:Nat}{l:List Dt}{d:Dt}(hd:d∈l)(h:isG n d=false):zd7 n (.tup l)=false:=by
 have e:l.all (isG n)=false:=by
  rw[List.all_eq_false]
  exact ⟨d,hd,by rw[h];simp⟩
 show (l.all (isG n) && _)=false
 rw[e]
 rfl
theorem zps{α:Type}{l:List α}(h:l≠[]):zgO l none (some (-1))=l.take (l.length - 1):=by
 have hl:0 < l.length:=List.length_pos_iff.mpr h
 unfold zgO HT.sIx
 simp only[Nat.sub_zero,List.drop_zero]
 rw[if_pos (by decide)]
 congr 1
 omega
def zty:De:=(dFz (zdl (dA (dOp gIx (zab 4) (dOp zed (zab 6) (dC (.int 1)))) (dA (zab 1) (dAC [(.int (-1)),(.bl true),.non,(.str (Str.ofString "0")),(.tup [(.int 0)])])))))
def zoT:De:=(dFz (zdl (dA (zes (zab 4) dO0 (dO1 (zm5 (dC (.int 1))))) (dA (dOp zfE (zab 4) (zhP (dA (zab 1) dA0))) (dA (dFz (zfq zgU (dA (zab 4) dA0))) (dA (dC .non) (dA (dC .dct) (dA (dC (.int 0)) (dA (dOp zfE (dOp zfE (zes (zab 4) dO0 (dO1 (zab 6))) (zhP (dA (zab 7) dA0))) (zes (zab 4) (dO1 (dOp zbF (zab 6) (dC (.int 1)))) dO0)) dA0)))))))))
def zt9:List Dt:=[(.int 0),(.int 1),(.int 2),(.int 3),(.int 4),(.int 5),(.int 6),(.int 6),(.int 6)]
def zkA:List Dt:=[(.int 0),(.int 8),(.int (-1)),(.bl true),.non,(.str (Str.ofString "3"))]
def tst:DT:=(zk6 (dTB (dOp zkG (zab 9) (zab 4))) (zfu (dTB (dOp (gEq false) (zab 1) (dC (.int 1)))) (dTB (dOp zkG (zab 9) (dC (.tup [(.int 0)]))))))
def cf1:De:=(dFz (zbQ zat (dR (zab 1) (dR (zab 2) (dR (zab 9) dR0)))))
def cf2:De:=(zaf zbc (dR (zab 1) (dR (zab 4) (dR (zab 9) dR0))))
def cf3:De:=(zaf zbi (dR (zab 1) (dR (zab 3) (dR (zab 9) dR0))))
def rf1:De:=(zaf zbi (dR (zab 10) (dR (zab 3) (dR (zab 4) dR0))))
def rf2:De:=(dFz (zbQ zat (dR (zab 10) (dR (dFz (zdl dA0)) (dR (zab 4) dR0)))))
def rf3:De:=(dFz (zbQ zat (dR (zab 1) (dR (dFz (zdl (dA (zhP (dA (zab 1) dA0)) dA0))) (dR (zab 4) dR0)))))
theorem zli:zbJ=(za4 (zbg 6 (zaf zad (dRO 0 (dR (zab 1) dR0)))) (za4 (zbg 7 (dOp gIx zty (zaf zad (dRO 0 (dR (dC (.int 7)) dR0))))) (za4 (zbg 8 zoT) (za4 (zbg 9 (dOp gIx (zab 8) (dOp gIx (dC (.lst zt9)) (zaf zad (dRO 0 (dR (dC (.int 9)) dR0)))))) (za4 (dIf tst (zb2 (dC (.bl true))) dNx) (za4 (ziV 5 11 zdV 7 cf1 cf2 cf3) (za4 (zbg 10 (dOp gIx (dC (.lst zkA)) (zaf zad (dRO 0 (dR (dC (.int 6)) dR0))))) (za4 (dIf (dTB (dOp (gEq true) (dFz (zk7 5 zdV rf1)) (dC (.lst [(.int 0)])))) (zb2 (dC (.bl false))) dNx) (za4 (dIf (dTB (dOp (gEq true) (dFz (zk7 5 zdV rf2)) (dC (.lst [(.int 0)])))) (zb2 (dC (.bl false))) dNx) (zb2 (dOp (gEq false) (dFz (zk7 5 zdV rf3)) (dC (.lst [(.int 1)]))))))))))))):=rfl
theorem ztb{u:Int}(h0:0≤u)(h1:u < 9):∃ j:Nat,j < 7∧gIx (.lst zt9) (.int u) = .ok (.int j):=by
 obtain ⟨k,rfl⟩ : ∃ k:Nat,u=k:=⟨u.toNat,by omega⟩
 have:k=0∨k=1∨k=2∨k=3∨k=4∨k=5∨k=6∨k=7∨k=8:=by omega
 rcases this with rfl | rfl | rfl | rfl | rfl | rfl | rfl | rfl | rfl
 ·exact ⟨0,by decide,rfl⟩
 ·exact ⟨1,by decide,rfl⟩
 ·exact ⟨2,by decide,rfl⟩
 ·exact ⟨3,by decide,rfl⟩
 ·exact ⟨4,by decide,rfl⟩
 ·exact ⟨5,by decide,rfl⟩
 ·exact ⟨6,by decide,rfl⟩
 ·exact ⟨6,by decide,rfl⟩
 ·exact ⟨6,by decide,rfl⟩
theorem zns:∀ d∈zkA,isW d=false∨∃ n,d = .int n∧(n < 1∨7 < n):=by
 intro d hd
 simp only[zkA,List.mem_cons,List.not_mem_nil,or_false] at hd
 rcases hd with rfl | rfl | rfl | rfl | rfl | rfl
 ·exact .inr ⟨_,rfl,by decide⟩
 ·exact .inr ⟨_,rfl,by decide⟩
 ·exact .inr ⟨_,rfl,by decide⟩
 ·exact .inl rfl
 ·exact .inl rfl
 ·exact .inl rfl
theorem znJ{o:List Int}{v:Int}(h0:0≤v)(h1:v < o.length):∃(j:Nat)(x:Int),o[j]? = some x∧(2≤o.length→(j:Int)≠v)∧gIx (tz o) (.int (v - 1)) = .ok (.int x):=by
 by_cases hv:v=0
 ·subst hv
  have hne:o≠[]:=by intro z;rw[z] at h1;simp at h1
  have hl:o.length - 1 < o.length:=by omega
  refine ⟨o.length - 1,o[o.length - 1],List.getElem?_eq_getElem hl,fun h=>by omega,?_⟩
  unfold tz gIx
  rw[show ((0:Int) - 1) = -1 from rfl]
  simp only
  rw[ziQ (by simpa using hne),List.getLast?_map,List.getLast?_eq_getElem?,List.getElem?_eq_getElem hl]
  rfl
 ·have hl:(v - 1).toNat < o.length:=by omega
  refine ⟨(v - 1).toNat,o[(v - 1).toNat],List.getElem?_eq_getElem hl,fun h=>by omega,?_⟩
  exact zi6 (by omega) (by simp;omega) (by rw[List.getElem?_map,List.getElem?_eq_getElem hl];rfl)
theorem zpH{n:Nat}{o:List Int}{v j:Nat}{x:Int}(hv:v < o.length)(hj:o[j]? = some x)(hne:j≠v):zd7 n (.tup (((o.take v).map .int ++ [.int x]) ++ (o.drop (v + 1)).map .int))=false:=by
 cases e:zd7 n (.tup (((o.take v).map .int ++ [.int x]) ++ (o.drop (v + 1)).map .int)) with
 | false=>rfl
 | true =>
  exfalso
  obtain ⟨zs,h1,h2⟩:=zjd e
  have hz:((o.take v).map Dt.int ++ [.int x]) ++ (o.drop (v + 1)).map .int=((o.take v ++ [x]) ++ o.drop (v + 1)).map .int:=by simp
  rw[hz] at h1
  unfold tz at h1
  injection h1 with h1
  have h3:(o.take v ++ [x]) ++ o.drop (v + 1)=zs:=by
   have inj:∀ a b:List Int,a.map Dt.int=b.map Dt.int→a=b:=by
    intro a
    induction a with
    | nil=>intro b hb;cases b with
     | nil=>rfl
     | cons _ _=>cases hb
    | cons y a ih=>intro b hb;cases b with
     | nil=>cases hb
     | cons z b =>
      simp only[List.map_cons,List.cons.injEq,Dt.int.injEq] at hb
      rw[hb.1,ih b hb.2]
   exact inj _ _ h1
  have hn:zs.Nodup:=h2.nodup_iff.mpr (zcf n)
  rw[← h3] at hn
  have hj':j < o.length:=(List.getElem?_eq_some_iff.mp hj).1
  rw[List.append_assoc,List.nodup_append] at hn
  obtain ⟨_,n2,n3⟩:=hn
  rcases Nat.lt_or_gt_of_ne hne with q | q
  ·have:x∈o.take v:=by
    refine List.mem_of_getElem? (i:=j) ?_
    rw[List.getElem?_take_of_lt q];exact hj
   exact n3 x this x (by simp) rfl
  ·have:x∈o.drop (v + 1):=by
    refine List.mem_of_getElem? (i:=j - (v + 1)) ?_
    rw[List.getElem?_drop,show v + 1 + (j - (v + 1))=j by omega];exact hj
   rw[List.singleton_append,List.nodup_cons] at n2
   exact n2.1 this
theorem zkp(k:Nat){a b:List Dt}(h1:a.all (okN k)=true)(h2:b.all (okN k)=true):(a ++ b).all (okN k)=true:=by rw[List.all_append,h1,h2];rfl
abbrev EW(s n ps t o q a od so ba no ca:Option B):Ev:=[s,n,ps,t,o,q,a,od,so,ba,no,ca]
theorem znT{n:Nat}{o:List Int}{ps:List (List Int)}{tD:Dt}{st:List Dt}(h1:1≤n)(h7:n≤7)(ho:o.Perm (zaL n))(hp:zoA n ps)(hpl:ps.length≤8)(hs:St st) :
  ∃ st',St st'∧za9 [.own st,.val (.int n),.val (.lst (lp ps)),.val tD,.val (tz o),.tab zdV] = .ok (.bl true,[.own st',.val .non,.val .non,.val .non,.val .non,.tab zdV]):=by
 have hol:o.length=n:=by rw[ho.length_eq,zaG]
 have hne:o≠[]:=by intro z;rw[z] at hol;simp at hol;omega
 let N:Option B:=some (.val (.int n))
 let P:Option B:=some (.val (.lst (lp ps)))
 let T:Option B:=some (.val tD)
 let O:Option B:=some (.val (tz o))
 let Q:Option B:=some (.tab zdV)
 obtain ⟨v,st1,e1,hs1,v0,v1⟩:=zbl (m:=(n:Int)) hs (by omega) (by omega)
 let A:Option B:=some (.val (.int v))
 let ρ1:Ev:=EW (some (.own st1)) N P T O Q A none none none none none
 have x1:zbg 6 (zaf zad (dRO 0 (dR (zab 1) dR0))) (EW (some (.own st)) N P T O Q none none none none none none) = .ok (.nx,ρ1):=zby (i:=6) (zfP e1 rfl) (by simp)
 obtain ⟨j,x,hj,hjv,ej⟩:=znJ (o:=o) (v:=v) v0 (by omega)
 let oddL:List Dt:=[.int x,.int n,.int (-1),.bl true,.non,.str (Str.ofString "0"),.tup [.int 0]]
 have eo:zty ρ1 = .ok (.lst oddL,ρ1):=by
  unfold zty
  exact zb1 (zn0 (ds:=oddL) (zcs (zaz (d:=tz o) (e:=.int (v - 1)) (ρ1:=ρ1) rfl rfl ej) (zcs (ρ1:=ρ1) rfl rfl)) (by simp[oddL]))
 obtain ⟨u,st2,e2,hs2,u0,u1⟩:=zbl (m:=7) hs1 (by decide) (by decide)
 have hul:u.toNat < oddL.length:=by show u.toNat < 7;omega
 let od:Dt:=oddL[u.toNat]
 have hodm:od∈oddL:=List.getElem_mem hul
 let D:Option B:=some (.val od)
 let ρ2:Ev:=EW (some (.own st2)) N P T O Q A D none none none none
 have x2:zbg 7 (dOp gIx zty (zaf zad (dRO 0 (dR (dC (.int 7)) dR0)))) ρ1 = .ok (.nx,ρ2) :=
  zby (i:=7) (zaz eo (zfP e2 rfl) (zkK u0 (by show u < 7;omega) (List.getElem?_eq_getElem hul))) (by simp[ρ1])
 obtain ⟨w,hw⟩ : ∃ w:Nat,v=w:=⟨v.toNat,by omega⟩
 have hwl:w < o.length:=by omega
 have c1:zgO (o.map Dt.int) none (some v)=(o.take w).map .int:=by rw[hw,ziI,zqb (by omega)]
 have c2:zgO (o.map Dt.int) (some (v + 1)) none=(o.drop (w + 1)).map .int:=by rw[hw,ziI,show ((w:Int) + 1)=((w + 1:Nat):Int) by omega,zlF (by omega)]
 have c3:zgO (o.map Dt.int) none (some (-1))=(o.take (n - 1)).map .int:=by rw[ziI,zps hne,hol]
 let b6:List Dt:=((o.take w).map .int ++ [od]) ++ (o.drop (w + 1)).map .int
 let someL:List Dt:=[.tup ((o.take (n - 1)).map .int),.tup (o.map .int ++ [.int n]),.lst (o.map .int),.non,.dct,.int 0,.tup b6]
 have hb6l:b6.length≤60:=by simp only[b6,List.length_append,List.length_map,List.length_take,List.length_drop,List.length_cons,List.length_nil];omega
 have hod60:okN 59 od=true:=by
  have hd:=hodm
  simp only[oddL,List.mem_cons,List.not_mem_nil,or_false] at hd
  rcases hd with q | q | q | q | q | q | q <;> rw[q] <;> first | rfl | decide +kernel
 have hT:∀ d∈someL,Bd n o d:=by
  intro d hd
  simp only[someL,List.mem_cons,List.not_mem_nil,or_false] at hd
  rcases hd with rfl | rfl | rfl | rfl | rfl | rfl | rfl
  ·refine zmv (fun l hl=>?_) ?_ fun _=>zlL ?_
   ·cases hl;simp;omega
   ·show ((o.take (n - 1)).map Dt.int).all (okN 59)=true
    exact zcC _ _
   ·simp;omega
  ·refine zmv (fun l hl=>?_) ?_ fun _=>zlL ?_
   ·cases hl;simp;omega
   ·show (o.map Dt.int ++ [Dt.int n]).all (okN 59)=true
    exact zkp _ (zcC _ _) rfl
   ·simp;omega
  ·refine zmv (fun l hl=>by cases hl) ?_ fun _=>rfl
   show (o.map Dt.int).all (okN 59)=true
   exact zcC _ _
  ·exact zmv (fun l hl=>by cases hl) rfl fun _=>rfl
  ·exact ⟨(fun l hl=>by cases hl),⟨_,rfl⟩,⟨_,rfl⟩,fun _=>rfl⟩
  ·exact zmv (fun l hl=>by cases hl) rfl fun _=>rfl
  ·refine zmv (fun l hl=>by cases hl;exact hb6l) ?_ fun hq=>?_
   ·show b6.all (okN 59)=true
    exact zkp _ (zkp _ (zcC _ _) (by simp[hod60])) (zcC _ _)
   ·have hd:=hodm
    simp only[oddL,List.mem_cons,List.not_mem_nil,or_false] at hd
    rcases hd with q | q
    ·by_cases hn:2≤o.length
     ·have:=hjv hn
      show zd7 n (.tup (((o.take w).map .int ++ [od]) ++ (o.drop (w + 1)).map .int))=false
      rw[q]
      exact zpH hwl hj (by omega)
     ·exfalso
      obtain ⟨a,rfl⟩ : ∃ a,o=[a]:=List.length_eq_one_iff.mp (by omega)
      have hj0:j=0:=by
       have:=(List.getElem?_eq_some_iff.mp hj).1
       simpa using this
      subst hj0
      have hxa:a=x:=by simpa using hj
      have hw0:w=0:=by simp at hwl;exact hwl
      rw[show Dt.tup b6=tz [a] by simp[b6,hw0,q,tz,hxa]] at hq
      unfold tz at hq
      rw[eqD] at hq
      simp[zgp,eqI] at hq
    ·refine zoU (d:=od) (by simp[b6]) ?_
     rcases q with q | q | q | q | q | q <;> rw[q] <;> simp[isG]
 have es:zoT ρ2 = .ok (.lst someL,ρ2):=by
  have k1:zes (zab 4) dO0 (dO1 (zab 6)) ρ2 = .ok (.tup ((o.take w).map .int),ρ2):=by rw[zik (ρ:=ρ2) (ds:=o.map .int) (lo:=none) (hi:=some v) rfl rfl rfl,c1]
  have k2:zes (zab 4) (dO1 (dOp zbF (zab 6) (dC (.int 1)))) dO0 ρ2 = .ok (.tup ((o.drop (w + 1)).map .int),ρ2):=by rw[zik (ρ:=ρ2) (ds:=o.map .int) (lo:=some (v + 1)) (hi:=none) rfl rfl rfl,c2]
  have k3:zes (zab 4) dO0 (dO1 (zm5 (dC (.int 1)))) ρ2 = .ok (.tup ((o.take (n - 1)).map .int),ρ2):=by rw[zik (ρ:=ρ2) (ds:=o.map .int) (lo:=none) (hi:=some (-1)) rfl rfl rfl,c3]
  have k4:zhP (dA (zab 7) dA0) ρ2 = .ok (.tup [od],ρ2):=zfj (zcs rfl rfl) (by simp)
  have k5:zhP (dA (zab 1) dA0) ρ2 = .ok (.tup [.int n],ρ2):=zfj (zcs rfl rfl) (by simp)
  unfold zoT
  refine zb1 (zn0 (ds:=someL) (zcs k3 (zcs (zaz (d:=tz o) (ρ1:=ρ2) rfl k5 (zkD (by simp;omega))) (zcs (ρ1:=ρ2) rfl (zcs (ρ1:=ρ2) rfl (zcs (ρ1:=ρ2) rfl (zcs (ρ1:=ρ2) rfl (zcs (fr:=dA0) (zaz (zaz k1 k4 (zkD (by simp;omega))) k2 (zkD (by simp;omega))) rfl))))))) (by simp[someL]))
 let S8:Option B:=some (.val (.lst someL))
 let ρ3:Ev:=EW (some (.own st2)) N P T O Q A D S8 none none none
 have x3:zbg 8 zoT ρ2 = .ok (.nx,ρ3):=zby (i:=8) es (by simp[ρ2])
 obtain ⟨z,st3,e3,hs3,z0,z1⟩:=zbl (m:=9) hs2 (by decide) (by decide)
 obtain ⟨i,hi,ei⟩:=ztb z0 z1
 have hil:i < someL.length:=by show i < 7;exact hi
 let ba:Dt:=someL[i]
 obtain ⟨hb1,⟨q1,hb2⟩,⟨q2,hb3⟩,hb4⟩:=hT ba (List.getElem_mem hil)
 let Bb:Option B:=some (.val ba)
 let ρ4:Ev:=EW (some (.own st3)) N P T O Q A D S8 Bb none none
 have x4:zbg 9 (dOp gIx (zab 8) (dOp gIx (dC (.lst zt9)) (zaf zad (dRO 0 (dR (dC (.int 9)) dR0))))) ρ3 = .ok (.nx,ρ4) :=
  zby (i:=9) (zaz (d:=.lst someL) (e:=.int i) (ρ1:=ρ3) rfl (zaz (d:=.lst zt9) (e:=.int z) (ρ1:=ρ3) rfl (zfP e3 rfl) ei) (zkK (by omega) (by show (i:Int) < 7;omega) (by rw[Int.toNat_natCast];exact List.getElem?_eq_getElem hil))) (by simp)
 have t1:dTB (dOp zkG (zab 9) (zab 4)) ρ4 = .ok (q1,ρ4):=zbd (zaz (d:=ba) (e:=tz o) (ρ1:=ρ4) rfl rfl hb2)
 have t2:dTB (dOp (gEq false) (zab 1) (dC (.int 1))) ρ4 = .ok ((n:Int) == 1,ρ4):=zbd (zaz (d:=.int n) (e:=.int 1) (ρ1:=ρ4) rfl rfl (by rw[ztz];rfl))
 have t3:dTB (dOp zkG (zab 9) (dC (.tup [(.int 0)]))) ρ4 = .ok (q2,ρ4):=zbd (zaz (d:=ba) (e:=.tup [.int 0]) (ρ1:=ρ4) rfl rfl hb3)
 obtain ⟨tb,htb,htf⟩ : ∃ tb:Bool,tst ρ4 = .ok (tb,ρ4)∧(tb=false→q1=false):=by
  unfold tst
  cases q1 with
  | true=>exact ⟨true,zqq t1,fun z=>by cases z⟩
  | false =>
   rw[zjX t1]
   cases hn1:((n:Int) == 1) with
   | true=>rw[hn1] at t2;rw[zgB t2];exact ⟨q2,t3,fun _=>rfl⟩
   | false=>rw[hn1] at t2;exact ⟨false,zkd t2,fun _=>rfl⟩
 have go:∀ ρ' st',St st'→zbJ (EW (some (.own st)) N P T O Q none none none none none none) = .ok (.rt (.bl true),ρ')→zay ([true,false,false,false,false] ++ [true]) ρ' = .ok [.own st',.val .non,.val .non,.val .non,.val .non,.tab zdV]→∃ st',St st'∧za9 [.own st,.val (.int n),.val (.lst (lp ps)),.val tD,.val (tz o),.tab zdV] = .ok (.bl true,[.own st',.val .non,.val .non,.val .non,.val .non,.tab zdV]) :=
  fun ρ' st' hs' e eb=>⟨st',hs',zar (ρ':=ρ') rfl e eb⟩
 cases tb with
 | true =>
  refine go ρ4 st3 hs3 ?_ rfl
  rw[zli,zal x1,zal x2,zal x3,zal x4]
  refine zdx ?_
  rw[zev htb]
  rfl
 | false =>
  have hseat:zd7 n ba=false:=hb4 (by rw[hb2,htf rfl])
  have x5:dIf tst (zb2 (dC (.bl true))) dNx ρ4 = .ok (.nx,ρ4):=by rw[zcH htb];rfl
  have g1:cf1 (zaJ ρ4) = .er 7:=by
   unfold cf1 dFz zbQ
   show (((zat [.val (.int n),.val (.lst (lp ps)),.val ba]).bind _).bind _)=_
   rw[zmD h1 h7 hp hpl hb1 hseat]
   rfl
  have g2:cf2 (zaJ ρ4) = .er 7:=zi2 (ρ1:=zaJ ρ4) (ρ2:=zaJ ρ4) (ρ3:=zaJ ρ4) (d:=.int n) (e:=tz o) (g:=ba) rfl rfl rfl (zm4 h1 h7 hb1 hseat)
  have g3:cf3 (zaJ ρ4) = .er 7:=zi2 (ρ1:=zaJ ρ4) (ρ2:=zaJ ρ4) (ρ3:=zaJ ρ4) (d:=.int n) (e:=tD) (g:=ba) rfl rfl rfl (zmM h1 h7 hb1 hseat)
  have x6:ziV 5 11 zdV 7 cf1 cf2 cf3 ρ4 = .ok (.nx,ρ4):=by
   show (if zdV=zdV∧7 < 8∧zpZ 7 (cf1 (zaJ ρ4))=true∧zpZ 7 (cf2 (zaJ ρ4))=true∧zpZ 7 (cf3 (zaJ ρ4))=true then R.ok (Fl.nx,ρ4) else .no)=_
   rw[g1,g2,g3,if_pos ⟨rfl,by decide,rfl,rfl,rfl⟩]
  obtain ⟨y,st4,e4,hs4,y0,y1⟩:=zbl (m:=6) hs3 (by decide) (by decide)
  have hyl:y.toNat < zkA.length:=by show y.toNat < 6;omega
  let no:Dt:=zkA[y.toNat]
  have hno:=zns no (List.getElem_mem hyl)
  let Nn:Option B:=some (.val no)
  let ρ5:Ev:=EW (some (.own st4)) N P T O Q A D S8 Bb Nn none
  have x7:zbg 10 (dOp gIx (dC (.lst zkA)) (zaf zad (dRO 0 (dR (dC (.int 6)) dR0)))) ρ4 = .ok (.nx,ρ5) :=
   zby (i:=10) (zaz (d:=.lst zkA) (e:=.int y) (ρ1:=ρ4) rfl (zfP e4 rfl) (zkK y0 (by show y < 6;omega) (List.getElem?_eq_getElem hyl))) (by simp)
  have r1:zk7 5 zdV rf1 ρ5 = .ok ([.int 0],ρ5):=zop rfl (zi2 (ρ1:=zaJ ρ5) (ρ2:=zaJ ρ5) (ρ3:=zaJ ρ5) (d:=no) (e:=tD) (g:=tz o) rfl rfl rfl (zmy hno)) (by decide)
  have r2:zk7 5 zdV rf2 ρ5 = .ok ([.int 0],ρ5):=zop rfl (by
   unfold rf2 dFz zbQ
   show (((zat [.val no,.val (.lst []),.val (tz o)]).bind _).bind _)=_
   rw[zm1 hno]
   rfl) (by decide)
  have r3:zk7 5 zdV rf3 ρ5 = .ok ([.int 1],ρ5):=zop rfl (by
   unfold rf3 dFz zbQ
   show (((zat [.val (.int n),.val (.lst [.tup [.int n]]),.val (tz o)]).bind _).bind _)=_
   have hL:zrK (.lst [.tup [.int n]]):=fun d hd t ht=>by
    have:d = .tup [.int n]:=by simpa using hd
    rw[this] at ht;cases ht;simp
   rw[zm8 h1 h7 hL (by simp[zjB,zlD,isG])]
   rfl) (by decide)
  have q1:∀(neg:Bool)(z:Int),gEq neg (.lst [.int z]) (.lst [.int z]) = .ok (.bl (!neg)):=by
   intro neg z
   rw[zdt rfl rfl,show eqD (.lst [.int z]) (.lst [.int z])=true by rw[eqD,zgp,zgp,eqI,beq_self_eq_true];rfl]
   cases neg <;> rfl
  have x8:dIf (dTB (dOp (gEq true) (dFz (zk7 5 zdV rf1)) (dC (.lst [(.int 0)])))) (zb2 (dC (.bl false))) dNx ρ5 = .ok (.nx,ρ5):=by
   rw[zcH (zbd (zaz (zb1 r1) (e:=.lst [.int 0]) rfl (q1 true 0)))];rfl
  have x9:dIf (dTB (dOp (gEq true) (dFz (zk7 5 zdV rf2)) (dC (.lst [(.int 0)])))) (zb2 (dC (.bl false))) dNx ρ5 = .ok (.nx,ρ5):=by
   rw[zcH (zbd (zaz (zb1 r2) (e:=.lst [.int 0]) rfl (q1 true 0)))];rfl
  refine go ρ5 st4 hs4 ?_ rfl
  rw[zli,zal x1,zal x2,zal x3,zal x4,zal x5,zal x6,zal x7,zal x8,zal x9]
  exact zb3 (zaz (zb1 r3) (e:=.lst [.int 1]) rfl (q1 false 1))
abbrev EV(S K s n ps o t se du tu f Q:Option B):Ev:=[S,K,s,n,ps,o,t,se,du,tu,f,Q]
def zp2:De:=(zhP (dA (zaf zc2 (dRO 2 (dR (zab 3) (dR (dC (.int 8)) dR0)))) (dA (zaf zaV (dRO 2 (dR (zab 3) dR0))) dA0)))
def zt8:DA:=(dA (zaf (zbf 8) (dRO 2 (dR (zaf zaV (dRO 2 (dR (zab 3) dR0))) dR0))) (dA (zaf zaV (dRO 2 (dR (zab 3) dR0))) dA0))
def zue:De:=(dFz (zaO (dIt (zab 4)) (zbo 12) dTT (dFn zbn (dA (dFz (zfq zd5 (dA (dFz (zaO (dIt (zab 12)) (zbo 13) dTT (dOp gIx (zab 5) (zab 13)) 1)) dA0))) dA0)) 1))
def zp4:DS:=(za4 (zcg 10 (zbQ zat (dR (zab 3) (dR (zab 4) (dR (zab 5) dR0))))) (za4 (dIf (zb0 (dTB (zlV 10 8 (zap 16)))) (zb2 (dC (.bl false))) dNx) (dEx (zer 10 (dC (.int 0))))))
def zpa:De:=(zaf (zap 16) (dR (zaf zbc (dR (zab 3) (dR (zab 7) (dR (zab 5) dR0)))) (dR (dFn zbn (dA (dFz (zaO (dIt (zab 7)) (zbo 12) dTT (dOp gIx (zab 5) (zab 12)) 1)) dA0)) dR0)))
def zpq:De:=(zaf (zap 16) (dR (zaf zbi (dR (zab 3) (dR (zab 6) (dR (zab 5) dR0)))) (dR (zaf (zbw 8) (dR (zaf (zbP 8) (dR (zab 6) (dR (zab 5) dR0))) dR0)) dR0)))
def ztA:De:=(zaf za9 (dRT 11 (dRO 2 (dR (zab 3) (dR (zab 4) (dR (zab 6) (dR (zab 5) dR0)))))))
def outer:DS:=(za4 (zcg 2 (zbQ zc3 (dR (zab 0) (dR (zab 1) dR0)))) (za4 (zbg 3 (dOp zbF (dC (.int 1)) (zaf zad (dRO 2 (dR (dC (.int 7)) dR0))))) (za4 (zsu zp2 (zgi 4 5)) (za4 (zsy 6 7 zt8) (za4 (zbg 8 zue) (za4 (zgh (zbO (dC (.int 2))) (zbo 9) zp4) (za4 (dIf (zb0 (dTB zpa)) (zb2 (dC (.bl false))) dNx) (za4 (dIf (zb0 (dTB zpq)) (zb2 (dC (.bl false))) dNx) (dIf (zb0 (dTB ztA)) (zb2 (dC (.bl false))) dNx)))))))))
theorem zqZ:zkh=za4 (zgh (zbO (dFn zin (dA (dC (.int 1)) (dA (dFn zfK (dA (dFn zde (dA (zab 0) dA0)) (dA (dC (.int 8)) dA0))) dA0)))) (zbo 1) outer) (zb2 (dC (.bl true))):=rfl
theorem zo5{n:Nat}{o:List Int}{ps:List (List Int)}{tD:Dt}{S K se du tu f:Option B}{st:List Dt}(h1:1≤n)(h7:n≤7)(ho:o.Perm (zaL n))(hp:zoA n ps)(hpl:ps.length≤8)(hs:St st):∃ st',ztA (EV S K (some (.own st)) (some (.val (.int n))) (some (.val (.lst (lp ps)))) (some (.val (tz o))) (some (.val tD)) se du tu f (some (.tab zdV))) = .ok (.bl true,EV S K (some (.own st')) (some (.val (.int n))) (some (.val (.lst (lp ps)))) (some (.val (tz o))) (some (.val tD)) se du tu f (some (.tab zdV))):=by
 obtain ⟨st',hs',e⟩:=znT (tD:=tD) h1 h7 ho hp hpl hs
 refine ⟨st',?_⟩
 unfold ztA
 show ((za9 [.own st,.val (.int n),.val (.lst (lp ps)),.val tD,.val (tz o),.tab zdV]).bind fun z=>R.ok (z.1,zf0 [.s 2,.d (.int n),.d (.lst (lp ps)),.d tD,.d (tz o),.s 11] z.2 0 (EV S K (some (.own st)) (some (.val (.int n))) (some (.val (.lst (lp ps)))) (some (.val (tz o))) (some (.val tD)) se du tu f (some (.tab zdV)))))=_
 rw[e]
 rfl
theorem zsq{F:FD}{fa fb fc:De}{ρ ρ1 ρ2 ρ3:Ev}{d e g:Dt}{y:List Dt}{l:List B}(h:fa ρ = .ok (d,ρ1))(h2:fb ρ1 = .ok (e,ρ2))(h3:fc ρ2 = .ok (g,ρ3))(hF:F [.val d,.val e,.val g] = .ok (.lst y,l)):zbQ F (dR fa (dR fb (dR fc dR0))) ρ = .ok (y,ρ3):=by
 unfold zbQ dR dR0
 rw[h]
 simp only[R.bind_ok,h2,h3,zhk,zaU,if_true,za0,hF]
 rw[zij]
theorem zmA{ns:List Int}{k:Nat}{o2 o3 o4 o5 o6 o7 o8 o9 o10:Option B}:∃ b2 b3 b4 b5 b6 b7 b8 b9 b10,outer (EV (some (.val (.scr ns))) (some (.val (.int k))) o2 o3 o4 o5 o6 o7 o8 o9 o10 (some (.tab zdV))) = .ok (.nx,EV (some (.val (.scr ns))) (some (.val (.int k))) b2 b3 b4 b5 b6 b7 b8 b9 b10 (some (.tab zdV))):=by
 let S:Option B:=some (.val (.scr ns))
 let K:Option B:=some (.val (.int k))
 let Q:Option B:=some (.tab zdV)
 obtain ⟨st,hs,e1⟩:=zmI (ns:=ns) (k:=k)
 have x1:zcg 2 (zbQ zc3 (dR (zab 0) (dR (zab 1) dR0))) (EV S K o2 o3 o4 o5 o6 o7 o8 o9 o10 Q) = .ok (.nx,EV S K (some (.own st)) o3 o4 o5 o6 o7 o8 o9 o10 Q) :=
  zgt (i:=2) (zs1 (ρ':=EV S K o2 o3 o4 o5 o6 o7 o8 o9 o10 Q) (ρ'':=EV S K o2 o3 o4 o5 o6 o7 o8 o9 o10 Q) rfl rfl e1) (by simp)
 obtain ⟨v,st1,e2,hs1,v0,v1⟩:=zbl (m:=7) hs (by decide) (by decide)
 obtain ⟨n,hn⟩ : ∃ n:Nat,(n:Int)=1 + v:=⟨(1 + v).toNat,by omega⟩
 have h1:1≤n:=by omega
 have h7:n≤7:=by omega
 let N:Option B:=some (.val (.int n))
 have x2:zbg 3 (dOp zbF (dC (.int 1)) (zaf zad (dRO 2 (dR (dC (.int 7)) dR0)))) (EV S K (some (.own st)) o3 o4 o5 o6 o7 o8 o9 o10 Q) = .ok (.nx,EV S K (some (.own st1)) N o4 o5 o6 o7 o8 o9 o10 Q):=by
  refine zby (i:=3) (zaz rfl (ziY (ρ:=EV S K (some (.own st)) o3 o4 o5 o6 o7 o8 o9 o10 Q) rfl rfl e2) (z:=.int n) ?_) (by simp)
  rw[hn];rfl
 obtain ⟨ps,st2,hs2,hps,hl,e3⟩:=zjF (n:=n) (st:=st1) h1 h7 hs1
 obtain ⟨o,st3,hs3,ho,e4⟩:=zeF (n:=n) h7 hs2
 have hol:o.length=n:=by rw[ho.length_eq,zaG]
 let P:Option B:=some (.val (.lst (lp ps)))
 let O:Option B:=some (.val (tz o))
 have x3:zsu zp2 (zgi 4 5) (EV S K (some (.own st1)) N o4 o5 o6 o7 o8 o9 o10 Q) = .ok (.nx,EV S K (some (.own st3)) N P O o6 o7 o8 o9 o10 Q):=by
  have ep:zp2 (EV S K (some (.own st1)) N o4 o5 o6 o7 o8 o9 o10 Q) = .ok (.tup [.lst (lp ps),tz o],EV S K (some (.own st3)) N o4 o5 o6 o7 o8 o9 o10 Q):=by
   unfold zp2
   exact zfj (zcs (zsv (ρ:=EV S K (some (.own st1)) N o4 o5 o6 o7 o8 o9 o10 Q) rfl rfl rfl e3) (zcs (fr:=dA0) (ziY (ρ:=EV S K (some (.own st2)) N o4 o5 o6 o7 o8 o9 o10 Q) rfl rfl e4) rfl)) (by simp)
  unfold zsu
  rw[ep]
  rfl
 obtain ⟨gs,st4,hs4,hg,e5⟩:=zeF (n:=n) h7 hs3
 have hgl:gs.length=n:=by rw[hg.length_eq,zaG]
 obtain ⟨t,st5,hs5,ht,e6⟩:=zka 8 gs (tz gs) st4 (.inl rfl) (by omega) (by omega) (by omega) (by omega) hs4
 obtain ⟨se,st6,hs6,hse,e7⟩:=zeF (n:=n) h7 hs5
 have hsl:se.length=n:=by rw[hse.length_eq,zaG]
 let T:Option B:=some (.val (toD t))
 let E:Option B:=some (.val (tz se))
 have x4:zsy 6 7 zt8 (EV S K (some (.own st3)) N P O o6 o7 o8 o9 o10 Q) = .ok (.nx,EV S K (some (.own st6)) N P O T E o8 o9 o10 Q):=by
  have et:zt8 (EV S K (some (.own st3)) N P O o6 o7 o8 o9 o10 Q) = .ok ([toD t,tz se],EV S K (some (.own st6)) N P O o6 o7 o8 o9 o10 Q):=by
   unfold zt8
   have c1:zaf zaV (dRO 2 (dR (zab 3) dR0)) (EV S K (some (.own st3)) N P O o6 o7 o8 o9 o10 Q) = .ok (tz gs,EV S K (some (.own st4)) N P O o6 o7 o8 o9 o10 Q):=ziY (ρ:=EV S K (some (.own st3)) N P O o6 o7 o8 o9 o10 Q) rfl rfl e5
   have c2:zaf (zbf 8) (dRO 2 (dR (zaf zaV (dRO 2 (dR (zab 3) dR0))) dR0)) (EV S K (some (.own st3)) N P O o6 o7 o8 o9 o10 Q) = .ok (toD t,EV S K (some (.own st5)) N P O o6 o7 o8 o9 o10 Q):=zsr (b0:=.own st3) rfl c1 rfl e6
   exact zcs c2 (zcs (fr:=dA0) (ziY (ρ:=EV S K (some (.own st5)) N P O o6 o7 o8 o9 o10 Q) rfl rfl e7) rfl)
  unfold zsy
  rw[et]
  rfl
 let du:List (List Int):=ps.map (pn o)
 let U:Option B:=some (.val (.lst (lp du)))
 have hpl:∀ p∈ps,p.length≤60:=fun p hp=>znp h7 (hps p hp)
 let ρ4:Ev:=EV S K (some (.own st6)) N P O T E o8 o9 o10 Q
 have x5:zbg 8 zue ρ4 = .ok (.nx,EV S K (some (.own st6)) N P O T E U o9 o10 Q):=by
  refine zby (i:=8) (ρ1:=ρ4) (d:=.lst (lp du)) ?_ (by simp[ρ4])
  unfold zue
  have hc:zaO (dIt (zab 4)) (zbo 12) dTT (dFn zbn (dA (dFz (zfq zd5 (dA (dFz (zaO (dIt (zab 12)) (zbo 13) dTT (dOp gIx (zab 5) (zab 13)) 1)) dA0))) dA0)) 1 ρ4 = .ok (ps.map fun p=>tz (pn o p),ρ4):=by
   refine zbu (l:=ps) (u:=tz) (f:=fun p=>tz (pn o p)) (ds:=lp ps) (j:=12) rfl rfl (by omega) (fun p hp=>?_) rfl
   have hP:=hps p hp
   let ρ5:Ev:=ρ4 ++ [some (.val (tz p))]
   have hc2:zaO (dIt (zab 12)) (zbo 13) dTT (dOp gIx (zab 5) (zab 13)) 1 ρ5 = .ok (p.map fun g=>.int (nm o g),ρ5) :=
    zbu (l:=p) (u:=Dt.int) (f:=fun g=>.int (nm o g)) (ds:=p.map .int) (j:=13) rfl rfl (by have:=hpl p hp;omega) (fun g hg=>zaz (d:=tz o) (e:=.int g) (ρ1:=ρ5 ++ [some (.val (.int g))]) rfl rfl (znY (hP.2.2 g hg).1 (by have:=hP.2.2 g hg;omega))) rfl
   have es:dFz (zfq zd5 (dA (dFz (zaO (dIt (zab 12)) (zbo 13) dTT (dOp gIx (zab 5) (zab 13)) 1)) dA0)) ρ5 = .ok (.lst ((pn o p).map .int),ρ5):=by
    refine zb1 ?_
    unfold zfq dA
    rw[zb1 hc2]
    show ((zd5 [.lst (p.map fun g=>Dt.int (nm o g))]).bind _)=_
    rw[show (p.map fun g=>Dt.int (nm o g))=(p.map (nm o)).map .int by rw[List.map_map];rfl]
    unfold zd5
    simp only[zeR]
    rw[if_pos (by rw[List.length_map];have:=hpl p hp;omega)]
    rfl
   exact zcp (g:=zbn) (d:=.lst ((pn o p).map .int)) es rfl
  rw[zb1 hc]
  show R.ok (Dt.lst (ps.map fun p=>tz (pn o p)),ρ4)=R.ok (Dt.lst ((ps.map (pn o)).map tz),ρ4)
  rw[List.map_map]
  rfl
 have hdul:du.length≤8:=by show (ps.map (pn o)).length≤8;rw[List.length_map];exact hl
 have hsame:zap 16 [.val (.lst (lp du)),.val (.lst (lp du))] = .ok (.bl true,[.val .non,.val .non]):=zqH (k:=13) du (by omega) fun p hp=>by
  obtain ⟨q,hq,rfl⟩:=List.mem_map.mp hp
  rw[zss]
  have:=hpl q hq
  omega
 obtain ⟨b9,b10,x6⟩ : ∃ b9 b10,zgh (zbO (dC (.int 2))) (zbo 9) zp4 (EV S K (some (.own st6)) N P O T E U o9 o10 Q) = .ok (.nx,EV S K (some (.own st6)) N P O T E U b9 b10 Q):=by
  obtain ⟨ρ',⟨b9,b10,rfl⟩,e⟩:=zif (g:=zbo 9) (body:=zp4) (ds:=zbh 0 2) (ρ:=EV S K (some (.own st6)) N P O T E U o9 o10 Q)
   (I:=fun ρ=>∃ a b,ρ=EV S K (some (.own st6)) N P O T E U a b Q)
   (fun d hd ρ ⟨a,b,hρ⟩=>by
    subst hρ
    refine ⟨EV S K (some (.own st6)) N P O T E U (some (.val d)) b Q,EV S K (some (.own st6)) N P O T E U (some (.val d)) (some (.own (lp du ++ [.int 0]))) Q,rfl,?_,_,_,rfl⟩
    let ρ6:Ev:=EV S K (some (.own st6)) N P O T E U (some (.val d)) (some (.own (lp du))) Q
    have y1:zcg 10 (zbQ zat (dR (zab 3) (dR (zab 4) (dR (zab 5) dR0)))) (EV S K (some (.own st6)) N P O T E U (some (.val d)) b Q) = .ok (.nx,ρ6) :=
     zgt (i:=10) (zsq (ρ:=EV S K (some (.own st6)) N P O T E U (some (.val d)) b Q) (ρ1:=EV S K (some (.own st6)) N P O T E U (some (.val d)) b Q) (ρ2:=EV S K (some (.own st6)) N P O T E U (some (.val d)) b Q) (ρ3:=EV S K (some (.own st6)) N P O T E U (some (.val d)) b Q) rfl rfl rfl (zkq h1 h7 ho hps hl)) (by simp)
    have y2:zlV 10 8 (zap 16) ρ6 = .ok (.bl true,ρ6):=by
     show (match zap 16 [.val (.lst (lp du)),.val (.lst (lp du))] with | .ok (.bl b,_)=>R.ok (Dt.bl b,ρ6) | _=>.no)=_
     rw[hsame]
    have y3:dIf (zb0 (dTB (zlV 10 8 (zap 16)))) (zb2 (dC (.bl false))) dNx ρ6 = .ok (.nx,ρ6):=by
     rw[zcH (ρ1:=ρ6) (zds (b:=true) (zbd y2))]
     rfl
    unfold zp4
    rw[zal y1,zal y3]
    refine zei (d:=.non) ?_
    show (if (lp du).length < 16777216 then R.ok (Dt.non,_) else .no)=_
    rw[if_pos (by rw[zsC];omega)]
    rfl) ⟨o9,o10,rfl⟩
  refine ⟨b9,b10,?_⟩
  unfold zgh
  rw[zib (j:=2) (ρ1:=EV S K (some (.own st6)) N P O T E U o9 o10 Q) rfl (by omega)]
  exact e
 let ρ7:Ev:=EV S K (some (.own st6)) N P O T E U b9 b10 Q
 have x7:dIf (zb0 (dTB zpa)) (zb2 (dC (.bl false))) dNx ρ7 = .ok (.nx,ρ7):=by
  have a1:zaf zbc (dR (zab 3) (dR (zab 7) (dR (zab 5) dR0))) ρ7 = .ok (tz (se.map (nm o)),ρ7):=zrO (ρ1:=ρ7) (ρ2:=ρ7) (ρ3:=ρ7) rfl rfl rfl (zkV h1 h7 ho hse)
  have hc:zaO (dIt (zab 7)) (zbo 12) dTT (dOp gIx (zab 5) (zab 12)) 1 ρ7 = .ok (se.map fun g=>.int (nm o g),ρ7) :=
   zbu (l:=se) (u:=Dt.int) (f:=fun g=>.int (nm o g)) (ds:=se.map .int) (j:=12) rfl rfl (by omega) (fun g hg=>zaz (d:=tz o) (e:=.int g) (ρ1:=ρ7 ++ [some (.val (.int g))]) rfl rfl (by
    have:=zb4.mp (hse.mem_iff.mp hg)
    exact znY this.1 (by omega))) rfl
  rw[show (se.map fun g=>Dt.int (nm o g))=(se.map (nm o)).map .int by rw[List.map_map];rfl] at hc
  have a2:dFn zbn (dA (dFz (zaO (dIt (zab 7)) (zbo 12) dTT (dOp gIx (zab 5) (zab 12)) 1)) dA0) ρ7 = .ok (tz (se.map (nm o)),ρ7):=zcp (g:=zbn) (d:=.lst ((se.map (nm o)).map .int)) (zb1 hc) rfl
  have a3:zpa ρ7 = .ok (.bl true,ρ7):=by
   unfold zpa
   exact zcP a1 a2 (znX (k:=14) _ (by rw[List.length_map];omega))
  rw[zcH (ρ1:=ρ7) (zds (b:=true) (zbd a3))]
  rfl
 obtain ⟨w1,w2,w3,w4⟩:=zkP h1 h7 ho (t:=t) (by have:=ht.2.2;omega) ht.1 (by rw[ht.2.1];exact hg.nodup_iff.mpr (zcf n)) (by rw[ht.2.1];omega) (fun x hx=>by rw[ht.2.1] at hx;exact zb4.mp (hg.mem_iff.mp hx))
 have x8:dIf (zb0 (dTB zpq)) (zb2 (dC (.bl false))) dNx ρ7 = .ok (.nx,ρ7):=by
  have a3:zpq ρ7 = .ok (.bl true,ρ7):=by
   unfold zpq
   exact zcP (zrO (ρ1:=ρ7) (ρ2:=ρ7) (ρ3:=ρ7) rfl rfl rfl w1) (zdg (zcP (ρ':=ρ7) (ρ'':=ρ7) rfl rfl w3) w2) w4
  rw[zcH (ρ1:=ρ7) (zds (b:=true) (zbd a3))]
  rfl
 obtain ⟨st7,e8⟩:=zo5 (S:=S) (K:=K) (se:=E) (du:=U) (tu:=b9) (f:=b10) (tD:=toD t) h1 h7 ho hps hl hs6
 have x9:dIf (zb0 (dTB ztA)) (zb2 (dC (.bl false))) dNx ρ7 = .ok (.nx,EV S K (some (.own st7)) N P O T E U b9 b10 Q):=by
  rw[zcH (zds (b:=true) (zbd e8))]
  rfl
 refine ⟨some (.own st7),N,P,O,T,E,U,b9,b10,?_⟩
 unfold outer
 rw[zal x1,zal x2,zal x3,zal x4,zal x5,zal x6,zal x7,zal x8]
 exact x9
theorem zoO(ns:List Int):zrL 10 zdV zkh ns:=by
 let ρ0:Ev:=EV (some (.val (.scr ns))) none none none none none none none none none none (some (.tab zdV))
 obtain ⟨j,hj,ej⟩ : ∃ j:Int,zeY j=true∧dFn zin (dA (dC (.int 1)) (dA (dFn zfK (dA (dFn zde (dA (zab 0) dA0)) (dA (dC (.int 8)) dA0))) dA0)) ρ0 = .ok (.int j,ρ0):=by
  refine ⟨(if (if (8:Int) < ns.length then (8:Int) else ns.length) > 1 then (if (8:Int) < ns.length then (8:Int) else ns.length) else 1),?_,rfl⟩
  unfold zeY
  simp only[Bool.and_eq_true,decide_eq_true_eq]
  split <;> split <;> omega
 obtain ⟨ρ',⟨a1,a2,a3,a4,a5,a6,a7,a8,a9,a10,rfl⟩,e⟩:=zif (g:=zbo 1) (body:=outer) (ds:=zbh 0 j.toNat) (ρ:=ρ0)
  (I:=fun ρ=>∃ a1 a2 a3 a4 a5 a6 a7 a8 a9 a10,ρ=EV (some (.val (.scr ns))) a1 a2 a3 a4 a5 a6 a7 a8 a9 a10 (some (.tab zdV)))
  (fun d hd ρ ⟨a1,a2,a3,a4,a5,a6,a7,a8,a9,a10,hρ⟩=>by
   subst hρ
   obtain ⟨k,_,rfl⟩:=List.mem_map.mp hd
   obtain ⟨b2,b3,b4,b5,b6,b7,b8,b9,b10,e⟩:=zmA (ns:=ns) (k:=k) (o2:=a2) (o3:=a3) (o4:=a4) (o5:=a5) (o6:=a6) (o7:=a7) (o8:=a8) (o9:=a9) (o10:=a10)
   refine ⟨EV (some (.val (.scr ns))) (some (.val (.int k))) a2 a3 a4 a5 a6 a7 a8 a9 a10 (some (.tab zdV)),_,?_,e,_,_,_,_,_,_,_,_,_,_,rfl⟩
   rw[Int.zero_add]
   rfl) ⟨none,none,none,none,none,none,none,none,none,none,rfl⟩
 have x:zgh (zbO (dFn zin (dA (dC (.int 1)) (dA (dFn zfK (dA (dFn zde (dA (zab 0) dA0)) (dA (dC (.int 8)) dA0))) dA0)))) (zbo 1) outer ρ0 = .ok (.nx,EV (some (.val (.scr ns))) a1 a2 a3 a4 a5 a6 a7 a8 a9 a10 (some (.tab zdV))):=by
  unfold zgh
  rw[znh ej,zkX hj]
  exact e
 refine ⟨EV (some (.val (.scr ns))) a1 a2 a3 a4 a5 a6 a7 a8 a9 a10 (some (.tab zdV)),?_⟩
 show zkh ρ0=_
 rw[zqZ,zal x]
 rfl
theorem all_mk{l:W.OpenLaw}{w:World}{K:W.Frag}{h:Heap}{mg:Str→Option Value}{fa f0 f1 f2 f3 f4 f5 f6 f7 f8 f9 f10 f11 f12 f13 f14 f15 f16 f17 f18 f19 f20 f21 f22 f23 f24 f25 f26 f27 f28 f29 f30 f31 f32:Addr}{C0 C1 C2 C3 C4 C5 C6 C7 CS cL PT:Addr}(X:K.In h)(G:h.Ns mainGlobals mg)(hfa:mg "law"=some (.ref fa))
  {od0 an0 od1 an1 od2 an2 od3 an3 od4 an4 od5 an5 od6 an6 od7 an7 od8 an8 od9 an9 od10 an10 od11 an11 od12 an12 od13 an13 od14 an14 od15 an15 od16 an16 od17 an17 od18 an18 od19 an19 od20 an20 od21 an21 od22 an22 od23 an23 od24 an24 od25 an25 od26 an26 od27 an27 od28 an28 od29 an29 od30 an30 od31 an31 od32 an32:Option Addr} {sl0 sl1 sl2 sl3 sl4 sl5 sl6 sl7 sl8 sl9 sl10 sl11 sl12 sl13 sl14 sl15 sl16 sl17 sl18 sl19 sl20 sl21 sl22 sl23 sl24 sl25 sl26 sl27 sl28 sl29 sl30 sl31 sl32:Array (Option Value)} {oc0 kV0 dc0 pm0 ct0 cd0 oc1 kV1 dc1 pm1 ct1 cd1 oc2 kV2 dc2 pm2 ct2 cd2 oc3 kV3 dc3 pm3 ct3 cd3 oc4 kV4 dc4 pm4 ct4 cd4 oc5 kV5 dc5 pm5 ct5 cd5 oc6 kV6 dc6 pm6 ct6 cd6 oc7 kV7 dc7 pm7 ct7 cd7 oc8 kV8 dc8 pm8 ct8 cd8 oc9 kV9 dc9 pm9 ct9 cd9 oc10 kV10 dc10 pm10 ct10 cd10 oc11 kV11 dc11 pm11 ct11 cd11 oc12 kV12 dc12 pm12 ct12 cd12 oc13 kV13 dc13 pm13 ct13 cd13 oc14 kV14 dc14 pm14 ct14 cd14 oc15 kV15 dc15 pm15 ct15 cd15 oc16 kV16 dc16 pm16 ct16 cd16 oc17 kV17 dc17 pm17 ct17 cd17 oc18 kV18 dc18 pm18 ct18 cd18 oc19 kV19 dc19 pm19 ct19 cd19 oc20 kV20 dc20 pm20 ct20 cd20 oc21 kV21 dc21 pm21 ct21 cd21 oc22 kV22 dc22 pm22 ct22 cd22 oc23 kV23 dc23 pm23 ct23 cd23 oc24 kV24 dc24 pm24 ct24 cd24 oc25 kV25 dc25 pm25 ct25 cd25 oc26 kV26 dc26 pm26 ct26 cd26 oc27 kV27 dc27 pm27 ct27 cd27 oc28 kV28 dc28 pm28 ct28 cd28 oc29 kV29 dc29 pm29 ct29 cd29 oc30 kV30 dc30 pm30 ct30 cd30 oc31 kV31 dc31 pm31 ct31 oc32 kV32 dc32 pm32 ct32 cd32:Value} {tk0 tk1:Tok}
  (a0:W.nsIn K mainGlobals (Str.ofString "is_whole")=some (some (.ref f0))) (l0:K.lookup f0=some ⟨oc0,od0,.func (W.fnOf (Str.ofString "is_whole") (Str.ofString "is_whole") (za5 (top 13)) (zaw (top 13)) (zac (top 13)) .none kV0 dc0 pm0 an0 cd0 ct0),sl0⟩) (c0:W.codeIn K cd0 (Str.ofString "is_whole")=true) (k0:W.keepIn K (.ref f0)=true)
  (a1:W.nsIn K mainGlobals (Str.ofString "check_guests")=some (some (.ref f1))) (l1:K.lookup f1=some ⟨oc1,od1,.func (W.fnOf (Str.ofString "check_guests") (Str.ofString "check_guests") (za5 (top 14)) (zaw (top 14)) (zac (top 14)) .none kV1 dc1 pm1 an1 cd1 ct1),sl1⟩) (c1:W.codeIn K cd1 (Str.ofString "check_guests")=true) (k1:W.keepIn K (.ref f1)=true)
  (a2:W.nsIn K mainGlobals (Str.ofString "is_guest")=some (some (.ref f2))) (l2:K.lookup f2=some ⟨oc2,od2,.func (W.fnOf (Str.ofString "is_guest") (Str.ofString "is_guest") (za5 (top 16)) (zaw (top 16)) (zac (top 16)) .none kV2 dc2 pm2 an2 cd2 ct2),sl2⟩) (c2:W.codeIn K cd2 (Str.ofString "is_guest")=true) (k2:W.keepIn K (.ref f2)=true)
  (a3:W.nsIn K mainGlobals (Str.ofString "are_guests")=some (some (.ref f3))) (l3:K.lookup f3=some ⟨oc3,od3,.func (W.fnOf (Str.ofString "are_guests") (Str.ofString "are_guests") (za5 (top 17)) (zaw (top 17)) (zac (top 17)) .none kV3 dc3 pm3 an3 cd3 ct3),sl3⟩) (c3:W.codeIn K cd3 (Str.ofString "are_guests")=true) (k3:W.keepIn K (.ref f3)=true)
  (a4:W.nsIn K mainGlobals (Str.ofString "rises")=some (some (.ref f4))) (l4:K.lookup f4=some ⟨oc4,od4,.func (W.fnOf (Str.ofString "rises") (Str.ofString "rises") (za5 (top 18)) (zaw (top 18)) (zac (top 18)) .none kV4 dc4 pm4 an4 cd4 ct4),sl4⟩) (c4:W.codeIn K cd4 (Str.ofString "rises")=true) (k4:W.keepIn K (.ref f4)=true)
  (a5:W.nsIn K mainGlobals (Str.ofString "is_party")=some (some (.ref f5))) (l5:K.lookup f5=some ⟨oc5,od5,.func (W.fnOf (Str.ofString "is_party") (Str.ofString "is_party") (za5 (top 19)) (zaw (top 19)) (zac (top 19)) .none kV5 dc5 pm5 an5 cd5 ct5),sl5⟩) (c5:W.codeIn K cd5 (Str.ofString "is_party")=true) (k5:W.keepIn K (.ref f5)=true)
  (a6:W.nsIn K mainGlobals (Str.ofString "is_parties")=some (some (.ref f6))) (l6:K.lookup f6=some ⟨oc6,od6,.func (W.fnOf (Str.ofString "is_parties") (Str.ofString "is_parties") (za5 (top 20)) (zaw (top 20)) (zac (top 20)) .none kV6 dc6 pm6 an6 cd6 ct6),sl6⟩) (c6:W.codeIn K cd6 (Str.ofString "is_parties")=true) (k6:W.keepIn K (.ref f6)=true)
  (a7:W.nsIn K mainGlobals (Str.ofString "check_parties")=some (some (.ref f7))) (l7:K.lookup f7=some ⟨oc7,od7,.func (W.fnOf (Str.ofString "check_parties") (Str.ofString "check_parties") (za5 (top 15)) (zaw (top 15)) (zac (top 15)) .none kV7 dc7 pm7 an7 cd7 ct7),sl7⟩) (c7:W.codeIn K cd7 (Str.ofString "check_parties")=true) (k7:W.keepIn K (.ref f7)=true)
  (a8:W.nsIn K mainGlobals (Str.ofString "is_seating")=some (some (.ref f8))) (l8:K.lookup f8=some ⟨oc8,od8,.func (W.fnOf (Str.ofString "is_seating") (Str.ofString "is_seating") (za5 (top 21)) (zaw (top 21)) (zac (top 21)) .none kV8 dc8 pm8 an8 cd8 ct8),sl8⟩) (c8:W.codeIn K cd8 (Str.ofString "is_seating")=true) (k8:W.keepIn K (.ref f8)=true)
  (a9:W.nsIn K mainGlobals (Str.ofString "is_leaf")=some (some (.ref f9))) (l9:K.lookup f9=some ⟨oc9,od9,.func (W.fnOf (Str.ofString "is_leaf") (Str.ofString "is_leaf") (za5 (top 23)) (zaw (top 23)) (zac (top 23)) .none kV9 dc9 pm9 an9 cd9 ct9),sl9⟩) (c9:W.codeIn K cd9 (Str.ofString "is_leaf")=true) (k9:W.keepIn K (.ref f9)=true)
  (a10:W.nsIn K mainGlobals (Str.ofString "row_as_written")=some (some (.ref f10))) (l10:K.lookup f10=some ⟨oc10,od10,.func (W.fnOf (Str.ofString "row_as_written") (Str.ofString "row_as_written") (za5 (top 24)) (zaw (top 24)) (zac (top 24)) .none kV10 dc10 pm10 an10 cd10 ct10),sl10⟩) (c10:W.codeIn K cd10 (Str.ofString "row_as_written")=true) (k10:W.keepIn K (.ref f10)=true)
  (a11:W.nsIn K mainGlobals (Str.ofString "guests_in")=some (some (.ref f11))) (l11:K.lookup f11=some ⟨oc11,od11,.func (W.fnOf (Str.ofString "guests_in") (Str.ofString "guests_in") (za5 (top 25)) (zaw (top 25)) (zac (top 25)) .none kV11 dc11 pm11 an11 cd11 ct11),sl11⟩) (c11:W.codeIn K cd11 (Str.ofString "guests_in")=true) (k11:W.keepIn K (.ref f11)=true)
  (a12:W.nsIn K mainGlobals (Str.ofString "least_guest")=some (some (.ref f12))) (l12:K.lookup f12=some ⟨oc12,od12,.func (W.fnOf (Str.ofString "least_guest") (Str.ofString "least_guest") (za5 (top 26)) (zaw (top 26)) (zac (top 26)) .none kV12 dc12 pm12 an12 cd12 ct12),sl12⟩) (c12:W.codeIn K cd12 (Str.ofString "least_guest")=true) (k12:W.keepIn K (.ref f12)=true)
  (a13:W.nsIn K mainGlobals (Str.ofString "put_least")=some (some (.ref f13))) (l13:K.lookup f13=some ⟨oc13,od13,.func (W.fnOf (Str.ofString "put_least") (Str.ofString "put_least") (za5 (top 27)) (zaw (top 27)) (zac (top 27)) .none kV13 dc13 pm13 an13 cd13 ct13),sl13⟩) (c13:W.codeIn K cd13 (Str.ofString "put_least")=true) (k13:W.keepIn K (.ref f13)=true)
  (a14:W.nsIn K mainGlobals (Str.ofString "check_order")=some (some (.ref f14))) (l14:K.lookup f14=some ⟨oc14,od14,.func (W.fnOf (Str.ofString "check_order") (Str.ofString "check_order") (za5 (top 29)) (zaw (top 29)) (zac (top 29)) .none kV14 dc14 pm14 an14 cd14 ct14),sl14⟩) (c14:W.codeIn K cd14 (Str.ofString "check_order")=true) (k14:W.keepIn K (.ref f14)=true)
  (a15:W.nsIn K mainGlobals (Str.ofString "named")=some (some (.ref f15))) (l15:K.lookup f15=some ⟨oc15,od15,.func (W.fnOf (Str.ofString "named") (Str.ofString "named") (za5 (top 30)) (zaw (top 30)) (zac (top 30)) .none kV15 dc15 pm15 an15 cd15 ct15),sl15⟩) (c15:W.codeIn K cd15 (Str.ofString "named")=true) (k15:W.keepIn K (.ref f15)=true)
  (a16:W.nsIn K mainGlobals (Str.ofString "parties_named")=some (some (.ref f16))) (l16:K.lookup f16=some ⟨oc16,od16,.func (W.fnOf (Str.ofString "parties_named") (Str.ofString "parties_named") (za5 (top 31)) (zaw (top 31)) (zac (top 31)) .none kV16 dc16 pm16 an16 cd16 ct16),sl16⟩) (c16:W.codeIn K cd16 (Str.ofString "parties_named")=true) (k16:W.keepIn K (.ref f16)=true)
  (a17:W.nsIn K mainGlobals (Str.ofString "seating_named")=some (some (.ref f17))) (l17:K.lookup f17=some ⟨oc17,od17,.func (W.fnOf (Str.ofString "seating_named") (Str.ofString "seating_named") (za5 (top 32)) (zaw (top 32)) (zac (top 32)) .none kV17 dc17 pm17 an17 cd17 ct17),sl17⟩) (c17:W.codeIn K cd17 (Str.ofString "seating_named")=true) (k17:W.keepIn K (.ref f17)=true)
  (a18:W.nsIn K mainGlobals (Str.ofString "with_steads")=some (some (.ref f18))) (l18:K.lookup f18=some ⟨oc18,od18,.func (W.fnOf (Str.ofString "with_steads") (Str.ofString "with_steads") (za5 (top 33)) (zaw (top 33)) (zac (top 33)) .none kV18 dc18 pm18 an18 cd18 ct18),sl18⟩) (c18:W.codeIn K cd18 (Str.ofString "with_steads")=true) (k18:W.keepIn K (.ref f18)=true)
  (a19:W.nsIn K mainGlobals (Str.ofString "tree_named")=some (some (.ref f19))) (l19:K.lookup f19=some ⟨oc19,od19,.func (W.fnOf (Str.ofString "tree_named") (Str.ofString "tree_named") (za5 (top 34)) (zaw (top 34)) (zac (top 34)) .none kV19 dc19 pm19 an19 cd19 ct19),sl19⟩) (c19:W.codeIn K cd19 (Str.ofString "tree_named")=true) (k19:W.keepIn K (.ref f19)=true)
  (a20:W.nsIn K mainGlobals (Str.ofString "_law_cell_at")=some (some (.ref f20))) (l20:K.lookup f20=some ⟨oc20,od20,.func (W.fnOf (Str.ofString "_law_cell_at") (Str.ofString "_law_cell_at") (za5 (top 38)) (zaw (top 38)) (zac (top 38)) .none kV20 dc20 pm20 an20 cd20 ct20),sl20⟩) (c20:W.codeIn K cd20 (Str.ofString "_law_cell_at")=true) (k20:W.keepIn K (.ref f20)=true)
  (a21:W.nsIn K mainGlobals (Str.ofString "_law_state")=some (some (.ref f21))) (l21:K.lookup f21=some ⟨oc21,od21,.func (W.fnOf (Str.ofString "_law_state") (Str.ofString "_law_state") (za5 (top 39)) (zaw (top 39)) (zac (top 39)) .none kV21 dc21 pm21 an21 cd21 ct21),sl21⟩) (c21:W.codeIn K cd21 (Str.ofString "_law_state")=true) (k21:W.keepIn K (.ref f21)=true)
  (a22:W.nsIn K mainGlobals (Str.ofString "_law_take")=some (some (.ref f22))) (l22:K.lookup f22=some ⟨oc22,od22,.func (W.fnOf (Str.ofString "_law_take") (Str.ofString "_law_take") (za5 (top 36)) (zaw (top 36)) (zac (top 36)) .none kV22 dc22 pm22 an22 cd22 ct22),sl22⟩) (c22:W.codeIn K cd22 (Str.ofString "_law_take")=true) (k22:W.keepIn K (.ref f22)=true)
  (a23:W.nsIn K mainGlobals (Str.ofString "_law_refused")=some (some (.ref f23))) (l23:K.lookup f23=some ⟨oc23,od23,.func (W.fnOf (Str.ofString "_law_refused") (Str.ofString "_law_refused") (za5 (top 37)) (zaw (top 37)) (zac (top 37)) .none kV23 dc23 pm23 an23 cd23 ct23),sl23⟩) (c23:W.codeIn K cd23 (Str.ofString "_law_refused")=true) (k23:W.keepIn K (.ref f23)=true)
  (a24:W.nsIn K mainGlobals (Str.ofString "_law_order")=some (some (.ref f24))) (l24:K.lookup f24=some ⟨oc24,od24,.func (W.fnOf (Str.ofString "_law_order") (Str.ofString "_law_order") (za5 (top 40)) (zaw (top 40)) (zac (top 40)) .none kV24 dc24 pm24 an24 cd24 ct24),sl24⟩) (c24:W.codeIn K cd24 (Str.ofString "_law_order")=true) (k24:W.keepIn K (.ref f24)=true)
  (a25:W.nsIn K mainGlobals (Str.ofString "_law_parties")=some (some (.ref f25))) (l25:K.lookup f25=some ⟨oc25,od25,.func (W.fnOf (Str.ofString "_law_parties") (Str.ofString "_law_parties") (za5 (top 41)) (zaw (top 41)) (zac (top 41)) .none kV25 dc25 pm25 an25 cd25 ct25),sl25⟩) (c25:W.codeIn K cd25 (Str.ofString "_law_parties")=true) (k25:W.keepIn K (.ref f25)=true)
  (a26:W.nsIn K mainGlobals (Str.ofString "_law_tree")=some (some (.ref f26))) (l26:K.lookup f26=some ⟨oc26,od26,.func (W.fnOf (Str.ofString "_law_tree") (Str.ofString "_law_tree") (za5 (top 42)) (zaw (top 42)) (zac (top 42)) .none kV26 dc26 pm26 an26 cd26 ct26),sl26⟩) (c26:W.codeIn K cd26 (Str.ofString "_law_tree")=true) (k26:W.keepIn K (.ref f26)=true)
  (a27:W.nsIn K mainGlobals (Str.ofString "_law_same")=some (some (.ref f27))) (l27:K.lookup f27=some ⟨oc27,od27,.func (W.fnOf (Str.ofString "_law_same") (Str.ofString "_law_same") (za5 (top 43)) (zaw (top 43)) (zac (top 43)) .none kV27 dc27 pm27 an27 cd27 ct27),sl27⟩) (c27:W.codeIn K cd27 (Str.ofString "_law_same")=true) (k27:W.keepIn K (.ref f27)=true)
  (a28:W.nsIn K mainGlobals (Str.ofString "_law_leaves")=some (some (.ref f28))) (l28:K.lookup f28=some ⟨oc28,od28,.func (W.fnOf (Str.ofString "_law_leaves") (Str.ofString "_law_leaves") (za5 (top 44)) (zaw (top 44)) (zac (top 44)) .none kV28 dc28 pm28 an28 cd28 ct28),sl28⟩) (c28:W.codeIn K cd28 (Str.ofString "_law_leaves")=true) (k28:W.keepIn K (.ref f28)=true)
  (a29:W.nsIn K mainGlobals (Str.ofString "_law_least")=some (some (.ref f29))) (l29:K.lookup f29=some ⟨oc29,od29,.func (W.fnOf (Str.ofString "_law_least") (Str.ofString "_law_least") (za5 (top 45)) (zaw (top 45)) (zac (top 45)) .none kV29 dc29 pm29 an29 cd29 ct29),sl29⟩) (c29:W.codeIn K cd29 (Str.ofString "_law_least")=true) (k29:W.keepIn K (.ref f29)=true)
  (a30:W.nsIn K mainGlobals (Str.ofString "_law_led")=some (some (.ref f30))) (l30:K.lookup f30=some ⟨oc30,od30,.func (W.fnOf (Str.ofString "_law_led") (Str.ofString "_law_led") (za5 (top 46)) (zaw (top 46)) (zac (top 46)) .none kV30 dc30 pm30 an30 cd30 ct30),sl30⟩) (c30:W.codeIn K cd30 (Str.ofString "_law_led")=true) (k30:W.keepIn K (.ref f30)=true)
  (a31:W.nsIn K mainGlobals (Str.ofString "_law_refusals_right")=some (some (.ref f31))) (l31:K.lookup f31=some ⟨oc31,od31,.func (W.fnOf (Str.ofString "_law_refusals_right") (Str.ofString "_law_refusals_right") (za5 (top 47)) (zaw (top 47)) (zac (top 47)) .none kV31 dc31 pm31 an31 (.ref cL) ct31),sl31⟩) (c31:W.codeIn K (.ref cL) (Str.ofString "_law_refusals_right")=true) (k31:W.keepIn K (.ref f31)=true)
  (a32:W.nsIn K mainGlobals (Str.ofString "law")=some (some (.ref f32))) (l32:K.lookup f32=some ⟨oc32,od32,.func (W.fnOf (Str.ofString "law") (Str.ofString "law") (za5 (top 48)) (zaw (top 48)) (zac (top 48)) .none kV32 dc32 pm32 an32 cd32 ct32),sl32⟩) (c32:W.codeIn K cd32 (Str.ofString "law")=true) (k32:W.keepIn K (.ref f32)=true)
  (z0:W.nsIn K mainGlobals (Str.ofString "ValueError")=some none)
  (z1:W.nsIn K mainGlobals (Str.ofString "all")=some none)
  (z2:W.nsIn K mainGlobals (Str.ofString "bool")=some none)
  (z3:W.nsIn K mainGlobals (Str.ofString "int")=some none)
  (z4:W.nsIn K mainGlobals (Str.ofString "isinstance")=some none)
  (z5:W.nsIn K mainGlobals (Str.ofString "len")=some none)
  (z6:W.nsIn K mainGlobals (Str.ofString "list")=some none)
  (z7:W.nsIn K mainGlobals (Str.ofString "max")=some none)
  (z8:W.nsIn K mainGlobals (Str.ofString "min")=some none)
  (z9:W.nsIn K mainGlobals (Str.ofString "range")=some none)
  (z10:W.nsIn K mainGlobals (Str.ofString "reversed")=some none)
  (z11:W.nsIn K mainGlobals (Str.ofString "sorted")=some none)
  (z12:W.nsIn K mainGlobals (Str.ofString "tuple")=some none)
  (z13:W.nsIn K mainGlobals (Str.ofString "zip")=some none)
  (cn0:W.nsIn K mainGlobals (Str.ofString "MOST_GUESTS")=some (some (.int 7 tk0)))
  (cn1:W.nsIn K mainGlobals (Str.ofString "MOST_PARTIES")=some (some (.int 8 tk1)))
  (xn0:W.nsIn K mainGlobals (Str.ofString "NoGuests")=some (some (.ref C0)))
  (xn1:W.nsIn K mainGlobals (Str.ofString "NoParties")=some (some (.ref C1)))
  (xn2:W.nsIn K mainGlobals (Str.ofString "NoNumber")=some (some (.ref C2)))
  (xn3:W.nsIn K mainGlobals (Str.ofString "NoText")=some (some (.ref C3)))
  (xn4:W.nsIn K mainGlobals (Str.ofString "NoLine")=some (some (.ref C4)))
  (xn5:W.nsIn K mainGlobals (Str.ofString "NoDeed")=some (some (.ref C5)))
  (xn6:W.nsIn K mainGlobals (Str.ofString "NoWeb")=some (some (.ref C6)))
  (xn7:W.nsIn K mainGlobals (Str.ofString "NoOrder")=some (some (.ref C7)))
  (xn8:W.nsIn K mainGlobals (Str.ofString "SeatError")=some (some (.ref CS)))
  (xe0:W.excIn K C0 bmV "ValueError.__new__"=true) (xg0:W.findIn K (.ref C0) "__getattribute__"=some (some (.builtin "BaseException.__getattribute__"))) (xh0:W.findIn K (.ref C0) "__getattr__"=some none) (xk0:W.findIn K (.ref C0) "__class__"=some (some (.builtin "object.__class__"))) (xb0:W.subIn K (.ref C0) (.type "BaseException")=some true)
  (xe1:W.excIn K C1 bmV "ValueError.__new__"=true) (xg1:W.findIn K (.ref C1) "__getattribute__"=some (some (.builtin "BaseException.__getattribute__"))) (xh1:W.findIn K (.ref C1) "__getattr__"=some none) (xk1:W.findIn K (.ref C1) "__class__"=some (some (.builtin "object.__class__"))) (xb1:W.subIn K (.ref C1) (.type "BaseException")=some true)
  (xe2:W.excIn K C2 bmV "ValueError.__new__"=true) (xg2:W.findIn K (.ref C2) "__getattribute__"=some (some (.builtin "BaseException.__getattribute__"))) (xh2:W.findIn K (.ref C2) "__getattr__"=some none) (xk2:W.findIn K (.ref C2) "__class__"=some (some (.builtin "object.__class__"))) (xb2:W.subIn K (.ref C2) (.type "BaseException")=some true)
  (xe3:W.excIn K C3 bmV "ValueError.__new__"=true) (xg3:W.findIn K (.ref C3) "__getattribute__"=some (some (.builtin "BaseException.__getattribute__"))) (xh3:W.findIn K (.ref C3) "__getattr__"=some none) (xk3:W.findIn K (.ref C3) "__class__"=some (some (.builtin "object.__class__"))) (xb3:W.subIn K (.ref C3) (.type "BaseException")=some true)
  (xe4:W.excIn K C4 bmV "ValueError.__new__"=true) (xg4:W.findIn K (.ref C4) "__getattribute__"=some (some (.builtin "BaseException.__getattribute__"))) (xh4:W.findIn K (.ref C4) "__getattr__"=some none) (xk4:W.findIn K (.ref C4) "__class__"=some (some (.builtin "object.__class__"))) (xb4:W.subIn K (.ref C4) (.type "BaseException")=some true)
  (xe5:W.excIn K C5 bmV "ValueError.__new__"=true) (xg5:W.findIn K (.ref C5) "__getattribute__"=some (some (.builtin "BaseException.__getattribute__"))) (xh5:W.findIn K (.ref C5) "__getattr__"=some none) (xk5:W.findIn K (.ref C5) "__class__"=some (some (.builtin "object.__class__"))) (xb5:W.subIn K (.ref C5) (.type "BaseException")=some true)
  (xe6:W.excIn K C6 bmV "ValueError.__new__"=true) (xg6:W.findIn K (.ref C6) "__getattribute__"=some (some (.builtin "BaseException.__getattribute__"))) (xh6:W.findIn K (.ref C6) "__getattr__"=some none) (xk6:W.findIn K (.ref C6) "__class__"=some (some (.builtin "object.__class__"))) (xb6:W.subIn K (.ref C6) (.type "BaseException")=some true)
  (xe7:W.excIn K C7 bmV "ValueError.__new__"=true) (xg7:W.findIn K (.ref C7) "__getattribute__"=some (some (.builtin "BaseException.__getattribute__"))) (xh7:W.findIn K (.ref C7) "__getattr__"=some none) (xk7:W.findIn K (.ref C7) "__class__"=some (some (.builtin "object.__class__"))) (xb7:W.subIn K (.ref C7) (.type "BaseException")=some true)
  (xe8:W.excIn K CS bmV "ValueError.__new__"=true) (xg8:W.findIn K (.ref CS) "__getattribute__"=some (some (.builtin "BaseException.__getattribute__"))) (xh8:W.findIn K (.ref CS) "__getattr__"=some none) (xk8:W.findIn K (.ref CS) "__class__"=some (some (.builtin "object.__class__"))) (xb8:W.subIn K (.ref CS) (.type "BaseException")=some true)
  (xs0:W.subIn K (.ref C0) (.ref CS)=some true) (xv0:W.kitOne K (.ref C0) (.type "ValueError")=some true)
  (xi00:W.kitOne K (.ref C0) (.ref C0)=some true)
  (xi01:W.kitOne K (.ref C0) (.ref C1)=some false)
  (xi02:W.kitOne K (.ref C0) (.ref C2)=some false)
  (xi03:W.kitOne K (.ref C0) (.ref C3)=some false)
  (xi04:W.kitOne K (.ref C0) (.ref C4)=some false)
  (xi05:W.kitOne K (.ref C0) (.ref C5)=some false)
  (xi06:W.kitOne K (.ref C0) (.ref C6)=some false)
  (xi07:W.kitOne K (.ref C0) (.ref C7)=some false)
  (xs1:W.subIn K (.ref C1) (.ref CS)=some true) (xv1:W.kitOne K (.ref C1) (.type "ValueError")=some true)
  (xi10:W.kitOne K (.ref C1) (.ref C0)=some false)
  (xi11:W.kitOne K (.ref C1) (.ref C1)=some true)
  (xi12:W.kitOne K (.ref C1) (.ref C2)=some false)
  (xi13:W.kitOne K (.ref C1) (.ref C3)=some false)
  (xi14:W.kitOne K (.ref C1) (.ref C4)=some false)
  (xi15:W.kitOne K (.ref C1) (.ref C5)=some false)
  (xi16:W.kitOne K (.ref C1) (.ref C6)=some false)
  (xi17:W.kitOne K (.ref C1) (.ref C7)=some false)
  (xs2:W.subIn K (.ref C2) (.ref CS)=some true) (xv2:W.kitOne K (.ref C2) (.type "ValueError")=some true)
  (xi20:W.kitOne K (.ref C2) (.ref C0)=some false)
  (xi21:W.kitOne K (.ref C2) (.ref C1)=some false)
  (xi22:W.kitOne K (.ref C2) (.ref C2)=some true)
  (xi23:W.kitOne K (.ref C2) (.ref C3)=some false)
  (xi24:W.kitOne K (.ref C2) (.ref C4)=some false)
  (xi25:W.kitOne K (.ref C2) (.ref C5)=some false)
  (xi26:W.kitOne K (.ref C2) (.ref C6)=some false)
  (xi27:W.kitOne K (.ref C2) (.ref C7)=some false)
  (xs3:W.subIn K (.ref C3) (.ref CS)=some true) (xv3:W.kitOne K (.ref C3) (.type "ValueError")=some true)
  (xi30:W.kitOne K (.ref C3) (.ref C0)=some false)
  (xi31:W.kitOne K (.ref C3) (.ref C1)=some false)
  (xi32:W.kitOne K (.ref C3) (.ref C2)=some false)
  (xi33:W.kitOne K (.ref C3) (.ref C3)=some true)
  (xi34:W.kitOne K (.ref C3) (.ref C4)=some false)
  (xi35:W.kitOne K (.ref C3) (.ref C5)=some false)
  (xi36:W.kitOne K (.ref C3) (.ref C6)=some false)
  (xi37:W.kitOne K (.ref C3) (.ref C7)=some false)
  (xs4:W.subIn K (.ref C4) (.ref CS)=some true) (xv4:W.kitOne K (.ref C4) (.type "ValueError")=some true)
  (xi40:W.kitOne K (.ref C4) (.ref C0)=some false)
  (xi41:W.kitOne K (.ref C4) (.ref C1)=some false)
  (xi42:W.kitOne K (.ref C4) (.ref C2)=some false)
  (xi43:W.kitOne K (.ref C4) (.ref C3)=some false)
  (xi44:W.kitOne K (.ref C4) (.ref C4)=some true)
  (xi45:W.kitOne K (.ref C4) (.ref C5)=some false)
  (xi46:W.kitOne K (.ref C4) (.ref C6)=some false)
  (xi47:W.kitOne K (.ref C4) (.ref C7)=some false)
  (xs5:W.subIn K (.ref C5) (.ref CS)=some true) (xv5:W.kitOne K (.ref C5) (.type "ValueError")=some true)
  (xi50:W.kitOne K (.ref C5) (.ref C0)=some false)
  (xi51:W.kitOne K (.ref C5) (.ref C1)=some false)
  (xi52:W.kitOne K (.ref C5) (.ref C2)=some false)
  (xi53:W.kitOne K (.ref C5) (.ref C3)=some false)
  (xi54:W.kitOne K (.ref C5) (.ref C4)=some false)
  (xi55:W.kitOne K (.ref C5) (.ref C5)=some true)
  (xi56:W.kitOne K (.ref C5) (.ref C6)=some false)
  (xi57:W.kitOne K (.ref C5) (.ref C7)=some false)
  (xs6:W.subIn K (.ref C6) (.ref CS)=some true) (xv6:W.kitOne K (.ref C6) (.type "ValueError")=some true)
  (xi60:W.kitOne K (.ref C6) (.ref C0)=some false)
  (xi61:W.kitOne K (.ref C6) (.ref C1)=some false)
  (xi62:W.kitOne K (.ref C6) (.ref C2)=some false)
  (xi63:W.kitOne K (.ref C6) (.ref C3)=some false)
  (xi64:W.kitOne K (.ref C6) (.ref C4)=some false)
  (xi65:W.kitOne K (.ref C6) (.ref C5)=some false)
  (xi66:W.kitOne K (.ref C6) (.ref C6)=some true)
  (xi67:W.kitOne K (.ref C6) (.ref C7)=some false)
  (xs7:W.subIn K (.ref C7) (.ref CS)=some true) (xv7:W.kitOne K (.ref C7) (.type "ValueError")=some true)
  (xi70:W.kitOne K (.ref C7) (.ref C0)=some false)
  (xi71:W.kitOne K (.ref C7) (.ref C1)=some false)
  (xi72:W.kitOne K (.ref C7) (.ref C2)=some false)
  (xi73:W.kitOne K (.ref C7) (.ref C3)=some false)
  (xi74:W.kitOne K (.ref C7) (.ref C4)=some false)
  (xi75:W.kitOne K (.ref C7) (.ref C5)=some false)
  (xi76:W.kitOne K (.ref C7) (.ref C6)=some false)
  (xi77:W.kitOne K (.ref C7) (.ref C7)=some true)
  (ch:W.codeHdIn K cL PT=true) :
  ∃(fd:FuncData)(cL:Addr),(∀(s:Shared)(v:Value),BindsTo s fd ⟨[v],[]⟩ [("script",v)])∧W.codeHdIn K cL PT=true∧∀ base:Heap,K.In base→base.Ns mainGlobals mg→base.BuiltinsAt mg PT→zfl l.prog w K mg base (CXe l.prog w) 41 fa fd ["script"] (spT K PT (zrL 10 zdV zkh)):=by
 have e:=hfa.symm.trans (W.mg_of X G a32)
 cases e
 let cls:Nat→Addr:=fun n=>match n with | 0=>C0 | 1=>C1 | 2=>C2 | 3=>C3 | 4=>C4 | 5=>C5 | 6=>C6 | _=>C7
 have T:Tx K mg cls:=⟨(fun n hn=>match n,hn with | 0,_=>⟨xe0,xg0,xh0,xk0,xb0⟩ | 1,_=>⟨xe1,xg1,xh1,xk1,xb1⟩ | 2,_=>⟨xe2,xg2,xh2,xk2,xb2⟩ | 3,_=>⟨xe3,xg3,xh3,xk3,xb3⟩ | 4,_=>⟨xe4,xg4,xh4,xk4,xb4⟩ | 5,_=>⟨xe5,xg5,xh5,xk5,xb5⟩ | 6,_=>⟨xe6,xg6,xh6,xk6,xb6⟩ | 7,_=>⟨xe7,xg7,xh7,xk7,xb7⟩),W.mg_of X G xn0,W.mg_of X G xn1,W.mg_of X G xn2,W.mg_of X G xn3,W.mg_of X G xn4,W.mg_of X G xn5,W.mg_of X G xn6,W.mg_of X G xn7,⟨CS,⟨xe8,xg8,xh8,xk8,xb8⟩,W.mg_of X G xn8,fun n hn=>match n,hn with | 0,_=>xs0 | 1,_=>xs1 | 2,_=>xs2 | 3,_=>xs3 | 4,_=>xs4 | 5,_=>xs5 | 6,_=>xs6 | 7,_=>xs7⟩,(fun n k hn hk=>match n,k,hn,hk with | 0,0,_,_=>xi00 | 0,1,_,_=>xi01 | 0,2,_,_=>xi02 | 0,3,_,_=>xi03 | 0,4,_,_=>xi04 | 0,5,_,_=>xi05 | 0,6,_,_=>xi06 | 0,7,_,_=>xi07 | 1,0,_,_=>xi10 | 1,1,_,_=>xi11 | 1,2,_,_=>xi12 | 1,3,_,_=>xi13 | 1,4,_,_=>xi14 | 1,5,_,_=>xi15 | 1,6,_,_=>xi16 | 1,7,_,_=>xi17 | 2,0,_,_=>xi20 | 2,1,_,_=>xi21 | 2,2,_,_=>xi22 | 2,3,_,_=>xi23 | 2,4,_,_=>xi24 | 2,5,_,_=>xi25 | 2,6,_,_=>xi26 | 2,7,_,_=>xi27 | 3,0,_,_=>xi30 | 3,1,_,_=>xi31 | 3,2,_,_=>xi32 | 3,3,_,_=>xi33 | 3,4,_,_=>xi34 | 3,5,_,_=>xi35 | 3,6,_,_=>xi36 | 3,7,_,_=>xi37 | 4,0,_,_=>xi40 | 4,1,_,_=>xi41 | 4,2,_,_=>xi42 | 4,3,_,_=>xi43 | 4,4,_,_=>xi44 | 4,5,_,_=>xi45 | 4,6,_,_=>xi46 | 4,7,_,_=>xi47 | 5,0,_,_=>xi50 | 5,1,_,_=>xi51 | 5,2,_,_=>xi52 | 5,3,_,_=>xi53 | 5,4,_,_=>xi54 | 5,5,_,_=>xi55 | 5,6,_,_=>xi56 | 5,7,_,_=>xi57 | 6,0,_,_=>xi60 | 6,1,_,_=>xi61 | 6,2,_,_=>xi62 | 6,3,_,_=>xi63 | 6,4,_,_=>xi64 | 6,5,_,_=>xi65 | 6,6,_,_=>xi66 | 6,7,_,_=>xi67 | 7,0,_,_=>xi70 | 7,1,_,_=>xi71 | 7,2,_,_=>xi72 | 7,3,_,_=>xi73 | 7,4,_,_=>xi74 | 7,5,_,_=>xi75 | 7,6,_,_=>xi76 | 7,7,_,_=>xi77),(fun n hn=>match n,hn with | 0,_=>xv0 | 1,_=>xv1 | 2,_=>xv2 | 3,_=>xv3 | 4,_=>xv4 | 5,_=>xv5 | 6,_=>xv6 | 7,_=>xv7),⟨_,_,zaY (st:=top 13) l0 c0 k0,W.mg_of X G a0⟩,⟨_,_,zaY (st:=top 14) l1 c1 k1,W.mg_of X G a1⟩,⟨_,_,zaY (st:=top 16) l2 c2 k2,W.mg_of X G a2⟩,⟨_,_,zaY (st:=top 17) l3 c3 k3,W.mg_of X G a3⟩,⟨_,_,zaY (st:=top 18) l4 c4 k4,W.mg_of X G a4⟩,⟨_,_,zaY (st:=top 19) l5 c5 k5,W.mg_of X G a5⟩,⟨_,_,zaY (st:=top 20) l6 c6 k6,W.mg_of X G a6⟩,⟨_,_,zaY (st:=top 15) l7 c7 k7,W.mg_of X G a7⟩,⟨_,_,zaY (st:=top 21) l8 c8 k8,W.mg_of X G a8⟩,⟨_,_,zaY (st:=top 23) l9 c9 k9,W.mg_of X G a9⟩,⟨_,_,zaY (st:=top 24) l10 c10 k10,W.mg_of X G a10⟩,⟨_,_,zaY (st:=top 25) l11 c11 k11,W.mg_of X G a11⟩,⟨_,_,zaY (st:=top 26) l12 c12 k12,W.mg_of X G a12⟩,⟨_,_,zaY (st:=top 27) l13 c13 k13,W.mg_of X G a13⟩,⟨_,_,zaY (st:=top 29) l14 c14 k14,W.mg_of X G a14⟩,⟨_,_,zaY (st:=top 30) l15 c15 k15,W.mg_of X G a15⟩,⟨_,_,zaY (st:=top 31) l16 c16 k16,W.mg_of X G a16⟩,⟨_,_,zaY (st:=top 32) l17 c17 k17,W.mg_of X G a17⟩,⟨_,_,zaY (st:=top 33) l18 c18 k18,W.mg_of X G a18⟩,⟨_,_,zaY (st:=top 34) l19 c19 k19,W.mg_of X G a19⟩,⟨_,_,zaY (st:=top 38) l20 c20 k20,W.mg_of X G a20⟩,⟨_,_,zaY (st:=top 39) l21 c21 k21,W.mg_of X G a21⟩,⟨_,_,zaY (st:=top 36) l22 c22 k22,W.mg_of X G a22⟩,⟨_,_,zaY (st:=top 37) l23 c23 k23,W.mg_of X G a23⟩,⟨_,_,zaY (st:=top 40) l24 c24 k24,W.mg_of X G a24⟩,⟨_,_,zaY (st:=top 41) l25 c25 k25,W.mg_of X G a25⟩,⟨_,_,zaY (st:=top 42) l26 c26 k26,W.mg_of X G a26⟩,⟨_,_,zaY (st:=top 43) l27 c27 k27,W.mg_of X G a27⟩,⟨_,_,zaY (st:=top 44) l28 c28 k28,W.mg_of X G a28⟩,⟨_,_,zaY (st:=top 45) l29 c29 k29,W.mg_of X G a29⟩,⟨_,_,zaY (st:=top 46) l30 c30 k30,W.mg_of X G a30⟩,⟨_,_,zaY (st:=top 47) l31 c31 k31,W.mg_of X G a31⟩,⟨_,_,zaY (st:=top 48) l32 c32 k32,W.mg_of X G a32⟩,W.mg_none_of X G z0,W.mg_none_of X G z1,W.mg_none_of X G z2,W.mg_none_of X G z3,W.mg_none_of X G z4,W.mg_none_of X G z5,W.mg_none_of X G z6,W.mg_none_of X G z7,W.mg_none_of X G z8,W.mg_none_of X G z9,W.mg_none_of X G z10,W.mg_none_of X G z11,W.mg_none_of X G z12,W.mg_none_of X G z13,⟨_,W.mg_of X G cn0⟩,⟨_,W.mg_of X G cn1⟩⟩
 exact ⟨W.fnOf "law" "law" (za5 (top 48)) (zaw (top 48)) (zac (top 48)) .none kV32 dc32 pm32 an32 cd32 ct32,cL,fun s v=>.of_eq rfl,ch,fun base hK _ hb=>ztP T (zaY (st:=top 48) l32 c32 k32) (zew T (zaY (st:=top 47) l31 c31 k31) (W.mg_of X G a31) rfl ch hb hK)⟩
theorem walk{l:W.OpenLaw}{q:Program}{loose:List Str}{XP:(Str→Option Value)→Heap→Prop}{YP:World→Heap→Prop}{d:DefRec}{K:Params→W.Frag}{PT:Addr}(hn:l.most=some 63)(hdf:d.params.defaults=[])
  (hY:∀(w:World)(h:Heap),YP w h→(K w.params).In h) (hYT:∀(w:World)(h:Heap),YP w h→h.get? PT=some (W.tabObj #[])) (hnt:∀ w:World,W.noTabs (K w.params)=true)
  (F:∀(w:World)(mg:Str→Option Value)(fa:Addr)(h:Heap),(K w.params).In h→h.Ns mainGlobals mg→mg d.name=some (.ref fa) →
   ∃(fd:FuncData)(cL:Addr),(∀(s:Shared)(u:Value),BindsTo s fd ⟨[u],[]⟩ [("script",u)])∧W.codeHdIn (K w.params) cL PT=true∧∀ base:Heap,(K w.params).In base→base.Ns mainGlobals mg→base.BuiltinsAt mg PT→zfl l.prog w (K w.params) mg base (CXe l.prog w) 41 fa fd ["script"] (spT (K w.params) PT (zrL 10 zdV zkh))) :
  W.WalkO q loose XP YP l.row.toRowW d [] (fun f vs=>PySem.call f vs) :=
 zpj (n:=63) (k:=41) (x:="script") (CX:=fun w=>CXe l.prog w) (sp:=fun w=>spT (K w.params) PT (zrL 10 zdV zkh)) hn (by decide) hdf ⟨rfl,by decide,by decide⟩ hY hYT hnt F (fun w H a ns hl hP hS=>⟨a,ns,rfl,hS,hP,zoO ns,fun _=>rfl⟩) fun _ _ _ _ _ z=>CXe.none z
end Lw
def PySem.W.Fast.tw3196386800515791193:=0
def PySem.W.Fast.tw3590478613695361896:=0
def PySem.W.Fast.tw10591257103208574465:=0
def PySem.W.Fast.tw5519083740601228119:=0
def PySem.W.Fast.tw7139609389257596483:=0
def PySem.W.Fast.tw12722883304429013085:=0
def PySem.W.Fast.tw16499788012908417091:=0
def PySem.W.Fast.tw12008033677137494675:=0
def PySem.W.Fast.tw503192519199988766:=0
def PySem.W.Fast.tw15794027196228488824:=0
def PySem.W.Fast.tw11178138814219707771:=0
open PySem PySem.W PyProof.Rows
set_option maxRecDepth 100000 in
set_option maxHeartbeats 0 in
theorem PySem.Challenge.cw_standtogether_k60_guests_named_anew_holds : PySem.Challenge.rw_standtogether_k60_guests_named_anew.Holds := by
  w_on; o_law; k_head; (case hw => w_witness2)
  k_fill
  refine Lw.walk (l := PySem.Challenge.rw_standtogether_k60_guests_named_anew) rfl rfl (fun w h Y => PySem.W.km_in_of Y) (fun w h Y => PySem.W.km_tabs_of Y _ List.mem_cons_self) (fun w => by kernel_rfl) ?F
  case F =>
    intro w mg fa h KX G hmg
    refine' Lw.all_mk KX G hmg ?a0 ?l0 ?c0 ?k0 ?a1 ?l1 ?c1 ?k1 ?a2 ?l2 ?c2 ?k2 ?a3 ?l3 ?c3 ?k3 ?a4 ?l4 ?c4 ?k4 ?a5 ?l5 ?c5 ?k5 ?a6 ?l6 ?c6 ?k6 ?a7 ?l7 ?c7 ?k7 ?a8 ?l8 ?c8 ?k8 ?a9 ?l9 ?c9 ?k9 ?a10 ?l10 ?c10 ?k10 ?a11 ?l11 ?c11 ?k11 ?a12 ?l12 ?c12 ?k12 ?a13 ?l13 ?c13 ?k13 ?a14 ?l14 ?c14 ?k14 ?a15 ?l15 ?c15 ?k15 ?a16 ?l16 ?c16 ?k16 ?a17 ?l17 ?c17 ?k17 ?a18 ?l18 ?c18 ?k18 ?a19 ?l19 ?c19 ?k19 ?a20 ?l20 ?c20 ?k20 ?a21 ?l21 ?c21 ?k21 ?a22 ?l22 ?c22 ?k22 ?a23 ?l23 ?c23 ?k23 ?a24 ?l24 ?c24 ?k24 ?a25 ?l25 ?c25 ?k25 ?a26 ?l26 ?c26 ?k26 ?a27 ?l27 ?c27 ?k27 ?a28 ?l28 ?c28 ?k28 ?a29 ?l29 ?c29 ?k29 ?a30 ?l30 ?c30 ?k30 ?a31 ?l31 ?c31 ?k31 ?a32 ?l32 ?c32 ?k32 ?z0 ?z1 ?z2 ?z3 ?z4 ?z5 ?z6 ?z7 ?z8 ?z9 ?z10 ?z11 ?z12 ?z13 ?cn0 ?cn1 ?xn0 ?xn1 ?xn2 ?xn3 ?xn4 ?xn5 ?xn6 ?xn7 ?xn8 ?xe0 ?xg0 ?xh0 ?xk0 ?xb0 ?xe1 ?xg1 ?xh1 ?xk1 ?xb1 ?xe2 ?xg2 ?xh2 ?xk2 ?xb2 ?xe3 ?xg3 ?xh3 ?xk3 ?xb3 ?xe4 ?xg4 ?xh4 ?xk4 ?xb4 ?xe5 ?xg5 ?xh5 ?xk5 ?xb5 ?xe6 ?xg6 ?xh6 ?xk6 ?xb6 ?xe7 ?xg7 ?xh7 ?xk7 ?xb7 ?xe8 ?xg8 ?xh8 ?xk8 ?xb8 ?xs0 ?xv0 ?xi00 ?xi01 ?xi02 ?xi03 ?xi04 ?xi05 ?xi06 ?xi07 ?xs1 ?xv1 ?xi10 ?xi11 ?xi12 ?xi13 ?xi14 ?xi15 ?xi16 ?xi17 ?xs2 ?xv2 ?xi20 ?xi21 ?xi22 ?xi23 ?xi24 ?xi25 ?xi26 ?xi27 ?xs3 ?xv3 ?xi30 ?xi31 ?xi32 ?xi33 ?xi34 ?xi35 ?xi36 ?xi37 ?xs4 ?xv4 ?xi40 ?xi41 ?xi42 ?xi43 ?xi44 ?xi45 ?xi46 ?xi47 ?xs5 ?xv5 ?xi50 ?xi51 ?xi52 ?xi53 ?xi54 ?xi55 ?xi56 ?xi57 ?xs6 ?xv6 ?xi60 ?xi61 ?xi62 ?xi63 ?xi64 ?xi65 ?xi66 ?xi67 ?xs7 ?xv7 ?xi70 ?xi71 ?xi72 ?xi73 ?xi74 ?xi75 ?xi76 ?xi77 ?ch
    (case a0|l0|c0|k0|a1|l1|c1|k1|a2|l2|c2|k2|a3|l3|c3|k3|a4|l4|c4|k4|a5|l5|c5|k5|a6|l6|c6|k6|a7|l7|c7|k7|a8|l8|c8|k8|a9|l9|c9|k9|a10|l10|c10|k10|a11|l11|c11|k11|a12|l12|c12|k12|a13|l13|c13|k13|a14|l14|c14|k14 => k_is)
    (case a15|l15|c15|k15|a16|l16|c16|k16|a17|l17|c17|k17|a18|l18|c18|k18|a19|l19|c19|k19|a20|l20|c20|k20|a21|l21|c21|k21|a22|l22|c22|k22|a23|l23|c23|k23|a24|l24|c24|k24|a25|l25|c25|k25|a26|l26|c26|k26|a27|l27|c27|k27|a28|l28|c28|k28|a29|l29|c29|k29 => k_is)
    (case a30|l30|c30|k30|a31|l31|c31|k31|a32|l32|c32|k32|z0|z1|z2|z3|z4|z5|z6|z7|z8|z9|z10|z11|z12|z13|cn0|cn1|xn0|xn1|xn2|xn3|xn4|xn5|xn6|xn7|xn8 => k_is)
    (case xe0 => kernel_rfl)
    (case xg0|xh0|xk0|xb0 => k_is)
    (case xe1 => kernel_rfl)
    (case xg1|xh1|xk1|xb1 => k_is)
    (case xe2 => kernel_rfl)
    (case xg2|xh2|xk2|xb2 => k_is)
    (case xe3 => kernel_rfl)
    (case xg3|xh3|xk3|xb3 => k_is)
    (case xe4 => kernel_rfl)
    (case xg4|xh4|xk4|xb4 => k_is)
    (case xe5 => kernel_rfl)
    (case xg5|xh5|xk5|xb5 => k_is)
    (case xe6 => kernel_rfl)
    (case xg6|xh6|xk6|xb6 => k_is)
    (case xe7 => kernel_rfl)
    (case xg7|xh7|xk7|xb7 => k_is)
    (case xe8 => kernel_rfl)
    (case xg8|xh8|xk8|xb8|xs0 => k_is)
    (case xv0|xi00|xi01|xi02|xi03|xi04|xi05|xi06|xi07 => kernel_rfl)
    (case xs1 => k_is)
    (case xv1|xi10|xi11|xi12|xi13|xi14|xi15|xi16|xi17 => kernel_rfl)
    (case xs2 => k_is)
    (case xv2|xi20|xi21|xi22|xi23|xi24|xi25|xi26|xi27 => kernel_rfl)
    (case xs3 => k_is)
    (case xv3|xi30|xi31|xi32|xi33|xi34|xi35|xi36|xi37 => kernel_rfl)
    (case xs4 => k_is)
    (case xv4|xi40|xi41|xi42|xi43|xi44|xi45|xi46|xi47 => kernel_rfl)
    (case xs5 => k_is)
    (case xv5|xi50|xi51|xi52|xi53|xi54|xi55|xi56|xi57 => kernel_rfl)
    (case xs6 => k_is)
    (case xv6|xi60|xi61|xi62|xi63|xi64|xi65|xi66|xi67 => kernel_rfl)
    (case xs7 => k_is)
    (case xv7|xi70|xi71|xi72|xi73|xi74|xi75|xi76|xi77|ch => kernel_rfl)
end
